import PyProof.Rows.All
import Wide.All
import OpenK.AllK
import Wide.FinOn
import PyProof.EqAt
import PyProof.EqKinds
import PyProof.TupleCall
import KE.BitLaws
import Open.SpecLaws
import KE.OsHead
import KE.OsGo
import PyFlatLaws
import PySem.Challenge.RW_bagsmade_s01_answers
set_option Elab.async false
set_option linter.all false
set_option maxRecDepth 100000
namespace L2
open PySem PySem.Spec PyProof.Rows
abbrev Key:=Sum Int Str
def keyIs:Key→Value→Bool
 | .inl k,v=>Value.isInt k v
 | .inr x,v=>Value.isStrOf x v
def keyH (w:World):Key→Int
 | .inl k=>hashInt k
 | .inr x=>hashStr w x
theorem ju:∀ {k:Key} {v:Value},keyIs k v=true→(∃ i t,k=Sum.inl i∧v=Value.int i t)∨(∃ x t,k=Sum.inr x∧v=Value.str x t)
 | .inl i,v,h=>by
  obtain ⟨t,e⟩:=Value.isInt_shape (k:=i) (v:=v) h
  exact .inl ⟨i,t,rfl,e⟩
 | .inr x,v,h=>by
  obtain ⟨t,e⟩:=Value.isStrOf_shape (x:=x) (v:=v) h
  exact .inr ⟨x,t,rfl,e⟩
theorem Vd (i:Int) (t:Tok):keyIs (.inl i) (.int i t)=true:=by simp [keyIs,Value.isInt]
theorem Vc (x:Str) (t:Tok):keyIs (.inr x) (.str x t)=true:=by simp [keyIs,Value.isStrOf]
theorem key_ll (a b:Int):decide ((Sum.inl a:Key)=Sum.inl b)=(a == b):=by
 by_cases e:a=b
 ·subst e;simp
 ·have h:¬ (Sum.inl a:Key)=Sum.inl b:=fun q=>e (Sum.inl.inj q)
  rw [decide_eq_false h]
  exact (beq_eq_false_iff_ne.mpr e).symm
theorem key_rr (a b:Str):decide ((Sum.inr a:Key)=Sum.inr b)=decide (a=b):=by
 by_cases e:a=b
 ·subst e;simp
 ·have h:¬ (Sum.inr a:Key)=Sum.inr b:=fun q=>e (Sum.inr.inj q)
  rw [decide_eq_false h,decide_eq_false e]
theorem key_lr (a:Int) (b:Str):decide ((Sum.inl a:Key)=Sum.inr b)=false:=decide_eq_false (fun q=>nomatch q)
theorem key_rl (a:Str) (b:Int):decide ((Sum.inr a:Key)=Sum.inl b)=false:=decide_eq_false (fun q=>nomatch q)
def mixKind (prog:Program) (w:World):PySem.KeyKind prog w Key where
 is:=keyIs
 hash:=keyH w
 inj:=fun v a b ha hb=>by
  rcases ju ha with ⟨i,t,rfl,rfl⟩ | ⟨x,t,rfl,rfl⟩
  ·rcases ju hb with ⟨j,u,rfl,e⟩ | ⟨y,u,rfl,e⟩
   ·injection e with e1 _;rw [e1]
   ·exact nomatch e
  ·rcases ju hb with ⟨j,u,rfl,e⟩ | ⟨y,u,rfl,e⟩
   ·exact nomatch e
   ·injection e with e1 _;rw [e1]
 byValue:=fun k v h=>by
  rcases ju h with ⟨i,t,rfl,rfl⟩ | ⟨x,t,rfl,rfl⟩ <;> rfl
 pyHash:=fun hv h=>by
  rcases ju hv with ⟨i,t,rfl,rfl⟩ | ⟨x,t,rfl,rfl⟩
  ·exact wpAny_pyHash_int h
  ·exact wpAny_pyHash_str h
 eqBool:=fun hu hv h=>by
  rcases ju hu with ⟨i,t,rfl,rfl⟩ | ⟨x,t,rfl,rfl⟩
  ·rcases ju hv with ⟨j,u,rfl,rfl⟩ | ⟨y,u,rfl,rfl⟩
   ·rw [key_ll] at h;exact wpAny_eqBool_int h
   ·rw [key_lr] at h;exact SeqAt.EqAt.int_str i t y u _ _ _ _ h
  ·rcases ju hv with ⟨j,u,rfl,rfl⟩ | ⟨y,u,rfl,rfl⟩
   ·rw [key_rl] at h;exact SeqAt.EqAt.str_int x t j u _ _ _ _ h
   ·rw [key_rr] at h;exact wpAny_eqBool_str h
 «strs»:=fun k x t v h=>by
  rcases ju h with ⟨i,u,rfl,e⟩ | ⟨y,u,rfl,e⟩
  ·exact nomatch e
  ·injection e with e1 _
   subst e1
   cases v <;> rfl
theorem QE (prog:Program) (w:World) (i:Int) (t:Tok):(mixKind prog w).is (.inl i) (.int i t)=true:=Vd i t
theorem QD (prog:Program) (w:World) (x:Str) (t:Tok):(mixKind prog w).is (.inr x) (.str x t)=true:=Vc x t
end L2
namespace L2
open PySem PySem.Spec PyProof.Rows
inductive V where
 | non | bl (b:Bool) | int (i:Int) | str (x:Str) | byt (b:Array UInt8) | flt (b:UInt64) | ref (a:Addr) | ty (n:String)
 deriving DecidableEq
def RelV:V→Value→Prop
 | .non,u=>u=Value.none
 | .bl b,u=>u=Value.bool b
 | .int i,u=>∃ t,u=Value.int i t
 | .str x,u=>∃ t,u=Value.str x t
 | .byt b,u=>∃ t,u=Value.bytes b t
 | .flt b,u=>∃ t,u=Value.float b t
 | .ref a,u=>u=Value.ref a
 | .ty n,u=>u=Value.type n
abbrev Vals:List V→List Value→Prop:=Paired RelV
theorem Vals.length {xs:List V} {us:List Value} (r:Vals xs us):xs.length=us.length:=Paired.length r
theorem Vals.get:∀ {xs:List V} {us:List Value} {i:Nat} {x:V},Vals xs us→xs[i]? = some x→∃ u,us[i]? = some u∧RelV x u
 | _,_,_,_,.nil,e=>by simp at e
 | _,_,0,_,.cons r _,e=>by simp at e;subst e;exact ⟨_,rfl,r⟩
 | _,_,i+1,x,.cons _ t,e=>by
  obtain ⟨u,h1,h2⟩:=Vals.get (i:=i) (x:=x) t (by simpa using e)
  exact ⟨u,by simpa using h1,h2⟩
theorem Vals.set {x:V} {u:Value} (r:RelV x u):∀ {xs:List V} {us:List Value} (i:Nat),Vals xs us→Vals (xs.set i x) (us.set i u)
 | _,_,_,.nil=>.nil
 | _,_,0,.cons _ t=>.cons r t
 | _,_,i+1,.cons q t=>.cons q (Vals.set r i t)
theorem Vals.append:∀ {xs ys:List V} {us ws:List Value},Vals xs us→Vals ys ws→Vals (xs++ys) (us++ws)
 | _,_,_,_,.nil,s=>s
 | _,_,_,_,.cons r t,s=>.cons r (Vals.append t s)
theorem Vals.take:∀ {xs:List V} {us:List Value} (n:Nat),Vals xs us→Vals (xs.take n) (us.take n)
 | _,_,0,_=>.nil
 | _,_,_+1,.nil=>.nil
 | _,_,n+1,.cons r t=>.cons r (Vals.take n t)
theorem Vals.drop:∀ {xs:List V} {us:List Value} (n:Nat),Vals xs us→Vals (xs.drop n) (us.drop n)
 | _,_,0,r=>r
 | _,_,_+1,.nil=>.nil
 | _,_,n+1,.cons _ t=>Vals.drop n t
def RelO:Option V→Option Value→Prop
 | some v,some u=>RelV v u
 | none,none=>True
 | _,_=>False
def KV {κ:Type}:List (κ × V)→List (κ × Value)→Prop:=Paired fun (p:κ × V) (q:κ × Value)=>p.1=q.1∧RelV p.2 q.2
def kV:Key→V
 | .inl i=>.int i
 | .inr x=>.str x
inductive HO where
 | lst (xs:List V)
 | tup (xs:List V)
 | dK (kvs:List (Key × V)) | dT (kvs:List (List Key × V))
 | set (S:Int→Bool) (n:Nat)
 | ins (C dx:Addr) (fs:List (Str × V))
 | own (x:Addr)
 | xd (fs:List (Str × V))
 | met (f x:Addr)
 | rng (lo hi:Int)
 | frz (o:Obj) (u:HO)
 | tbl (ps:Array Value)
 | ext (φ:Heap→Prop)
abbrev Hp:=Addr→Option HO
def upd (H:Hp) (a:Addr) (o:HO):Hp:=fun b=>if b=a then some o else H b
theorem zf {H:Hp} {a:Addr} {o:HO}:upd H a o a=some o:=by unfold upd;rw [if_pos rfl]
theorem zl {H:Hp} {a b:Addr} {o:HO} (h:b≠a):upd H a o b=H b:=by unfold upd;rw [if_neg h]
theorem ne_of {H:Hp} {a b:Addr} {o u:HO} (h:H a=some o) (h':H b=some u) (d:o≠u):a≠b:=by
 intro e;subst e;rw [h] at h';exact d (Option.some.inj h')
theorem zn {H:Hp} {a b:Addr} {o:HO} (h:H a=some o) (h':H b=none):a≠b:=by
 intro e;subst e;rw [h] at h';cases h'
section
variable (P:Program) (w:World)
def ObjOk (H:Hp) (h:Heap) (a:Addr):HO→Prop
 | .lst xs=>xs.length≤sizeLine∧∃ (its:List Value) (n:Nat),Vals xs its∧h.get? a=some { cls:=.type "list",data:=.seq its.toArray n }
 | .tup xs=>xs.length≤sizeLine∧∃ its:List Value,Vals xs its∧IsTup h a its.toArray
 | .dK kvs=>kvs.length≤sizeLine∧(a == sysModules)=false∧∃ vs,KV kvs vs∧h.DictOf (mixKind P w) a vs
 | .dT kvs=>kvs.length≤sizeLine∧(a == sysModules)=false∧∃ xs:List (List Key × Addr × Value),
   Paired (fun (p:List Key × V) (q:List Key × Addr × Value)=>p.1=q.1∧H q.2.1=some (.tup (p.1.map kV))∧RelV p.2 q.2.2) kvs xs ∧
   ∃ o es ep,h.get? a=some o∧o.ExactDict∧o.data = .dict es ep∧es.toList=xs.map (entryOfKey (tupleKind (mixKind P w)))∧(xs.map (·.1)).Nodup
 | .set S n=>h.SetOf (intKind P w) a S n
 | .ins C dx fs=>H dx=some (.own a)∧fs.length≤1000∧dx≠a∧h.get? a=some (PySem.W.instObj C dx) ∧
   ∃ mA,h.Ns1 dx mA∧(∀ f,RelO (fs.lookup f) (mA f))∧PySem.Within mA (fs.map (·.1))
 | .own _=>∃ o,h.get? a=some o
 | .xd fs=>∃ mA,h.Ns1 a mA∧∀ f,RelO (fs.lookup f) (mA f)
 | .rng lo hi=>∃ t u v,h.get? a=some { cls:=.type "range",data:=.fields #[.int lo t,.int hi u,.int 1 v] }
 | .frz o u=>h.get? a=some o∧ObjOk H h a u
 | .tbl ps=>h.get? a=some { cls:=.none,data:=.fields ps }
 | .met f x=>h.get? a=some (PySem.W.methodObj (.ref f) (.ref x))
 | .ext φ=>φ h∧(∃ o,h.get? a=some o)∧∀ h1 h2:Heap,φ h1→(∀ o,h1.get? a=some o→h2.get? a=some o)→φ h2
def HOk (H:Hp) (h:Heap):Prop:=∀ a o,H a=some o→ObjOk P w H h a o
end
section
variable {P:Program} {w:World} {H H':Hp} {h h':Heap} {a:Addr} {o:HO}
theorem ObjOk.lt (x:ObjOk P w H h a o):a<h.objs.size:=by
 cases o with
 | lst xs=>obtain ⟨_,_,_,_,e⟩:=x;exact Heap.lt_size e
 | tup xs=>obtain ⟨_,_,_,p⟩:=x;exact p.lt
 | dK kvs=>obtain ⟨_,_,_,_,o,_,_,e,_⟩:=x;exact Heap.lt_size e
 | dT kvs=>obtain ⟨_,_,_,_,o,_,_,e,_⟩:=x;exact Heap.lt_size e
 | set S n=>obtain ⟨o,_,_,_,e,_⟩:=x;exact Heap.lt_size e
 | ins C dx fs=>obtain ⟨_,_,_,e,_⟩:=x;exact Heap.lt_size e
 | own y=>obtain ⟨_,e⟩:=x;exact Heap.lt_size e
 | xd fs=>obtain ⟨_,⟨_,_,_,e,_⟩,_⟩:=x;exact Heap.lt_size e
 | rng lo hi=>obtain ⟨_,_,_,e⟩:=x;exact Heap.lt_size e
 | frz ob u=>obtain ⟨e,_⟩:=x;exact Heap.lt_size e
 | tbl ps=>exact Heap.lt_size (show h.get? a=some _ from x)
 | met f y=>exact Heap.lt_size (show h.get? a=some _ from x)
 | ext φ=>obtain ⟨_,⟨_,e⟩,_⟩:=x;exact Heap.lt_size e
theorem Paired.mapP {α β:Type} {F G:α→β→Prop}:∀ {l₁:List α} {l₂:List β},Paired F l₁ l₂→(∀ a b,F a b→G a b)→Paired G l₁ l₂
 | _,_,.nil,_=>.nil
 | _,_,.cons r t,f=>.cons (f _ _ r) (Paired.mapP t f)
theorem ObjOk.stay (x:ObjOk P w H h a o) (k:∀ b u,(b=a∨H b=some (.own a))→h.get? b=some u→h'.get? b=some u)
  (ho:∀ b,H b=some (.own a)→H' b=some (.own a)) (ht:∀ b xs,H b=some (.tup xs)→H' b=some (.tup xs)):ObjOk P w H' h' a o:=by
 induction o with
 | lst xs=>obtain ⟨z,its,n,r,e⟩:=x;exact ⟨z,its,n,r,k _ _ (.inl rfl) e⟩
 | tup xs=>obtain ⟨z,its,r,ob,e,c⟩:=x;exact ⟨z,its,r,ob,k _ _ (.inl rfl) e,c⟩
 | dK kvs=>obtain ⟨z,y,vs,r,ob,es,ep,e,c⟩:=x;exact ⟨z,y,vs,r,ob,es,ep,k _ _ (.inl rfl) e,c⟩
 | dT kvs=>
  obtain ⟨z,y,xs,r,ob,es,ep,e,c⟩:=x
  exact ⟨z,y,xs,Paired.mapP r fun p q z=>⟨z.1,ht _ _ z.2.1,z.2.2⟩,ob,es,ep,k _ _ (.inl rfl) e,c⟩
 | set S n=>obtain ⟨ob,es,ep,t,e,c⟩:=x;exact ⟨ob,es,ep,t,k _ _ (.inl rfl) e,c⟩
 | ins C dx fs=>
  obtain ⟨d,z,ne,e,mA,⟨od,es,ep,e2,c⟩,r⟩:=x
  exact ⟨ho _ d,z,ne,k _ _ (.inl rfl) e,mA,⟨od,es,ep,k _ _ (.inr d) e2,c⟩,r⟩
 | own y=>obtain ⟨ob,e⟩:=x;exact ⟨ob,k _ _ (.inl rfl) e⟩
 | xd fs=>obtain ⟨mA,⟨od,es,ep,e,c⟩,r⟩:=x;exact ⟨mA,⟨od,es,ep,k _ _ (.inl rfl) e,c⟩,r⟩
 | rng lo hi=>obtain ⟨t,u,v,e⟩:=x;exact ⟨t,u,v,k _ _ (.inl rfl) e⟩
 | frz ob u ih=>obtain ⟨e,q⟩:=x;exact ⟨k _ _ (.inl rfl) e,ih q⟩
 | tbl ps=>
  have e:h.get? a=some { cls:=.none,data:=.fields ps }:=x
  show h'.get? a=some { cls:=.none,data:=.fields ps }
  exact k a _ (.inl rfl) e
 | met f y=>
  have e:h.get? a=some (PySem.W.methodObj (.ref f) (.ref y)):=x
  show h'.get? a=some (PySem.W.methodObj (.ref f) (.ref y))
  exact k a _ (.inl rfl) e
 | ext φ=>obtain ⟨p,⟨o,e⟩,st⟩:=x;exact ⟨st _ _ p fun o q=>k _ _ (.inl rfl) q,⟨o,k _ _ (.inl rfl) e⟩,st⟩
theorem HOk.lt (x:HOk P w H h) (e:H a=some o):a<h.objs.size:=(x a o e).lt
theorem HOk.fresh (x:HOk P w H h) (e:h.objs.size≤a):H a=none:=by
 cases q:H a with
 | none=>rfl
 | some u=>exact absurd (Nat.lt_of_lt_of_le (x.lt q) e) (Nat.lt_irrefl _)
theorem HOk.kept (x:HOk P w H h) (k:∀ b u,h.get? b=some u→h'.get? b=some u):HOk P w H h':=fun a o e=>
 (x a o e).stay (fun b u _ q=>k b u q) (fun _ q=>q) fun _ _ q=>q
theorem HOk.laid (x:HOk P w H h) (k:∀ b u,h.get? b=some u→h'.get? b=some u) (hp:h.objs.size≤a) (new:ObjOk P w (upd H a o) h' a o):HOk P w (upd H a o) h':=fun b u e=>by
 have hn:=x.fresh hp
 by_cases hb:b=a
 ·subst hb;rw [zf] at e;cases e;exact new
 ·rw [zl hb] at e
  exact (x b u e).stay (fun c v _ q=>k c v q) (fun c q=>by rw [zl (zn q hn)];exact q) fun c xs q=>by rw [zl (zn q hn)];exact q
end
def Rd (H:Hp) (a:Addr) (u:HO):Prop:=H a=some u∨∃ o,H a=some (.frz o u)
theorem Rd.ok {P:Program} {w:World} {H:Hp} {h:Heap} {a:Addr} {u:HO} (r:Rd H a u) (x:HOk P w H h):ObjOk P w H h a u:=by
 rcases r with r | ⟨o,r⟩
 ·exact x a u r
 ·obtain ⟨_,q⟩:=x a _ r
  exact q
def Mut:Option HO→Prop
 | some (.lst _)=>True
 | some (.dK _)=>True
 | some (.dT _)=>True
 | some (.set _ _)=>True
 | some (.ins _ _ _)=>True
 | some (.ext _)=>True
 | _=>False
section
variable {P:Program} {w:World} {H:Hp} {h h':Heap} {x e:Addr} {o':HO}
theorem HOk.write (ok:HOk P w H h) (mu:Mut (H x)) (he:e=x∨H e=some (.own x)) (k:∀ b u,b≠e→h.get? b=some u→h'.get? b=some u) (heo:∃ u,h'.get? e=some u)
  (new:ObjOk P w (upd H x o') h' x o'):HOk P w (upd H x o') h':=fun b u q=>by
 have nown:∀ c y,H c=some (.own y)→c≠x:=fun c y r z=>by subst z;rw [r] at mu;exact mu
 have ntup:∀ c xs,H c=some (.tup xs)→c≠x:=fun c xs r z=>by subst z;rw [r] at mu;exact mu
 by_cases hb:b=x
 ·subst hb;rw [zf] at q;cases q;exact new
 ·rw [zl hb] at q
  by_cases hbe:b=e
  ·have q':H b=some (.own x):=by
    rcases he with z | z
    ·exact absurd (hbe.trans z) hb
    ·rw [hbe];exact z
   rw [q] at q';cases q'
   obtain ⟨v,hv⟩:=heo
   exact ⟨v,by rw [hbe];exact hv⟩
  ·refine (ok b u q).stay (fun c v hc r=>k c v ?_ r) (fun c r=>by rw [zl (nown c b r)];exact r) fun c xs r=>by rw [zl (ntup c xs r)];exact r
   rcases hc with rfl | hc
   ·exact hbe
   ·rintro rfl
    rcases he with z | z
    ·exact nown c b hc z
    ·rw [hc] at z;cases z;exact hb rfl
end
structure Un (fs ex:List Addr) (H H':Hp) (h h':Heap):Prop where
 keep:∀ b o,h.get? b=some o→H b=none→b∉fs→b∉ex→h'.get? b=some o
 slot:∀ b o,h.get? b=some o→H b=none→b∈fs→b∉ex→∃ sl,h'.get? b=some { o with slots:=sl }
 free:∀ b o,h.get? b=some o→H b=none→b∉ex→H' b=none
 there:∀ b o,h.get? b=some o→b∉ex→∃ o',h'.get? b=some o'
 tups:∀ b xs,H b=some (.tup xs)→H' b=some (.tup xs)
 frzs:∀ b o u,H b=some (.frz o u)→H' b=some (.frz o u)
 tbls:∀ b ps,H b=some (.tbl ps)→∃ more,H' b=some (.tbl (ps++more))
section
variable {fs fs' ex ex':List Addr} {H H1 H2:Hp} {h h1 h2 h':Heap} {a x e:Addr} {o:HO}
theorem Un.any (u:Un fs ex H H1 h h1) {b:Addr} {ob:Obj} (q:h.get? b=some ob) (n:H b=none) (hx:b∉ex):∃ sl,h1.get? b=some { ob with slots:=sl }:=by
 by_cases hb:b∈fs
 ·exact u.slot b ob q n hb hx
 ·exact ⟨ob.slots,u.keep b ob q n hb hx⟩
theorem Un.kept (k:∀ b u,h.get? b=some u→h'.get? b=some u):Un fs ex H H h h':=
 ⟨fun b ob q _ _ _=>k b ob q,fun b ob q _ _ _=>⟨ob.slots,k b ob q⟩,fun _ _ _ n _=>n,fun b ob q _=>⟨ob,k b ob q⟩,fun _ _ q=>q,fun _ _ _ q=>q,fun _ ps q=>⟨#[],by rw [q];simp⟩⟩
theorem Un.refl:Un fs ex H H h h:=Un.kept fun _ _ q=>q
theorem Un.laid (k:∀ b u,h.get? b=some u→h'.get? b=some u) (hp:h.objs.size≤a) (hn:H a=none):Un fs ex H (upd H a o) h h' where
 keep:=fun b u q _ _ _=>k b u q
 slot:=fun b u q _ _ _=>⟨u.slots,k b u q⟩
 free:=fun b u q n _=>by rw [zl (Nat.ne_of_lt (Nat.lt_of_lt_of_le (Heap.lt_size q) hp))];exact n
 there:=fun b u q _=>⟨u,k b u q⟩
 tups:=fun b xs q=>by rw [zl (zn q hn)];exact q
 frzs:=fun b u xs q=>by rw [zl (zn q hn)];exact q
 tbls:=fun b ps q=>⟨#[],by rw [zl (zn q hn),q];simp⟩
theorem Un.write (mu:Mut (H x)) (he:e=x∨H e=some (.own x)) (k:∀ b u,b≠e→h.get? b=some u→h'.get? b=some u) (heo:∃ u,h'.get? e=some u):Un fs ex H (upd H x o) h h':=by
 have hx:∀ b,H b=none→b≠x:=fun b n z=>by subst z;rw [n] at mu;exact mu
 have hb:∀ b,H b=none→b≠e:=fun b n z=>by
  subst z
  rcases he with r | r
  ·exact hx b n r
  ·rw [n] at r;cases r
 have hm:∀ b u,H b=some u→¬ Mut (some u)→b≠x:=fun b u q nm z=>by subst z;rw [q] at mu;exact nm mu
 refine ⟨fun b u q n _ _=>k b u (hb b n) q,fun b u q n _ _=>⟨u.slots,k b u (hb b n) q⟩,fun b u q n _=>by rw [zl (hx b n)];exact n,fun b u q _=>?_,
  fun b xs q=>by rw [zl (hm b _ q fun z=>z)];exact q,fun b u xs q=>by rw [zl (hm b _ q fun z=>z)];exact q,fun b ps q=>⟨#[],by rw [zl (hm b _ q fun z=>z),q];simp⟩⟩
 by_cases hbe:b=e
 ·subst hbe;exact heo
 ·exact ⟨u,k b u hbe q⟩
end
def trk (h:Heap) (H:Hp):List Addr:=(List.range h.objs.size).filter fun a=>(H a).isSome
def hidT (h:Heap) (H:Hp):Heap:=PySem.W.hideAll h (trk h H)
theorem Vf (h:Heap) (H:Hp):(hidT h H).objs.size=h.objs.size:=PySem.W.hideAll_size _ _
theorem hidT_get {h:Heap} {H:Hp} {b:Addr} {o:Obj} (e:h.get? b=some o) (n:H b=none):(hidT h H).get? b=some o:=
 PySem.W.hideAll_get _ e fun hm=>by
  have q:(H b).isSome=true:=(List.mem_filter.mp hm).2
  rw [n] at q;simp at q
theorem of_hidT {h:Heap} {H:Hp} {b:Addr} {o:Obj} (e:(hidT h H).get? b=some o):h.get? b=some o∧H b=none:=by
 have e':h.get? b=some o:=PySem.W.of_hideAll (trk h H) e
 refine ⟨e',?_⟩
 cases q:H b with
 | none=>rfl
 | some x=>
  have hm:b∈trk h H:=List.mem_filter.mpr ⟨List.mem_range.mpr (Heap.lt_size e'),by simp [q]⟩
  have z:(hidT h H).get? b=none:=PySem.W.hideAll_none (trk h H) hm
  rw [z] at e;cases e
end L2
namespace L2
open PySem PySem.Spec PyProof.Rows
structure Mod (K:PySem.W.Frag) (mg:Str→Option Value) (base:Heap):Prop where
 kin:K.In base
 glob:base.Ns mainGlobals mg
 blt:∃ mb,base.Ns builtinsNs mb∧∀ x:Str,x≠"__name__"→mb x=bootBuiltins x
 nolimit:base.NoLimit
structure Cx where
 prog:Program
 w:World
 K:PySem.W.Frag
 mg:Str→Option Value
 base:Heap
 A:Around
 N:List Str
 s_0:Shared
 H_0:Hp
 env:Env
 outer:List Env
 stack:List Env
 ex:List Addr
 fn:Str→Bool
 calm:Bool
 pn:List (Addr × Obj)
 xe:Value→Shared→Prop
def frs (l:List Env):List Addr:=l.filterMap (·.frame)
abbrev Cx.fs (X:Cx):List Addr:=frs X.outer
def Vis (sc:Scope) (x:Str):Prop:=sc.names.lookup x=some .local∨sc.names.lookup x=some .cell∨sc.names.lookup x=some .free
def Loc (sc:Scope) (x:Str):Prop:=sc.names.lookup x=some .local∨sc.names.lookup x=some .cell
def Look (env:Env) (h:Heap) (m:Str→Option Value) (x:Str) (u:Value):Prop:=
 (env.kindOf x=some .local∧m x=some u)∨((env.kindOf x=some .cell∨env.kindOf x=some .free)∧∃ c,env.cells.lookup x=some c∧h.IsCell c (some u))
structure Cx.Ok (X:Cx):Prop where
 mod:Mod X.K X.mg X.base
 kind:X.env.scope.kind = .function
 glob:X.env.globals=mainGlobals
 blt:X.env.builtins=builtinsNs
 above:X.s_0.heap.objs.size≤X.env.locals
 inj:∀ x y c,X.env.cells.lookup x=some c→X.env.cells.lookup y=some c→x=y
 has:∀ x,(X.env.kindOf x=some .cell∨X.env.kindOf x=some .free)→∃ c,X.env.cells.lookup x=some c
 cab:∀ x c,X.fn x=true→X.env.cells.lookup x=some c→X.s_0.heap.objs.size≤c
 hd:X.calm=true→X.A.handled=none
 frames:X.A.frames=some X.stack
 stk:X.stack=X.outer∨(X.stack=X.env :: X.outer∧X.env.frame=some X.env.locals)
 exf:∀ b∈X.ex,b≠X.env.locals∧∀ x c,X.env.cells.lookup x=some c→c≠b
 bs:∀ b o,X.base.get? b=some o→X.s_0.heap.get? b=some o∧X.H_0 b=none
 bsz:X.base.objs.size≤X.s_0.heap.objs.size
 noex:∀ b o,X.base.get? b=some o→b∉X.ex
 exfs:∀ b∈X.ex,b∉X.fs
 funs:X.s_0.heap.FunFrames X.base X.outer
 frf:∀ b∈X.fs,X.H_0 b=none
structure Inv (X:Cx) (pins:List (Addr × Obj)) (σ:List (Option V)) (H:Hp) (s:Shared):Prop where
 ok:X.Ok
 os:s.os=X.s_0.os
 bare:AllBare s.gens
 base:Un X.fs X.ex X.H_0 H X.s_0.heap s.heap
 loc:∃ m,s.heap.Ns X.env.locals m∧∀ (i:Nat) (x:Str) (v:V),X.N[i]? = some x→σ[i]? = some (some v)→Vis X.env.scope x→∃ u,RelV v u∧Look X.env s.heap m x u
 cell:∀ x c,X.env.cells.lookup x=some c→∃ v,s.heap.IsCell c v
 free:H X.env.locals=none
 freeC:∀ x c,X.env.cells.lookup x=some c→H c=none
 pin:∀ p∈X.pn++pins,s.heap.get? p.1=some p.2∧H p.1=none∧p.1≠X.env.locals∧p.1∉X.fs∧∀ v,p.2.data≠.cell v
 hok:HOk X.prog X.w H s.heap
 len:σ.length=X.N.length
section
variable {X:Cx} {pins:List (Addr × Obj)} {σ:List (Option V)} {H H':Hp} {s:Shared} {h':Heap}
theorem Cx.Ok.nofr (ok:X.Ok) {b:Addr} {o:Obj} (e:X.base.get? b=some o):b∉X.fs:=fun hb=>by
 have:=(ok.funs.mem hb).1
 rw [e] at this;cases this
theorem Inv.bs (I:Inv X pins σ H s):∀ b o,X.base.get? b=some o→s.heap.get? b=some o∧H b=none:=fun b o e=>
 ⟨I.base.keep b o (I.ok.bs b o e).1 (I.ok.bs b o e).2 (I.ok.nofr e) (I.ok.noex b o e),I.base.free b o (I.ok.bs b o e).1 (I.ok.bs b o e).2 (I.ok.noex b o e)⟩
theorem Inv.bk (I:Inv X pins σ H s):∀ b o,X.base.get? b=some o→s.heap.get? b=some o:=fun b o e=>(I.bs b o e).1
theorem Inv.mod (I:Inv X pins σ H s):Mod X.K X.mg X.base:=I.ok.mod
theorem Inv.kIn (I:Inv X pins σ H s):X.K.In s.heap:=I.ok.mod.kin.keeps I.bk
theorem Inv.lt (I:Inv X pins σ H s):X.env.locals<s.heap.objs.size:=let ⟨_,hn,_⟩:=I.loc;hn.lt
theorem Inv.sz (I:Inv X pins σ H s):X.s_0.heap.objs.size≤s.heap.objs.size:=Nat.le_trans I.ok.above (Nat.le_of_lt I.lt)
theorem Inv.nofs (I:Inv X pins σ H s) {a:Addr} (h:s.heap.objs.size≤a):a∉X.fs:=fun hb=>by
 obtain ⟨_,o,ho,_⟩:=I.ok.funs.mem hb
 exact absurd (Nat.lt_of_lt_of_le (Heap.lt_size ho) (Nat.le_trans I.sz h)) (Nat.lt_irrefl _)
theorem Inv.cne (I:Inv X pins σ H s):∀ x c,X.env.cells.lookup x=some c→c≠X.env.locals:=fun x c e z=>by
 obtain ⟨v,o,ho,hd⟩:=I.cell x c e
 obtain ⟨m,⟨o',es,ep,ho',hd',_⟩,_⟩:=I.loc
 rw [z,ho'] at ho;cases ho;rw [hd'] at hd;cases hd
theorem Inv.funs (I:Inv X pins σ H s):s.heap.FunFrames X.base X.outer:=by
 have all:∀ (l:List Env),(∀ b∈frs l,b∈X.fs)→X.s_0.heap.FunFrames X.base l→s.heap.FunFrames X.base l:=by
  intro l
  induction l with
  | nil=>intro _ _;trivial
  | cons env r ih=>
   intro hs hl
   obtain ⟨hk,⟨L,o,hf,hn,ho,hd⟩,hr⟩:=hl
   have hL:L∈X.fs:=hs L (by unfold frs;rw [List.filterMap_cons,hf];exact List.mem_cons_self)
   obtain ⟨sl,e⟩:=I.base.slot L o ho (I.ok.frf L hL) hL fun z=>I.ok.exfs L z hL
   exact ⟨hk,⟨L,_,hf,hn,e,hd⟩,ih (fun b hb=>hs b (by unfold frs;rw [List.filterMap_cons,hf];exact List.mem_cons_of_mem _ hb)) hr⟩
 exact all X.outer (fun _ hb=>hb) I.ok.funs
theorem Inv.stack (I:Inv X pins σ H s):s.heap.FunFrames X.base X.stack:=by
 rcases I.ok.stk with e | ⟨e,hf⟩
 ·rw [e];exact I.funs
 ·rw [e]
  obtain ⟨m,hn,_⟩:=I.loc
  refine .cons (by rw [I.ok.kind];decide) hf hn ?_ I.funs
  exact Heap.get?_none_of_le (Nat.le_trans I.ok.bsz I.ok.above)
theorem Inv.stkSub (I:Inv X pins σ H s):∀ b∈frs X.stack,b∈X.env.locals :: X.fs:=fun b hb=>by
 rcases I.ok.stk with e | ⟨e,hf⟩
 ·rw [e] at hb;exact List.mem_cons_of_mem _ hb
 ·rw [e] at hb
  unfold frs at hb
  rw [List.filterMap_cons,hf] at hb
  exact hb
theorem Inv.stkFree (I:Inv X pins σ H s):∀ b∈frs X.stack,H b=none:=fun b hb=>by
 rcases List.mem_cons.mp (I.stkSub b hb) with e | hb
 ·rw [e];exact I.free
 ·obtain ⟨_,o,ho,_⟩:=I.ok.funs.mem hb
  exact I.base.free b o ho (I.ok.frf b hb) fun z=>I.ok.exfs b z hb
theorem Inv.step {g':Array GenState} {t':Nat} {d':Drawn} {ch:List Addr} (I:Inv X pins σ H s)
  (hch:∀ b∈ch,(b∈X.ex∨X.s_0.heap.objs.size≤b)∧b≠X.env.locals∧(∀ x c,X.env.cells.lookup x=some c→c≠b)∧∀ p∈X.pn++pins,p.1≠b)
  (keep:∀ b o,b≠X.env.locals→b∉X.fs→b∉ch→s.heap.get? b=some o→H b=none→h'.get? b=some o)
  (slot:∀ b o,b≠X.env.locals→b∈X.fs→b∉ch→s.heap.get? b=some o→H b=none→∃ sl,h'.get? b=some { o with slots:=sl }) (free:∀ b o,b∉ch→s.heap.get? b=some o→H b=none→H' b=none)
  (there:∀ b o,b∉ch→s.heap.get? b=some o→∃ o',h'.get? b=some o')
  (tups:∀ b xs,H b=some (.tup xs)→H' b=some (.tup xs)) (frzs:∀ b o u,H b=some (.frz o u)→H' b=some (.frz o u)) (tbls:∀ b ps,H b=some (.tbl ps)→∃ more,H' b=some (.tbl (ps++more)))
  (ns:∀ m,s.heap.Ns X.env.locals m→h'.Ns X.env.locals m) (hok:HOk X.prog X.w H' h') (hg:AllBare g') :
  Inv X pins σ H' { s with heap:=h',gens:=g',drawn:=d',toks:=t' }:=by
 have neL:∀ b o,X.s_0.heap.get? b=some o→b≠X.env.locals:=fun b o e=>Nat.ne_of_lt (Nat.lt_of_lt_of_le (Heap.lt_size e) I.ok.above)
 have neC:∀ b o,X.s_0.heap.get? b=some o→b∉X.ex→b∉ch:=fun b o e hx hb=>by
  rcases (hch b hb).1 with z | z
  ·exact hx z
  ·exact absurd (Nat.lt_of_lt_of_le (Heap.lt_size e) z) (Nat.lt_irrefl _)
 have cellK:∀ x c,X.env.cells.lookup x=some c→∀ v,s.heap.IsCell c v→h'.IsCell c v:=fun x c e v ⟨o,ho,hd⟩=>by
  have nch:c∉ch:=fun z=>(hch c z).2.2.1 x c e rfl
  by_cases hc:c∈X.fs
  ·obtain ⟨sl,q⟩:=slot c o (I.cne x c e) hc nch ho (I.freeC x c e)
   exact ⟨_,q,hd⟩
  ·exact ⟨o,keep c o (I.cne x c e) hc nch ho (I.freeC x c e),hd⟩
 refine ⟨I.ok,I.os,hg,⟨fun b o e n hb hx=>?_,fun b o e n hb hx=>?_,fun b o e n hx=>?_,fun b o e hx=>?_,fun b xs e=>tups b xs (I.base.tups b xs e),fun b o xs e=>frzs b o xs (I.base.frzs b o xs e),fun b ps e=>?_⟩,?_,fun x c e=>?_,?_,fun x c e=>?_,fun p hp=>?_,hok,I.len⟩
 ·exact keep b o (neL b o e) hb (neC b o e hx) (I.base.keep b o e n hb hx) (I.base.free b o e n hx)
 ·obtain ⟨sl,e1⟩:=I.base.slot b o e n hb hx
  obtain ⟨sl',e2⟩:=slot b _ (neL b o e) hb (neC b o e hx) e1 (I.base.free b o e n hx)
  exact ⟨sl',e2⟩
 ·obtain ⟨o',e1⟩:=I.base.there b o e hx
  exact free b o' (neC b o e hx) e1 (I.base.free b o e n hx)
 ·obtain ⟨o',e1⟩:=I.base.there b o e hx
  exact there b o' (neC b o e hx) e1
 ·obtain ⟨m1,e1⟩:=I.base.tbls b ps e
  obtain ⟨m2,e2⟩:=tbls b _ e1
  exact ⟨m1++m2,by rw [e2,Array.append_assoc]⟩
 ·obtain ⟨m,hn,hl⟩:=I.loc
  refine ⟨m,ns m hn,fun i x v e1 e2 e3=>?_⟩
  obtain ⟨u,r,l⟩:=hl i x v e1 e2 e3
  refine ⟨u,r,?_⟩
  rcases l with l | ⟨k,c,e,z⟩
  ·exact .inl l
  ·exact .inr ⟨k,c,e,cellK x c e _ z⟩
 ·obtain ⟨v,z⟩:=I.cell x c e
  exact ⟨v,cellK x c e v z⟩
 ·obtain ⟨m,⟨o,_,_,ho,_⟩,_⟩:=I.loc
  exact free _ o (fun z=>(hch _ z).2.1 rfl) ho I.free
 ·obtain ⟨v,o,ho,hd⟩:=I.cell x c e
  exact free c o (fun z=>(hch c z).2.2.1 x c e rfl) ho (I.freeC x c e)
 ·obtain ⟨e,n,ne,nf,d⟩:=I.pin p hp
  have nch:p.1∉ch:=fun z=>(hch p.1 z).2.2.2 p hp rfl
  exact ⟨keep p.1 p.2 ne nf nch e n,free p.1 p.2 nch e n,ne,nf,d⟩
theorem Inv.un {t':Nat} (I:Inv X pins σ H s) (u:Un X.fs [] H H' s.heap h') (hok:HOk X.prog X.w H' h'):Inv X pins σ H' { s with heap:=h',toks:=t' }:=by
 obtain ⟨m,⟨o,es,ep,ho,r⟩,_⟩:=id I.loc
 obtain ⟨sl,hL⟩:=u.any ho I.free (by simp)
 exact I.step (g':=s.gens) (d':=s.drawn) (ch:=[]) (fun _ z=>nomatch z) (fun b o _ hb _ e n=>u.keep b o e n hb (by simp)) (fun b o _ hb _ e n=>u.slot b o e n hb (by simp)) (fun b o _ e n=>u.free b o e n (by simp)) (fun b o _ e=>u.there b o e (by simp)) u.tups u.frzs u.tbls (fun m' hm=>by
  obtain ⟨o',es',ep',ho',r'⟩:=hm
  rw [ho] at ho';cases ho'
  exact ⟨_,es',ep',hL,r'⟩) hok I.bare
theorem Inv.call {g':Array GenState} {t':Nat} {d':Drawn} {ch:List Addr} (I:Inv X pins σ H s) (u:Un (frs X.stack) ch H H' s.heap h') (hok:HOk X.prog X.w H' h') (hg:AllBare g')
  (hch:∀ b∈ch,(b∈X.ex∨X.s_0.heap.objs.size≤b)∧b≠X.env.locals∧(∀ x c,X.env.cells.lookup x=some c→c≠b)∧∀ p∈X.pn++pins,p.1≠b) :
  Inv X pins σ H' { s with heap:=h',gens:=g',drawn:=d',toks:=t' }:=by
 obtain ⟨m,⟨o,es,ep,ho,r⟩,_⟩:=id I.loc
 obtain ⟨sl,hL⟩:=u.any ho I.free fun z=>(hch _ z).2.1 rfl
 exact I.step (ch:=ch) hch (fun b o hL hb hc e n=>u.keep b o e n (fun z=>(List.mem_cons.mp (I.stkSub b z)).elim hL hb) hc) (fun b o _ _ hc e n=>u.any e n hc) (fun b o hc e n=>u.free b o e n hc) (fun b o hc e=>u.there b o e hc) u.tups u.frzs u.tbls (fun m' hm=>by
  obtain ⟨o',es',ep',ho',r'⟩:=hm
  rw [ho] at ho';cases ho'
  exact ⟨_,es',ep',hL,r'⟩) hok hg
theorem Inv.turned {t':Nat} {it:Addr} (I:Inv X pins σ H s) (k:∀ b o,b≠it→s.heap.get? b=some o→h'.get? b=some o) (hn:H it=none) (hL:it≠X.env.locals)
  (h1:it∈X.ex∨X.s_0.heap.objs.size≤it) (h2:∀ x c,X.env.cells.lookup x=some c→c≠it) (h3:∀ p∈X.pn++pins,p.1≠it):Inv X pins σ H { s with heap:=h',toks:=t' }:=by
 have nit:∀ b u,H b=some u→b≠it:=fun b u e z=>by rw [z,hn] at e;cases e
 refine I.step (g':=s.gens) (d':=s.drawn) (ch:=[it]) (fun b hb=>?_) (fun b o _ _ hc e _=>k b o (fun z=>hc (by simp [z])) e) (fun b o _ _ hc e _=>⟨o.slots,k b o (fun z=>hc (by simp [z])) e⟩) (fun _ _ _ _ n=>n)
  (fun b o hc e=>⟨o,k b o (fun z=>hc (by simp [z])) e⟩) (fun _ _ e=>e) (fun _ _ _ e=>e) (fun b ps e=>⟨#[],by rw [e];simp⟩) (fun m hm=>?_) (fun b u e=>?_) I.bare
 ·have e:b=it:=by simpa using hb
  subst e
  exact ⟨h1,hL,h2,h3⟩
 ·obtain ⟨o,es,ep,ho,r⟩:=hm
  exact ⟨o,es,ep,k _ o (Ne.symm hL) ho,r⟩
 ·refine (I.hok b u e).stay (fun c v hc q=>k c v ?_ q) (fun _ q=>q) fun _ _ q=>q
  rcases hc with z | z
  ·rw [z];exact nit b u e
  ·exact nit c _ z
theorem Inv.tok (I:Inv X pins σ H s) (t:Nat):Inv X pins σ H { s with toks:=t }:=I.un (h':=s.heap) (t':=t) Un.refl I.hok
theorem Inv.kept {t':Nat} (I:Inv X pins σ H s) (k:∀ b u,s.heap.get? b=some u→h'.get? b=some u):Inv X pins σ H { s with heap:=h',toks:=t' }:=I.un (Un.kept k) (I.hok.kept k)
theorem Inv.laid {a:Addr} {o:HO} {t':Nat} (I:Inv X pins σ H s) (k:∀ b u,s.heap.get? b=some u→h'.get? b=some u) (hp:s.heap.objs.size≤a) (new:ObjOk X.prog X.w (upd H a o) h' a o) :
  Inv X pins σ (upd H a o) { s with heap:=h',toks:=t' }:=I.un (Un.laid k hp (I.hok.fresh hp)) (I.hok.laid k hp new)
theorem Inv.write {x e:Addr} {o:HO} {t':Nat} (I:Inv X pins σ H s) (mu:Mut (H x)) (he:e=x∨H e=some (.own x)) (k:∀ b u,b≠e→s.heap.get? b=some u→h'.get? b=some u) (heo:∃ u,h'.get? e=some u)
  (new:ObjOk X.prog X.w (upd H x o) h' x o):Inv X pins σ (upd H x o) { s with heap:=h',toks:=t' }:=I.un (Un.write mu he k heo) (I.hok.write mu he k heo new)
theorem Inv.weak {σ':List (Option V)} (I:Inv X pins σ H s) (hl:σ'.length=σ.length) (w:∀ (i:Nat) v,σ'[i]? = some (some v)→σ[i]? = some (some v)):Inv X pins σ' H s:=
 ⟨I.ok,I.os,I.bare,I.base,let ⟨m,hn,hl'⟩:=I.loc;⟨m,hn,fun i x v e1 e2 e3=>hl' i x v e1 (w i v e2) e3⟩,I.cell,I.free,I.freeC,I.pin,I.hok,hl.trans I.len⟩
theorem Inv.pins_of {pins':List (Addr × Obj)} (I:Inv X pins σ H s) (h:∀ p∈pins',s.heap.get? p.1=some p.2∧H p.1=none∧p.1≠X.env.locals∧p.1∉X.fs∧∀ v,p.2.data≠.cell v):Inv X pins' σ H s:=
 ⟨I.ok,I.os,I.bare,I.base,I.loc,I.cell,I.free,I.freeC,fun p hp=>(List.mem_append.mp hp).elim (fun z=>I.pin p (List.mem_append_left _ z)) (h p),I.hok,I.len⟩
theorem xq {N:List Str} (hN:N.Nodup) {i j:Nat} {x:Str} (a:N[i]? = some x) (b:N[j]? = some x):i=j:=by
 obtain ⟨h1,e1⟩:=List.getElem?_eq_some_iff.mp a
 obtain ⟨h2,e2⟩:=List.getElem?_eq_some_iff.mp b
 exact (List.getElem_inj hN).mp (e1.trans e2.symm)
theorem Zl {M:Model} {A:Around} {E:Value→Shared→Prop} {i:Nat} {x:Str} {v:V} {u:Value} {Q:Unit→Shared→Prop} (I:Inv X pins σ H s) (hN:X.N.Nodup) (hi:X.N[i]? = some x) (hx:Loc X.env.scope x) (r:RelV v u)
  (h:∀ s',Inv X pins (σ.set i (some v)) H s'→(∃ a,Heap.SameBut a s.heap s'.heap∧(a=X.env.locals∨X.env.cells.lookup x=some a))→Q () s') (hf:X.fn x=true∨X.env.scope.names.lookup x=some .local:=by first | exact .inl rfl | exact .inr rfl | assumption):wpAny M A (storeName X.env x u) Q E s:=by
 obtain ⟨m,hn,hl⟩:=id I.loc
 have hcls:(X.env.scope.kind == .class||(X.env.scope.kind == .module&&X.env.locals != X.env.globals))=false:=by rw [I.ok.kind];rfl
 have hiσ:i<σ.length:=by rw [I.len];exact (List.getElem?_eq_some_iff.mp hi).1
 have cne:=I.cne
 have tracked:∀ {a:Addr} {h':Heap},(∃ o,s.heap.get? a=some o∧H a=none)→Heap.SameBut a s.heap h'→HOk X.prog X.w H h':=fun {a h'} ha hs b ob e=>by
  obtain ⟨_,_,hfree⟩:=ha
  refine (I.hok b ob e).stay (fun c w' hc q=>(hs.2 c ?_).trans q) (fun _ q=>q) fun _ _ q=>q
  rintro rfl
  rcases hc with rfl | hc
  ·rw [hfree] at e;cases e
  ·rw [hfree] at hc;cases hc
 rcases hx with hk | hk
 ·refine wpAny_storeName_local hk hn (fun h' hn' hs=>?_) hcls
  obtain ⟨oL,_,_,hoL,_⟩:=id hn
  refine h _ ⟨I.ok,I.os,I.bare,⟨fun b o e n hb hx=>?_,fun b o e n hb hx=>?_,I.base.free,fun b o e hx=>?_,I.base.tups,I.base.frzs,I.base.tbls⟩,⟨_,hn',fun j y v' e1 e2 e3=>?_⟩,fun y c e=>?_,I.free,I.freeC,fun p hp=>?_,tracked ⟨oL,hoL,I.free⟩ hs,by simpa using I.len⟩ ⟨_,hs,.inl rfl⟩
  ·exact (hs.2 b (Nat.ne_of_lt (Nat.lt_of_lt_of_le (Heap.lt_size e) I.ok.above))).trans (I.base.keep b o e n hb hx)
  ·obtain ⟨sl,e1⟩:=I.base.slot b o e n hb hx
   exact ⟨sl,(hs.2 b (Nat.ne_of_lt (Nat.lt_of_lt_of_le (Heap.lt_size e) I.ok.above))).trans e1⟩
  ·obtain ⟨o',e1⟩:=I.base.there b o e hx
   exact ⟨o',(hs.2 b (Nat.ne_of_lt (Nat.lt_of_lt_of_le (Heap.lt_size e) I.ok.above))).trans e1⟩
  ·by_cases hj:j=i
   ·subst hj
    rw [hi] at e1;cases e1
    rw [List.getElem?_set_self hiσ] at e2
    cases e2
    exact ⟨u,r,.inl ⟨hk,by simp⟩⟩
   ·rw [List.getElem?_set_ne (Ne.symm hj)] at e2
    obtain ⟨u',r',q⟩:=hl j y v' e1 e2 e3
    refine ⟨u',r',?_⟩
    rcases q with ⟨k,e⟩ | ⟨k,c,e,z⟩
    ·refine .inl ⟨k,?_⟩
     have:y≠x:=fun e=>hj (xq hN e1 (e ▸ hi))
     simp [this,e]
    ·exact .inr ⟨k,c,e,z.sameBut hs (cne y c e)⟩
  ·obtain ⟨w',z⟩:=I.cell y c e
   exact ⟨w',z.sameBut hs (cne y c e)⟩
  ·obtain ⟨e,n,ne,nf,d⟩:=I.pin p hp
   exact ⟨(hs.2 p.1 ne).trans e,n,ne,nf,d⟩
 ·have hfn:X.fn x=true:=by
   rcases hf with z | z
   ·exact z
   ·rw [z] at hk;cases hk
  obtain ⟨c,hc⟩:=I.ok.has x (.inl hk)
  obtain ⟨w',z⟩:=I.cell x c hc
  refine wpAny_storeName_cell I.ok.kind hk hc z (fun h' hc' hs=>?_)
  obtain ⟨oc,hoc,hocd⟩:=id z
  refine h { s with heap:=h' } ⟨I.ok,I.os,I.bare,⟨fun b o e n hb hx=>?_,fun b o e n hb hx=>?_,I.base.free,fun b o e hx=>?_,I.base.tups,I.base.frzs,I.base.tbls⟩,⟨m,hn.sameBut hs (Ne.symm (cne x c hc)),fun j y v' e1 e2 e3=>?_⟩,fun y c' e=>?_,I.free,I.freeC,fun p hp=>?_,tracked ⟨oc,hoc,I.freeC x c hc⟩ hs,by simpa using I.len⟩ ⟨c,hs,.inr hc⟩
  ·exact (hs.2 b (Nat.ne_of_lt (Nat.lt_of_lt_of_le (Heap.lt_size e) (I.ok.cab x c hfn hc)))).trans (I.base.keep b o e n hb hx)
  ·obtain ⟨sl,e1⟩:=I.base.slot b o e n hb hx
   exact ⟨sl,(hs.2 b (Nat.ne_of_lt (Nat.lt_of_lt_of_le (Heap.lt_size e) (I.ok.cab x c hfn hc)))).trans e1⟩
  ·obtain ⟨o',e1⟩:=I.base.there b o e hx
   exact ⟨o',(hs.2 b (Nat.ne_of_lt (Nat.lt_of_lt_of_le (Heap.lt_size e) (I.ok.cab x c hfn hc)))).trans e1⟩
  ·by_cases hj:j=i
   ·subst hj
    rw [hi] at e1;cases e1
    rw [List.getElem?_set_self hiσ] at e2
    cases e2
    exact ⟨u,r,.inr ⟨.inl hk,c,hc,hc'⟩⟩
   ·rw [List.getElem?_set_ne (Ne.symm hj)] at e2
    obtain ⟨u',r',q⟩:=hl j y v' e1 e2 e3
    refine ⟨u',r',?_⟩
    rcases q with q | ⟨k,c',e,z'⟩
    ·exact .inl q
    ·refine .inr ⟨k,c',e,z'.sameBut hs ?_⟩
     rintro rfl
     exact hj (xq hN e1 (I.ok.inj _ _ _ e hc ▸ hi))
  ·by_cases hcc:c' = c
   ·subst hcc;exact ⟨_,hc'⟩
   ·obtain ⟨w2,z2⟩:=I.cell y c' e
    exact ⟨w2,z2.sameBut hs hcc⟩
  ·obtain ⟨e,n,ne,nf,d⟩:=I.pin p hp
   refine ⟨(hs.2 p.1 ?_).trans e,n,ne,nf,d⟩
   intro q
   rw [q,hoc] at e
   have q':oc=p.2:=Option.some.inj e
   exact d w' (by rw [← q'];exact hocd)
theorem JT {M:Model} {A:Around} {E:Value→Shared→Prop} {i:Nat} {x:Str} {v:V} {u:Value} {Q:Unit→Shared→Prop} (I:Inv X pins σ H s) (hN:X.N.Nodup) (hi:X.N[i]? = some x) (hx:Loc X.env.scope x) (r:RelV v u)
  (h:∀ s',Inv X pins (σ.set i (some v)) H s'→Q () s') (hf:X.fn x=true∨X.env.scope.names.lookup x=some .local:=by first | exact .inl rfl | exact .inr rfl | assumption):wpAny M A (storeName X.env x u) Q E s:=
 Zl I hN hi hx r (fun s' I' _=>h s' I') hf
theorem Inv.call' {s':Shared} {ch:List Addr} (I:Inv X pins σ H s) (ho:s'.os=s.os) (u:Un (frs X.stack) ch H H' s.heap s'.heap) (hok:HOk X.prog X.w H' s'.heap) (hg:AllBare s'.gens)
  (hch:∀ b∈ch,(b∈X.ex∨X.s_0.heap.objs.size≤b)∧b≠X.env.locals∧(∀ x c,X.env.cells.lookup x=some c→c≠b)∧∀ p∈X.pn++pins,p.1≠b):Inv X pins σ H' s':=by
 obtain ⟨h',g',d',t',o'⟩:=s'
 have e:o' = s.os:=ho
 subst e
 exact I.call (g':=g') (t':=t') (d':=d') u hok hg hch
end
abbrev XK:=Value→Option Addr→Hp→Prop
abbrev St:=List (Option V)
abbrev VK:=V→Hp→Prop
abbrev TE:=St→Hp→VK→Prop
abbrev TT:=St→Hp→(Bool→Hp→Prop)→Prop
abbrev TA:=St→Hp→(List V→Hp→Prop)→Prop
structure Ends where
 nx:St→Hp→Prop
 rt:VK
 bk:St→Hp→Prop:=fun _ _=>False
 ct:St→Hp→Prop:=fun _ _=>False
abbrev TS:=Ends→St→Hp→Prop
def EP (X:Cx) (pins:List (Addr × Obj)) (σ:St) (Q:VK) (u:Value) (s':Shared):Prop:=∃ v H',Inv X pins σ H' s'∧RelV v u∧Q v H'
def TP (X:Cx) (pins:List (Addr × Obj)) (σ:St) (Q:Bool→Hp→Prop) (b:Bool) (s':Shared):Prop:=∃ H',Inv X pins σ H' s'∧Q b H'
def AP (X:Cx) (pins:List (Addr × Obj)) (σ:St) (Q:List V→Hp→Prop) (us:List Value) (s':Shared):Prop:=∃ vs H',Inv X pins σ H' s'∧Vals vs us∧Q vs H'
def SP (X:Cx) (pins:List (Addr × Obj)) (D:Ends) (f:Flow) (s':Shared):Prop:=
 match f with
 | .next=>∃ σ' H',Inv X pins σ' H' s'∧D.nx σ' H'
 | .brk=>∃ σ' H',Inv X pins σ' H' s'∧D.bk σ' H'
 | .cont=>∃ σ' H',Inv X pins σ' H' s'∧D.ct σ' H'
 | .ret u=>∃ v σ' H',Inv X pins σ' H' s'∧RelV v u∧D.rt v H'
def PE (X:Cx) (e:Expr) (t:TE):Prop:=
 ∀ (pins:List (Addr × Obj)) (s:Shared) (σ:St) (H:Hp) (Q:VK),Inv X pins σ H s→t σ H Q→wpAny (model X.prog X.w) X.A (eval e X.env) (EP X pins σ Q) X.xe s
def PT (X:Cx) (e:Expr) (t:TT):Prop:=
 ∀ (pins:List (Addr × Obj)) (s:Shared) (σ:St) (H:Hp) (Q:Bool→Hp→Prop),Inv X pins σ H s→t σ H Q→wpAny (model X.prog X.w) X.A (isTrue e X.env (eval e X.env)) (TP X pins σ Q) X.xe s
def PW (X:Cx) (e:Expr) (t:TT):Prop:=
 ∀ (whole:Sem Value) (pins:List (Addr × Obj)) (s:Shared) (σ:St) (H:Hp) (Q:Bool→Hp→Prop),Inv X pins σ H s→t σ H Q→wpAny (model X.prog X.w) X.A (isTrue e X.env whole) (TP X pins σ Q) X.xe s
theorem PW.pt {X:Cx} {e:Expr} {t:TT} (h:PW X e t):PT X e t:=h _
def PA (X:Cx) (es:List Expr) (t:TA):Prop:=
 ∀ (pos:Pos) (pins:List (Addr × Obj)) (s:Shared) (σ:St) (H:Hp) (Q:List V→Hp→Prop),Inv X pins σ H s→t σ H Q→wpAny (model X.prog X.w) X.A (spliced (backTo pos (starEach es X.env))) (AP X pins σ Q) X.xe s
def PS (X:Cx) (st:Stmt) (t:TS):Prop:=
 ∀ (pins:List (Addr × Obj)) (s:Shared) (σ:St) (H:Hp) (D:Ends),Inv X pins σ H s→t D σ H→wpAny (model X.prog X.w) X.A (exec st X.env) (SP X pins D) X.xe s
def PSs (X:Cx) (st:List Stmt) (t:TS):Prop:=
 ∀ (pins:List (Addr × Obj)) (s:Shared) (σ:St) (H:Hp) (D:Ends),Inv X pins σ H s→t D σ H→wpAny (model X.prog X.w) X.A (execs st X.env) (SP X pins D) X.xe s
theorem thn {α:Type} {t:Sem α} {Q Q':α→Shared→Prop} {M:Model} {A:Around} {E:Value→Shared→Prop} {s:Shared} (h:wpAny M A t Q E s) (hQ:∀ a s,Q a s→Q' a s):wpAny M A t Q' E s:=wpAny_mono h hQ fun _ _ x=>x
end L2
namespace L2
open PySem PySem.Spec PyProof.Rows
section
variable {X:Cx}
def tVar (i:Nat):TE:=fun σ H Q=>∃ v,σ[i]? = some (some v)∧Q v H
def tC (v:V):TE:=fun _ H Q=>Q v H
theorem pe_var {i:Nat} {x:Str} {pos:Pos} (hN:X.N[i]? = some x) (hv:Vis X.env.scope x) (hd:(x == ("__debug__":Str))=false:=by decide) (hcd:(x == ("__classdict__":Str))=false:=by decide):PE X (.Name x pos) (tVar i):=by
 intro pins s σ H Q I h
 obtain ⟨v,e,h⟩:=h
 obtain ⟨m,hn,hl⟩:=I.loc
 obtain ⟨u,r,l⟩:=hl i x v hN e hv
 have fin:EP X pins σ Q u s:=⟨v,H,I,r,h⟩
 rcases l with ⟨hk,hm⟩ | ⟨hk,c,hc,hcell⟩
 ·exact wpAny_Name (wpAny_loadName_local I.ok.kind hk hn hm fin) hd
 ·rcases hk with hk | hk
  ·exact wpAny_Name (wpAny_loadName_cell I.ok.kind hk hc hcell fin) hd
  ·exact wpAny_Name (wpAny_loadName_free I.ok.kind hk hc hcell fin hcd) hd
theorem zj {i j pos}:PE X (.Constant (.int i) j pos) (tC (.int i)):=fun _ _ _ H _ I h=>wpAny_Constant_int ⟨.int i,H,I.tok _,⟨_,rfl⟩,h⟩
theorem qU {b j pos}:PE X (.Constant (.bool b) j pos) (tC (.bl b)):=fun _ _ _ H _ I h=>Constant_bool ⟨.bl b,H,I,rfl,h⟩
def Gl (X:Cx) (x:Str):Prop:=X.env.kindOf x=some .globalImplicit
theorem uz {E:Value→Shared→Prop} {pins:List (Addr × Obj)} {s:Shared} {σ:St} {H:Hp} {x:Str} {u:Value} {pos:Pos} {Q:Value→Shared→Prop} (I:Inv X pins σ H s) (hg:Gl X x) (hm:X.mg x=some u) (h:Q u s)
  (hd:(x == ("__debug__":Str))=false:=by decide):wpAny (model X.prog X.w) X.A (eval (.Name x pos) X.env) Q E s:=
 Calls.Name_function_global I.ok.kind hg (Calls.loadGlobal_global (by rw [I.ok.glob];exact I.mod.glob.keeps I.bk) hm h) hd
theorem ww {E:Value→Shared→Prop} {pins:List (Addr × Obj)} {s:Shared} {σ:St} {H:Hp} {x:Str} {u:Value} {pos:Pos} {Q:Value→Shared→Prop} (I:Inv X pins σ H s) (hg:Gl X x) (hm:X.mg x=none) (hv:bootBuiltins x=some u) (h:Q u s)
  (hn:x≠"__name__":=by decide) (hd:(x == ("__debug__":Str))=false:=by decide):wpAny (model X.prog X.w) X.A (eval (.Name x pos) X.env) Q E s:=by
 obtain ⟨mb,h1,h2⟩:=I.mod.blt
 exact Calls.Name_function_global I.ok.kind hg (Calls.loadGlobal_builtin (by rw [I.ok.glob];exact I.mod.glob.keeps I.bk) hm (by rw [I.ok.blt];exact h1.keeps I.bk) ((h2 x hn).trans hv) h) hd
theorem zA {x:Str} {v:V} {u:Value} {pos:Pos} (hg:Gl X x) (hm:X.mg x=some u) (r:RelV v u) (hd:(x == ("__debug__":Str))=false:=by decide):PE X (.Name x pos) (tC v):=
 fun _ _ _ H _ I h=>uz I hg hm ⟨v,H,I,r,h⟩ hd
variable {a b:Expr} {ta tb:TE} {pos:Pos}
def PC (X:Cx) (op:CmpOp) (a b:Expr) (t:TE):Prop:=
 ∀ (pins:List (Addr × Obj)) (s:Shared) (σ:St) (H:Hp) (Q:VK),Inv X pins σ H s→t σ H Q →
  wpAny (model X.prog X.w) X.A (eval a X.env) (fun v s₁=>wpAny (model X.prog X.w) X.A (eval b X.env) (fun u s₂=>wpAny (model X.prog X.w) X.A (compareOp op v u) (EP X pins σ Q) X.xe s₂) X.xe s₁) X.xe s
def tB (t:TE):TT:=fun σ H Q=>t σ H fun x H1=>∃ c,x = .bl c∧Q c H1
theorem pt_cmp {op:CmpOp} {t:TE} (h:PC X op a b t) (h1:behindInMarks op b=false:=by first | exact nobehind _ (by decide) (by decide) | rfl):PT X (.Compare a [op] [b] pos) (tB t):=by
 intro pins s σ H Q I hw
 refine wpAny_isTrue_Compare1 (thn (h pins s σ H _ I hw) fun v s1 h1=>thn h1 fun u s2 h2=>thn h2 fun c s3 ⟨x,H1,I1,r1,q1⟩=>?_) h1
 obtain ⟨d,rfl,q⟩:=q1
 cases r1
 exact wpAny_truthy_bool ⟨H1,I1,q⟩
theorem zN {e:Expr} {t:TE} (h:PE X e t) (he:∀ whole,isTrue e X.env whole=(do let v ← whole;standAt e.pos;holding [v] (truthy v)):=by intro _;rfl):PT X e (tB t):=by
 intro pins s σ H Q I hw
 refine isTrue_plain (thn (h pins s σ H _ I hw) fun v s1 ⟨x,H1,I1,r1,q1⟩=>?_) (he _)
 obtain ⟨d,rfl,q⟩:=q1
 cases r1
 exact wpAny_truthy_bool ⟨H1,I1,q⟩
variable {tA tB':TT} {rest:List Expr}
def tAnd (t u:TT):TT:=fun σ H Q=>t σ H fun c H1=>if c=true then u σ H1 Q else Q false H1
def tOr (t u:TT):TT:=fun σ H Q=>t σ H fun c H1=>if c=true then Q true H1 else u σ H1 Q
def tNot (t:TT):TT:=fun σ H Q=>t σ H fun c H1=>Q (!c) H1
theorem Jn (ha:PT X a tA):PW X (.BoolOp .And [a] pos) tA:=by
 intro wh pins s σ H Q I h
 refine isTrue_and (thn (ha pins s σ H Q I h) fun c s1 e=>?_)
 cases c with
 | true=>exact isTrue_and_nil e
 | false=>exact e
theorem qS (ha:PT X a tA):PW X (.BoolOp .Or [a] pos) tA:=by
 intro wh pins s σ H Q I h
 refine isTrue_or (thn (ha pins s σ H Q I h) fun c s1 e=>?_)
 cases c with
 | false=>exact isTrue_or_nil e
 | true=>exact e
theorem WA (ha:PT X a tA) (hb:PW X (.BoolOp .And (b :: rest) pos) tB'):PW X (.BoolOp .And (a :: b :: rest) pos) (tAnd tA tB'):=by
 intro wh pins s σ H Q I h
 refine isTrue_and (thn (ha pins s σ H _ I h) fun c s1 ⟨H1,I1,q1⟩=>?_)
 cases c with
 | true=>exact hb wh pins s1 σ H1 Q I1 q1
 | false=>exact ⟨H1,I1,q1⟩
theorem q5 (ha:PT X a tA) (hb:PW X (.BoolOp .Or (b :: rest) pos) tB'):PW X (.BoolOp .Or (a :: b :: rest) pos) (tOr tA tB'):=by
 intro wh pins s σ H Q I h
 refine isTrue_or (thn (ha pins s σ H _ I h) fun c s1 ⟨H1,I1,q1⟩=>?_)
 cases c with
 | true=>exact ⟨H1,I1,q1⟩
 | false=>exact hb wh pins s1 σ H1 Q I1 q1
theorem yJ (ha:PT X a tA):PT X (.UnaryOp .Not a pos) (tNot tA):=by
 intro pins s σ H Q I h
 exact isTrue_not (ha pins s σ H (fun c H1=>Q (!c) H1) I h)
def tIf (t:TT) (ta tb:TE):TE:=fun σ H Q=>t σ H fun c H1=>if c=true then ta σ H1 Q else tb σ H1 Q
theorem pe_ifExp {c:Expr} (hc:PT X c tA) (ha:PE X a ta) (hb:PE X b tb):PE X (.IfExp c a b pos) (tIf tA ta tb):=by
 intro pins s σ H Q I h
 refine wpAny_IfExp (thn (hc pins s σ H _ I h) fun d s1 ⟨H1,I1,q1⟩=>?_)
 cases d with
 | true=>exact ha pins s1 σ H1 Q I1 q1
 | false=>exact hb pins s1 σ H1 Q I1 q1
end
end L2
namespace L2
open PySem PySem.Spec PyProof.Rows
def SqL (K:PySem.W.Frag) (H:Hp) (a:Addr) (xs:List V):Prop:=
 Rd H a (.lst xs) ∨
  ∃ (o:Obj) (its:Array Value) (n:Nat),K.lookup a=some o∧o.cls = .type "list"∧o.dict=none∧o.data = .seq its n∧its.size≤sizeLine∧Vals xs its.toList
def SqT (K:PySem.W.Frag) (H:Hp) (a:Addr) (xs:List V):Prop:=
 Rd H a (.tup xs) ∨
  ∃ (o:Obj) (its:Array Value) (n:Nat),K.lookup a=some o∧o.cls = .type "tuple"∧o.data = .seq its n∧its.size≤sizeLine∧Vals xs its.toList
def absV:Value→Option V
 | .none=>some .non
 | .bool b=>some (.bl b)
 | .int i _=>some (.int i)
 | .str x _=>some (.str x)
 | .bytes b _=>some (.byt b)
 | .float b _=>some (.flt b)
 | .ref a=>some (.ref a)
 | .type n=>some (.ty n)
 | _=>none
theorem RelV.abs {x:V} {u:Value} (r:RelV x u):absV u=some x:=by
 cases x with
 | non=>cases r;rfl
 | bl _=>cases r;rfl
 | int _=>obtain ⟨t,rfl⟩:=r;rfl
 | str _=>obtain ⟨t,rfl⟩:=r;rfl
 | byt _=>obtain ⟨t,rfl⟩:=r;rfl
 | flt _=>obtain ⟨t,rfl⟩:=r;rfl
 | ref _=>cases r;rfl
 | ty _=>cases r;rfl
theorem RelV.inj {x y:V} {u:Value} (r:RelV x u) (q:RelV y u):x=y:=Option.some.inj (r.abs.symm.trans q.abs)
theorem Vals.inj:∀ {xs ys:List V} {us:List Value},Vals xs us→Vals ys us→xs=ys
 | _,_,_,.nil,.nil=>rfl
 | _,_,_,.cons r t,.cons r' t'=>by rw [r.inj r',Vals.inj t t']
section
variable {X:Cx} {pins:List (Addr × Obj)} {σ:St} {H:Hp} {s:Shared} {a:Addr} {xs ys:List V}
theorem SqL.of {K:PySem.W.Frag} (h:H a=some (.lst xs)):SqL K H a xs:=.inl (.inl h)
theorem SqT.of {K:PySem.W.Frag} (h:H a=some (.tup xs)):SqT K H a xs:=.inl (.inl h)
theorem Inv.list (I:Inv X pins σ H s) (h:SqL X.K H a xs):∃ its:List Value,Vals xs its∧PlainL s.heap a its.toArray∧xs.length≤sizeLine:=by
 rcases h with h | ⟨o,its,n,hk,hc,hd,hs,hz,r⟩
 ·obtain ⟨z,its,n,r,e⟩:=h.ok I.hok
  exact ⟨its,r,⟨_,n,e,rfl,rfl,rfl⟩,z⟩
 ·refine ⟨its.toList,r,⟨o,n,I.kIn a o hk,hc,hd,by simpa using hs⟩,?_⟩
  have e:=r.length
  simp only [Array.length_toList] at e
  omega
theorem Inv.tuple (I:Inv X pins σ H s) (h:SqT X.K H a xs):∃ its:List Value,Vals xs its∧IsTup s.heap a its.toArray∧xs.length≤sizeLine:=by
 rcases h with h | ⟨o,its,n,hk,hc,hs,hz,r⟩
 ·obtain ⟨z,its,r,p⟩:=h.ok I.hok
  exact ⟨its,r,p,z⟩
 ·refine ⟨its.toList,r,⟨o,I.kIn a o hk,hc,n,by simpa using hs⟩,?_⟩
  have e:=r.length
  simp only [Array.length_toList] at e
  omega
theorem Inv.list_inj (I:Inv X pins σ H s) (h:SqL X.K H a xs) (h':SqL X.K H a ys):xs=ys:=by
 obtain ⟨its,r,⟨o,n,e,_,_,d⟩,_⟩:=I.list h
 obtain ⟨its',r',⟨o',n',e',_,_,d'⟩,_⟩:=I.list h'
 rw [e] at e';cases e'
 rw [d] at d'
 injection d' with d1 _
 have:its=its':=by simpa using congrArg Array.toList d1
 subst this
 exact r.inj r'
end
abbrev Cx.wish (X:Cx) (E:Value→Shared→Prop):Cx:={ X with xe:=E }
abbrev Cx.nox (X:Cx):Cx:=X.wish fun _ _=>False
theorem Cx.Ok.wish {X:Cx} (ok:X.Ok) (E:Value→Shared→Prop):(X.wish E).Ok:=
 ⟨ok.mod,ok.kind,ok.glob,ok.blt,ok.above,ok.inj,ok.has,ok.cab,ok.hd,ok.frames,ok.stk,ok.exf,ok.bs,ok.bsz,ok.noex,ok.exfs,ok.funs,ok.frf⟩
theorem Cx.Ok.unwish {X:Cx} {E:Value→Shared→Prop} (ok:(X.wish E).Ok):X.Ok:=
 ⟨ok.mod,ok.kind,ok.glob,ok.blt,ok.above,ok.inj,ok.has,ok.cab,ok.hd,ok.frames,ok.stk,ok.exf,ok.bs,ok.bsz,ok.noex,ok.exfs,ok.funs,ok.frf⟩
section
variable {X:Cx} {pins:List (Addr × Obj)} {σ:St} {H:Hp} {s:Shared} {E:Value→Shared→Prop}
theorem Inv.wish (I:Inv X pins σ H s) (E:Value→Shared→Prop):Inv (X.wish E) pins σ H s:=⟨I.ok.wish E,I.os,I.bare,I.base,I.loc,I.cell,I.free,I.freeC,I.pin,I.hok,I.len⟩
theorem Inv.unwish (I:Inv (X.wish E) pins σ H s):Inv X pins σ H s:=⟨I.ok.unwish,I.os,I.bare,I.base,I.loc,I.cell,I.free,I.freeC,I.pin,I.hok,I.len⟩
theorem SP.unwish {D:Ends} {f:Flow} {s':Shared} (h:SP (X.wish E) pins D f s'):SP X pins D f s':=by
 cases f with
 | next=>obtain ⟨σ',H',I,q⟩:=h;exact ⟨σ',H',I.unwish,q⟩
 | brk=>obtain ⟨σ',H',I,q⟩:=h;exact ⟨σ',H',I.unwish,q⟩
 | cont=>obtain ⟨σ',H',I,q⟩:=h;exact ⟨σ',H',I.unwish,q⟩
 | ret u=>obtain ⟨v,σ',H',I,r,q⟩:=h;exact ⟨v,σ',H',I.unwish,r,q⟩
theorem PSs.nox {st:List Stmt} {t:TS} (h:PSs X.nox st t):PSs X st t:=fun pins s σ H D I hw=>
 wpAny_mono (h pins s σ H D (I.wish _) hw) (fun _ _ q=>q.unwish) fun _ _ z=>False.elim z
end
section
variable {X:Cx} {st:Stmt} {rest:List Stmt} {t u:TS} {e:Expr} {te:TE} {pos:Pos}
def tNext:TS:=fun D σ H=>D.nx σ H
def tSeq (t u:TS):TS:=fun D σ H=>t { D with nx:=u D } σ H
theorem zp:PSs X [] tNext:=fun _ _ σ H _ I h=>wpAny_execs_nil ⟨σ,H,I,h⟩
theorem za (h1:PS X st t) (h2:PSs X rest u):PSs X (st :: rest) (tSeq t u):=by
 intro pins s σ H D I h
 refine wpAny_execs_cons (thn (h1 pins s σ H { D with nx:=u D } I h) fun f s1 q=>?_)
 cases f with
 | next=>
  obtain ⟨σ',H',I',q⟩:=q
  exact h2 pins s1 σ' H' D I' q
 | ret v=>exact q
 | brk=>exact q
 | cont=>exact q
theorem ze (h1:PS X st t):PSs X [st] t:=by
 intro pins s σ H D I h
 refine wpAny_execs_cons (thn (h1 pins s σ H D I h) fun f s1 q=>?_)
 cases f with
 | next=>exact wpAny_execs_nil q
 | ret v=>exact q
 | brk=>exact q
 | cont=>exact q
theorem Inv.quiet {pins:List (Addr × Obj)} {σ:St} {H:Hp} {s:Shared} (I:Inv X pins σ H s):interactive X.env=false:=by simp [interactive,I.ok.kind]
def tDrop (te:TE):TS:=fun D σ H=>te σ H fun _ H1=>D.nx σ H1
theorem zG (he:PE X e te) (hs:swapsWith e none pos.line X.env=pure false:=by rfl):PS X (.Expr e pos) (tDrop te):=by
 intro pins s σ H D I h
 exact wpAny_Expr_any (thn (he pins s σ H _ I h) fun v s1 ⟨x,H1,I1,r1,q1⟩=>⟨σ,H1,I1,q1⟩) I.quiet hs
def tRet (te:TE):TS:=fun D σ H=>te σ H D.rt
theorem zm (he:PE X e te):PS X (.Return (some e) pos) (tRet te):=by
 intro pins s σ H D I h
 exact wpAny_Return_some (thn (he pins s σ H _ I h) fun v s1 ⟨x,H1,I1,r1,q1⟩=>⟨x,σ,H1,I1,r1,q1⟩)
def tRetN:TS:=fun D _ H=>D.rt .non H
theorem Yc:PS X (.Return none pos) tRetN:=fun _ _ σ H _ I h=>wpAny_Return_none ⟨.non,σ,H,I,rfl,h⟩
def tIfS (c:TT) (t u:TS):TS:=fun D σ H=>c σ H fun b H1=>if b=true then t D σ H1 else u D σ H1
theorem zB {c:Expr} {a b:List Stmt} {tc:TT} (hc:PT X c tc) (ha:PSs X a t) (hb:PSs X b u):PS X (.If c a b pos) (tIfS tc t u):=by
 intro pins s σ H D I h
 refine wpAny_If (thn (hc pins s σ H _ I h) fun d s1 ⟨H1,I1,q1⟩=>?_)
 cases d with
 | true=>exact ha pins s1 σ H1 D I1 q1
 | false=>exact hb pins s1 σ H1 D I1 q1
end
abbrev TG:=V→St→Hp→(St→Hp→Prop)→Prop
abbrev TGs:=List V→St→Hp→(St→Hp→Prop)→Prop
def PG (X:Cx) (target:Expr) (t:TG):Prop:=
 ∀ (pins:List (Addr × Obj)) (s:Shared) (σ:St) (H:Hp) (v:V) (u:Value) (Q:St→Hp→Prop),Inv X pins σ H s→RelV v u→t v σ H Q →
  wpAny (model X.prog X.w) X.A (assign target X.env u) (fun _ s'=>∃ σ' H',Inv X pins σ' H' s'∧Q σ' H') X.xe s
def PGs (X:Cx) (ts:List Expr) (t:TGs):Prop:=
 ∀ (pins:List (Addr × Obj)) (s:Shared) (σ:St) (H:Hp) (vs:List V) (us:List Value) (Q:St→Hp→Prop),Inv X pins σ H s→Vals vs us→t vs σ H Q →
  wpAny (model X.prog X.w) X.A (assignInOrder ((assignEach ts X.env).map (·.2)) us) (fun _ s'=>∃ σ' H',Inv X pins σ' H' s'∧Q σ' H') X.xe s
abbrev TSet:=V→V→V→Hp→(Hp→Prop)→Prop
def PSet (X:Cx) (t:TSet):Prop:=
 ∀ (pins:List (Addr × Obj)) (s:Shared) (σ:St) (H:Hp) (o i v:V) (ov iv u:Value) (Q:Hp→Prop),Inv X pins σ H s→RelV o ov→RelV i iv→RelV v u→t o i v H Q →
  wpAny (model X.prog X.w) X.A (setItem ov iv u) (fun _ s'=>∃ H',Inv X pins σ H' s'∧Q H') X.xe s
section
variable {X:Cx} {pos:Pos}
def gName (i:Nat):TG:=fun v σ H Q=>Q (σ.set i (some v)) H
theorem zw {i:Nat} {x:Str} (hN:X.N.Nodup) (hi:X.N[i]? = some x) (hx:Loc X.env.scope x) (hf:X.fn x=true∨X.env.scope.names.lookup x=some .local:=by first | exact .inl rfl | exact .inr rfl | assumption):PG X (.Name x pos) (gName i):=by
 intro pins s σ H v u Q I r h
 exact wpAny_assign_Name (JT I hN hi hx r (fun s' I'=>⟨_,H,I',h⟩) hf)
def gNil:TGs:=fun vs σ H Q=>vs=[]∧Q σ H
def gCons (t:TG) (u:TGs):TGs:=fun vs σ H Q=>∃ v r,vs=v :: r∧t v σ H fun σ' H'=>u r σ' H' Q
theorem jr:PGs X [] gNil:=by
 intro pins s σ H vs us Q I r h
 obtain ⟨e,h⟩:=h
 subst e
 cases r
 exact assignInOrder_nil ⟨σ,H,I,h⟩
theorem zF {e:Expr} {es:List Expr} {t:TG} {u:TGs} (h1:PG X e t) (h2:PGs X es u)
  (hs:(assignEach (e :: es) X.env).map (·.2)=assign e X.env :: (assignEach es X.env).map (·.2):=by rfl):PGs X (e :: es) (gCons t u):=by
 intro pins s σ H vs us Q I r h
 obtain ⟨v,vr,e1,h⟩:=h
 subst e1
 cases r with
 | cons r rr=>
  rw [hs]
  refine assignInOrder_cons (thn (h1 pins s σ H _ _ _ I r h) fun _ s1 ⟨σ1,H1,I1,q1⟩=>?_)
  exact h2 pins s1 σ1 H1 _ _ Q I1 rr q1
def gTup (K:PySem.W.Frag) (n:Nat) (t:TGs):TG:=fun v σ H Q=>∃ a xs,v = .ref a∧SqT K H a xs∧xs.length=n∧t xs σ H Q
theorem pg_tup {es:List Expr} {k:Nat} {t:TGs} {n:Nat} (hc:X.calm=true) (h:PGs X es t)
  (hn:(assignEach es X.env).length=n:=by rfl) (hst:(assignEach es X.env).findIdx? (·.1)=none:=by rfl):PG X (.Tuple es k pos) (gTup X.K n t):=by
 intro pins s σ H v u Q I r hw
 obtain ⟨a,xs,e1,hq,hl,hw⟩:=hw
 subst e1
 cases r
 obtain ⟨its,rv,ht,hz⟩:=I.tuple hq
 refine assign_Tuple_tuple (I.ok.hd hc) ht (by simp [hn,← hl,rv.length]) hst fun h' hx=>?_
 have I1:Inv X pins σ H { s with heap:=h' }:=I.kept (t':=s.toks) fun b o e=>hx b o (Nat.ne_of_lt (Heap.lt_size e)) e
 exact h pins _ σ H xs _ Q I1 (by simpa using rv) hw
def gSub (to ti:TE) (t:TSet):TG:=fun v σ H Q=>to σ H fun o H1=>ti σ H1 fun i H2=>t o i v H2 fun H3=>Q σ H3
theorem pg_sub {o i:Expr} {to ti:TE} {t:TSet} (ho:PE X o to) (hi:PE X i ti) (hs:PSet X t)
  (ha:∀ v,assign (.Subscript o i pos) X.env v=(do
   let ov ← holding [v] (eval o X.env)
   let iv ← holding [v,ov] (eval i X.env)
   standAt pos
   holding [v,ov,iv] (setItem ov iv v)
   release [v,ov,iv] []):=by intro _;rfl):PG X (.Subscript o i pos) (gSub to ti t):=by
 intro pins s σ H v u Q I r h
 rw [ha]
 refine wpAny_bind (wpAny_holding (thn (ho pins s σ H _ I h) fun ov s1 ⟨x,H1,I1,r1,q1⟩=>?_))
 refine wpAny_bind (wpAny_holding (thn (hi pins s1 σ H1 _ I1 q1) fun iv s2 ⟨y,H2,I2,r2,q2⟩=>?_))
 refine wpAny_bind (wpAny_standAt (wpAny_bind (wpAny_holding (thn (hs pins s2 σ H2 x y v ov iv u _ I2 r1 r2 r q2) fun _ s3 ⟨H3,I3,q3⟩=>?_))))
 exact wpAny_release ⟨σ,H3,I3,q3⟩
def tAsg (te:TE) (g:TG):TS:=fun D σ H=>te σ H fun x H1=>g x σ H1 D.nx
theorem ps_asg {tg e:Expr} {te:TE} {g:TG} (he:PE X e te) (hg:PG X tg g) (hs:swapsWithSole [tg] e pos.line X.env=pure false:=by rfl) (hw:swappedStores [tg] e X.env=pure none:=by rfl)
  (h1:(assignEach [tg] X.env).map (·.2)=[assign tg X.env]:=by rfl):PS X (.Assign [tg] e pos) (tAsg te g):=by
 intro pins s σ H D I h
 refine wpAny_Assign_stores (thn (he pins s σ H _ I h) fun v s1 ⟨x,H1,I1,r1,q1⟩=>?_) hs hw
 rw [h1]
 exact thn (hg pins s1 σ H1 x v _ I1 r1 q1) fun _ s2 q=>q
theorem zt {i:Nat} {x:Str} {e:Expr} {te:TE} {pos':Pos} (hN:X.N.Nodup) (hi:X.N[i]? = some x) (hx:Loc X.env.scope x) (he:PE X e te) (hs:swapsWith e (some (.Name x pos')) pos.line X.env=pure false:=by rfl) (hf:X.fn x=true∨X.env.scope.names.lookup x=some .local:=by first | exact .inl rfl | exact .inr rfl | assumption) :
  PS X (.Assign [.Name x pos'] e pos) (tAsg te (gName i)):=by
 intro pins s σ H D I h
 refine wpAny_Assign_Name (thn (he pins s σ H _ I h) fun v s1 ⟨y,H1,I1,r1,q1⟩=>?_) hs
 exact JT I1 hN hi hx r1 (fun s2 I2=>⟨_,H1,I2,q1⟩) hf
end
section
variable {X:Cx} {pos:Pos}
def tWhile (c:TT) (tb:TS):TS:=fun D σ H=>∃ W:Nat→St→Hp→Prop,(∃ m,W m σ H)∧∀ m σ H,W m σ H →
 c σ H fun b H1=>if b=true then ∃ N:St→Hp→Prop,(∀ σ' H',N σ' H'→∃ m',m' < m∧W m' σ' H')∧tb { D with nx:=N,ct:=N,bk:=D.nx } σ H1 else D.nx σ H1
theorem xb {c:Expr} {body:List Stmt} {tc:TT} {tb:TS} (hp:PassesOwn (model X.prog X.w) X.A X.env X.xe) (hc:PT X c tc) (hb:PSs X body tb):PS X (.While c body [] pos) (tWhile tc tb):=by
 intro pins s σ H D I h
 obtain ⟨W,⟨m0,w0⟩,turn⟩:=h
 refine wpAny_While (codeAny_whileLoop (fun n s'=>∃ σ' H',Inv X pins σ' H' s'∧W n σ' H') ?_ m0 ⟨σ,H,I,w0⟩)
 rintro n s1 ⟨σ1,H1,I1,w1⟩
 refine wpAny_passesOwn hp (thn (hc pins s1 σ1 H1 _ I1 (turn n σ1 H1 w1)) fun b s2 ⟨H2,I2,q2⟩=>?_)
 cases b with
 | true=>
  obtain ⟨N,hN,q2⟩:=q2
  rw [if_pos rfl]
  refine wpAny_passesOwn hp (thn (hb pins s2 σ1 H2 _ I2 q2) fun f s3 q3=>?_)
  cases f with
  | next=>
   obtain ⟨σ3,H3,I3,n3⟩:=q3
   obtain ⟨m',hm,w3⟩:=hN σ3 H3 n3
   exact ⟨m',hm,σ3,H3,I3,w3⟩
  | cont=>
   obtain ⟨σ3,H3,I3,n3⟩:=q3
   obtain ⟨m',hm,w3⟩:=hN σ3 H3 n3
   exact ⟨m',hm,σ3,H3,I3,w3⟩
  | brk=>exact q3
  | ret v=>exact q3
 | false=>
  rw [if_neg Bool.false_ne_true]
  exact wpAny_execs_nil ⟨σ1,H2,I2,q2⟩
end
structure It where
 go:Nat→Hp→Prop
 yld:Nat→Hp→V→Hp→Prop
 stop:Nat→Hp→Prop
def FpOk (X:Cx) (pins:List (Addr × Obj)) (H:Hp) (b:Addr):Prop:=
 H b=none∧b≠X.env.locals∧b∉X.fs∧(b∈X.ex∨X.s_0.heap.objs.size≤b)∧(∀ x c,X.env.cells.lookup x=some c→c≠b)∧∀ p∈X.pn++pins,p.1≠b
theorem Inv.fpOk {X:Cx} {pins:List (Addr × Obj)} {σ:St} {H H':Hp} {s:Shared} {b:Addr} (I:Inv X pins σ H s) (hb:s.heap.objs.size≤b) (hn:H' b=none):FpOk X pins H' b:=by
 refine ⟨hn,Nat.ne_of_gt (Nat.lt_of_lt_of_le I.lt hb),I.nofs hb,.inr (Nat.le_trans I.sz hb),fun x c e z=>?_,fun p hp z=>?_⟩
 ·obtain ⟨v,q⟩:=I.cell x c e
  exact absurd (Nat.lt_of_lt_of_le q.lt (by rw [z];exact hb)) (Nat.lt_irrefl _)
 ·exact absurd (Nat.lt_of_lt_of_le (Heap.lt_size (I.pin p hp).1) (by rw [z];exact hb)) (Nat.lt_irrefl _)
structure Turn (P:Program) (w:World) (K:PySem.W.Frag) (tg:Expr) (J:It) (fp:List Addr) (it:Addr) (tn:Nat→Heap→Prop):Prop where
 mem:it∈fp
 obj:∀ i h,tn i h→∀ b∈fp,∃ o,h.get? b=some o∧∀ v,o.data≠.cell v
 keep:∀ i h h',tn i h→(∀ b∈fp,∀ o,h.get? b=some o→h'.get? b=some o)→tn i h'
 item:∀ (X:Cx),X.prog=P→X.w=w→X.K=K→X.calm=true→∀ (i:Nat) (pins:List (Addr × Obj)) (s:Shared) (σ:St) (H:Hp) (E:Value→Shared→Prop),Inv X pins σ H s→(∀ b∈fp,FpOk X pins H b)→tn i s.heap→J.go i H →
  wpAny (model P w) X.A (pyNext (.ref it)) (fun r s1=>∃ u,r=some u ∧
   wpAny (model P w) X.A (letOwnedTupleGo tg (.ref it) u) (fun _ s2=>∃ x H',Inv X pins σ H' s2∧RelV x u∧J.yld i H x H'∧tn (i+1) s2.heap∧∀ b∈fp,H' b=none) E s1) E s
 done:∀ (X:Cx),X.prog=P→X.w=w→X.K=K→X.calm=true→∀ (i:Nat) (pins:List (Addr × Obj)) (s:Shared) (σ:St) (H:Hp) (E:Value→Shared→Prop),Inv X pins σ H s→(∀ b∈fp,FpOk X pins H b)→tn i s.heap→J.stop i H →
  wpAny (model P w) X.A (pyNext (.ref it)) (fun r s1=>r=none∧Inv X pins σ H s1) E s
 self:∀ (A:Around) (i:Nat) (s:Shared) (Q:Value→Shared→Prop) (E:Value→Shared→Prop),tn i s.heap→Q (.ref it) s→wpAny (model P w) A (pyIter (.ref it)) Q E s
abbrev TI:=St→Hp→(It→Hp→Prop)→Prop
def PIE (X:Cx) (pins:List (Addr × Obj)) (σ:St) (tg:Expr) (R:It→Hp→Prop) (itv:Value) (s2:Shared):Prop:=
 ∃ (it:Addr) (fp:List Addr) (tn:Nat→Heap→Prop) (J:It) (H':Hp),itv = .ref it∧Inv X pins σ H' s2∧Turn X.prog X.w X.K tg J fp it tn∧tn 0 s2.heap∧(∀ b∈fp,FpOk X pins H' b)∧R J H'
def PI (X:Cx) (tg iter:Expr) (wi:TI):Prop:=
 ∀ (pins:List (Addr × Obj)) (s:Shared) (σ:St) (H:Hp) (R:It→Hp→Prop),Inv X pins σ H s→wi σ H R →
  wpAny (model X.prog X.w) X.A (eval iter X.env) (fun v s1=>wpAny (model X.prog X.w) X.A (pyIter v) (PIE X pins σ tg R) X.xe s1) X.xe s
theorem Yq {M:Model} {A:Around} {E:Value→Shared→Prop} {s:Shared} {tg:Expr} {it:Addr} {u:Value} {o:Obj} {n:String} {vs:Array Value} {Q:Unit→Shared→Prop} (ho:s.heap.get? it=some o) (hc:o.cls = .type n) (hd:o.data = .fields vs)
  (hn:["enumerate","zip","dict_itemiterator","dict_reverseitemiterator","odict_iterator","itertools.zip_longest","itertools.pairwise"].contains n=false) (hQ:Q () s):wpAny M A (letOwnedTupleGo tg (.ref it) u) Q E s:=by
 unfold letOwnedTupleGo
 cases tg <;> first
  | exact wpAny_pure hQ
  | (cases u <;> first
    | exact wpAny_pure hQ
    | (refine wpAny_bind (wpAny_load ho ?_);rw [hc,hd];show wpAny M A (if (["enumerate","zip","dict_itemiterator","dict_reverseitemiterator","odict_iterator","itertools.zip_longest","itertools.pairwise"].contains n&&vs[0]? == some (rawInt _))=true then _ else _) Q E s;rw [if_neg (by intro h;rw [hn,Bool.false_and] at h;cases h)];exact wpAny_pure hQ))
def Itl (K:PySem.W.Frag) (a:Addr):It:=
 ⟨fun i H=>∃ xs x,SqL K H a xs∧xs[i]? = some x,fun i H x H'=>H' = H∧∀ xs,SqL K H a xs→xs[i]? = some x,fun i H=>∃ xs,SqL K H a xs∧xs.length≤i⟩
def Itr (lo:Int) (n:Nat):It:=⟨fun i _=>i<n,fun i H x H'=>H' = H∧x = .int (lo+i),fun i _=>n≤i⟩
theorem YD {P:Program} {w:World} {K:PySem.W.Frag} {tg:Expr} (a it:Addr):Turn P w K tg (Itl K a) [it] it (fun i h=>h.IsListIter it a i) where
 mem:=by simp
 obj:=fun i h st b hb=>by
  have e:b=it:=by simpa using hb
  subst e
  obtain ⟨o,e,c,d⟩:=st
  exact ⟨o,e,fun v z=>by rw [d] at z;cases z⟩
 keep:=fun i h h' st k=>st.at fun o e=>k it (by simp) o e
 item:=by
  intro X hP hw hK hc i pins s σ H E I hf st hg
  subst hP hw hK
  obtain ⟨xs,x,hq,hx⟩:=hg
  obtain ⟨its,rv,p,hz⟩:=I.list hq
  obtain ⟨u,hu,ru⟩:=rv.get hx
  obtain ⟨f0,f1,f2,f3,f4,f5⟩:=hf it (by simp)
  refine wpAny_pyNext_list_item st p.isList (x:=u) (by simpa using hu) fun h' st' sb=>?_
  have I1:Inv X pins σ H { s with heap:=h' }:=I.turned (t':=s.toks) (fun b o hb e=>(sb.2 b hb).trans e) f0 f1 f3 f4 f5
  obtain ⟨o,e,c,d⟩:=id st'
  exact ⟨u,rfl,Yq (s:={ s with heap:=h' }) e c d (by decide) ⟨x,H,I1,ru,⟨rfl,fun ys hy=>by rw [I.list_inj hy hq];exact hx⟩,st',fun b hb=>(hf b hb).1⟩⟩
 done:=by
  intro X hP hw hK hc i pins s σ H E I hf st hg
  subst hP hw hK
  obtain ⟨xs,hq,hx⟩:=hg
  obtain ⟨its,rv,p,hz⟩:=I.list hq
  obtain ⟨f0,f1,f2,f3,f4,f5⟩:=hf it (by simp)
  have hl:=rv.length
  exact wpAny_pyNext_list_end (I.ok.hd hc) st p.isList (by simp;omega) fun h' eb=>⟨rfl,I.turned (t':=s.toks) (fun b o hb e=>eb b o hb e) f0 f1 f3 f4 f5⟩
 self:=fun _ _ _ _ _ st h=>wpAny_pyIter_listiter st h
theorem Q8 {P:Program} {w:World} {K:PySem.W.Frag} {tg:Expr} (it:Addr) (lo:Int) (n:Nat):Turn P w K tg (Itr lo n) [it] it (fun i h=>IsRangeIter h it (lo+(i:Nat) * 1) ((n:Int) - (i:Nat)) 1) where
 mem:=by simp
 obj:=fun i h st b hb=>by
  have e:b=it:=by simpa using hb
  subst e
  exact ⟨_,st,fun v z=>by
   have z':Data.fields _=Data.cell v:=z
   cases z'⟩
 keep:=fun i h h' st k=>k it (by simp) _ st
 item:=by
  intro X hP hw hK hc i pins s σ H E I hf st hg
  subst hP hw hK
  obtain ⟨f0,f1,f2,f3,f4,f5⟩:=hf it (by simp)
  have W:=Walks.range (prog:=X.prog) (w:=X.w) (I.ok.hd hc) it lo 1 n
  refine W.item i s _ _ hg st fun v h' tk hv st' kk=>?_
  obtain ⟨t,rfl⟩:=hv
  have I1:Inv X pins σ H { s with heap:=h',toks:=tk }:=I.turned (fun b o hb e=>kk b o (by simpa using hb) e) f0 f1 f3 f4 f5
  refine ⟨_,rfl,Yq (s:={ s with heap:=h',toks:=tk }) (n:="range_iterator") st' rfl rfl (by decide) ⟨.int (lo+i),H,I1,⟨t,?_⟩,⟨rfl,rfl⟩,st',fun b hb=>(hf b hb).1⟩⟩
  rw [Int.mul_one]
 done:=by
  intro X hP hw hK hc i pins s σ H E I hf st hg
  subst hP hw hK
  obtain ⟨f0,f1,f2,f3,f4,f5⟩:=hf it (by simp)
  exact wpAny_pyNext_range_end (I.ok.hd hc) st (by have:n≤i:=hg;omega) fun h' eb=>⟨rfl,I.turned (t':=s.toks) (fun b o hb e=>eb b o hb e) f0 f1 f3 f4 f5⟩
 self:=fun _ _ _ _ _ st h=>wpAny_pyIter_rangeiter st h
end L2
namespace L2
open PySem PySem.Spec PyProof.Rows
section
variable {X:Cx} {tg:Expr}
def iList (K:PySem.W.Frag) (tl:TE):TI:=fun σ H R=>tl σ H fun x H1=>∃ a,x = .ref a∧(∃ xs,SqL K H1 a xs)∧R (Itl K a) H1
theorem pi_list {l:Expr} {tl:TE} (hl:PE X l tl):PI X tg l (iList X.K tl):=by
 intro pins s σ H R I h
 refine thn (hl pins s σ H _ I h) fun v s1 ⟨x,H1,I1,r1,q1⟩=>?_
 obtain ⟨a,e,⟨xs,hq⟩,q⟩:=q1
 subst e
 cases r1
 obtain ⟨its,rv,p,hz⟩:=I1.list hq
 refine wpAny_pyIter_list p.isList ?_
 refine ⟨s1.heap.objs.size,[s1.heap.objs.size],_,_,H1,rfl,I1.kept (t':=s1.toks) fun b o e=>Heap.get?_push_of_some _ e,YD a _,⟨_,Heap.get?_push_size _ rfl,rfl,rfl⟩,fun b hb=>?_,q⟩
 have e:b=s1.heap.objs.size:=by simpa using hb
 subst e
 exact I1.fpOk (Nat.le_refl _) (I1.hok.fresh (Nat.le_refl _))
theorem range_it {pins:List (Addr × Obj)} {σ:St} {H:Hp} {s:Shared} {R:It→Hp→Prop} {E:Value→Shared→Prop} {lo hi:Int} {t u v:Tok} {tk:Nat} (I:Inv X pins σ H s) (h1:-(2 ^ 62)≤lo) (h2:lo<2 ^ 62) (h3:-(2 ^ 62)≤hi) (h4:hi<2 ^ 62)
  (q:R (Itr lo (hi - lo).toNat) H):wpAny (model X.prog X.w) X.A (pyIter (.ref s.heap.objs.size)) (PIE X pins σ tg R) E { s with heap:=s.heap.push { cls:=.type "range",data:=.fields #[.int lo t,.int hi u,.int 1 v] },toks:=tk }:=by
 refine wpAny_pyIter_range (IsRange.new ..) (small_one h1 h2 h3 h4) ?_
 have I1:Inv X pins σ H { s with heap:=s.heap.push { cls:=.type "range",data:=.fields #[.int lo t,.int hi u,.int 1 v] },toks:=tk }:=I.kept fun b o e=>Heap.get?_push_of_some _ e
 refine ⟨(s.heap.push { cls:=.type "range",data:=.fields #[.int lo t,.int hi u,.int 1 v] }).objs.size,[(s.heap.push { cls:=.type "range",data:=.fields #[.int lo t,.int hi u,.int 1 v] }).objs.size],_,_,H,rfl,
  I1.kept (t':=tk) fun b o e=>Heap.get?_push_of_some _ e,Q8 _ lo (hi - lo).toNat,?_,fun b hb=>?_,q⟩
 ·have e1:lo+((0:Nat):Int) * 1=lo:=by simp
  have e2:(((hi - lo).toNat:Nat):Int) - ((0:Nat):Int)=Builtin.Range.rangeSize lo hi 1:=by rw [rangeSize_one];split <;> omega
  show IsRangeIter _ _ (lo+((0:Nat):Int) * 1) ((((hi - lo).toNat:Nat):Int) - ((0:Nat):Int)) 1
  rw [e1,e2]
  exact Heap.get?_push_size _ rfl
 ·have e:b=(s.heap.push { cls:=.type "range",data:=.fields #[.int lo t,.int hi u,.int 1 v] }).objs.size:=by simpa using hb
  subst e
  exact I1.fpOk (Nat.le_refl _) (I1.hok.fresh (Nat.le_refl _))
def iRng1 (ta:TA):TI:=fun σ H R=>ta σ H fun vs H1=>∃ j:Int,vs=[.int j]∧-(2 ^ 62)≤j∧j<2 ^ 62∧R (Itr 0 j.toNat) H1
theorem kP {a:Expr} {ta:TA} {p pos:Pos} (hg:Gl X "range") (hm:X.mg "range" = none) (ha:PA X [a] ta) (hs:starEach [a] X.env=[(false,eval a X.env)]:=by rfl):PI X tg (.Call (.Name "range" p) [a] [] pos) (iRng1 ta):=by
 intro pins s σ H R I h
 refine Call_ (ww I hg hm boot_range (PyProof.Rows.callWith_type1 (thn (ha pos pins s σ H _ I h) fun us s1 ⟨vs,H1,I1,r1,q1⟩=>?_) hs rfl))
 obtain ⟨j,e,q1,q2,q⟩:=q1
 subst e
 cases r1 with
 | cons r rr=>
  cases rr
  obtain ⟨t,rfl⟩:=r
  exact call_range_1 (range_it I1 (by omega) (by omega) q1 q2 (by simpa using q))
def tFor (wi:TI) (g:TG) (tb:TS):TS:=fun D σ H=>wi σ H fun J H1=>∃ W:Nat→Nat→St→Hp→Prop,(∃ m,W 0 m σ H1)∧∀ i m σ H,W i m σ H →
 (J.stop i H∧D.nx σ H)∨(J.go i H∧∃ N:St→Hp→Prop,(∀ σ' H',N σ' H'→∃ m',m' < m∧W (i+1) m' σ' H')∧∀ x H',J.yld i H x H'→g x σ H' fun σ2 H2=>tb { D with nx:=N,ct:=N,bk:=D.nx } σ2 H2)
def pinsAt (fp:List Addr) (h:Heap):List (Addr × Obj):=fp.filterMap fun b=>(h.get? b).map fun o=>(b,o)
theorem vJ {fp:List Addr} {h:Heap} {b:Addr} {o:Obj} (hb:b∈fp) (e:h.get? b=some o):(b,o)∈pinsAt fp h:=List.mem_filterMap.mpr ⟨b,hb,by rw [e];rfl⟩
theorem Y0 {fp:List Addr} {h:Heap} {p:Addr × Obj} (hp:p∈pinsAt fp h):p.1∈fp∧h.get? p.1=some p.2:=by
 obtain ⟨b,hb,e⟩:=List.mem_filterMap.mp hp
 cases q:h.get? b with
 | none=>rw [q] at e;cases e
 | some o=>
  rw [q] at e
  have e':(b,o)=p:=Option.some.inj e
  subst e'
  exact ⟨hb,q⟩
theorem Inv.pinned {pins:List (Addr × Obj)} {σ:St} {H:Hp} {s:Shared} {fp:List Addr} (I:Inv X pins σ H s) (hf:∀ b∈fp,FpOk X pins H b) (ho:∀ b∈fp,∃ o,s.heap.get? b=some o∧∀ v,o.data≠.cell v):Inv X (pins++pinsAt fp s.heap) σ H s:=
 I.pins_of fun p hp=>(List.mem_append.mp hp).elim (fun z=>I.pin p (List.mem_append_right _ z)) fun z=>by
  obtain ⟨hb,e⟩:=Y0 z
  obtain ⟨f0,f1,f2,_⟩:=hf p.1 hb
  obtain ⟨o,e',d⟩:=ho p.1 hb
  rw [e] at e';cases e'
  exact ⟨e,f0,f1,f2,d⟩
theorem Inv.unpinned {pins pl:List (Addr × Obj)} {σ:St} {H:Hp} {s:Shared} (I:Inv X (pins++pl) σ H s):Inv X pins σ H s:=I.pins_of fun p hp=>I.pin p (List.mem_append_right _ (List.mem_append_left _ hp))
theorem jH {iter:Expr} {body:List Stmt} {wi:TI} {g:TG} {tb:TS} {pos:Pos} (hp:PassesOwn (model X.prog X.w) X.A X.env X.xe) (hc:X.calm=true) (hi:PI X tg iter wi) (hg:PG X tg g) (hb:PSs X body tb)
  (hs:∀ x,foldedSetIterable iter X.env x=pure x:=by intro _;rfl):PS X (.For tg iter body [] pos) (tFor wi g tb):=by
 intro pins s σ H D I h
 refine wpAny_For (thn (hi pins s σ H _ I h) fun v s1 h1=>thn h1 fun itv s2 h2=>?_) hs
 obtain ⟨it,fp,tn,J,H2,e,I2,T,st2,f2,W,⟨m0,w0⟩,turn⟩:=h2
 subst e
 have stat:∀ {H':Hp},(∀ b∈fp,H' b=none)→∀ b∈fp,FpOk X pins H' b:=fun hn b hb=>⟨hn b hb,(f2 b hb).2⟩
 refine codeAny_forLoop_any (fun n s'=>∃ i σ' H',Inv X pins σ' H' s'∧tn i s'.heap∧(∀ b∈fp,H' b=none)∧W i n σ' H') ?_ m0 ⟨0,σ,H2,I2,st2,fun b hb=>(f2 b hb).1,w0⟩
 rintro n s3 ⟨i,σ3,H3,I3,st3,fr3,w3⟩
 rcases turn i n σ3 H3 w3 with ⟨stop,qn⟩ | ⟨go,N,hN,step⟩
 ·refine wpAny_passesOwn hp (thn (T.done X rfl rfl rfl hc i pins s3 σ3 H3 X.xe I3 (stat fr3) st3 stop) fun r s4 ⟨hr,I4⟩=>?_)
  subst hr
  exact wpAny_execs_nil ⟨σ3,H3,I4,qn⟩
 ·refine wpAny_passesOwn hp (thn (T.item X rfl rfl rfl hc i pins s3 σ3 H3 X.xe I3 (stat fr3) st3 go) fun r s4 ⟨u,hr,h4⟩=>?_)
  subst hr
  refine wpAny_passesOwn hp (thn h4 fun _ s5 ⟨x,H5,I5,r5,y5,st5,fr5⟩=>?_)
  have I5':=I5.pinned (stat fr5) (T.obj _ _ st5)
  refine wpAny_passesOwn hp (thn (hg _ s5 σ3 H5 x u _ I5' r5 (step x H5 y5)) fun _ s6 ⟨σ6,H6,I6,q6⟩=>?_)
  refine wpAny_passesOwn hp (thn (hb _ s6 σ6 H6 _ I6 q6) fun f s7 q7=>?_)
  have again:∀ {σ7:St} {H7:Hp},Inv X (pins++pinsAt fp s5.heap) σ7 H7 s7→N σ7 H7→∃ m,m<n∧∃ i σ' H',Inv X pins σ' H' s7∧tn i s7.heap∧(∀ b∈fp,H' b=none)∧W i m σ' H':=fun {σ7 H7} I7 n7=>by
   obtain ⟨m',hm,w7⟩:=hN σ7 H7 n7
   refine ⟨m',hm,i+1,σ7,H7,I7.unpinned,T.keep _ _ _ st5 fun b hb o e=>(I7.pin (b,o) (List.mem_append_right _ (List.mem_append_right _ (vJ hb e)))).1,fun b hb=>?_,w7⟩
   obtain ⟨o,e,d⟩:=T.obj _ _ st5 b hb
   exact (I7.pin (b,o) (List.mem_append_right _ (List.mem_append_right _ (vJ hb e)))).2.1
  cases f with
  | next=>obtain ⟨σ7,H7,I7,n7⟩:=q7;exact again I7 n7
  | cont=>obtain ⟨σ7,H7,I7,n7⟩:=q7;exact again I7 n7
  | brk=>obtain ⟨σ7,H7,I7,q7⟩:=q7;exact ⟨σ7,H7,I7.unpinned,q7⟩
  | ret v=>obtain ⟨x7,σ7,H7,I7,r7,q7⟩:=q7;exact ⟨x7,σ7,H7,I7.unpinned,r7,q7⟩
end
theorem wO {K:PySem.W.Frag} {a:Addr} {xs:List V} {g:TG} {tb:TS} {D:Ends} {σ:St} {H:Hp} (Pv:Nat→St→Hp→Prop) (h0:Pv 0 σ H) (hl:∀ i σ H,i≤xs.length→Pv i σ H→SqL K H a xs)
  (hs:∀ i x σ H,xs[i]? = some x→Pv i σ H→g x σ H fun σ2 H2=>tb { D with nx:=Pv (i+1),ct:=Pv (i+1),bk:=D.nx } σ2 H2) (hd:∀ σ H,Pv xs.length σ H→D.nx σ H) :
  ∃ W:Nat→Nat→St→Hp→Prop,(∃ m,W 0 m σ H)∧∀ i m σ H,W i m σ H →
   ((Itl K a).stop i H∧D.nx σ H)∨((Itl K a).go i H∧∃ N:St→Hp→Prop,(∀ σ' H',N σ' H'→∃ m',m' < m∧W (i+1) m' σ' H')∧∀ x H',(Itl K a).yld i H x H'→g x σ H' fun σ2 H2=>tb { D with nx:=N,ct:=N,bk:=D.nx } σ2 H2):=by
 refine ⟨fun i m σ H=>m=xs.length - i∧i≤xs.length∧Pv i σ H,⟨xs.length,by simp,Nat.zero_le _,h0⟩,?_⟩
 rintro i m σ H ⟨rfl,hi,p⟩
 have q:=hl i σ H hi p
 by_cases hlt:i<xs.length
 ·refine .inr ⟨⟨xs,xs[i],q,by simp [hlt]⟩,Pv (i+1),fun σ' H' p'=>⟨xs.length - (i+1),by omega,rfl,hlt,p'⟩,fun x H' y=>?_⟩
  obtain ⟨e,y⟩:=y
  subst e
  exact hs i x σ _ (y xs q) p
 ·have e:i=xs.length:=by omega
  subst e
  exact .inl ⟨⟨xs,q,Nat.le_refl _⟩,hd σ H p⟩
theorem Zy {lo:Int} {n:Nat} {g:TG} {tb:TS} {D:Ends} {σ:St} {H:Hp} (Pv:Nat→St→Hp→Prop) (h0:Pv 0 σ H)
  (hs:∀ i σ H,i<n→Pv i σ H→g (.int (lo+i)) σ H fun σ2 H2=>tb { D with nx:=Pv (i+1),ct:=Pv (i+1),bk:=D.nx } σ2 H2) (hd:∀ σ H,Pv n σ H→D.nx σ H) :
  ∃ W:Nat→Nat→St→Hp→Prop,(∃ m,W 0 m σ H)∧∀ i m σ H,W i m σ H →
   ((Itr lo n).stop i H∧D.nx σ H)∨((Itr lo n).go i H∧∃ N:St→Hp→Prop,(∀ σ' H',N σ' H'→∃ m',m' < m∧W (i+1) m' σ' H')∧∀ x H',(Itr lo n).yld i H x H'→g x σ H' fun σ2 H2=>tb { D with nx:=N,ct:=N,bk:=D.nx } σ2 H2):=by
 refine ⟨fun i m σ H=>m=n - i∧i≤n∧Pv i σ H,⟨n,by simp,Nat.zero_le _,h0⟩,?_⟩
 rintro i m σ H ⟨rfl,hi,p⟩
 by_cases hlt:i<n
 ·refine .inr ⟨hlt,Pv (i+1),fun σ' H' p'=>⟨n - (i+1),by omega,rfl,hlt,p'⟩,fun x H' y=>?_⟩
  obtain ⟨e,y⟩:=y
  subst e y
  exact hs i σ _ hlt p
 ·have e:i=n:=by omega
  subst e
  exact .inl ⟨Nat.le_refl _,hd σ H p⟩
theorem JM {c:TT} {tb:TS} {D:Ends} {σ:St} {H:Hp} (Pv:St→Hp→Prop) (μ:St→Hp→Nat) (h0:Pv σ H)
  (hs:∀ σ H,Pv σ H→c σ H fun b H1=>if b=true then tb { D with nx:=fun σ' H'=>Pv σ' H'∧μ σ' H' < μ σ H,ct:=fun σ' H'=>Pv σ' H'∧μ σ' H' < μ σ H,bk:=D.nx } σ H1 else D.nx σ H1)
  (mono:∀ σ H Q Q',(∀ b H1,Q b H1→Q' b H1)→c σ H Q→c σ H Q'):tWhile c tb D σ H:=by
 refine ⟨fun m σ H=>m=μ σ H∧Pv σ H,⟨_,rfl,h0⟩,?_⟩
 rintro m σ H ⟨rfl,p⟩
 refine mono σ H _ _ (fun b H1 q=>?_) (hs σ H p)
 cases b with
 | true=>exact ⟨_,fun σ' H' ⟨p',l⟩=>⟨_,l,rfl,p'⟩,q⟩
 | false=>exact q
end L2
namespace L2
open PySem PySem.Spec PyProof.Rows
abbrev R2:=V→V→Hp→VK→Prop
def OpR (X:Cx) (f:Value→Value→Sem Value) (r:R2):Prop:=
 ∀ (pins:List (Addr × Obj)) (s:Shared) (σ:St) (H:Hp) (x y:V) (v u:Value) (Q:VK),Inv X pins σ H s→RelV x v→RelV y u→r x y H Q →
  wpAny (model X.prog X.w) X.A (f v u) (EP X pins σ Q) X.xe s
def UnR (X:Cx) (f:Value→Sem Value) (r:V→Hp→VK→Prop):Prop:=
 ∀ (pins:List (Addr × Obj)) (s:Shared) (σ:St) (H:Hp) (x:V) (v:Value) (Q:VK),Inv X pins σ H s→RelV x v→r x H Q →
  wpAny (model X.prog X.w) X.A (f v) (EP X pins σ Q) X.xe s
def CallR (X:Cx) (f:Value) (r:List V→Hp→VK→Prop):Prop:=
 ∀ (pins:List (Addr × Obj)) (s:Shared) (σ:St) (H:Hp) (xs:List V) (us:List Value) (Q:VK),Inv X pins σ H s→Vals xs us→r xs H Q →
  wpAny (model X.prog X.w) X.A (call f us) (EP X pins σ Q) X.xe s
def tOp (r:R2) (ta tb:TE):TE:=fun σ H Q=>ta σ H fun x H1=>tb σ H1 fun y H2=>r x y H2 Q
def tUn (r:V→Hp→VK→Prop) (ta:TE):TE:=fun σ H Q=>ta σ H fun x H1=>r x H1 Q
def rI (C:Int→Int→Prop) (g:Int→Int→V):R2:=fun x y H Q=>∃ i j,x = .int i∧y = .int j∧C i j∧Q (g i j) H
def rI0 (g:Int→Int→V):R2:=fun x y H Q=>∃ i j,x = .int i∧y = .int j∧Q (g i j) H
def rU (g:Int→V):V→Hp→VK→Prop:=fun x H Q=>∃ i,x = .int i∧Q (g i) H
section
variable {X:Cx} {a b c:Expr} {ta tb tc:TE} {pos:Pos}
theorem binT (ha:PE X a ta) (hb:PE X b tb) {pins:List (Addr × Obj)} {s:Shared} {σ:St} {H:Hp} {R:V→V→Hp→Prop} (I:Inv X pins σ H s)
  (h:ta σ H fun x H1=>tb σ H1 fun y H2=>R x y H2) {Q:Value→Shared→Prop} {f:Value→Value→Sem Value}
  (hf:∀ v u s2 x y H2,Inv X pins σ H2 s2→RelV x v→RelV y u→R x y H2→wpAny (model X.prog X.w) X.A (f v u) Q X.xe s2) :
  wpAny (model X.prog X.w) X.A (eval a X.env) (fun v s₁=>wpAny (model X.prog X.w) X.A (eval b X.env) (fun u s₂=>wpAny (model X.prog X.w) X.A (f v u) Q X.xe s₂) X.xe s₁) X.xe s:=by
 refine thn (ha pins s σ H _ I h) fun v s1 ⟨x,H1,I1,r1,q1⟩=>?_
 refine thn (hb pins s1 σ H1 _ I1 q1) fun u s2 ⟨y,H2,I2,r2,q2⟩=>?_
 exact hf v u s2 x y H2 I2 r1 r2 q2
theorem zI {op:Operator} {r:R2} (ho:OpR X (binaryOp op) r) (ha:PE X a ta) (hb:PE X b tb):PE X (.BinOp a op b pos) (tOp r ta tb):=by
 intro pins s σ H Q I h
 exact wpAny_BinOp (binT ha hb I h fun v u s2 x y H2 I2 rx ry q=>ho pins s2 σ H2 x y v u Q I2 rx ry q)
theorem pe_un {op:UnaryOp} {r:V→Hp→VK→Prop} (ho:UnR X (unaryOp op) r) (ha:PE X a ta):PE X (.UnaryOp op a pos) (tUn r ta):=by
 intro pins s σ H Q I h
 exact UnaryOp_ (thn (ha pins s σ H _ I h) fun v s1 ⟨x,H1,I1,r1,q1⟩=>ho pins s1 σ H1 x v Q I1 r1 q1)
theorem opI {f:Value→Value→Sem Value} {C:Int→Int→Prop} {g:Int→Int→Int}
  (rule:∀ (i j:Int) (t u:Tok) (s:Shared) (Q:Value→Shared→Prop) (E:Value→Shared→Prop),C i j→Q (.int (g i j) s.toks) { s with toks:=s.toks+1 }→wpAny (model X.prog X.w) X.A (f (.int i t) (.int j u)) Q E s) :
  OpR X f (rI C fun i j=>.int (g i j)):=by
 intro pins s σ H x y v u Q I rx ry h
 obtain ⟨i,j,rfl,rfl,hc,q⟩:=h
 obtain ⟨t,rfl⟩:=rx
 obtain ⟨t',rfl⟩:=ry
 exact rule i j t t' s _ _ hc ⟨.int (g i j),H,I.tok _,⟨_,rfl⟩,q⟩
theorem opI0 {f:Value→Value→Sem Value} {g:Int→Int→Int}
  (rule:∀ (i j:Int) (t u:Tok) (s:Shared) (Q:Value→Shared→Prop) (E:Value→Shared→Prop),Q (.int (g i j) s.toks) { s with toks:=s.toks+1 }→wpAny (model X.prog X.w) X.A (f (.int i t) (.int j u)) Q E s) :
  OpR X f (rI0 fun i j=>.int (g i j)):=by
 intro pins s σ H x y v u Q I rx ry h
 obtain ⟨i,j,rfl,rfl,q⟩:=h
 obtain ⟨t,rfl⟩:=rx
 obtain ⟨t',rfl⟩:=ry
 exact rule i j t t' s _ _ ⟨.int (g i j),H,I.tok _,⟨_,rfl⟩,q⟩
theorem opB0 {f:Value→Value→Sem Value} {g:Int→Int→Bool}
  (rule:∀ (i j:Int) (t u:Tok) (s:Shared) (Q:Value→Shared→Prop) (E:Value→Shared→Prop),Q (.bool (g i j)) s→wpAny (model X.prog X.w) X.A (f (.int i t) (.int j u)) Q E s) :
  OpR X f (rI0 fun i j=>.bl (g i j)):=by
 intro pins s σ H x y v u Q I rx ry h
 obtain ⟨i,j,rfl,rfl,q⟩:=h
 obtain ⟨t,rfl⟩:=rx
 obtain ⟨t',rfl⟩:=ry
 exact rule i j t t' s _ _ ⟨.bl (g i j),H,I,rfl,q⟩
def CDiv (i j:Int):Prop:=0<j∧j<1073741824
def CMul (i j:Int):Prop:=(-(2 ^ 64)<i∧i<2 ^ 64)∨(-(2 ^ 64)<j∧j<2 ^ 64)
theorem CMul.ok {i j:Int} (h:CMul i j):IntMulOk i j:=by
 rcases h with ⟨h1,h2⟩ | ⟨h1,h2⟩
 ·exact .of_left (intBits_le_64 h1 h2)
 ·exact .of_right (intBits_le_64 h1 h2)
theorem jf:OpR X (binaryOp .Add) (rI0 fun i j=>.int (i+j)):=opI0 fun _ _ _ _ _ _ _ q=>add_int q
theorem jI:OpR X (binaryOp .Sub) (rI0 fun i j=>.int (i - j)):=opI0 fun _ _ _ _ _ _ _ q=>sub_int q
theorem yd:OpR X (binaryOp .Mult) (rI CMul fun i j=>.int (i * j)):=opI fun _ _ _ _ _ _ _ hc q=>mul_int q hc.ok
theorem op_fdiv:OpR X (binaryOp .FloorDiv) (rI CDiv fun i j=>.int (i / j)):=opI fun i j _ _ _ _ _ hc q=>by
 have h1:(0:Int)<j:=hc.1
 have h2:j<1073741824:=hc.2
 exact floordiv_int (by omega) (by rw [Int.fdiv_eq_ediv_of_nonneg i (by omega)];exact q) (.inl (PyProof.noPylong_small (by omega)))
theorem op_mod:OpR X (binaryOp .Mod) (rI (fun _ j=>0<j) fun i j=>.int (i % j)):=opI fun i j _ _ _ _ _ hc q=>by
 have h1:(0:Int)<j:=hc
 exact mod_int' (by omega) (by rw [Int.fmod_eq_emod_of_nonneg i (by omega)];exact q)
theorem unI {f:Value→Sem Value} {g:Int→Int}
  (rule:∀ (i:Int) (t:Tok) (s:Shared) (Q:Value→Shared→Prop) (E:Value→Shared→Prop),Q (.int (g i) s.toks) { s with toks:=s.toks+1 }→wpAny (model X.prog X.w) X.A (f (.int i t)) Q E s) :
  UnR X f (rU fun i=>.int (g i)):=by
 intro pins s σ H x v Q I rx h
 obtain ⟨i,rfl,q⟩:=h
 obtain ⟨t,rfl⟩:=rx
 exact rule i t s _ _ ⟨.int (g i),H,I.tok _,⟨_,rfl⟩,q⟩
theorem un_neg:UnR X (unaryOp .USub) (rU fun i=>.int (-i)):=unI fun _ _ _ _ _ q=>neg_int q
end
def scal:V→V→Bool
 | .non,.non=>true | .non,.int _=>true | .int _,.non=>true | .non,.bl _=>true | .bl _,.non=>true | .non,.str _=>true | .str _,.non=>true
 | .int _,.int _=>true | .bl _,.bl _=>true | .str _,.str _=>true | .byt _,.byt _=>true
 | .int _,.str _=>true | .str _,.int _=>true | .bl _,.str _=>true | .str _,.bl _=>true
 | _,_=>false
def rEq:R2:=fun x y H Q=>scal x y=true∧Q (.bl (decide (x=y))) H
def rNe:R2:=fun x y H Q=>scal x y=true∧Q (.bl (!decide (x=y))) H
theorem Yv {i j:Int}:decide (V.int i=V.int j)=(i == j):=by
 rw [Bool.eq_iff_iff]
 simp
theorem dec_bl {i j:Bool}:decide (V.bl i=V.bl j)=(i == j):=by
 rw [Bool.eq_iff_iff]
 simp
theorem Yu {i j:Str}:decide (V.str i=V.str j)=(i == j):=by
 rw [Bool.eq_iff_iff]
 simp
theorem Yw {i j:Array UInt8}:decide (V.byt i=V.byt j)=(i.toList == j.toList):=by
 rw [Bool.eq_iff_iff]
 cases i
 cases j
 simp
section
variable {X:Cx} {a b c:Expr} {ta tb tc:TE} {pos:Pos}
theorem z0 {pins:List (Addr × Obj)} {σ:St} {H:Hp} {s:Shared} {Q:VK} {k k':Bool} (I:Inv X pins σ H s) (q:Q (.bl k) H) (e:k=k'):EP X pins σ Q (.bool k') s:=by
 subst e
 exact ⟨.bl k,H,I,rfl,q⟩
theorem z8:OpR X (compareOp .Eq) rEq:=by
 intro pins s σ H x y v u Q I rx ry h
 obtain ⟨hs,q⟩:=h
 cases x with
 | non=>
  cases rx
  cases y with
  | non=>cases ry;exact PySem.EqNone.eq_none_none (z0 I q (by simp))
  | bl j=>cases ry;exact PySem.EqNone.eq_none_bool (z0 I q (by simp))
  | int j=>obtain ⟨t',rfl⟩:=ry;exact PySem.EqNone.eq_none_int (z0 I q (by simp))
  | str j=>obtain ⟨t',rfl⟩:=ry;exact PySem.EqNone.eq_none_str (z0 I q (by simp))
  | _=>exact absurd (show false=true from hs) Bool.false_ne_true
 | bl i=>
  cases rx
  cases y with
  | non=>cases ry;exact PySem.EqNone.eq_bool_none (z0 I q (by simp))
  | bl j=>cases ry;exact eq_bool (z0 I q dec_bl)
  | str j=>obtain ⟨t',rfl⟩:=ry;exact PySem.EqMixed.eq_bool_str (z0 I q (by simp))
  | _=>exact absurd (show false=true from hs) Bool.false_ne_true
 | int i=>
  obtain ⟨t,rfl⟩:=rx
  cases y with
  | non=>cases ry;exact PySem.EqNone.eq_int_none (z0 I q (by simp))
  | int j=>obtain ⟨t',rfl⟩:=ry;exact eq_int (z0 I q Yv)
  | str j=>obtain ⟨t',rfl⟩:=ry;exact PySem.EqMixed.eq_int_str (z0 I q (by simp))
  | _=>exact absurd (show false=true from hs) Bool.false_ne_true
 | str i=>
  obtain ⟨t,rfl⟩:=rx
  cases y with
  | non=>cases ry;exact PySem.EqNone.eq_str_none (z0 I q (by simp))
  | bl j=>cases ry;exact PySem.EqMixed.eq_str_bool (z0 I q (by simp))
  | int j=>obtain ⟨t',rfl⟩:=ry;exact PySem.EqMixed.eq_str_int (z0 I q (by simp))
  | str j=>obtain ⟨t',rfl⟩:=ry;exact eq_str (z0 I q Yu)
  | _=>exact absurd (show false=true from hs) Bool.false_ne_true
 | byt i=>
  obtain ⟨t,rfl⟩:=rx
  cases y with
  | byt j=>obtain ⟨t',rfl⟩:=ry;exact PySem.W.eq_bytes (z0 I q Yw)
  | _=>exact absurd (show false=true from hs) Bool.false_ne_true
 | _=>cases y <;> exact absurd (show false=true from hs) Bool.false_ne_true
theorem op_ne:OpR X (compareOp .NotEq) rNe:=by
 intro pins s σ H x y v u Q I rx ry h
 obtain ⟨hs,q⟩:=h
 cases x with
 | non=>
  cases rx
  cases y with
  | non=>cases ry;exact PySem.EqNone.ne_none_none (z0 I q (by simp))
  | bl j=>cases ry;exact PySem.EqNone.ne_none_bool (z0 I q (by simp))
  | int j=>obtain ⟨t',rfl⟩:=ry;exact PySem.EqNone.ne_none_int (z0 I q (by simp))
  | str j=>obtain ⟨t',rfl⟩:=ry;exact PySem.EqNone.ne_none_str (z0 I q (by simp))
  | _=>exact absurd (show false=true from hs) Bool.false_ne_true
 | bl i=>
  cases rx
  cases y with
  | non=>cases ry;exact PySem.EqNone.ne_bool_none (z0 I q (by simp))
  | bl j=>cases ry;exact ne_bool (z0 I q (congrArg not dec_bl))
  | str j=>obtain ⟨t',rfl⟩:=ry;exact PySem.EqMixed.ne_bool_str (z0 I q (by simp))
  | _=>exact absurd (show false=true from hs) Bool.false_ne_true
 | int i=>
  obtain ⟨t,rfl⟩:=rx
  cases y with
  | non=>cases ry;exact PySem.EqNone.ne_int_none (z0 I q (by simp))
  | int j=>obtain ⟨t',rfl⟩:=ry;exact ne_int (z0 I q (congrArg not Yv))
  | str j=>obtain ⟨t',rfl⟩:=ry;exact PySem.EqMixed.ne_int_str (z0 I q (by simp))
  | _=>exact absurd (show false=true from hs) Bool.false_ne_true
 | str i=>
  obtain ⟨t,rfl⟩:=rx
  cases y with
  | non=>cases ry;exact PySem.EqNone.ne_str_none (z0 I q (by simp))
  | bl j=>cases ry;exact PySem.EqMixed.ne_str_bool (z0 I q (by simp))
  | int j=>obtain ⟨t',rfl⟩:=ry;exact PySem.EqMixed.ne_str_int (z0 I q (by simp))
  | str j=>obtain ⟨t',rfl⟩:=ry;exact ne_str (z0 I q (congrArg not Yu))
  | _=>exact absurd (show false=true from hs) Bool.false_ne_true
 | byt i=>
  obtain ⟨t,rfl⟩:=rx
  cases y with
  | byt j=>obtain ⟨t',rfl⟩:=ry;exact PySem.W.ne_bytes (z0 I q (congrArg not Yw))
  | _=>exact absurd (show false=true from hs) Bool.false_ne_true
 | _=>cases y <;> exact absurd (show false=true from hs) Bool.false_ne_true
theorem Zv:OpR X (compareOp .Lt) (rI0 fun i j=>.bl (decide (i<j))):=opB0 fun _ _ _ _ _ _ _ q=>lt_int q
theorem op_le:OpR X (compareOp .LtE) (rI0 fun i j=>.bl (decide (i≤j))):=opB0 fun _ _ _ _ _ _ _ q=>le_int q
theorem qC:OpR X (compareOp .Gt) (rI0 fun i j=>.bl (decide (j<i))):=opB0 fun _ _ _ _ _ _ _ q=>gt_int q
theorem kf:OpR X (compareOp .GtE) (rI0 fun i j=>.bl (decide (j≤i))):=opB0 fun _ _ _ _ _ _ _ q=>ge_int q
theorem nomark (b:Expr) {op:CmpOp} (h:op≠.In:=by decide) (h2:op≠.NotIn:=by decide):behindInMarks op b=false:=by
 have e1:(op == CmpOp.In)=false:=by cases op <;> first | rfl | exact absurd rfl h
 have e2:(op == CmpOp.NotIn)=false:=by cases op <;> first | rfl | exact absurd rfl h2
 cases b <;> simp [behindInMarks,e1,e2]
theorem wa {op:CmpOp} {r:R2} (ho:OpR X (compareOp op) r) (ha:PE X a ta) (hb:PE X b tb) (hm:behindInMarks op b=false):PE X (.Compare a [op] [b] pos) (tOp r ta tb):=by
 intro pins s σ H Q I h
 exact wpAny_Compare1 (binT ha hb I h fun v u s2 x y H2 I2 rx ry q=>ho pins s2 σ H2 x y v u Q I2 rx ry q) hm
def tTest (t:TE):TT:=fun σ H Q=>t σ H fun x H'=>∃ k,x = .bl k∧Q k H'
theorem zq {op:CmpOp} {r:R2} (ho:OpR X (compareOp op) r) (ha:PE X a ta) (hb:PE X b tb) (hm:behindInMarks op b=false):PT X (.Compare a [op] [b] pos) (tTest (tOp r ta tb)):=by
 intro pins s σ H Q I h
 refine wpAny_isTrue_Compare1 (thn (ha pins s σ H _ I h) fun v s1 ⟨x,H1,I1,r1,q1⟩=>thn (hb pins s1 σ H1 _ I1 q1) fun u s2 ⟨y,H2,I2,r2,q2⟩=>
  thn (ho pins s2 σ H2 x y v u _ I2 r1 r2 q2) fun c s3 ⟨z,H3,I3,r3,k,e,q3⟩=>?_) hm
 subst e
 cases r3
 exact wpAny_truthy_bool ⟨H3,I3,q3⟩
theorem line63:(sizeLine:Nat)<2 ^ 63:=by rw [sizeLine_eq];decide
theorem vals1 {x:V} {us:List Value} (r:Vals [x] us):∃ u,us=[u]∧RelV x u:=by
 cases r with
 | cons r1 r2=>cases r2;exact ⟨_,rfl,r1⟩
theorem vals2 {x y:V} {us:List Value} (r:Vals [x,y] us):∃ u w',us=[u,w']∧RelV x u∧RelV y w':=by
 cases r with
 | cons r1 r2=>
  cases r2 with
  | cons r3 r4=>cases r4;exact ⟨_,_,rfl,r1,r3⟩
theorem va (hc:X.calm=true):CallR X (.builtin "min") (fun xs H Q=>∃ i j,xs=[.int i,.int j]∧Q (.int (if j<i then j else i)) H):=by
 intro pins s σ H xs us Q I r h
 obtain ⟨i,j,rfl,q⟩:=h
 obtain ⟨u,w',rfl,⟨t,rfl⟩,⟨t',rfl⟩⟩:=vals2 r
 refine min_two_ints (I.ok.hd hc) fun h' tk k=>⟨_,H,I.kept k,?_,q⟩
 by_cases hj:j<i
 ·rw [if_pos hj,if_pos hj];exact ⟨_,rfl⟩
 ·rw [if_neg hj,if_neg hj];exact ⟨_,rfl⟩
end
end L2
namespace L2
open PySem PySem.Spec PyProof.Rows
structure ObjM (h:Heap) (x dx C:Addr) (mA:Str→Option Value):Prop where
 obj:h.get? x=some (PySem.W.instObj C dx)
 ns:h.Ns1 dx mA
 ne:dx≠x
theorem Y4 {h:Heap} {dx:Addr} {mA:Str→Option Value} (n:h.Ns1 dx mA):∃ od,h.get? dx=some od∧∀ name,PySem.W.lookIn name od=some (mA name):=by
 obtain ⟨o,es,ep,ho,hd,hk,_,hm⟩:=n
 refine ⟨o,ho,fun name=>?_⟩
 have e:=hm name
 unfold nsFind findBy at e
 rw [← Array.find?_toList] at e
 unfold PySem.W.lookIn
 rw [hd]
 dsimp only
 split
 ·rename_i y q
  rw [q] at e
  exact congrArg some e
 ·rename_i q
  rw [q] at e
  have a:es.toList.any (·.refKey)=false:=by
   rw [List.any_eq_false]
   intro y hy
   obtain ⟨z,t,hkey⟩:=hk y (Array.mem_toList_iff.mp hy)
   simp [DictEntry.refKey,hkey]
  have a':¬ es.toList.any (·.refKey)=true:=by rw [a];exact Bool.false_ne_true
  rw [if_neg a']
  exact congrArg some e
theorem ObjM.look {h:Heap} {x dx C:Addr} {mA:Str→Option Value} (I:ObjM h x dx C mA):∃ od,PySem.W.InstAt h x (PySem.W.instObj C dx) C (some od)∧∀ name,PySem.W.lookIn name od=some (mA name):=
 let ⟨od,ho,hl⟩:=Y4 I.ns
 ⟨od,⟨I.obj,rfl,rfl,ho⟩,hl⟩
section
variable {prog:Program} {w:World} {A:Around} {E:Value→Shared→Prop} {s:Shared} {K:PySem.W.Frag} {x dx C f:Addr} {mA:Str→Option Value} {name:Str} {v:Value}
theorem get_map {expr:Bool} {Q:Value→Shared→Prop} (X:K.In s.heap) (I:ObjM s.heap x dx C mA) (hg:PySem.W.plainGet K C name=true) (hh:PySem.W.hasDictIn K C=true)
  (ha:PySem.W.findIn K (.ref C) name=some none) (hv:mA name=some v) (hv':PySem.W.handedIn v=true) (h:Q v { s with toks:=s.toks+1 }) :
  wpAny (model prog w) A (getAttr (.ref x) name expr) Q E s:=by
 obtain ⟨od,J,hl⟩:=I.look
 exact PySem.W.get_value X J (PySem.W.plainGet_of hg).1 (PySem.W.findObj_own hh ha rfl (by rw [hl,hv])) hv' h
theorem set_map {ns:List Str} {Q:Unit→Shared→Prop} (X:K.In s.heap) (I:ObjM s.heap x dx C mA)
  (hs:PySem.W.findIn K (.ref C) "__setattr__" = some (some (.builtin "object.__setattr__"))) (hp:PySem.W.plainOver K C=true) (ht:PySem.W.takerIn K C name=some none) (hh:PySem.W.hasDictIn K C=true)
  (hw:PySem.Within mA ns) (hsz:ns.length≤sizeLine)
  (h:∀ h',ObjM h' x dx C (fun y=>if y=name then some v else mA y)→Heap.SameBut dx s.heap h'→Q () { s with heap:=h',toks:=s.toks+2 }) :
  wpAny (model prog w) A (setAttr (.ref x) name v) Q E s:=by
 obtain ⟨od,J,hl⟩:=I.look
 refine PySem.W.set_plain X J hs (PySem.W.osa_open (s:={ s with toks:=s.toks+1 }) (r:=none) X J hp ht fun b=>?_)
 obtain ⟨cd,hc,hd'⟩:=PySem.W.any_some hh
 have hx:s.heap.get? x=some ⟨.ref C,some dx,.plain,#[]⟩:=I.obj
 refine wpAny_bind (wpAny_pure (wpAny_bind (wpAny_bind (wpAny_loadPart hx (wpAny_bind (PySem.W.Looks.here (s:={ s with toks:=s.toks+1 }) (PySem.W.looks_clsIn X hc) ?_))))))
 rw [hd']
 refine wpAny_pure (a:=some dx) (wpAny_bind (wpAny_pure (wpAny_bind ?_)))
 refine wpAny_nsSet1 (s:={ s with toks:=s.toks+1 }) I.ns fun h' hn2 hs2=>?_
 obtain ⟨oD,esD,epD,hoD,hdD,hcD⟩:=hn2.count (PySem.Within.cons name v hw)
 refine wpAny_bind (wpAny_lookBehind hoD (by rw [hdD];exact pastItsLine_dict (Nat.le_trans hcD (by rw [List.length_cons];omega))) ?_)
 exact wpAny_pure (h _ ⟨(hs2.2 _ (Ne.symm I.ne)).trans I.obj,hn2,I.ne⟩ hs2)
theorem make_map {R:Result→Shared→Prop} {vs:List Value} {kw:List (Str × Value)} (X:K.In s.heap) (hm:PySem.W.makesIn K C=true)
  (hi:PySem.W.findIn K (.ref C) "__init__" = some (some (.ref f))) (hf:PySem.W.typeIn K (.ref f)=some (.type "function"))
  (h:codeAny (model prog w) (A.under (.builtin "type.__call__" ⟨.ref C :: vs,kw⟩)) (.call (.ref f) ⟨.ref (s.heap.objs.size+1) :: vs,kw⟩) (PySem.W.InitBack (s.heap.objs.size+1) R)
   { s with heap:=(s.heap.push PySem.W.emptyDict).push (PySem.W.instObj C s.heap.objs.size) }) :
  codeAny (model prog w) A (.call (.ref C) ⟨vs,kw⟩) R s:=by
 obtain ⟨hh,g,d,t,os⟩:=s
 exact PySem.W.make_core (PySem.W.makes_of X hm) (PySem.W.looks_findIn X hi) (fun self=>PySem.W.bind_fn X self hf) (.inl rfl) h
end
def putF (f:Str) (v:V):List (Str × V)→List (Str × V)
 | []=>[(f,v)]
 | (g,x) :: r=>if g=f then (g,v) :: r else (g,x) :: putF f v r
theorem uh (f g:Str) (v:V):∀ fs:List (Str × V),(putF f v fs).lookup g=if g=f then some v else fs.lookup g
 | []=>by
  show List.lookup g [(f,v)]=_
  by_cases h:g=f
  ·have hb:(g == f)=true:=beq_iff_eq.mpr h
   simp only [List.lookup,hb,if_pos h]
  ·have hb:(g == f)=false:=beq_eq_false_iff_ne.mpr h
   simp only [List.lookup,hb,if_neg h]
 | (k,x) :: r=>by
  have ih:=uh f g v r
  rw [show putF f v ((k,x) :: r)=(if k=f then (k,v) :: r else (k,x) :: putF f v r) from rfl]
  by_cases hk:k=f
  ·rw [if_pos hk]
   by_cases h:g=k
   ·have hb:(g == k)=true:=beq_iff_eq.mpr h
    simp only [List.lookup,hb,if_pos (h.trans hk)]
   ·have hb:(g == k)=false:=beq_eq_false_iff_ne.mpr h
    simp only [List.lookup,hb,if_neg (fun e:g=f=>h (e.trans hk.symm))]
  ·rw [if_neg hk]
   by_cases h:g=k
   ·have hb:(g == k)=true:=beq_iff_eq.mpr h
    simp only [List.lookup,hb,if_neg (fun e:g=f=>hk (h.symm.trans e))]
   ·have hb:(g == k)=false:=beq_eq_false_iff_ne.mpr h
    simp only [List.lookup,hb]
    exact ih
theorem kT (f:Str) (v:V):∀ fs:List (Str × V),f∈(putF f v fs).map (·.1)∧∀ g,g∈fs.map (·.1)→g∈(putF f v fs).map (·.1)
 | []=>⟨by simp [putF],fun g h=>by simp at h⟩
 | (k,x) :: r=>by
  obtain ⟨i1,i2⟩:=kT f v r
  rw [show putF f v ((k,x) :: r)=(if k=f then (k,v) :: r else (k,x) :: putF f v r) from rfl]
  by_cases hk:k=f
  ·rw [if_pos hk]
   subst hk
   exact ⟨by simp,fun g h=>by simpa using h⟩
  ·rw [if_neg hk]
   refine ⟨?_,fun g h=>?_⟩
   ·rw [List.map_cons]
    exact List.mem_cons_of_mem _ i1
   ·rw [List.map_cons] at h ⊢
    rcases List.mem_cons.mp h with e | e
    ·exact List.mem_cons.mpr (.inl e)
    ·exact List.mem_cons_of_mem _ (i2 g e)
theorem ui (f:Str) (v:V):∀ fs:List (Str × V),(putF f v fs).length≤fs.length+1
 | []=>by simp [putF]
 | (k,x) :: r=>by
  have ih:=ui f v r
  rw [show putF f v ((k,x) :: r)=(if k=f then (k,v) :: r else (k,x) :: putF f v r) from rfl]
  by_cases hk:k=f
  ·rw [if_pos hk,List.length_cons,List.length_cons];omega
  ·rw [if_neg hk,List.length_cons,List.length_cons];omega
theorem RelO.some_of {v:V} {o:Option Value} (r:RelO (some v) o):∃ u,o=some u∧RelV v u:=by
 cases o with
 | none=>exact (show False from r).elim
 | some u=>exact ⟨u,rfl,r⟩
theorem Vg {v:V} {u:Value} (r:RelV v u):PySem.W.handedIn u=true:=by
 cases v with
 | non=>cases (show u=Value.none from r);rfl
 | bl b=>cases (show u=Value.bool b from r);rfl
 | int i=>obtain ⟨t,e⟩:=(show ∃ t,u=Value.int i t from r);cases e;rfl
 | str x=>obtain ⟨t,e⟩:=(show ∃ t,u=Value.str x t from r);cases e;rfl
 | byt b=>obtain ⟨t,e⟩:=(show ∃ t,u=Value.bytes b t from r);cases e;rfl
 | flt b=>obtain ⟨t,e⟩:=(show ∃ t,u=Value.float b t from r);cases e;rfl
 | ref a=>cases (show u=Value.ref a from r);rfl
 | ty n=>cases (show u=Value.type n from r);rfl
section
variable {P:Program} {w:World} {H H':Hp} {h h':Heap} {a C dx:Addr} {fs fs':List (Str × V)}
theorem Yn (hok:HOk P w H h) (e:H a=some (.ins C dx fs)):∃ mA,ObjM h a dx C mA∧(∀ f,RelO (fs.lookup f) (mA f))∧PySem.Within mA (fs.map (·.1))∧fs.length≤1000∧H dx=some (.own a):=by
 obtain ⟨d,z,ne,ob,mA,n,r,q⟩:=(show ObjOk P w H h a (.ins C dx fs) from hok a _ e)
 exact ⟨mA,⟨ob,n,ne⟩,r,q,z,d⟩
end
structure Cls (K:PySem.W.Frag) (C:Addr):Prop where
 pg:PySem.W.plainGet K C Str.empty=true
 hd:PySem.W.hasDictIn K C=true
 po:PySem.W.plainOver K C=true
 sa:PySem.W.findIn K (.ref C) "__setattr__" = some (some (.builtin "object.__setattr__"))
theorem Cls.get {K:PySem.W.Frag} {C:Addr} (c:Cls K C) (f:Str):PySem.W.plainGet K C f=true:=c.pg
def NoAttr (K:PySem.W.Frag) (C:Addr) (f:Str):Prop:=PySem.W.findIn K (.ref C) f=some none
theorem NoAttr.taker {K:PySem.W.Frag} {C:Addr} {f:Str} (n:NoAttr K C f):PySem.W.takerIn K C f=some none:=by
 unfold PySem.W.takerIn
 rw [show PySem.W.findIn K (.ref C) f=some none from n]
 rfl
section
variable {X:Cx} {pins:List (Addr × Obj)} {σ:St} {H:Hp} {s:Shared} {a C dx:Addr} {fs:List (Str × V)} {f:Str} {v:V} {A:Around} {E:Value→Shared→Prop}
theorem WT {b:Bool} {Q:Value→Shared→Prop} (I:Inv X pins σ H s) (e:H a=some (.ins C dx fs)) (c:Cls X.K C) (n:NoAttr X.K C f) (l:fs.lookup f=some v)
  (h:∀ u s',Inv X pins σ H s'→RelV v u→Q u s'):wpAny (model X.prog X.w) A (getAttr (.ref a) f b) Q E s:=by
 obtain ⟨mA,O,r,_,_,_⟩:=Yn I.hok e
 obtain ⟨u,hu,ru⟩:=RelO.some_of (v:=v) (o:=mA f) (by rw [← l];exact r f)
 exact get_map I.kIn O (c.get f) c.hd n hu (Vg ru) (h u _ (I.tok _) ru)
theorem Wq {y:V} {u:Value} {Q:Unit→Shared→Prop} (I:Inv X pins σ H s) (e:H a=some (.ins C dx fs)) (c:Cls X.K C) (n:NoAttr X.K C f) (hl:fs.length<1000) (ry:RelV y u)
  (h:∀ s',Inv X pins σ (upd H a (.ins C dx (putF f y fs))) s'→Q () s'):wpAny (model X.prog X.w) A (setAttr (.ref a) f u) Q E s:=by
 obtain ⟨mA,O,r,wi,_,ho⟩:=Yn I.hok e
 have hz:(fs.map (·.1)).length≤sizeLine:=by rw [List.length_map,sizeLine_eq];omega
 refine set_map I.kIn O c.sa c.po n.taker c.hd wi hz fun h' O' sb=>h _ ?_
 have hd:∃ o,h'.get? dx=some o:=let ⟨o,_,_,e',_⟩:=O'.ns;⟨o,e'⟩
 refine I.write (x:=a) (e:=dx) (by rw [e];exact True.intro) (.inr ho) (fun b q hb z=>(sb.2 b hb).trans z) hd ?_
 refine ⟨by rw [zl O.ne];exact ho,?_,O.ne,O'.obj,_,O'.ns,fun g=>?_,fun g hg=>?_⟩
 ·have:=ui f y fs;omega
 ·show RelO ((putF f y fs).lookup g) (if g=f then some u else mA g)
  rw [uh]
  by_cases q:g=f
  ·rw [if_pos q,if_pos q];exact ry
  ·rw [if_neg q,if_neg q];exact r g
 ·by_cases q:g=f
  ·rw [q];exact (kT f y fs).1
  ·refine (kT f y fs).2 g (wi g fun z=>hg ?_)
   show (if g=f then some u else mA g)=none
   rw [if_neg q];exact z
theorem Inv.made (I:Inv X pins σ H s):Inv X pins σ (upd (upd H s.heap.objs.size (.own (s.heap.objs.size+1))) (s.heap.objs.size+1) (.ins C s.heap.objs.size []))
  { s with heap:=(s.heap.push PySem.W.emptyDict).push (PySem.W.instObj C s.heap.objs.size) }:=by
 have e1:(s.heap.push PySem.W.emptyDict).get? s.heap.objs.size=some PySem.W.emptyDict:=Heap.get?_push_size s.heap rfl
 have e2:((s.heap.push PySem.W.emptyDict).push (PySem.W.instObj C s.heap.objs.size)).get? (s.heap.objs.size+1)=some (PySem.W.instObj C s.heap.objs.size):=by
  have:=Heap.get?_push_size (s.heap.push PySem.W.emptyDict) (o:=PySem.W.instObj C s.heap.objs.size) rfl
  rwa [Heap.size_push] at this
 have e3:(s.heap.push PySem.W.emptyDict).Ns s.heap.objs.size (fun _=>none):=⟨PySem.W.emptyDict,#[],_,e1,rfl,(fun e he=>absurd he (by simp)),fun _=>rfl⟩
 have I1:=I.laid (a:=s.heap.objs.size) (o:=.own (s.heap.objs.size+1)) (h':=s.heap.push PySem.W.emptyDict) (t':=s.toks) (fun b u q=>Heap.get?_push_of_some _ q) (Nat.le_refl _) ⟨_,e1⟩
 refine I1.laid (a:=s.heap.objs.size+1) (o:=.ins C s.heap.objs.size []) (t':=s.toks) (fun b u q=>Heap.get?_push_of_some _ q) (Nat.le_of_eq (Heap.size_push _ _)) ?_
 have ne:s.heap.objs.size≠s.heap.objs.size+1:=Nat.ne_of_lt (Nat.lt_succ_self _)
 refine ⟨by rw [zl ne,zf],Nat.zero_le _,ne,e2,fun _=>none,(Heap.Ns1.of_empty e3).at fun o q=>Heap.get?_push_of_some _ q,fun _=>True.intro,fun y hy=>absurd rfl hy⟩
theorem attr_of {prog:Program} {w:World} {env:Env} {e:Expr} {f:Str} {pos:Pos} {s:Shared} {Q:Value→Shared→Prop} (hb:attributeBase e f env (eval e env)=eval e env)
  (h:wpAny (model prog w) A (eval e env) (fun o s₁=>wpAny (model prog w) A (getAttr o f true) Q E s₁) E s):wpAny (model prog w) A (eval (.Attribute e f pos) env) Q E s:=
 Attribute_any_ h (by rw [arm_eval_Attribute,hb])
end
def tFld (K:PySem.W.Frag) (ta:TE) (f:Str):TE:=fun σ H Q=>ta σ H fun x H1=>∃ a C dx fs v,x = .ref a∧H1 a=some (.ins C dx fs)∧Cls K C∧NoAttr K C f∧fs.lookup f=some v∧Q v H1
def sFld (K:PySem.W.Frag) (ta tv:TE) (f:Str):TS:=fun D σ H=>tv σ H fun y H1=>ta σ H1 fun x H2=>∃ a C dx fs,x = .ref a∧H2 a=some (.ins C dx fs)∧Cls K C∧NoAttr K C f∧fs.length<1000 ∧
 D.nx σ (upd H2 a (.ins C dx (putF f y fs)))
section
variable {X:Cx} {o e value:Expr} {f:Str} {pos pos' tpos:Pos} {ta tv:TE}
theorem pe_fld (he:PE X e ta) (hb:attributeBase e f X.env (eval e X.env)=eval e X.env):PE X (.Attribute e f pos) (tFld X.K ta f):=by
 intro pins s σ H Q I h
 refine attr_of hb (thn (he pins s σ H _ I h) fun u s1 ⟨x,H1,I1,rx,a,C,dx,fs,v,ex,ea,c,n,l,q⟩=>?_)
 subst ex
 obtain rfl:u=Value.ref a:=rx
 exact WT I1 ea c n l fun u' s2 I2 ru=>⟨v,H1,I2,ru,q⟩
theorem ps_fld (ha:PE X o ta) (hv:PE X value tv) (hs:swapsWith value (some (.Attribute o f pos')) pos.line X.env=pure false):PS X (.Assign [.Attribute o f pos'] value pos) (sFld X.K ta tv f):=by
 intro pins s σ H D I h
 refine plainObj_wpAny_Assign_Attribute (thn (hv pins s σ H _ I h) fun u s1 ⟨y,H1,I1,ry,q⟩=>thn (ha pins s1 σ H1 _ I1 q) fun ov s2 ⟨x,H2,I2,rx,a,C,dx,fs,ex,ea,c,n,l,q2⟩=>?_) hs
 subst ex
 obtain rfl:ov=Value.ref a:=rx
 exact Wq I2 ea c n l ry fun s3 I3=>⟨σ,_,I3,q2⟩
end
section
variable {X:Cx} {pins:List (Addr × Obj)} {σ:St} {H:Hp} {s:Shared} {A:Around} {E:Value→Shared→Prop} {Q:Value→Shared→Prop} {c:Value} {b:Bool}
end
end L2
namespace L2
open PySem PySem.Spec PyProof.Rows
structure Room (k:Nat) (A:Around):Prop where
 hd:A.handled=none
 dp:A.depth+3 * k+5<recursionLimit
 un:A.units+16 * k+200<cLine
theorem Room.mono {j k:Nat} {A:Around} (r:Room k A) (h:j≤k):Room j A:=⟨r.hd,by have:=r.dp;omega,by have:=r.un;omega⟩
theorem Room.deeper {k:Nat} {A:Around} (r:Room (k+1) A) (env:Env):Room k (A.deeper env):=
 ⟨r.hd,by have:=r.dp;show A.depth+1+3 * k+5<_;omega,by have:=r.un;show A.units+3+16 * k+200<_;omega⟩
theorem WP {A:Around} {C:Addr} {us:List Value} {kw:List (Str × Value)}:(A.under (.builtin "type.__call__" ⟨.ref C :: us,kw⟩)).depth=A.depth+1:=by
 first | rfl | simp [Around.under,Code.weight,Code.isCreation,Code.isGuard,Code.isCaller,Code.frames,Code.isFrame,guardIds]
theorem WO {A:Around} {C:Addr} {us:List Value} {kw:List (Str × Value)}:(A.under (.builtin "type.__call__" ⟨.ref C :: us,kw⟩)).units=A.units+1:=by
 first | rfl | simp [Around.under,Code.cUnits,Code.frames,Code.isFrame]
theorem Room.make {k:Nat} {A:Around} (r:Room (k+1) A) (C:Addr) (us:List Value) (kw:List (Str × Value)):Room k (A.under (.builtin "type.__call__" ⟨.ref C :: us,kw⟩)):=
 ⟨r.hd,by have:=r.dp;rw [WP];omega,by have:=r.un;rw [WO];omega⟩
theorem Room.depth {k:Nat} {A:Around} (r:Room k A):A.depth<recursionLimit:=by have:=r.dp;omega
theorem Room.units {k:Nat} {A:Around} (r:Room k A):A.units+64<cLine:=by have:=r.un;omega
def tNil:TA:=fun _ H Q=>Q [] H
def tCons (ta:TE) (tr:TA):TA:=fun σ H Q=>ta σ H fun x H1=>tr σ H1 fun xs H2=>Q (x :: xs) H2
section
variable {X:Cx} {e:Expr} {es:List Expr} {te:TE} {t:TA} {pos:Pos}
theorem zb:PA X [] tNil:=fun _ _ _ _ H Q I h=>Calls.spliced_nil ⟨[],H,I,.nil,h⟩
theorem pa_cons (ha:PE X e te) (hr:PA X es t) (hs:starEach (e :: es) X.env=(false,eval e X.env) :: starEach es X.env:=by rfl):PA X (e :: es) (tCons te t):=by
 intro pos pins s σ H Q I h
 rw [hs]
 show wpAny _ _ (spliced ((false,eval e X.env) :: backTo pos (starEach es X.env))) _ _ s
 refine Calls.spliced_cons (thn (ha pins s σ H _ I h) fun u s1 ⟨x,H1,I1,r1,q1⟩=>?_)
 exact thn (hr pos pins s1 σ H1 _ I1 q1) fun us s2 ⟨xs,H2,I2,r2,q2⟩=>⟨x :: xs,H2,I2,.cons r1 r2,q2⟩
def tTup (t:TA):TE:=fun σ H Q=>t σ H fun xs H1=>xs.length≤sizeLine∧∀ p,H1 p=none→Q (.ref p) (upd H1 p (.tup xs))
def tLst (t:TA):TE:=fun σ H Q=>t σ H fun xs H1=>xs.length≤sizeLine∧∀ p,H1 p=none→Q (.ref p) (upd H1 p (.lst xs))
theorem vG {x1} (h:PA X es t):PE X (.Tuple es x1 pos) (tTup t):=by
 intro pins s σ H Q I hq
 refine wpAny_Tuple_spliced (thn (h pos pins s σ H _ I hq) fun us s1 ⟨xs,H1,I1,r,z,q⟩=>⟨by rw [← r.length];exact z,?_⟩)
 have hf:H1 s1.heap.objs.size=none:=I1.hok.fresh (Nat.le_refl _)
 refine ⟨.ref s1.heap.objs.size,upd H1 s1.heap.objs.size (.tup xs),I1.laid (t':=s1.toks) (fun b u e=>Heap.get?_push_of_some _ e) (Nat.le_refl _) ?_,rfl,q _ hf⟩
 exact ⟨z,us,r,⟨_,Heap.get?_push_size _ rfl,rfl,_,rfl⟩⟩
theorem zu (h:PA X es t):PE X (.List es pos) (tLst t):=by
 intro pins s σ H Q I hq
 refine wpAny_List_spliced (thn (h pos pins s σ H _ I hq) fun us s1 ⟨xs,H1,I1,r,z,q⟩=>⟨by rw [← r.length];exact z,?_⟩)
 have hf:H1 s1.heap.objs.size=none:=I1.hok.fresh (Nat.le_refl _)
 refine ⟨.ref s1.heap.objs.size,upd H1 s1.heap.objs.size (.lst xs),I1.laid (t':=s1.toks) (fun b u e=>Heap.get?_push_of_some _ e) (Nat.le_refl _) ?_,rfl,q _ hf⟩
 exact ⟨z,us,0,r,Heap.get?_push_size _ rfl⟩
end
abbrev Sp:=List V→Hp→VK→XK→Prop
abbrev CXT:=List Env→Hp→Shared→XK→Value→Shared→Prop
structure Env0 (P:Program) (w:World) (K:PySem.W.Frag) (mg:Str→Option Value) (base:Heap) (A:Around) (outer:List Env) (s:Shared) (H:Hp):Prop where
 frames:A.frames=some outer
 mod:Mod K mg base
 bs:∀ b o,base.get? b=some o→s.heap.get? b=some o∧H b=none
 bsz:base.objs.size≤s.heap.objs.size
 funs:s.heap.FunFrames base outer
 frf:∀ b∈frs outer,H b=none
 hok:HOk P w H s.heap
 bare:AllBare s.gens
def CE (outer:List Env) (P:Program) (w:World) (H:Hp) (s:Shared) (Q:VK) (u:Value) (s':Shared):Prop:=
 ∃ v H',s'.os=s.os∧AllBare s'.gens∧Un (frs outer) [] H H' s.heap s'.heap∧HOk P w H' s'.heap∧RelV v u∧Q v H'
def CR (CX:CXT) (outer:List Env) (P:Program) (w:World) (H:Hp) (s:Shared) (Q:VK) (E:XK) (r:Result) (s':Shared):Prop:=
 match r with
 | .ok (.ret u)=>CE outer P w H s Q u s'
 | .ok _=>False
 | .error e=>CX outer H s E e s'
structure FnOk (P:Program) (w:World) (K:PySem.W.Frag) (mg:Str→Option Value) (base:Heap) (CX:CXT) (k:Nat) (f:Addr) (fd:FuncData) (ps:List Str) (sp:Sp):Prop where
 len:∀ vs H Q E,sp vs H Q E→vs.length=ps.length
 run:∀ (A:Around) (outer:List Env) (s:Shared) (H:Hp) (args:Args) (us:List Value) (vs:List V) (Q:VK) (E:XK),Room k A→Env0 P w K mg base A outer s H→BindsTo s fd args (ps.zip us)→Vals vs us→sp vs H Q E →
  codeAny (model P w) A (.call (.ref f) args) (CR CX outer P w H s Q E) s
theorem FnOk.mono {P:Program} {w:World} {K:PySem.W.Frag} {mg:Str→Option Value} {base:Heap} {CX:CXT} {j k:Nat} {f:Addr} {fd:FuncData} {ps:List Str} {sp:Sp} (F:FnOk P w K mg base CX j f fd ps sp) (h:j≤k) :
  FnOk P w K mg base CX k f fd ps sp:=⟨F.len,fun A outer s H args us vs Q E hr=>F.run A outer s H args us vs Q E (hr.mono h)⟩
theorem Env0.make {P:Program} {w:World} {K:PySem.W.Frag} {mg:Str→Option Value} {base:Heap} {A:Around} {outer:List Env} {s:Shared} {H:Hp} (e:Env0 P w K mg base A outer s H) (C:Addr) (us:List Value) (kw:List (Str × Value)) :
  Env0 P w K mg base (A.under (.builtin "type.__call__" ⟨.ref C :: us,kw⟩)) outer s H:=⟨by first | exact e.frames | (simpa [Around.under,Code.envs,Code.isFrame,pushEnvs] using e.frames),e.mod,e.bs,e.bsz,e.funs,e.frf,e.hok,e.bare⟩
section
variable {X:Cx} {pins:List (Addr × Obj)} {σ:St} {H:Hp} {s s':Shared}
theorem Inv.env0 (I:Inv X pins σ H s):Env0 X.prog X.w X.K X.mg X.base X.A X.stack s H:=
 ⟨I.ok.frames,I.ok.mod,I.bs,Nat.le_trans I.ok.bsz I.sz,I.stack,I.stkFree,I.hok,I.bare⟩
theorem Inv.after {Q:VK} {u:Value} (I:Inv X pins σ H s) (h:CE X.stack X.prog X.w H s Q u s'):EP X pins σ Q u s':=by
 obtain ⟨v,H',os,bare,un,hok,r,q⟩:=h
 obtain ⟨hh,g,d,t,os'⟩:=s'
 obtain rfl:os' = s.os:=os
 exact ⟨v,H',I.call (h':=hh) (g':=g) (d':=d) (t':=t) (ch:=[]) un hok bare (fun b z=>absurd z (by simp)),r,q⟩
end
def tCall (sp:Sp) (dvs:List V) (E:XK) (t:TA):TE:=fun σ H Q=>t σ H fun vs H1=>sp (vs++dvs) H1 Q E
def tMake (C:Addr) (sp:Sp) (dvs:List V) (E:XK) (t:TA):TE:=fun σ H Q=>t σ H fun vs H1=>∀ x dx,H1 x=none→H1 dx=none→dx≠x →
 sp (.ref x :: (vs++dvs)) (upd (upd H1 dx (.own x)) x (.ins C dx [])) (fun v H2=>v = .non∧Q (.ref x) H2) E
def Binds (K:PySem.W.Frag) (fd:FuncData) (ps:List Str) (ds:List Value):Prop:=
 ∀ (s:Shared) (us:List Value),K.In s.heap→(us++ds).length=ps.length→BindsTo s fd ⟨us,[]⟩ (ps.zip (us++ds))
theorem Binds.all {K:PySem.W.Frag} {fd:FuncData} {ps:List Str} (h:∀ us:List Value,us.length=ps.length→bindArgs fd ⟨us,[]⟩=pure (ps.zip us)):Binds K fd ps []:=fun s us _ hl=>by
 rw [List.append_nil] at hl ⊢
 exact .of_eq (h us hl)
def Passes (CX:CXT) (X:Cx) (E:XK):Prop:=∀ (pins:List (Addr × Obj)) (σ:St) (H:Hp) (s:Shared) (e:Value) (s':Shared),Inv X pins σ H s→CX X.stack H s E e s'→X.xe e s'
section
variable {X:Cx} {CX:CXT} {k:Nat} {f C:Addr} {fd:FuncData} {ps:List Str} {sp:Sp} {dvs:List V} {ds:List Value} {E:XK} {x m:Str} {p pos apos:Pos} {e o:Expr} {es:List Expr} {ta:TE} {t:TA}
theorem run_fn {pins:List (Addr × Obj)} {σ:St} {H:Hp} {s:Shared} {Q:VK} {us:List Value} {vs:List V} (F:FnOk X.prog X.w X.K X.mg X.base CX k f fd ps sp) (hr:Room k X.A) (hb:Binds X.K fd ps ds) (hd:Vals dvs ds) (hx:Passes CX X E)
  (I:Inv X pins σ H s) (r:Vals vs us) (h:sp (vs++dvs) H Q E):wpAny (model X.prog X.w) X.A (call (.ref f) us) (EP X pins σ Q) X.xe s:=by
 have r2:Vals (vs++dvs) (us++ds):=r.append hd
 have hl:(us++ds).length=ps.length:=by rw [← r2.length];exact F.len _ _ _ _ h
 refine wpAny_call (codeAny_mono (F.run X.A X.stack s H ⟨us,[]⟩ (us++ds) (vs++dvs) Q E hr I.env0 (hb s us I.kIn hl) r2 h) fun r s' hq=>?_)
 cases r with
 | error e=>exact hx pins σ H s e s' I hq
 | ok fl=>
  cases fl with
  | ret u=>exact I.after hq
  | next=>exact False.elim hq
  | brk=>exact False.elim hq
  | cont=>exact False.elim hq
theorem zi (F:FnOk X.prog X.w X.K X.mg X.base CX k f fd ps sp) (hr:Room k X.A) (hg:Gl X x) (hm:X.mg x=some (.ref f)) (hk:PySem.W.keepIn X.K (.ref f)=true) (hb:Binds X.K fd ps ds) (hd:Vals dvs ds) (hx:Passes CX X E)
  (ha:PA X (e :: es) t) (hdb:(x == ("__debug__":Str))=false:=by decide) (he:starEach (e :: es) X.env=(false,eval e X.env) :: starEach es X.env:=by rfl) (hpl:(backTo pos (starEach es X.env)).any (·.1)=false:=by rfl) :
  PE X (.Call (.Name x p) (e :: es) [] pos) (tCall sp dvs E t):=by
 intro pins s σ H Q I h
 refine wpAny_Call_Name_kw (uz I hg hm ?_ hdb)
 refine PySem.W.callWith_K (h₀:=X.base) I.ok.mod.kin hk (thn (ha pos pins s σ H _ I h) fun us s1 ⟨vs,H1,I1,r,q⟩=>⟨I1.kIn,?_⟩) he hpl
 exact run_fn F hr hb hd hx I1 r q
structure Mk (K:PySem.W.Frag) (C f:Addr):Prop where
 makes:PySem.W.makesIn K C=true
 init:PySem.W.findIn K (.ref C) "__init__" = some (some (.ref f))
 fn:PySem.W.isFn K (.ref f)=true
 kp:PySem.W.keepIn K (.ref C)=true
theorem Qn {pins:List (Addr × Obj)} {σ:St} {H:Hp} {s:Shared} {Q:VK} {us:List Value} {vs:List V} (M:Mk X.K C f) (F:FnOk X.prog X.w X.K X.mg X.base CX k f fd ps sp) (hr:Room (k+1) X.A) (hb:Binds X.K fd ps ds) (hd:Vals dvs ds)
  (hx:Passes CX X E) (I:Inv X pins σ H s) (r:Vals vs us)
  (h:∀ x dx,H x=none→H dx=none→dx≠x→sp (.ref x :: (vs++dvs)) (upd (upd H dx (.own x)) x (.ins C dx [])) (fun v H2=>v = .non∧Q (.ref x) H2) E) :
  wpAny (model X.prog X.w) X.A (call (.ref C) us) (EP X pins σ Q) X.xe s:=by
 have hq:=h (s.heap.objs.size+1) s.heap.objs.size (I.hok.fresh (Nat.le_succ _)) (I.hok.fresh (Nat.le_refl _)) (Nat.ne_of_lt (Nat.lt_succ_self _))
 have I2:=Inv.made (C:=C) I
 have r2:Vals (V.ref (s.heap.objs.size+1) :: (vs++dvs)) (Value.ref (s.heap.objs.size+1) :: (us++ds)):=.cons rfl (r.append hd)
 have hl:(Value.ref (s.heap.objs.size+1) :: us++ds).length=ps.length:=by
  have e:=r2.length
  rw [F.len _ _ _ _ hq] at e
  exact e.symm
 refine wpAny_call (make_map (f:=f) I.kIn M.makes M.init (beq_iff_eq.mp M.fn) (codeAny_mono (F.run _ X.stack _ _ ⟨Value.ref (s.heap.objs.size+1) :: us,[]⟩ (Value.ref (s.heap.objs.size+1) :: (us++ds)) _ _ E (hr.make C us [])
  (I2.env0.make C us []) (hb _ (Value.ref (s.heap.objs.size+1) :: us) I2.kIn hl) r2 hq) fun r s' hq'=>?_))
 cases r with
 | error e=>exact hx pins σ _ _ e s' I2 hq'
 | ok fl=>
  cases fl with
  | ret u=>
   obtain ⟨v,H',I3,rv,ev,q3⟩:=I2.after hq'
   subst ev
   exact ⟨rv,⟨V.ref (s.heap.objs.size+1),H',I3,rfl,q3⟩⟩
  | next=>exact False.elim hq'
  | brk=>exact False.elim hq'
  | cont=>exact False.elim hq'
theorem yZ (M:Mk X.K C f) (F:FnOk X.prog X.w X.K X.mg X.base CX k f fd ps sp) (hr:Room (k+1) X.A) (hg:Gl X x) (hm:X.mg x=some (.ref C)) (hb:Binds X.K fd ps ds) (hd:Vals dvs ds) (hx:Passes CX X E)
  (ha:PA X (e :: es) t) (hdb:(x == ("__debug__":Str))=false:=by decide) (he:starEach (e :: es) X.env=(false,eval e X.env) :: starEach es X.env:=by rfl) (hpl:(backTo pos (starEach es X.env)).any (·.1)=false:=by rfl) :
  PE X (.Call (.Name x p) (e :: es) [] pos) (tMake C sp dvs E t):=by
 intro pins s σ H Q I h
 refine wpAny_Call_Name_kw (uz I hg hm ?_ hdb)
 refine PySem.W.callWith_K (h₀:=X.base) I.ok.mod.kin M.kp (thn (ha pos pins s σ H _ I h) fun us s1 ⟨vs,H1,I1,r,q⟩=>⟨I1.kIn,?_⟩) he hpl
 exact Qn M F hr hb hd hx I1 r q
theorem pe_make0 (M:Mk X.K C f) (F:FnOk X.prog X.w X.K X.mg X.base CX k f fd ps sp) (hr:Room (k+1) X.A) (hg:Gl X x) (hm:X.mg x=some (.ref C)) (hb:Binds X.K fd ps ds) (hd:Vals dvs ds) (hx:Passes CX X E)
  (hdb:(x == ("__debug__":Str))=false:=by decide):PE X (.Call (.Name x p) [] [] pos) (tMake C sp dvs E tNil):=by
 intro pins s σ H Q I h
 refine wpAny_Call_Name_kw (uz I hg hm ?_ hdb)
 exact PySem.W.callWith_K0 I.kIn M.kp (Qn (us:=[]) M F hr hb hd hx I .nil h)
end
section
variable {X:Cx} {CX:CXT} {k:Nat} {f C:Addr} {fd:FuncData} {ps ks:List Str} {sp:Sp} {E:XK} {x m:Str} {p pos apos kpos:Pos} {e o:Expr} {es:List Expr} {kws:List Keyword} {te ta:TE} {t tk:TA} {nm:Option Str}
variable {g:List Value→List Value→List Value} {gV:List V→List V→List V}
end
structure FnScope (N P:List Str) (sc:Scope):Prop where
 kind:sc.kind = .function
 co:sc.isCoroutine=false
 gen:sc.isGenerator=false
 nd:N.Nodup
 pre:N.take P.length=P
 par:∀ x∈P,sc.names.lookup x=some .local∨sc.names.lookup x=some .cell
 nofree:∀ y∈sc.names,y.2≠.free
theorem ZG {kindOf:Str→Option NameKind} {x:Str}:∀ {binds:List (Str × Value)} {m:Str→Option Value},(∀ v,(x,v)∉binds)→bindL kindOf binds m x=m x
 | [],_,_=>rfl
 | (n,v) :: r,m,h=>by
  unfold bindL
  rw [ZG fun w hw=>h w (List.mem_cons_of_mem _ hw)]
  split
  ·have:x≠n:=by rintro rfl;exact h v List.mem_cons_self
   simp [this]
  ·rfl
theorem ZI {kindOf:Str→Option NameKind} {x:Str}:∀ {binds:List (Str × Value)} {m:Str→Option Value},(∀ v,(x,v)∉binds)→bindC kindOf binds m x=m x
 | [],_,_=>rfl
 | (n,v) :: r,m,h=>by
  unfold bindC
  rw [ZI fun w hw=>h w (List.mem_cons_of_mem _ hw)]
  split
  ·rfl
  ·have:x≠n:=by rintro rfl;exact h v List.mem_cons_self
   simp [this]
theorem ZH {kindOf:Str→Option NameKind} {x:Str} {v:Value}:∀ {P:List Str} {vs:List Value} {i:Nat} {m:Str→Option Value},P.Nodup→P[i]? = some x→vs[i]? = some v→kindOf x=some .local →
  bindL kindOf (P.zip vs) m x=some v
 | [],_,_,_,_,h,_,_=>by simp at h
 | _ :: _,[],_,_,_,_,h,_=>by simp at h
 | p :: P,w :: vs,0,m,nd,h1,h2,hk=>by
  simp at h1 h2;subst h1;subst h2
  show bindL kindOf ((p,w) :: P.zip vs) m p=_
  unfold bindL
  rw [ZG fun v hv=>(List.nodup_cons.mp nd).1 (List.of_mem_zip hv).1,if_pos hk]
  simp
 | p :: P,w :: vs,i+1,m,nd,h1,h2,hk=>by
  show bindL kindOf ((p,w) :: P.zip vs) m x=_
  unfold bindL
  exact ZH (i:=i) (List.nodup_cons.mp nd).2 (by simpa using h1) (by simpa using h2) hk
theorem ZJ {kindOf:Str→Option NameKind} {x:Str} {v:Value}:∀ {P:List Str} {vs:List Value} {i:Nat} {m:Str→Option Value},P.Nodup→P[i]? = some x→vs[i]? = some v→kindOf x≠some .local →
  bindC kindOf (P.zip vs) m x=some v
 | [],_,_,_,_,h,_,_=>by simp at h
 | _ :: _,[],_,_,_,_,h,_=>by simp at h
 | p :: P,w :: vs,0,m,nd,h1,h2,hk=>by
  simp at h1 h2;subst h1;subst h2
  show bindC kindOf ((p,w) :: P.zip vs) m p=_
  unfold bindC
  rw [ZI fun v hv=>(List.nodup_cons.mp nd).1 (List.of_mem_zip hv).1,if_neg hk]
  simp
 | p :: P,w :: vs,i+1,m,nd,h1,h2,hk=>by
  show bindC kindOf ((p,w) :: P.zip vs) m x=_
  unfold bindC
  exact ZJ (i:=i) (List.nodup_cons.mp nd).2 (by simpa using h1) (by simpa using h2) hk
def start (N:List Str) (vs:List V):St:=vs.map some++List.replicate (N.length - vs.length) none
def cxOf (CX:CXT) (P:Program) (w:World) (K:PySem.W.Frag) (mg:Str→Option Value) (base:Heap) (N:List Str) (qual:Str) (scope:Scope) (f:Addr) (cd:Value) (A:Around) (outer:List Env) (s:Shared) (H:Hp) (E:XK):Cx where
 prog:=P
 w:=w
 K:=K
 mg:=mg
 base:=base
 A:=A.deeper (envOfC qual scope s.heap.objs.size f cd)
 N:=N
 s_0:=s
 H_0:=H
 env:=envOfC qual scope s.heap.objs.size f cd
 outer:=outer
 stack:=envOfC qual scope s.heap.objs.size f cd :: outer
 ex:=[]
 calm:=true
 fn:=fun _=>true
 pn:=[]
 xe:=fun e s'=>wpAny (model P w) (A.deeper (envOfC qual scope s.heap.objs.size f cd)) (leaving (envOfC qual scope s.heap.objs.size f cd) e) (fun _ s''=>CX outer H s E e s'') (fun e' s''=>CX outer H s E e' s'') s'
theorem QY {sc:Scope} {n:Nat} {x:Str} (h:sc.names.lookup x=some .cell):∃ c,(cellsFrom n sc.names []).lookup x=some c:=by
 have q:=PySem.W.cellsFrom_some sc.names n [] (.inl h)
 exact Option.isSome_iff_exists.mp q
theorem Ve {CX:CXT} {P:Program} {w:World} {K:PySem.W.Frag} {mg:Str→Option Value} {base:Heap} {N ps:List Str} {qual:Str} {scope:Scope} {f:Addr} {cd:Value} {A:Around} {outer:List Env} {s s1:Shared} {H:Hp} {E:XK} {us:List Value} {vs:List V}
  (S:FnScope N ps scope) (hd:A.handled=none) (e0:Env0 P w K mg base A outer s H) (hl:vs.length=ps.length) (r:Vals vs us)
  (x:InCallC s s.heap.objs.size (bindL (envOfC qual scope s.heap.objs.size f cd).kindOf (ps.zip us) fun _=>none) (cellsFrom (s.heap.objs.size+1) scope.names []) (bindC (envOfC qual scope s.heap.objs.size f cd).kindOf (ps.zip us) fun _=>none) s1) :
  Inv (cxOf CX P w K mg base N qual scope f cd A outer s H E) [] (start N vs) H s1:=by
 have hpl:ps.length≤N.length:=by have:=congrArg List.length S.pre;rw [List.length_take] at this;omega
 obtain ⟨h1,tk,rfl,hk⟩:=x.done
 have noA:∀ b:Addr,b∉(cxOf CX P w K mg base N qual scope f cd A outer s H E).ex:=fun b z=>absurd (show b∈([]:List Addr) from z) (by simp)
 refine ⟨⟨e0.mod,S.kind,rfl,rfl,Nat.le_refl _,fun y z c h1 h2=>?_,fun y hy=>?_,fun y c _ h=>?_,fun _=>hd,Around.frames_deeper e0.frames,.inr ⟨rfl,rfl⟩,fun b z=>absurd z (noA b),e0.bs,e0.bsz,fun b _ _=>noA b,fun b z=>absurd z (noA b),e0.funs,e0.frf⟩,
  rfl,e0.bare,Un.kept hk,⟨_,x.toInCall.ns,fun i y v h1 h2 h3=>?_⟩,fun y c h=>⟨_,x.cell y c h⟩,e0.hok.fresh (Nat.le_refl _),fun y c h=>?_,fun p hp=>absurd (show p∈([]:List (Addr × Obj)) from hp) (by simp),e0.hok.kept hk,?_⟩
 ·exact name_of_addr x.apart (PySem.mem_of_lookup h1) (PySem.mem_of_lookup h2)
 ·have hy:scope.names.lookup y=some .cell∨scope.names.lookup y=some .free:=hy
  rcases hy with hy | hy
  ·exact QY hy
  ·exact absurd rfl (S.nofree _ (PySem.mem_of_lookup hy))
 ·exact Nat.le_of_lt (x.above y c (PySem.mem_of_lookup h))
 ·have hi:i<vs.length:=by
   unfold start at h2
   by_cases hi:i<vs.length
   ·exact hi
   ·rw [List.getElem?_append_right (by simpa using hi)] at h2
    rw [List.getElem?_replicate] at h2
    split at h2 <;> cases h2
  have ha:vs[i]? = some v:=by
   unfold start at h2
   rw [List.getElem?_append_left (by simpa using hi),List.getElem?_map] at h2
   cases e:vs[i]? with
   | none=>rw [e] at h2;cases h2
   | some a=>rw [e] at h2;cases h2;rfl
  obtain ⟨u,hu,rv⟩:=r.get ha
  have hp:ps[i]? = some y:=by
   rw [← S.pre,List.getElem?_take_of_lt (by omega)];exact h1
  have ndP:ps.Nodup:=by rw [← S.pre];exact S.nd.sublist (List.take_sublist _ _)
  refine ⟨u,rv,?_⟩
  rcases S.par y (List.mem_of_getElem? hp) with k | k
  ·exact .inl ⟨k,ZH ndP hp hu k⟩
  ·obtain ⟨c,e⟩:=QY (n:=s.heap.objs.size+1) k
   refine .inr ⟨.inl k,c,e,?_⟩
   have q:=x.cell y c e
   rw [ZJ ndP hp hu (by show scope.names.lookup y≠_;rw [k];decide)] at q
   exact q
 ·exact e0.hok.fresh (Nat.le_of_lt (x.above y c (PySem.mem_of_lookup h)))
 ·unfold start
  show _=N.length
  rw [List.length_append,List.length_map,List.length_replicate]
  omega
theorem fn_of {CX:CXT} {P:Program} {w:World} {K:PySem.W.Frag} {mg:Str→Option Value} {base:Heap} {k:Nat} {f:Addr} {name qual:Str} {params:Arguments} {body:List Stmt} {scope:Scope} {dV kV doc pm cdv ct oc:Value} {an od:Option Addr}
  {osl:Array (Option Value)} {N ps:List Str} {sp:Sp} (lk:K.lookup f=some ⟨oc,od,.func (PySem.W.fnOf name qual params body scope dV kV doc pm an cdv ct),osl⟩) (hcd:PySem.W.codeIn K cdv qual=true) (S:FnScope N ps scope)
  (len:∀ vs H Q E,sp vs H Q E→vs.length=ps.length)
  (hbody:∀ (A:Around) (outer:List Env) (s:Shared) (H:Hp) (vs:List V) (Q:VK) (E:XK),Room k (A.deeper (envOfC qual scope s.heap.objs.size f cdv))→sp vs H Q E →
   ∃ t,PSs (cxOf CX P w K mg base N qual scope f cdv A outer s H E) body t∧t { nx:=fun _ H'=>Q .non H',rt:=Q } (start N vs) H) :
  FnOk P w K mg base CX (k+1) f (PySem.W.fnOf name qual params body scope dV kV doc pm an cdv ct) ps sp:=by
 refine ⟨len,fun A outer s H args us vs Q E hr e0 hb r hsp=>?_⟩
 have hl:=len _ _ _ _ hsp
 have KX:K.In s.heap:=e0.mod.kin.keeps fun b o e=>(e0.bs b o e).1
 have lim:s.heap.NoLimit:=e0.mod.nolimit.keeps fun b o e=>(e0.bs b o e).1
 have hkind:∀ y∈ps.zip us,scope.names.lookup y.1=some .local∨(scope.names.lookup y.1=some .cell∧((cellsFrom (s.heap.objs.size+1) scope.names []).lookup y.1).isSome=true):=fun ⟨n,v⟩ hy=>by
  rcases S.par n (List.of_mem_zip hy).1 with q | q
  ·exact .inl q
  ·exact .inr ⟨q,PySem.W.cellsFrom_some _ _ _ (.inl q)⟩
 refine codeAny_call_function hr.depth (KX _ _ lk) rfl S.co S.gen rfl (PySem.W.codeRec_of KX hcd) (hb _ _ _ _ ?_)
 refine wpAny_newFunctionEnv_cells S.kind hkind fun env he s1 x=>?_
 subst he
 refine ⟨lim.keeps x.toInCall.keep,codeAny_func ?_⟩
 obtain ⟨t,ht,hq⟩:=hbody A outer s H vs Q E (hr.deeper _) hsp
 have I:Inv (cxOf CX P w K mg base N qual scope f cdv A outer s H E) [] (start N vs) H s1:=Ve S hr.hd e0 hl r x
 refine wpAny_mono (ht [] s1 (start N vs) H _ I hq) (fun fl s' hs=>?_) fun e s' hs=>hs
 have fin:∀ {σ':St} {H':Hp} {v:V} {u:Value},Inv (cxOf CX P w K mg base N qual scope f cdv A outer s H E) [] σ' H' s'→RelV v u→Q v H'→CE outer P w H s Q u s':=
  fun {σ' H' v u} J rv q=>⟨v,H',J.os,J.bare,J.base,J.hok,rv,q⟩
 cases fl with
 | ret u=>
  obtain ⟨v,σ',H',J,rv,q⟩:=hs
  exact fin J rv q
 | next=>
  obtain ⟨σ',H',J,q⟩:=hs
  exact fin (v:=V.non) (u:=Value.none) J rfl q
 | brk=>
  obtain ⟨_,_,_,q⟩:=hs
  exact False.elim q
 | cont=>
  obtain ⟨_,_,_,q⟩:=hs
  exact False.elim q
end L2
namespace L2
open PySem PySem.Spec PyProof.Rows
section
variable {X:Cx} {x:Str} {p pos:Pos} {e:Expr} {es:List Expr} {t:TA} {id T:String} {r:List V→Hp→VK→Prop}
def tCB (r:List V→Hp→VK→Prop) (t:TA):TE:=fun σ H Q=>t σ H fun vs H1=>r vs H1 Q
theorem zr (hc:CallR X (.builtin id) r) (hg:Gl X x) (hm:X.mg x=none) (hv:bootBuiltins x=some (.builtin id)) (ha:PA X (e :: es) t) (hn:x≠"__name__":=by decide) (hdb:(x == ("__debug__":Str))=false:=by decide)
  (he:starEach (e :: es) X.env=(false,eval e X.env) :: starEach es X.env:=by rfl) (hpl:(backTo pos (starEach es X.env)).any (·.1)=false:=by rfl):PE X (.Call (.Name x p) (e :: es) [] pos) (tCB r t):=by
 intro pins s σ H Q I h
 refine wpAny_Call_Name_kw (ww I hg hm hv ?_ hn hdb)
 exact PyProof.Rows.callWith_builtin1 (thn (ha pos pins s σ H _ I h) fun us s1 ⟨vs,H1,I1,r1,q1⟩=>hc pins s1 σ H1 vs us Q I1 r1 q1) he hpl
end
end L2
namespace HT
open PySem PyProof.Rows
section
open PySem.SeqAt
open PySem.AutoSeq1 (wpAny_loadPart')
open PySem.MeetsSeq PySem.MeetsSeq2 PySem.MeetsSeq3
end
section
variable {prog:Program} {w:World} {A:Around} {E:Value→Shared→Prop} {s:Shared}
def sIx (n d:Nat):Option Int→Nat
 | none=>d
 | some v=>if v<0 then (v+(n:Int)).toNat else min v.toNat n
theorem sIx_nat (n d k:Nat):sIx n d (some (k:Int))=min k n:=by
 show (if (k:Int)<0 then ((k:Int)+(n:Int)).toNat else min (k:Int).toNat n)=min k n
 rw [if_neg (by omega),Int.toNat_natCast]
end
end HT
namespace L2
open PySem PySem.Spec PyProof.Rows
abbrev TO:=St→Hp→(Option Int→Hp→Prop)→Prop
def PO (X:Cx) (e:Option Expr) (t:TO):Prop:=
 ∀ (pins:List (Addr × Obj)) (s:Shared) (σ:St) (H:Hp) (Q:Option Int→Hp→Prop),Inv X pins σ H s→t σ H Q →
  wpAny (model X.prog X.w) X.A (evalPart e X.env) (fun u s'=>∃ o H',Inv X pins σ H' s'∧IsPart u o∧Q o H') X.xe s
def tPart (t:TE):TO:=fun σ H Q=>t σ H fun x H1=>∃ i,x = .int i∧Q (some i) H1
section
variable {X:Cx} {e:Expr} {te:TE} {lo hi:Option Expr} {tl th:TO} {pos p2:Pos}
theorem uy (h:PE X e te):PO X (some e) (tPart te):=by
 intro pins s σ H Q I hw
 rw [evalPart_some]
 refine thn (h pins s σ H _ I hw) fun u s1 ⟨x,H1,I1,r1,q1⟩=>?_
 obtain ⟨i,rfl,q⟩:=q1
 obtain ⟨t,rfl⟩:=r1
 exact ⟨some i,H1,I1,.int i t,q⟩
def SlR (X:Cx) (r:V→Option Int→Option Int→Hp→VK→Prop):Prop:=
 ∀ (pins:List (Addr × Obj)) (s:Shared) (σ:St) (H:Hp) (x:V) (v vl vu:Value) (lo hi:Option Int) (sl:Addr) (Q:VK),Inv X pins σ H s→RelV x v→s.heap.IsSliceOf sl vl vu .none→IsPart vl lo→IsPart vu hi→r x lo hi H Q →
  ∃ T id,typeLookup (.type T) "__getitem__" = pure (some (.builtin id))∧s.TypeIs v T∧wpAny (model X.prog X.w) X.A (getItem v (.ref sl)) (EP X pins σ Q) X.xe s
def tSl (r:V→Option Int→Option Int→Hp→VK→Prop) (te:TE) (tl th:TO):TE:=fun σ H Q=>te σ H fun x H1=>tl σ H1 fun l H2=>th σ H2 fun u H3=>r x l u H3 Q
theorem Qt {r:V→Option Int→Option Int→Hp→VK→Prop} (hr:SlR X r) (he:PE X e te) (hl:PO X lo tl) (hu:PO X hi th):PE X (.Subscript e (.Slice lo hi none p2) pos) (tSl r te tl th):=by
 intro pins s σ H Q I h
 refine Subscript_ (thn (he pins s σ H _ I h) fun v s1 ⟨x,H1,I1,r1,q1⟩=>?_)
 refine wpAny_Slice (thn (hl pins s1 σ H1 _ I1 q1) fun vl s2 ⟨l,H2,I2,pl,q2⟩=>thn (hu pins s2 σ H2 _ I2 q2) fun vu s3 ⟨u,H3,I3,pu,q3⟩=>?_)
 rw [evalPart_none]
 refine wpAny_pure ?_
 have I4:Inv X pins σ H3 { s3 with heap:=s3.heap.push { cls:=.type "slice",data:=.fields #[vl,vu,.none] } }:=I3.kept (t':=s3.toks) fun b ob q=>Heap.get?_push_of_some _ q
 obtain ⟨T,id,hT,ht,hg⟩:=hr pins { s3 with heap:=s3.heap.push { cls:=.type "slice",data:=.fields #[vl,vu,.none] } } σ H3 x v vl vu l u s3.heap.objs.size Q I4 r1 (Heap.IsSliceOf.new ..) pl pu q3
 show wpAny (model X.prog X.w) X.A (subscriptTail e (.Slice lo hi none p2) v (.ref s3.heap.objs.size)) (EP X pins σ Q) X.xe { s3 with heap:=s3.heap.push { cls:=.type "slice",data:=.fields #[vl,vu,.none] } }
 exact tail_any (ops:=[.ref s3.heap.objs.size,v]) ht hT hg (by with_unfolding_all rfl)
def cutV (xs:List V) (lo hi:Option Int):List V:=(xs.drop (HT.sIx xs.length 0 lo)).take (HT.sIx xs.length xs.length hi - HT.sIx xs.length 0 lo)
theorem QV (xs:List V) (lo hi:Option Int):(cutV xs lo hi).length≤xs.length:=by
 unfold cutV
 rw [List.length_take,List.length_drop]
 omega
end
end L2
namespace L2
open PySem PySem.Spec PyProof.Rows
def ixN (n:Nat) (i:Int):Option Nat:=if 0≤i then (if i<n then some i.toNat else none) else if -(n:Int)≤i then some (i+n).toNat else none
def atI {α:Type} (xs:List α) (i:Int):Option α:=(ixN xs.length i).bind fun j=>xs[j]?
theorem Yl {n:Nat} {i:Int} {j:Nat} (h:ixN n i=some j):seqIndex? i n=some j∧j<n∧-(n:Int)≤i∧i<n:=by
 unfold ixN at h
 by_cases h0:0≤i
 ·rw [if_pos h0] at h
  by_cases h1:i<n
  ·rw [if_pos h1] at h
   have e:i.toNat=j:=Option.some.inj h
   exact ⟨by rw [seqIndex_of h0 h1,e],by omega,by omega,h1⟩
  ·rw [if_neg h1] at h;cases h
 ·rw [if_neg h0] at h
  by_cases h1:-(n:Int)≤i
  ·rw [if_pos h1] at h
   have e:(i+n).toNat=j:=Option.some.inj h
   exact ⟨by rw [seqIndex_neg (by omega) h1,e],by omega,h1,by omega⟩
  ·rw [if_neg h1] at h;cases h
theorem YA {α:Type} {xs:List α} {i:Int} {v:α} (h:atI xs i=some v):∃ j,seqIndex? i xs.length=some j∧xs[j]? = some v∧j<xs.length∧-(xs.length:Int)≤i∧i<xs.length:=by
 unfold atI at h
 cases e:ixN xs.length i with
 | none=>rw [e] at h;cases h
 | some j=>
  rw [e] at h
  obtain ⟨h1,h2,h3,h4⟩:=Yl e
  exact ⟨j,h1,h,h2,h3,h4⟩
theorem yk {α:Type} {xs:List α} {j:Nat} {v:α} (h:xs[j]? = some v):atI xs (j:Int)=some v:=by
 have hj:j<xs.length:=(List.getElem?_eq_some_iff.mp h).1
 have e:ixN xs.length (j:Int)=some j:=by
  unfold ixN
  rw [if_pos (by omega),if_pos (by omega)];simp
 unfold atI;rw [e];exact h
def PlainIx (b:Expr):Prop:=∀ o i,subscripted b false o i=operate [o,i] (getItem o i)
def IxR (X:Cx) (r:R2):Prop:=
 ∀ (value slice:Expr) (pins:List (Addr × Obj)) (s:Shared) (σ:St) (H:Hp) (x y:V) (v u:Value) (Q:VK),Inv X pins σ H s→RelV x v→RelV y u→r x y H Q →
  subscripted slice false v u=operate [v,u] (getItem v u)→wpAny (model X.prog X.w) X.A (subscriptTail value slice v u) (EP X pins σ Q) X.xe s
def MtR (X:Cx) (id:String) (r:V→List V→Hp→VK→Prop):Prop:=
 ∀ (pins:List (Addr × Obj)) (s:Shared) (σ:St) (H:Hp) (x:V) (xs:List V) (v:Value) (us:List Value) (Q:VK),Inv X pins σ H s→RelV x v→Vals xs us→r x xs H Q →
  wpAny (model X.prog X.w) X.A (call (.builtin id) (v :: us)) (EP X pins σ Q) X.xe s
section
variable {X:Cx} {a b:Expr} {ta tb:TE} {pos:Pos}
theorem zv {r:R2} (hr:IxR X r) (ha:PE X a ta) (hb:PE X b tb) (hs:PlainIx b):PE X (.Subscript a b pos) (tOp r ta tb):=by
 intro pins s σ H Q I h
 exact Subscript_ (binT ha hb I h fun v u s2 x y H2 I2 rx ry q=>hr a b pins s2 σ H2 x y v u Q I2 rx ry q (hs _ _))
def rIxL (K:PySem.W.Frag):R2:=fun x y H Q=>∃ p xs i v,x = .ref p∧y = .int i∧SqL K H p xs∧atI xs i=some v∧Q v H
def rIxT (K:PySem.W.Frag):R2:=fun x y H Q=>∃ p xs i v,x = .ref p∧y = .int i∧SqT K H p xs∧atI xs i=some v∧Q v H
theorem ix_list:IxR X (rIxL X.K):=by
 intro value slice pins s σ H x y v u Q I rx ry h hs
 obtain ⟨p,xs,i,z,rfl,rfl,hq,he,q⟩:=h
 cases rx
 obtain ⟨t,rfl⟩:=ry
 obtain ⟨its,r,pl,hz⟩:=I.list hq
 obtain ⟨j,h1,h2,h3,h4,h5⟩:=YA he
 obtain ⟨w,ew,rw'⟩:=r.get h2
 have hl:=r.length
 have hn:=line63
 have fin:EP X pins σ Q w s:=⟨z,H,I,rw',q⟩
 by_cases h0:0≤i
 ·have hj:i.toNat=j:=by
   rw [seqIndex_of h0 h5] at h1
   exact Option.some.inj h1
  exact item_listR pl.isList h0 (by omega) (by rw [hj];simpa using ew) fin hs
 ·have hj:(i+(its.toArray.size:Int)).toNat=j:=by
   rw [seqIndex_neg (by omega) h4] at h1
   rw [List.size_toArray,← hl]
   exact Option.some.inj h1
  exact subscriptTail_builtinR (x:=w) pl.isList.typeIs slot_list_getitem.lookup
   (wpAny_getItem_list_neg (Q:=fun r s'=>r=w∧EP X pins σ Q r s') pl.isList (by omega) (by rw [List.size_toArray] <;> omega) (by omega) (by rw [hj];simpa using ew) ⟨rfl,fin⟩) hs
theorem ix_tup:IxR X (rIxT X.K):=by
 intro value slice pins s σ H x y v u Q I rx ry h hs
 obtain ⟨p,xs,i,z,rfl,rfl,hq,he,q⟩:=h
 cases rx
 obtain ⟨t,rfl⟩:=ry
 obtain ⟨its,r,pl,hz⟩:=I.tuple hq
 obtain ⟨j,h1,h2,h3,h4,h5⟩:=YA he
 obtain ⟨w,ew,rw'⟩:=r.get h2
 have hl:=r.length
 have hn:=line63
 have fin:EP X pins σ Q w s:=⟨z,H,I,rw',q⟩
 exact subscriptTail_builtinR (x:=w) pl.typeIs slot_tuple_getitem.lookup
  (getItem_tuple (j:=j) (Q:=fun r s'=>r=w∧EP X pins σ Q r s') pl (by omega) (by omega) (by rw [List.size_toArray,← hl];exact h1) (by simpa using ew) ⟨rfl,fin⟩) hs
theorem WN (its:List Value) (n j:Nat) (u:Value):Obj.mapSeq (·.setIfInBounds j u) { cls:=.type "list",data:=.seq its.toArray n } = { cls:=.type "list",data:=.seq (its.set j u).toArray n }:=by
 simp [Obj.mapSeq]
theorem Inv.lst {pins:List (Addr × Obj)} {σ:St} {H:Hp} {s:Shared} {p:Addr} {xs:List V} (I:Inv X pins σ H s) (h:H p=some (.lst xs)) :
  ∃ (its:List Value) (n:Nat),Vals xs its∧s.heap.get? p=some { cls:=.type "list",data:=.seq its.toArray n }∧xs.length≤sizeLine:=by
 obtain ⟨z,its,n,r,e⟩:=I.hok p _ h
 exact ⟨its,n,r,e,z⟩
theorem Inv.lstUpd {pins:List (Addr × Obj)} {σ:St} {H:Hp} {s:Shared} {p:Addr} {xs ys:List V} {its its':List Value} {n n':Nat} {f:Obj→Obj} (I:Inv X pins σ H s) (h:H p=some (.lst xs))
  (ho:s.heap.get? p=some { cls:=.type "list",data:=.seq its.toArray n }) (hf:f { cls:=.type "list",data:=.seq its.toArray n } = { cls:=.type "list",data:=.seq its'.toArray n' }) (r:Vals ys its') (hz:ys.length≤sizeLine) (t:Nat) :
  Inv X pins σ (upd H p (.lst ys)) { s with heap:=s.heap.update p f,toks:=t }:=by
 have e:(s.heap.update p f).get? p=some { cls:=.type "list",data:=.seq its'.toArray n' }:=by
  rw [Heap.get?_update_self f ho (by rw [hf] <;> rfl),hf]
 refine I.write (x:=p) (e:=p) (by rw [h];trivial) (.inl rfl) (fun b u hb q=>(Heap.get?_update_other _ _ (Ne.symm hb)).trans q) ⟨_,e⟩ ?_
 exact ⟨hz,its',n',r,e⟩
def rSetL:V→V→V→Hp→(Hp→Prop)→Prop:=fun o i v H Q=>∃ p xs k j,o = .ref p∧i = .int k∧H p=some (.lst xs)∧ixN xs.length k=some j∧Q (upd H p (.lst (xs.set j v)))
theorem Qg:PSet X rSetL:=by
 intro pins s σ H o i v ov iv u Q I ro ri rv h
 obtain ⟨p,xs,k,j,rfl,rfl,hp,hj,q⟩:=h
 cases ro
 obtain ⟨t,rfl⟩:=ri
 obtain ⟨its,n,r,ho,hz⟩:=I.lst hp
 obtain ⟨h1,h2,h3,h4⟩:=Yl hj
 have hl:=r.length
 have hn:=line63
 have I':Inv X pins σ (upd H p (.lst (xs.set j v))) { s with heap:=s.heap.update p (Obj.mapSeq (·.setIfInBounds j u)) }:=
  I.lstUpd hp ho (WN its n j u) (r.set rv j) (by rw [List.length_set];exact hz) s.toks
 by_cases h0:0≤k
 ·have hk:k.toNat=j:=by
   rw [seqIndex_of h0 h4] at h1
   exact Option.some.inj h1
  exact PySem.W.ki_setAt ho h0 (by omega) (by rw [List.size_toArray,← hl];exact h4) (by rw [hk];exact ⟨_,I',q⟩)
 ·have hk:(k+(its.toArray.size:Int)).toNat=j:=by
   rw [seqIndex_neg (by omega) h3] at h1
   rw [List.size_toArray,← hl]
   exact Option.some.inj h1
  exact PySem.W.ki_setBack ho (by omega) (by rw [List.size_toArray,← hl];exact h3) (by omega) (by rw [hk];exact ⟨_,I',q⟩)
theorem Ja (lo hi:Option Int) (n:Nat):(sliceBounds lo hi none n).1=((HT.sIx n 0 lo:Nat):Int)∧(sliceBounds lo hi none n).2.1=((HT.sIx n n hi:Nat):Int)∧(sliceBounds lo hi none n).2.2=1:=by
 refine ⟨?_,?_,rfl⟩
 ·cases lo with
  | none=>simp [sliceBounds,HT.sIx]
  | some i=>
   simp only [sliceBounds,HT.sIx,Option.getD_none,show (1:Int) > 0 by decide,if_true]
   by_cases h:i<0
   ·simp only [h,if_true] <;> omega
   ·simp only [h,if_false] <;> omega
 ·cases hi with
  | none=>simp [sliceBounds,HT.sIx]
  | some i=>
   simp only [sliceBounds,HT.sIx,Option.getD_none,show (1:Int) > 0 by decide,if_true]
   by_cases h:i<0
   ·simp only [h,if_true] <;> omega
   ·simp only [h,if_false] <;> omega
theorem xX (its:List Value) (lo hi:Option Int):slicePick its.toArray lo hi none=((its.drop (HT.sIx its.length 0 lo)).take (HT.sIx its.length its.length hi - HT.sIx its.length 0 lo)).toArray:=by
 obtain ⟨h1,h2,h3⟩:=Ja lo hi its.toArray.size
 unfold slicePick
 rw [h1,h2,h3]
 simp only [sliceRange_one,pick_run,List.size_toArray] <;> rfl
def rSlL (K:PySem.W.Frag):V→Option Int→Option Int→Hp→VK→Prop:=fun x lo hi H Q=>∃ a xs,x = .ref a∧SqL K H a xs∧∀ p,H p=none→Q (.ref p) (upd H p (.lst (cutV xs lo hi)))
theorem sl_list:SlR X (rSlL X.K):=by
 intro pins s σ H x v vl vu lo hi sl Q I rx hs pl pu h
 obtain ⟨a,xs,rfl,hx,q⟩:=h
 cases rx
 obtain ⟨its,r,ht,hz⟩:=I.list hx
 have hlen:=r.length
 refine ⟨"list",_,slot_list_getitem.lookup,ht.isList.typeIs,?_⟩
 refine wpAny_getItem_list_slice ht.isList hs pl pu .none (by simp) ?_ (by rw [List.size_toArray] <;> omega)
 rw [xX,← hlen]
 refine ⟨.ref s.heap.objs.size,_,I.laid (t':=s.toks) (o:=.lst (cutV xs lo hi)) (fun b ob q=>Heap.get?_push_of_some _ q) (Nat.le_refl _) ?_,rfl,q _ (I.hok.fresh (Nat.le_refl _))⟩
 exact ⟨Nat.le_trans (QV xs lo hi) hz,_,0,(r.drop (HT.sIx xs.length 0 lo)).take (HT.sIx xs.length xs.length hi - HT.sIx xs.length 0 lo),Heap.get?_push_size _ rfl⟩
def flatV:V→Bool
 | .non=>true
 | .bl _=>true
 | .int _=>true
 | .str _=>true
 | _=>false
def eqV:V→V→Bool
 | .non,.non=>true
 | .bl a,.bl b=>a == b
 | .bl a,.int b=>(if a then 1 else 0) == b
 | .int a,.bl b=>a == (if b then 1 else 0)
 | .int a,.int b=>a == b
 | .str a,.str b=>a == b
 | _,_=>false
theorem eqAt_V {A:Around} {s:Shared} {y x:V} {u v:Value} (ry:RelV y u) (rx:RelV x v) (fy:flatV y=true) (fx:flatV x=true):SeqAt.EqAt A s u v (eqV y x):=by
 cases y with
 | non=>
  cases ry
  cases x with
  | non=>cases rx;exact SeqAt.EqAt.same _
  | bl b=>cases rx;exact SeqAt.EqAt.none_bool b
  | int b=>obtain ⟨t,rfl⟩:=rx;exact SeqAt.EqAt.none_int b t
  | str b=>obtain ⟨t,rfl⟩:=rx;exact SeqAt.EqAt.none_str b t
  | _=>exact absurd (show false=true from fx) Bool.false_ne_true
 | bl a=>
  cases ry
  cases x with
  | non=>cases rx;exact SeqAt.EqAt.bool_none a
  | bl b=>cases rx;exact SeqAt.EqAt.bool_bool a b
  | int b=>obtain ⟨t,rfl⟩:=rx;exact SeqAt.EqAt.bool_int a b t
  | str b=>obtain ⟨t,rfl⟩:=rx;exact SeqAt.EqAt.bool_str a b t
  | _=>exact absurd (show false=true from fx) Bool.false_ne_true
 | int a=>
  obtain ⟨t',rfl⟩:=ry
  cases x with
  | non=>cases rx;exact SeqAt.EqAt.int_none a t'
  | bl b=>cases rx;exact SeqAt.EqAt.int_bool a t' b
  | int b=>obtain ⟨t,rfl⟩:=rx;exact SeqAt.EqAt.int_int a t' b t
  | str b=>obtain ⟨t,rfl⟩:=rx;exact SeqAt.EqAt.int_str a t' b t
  | _=>exact absurd (show false=true from fx) Bool.false_ne_true
 | str a=>
  obtain ⟨t',rfl⟩:=ry
  cases x with
  | non=>cases rx;exact SeqAt.EqAt.str_none a t'
  | bl b=>cases rx;exact SeqAt.EqAt.str_bool a t' b
  | int b=>obtain ⟨t,rfl⟩:=rx;exact SeqAt.EqAt.str_int a t' b t
  | str b=>obtain ⟨t,rfl⟩:=rx;exact SeqAt.EqAt.str_str a t' b t
  | _=>exact absurd (show false=true from fx) Bool.false_ne_true
 | _=>exact absurd (show false=true from fy) Bool.false_ne_true
def eqU (x:V) (u:Value):Bool:=match u with
 | .none=>eqV .non x
 | .bool b=>eqV (.bl b) x
 | .int i _=>eqV (.int i) x
 | .str z _=>eqV (.str z) x
 | _=>false
theorem eqU_of {x y:V} {u:Value} (r:RelV y u) (f:flatV y=true):eqU x u=eqV y x:=by
 cases y with
 | non=>cases r;rfl
 | bl b=>cases r;rfl
 | int i=>obtain ⟨t,rfl⟩:=r;rfl
 | str z=>obtain ⟨t,rfl⟩:=r;rfl
 | _=>exact absurd (show false=true from f) Bool.false_ne_true
theorem JL {x:V}:∀ {xs:List V} {us:List Value},Vals xs us→xs.all flatV=true→us.any (eqU x)=xs.any fun y=>eqV y x
 | _,_,.nil,_=>rfl
 | y :: xs,u :: us,.cons r t,f=>by
  rw [List.all_cons,Bool.and_eq_true] at f
  rw [List.any_cons,List.any_cons,eqU_of r f.1,JL t f.2]
theorem xu {A:Around} {s:Shared} {x:V} {v:Value} (rx:RelV x v) (fx:flatV x=true):∀ {xs:List V} {us:List Value},Vals xs us→xs.all flatV=true→∀ u∈us,SeqAt.EqAt A s u v (eqU x u)
 | _,_,.nil,_=>fun u hu=>by cases hu
 | y :: xs,u :: us,.cons r t,f=>fun u' hu=>by
  rw [List.all_cons,Bool.and_eq_true] at f
  rcases List.mem_cons.mp hu with rfl | hu
  ·rw [eqU_of r f.1];exact eqAt_V r rx f.1 fx
  ·exact xu rx fx t f.2 u' hu
def inV (x:V) (xs:List V):Bool:=xs.any fun y=>eqV y x
def rIn (K:PySem.W.Frag) (neg:Bool):R2:=fun x y H Q=>∃ p xs,y = .ref p∧(SqL K H p xs∨SqT K H p xs)∧flatV x=true∧xs.all flatV=true∧Q (.bl (if neg then !inV x xs else inV x xs)) H
theorem YY:OpR X (compareOp .In) (rIn X.K false):=by
 intro pins s σ H x y v u Q I rx ry h
 obtain ⟨p,xs,rfl,hq,fx,fs,q⟩:=h
 cases ry
 rcases hq with hq | hq
 ·obtain ⟨its,r,pl,hz⟩:=I.list hq
  refine SeqAt.in_listAt (eqU x) pl.isList (fun w hw=>xu rx fx r fs w (by simpa using hw)) ⟨.bl _,H,I,rfl,?_⟩
  rw [show its.toArray.any (eqU x)=its.any (eqU x) by simp,JL r fs]
  exact q
 ·obtain ⟨its,r,pl,hz⟩:=I.tuple hq
  refine SeqAt.in_tupleAt (eqU x) pl (fun w hw=>xu rx fx r fs w (by simpa using hw)) ⟨.bl _,H,I,rfl,?_⟩
  rw [show its.toArray.any (eqU x)=its.any (eqU x) by simp,JL r fs]
  exact q
theorem JJ:CallR X (.builtin "len") (fun xs H Q=>∃ p ys,xs=[.ref p]∧(SqL X.K H p ys∨SqT X.K H p ys)∧Q (.int ys.length) H):=by
 intro pins s σ H xs us Q I r h
 obtain ⟨p,ys,rfl,hq,q⟩:=h
 obtain ⟨u,rfl,rx⟩:=vals1 r
 cases rx
 have hn:=line63
 rcases hq with hq | hq
 ·obtain ⟨its,r',pl,hz⟩:=I.list hq
  have hlen:=r'.length
  exact Calls.call_len_list pl.isList (by simp only [List.size_toArray] <;> omega) ⟨.int ys.length,H,I.tok _,⟨s.toks+1,by rw [List.size_toArray,hlen]⟩,q⟩
 ·obtain ⟨its,r',pl,hz⟩:=I.tuple hq
  have hlen:=r'.length
  exact len_tuple pl (by simp only [List.size_toArray] <;> omega) ⟨.int ys.length,H,I.tok _,⟨s.toks+1,by rw [List.size_toArray,hlen]⟩,q⟩
def tyV (K:PySem.W.Frag) (T:String) (x:V) (H:Hp):Prop:=match x with
 | .str _=>T = "str"
 | .int _=>T = "int"
 | .ref p=>(T = "list"∧∃ xs,SqL K H p xs)∨(T = "tuple"∧∃ o,K.lookup p=some o∧o.cls = .type "tuple"∧o.dict=none) ∨
   (T = "dict"∧((∃ kvs,H p=some (.dK kvs))∨∃ kvs,H p=some (.dT kvs)))∨(T = "set"∧∃ S n,H p=some (.set S n))
 | _=>False
theorem tyV_is {pins:List (Addr × Obj)} {σ:St} {H:Hp} {s:Shared} {T:String} {x:V} {v:Value} (I:Inv X pins σ H s) (r:RelV x v) (ty:tyV X.K T x H) :
  s.TypeIs v T∧∀ a,v = .ref a→∃ ob,s.heap.get? a=some ob∧ob.dict=none:=by
 cases x with
 | str z=>
  obtain ⟨t,rfl⟩:=r
  cases (show T = "str" from ty)
  exact ⟨typeIs_str s z t,fun _ e=>nomatch e⟩
 | int i=>
  obtain ⟨t,rfl⟩:=r
  cases (show T = "int" from ty)
  exact ⟨typeIs_int s i t,fun _ e=>nomatch e⟩
 | ref p=>
  cases r
  rcases ty with ⟨rfl,xs,hq⟩ | ⟨rfl,o,hk,hc,hd⟩ | ⟨rfl,hk⟩ | ⟨rfl,S,n,hk⟩
  ·obtain ⟨its,_,pl,_⟩:=I.list hq
   refine ⟨pl.isList.typeIs,fun a e=>?_⟩
   cases e
   obtain ⟨o,n,e,c,hd,_⟩:=pl
   exact ⟨o,e,hd⟩
  ·refine ⟨⟨o,I.kIn p o hk,hc⟩,fun a e=>?_⟩
   cases e
   exact ⟨o,I.kIn _ o hk,hd⟩
  ·have z:∃ o,s.heap.get? p=some o∧o.ExactDict:=by
    rcases hk with ⟨kvs,hk⟩ | ⟨kvs,hk⟩
    ·obtain ⟨_,_,_,_,o,_,_,e,ex,_⟩:=I.hok p _ hk
     exact ⟨o,e,ex⟩
    ·obtain ⟨_,_,_,_,o,_,_,e,ex,_⟩:=I.hok p _ hk
     exact ⟨o,e,ex⟩
   obtain ⟨o,e,ex⟩:=z
   refine ⟨⟨o,e,ex.1⟩,fun a e2=>?_⟩
   cases e2
   exact ⟨o,e,ex.2.1⟩
  ·obtain ⟨o,_,_,_,e,ex,_⟩:=I.hok p _ hk
   refine ⟨⟨o,e,ex.1⟩,fun a e2=>?_⟩
   cases e2
   exact ⟨o,e,ex.2.1⟩
 | _=>exact False.elim ty
def tBM (K:PySem.W.Frag) (T:String) (r:V→List V→Hp→VK→Prop) (to:TE) (t:TA):TE:=fun σ H Q=>to σ H fun x H1=>tyV K T x H1∧t σ H1 fun xs H2=>r x xs H2 Q
variable {o e:Expr} {es:List Expr} {to:TE} {t:TA} {name:Str} {apos cpos:Pos} {T id:String} {r:V→List V→Hp→VK→Prop}
theorem pe_bm (pa:PlainAttrs T) (slot:Slot T name id) (hty:typeOf (.builtin id)=pure (.type "method_descriptor")) (hm:MtR X id r) (ho:PE X o to) (ha:PA X (e :: es) t)
  (hbase:attributeBase o name X.env (eval o X.env)=eval o X.env:=by rfl)
  (hfew:((backTo cpos (starEach (e :: es) X.env)).all (fun x=>!x.1)&&(backToKw cpos (keywordEach [] X.env)).all (fun x=>x.1.isSome)
   && decide ((e :: es).length+([]:List Keyword).length+(if ([]:List Keyword).isEmpty then 0 else 1)<30))=true:=by rfl)
  (hline:(apos.endLine == cpos.line)=true:=by rfl) (hs:starEach (e :: es) X.env=(false,eval e X.env) :: starEach es X.env:=by rfl) (hplain:(backTo cpos (starEach es X.env)).any (·.1)=false:=by rfl) :
  PE X (.Call (.Attribute o name apos) (e :: es) [] cpos) (tBM X.K T r to t):=by
 intro pins s σ H Q I h
 refine wpAny_Call_method_late hbase hfew hline rfl (thn (ho pins s σ H _ I h) fun v s1 ⟨x,H1,I1,r1,ty,q1⟩=>?_)
 obtain ⟨h1,h2⟩:=tyV_is I1 r1 ty
 refine ⟨T,id,pa,slot,hty,h1,h2,?_⟩
 have hA:=ha cpos pins s1 σ H1 _ I1 q1
 rw [hs] at hA ⊢
 refine Calls.callWith_builtin (by show (false||(backTo cpos (starEach es X.env)).any (·.1))=false;rw [hplain] <;> rfl) (Calls.evalArgs_plain ?_)
 exact thn hA fun us s2 ⟨vs,H2,I2,r2,q2⟩=>hm pins s2 σ H2 x vs v us Q I2 r1 r2 q2
end
end L2
namespace L2
open PySem PySem.Spec PyProof.Rows
def MtM (X:Cx) (id:String) (r:V→List V→Hp→VK→Prop):Prop:=
 ∀ (pins:List (Addr × Obj)) (s:Shared) (σ:St) (H:Hp) (x:V) (xs:List V) (v:Value) (us:List Value) (Q:VK),Inv X pins σ H s→RelV x v→Vals xs us→r x xs H Q →
  wpAny (model X.prog X.w) X.A (call (.builtin id) (v :: us)) (EP X pins σ Q) X.xe s
theorem Vals.one:∀ {x:V} {us:List Value},Vals [x] us→∃ u,us=[u]∧RelV x u
 | _,_,.cons r .nil=>⟨_,rfl,r⟩
section
variable {X:Cx} {pins:List (Addr × Obj)} {σ:St} {H:Hp} {s:Shared} {l b:Addr} {xs ys zs:List V}
theorem Inv.lset {its its':List Value} {n:Nat} {f:Array Value→Array Value} {t':Nat} (I:Inv X pins σ H s) (hH:H l=some (.lst xs))
  (e:s.heap.get? l=some { cls:=.type "list",data:=.seq its.toArray n }) (hf:f its.toArray=its'.toArray) (hv:Vals ys its') (hz:ys.length≤sizeLine) :
  Inv X pins σ (upd H l (.lst ys)) { s with heap:=s.heap.update l (Obj.mapSeq f),toks:=t' }:=by
 have q:=PySem.IsL.update e f
 rw [hf] at q
 refine I.write (x:=l) (e:=l) (by rw [hH];exact trivial) (.inl rfl) (fun b' u hb hu=>(Heap.get?_update_other s.heap (Obj.mapSeq f) (Ne.symm hb)).trans hu) ⟨_,q⟩ ?_
 exact ⟨hz,its',_,hv,q⟩
theorem Inv.lnew {its:List Value} {t':Nat} (I:Inv X pins σ H s) (hv:Vals ys its) (hz:ys.length≤sizeLine) :
  Inv X pins σ (upd H s.heap.objs.size (.lst ys)) { s with heap:=s.heap.push { cls:=.type "list",data:=.seq its.toArray },toks:=t' }:=
 I.laid (fun _ _ q=>Heap.get?_push_of_some _ q) (Nat.le_refl _) ⟨hz,its,0,hv,Heap.get?_push_size _ rfl⟩
theorem Inv.fresh (I:Inv X pins σ H s):H s.heap.objs.size=none:=I.hok.fresh (Nat.le_refl _)
theorem Inv.lstM (I:Inv X pins σ H s) (hH:H l=some (.lst xs)):xs.length≤sizeLine∧∃ (its:List Value) (n:Nat),Vals xs its∧xs.length=its.length∧s.heap.get? l=some { cls:=.type "list",data:=.seq its.toArray n }:=by
 obtain ⟨z,its,n,r,e⟩:=I.hok l _ hH
 exact ⟨z,its,n,r,r.length,e⟩
theorem notLongL {n:Nat} (h:n≤sizeLine):Builtin.List.listTooLong n=false:=by
 unfold Builtin.List.listTooLong
 exact decide_eq_false (by omega)
end
section
variable {X:Cx}
def rAppend:V→List V→Hp→VK→Prop:=fun x vs H Q=>∃ l xs y,x = .ref l∧vs=[y]∧H l=some (.lst xs)∧xs.length<sizeLine∧Q .non (upd H l (.lst (xs++[y])))
theorem Y3:MtM X "list.append" rAppend:=by
 intro pins s σ H x vs v us Q I rx rv h
 obtain ⟨l,xs,y,rfl,rfl,hH,hz,q⟩:=h
 cases rx
 obtain ⟨u,rfl,ru⟩:=rv.one
 obtain ⟨z,its,n,r,hl,e⟩:=I.lstM hH
 refine call_meets F.slot_list_append ⟨_,e,rfl⟩ F.entry_list_append (F.args_list_append_2 _ _) (PySem.list_append l its.toArray n u (by rw [List.size_toArray];omega)) ⟨e,?_⟩
 refine ⟨.non,_,I.lset (its':=its++[u]) hH e (by simp) (r.append (.cons ru .nil)) ?_,rfl,q⟩
 rw [List.length_append,List.length_singleton]
 omega
def rExtend:V→List V→Hp→VK→Prop:=fun x vs H Q=>∃ l b xs zs,x = .ref l∧vs=[.ref b]∧H l=some (.lst xs)∧H b=some (.lst zs)∧xs.length+zs.length≤sizeLine∧Q .non (upd H l (.lst (xs++zs)))
theorem Y2:MtM X "list.extend" rExtend:=by
 intro pins s σ H x vs v us Q I rx rv h
 obtain ⟨l,b,xs,zs,rfl,rfl,hH,hB,hz,q⟩:=h
 cases rx
 obtain ⟨u,rfl,ru⟩:=rv.one
 cases ru
 obtain ⟨z,its,n,r,hl,e⟩:=I.lstM hH
 obtain ⟨z2,its2,n2,r2,hl2,e2⟩:=I.lstM hB
 have hsz:its.toArray.size+its2.toArray.size≤sizeLine:=by rw [List.size_toArray,List.size_toArray];omega
 have hlong:¬ (!its.toArray.isEmpty&&Builtin.List.listTooLong (its.toArray.size+its2.toArray.size))=true:=by
  rw [notLongL hsz,Bool.and_false]
  exact Bool.false_ne_true
 refine call_meets F.slot_list_extend ⟨_,e,rfl⟩ F.entry_list_extend (F.args_list_extend_2 _ _)
  (AutoSeq1.list_extend_list_list_0 l its.toArray n b its2.toArray n2 hlong (by rw [List.size_toArray];omega) (by omega)) ⟨e,e2,?_⟩
 refine ⟨.non,_,I.lset (its':=its++its2) hH e (by simp) (r.append r2) ?_,rfl,q⟩
 rw [List.length_append]
 omega
def rCat:R2:=fun x y H Q=>∃ l b xs zs,x = .ref l∧y = .ref b∧H l=some (.lst xs)∧H b=some (.lst zs)∧xs.length+zs.length≤sizeLine∧∀ p,H p=none→Q (.ref p) (upd H p (.lst (xs++zs)))
theorem vH:OpR X (binaryOp .Add) rCat:=by
 intro pins s σ H x y v u Q I rx ry h
 obtain ⟨l,b,xs,zs,rfl,rfl,hH,hB,hz,q⟩:=h
 cases rx
 cases ry
 obtain ⟨z,its,n,r,hl,e⟩:=I.lstM hH
 obtain ⟨z2,its2,n2,r2,hl2,e2⟩:=I.lstM hB
 refine PySem.P.add_list e e2 ?_ (by rw [List.size_toArray,List.size_toArray];omega)
 have ea:its.toArray++its2.toArray=(its++its2).toArray:=by simp
 rw [ea]
 exact ⟨.ref _,_,I.lnew (t':=s.toks) (r.append r2) (by rw [List.length_append];omega),rfl,q _ I.fresh⟩
end
section
variable {prog:Program} {w:World} {A:Around} {E:Value→Shared→Prop} {s:Shared}
set_option maxRecDepth 100000 in
end
section
variable {X:Cx}
end
end L2
namespace L2
open PySem PySem.Spec PyProof.Rows
theorem Vals.ints:∀ {ns:List Int} {us:List Value},Vals (ns.map V.int) us→IntsAre us ns
 | [],us,h=>by
  rw [List.map_nil] at h
  cases h
  exact IntsAre.nil
 | n :: ns,us,h=>by
  rw [List.map_cons] at h
  cases h with
  | cons r t=>
   obtain ⟨k,rfl⟩:=r
   exact IntsAre.cons n k (Vals.ints t)
theorem Vals.bls:∀ {bs:List Bool} {us:List Value},Vals (bs.map V.bl) us→us=bs.map Value.bool
 | [],us,h=>by
  rw [List.map_nil] at h
  cases h
  rfl
 | b :: bs,us,h=>by
  rw [List.map_cons] at h
  cases h with
  | cons r t=>
   cases r
   rw [Vals.bls t,List.map_cons]
theorem Vals.ref1 {a:Addr} {us:List Value} (r:Vals [V.ref a] us):us=[Value.ref a]:=by
 cases r with
 | cons r t=>
  cases t
  cases r
  rfl
section
variable {prog:Program} {w:World} {A:Around} {E:Value→Shared→Prop} {s:Shared} {l:Addr} {its:List Value} {ns:List Int} {Q:Value→Shared→Prop}
theorem sum_raw (hh:A.handled=none) (hl:s.heap.IsList l its.toArray) (hi:IntsAre its ns)
  (h:∀ h' tk t',(∀ b o,s.heap.get? b=some o→h'.get? b=some o)→Q (.int ns.sum t') { s with heap:=h',toks:=tk }):wpAny (model prog w) A (call (.builtin "sum") [.ref l]) Q E s:=by
 obtain ⟨xs,e⟩:=hi.allInts.items
 have hn:numsOf (intItems xs).toList=ns:=by rw [← e];exact hi.numsOf
 rw [nums_intItems] at hn
 rw [e] at hl
 refine PySem.sum_intListG hh hl fun h' tk t' hk=>?_
 have:=h h' tk t' hk
 rw [preSum_eq,List.take_of_length_le (by simp),hn];exact this
theorem min_raw (hh:A.handled=none) (hl:s.heap.IsList l its.toArray) (hi:IntsAre its ns) (hne:0<ns.length)
  (h:∀ h' tk M t',(∀ b o,s.heap.get? b=some o→h'.get? b=some o)→M∈ns→(∀ a,a∈ns→M≤a)→Q (.int M t') { s with heap:=h',toks:=tk }):wpAny (model prog w) A (call (.builtin "min") [.ref l]) Q E s:=by
 obtain ⟨xs,e⟩:=hi.allInts.items
 have hn:numsOf (intItems xs).toList=ns:=by rw [← e];exact hi.numsOf
 rw [nums_intItems] at hn
 subst hn
 rw [e] at hl
 have hsz:0<xs.size:=by simpa using hne
 refine PySem.min_intList hh hl hsz fun v h' tk hv hk=>?_
 obtain ⟨t,rfl⟩:=intItems_at hv
 obtain ⟨h1,h2⟩:=argBest_lt (numAt xs) (xs.size - 1)
 refine h h' tk _ t hk ?_ fun a ha=>?_
 ·rw [numAt_eq];exact PySem.getD_mem (by rw [List.length_map,Array.length_toList];omega)
 ·obtain ⟨j,hj,rfl⟩:=mem_getD ha
  rw [List.length_map,Array.length_toList] at hj
  rw [← numAt_eq];exact h2 j (by omega)
end
section
variable {X:Cx}
def rSum (K:PySem.W.Frag):List V→Hp→VK→Prop:=fun vs H Q=>∃ (a:Addr) (ns:List Int),vs=[V.ref a]∧SqL K H a (ns.map V.int)∧Q (.int ns.sum) H
def rMin (K:PySem.W.Frag):List V→Hp→VK→Prop:=fun vs H Q=>∃ (a:Addr) (ns:List Int),vs=[V.ref a]∧SqL K H a (ns.map V.int)∧0<ns.length∧∀ m,m∈ns→(∀ y,y∈ns→m≤y)→Q (.int m) H
theorem cr_sum (hc:X.calm=true):CallR X (.builtin "sum") (rSum X.K):=by
 intro pins s σ H vs us Q I r h
 obtain ⟨a,ns,rfl,hs,q⟩:=h
 obtain ⟨its,rv,hl,_⟩:=I.list hs
 rw [Vals.ref1 r]
 exact sum_raw (I.ok.hd hc) hl.isList rv.ints fun h' tk t' hk=>⟨.int _,H,I.kept hk,⟨_,rfl⟩,q⟩
theorem cr_min (hc:X.calm=true):CallR X (.builtin "min") (rMin X.K):=by
 intro pins s σ H vs us Q I r h
 obtain ⟨a,ns,rfl,hs,hne,q⟩:=h
 obtain ⟨its,rv,hl,_⟩:=I.list hs
 rw [Vals.ref1 r]
 exact min_raw (I.ok.hd hc) hl.isList rv.ints hne fun h' tk m t' hk h1 h2=>⟨.int _,H,I.kept hk,⟨_,rfl⟩,q m h1 h2⟩
end
section
variable {X:Cx}
end
section
variable {X:Cx}
end
theorem QK {prog:Program} {w:World} {A:Around} {E:Value→Shared→Prop} {s:Shared} {l:Addr} {items:Array Value} {Q:Value→Shared→Prop} (hl:s.heap.IsList l items)
  (h:∀ s₂:Shared,s₂ = { s with heap:=s.heap.push { cls:=.type "list_iterator",data:=.fields #[.ref l,.int 0 0] } } →
   (s₂.heap.IsListIter s.heap.objs.size l 0∧s₂.heap.IsList l items)→l≠s.heap.objs.size→Q (.ref s.heap.objs.size) s₂):wpAny (model prog w) A (pyIter (.ref l)) Q E s:=by
 have hlt:l<s.heap.objs.size:=by obtain ⟨_,e,_⟩:=hl;exact Heap.lt_size e
 exact wpAny_pyIter_list hl (h _ rfl ⟨⟨_,Heap.get?_push_size _ rfl,rfl,rfl⟩,hl.push _⟩ (Nat.ne_of_lt hlt))
theorem k6 {prog:Program} {w:World} {A:Around} {bs:List Bool} {its:List Value} (e:its=bs.map Value.bool) :
  TruthOf prog w A (fun i v=>its.toArray[i]? = some v) (fun i=>bs.getD i false):=fun i v s Q E hv hq=>by
 have hv':its[i]? = some v:=by simpa using hv
 rw [e,List.getElem?_map] at hv'
 obtain ⟨b,hb,rfl⟩:=Option.map_eq_some_iff.mp hv'
 have hg:bs.getD i false=b:=by rw [List.getD_eq_getElem?_getD,hb] <;> rfl
 have hq':Q (bs.getD i false) s:=hq
 rw [hg] at hq'
 exact wpAny_truthy_bool hq'
theorem ZM:∀ bs:List Bool,(List.range bs.length).any (fun i=>bs.getD i false)=bs.any id
 | []=>rfl
 | b :: bs=>by
  rw [List.length_cons,List.range_succ_eq_map,List.any_cons,List.any_map,List.any_cons,← ZM bs]
  all_goals rfl
theorem ZN:∀ bs:List Bool,(List.range bs.length).all (fun i=>bs.getD i false)=bs.all id
 | []=>rfl
 | b :: bs=>by
  rw [List.length_cons,List.range_succ_eq_map,List.all_cons,List.all_map,List.all_cons,← ZN bs]
  all_goals rfl
section
variable {X:Cx}
def rAny (K:PySem.W.Frag):List V→Hp→VK→Prop:=fun vs H Q=>∃ (a:Addr) (bs:List Bool),vs=[V.ref a]∧SqL K H a (bs.map V.bl)∧Q (.bl (bs.any id)) H
def rAll (K:PySem.W.Frag):List V→Hp→VK→Prop:=fun vs H Q=>∃ (a:Addr) (bs:List Bool),vs=[V.ref a]∧SqL K H a (bs.map V.bl)∧Q (.bl (bs.all id)) H
theorem cr_any (hc:X.calm=true):CallR X (.builtin "any") (rAny X.K):=by
 intro pins s σ H vs us Q I r h
 obtain ⟨a,bs,rfl,hs,q⟩:=h
 obtain ⟨its,rv,hl,_⟩:=I.list hs
 rw [Vals.ref1 r]
 have hb:=rv.bls
 refine call_any_walk (QK hl.isList fun s₂ e2 st hne=>?_)
 subst e2
 refine ⟨_,_,_,_,_,_,_,rfl,Walks.list (A:=X.A.in1) (I.ok.hd hc) _ a hne its.toArray,st,k6 hb,fun h' tk hk=>?_⟩
 refine ⟨.bl _,H,I.kept fun b o eo=>hk b o (fun hmem=>?_) (Heap.get?_push_of_some _ eo),?_,q⟩
 ·rcases List.mem_cons.mp hmem with e1 | hmem
  ·exact absurd (e1 ▸ Heap.lt_size eo) (Nat.lt_irrefl _)
  ·cases hmem
 ·show Value.bool _=Value.bool _
  rw [← ZM,hb,List.size_toArray,List.length_map]
theorem cr_all (hc:X.calm=true):CallR X (.builtin "all") (rAll X.K):=by
 intro pins s σ H vs us Q I r h
 obtain ⟨a,bs,rfl,hs,q⟩:=h
 obtain ⟨its,rv,hl,_⟩:=I.list hs
 rw [Vals.ref1 r]
 have hb:=rv.bls
 refine call_all_walk (QK hl.isList fun s₂ e2 st hne=>?_)
 subst e2
 refine ⟨_,_,_,_,_,_,_,rfl,Walks.list (A:=X.A.in1) (I.ok.hd hc) _ a hne its.toArray,st,k6 hb,fun h' tk hk=>?_⟩
 refine ⟨.bl _,H,I.kept fun b o eo=>hk b o (fun hmem=>?_) (Heap.get?_push_of_some _ eo),?_,q⟩
 ·rcases List.mem_cons.mp hmem with e1 | hmem
  ·exact absurd (e1 ▸ Heap.lt_size eo) (Nat.lt_irrefl _)
  ·cases hmem
 ·show Value.bool _=Value.bool _
  rw [← ZN,hb,List.size_toArray,List.length_map]
end
section
variable {X:Cx} {pins:List (Addr × Obj)} {σ:St} {H:Hp} {s:Shared}
end
section
variable {X:Cx}
end
end L2
namespace L2
open PySem PySem.Spec PyProof.Rows
abbrev CellAt (h:Heap) (c:Addr) (v:Option Value):Prop:=h.IsCell c v
def relS (scope sc:Scope):Scope:=
 { scope with names:=scope.names.map fun (n,k)=>if (k == .free&&sc.kind == .function&&sc.names.lookup n == some .cell) then (n,.cell) else (n,k) }
def cloFrom (cells:List (Str × Addr)):List (Str × NameKind)→List (Str × Addr)→List (Str × Addr)
 | [],acc=>acc
 | (n,k) :: r,acc=>if k == .free then cloFrom cells r ((n,(cells.lookup n).getD 0) :: acc) else cloFrom cells r acc
theorem kn (env:Env) (f:Str × NameKind→List (Str × Addr)→Sem (ForInStep (List (Str × Addr))))
  (hf:∀ n k c,f (n,k) c=if k == .free then (do let a ← cellOf env n;pure (.yield ((n,a) :: c))) else pure (.yield c)) :
  ∀ (names:List (Str × NameKind)) (acc:List (Str × Addr)),(∀ y∈names,y.2 = .free→∃ c,env.cells.lookup y.1=some c)→forIn names acc f=pure (cloFrom env.cells names acc)
 | [],acc,_=>by rw [List.forIn_nil];rfl
 | (n,k) :: r,acc,h=>by
  rw [List.forIn_cons,hf]
  have ih:=fun acc=>kn env f hf r acc fun y hy=>h y (List.mem_cons_of_mem _ hy)
  unfold cloFrom
  by_cases hk:(k == NameKind.free)=true
  ·rw [if_pos hk,if_pos hk]
   obtain ⟨c,hc⟩:=h (n,k) List.mem_cons_self (by simpa using hk)
   have e:cellOf env n=pure c:=by unfold cellOf;rw [hc]
   rw [e]
   have e2:(env.cells.lookup n).getD 0=c:=by rw [hc];rfl
   rw [e2]
   exact ih _
  ·rw [if_neg hk,if_neg hk]
   exact ih _
theorem W2 {scope:Scope} {env:Env} (h:∀ y∈scope.names,y.2 = .free→∃ c,env.cells.lookup y.1=some c):closureFor scope env=pure (cloFrom env.cells scope.names []):=by
 simp only [closureFor]
 rw [kn env _ (fun n k c=>rfl) scope.names [] h]
 rfl
theorem vK {α:Type}:∀ {l:List (Str × α)} {n:Str} {c:α},(n,c)∈l→∃ c',l.lookup n=some c'
 | (k,v) :: r,n,c,h=>by
  rw [List.lookup_cons]
  cases hb:n == k with
  | true=>exact ⟨_,rfl⟩
  | false=>
   rcases List.mem_cons.mp h with e | h
   ·cases e;simp at hb
   ·exact vK h
theorem wd {cells:List (Str × Addr)}:∀ {names:List (Str × NameKind)} {acc:List (Str × Addr)} {n:Str} {c:Addr},(n,c)∈cloFrom cells names acc→(n,c)∈acc∨((n,.free)∈names∧c=(cells.lookup n).getD 0)
 | [],_,_,_,h=>.inl h
 | (m,k) :: r,acc,n,c,h=>by
  unfold cloFrom at h
  split at h
  ·rename_i hk
   have hk:k = .free:=by simpa using hk
   rcases wd h with h | ⟨h1,h2⟩
   ·rcases List.mem_cons.mp h with e | h
    ·cases e;exact .inr ⟨hk ▸ List.mem_cons_self,rfl⟩
    ·exact .inl h
   ·exact .inr ⟨List.mem_cons_of_mem _ h1,h2⟩
  ·rcases wd h with h | ⟨h1,h2⟩
   ·exact .inl h
   ·exact .inr ⟨List.mem_cons_of_mem _ h1,h2⟩
theorem yQ {cells:List (Str × Addr)}:∀ {names:List (Str × NameKind)} {acc:List (Str × Addr)} {p:Str × Addr},p∈acc→p∈cloFrom cells names acc
 | [],_,_,h=>h
 | (m,k) :: r,acc,p,h=>by
  unfold cloFrom
  split
  ·exact yQ (List.mem_cons_of_mem _ h)
  ·exact yQ h
theorem yP {cells:List (Str × Addr)}:∀ {names:List (Str × NameKind)} {acc:List (Str × Addr)} {n:Str},(n,.free)∈names→(n,(cells.lookup n).getD 0)∈cloFrom cells names acc
 | (m,k) :: r,acc,n,h=>by
  unfold cloFrom
  rcases List.mem_cons.mp h with e | h
  ·cases e
   exact yQ List.mem_cons_self
  ·split
   ·exact yP h
   ·exact yP h
theorem wR:∀ {names:List (Str × NameKind)} {h:Heap} {acc:List (Str × Addr)} {x:Str} {c:Addr},(x,c)∈cellsFrom h.objs.size names acc →
  (x,c)∈acc∨((x,.cell)∈names∧h.objs.size≤c∧CellAt (pushCells h names) c none)
 | [],_,_,_,_,h=>.inl h
 | (n,k) :: r,h,acc,x,c,hm=>by
  unfold cellsFrom at hm
  unfold pushCells
  split at hm
  ·rename_i hk
   rw [if_pos hk]
   have hk:k = .cell:=by simpa using hk
   rw [← Heap.size_push h { cls:=.type "cell",data:=.cell none }] at hm
   rcases wR hm with hm | ⟨h1,h2,h3⟩
   ·rcases List.mem_cons.mp hm with e | hm
    ·cases e
     exact .inr ⟨hk ▸ List.mem_cons_self,Nat.le_refl _,_,pushCells_keeps r _ _ _ (Heap.get?_push_size _ rfl),rfl⟩
    ·exact .inl hm
   ·rw [Heap.size_push] at h2
    exact .inr ⟨List.mem_cons_of_mem _ h1,Nat.le_of_succ_le h2,h3⟩
  ·rename_i hk
   rw [if_neg hk]
   rcases wR hm with hm | ⟨h1,h2,h3⟩
   ·exact .inl hm
   ·exact .inr ⟨List.mem_cons_of_mem _ h1,h2,h3⟩
theorem y9:∀ {names:List (Str × NameKind)} {n:Nat} {acc:List (Str × Addr)} {p:Str × Addr},p∈acc→p∈cellsFrom n names acc
 | [],_,_,_,h=>h
 | (m,k) :: r,n,acc,p,h=>by
  unfold cellsFrom
  split
  ·exact y9 (List.mem_cons_of_mem _ h)
  ·exact y9 h
theorem k4:∀ {names:List (Str × NameKind)} {n:Nat} {acc:List (Str × Addr)} {x:Str},(x,.cell)∈names→∃ c,(x,c)∈cellsFrom n names acc
 | (m,k) :: r,n,acc,x,h=>by
  unfold cellsFrom
  rcases List.mem_cons.mp h with e | h
  ·cases e
   exact ⟨n,y9 List.mem_cons_self⟩
  ·split
   ·exact k4 h
   ·exact k4 h
theorem k0:∀ {names:List (Str × NameKind)} {h:Heap} {acc:List (Str × Addr)} {x y:Str} {c:Addr},(∀ p∈acc,p.2<h.objs.size)→(∀ x y c,(x,c)∈acc→(y,c)∈acc→x=y) →
  (x,c)∈cellsFrom h.objs.size names acc→(y,c)∈cellsFrom h.objs.size names acc→x=y
 | [],_,_,_,_,_,_,hi,h1,h2=>hi _ _ _ h1 h2
 | (n,k) :: r,h,acc,x,y,c,hl,hi,h1,h2=>by
  unfold cellsFrom at h1 h2
  split at h1
  ·rename_i hk
   rw [if_pos hk] at h2
   rw [← Heap.size_push h { cls:=.type "cell",data:=.cell none }] at h1 h2
   refine k0 (h:=h.push _) (fun p hp=>?_) (fun x y c a b=>?_) h1 h2
   ·rw [Heap.size_push]
    rcases List.mem_cons.mp hp with rfl | hp
    ·exact Nat.lt_succ_self _
    ·exact Nat.lt_succ_of_lt (hl p hp)
   ·rcases List.mem_cons.mp a with e | a <;> rcases List.mem_cons.mp b with e' | b
    ·cases e;cases e';rfl
    ·cases e;exact absurd (hl _ b) (Nat.lt_irrefl _)
    ·cases e';exact absurd (hl _ a) (Nat.lt_irrefl _)
    ·exact hi _ _ _ a b
  ·rename_i hk
   rw [if_neg hk] at h2
   exact k0 hl hi h1 h2
theorem QB {M:Model} {A:Around} {E:Value→Shared→Prop} {s:Shared} {scope:Scope} {globals:Addr} {closure:List (Str × Addr)} {qual:Str} {func:Option Addr} {code:Value} {around:Env} {builtins:Addr} {Q:Env→Shared→Prop}
  (h:Q (newEnv scope s.heap.objs.size globals (cellsFrom (s.heap.objs.size+1) scope.names closure) qual func code (some around) builtins)
   { s with heap:=pushCells (s.heap.push { cls:=.type "dict",data:=.dict #[] }) scope.names }) :
  wpAny M A (newFunctionEnv scope globals closure [] qual func code (some around) builtins) Q E s:=by
 simp only [newFunctionEnv,Option.isSome_some,if_true]
 refine wpAny_bind (wpAny_alloc ?_)
 refine wpAny_bind (wpAny_layCells _ (fun n k c=>rfl) scope.names closure _ _ ?_)
 rw [show ({ s with heap:=s.heap.push { cls:=.type "dict",data:=.dict #[] } }:Shared).heap.objs.size=s.heap.objs.size+1 from Heap.size_push ..]
 rw [List.forIn_nil]
 exact wpAny_bind (wpAny_pure (wpAny_pure h))
theorem yO {sc:Scope}:∀ {names:List (Str × NameKind)} {x:Str} {k:NameKind},
  (names.map fun (n,k)=>if (k == NameKind.free&&sc.kind == .function&&sc.names.lookup n == some .cell) then (n,NameKind.cell) else (n,k)).lookup x=some k →
  ∃ k',names.lookup x=some k'∧(k=k'∨(k' = .free∧k = .cell))
 | [],_,_,h=>by simp at h
 | (n,k₀) :: r,x,k,h=>by
  have ih:=@yO sc r x k
  have h':List.lookup x ((if (k₀ == NameKind.free&&sc.kind == .function&&sc.names.lookup n == some .cell)=true then (n,NameKind.cell) else (n,k₀)) :: (r.map _))=some k:=h
  cases hx:x == n with
  | true=>
   simp only [List.lookup_cons,hx]
   by_cases hc:(k₀ == NameKind.free&&sc.kind == .function&&sc.names.lookup n == some .cell)=true
   ·rw [if_pos hc] at h'
    simp only [List.lookup_cons,hx] at h'
    cases h'
    simp only [Bool.and_eq_true,beq_iff_eq] at hc
    exact ⟨k₀,rfl,.inr ⟨hc.1.1,rfl⟩⟩
   ·rw [if_neg hc] at h'
    simp only [List.lookup_cons,hx] at h'
    cases h'
    exact ⟨_,rfl,.inl rfl⟩
  | false=>
   simp only [List.lookup_cons,hx]
   by_cases hc:(k₀ == NameKind.free&&sc.kind == .function&&sc.names.lookup n == some .cell)=true
   ·rw [if_pos hc] at h'
    simp only [List.lookup_cons,hx] at h'
    exact ih h'
   ·rw [if_neg hc] at h'
    simp only [List.lookup_cons,hx] at h'
    exact ih h'
structure BlkOk (N:List Str) (sc scope:Scope) (own:List (Str × Nat)):Prop where
 kind:scope.kind = .function
 uniq:∀ y∈scope.names,scope.names.lookup y.1=some y.2
 ix:∀ p∈own,N[p.2]? = some p.1
 free:∀ y∈scope.names,y.2 = .free→sc.names.lookup y.1=some .cell∨sc.names.lookup y.1=some .free
 own:∀ y∈scope.names,y.2 = .local∨y.2 = .cell→y.1∈own.map (·.1)∨y.1∉N
def wipe (σ:St):List Nat→St
 | []=>σ
 | v :: vs=>(wipe σ vs).set v none
theorem yn (σ:St):∀ vs:List Nat,(wipe σ vs).length=σ.length
 | []=>rfl
 | v :: vs=>by unfold wipe;rw [List.length_set,yn σ vs]
theorem kt {σ:St} {i:Nat} {x:V}:∀ {vs:List Nat},(wipe σ vs)[i]? = some (some x)→σ[i]? = some (some x)∧i∉vs
 | [],h=>⟨h,by simp⟩
 | v :: vs,h=>by
  unfold wipe at h
  by_cases hi:v=i
  ·subst hi
   by_cases hv:v<(wipe σ vs).length
   ·rw [List.getElem?_set_self hv] at h;cases h
   ·rw [List.getElem?_eq_none (by simpa using hv)] at h;cases h
  ·rw [List.getElem?_set_ne hi] at h
   obtain ⟨h1,h2⟩:=kt h
   exact ⟨h1,by simp only [List.mem_cons,not_or];exact ⟨fun e=>hi e.symm,h2⟩⟩
abbrev Cx.blk (X:Cx) (s:Shared) (H:Hp) (scope:Scope) (cenv:Env) (fp:List Addr):Cx:={ X with s_0:=s,H_0:=H,env:=cenv,outer:=X.stack,ex:=fp,fn:=fun x=>scope.names.lookup x == some .cell,pn:=[],xe:=fun _ _=>False }
section
variable {X:Cx} {pins:List (Addr × Obj)} {σ:St} {H:Hp} {s:Shared}
theorem Q0 {scope:Scope} {own:List (Str × Nat)} {fp:List Addr} (I:Inv X pins σ H s) (ok:BlkOk X.N X.env.scope scope own) (hN:X.N.Nodup) (hfp:∀ b∈fp,FpOk X pins H b∧b<s.heap.objs.size) :
  Inv (X.blk s H scope (compEnvC scope (cellsFrom (s.heap.objs.size+1) scope.names (cloFrom X.env.cells scope.names [])) s.heap.objs.size X.env) fp) [] (wipe σ (own.map (·.2))) H { s with heap:=pushCells (s.heap.push { cls:=.type "dict",data:=.dict #[] }) scope.names }:=by
 have hfree:∀ y∈scope.names,y.2 = .free→∃ c,X.env.cells.lookup y.1=some c:=fun y hy e=>by
  rcases ok.free y hy e with k | k
  ·exact I.ok.has _ (.inl k)
  ·exact I.ok.has _ (.inr k)
 generalize hcenv:compEnvC scope (cellsFrom (s.heap.objs.size+1) scope.names (cloFrom X.env.cells scope.names [])) s.heap.objs.size X.env=cenv
 have kp:∀ b o,s.heap.get? b=some o→(pushCells (s.heap.push { cls:=.type "dict",data:=.dict #[] }) scope.names).get? b=some o:=fun b o e=>pushCells_keeps _ _ _ _ (Heap.get?_push_of_some _ e)
 have hL:cenv.locals=s.heap.objs.size:=by rw [← hcenv];rfl
 have hcl:cenv.cells=cellsFrom (s.heap.objs.size+1) scope.names (cloFrom X.env.cells scope.names []):=by rw [← hcenv];rfl
 have hsc:cenv.scope=relS scope X.env.scope:=by rw [← hcenv];rfl
 rw [← Heap.size_push s.heap { cls:=.type "dict",data:=.dict #[] }] at hcl
 have cm:∀ {y c},(y,c)∈cloFrom X.env.cells scope.names []→X.env.cells.lookup y=some c∧c<s.heap.objs.size:=fun {y c} hm=>by
  rcases wd hm with hm | ⟨h1,rfl⟩
  ·cases hm
  ·obtain ⟨c,hc⟩:=hfree _ h1 rfl
   rw [hc]
   obtain ⟨w,z⟩:=I.cell _ _ hc
   exact ⟨rfl,z.lt⟩
 have mem:∀ {y c},cenv.cells.lookup y=some c→(X.env.cells.lookup y=some c∧c<s.heap.objs.size)∨(s.heap.objs.size+1≤c∧CellAt (pushCells (s.heap.push { cls:=.type "dict",data:=.dict #[] }) scope.names) c none):=fun {y c} e=>by
  rw [hcl] at e
  rcases wR (PySem.mem_of_lookup e) with hm | ⟨_,h2,h3⟩
  ·exact .inl (cm hm)
  ·rw [Heap.size_push] at h2;exact .inr ⟨h2,h3⟩
 have look:∀ {y},scope.names.lookup y=some .free→∃ c,cenv.cells.lookup y=some c∧X.env.cells.lookup y=some c:=fun {y} hl=>by
  have hy:(y,NameKind.free)∈scope.names:=PySem.mem_of_lookup hl
  obtain ⟨c',e'⟩:=vK (y9 (names:=scope.names) (n:=(s.heap.push { cls:=.type "dict",data:=.dict #[] }).objs.size) (yP (cells:=X.env.cells) (acc:=[]) hy))
  rw [← hcl] at e'
  refine ⟨c',e',?_⟩
  rw [hcl] at e'
  rcases wR (PySem.mem_of_lookup e') with hm | ⟨h1,_,_⟩
  ·exact (cm hm).1
  ·have:=ok.uniq _ h1
   rw [hl] at this;cases this
 have okB:(X.blk s H scope cenv fp).Ok:=by
  refine ⟨I.ok.mod,by show cenv.scope.kind=_;rw [hsc];exact ok.kind,by show cenv.globals=_;rw [← hcenv];exact I.ok.glob,by show cenv.builtins=_;rw [← hcenv];exact I.ok.blt,by show s.heap.objs.size≤cenv.locals;rw [hL];exact Nat.le_refl _,
   fun y z c e1 e2=>?_,fun y hy=>?_,fun y c z e=>?_,I.ok.hd,I.ok.frames,.inl rfl,fun b hb=>⟨?_,fun y c e z=>?_⟩,I.bs,Nat.le_trans I.ok.bsz I.sz,fun b o e hb=>?_,fun b hb z=>?_,I.stack,I.stkFree⟩
  ·have e1:cenv.cells.lookup y=some c:=e1
   have e2:cenv.cells.lookup z=some c:=e2
   rw [hcl] at e1 e2
   refine k0 (fun p hp=>?_) (fun y z c a b=>I.ok.inj y z c (cm a).1 (cm b).1) (PySem.mem_of_lookup e1) (PySem.mem_of_lookup e2)
   rw [Heap.size_push]
   exact Nat.lt_succ_of_lt (cm (y:=p.1) (c:=p.2) hp).2
  ·show ∃ c,cenv.cells.lookup y=some c
   have key:∀ k,cenv.kindOf y=some k→(k = .cell∨k = .free)→∃ c,cenv.cells.lookup y=some c:=fun k hk hk'=>by
    unfold Env.kindOf at hk
    rw [hsc] at hk
    obtain ⟨k',e,r⟩:=yO hk
    have:k' = .cell∨k' = .free:=by
     rcases r with rfl | ⟨rfl,_⟩
     ·exact hk'
     ·exact .inr rfl
    rcases this with rfl | rfl
    ·obtain ⟨c,hm⟩:=k4 (n:=(s.heap.push { cls:=.type "dict",data:=.dict #[] }).objs.size) (acc:=cloFrom X.env.cells scope.names []) (PySem.mem_of_lookup e)
     obtain ⟨c',e'⟩:=vK hm
     exact ⟨c',by rw [hcl];exact e'⟩
    ·obtain ⟨c,h1,_⟩:=look e
     exact ⟨c,h1⟩
   rcases hy with hy | hy
   ·exact key _ hy (.inl rfl)
   ·exact key _ hy (.inr rfl)
  ·have z:(scope.names.lookup y == some NameKind.cell)=true:=z
   have z:scope.names.lookup y=some .cell:=by simpa using z
   have e:cenv.cells.lookup y=some c:=e
   rw [hcl] at e
   rcases wR (PySem.mem_of_lookup e) with hm | ⟨_,h2,_⟩
   ·rcases wd hm with hm | ⟨h1,_⟩
    ·cases hm
    ·have q:=ok.uniq _ h1
     rw [z] at q;cases q
   ·rw [Heap.size_push] at h2
    exact Nat.le_of_succ_le h2
  ·show b≠cenv.locals
   rw [hL];exact Nat.ne_of_lt (hfp b hb).2
  ·have e:cenv.cells.lookup y=some c:=e
   rcases mem e with ⟨h1,_⟩ | ⟨h1,_⟩
   ·exact (hfp b hb).1.2.2.2.2.1 y c h1 z
   ·have h2:s.heap.objs.size+1≤b:=by rw [← z];exact h1
    exact absurd (Nat.lt_of_lt_of_le (hfp b hb).2 (Nat.le_of_succ_le h2)) (Nat.lt_irrefl _)
  ·rcases (hfp b hb).1.2.2.2.1 with z | z
   ·exact I.ok.noex b o e z
   ·exact absurd (Nat.lt_of_lt_of_le (Heap.lt_size e) (Nat.le_trans I.ok.bsz z)) (Nat.lt_irrefl _)
  ·rcases List.mem_cons.mp (I.stkSub b z) with z | z
   ·exact (hfp b hb).1.2.1 z
   ·exact (hfp b hb).1.2.2.1 z
 refine ⟨okB,rfl,I.bare,Un.kept kp,⟨fun _=>none,?_,fun i y av e1 e2 e3=>?_⟩,fun y c e=>?_,?_,fun y c e=>?_,fun p hp=>?_,I.hok.kept kp,by rw [yn];exact I.len⟩
 ·show Heap.Ns _ cenv.locals _
  rw [hL]
  exact Heap.Ns.keeps (Heap.Ns.new ..) fun b o e=>pushCells_keeps _ _ _ _ e
 ·obtain ⟨e2,hne⟩:=kt e2
  have hfr:scope.names.lookup y=some .free∧(cenv.kindOf y=some .cell∨cenv.kindOf y=some .free):=by
   have key:∀ k,cenv.scope.names.lookup y=some k→k = .local∨k = .cell∨k = .free→scope.names.lookup y=some .free∧(cenv.kindOf y=some .cell∨cenv.kindOf y=some .free):=fun k hk hk'=>by
    have hk0:=hk
    rw [hsc] at hk
    obtain ⟨k',e,r⟩:=yO hk
    have no:¬ (k' = .local∨k' = .cell):=fun hh=>by
     rcases ok.own _ (PySem.mem_of_lookup e) hh with e' | e'
     ·obtain ⟨p,hp,hpy⟩:=List.mem_map.mp e'
      have e3:=ok.ix p hp
      have:p.1=y:=hpy
      rw [this] at e3
      exact hne (List.mem_map.mpr ⟨p,hp,xq hN e3 e1⟩)
     ·exact e' (List.mem_of_getElem? e1)
    rcases r with rfl | ⟨rfl,rfl⟩
    ·rcases hk' with rfl | rfl | rfl
     ·exact absurd (.inl rfl) no
     ·exact absurd (.inr rfl) no
     ·exact ⟨e,.inr hk0⟩
    ·exact ⟨e,.inl hk0⟩
   have e3:Vis cenv.scope y:=e3
   rcases e3 with e3 | e3 | e3
   ·exact key _ e3 (.inl rfl)
   ·exact key _ e3 (.inr (.inl rfl))
   ·exact key _ e3 (.inr (.inr rfl))
  obtain ⟨m,hn,hl⟩:=I.loc
  have hvis:Vis X.env.scope y:=(ok.free _ (PySem.mem_of_lookup hfr.1) rfl).elim (fun k=>.inr (.inl k)) (fun k=>.inr (.inr k))
  obtain ⟨w,r,q⟩:=hl i y av e1 e2 hvis
  refine ⟨w,r,.inr ⟨hfr.2,?_⟩⟩
  obtain ⟨c,h1,h2⟩:=look hfr.1
  rcases q with ⟨k,_⟩ | ⟨_,c',e',z⟩
  ·have k:X.env.scope.names.lookup y=some .local:=k
   rcases ok.free _ (PySem.mem_of_lookup hfr.1) rfl with k' | k' <;> rw [show X.env.scope.names.lookup y=_ from k'] at k <;> cases k
  ·rw [h2] at e';cases e'
   exact ⟨c,h1,z.keeps kp⟩
 ·have e:cenv.cells.lookup y=some c:=e
  rcases mem e with ⟨h1,_⟩ | ⟨_,z⟩
  ·obtain ⟨w,z⟩:=I.cell y c h1
   exact ⟨w,z.keeps kp⟩
  ·exact ⟨_,z⟩
 ·show H cenv.locals=none
  rw [hL];exact I.hok.fresh (Nat.le_refl _)
 ·have e:cenv.cells.lookup y=some c:=e
  rcases mem e with ⟨h1,_⟩ | ⟨h1,_⟩
  ·exact I.freeC y c h1
  ·exact I.hok.fresh (Nat.le_of_succ_le h1)
 ·exact absurd (show p∈([]:List (Addr × Obj))++[] from hp) (by simp)
theorem app_ok {E:Value→Shared→Prop} {D:Addr} {xs:List V} {y:V} {v:Value} {Q:Value→Shared→Prop} (I:Inv X pins σ H s) (hD:H D=some (.lst xs)) (hz:xs.length<sizeLine) (r:RelV y v)
  (h:∀ s',Inv X pins σ (upd H D (.lst (xs++[y]))) s'→Q .none s'):wpAny (model X.prog X.w) X.A (call (.builtin "list.append") [.ref D,v]) Q E s:=by
 obtain ⟨hz',its,n,ri,e⟩:=I.hok D _ hD
 have hl:=ri.length
 refine append_at (hsz:=by rw [List.size_toArray];omega) e fun h' sb ho'=>?_
 refine h { s with heap:=h' } (I.write (t':=s.toks) (by rw [hD];trivial) (.inl rfl) (fun b u hb q=>(sb.2 b hb).trans q) ⟨_,ho'⟩ ⟨by rw [List.length_append];exact hz,its++[v],n+1,ri.append (.cons r .nil),?_⟩)
 rw [ho']
 simp
def PTs (X:Cx) (ifs:List Expr) (t:TT):Prop:=
 ∀ (pins:List (Addr × Obj)) (s:Shared) (σ:St) (H:Hp) (Q:Bool→Hp→Prop),Inv X pins σ H s→t σ H Q →
  wpAny (model X.prog X.w) X.A (forIn ifs true fun c r=>if r=true then do let ok ← isTrue c X.env (eval c X.env);pure (ForInStep.yield ok) else pure (ForInStep.yield r)) (TP X pins σ Q) X.xe s
def tYes:TT:=fun _ H Q=>Q true H
theorem jC:PTs X [] tYes:=fun _ _ _ H _ I h=>wpAny_tests_nil ⟨H,I,h⟩
theorem yY {c:Expr} {t:TT} (h:PT X c t):PTs X [c] t:=fun pins s σ H Q I hw=>wpAny_tests_one (h pins s σ H Q I hw)
end
theorem thnF {α:Type} {t:Sem α} {Q Q':α→Shared→Prop} {M:Model} {A:Around} {E:Value→Shared→Prop} {s:Shared} (h:wpAny M A t Q (fun _ _=>False) s) (hQ:∀ a s,Q a s→Q' a s):wpAny M A t Q' E s:=wpAny_mono h hQ fun _ _ z=>False.elim z
theorem JH {prog:Program} {w:World} {A:Around} {R:Result→Shared→Prop} {s:Shared} {elt target iter:Expr} {ifs:List Expr} {scope:Scope} {pos:Pos} {it acc:Value} {env:Env} (I:Nat→Shared→Prop)
  (turn:∀ n s,I n s→wpAny (model prog w) A (pyNext it) (fun r s₁=>match r with
   | none=>R (.ok .next) s₁
   | some v=>wpAny (model prog w) A (letOwnedTupleGo target it v) (fun _ s₁'=>wpAny (model prog w) A (assign target env v) (fun _ s₂=>
     wpAny (model prog w) A (forIn ifs true fun c r=>if r=true then do let ok ← isTrue c env (eval c env);pure (ForInStep.yield ok) else pure (ForInStep.yield r)) (fun ok s₃=>
      if ok=true then wpAny (model prog w) A (eval elt env) (fun x s₄=>
       wpAny (model prog w) A (call (.builtin "list.append") [acc,x]) (fun _ s₅=>∃ m,m<n∧I m s₅) (notedBy (model prog w) A env fun e s'=>R (.error e) s') s₄) (notedBy (model prog w) A env fun e s'=>R (.error e) s') s₃
      else ∃ m,m<n∧I m s₃) (notedBy (model prog w) A env fun e s'=>R (.error e) s') s₂) (notedBy (model prog w) A env fun e s'=>R (.error e) s') s₁') (notedBy (model prog w) A env fun e s'=>R (.error e) s') s₁) (notedBy (model prog w) A env fun e s'=>R (.error e) s') s)
  (n:Nat) (h:I n s) :
  codeAny (model prog w) A (.compLoop (.ListComp elt [⟨target,iter,ifs,0⟩] scope pos) 0 it acc env) R s:=by
 refine codeAny_loop rfl I (fun n s hI=>?_) n h
 show wpAny _ A ((compTurn (.ListComp elt [⟨target,iter,ifs,0⟩] scope pos) 0 it acc env).onRaise (fun x=>do noteFrame x env;theTreesLotGoes x)) _ _ s
 refine wpAny_noted ?_
 rw [compTurn_list]
 refine wpAny_bind (wpAny_standAt (wpAny_bind (wpAny_mono (turn n s hI) (fun r s₁ h₁=>?_) fun _ _ h'=>h')))
 cases r with
 | none=>exact wpAny_pure h₁
 | some v=>
  refine wpAny_bind (wpAny_mono h₁ (fun _ s₁' h₁'=>?_) fun _ _ h'=>h')
  refine wpAny_bind (wpAny_mono h₁' (fun _ s₂ h₂=>wpAny_bind (wpAny_mono h₂ (fun ok s₃ h₃=>?_) fun _ _ h'=>h')) fun _ _ h'=>h')
  cases ok with
  | false=>exact wpAny_pure ⟨rfl,h₃⟩
  | true=>
   exact wpAny_bind (wpAny_bind (wpAny_mono h₃ (fun x s₄ h₄=>wpAny_bind (wpAny_mono h₄ (fun _ s₅ h₅=>wpAny_pure (wpAny_pure ⟨rfl,h₅⟩)) fun _ _ h'=>h')) fun _ _ h'=>h'))
section
variable {X:Cx}
def tLc (wi:TI) (g:TG) (tt:TT) (te:TE) (vs:List Nat):TE:=fun σ H Q=>wi σ H fun J H1=>∀ D,H1 D=none→∃ W:Nat→Nat→Hp→Prop,(∃ m,W 0 m (upd H1 D (.lst [])))∧∀ i m H,W i m H →
 (J.stop i H∧Q (.ref D) H)∨(J.go i H∧∃ Nx:Hp→Prop,(∀ H',Nx H'→∃ m',m' < m∧W (i+1) m' H')∧∀ x H',J.yld i H x H'→g x (wipe σ vs) H' fun σ2 H2=>wipe σ2 vs=wipe σ vs∧tt σ2 H2 fun b H3=>
  if b=true then te σ2 H3 fun y H4=>∃ acc,H4 D=some (.lst acc)∧acc.length<sizeLine∧Nx (upd H4 D (.lst (acc++[y]))) else Nx H3)
theorem Yj {pins:List (Addr × Obj)} {s:Shared} {σ:St} {H:Hp} {Q:VK} {elt tg iter:Expr} {ifs:List Expr} {scope:Scope} {own:List (Str × Nat)} {pos pos':Pos} {wi:TI} {g:TG} {tt:TT} {te:TE} {use:Option (Value→Sem Unit)} {Qf:Value→Shared→Prop}
  (hc:X.calm=true) (hN:X.N.Nodup) (I:Inv X pins σ H s) (hi:PI X tg iter wi) (ok:BlkOk X.N X.env.scope scope own)
  (hg:∀ (s:Shared) (H:Hp) (C:Addr) (cl:List (Str × Addr)) (fp:List Addr),PG (X.blk s H scope (compEnvC scope cl C X.env) fp) tg g) (ht:∀ (s:Shared) (H:Hp) (C:Addr) (cl:List (Str × Addr)) (fp:List Addr),PTs (X.blk s H scope (compEnvC scope cl C X.env) fp) ifs tt)
  (he:∀ (s:Shared) (H:Hp) (C:Addr) (cl:List (Str × Addr)) (fp:List Addr),PE (X.blk s H scope (compEnvC scope cl C X.env) fp) elt te) (hs:∀ x,foldedSetIterable iter X.env x=pure x)
  (h:tLc wi g tt te (own.map (·.2)) σ H Q)
  (hRR:∀ D C s' m H',Inv X pins σ H' s'→Q (.ref D) H'→s'.heap.Ns C m→FpOk X pins H' C→compPost (model X.prog X.w) X.A X.xe use Qf (.ref D) C (.ok .next) s') :
  wpAny (model X.prog X.w) X.A (comprehension (.ListComp elt [⟨tg,iter,ifs,0⟩] scope pos) scope X.env pos' (newList []) false (eval iter X.env) use) Qf X.xe s:=by
 have hfree:∀ y∈scope.names,y.2 = .free→∃ c,X.env.cells.lookup y.1=some c:=fun y hy e=>by
  rcases ok.free y hy e with k | k
  ·exact I.ok.has _ (.inl k)
  ·exact I.ok.has _ (.inr k)
 refine wpAny_comprehension_free (use:=use) rfl hs (W2 hfree) ok.kind (fun y hy e=>by rw [ok.uniq y hy,e])
  (thn (hi pins s σ H _ I h) fun xv s1 hx=>thn hx fun itv s2 h2=>?_)
 obtain ⟨it,fp,tn,J,H2,e,I2,T,st2,f2,q⟩:=h2
 subst e
 refine wpAny_newObj_type (QB ?_) (by show 0≤sizeLine;decide)
 generalize hD:s2.heap.objs.size=D
 have hDn:H2 D=none:=I2.hok.fresh (Nat.le_of_eq hD)
 obtain ⟨W,⟨m0,w0⟩,turn⟩:=q D hDn
 generalize hs3:({ s2 with heap:=s2.heap.push { cls:=.type "list",data:=.seq ([]:List Value).toArray } }:Shared)=s3
 have I3:Inv X pins σ (upd H2 D (.lst [])) s3:=by
  rw [← hs3]
  refine I2.laid (t':=s2.toks) (fun b o e=>Heap.get?_push_of_some _ e) (Nat.le_of_eq hD) ⟨Nat.zero_le _,[],0,.nil,?_⟩
  rw [← hD]
  exact Heap.get?_push_size _ rfl
 have h3:s3.heap=s2.heap.push { cls:=.type "list",data:=.seq ([]:List Value).toArray }:=by rw [← hs3]
 have sz:∀ b∈fp,b<s2.heap.objs.size:=fun b hb=>by
  obtain ⟨o,e,_⟩:=T.obj _ _ st2 b hb
  exact Heap.lt_size e
 have f3:∀ b∈fp,FpOk X pins (upd H2 D (.lst [])) b∧b<s3.heap.objs.size:=fun b hb=>by
  have hlt:=sz b hb
  refine ⟨⟨?_,(f2 b hb).2⟩,by rw [h3,Heap.size_push];exact Nat.lt_succ_of_lt hlt⟩
  rw [zl (by rw [← hD];exact Nat.ne_of_lt hlt)]
  exact (f2 b hb).1
 have st3:tn 0 s3.heap:=T.keep _ _ _ st2 fun b _ o e=>by rw [h3];exact Heap.get?_push_of_some _ e
 have I4:=Q0 I3 ok hN f3
 have pg:=hg s3 (upd H2 D (.lst [])) s3.heap.objs.size (cellsFrom (s3.heap.objs.size+1) scope.names (cloFrom X.env.cells scope.names [])) fp
 have pt:=ht s3 (upd H2 D (.lst [])) s3.heap.objs.size (cellsFrom (s3.heap.objs.size+1) scope.names (cloFrom X.env.cells scope.names [])) fp
 have pe:=he s3 (upd H2 D (.lst [])) s3.heap.objs.size (cellsFrom (s3.heap.objs.size+1) scope.names (cloFrom X.env.cells scope.names [])) fp
 show codeAny _ _ (.compStart (.ListComp elt [⟨tg,iter,ifs,0⟩] scope pos) 0 (.ref it) (.ref D) (compEnvC scope (cellsFrom (s3.heap.objs.size+1) scope.names (cloFrom X.env.cells scope.names [])) s3.heap.objs.size X.env)) (compPost (model X.prog X.w) X.A X.xe use Qf (.ref D) s3.heap.objs.size) { s3 with heap:=pushCells (s3.heap.push { cls:=.type "dict",data:=.dict #[] }) scope.names }
 have nfp:∀ b∈fp,(upd H2 D (.lst [])) b=none:=fun b hb=>(f3 b hb).1.1
 generalize hce:compEnvC scope (cellsFrom (s3.heap.objs.size+1) scope.names (cloFrom X.env.cells scope.names [])) s3.heap.objs.size X.env=ce at I4 pg pt pe ⊢
 have cL:ce.locals=s3.heap.objs.size:=by subst hce;rfl
 generalize hH3:upd H2 D (.lst [])=H3 at I3 I4 pg pt pe w0 nfp f3
 generalize hs4:({ s3 with heap:=pushCells (s3.heap.push { cls:=.type "dict",data:=.dict #[] }) scope.names }:Shared)=s4 at I4 ⊢
 have st4:tn 0 s4.heap:=T.keep _ _ _ st3 fun b _ o e=>by rw [← hs4];exact pushCells_keeps _ _ _ _ (Heap.get?_push_of_some _ e)
 have stat:∀ {σ':St} {H':Hp} {s':Shared},Inv (X.blk s3 H3 scope ce fp) [] σ' H' s'→(∀ b∈fp,H' b=none)→∀ b∈fp,FpOk (X.blk s3 H3 scope ce fp) [] H' b:=fun {σ' H' s'} I' hn b hb=>
  ⟨hn b hb,(I'.ok.exf b hb).1,I'.ok.exfs b hb,.inl hb,fun x c e=>(I'.ok.exf b hb).2 x c e,fun p hp=>absurd (show p∈([]:List (Addr × Obj))++[] from hp) (by simp)⟩
 have loop:codeAny (model X.prog X.w) X.A (.compLoop (.ListComp elt [⟨tg,iter,ifs,0⟩] scope pos) 0 (.ref it) (.ref D) ce) (compPost (model X.prog X.w) X.A X.xe use Qf (.ref D) s3.heap.objs.size) s4:=by
  refine JH (fun n s'=>∃ i H',Inv (X.blk s3 H3 scope ce fp) [] (wipe σ (own.map (·.2))) H' s'∧tn i s'.heap∧(∀ b∈fp,H' b=none)∧W i n H') ?_ m0 ⟨0,H3,I4,st4,nfp,w0⟩
  rintro n s5 ⟨i,H5,I5,st5,n5,w5⟩
  rcases turn i n H5 w5 with ⟨stop,qq⟩ | ⟨go,Nx,hNx,step⟩
  ·have td:=T.done (X.blk s3 H3 scope ce fp) rfl rfl rfl hc i [] s5 _ H5 (fun _ _=>False) I5 (stat I5 n5) st5 stop
   refine thnF td fun r s6 ⟨hr,I6⟩=>?_
   subst hr
   have I7:Inv X pins σ H5 s6:=I3.call' (ch:=fp) I6.os I6.base I6.hok I6.bare fun b hb=>⟨(f3 b hb).1.2.2.2.1,(f3 b hb).1.2.1,(f3 b hb).1.2.2.2.2.1,(f3 b hb).1.2.2.2.2.2⟩
   have nC:H5 s3.heap.objs.size=none:=by
    have z:H5 ce.locals=none:=I6.free
    rw [cL] at z
    exact z
   obtain ⟨m,hn,_⟩:=I6.loc
   have hn:s6.heap.Ns ce.locals m:=hn
   rw [cL] at hn
   exact hRR D s3.heap.objs.size s6 m H5 I7 qq hn (I3.fpOk (Nat.le_refl _) nC)
  ·have ti:=T.item (X.blk s3 H3 scope ce fp) rfl rfl rfl hc i [] s5 _ H5 (fun _ _=>False) I5 (stat I5 n5) st5 go
   refine thnF ti fun r s6 ⟨u,hr,h6⟩=>?_
   subst hr
   refine thnF h6 fun _ s7 ⟨x,H7,I7,r7,y7,st7,n7⟩=>?_
   have I7':=I7.pinned (stat I7 n7) (T.obj _ _ st7)
   refine thnF (pg _ s7 _ H7 x u _ I7' r7 (step x H7 y7)) fun _ s8 ⟨σ8,H8,I8,hw8,q8⟩=>?_
   refine thnF (pt _ s8 σ8 H8 _ I8 q8) fun b s9 ⟨H9,I9,q9⟩=>?_
   have fin:∀ {s':Shared} {H':Hp},Inv (X.blk s3 H3 scope ce fp) ([]++pinsAt fp s7.heap) σ8 H' s'→Nx H'→∃ m,m<n∧∃ i H',Inv (X.blk s3 H3 scope ce fp) [] (wipe σ (own.map (·.2))) H' s'∧tn i s'.heap∧(∀ b∈fp,H' b=none)∧W i m H':=fun {s' H'} I' nx=>by
    obtain ⟨m',hm,w'⟩:=hNx H' nx
    have pin':∀ b∈fp,∀ o,s7.heap.get? b=some o→s'.heap.get? b=some o∧H' b=none:=fun b hb o e=>
     let z:=I'.pin (b,o) (List.mem_append_right _ (List.mem_append_right _ (vJ hb e)))
     ⟨z.1,z.2.1⟩
    have hl:(wipe σ (own.map (·.2))).length=σ8.length:=by rw [← hw8,yn]
    refine ⟨m',hm,i+1,H',(I'.unpinned (pins:=[])).weak hl (fun j v e=>?_),T.keep _ _ _ st7 fun b hb o e=>(pin' b hb o e).1,fun b hb=>?_,w'⟩
    ·rw [← hw8] at e
     exact (kt e).1
    ·obtain ⟨o,e,_⟩:=T.obj _ _ st7 b hb
     exact (pin' b hb o e).2
   cases b with
   | false=>
    simp only [Bool.false_eq_true,if_false] at q9 ⊢
    exact fin I9 q9
   | true=>
    simp only [if_true] at q9 ⊢
    refine thnF (pe _ s9 σ8 H9 _ I9 q9) fun z s10 ⟨yv,H10,I10,r10,acc,hD10,hz10,nx⟩=>?_
    exact app_ok (X:=X.blk s3 H3 scope ce fp) I10 hD10 hz10 r10 fun s11 I11=>fin I11 nx
 exact codeAny_compStart_list loop (T.self X.A 0 _ _ _ st4 loop)
theorem qT {elt tg iter:Expr} {ifs:List Expr} {scope:Scope} {own:List (Str × Nat)} {pos:Pos} {wi:TI} {g:TG} {tt:TT} {te:TE} (hc:X.calm=true) (hN:X.N.Nodup) (hi:PI X tg iter wi) (ok:BlkOk X.N X.env.scope scope own)
  (hg:∀ (s:Shared) (H:Hp) (C:Addr) (cl:List (Str × Addr)) (fp:List Addr),PG (X.blk s H scope (compEnvC scope cl C X.env) fp) tg g) (ht:∀ (s:Shared) (H:Hp) (C:Addr) (cl:List (Str × Addr)) (fp:List Addr),PTs (X.blk s H scope (compEnvC scope cl C X.env) fp) ifs tt)
  (he:∀ (s:Shared) (H:Hp) (C:Addr) (cl:List (Str × Addr)) (fp:List Addr),PE (X.blk s H scope (compEnvC scope cl C X.env) fp) elt te) (hs:∀ x,foldedSetIterable iter X.env x=pure x:=by intro _;rfl) :
  PE X (.ListComp elt [⟨tg,iter,ifs,0⟩] scope pos) (tLc wi g tt te (own.map (·.2))):=by
 intro pins s σ H Q I h
 rw [eval_ListComp]
 refine Yj hc hN I hi ok hg ht he hs h fun D C s' m H' I' q hn f=>⟨m,hn,fun h'' sb=>?_⟩
 obtain ⟨f0,f1,f2,f3,f4,f5⟩:=f
 exact ⟨.ref D,H',I'.turned (t':=s'.toks) (fun b o hb e=>(sb.2 b hb).trans e) f0 f1 f3 f4 f5,rfl,q⟩
theorem wI {i:Nat} {y:Str} {py:Pos} {elt tg iter:Expr} {ifs:List Expr} {scope:Scope} {own:List (Str × Nat)} {pos spos:Pos} {wi:TI} {g:TG} {tt:TT} {te:TE} (hc:X.calm=true) (hN:X.N.Nodup) (hy:X.N[i]? = some y) (hyl:X.env.scope.names.lookup y=some .local)
  (hsw:swapsWith (.ListComp elt [⟨tg,iter,ifs,0⟩] scope pos) (some (.Name y py)) spos.line X.env=pure true) (hi:PI X tg iter wi) (ok:BlkOk X.N X.env.scope scope own)
  (hg:∀ (s:Shared) (H:Hp) (C:Addr) (cl:List (Str × Addr)) (fp:List Addr),PG (X.blk s H scope (compEnvC scope cl C X.env) fp) tg g) (ht:∀ (s:Shared) (H:Hp) (C:Addr) (cl:List (Str × Addr)) (fp:List Addr),PTs (X.blk s H scope (compEnvC scope cl C X.env) fp) ifs tt)
  (he:∀ (s:Shared) (H:Hp) (C:Addr) (cl:List (Str × Addr)) (fp:List Addr),PE (X.blk s H scope (compEnvC scope cl C X.env) fp) elt te) (hs:∀ x,foldedSetIterable iter X.env x=pure x:=by intro _;rfl) :
  PS X (.Assign [.Name y py] (.ListComp elt [⟨tg,iter,ifs,0⟩] scope pos) spos) (tAsg (tLc wi g tt te (own.map (·.2))) (gName i)):=by
 intro pins s σ H D I h
 rw [exec_Assign_Name_used _ _ _ _ hsw]
 refine wpAny_bind (wpAny_standAt (wpAny_bind ?_))
 show wpAny _ X.A (do let _ ← comprehension (.ListComp elt [⟨tg,iter,ifs,0⟩] scope pos) scope X.env (firstIterPos [⟨tg,iter,ifs,0⟩] pos) (newList []) false (eval iter X.env) (some (assign (.Name y py) X.env))) _ _ s
 have h:tLc wi g tt te (own.map (·.2)) σ H (fun x H1=>gName i x σ H1 D.nx):=h
 refine wpAny_bind (thn (Yj (Qf:=fun _ s'=>SP X pins D .next s') hc hN I hi ok hg ht he hs h fun L C s' m H' I' q hn f=>?_) fun _ s' hq=>wpAny_pure (wpAny_pure hq))
 show wpAny _ _ (assign (.Name y py) X.env (.ref L)) _ _ _
 refine wpAny_assign_Name (Zl (v:=V.ref L) I' hN hy (.inl hyl) rfl (fun s2 I2 ⟨a,sb,ha⟩=>?_) (.inr hyl))
 obtain ⟨f0,f1,f2,f3,f4,f5⟩:=f
 have haC:C≠a:=by
  rcases ha with z | z
  ·rw [z];exact f1
  ·exact fun e=>f4 y a z e.symm
 refine ⟨m,hn.sameBut sb haC,fun h3 sb3=>?_⟩
 exact ⟨_,H',I2.turned (t':=s2.toks) (fun b o hb e=>(sb3.2 b hb).trans e) f0 f1 f3 f4 f5,q⟩
theorem yT {elt:Expr} {gs:List Comprehension} {scope:Scope} {pos py:Pos} {y:Str} {l:Nat} {env:Env} (hk:env.scope.kind = .function) (hy:env.scope.names.lookup y=some .local) (hl:(py.line == pos.line)=true)
  (ha:(scope.names.any fun (n,k)=>n == y&&(k == .local||k == .cell))=false):swapsWith (.ListComp elt gs scope pos) (some (.Name y py)) l env=pure true:=by
 have ky:env.kindOf y=some .local:=hy
 have hb:env.blockKind = .function:=by unfold Env.blockKind;rw [hk];rfl
 unfold swapsWith
 simp only [hb,ky,ha,Expr.pos,hl]
 rfl
end
theorem lc_range {lo:Int} {n:Nat} {g:TG} {tt:TT} {te:TE} {vs:List Nat} {σ:St} {H1:Hp} {D:Addr} {Qd:Hp→Prop} (Pv:Nat→Hp→Prop) (h0:Pv 0 (upd H1 D (.lst [])))
  (hs:∀ i H,i<n→Pv i H→g (.int (lo+i)) (wipe σ vs) H fun σ2 H2=>wipe σ2 vs=wipe σ vs∧tt σ2 H2 fun b H3=>
   if b=true then te σ2 H3 fun y H4=>∃ acc,H4 D=some (.lst acc)∧acc.length<sizeLine∧Pv (i+1) (upd H4 D (.lst (acc++[y]))) else Pv (i+1) H3) (hd:∀ H,Pv n H→Qd H) :
  ∃ W:Nat→Nat→Hp→Prop,(∃ m,W 0 m (upd H1 D (.lst [])))∧∀ i m H,W i m H →
   ((Itr lo n).stop i H∧Qd H)∨((Itr lo n).go i H∧∃ Nx:Hp→Prop,(∀ H',Nx H'→∃ m',m' < m∧W (i+1) m' H')∧∀ x H',(Itr lo n).yld i H x H'→g x (wipe σ vs) H' fun σ2 H2=>wipe σ2 vs=wipe σ vs∧tt σ2 H2 fun b H3=>
    if b=true then te σ2 H3 fun y H4=>∃ acc,H4 D=some (.lst acc)∧acc.length<sizeLine∧Nx (upd H4 D (.lst (acc++[y]))) else Nx H3):=by
 refine ⟨fun i m H=>m=n - i∧i≤n∧Pv i H,⟨n,by simp,Nat.zero_le _,h0⟩,?_⟩
 rintro i m H ⟨rfl,hi,p⟩
 by_cases hlt:i<n
 ·refine .inr ⟨hlt,Pv (i+1),fun H' p'=>⟨n - (i+1),by omega,rfl,hlt,p'⟩,fun x H' y=>?_⟩
  obtain ⟨e,y⟩:=y
  subst e y
  exact hs i _ hlt p
 ·have e:i=n:=by omega
  subst e
  exact .inl ⟨Nat.le_refl _,hd H p⟩
theorem lc_list {K:PySem.W.Frag} {a:Addr} {xs:List V} {g:TG} {tt:TT} {te:TE} {vs:List Nat} {σ:St} {H1:Hp} {D:Addr} {Qd:Hp→Prop} (Pv:Nat→Hp→Prop) (h0:Pv 0 (upd H1 D (.lst []))) (hl:∀ i H,i≤xs.length→Pv i H→SqL K H a xs)
  (hs:∀ i x H,xs[i]? = some x→Pv i H→g x (wipe σ vs) H fun σ2 H2=>wipe σ2 vs=wipe σ vs∧tt σ2 H2 fun b H3=>
   if b=true then te σ2 H3 fun y H4=>∃ acc,H4 D=some (.lst acc)∧acc.length<sizeLine∧Pv (i+1) (upd H4 D (.lst (acc++[y]))) else Pv (i+1) H3) (hd:∀ H,Pv xs.length H→Qd H) :
  ∃ W:Nat→Nat→Hp→Prop,(∃ m,W 0 m (upd H1 D (.lst [])))∧∀ i m H,W i m H →
   ((Itl K a).stop i H∧Qd H)∨((Itl K a).go i H∧∃ Nx:Hp→Prop,(∀ H',Nx H'→∃ m',m' < m∧W (i+1) m' H')∧∀ x H',(Itl K a).yld i H x H'→g x (wipe σ vs) H' fun σ2 H2=>wipe σ2 vs=wipe σ vs∧tt σ2 H2 fun b H3=>
    if b=true then te σ2 H3 fun y H4=>∃ acc,H4 D=some (.lst acc)∧acc.length<sizeLine∧Nx (upd H4 D (.lst (acc++[y]))) else Nx H3):=by
 refine ⟨fun i m H=>m=xs.length - i∧i≤xs.length∧Pv i H,⟨xs.length,by simp,Nat.zero_le _,h0⟩,?_⟩
 rintro i m H ⟨rfl,hi,p⟩
 have q:=hl i H hi p
 by_cases hlt:i<xs.length
 ·refine .inr ⟨⟨xs,xs[i],q,by simp [hlt]⟩,Pv (i+1),fun H' p'=>⟨xs.length - (i+1),by omega,rfl,hlt,p'⟩,fun x H' y=>?_⟩
  obtain ⟨e,y⟩:=y
  subst e
  exact hs i x _ (y xs q) p
 ·have e:i=xs.length:=by omega
  subst e
  exact .inl ⟨⟨xs,q,Nat.le_refl _⟩,hd H p⟩
def blkC (N:List Str) (sc scope:Scope) (own:List (Str × Nat)):Bool:=
 (match scope.kind with | .function=>true | _=>false)&&(scope.names.all fun y=>decide (scope.names.lookup y.1=some y.2))&&(own.all fun p=>decide (N[p.2]? = some p.1)) &&
  (scope.names.all fun y=>match y.2 with
   | .free=>(match sc.names.lookup y.1 with | some .cell=>true | some .free=>true | _=>false)
   | .local=>decide (y.1∈own.map (·.1))||decide (y.1∉N)
   | .cell=>decide (y.1∈own.map (·.1))||decide (y.1∉N)
   | _=>true)
theorem zW {N:List Str} {sc scope:Scope} {own:List (Str × Nat)} (h:blkC N sc scope own=true):BlkOk N sc scope own:=by
 unfold blkC at h
 simp only [Bool.and_eq_true,List.all_eq_true,decide_eq_true_eq] at h
 obtain ⟨⟨⟨h1,h2⟩,h3⟩,h4⟩:=h
 refine ⟨?_,h2,h3,fun y hy e=>?_,fun y hy e=>?_⟩
 ·split at h1
  ·assumption
  ·cases h1
 ·have q:=h4 y hy
  simp only [e] at q
  split at q <;> first | exact .inl (by assumption) | exact .inr (by assumption) | cases q
 ·have q:=h4 y hy
  rcases e with e | e <;> (simp only [e,Bool.or_eq_true,decide_eq_true_eq] at q;exact q)
end L2
namespace L2
open PySem PySem.Spec PyProof.Rows
section
variable {prog:Program} {w:World} {A:Around} {R:Result→Shared→Prop} {s:Shared} {elt t0 i0 t1 i1:Expr} {ifs0 ifs1:List Expr} {scope:Scope} {pos:Pos} {it acc:Value} {env:Env}
end
section
variable {X:Cx}
end
end L2
namespace L2
open PySem PySem.Spec PyProof.Rows
section
variable {κ:Type} [DecidableEq κ]
def valV (kvs:List (κ × V)) (k:κ):Option V:=(kvs.find? fun kv=>decide (kv.1=k)).map (·.2)
theorem valV_pos {p:κ × V} {r:List (κ × V)} {k:κ} (e:p.1=k):valV (p :: r) k=some p.2:=by simp [valV,List.find?_cons,e]
theorem valV_neg {p:κ × V} {r:List (κ × V)} {k:κ} (e:¬ p.1=k):valV (p :: r) k=valV r k:=by simp [valV,List.find?_cons,e]
theorem RelO.isSome_eq {o:Option V} {u:Option Value} (r:RelO o u):o.isSome=u.isSome:=by
 cases o with
 | none=>cases u with
  | none=>rfl
  | some _=>exact (show False from r).elim
 | some _=>cases u with
  | none=>exact (show False from r).elim
  | some _=>rfl
theorem KV.val {kvs:List (κ × V)} {vs:List (κ × Value)} (r:KV kvs vs) (k:κ):RelO (valV kvs k) (valueAt vs k):=by
 unfold KV at r
 induction r with
 | nil=>exact True.intro
 | @cons p q ps qs h t ih=>
  obtain ⟨h1,h2⟩:=h
  by_cases e:p.1=k
  ·have e':q.1=k:=h1.symm.trans e
   have b:valueAt (q :: qs) k=some q.2:=by simp [valueAt,List.find?_cons,e']
   rw [valV_pos e,b];exact h2
  ·have e':¬ q.1=k:=fun z=>e (h1.trans z)
   have b:valueAt (q :: qs) k=valueAt qs k:=by simp [valueAt,List.find?_cons,e']
   rw [valV_neg e,b];exact ih
end
theorem kV_is {P:Program} {w:World} {k:Key} {u:Value} (r:RelV (kV k) u):(mixKind P w).is k u=true:=by
 cases k with
 | inl i=>obtain ⟨t,e⟩:=(show ∃ t,u=Value.int i t from r);subst e;exact QE P w i t
 | inr x=>obtain ⟨t,e⟩:=(show ∃ t,u=Value.str x t from r);subst e;exact QD P w x t
section
variable {P:Program} {w:World} {H:Hp} {h:Heap} {a:Addr}
end
section
variable {X:Cx} {pins:List (Addr × Obj)} {σ:St} {H:Hp} {s:Shared} {a:Addr} {y v:V} {u r:Value} {o:Option V} {A:Around} {E:Value→Shared→Prop}
end
section
variable {X:Cx} {pins:List (Addr × Obj)} {σ:St} {H:Hp} {s:Shared} {a:Addr} {kvs:List (Key × V)} {k:Key} {u:Value} {A:Around} {E:Value→Shared→Prop}
end
def NoSl (i:Expr):Prop:=∀ ov iv,subscripted i false ov iv=operate [ov,iv] (getItem ov iv)
theorem subD_of {prog:Program} {w:World} {A:Around} {E:Value→Shared→Prop} {s:Shared} {env:Env} {value slice:Expr} {pos:Pos} {T id:String} {Q:Value→Shared→Prop}
  (hl:typeLookup (.type T) "__getitem__" = pure (some (.builtin id))) (hs:NoSl slice)
  (h:wpAny (model prog w) A (eval value env) (fun o s₁=>wpAny (model prog w) A (eval slice env) (fun i s₂=>s₂.TypeIs o T∧wpAny (model prog w) A (getItem o i) Q E s₂) E s₁) E s) :
  wpAny (model prog w) A (eval (.Subscript value slice pos) env) Q E s:=by
 refine Subscript_ (wpAny_mono h (fun o s₁ h₁=>wpAny_mono h₁ (fun i s₂ h₂=>?_) fun _ _ x=>x) fun _ _ x=>x)
 obtain ⟨hT,h₂⟩:=h₂
 unfold subscriptTail
 refine wpAny_bind ?_
 rw [getitemInPython_of_ne hT.not_modules]
 refine wpAny_bind (wpAny_specialOf hT hl ?_)
 have fin:wpAny (model prog w) A (subscripted slice false o i) (fun r s₃=>wpAny (model prog w) A (letTemporaryGo value o r >>= fun _=>pure r) Q E s₃) E s₂:=by
  rw [hs o i]
  exact wpAny_operating (wpAny_mono h₂ (fun r s₃ h₃=>wpAny_bind (wpAny_letTemporaryGo (wpAny_pure h₃))) fun _ _ x=>x)
 first
  | exact wpAny_pure (wpAny_bind fin)
  | exact wpAny_bind (wpAny_pure (wpAny_bind fin))
  | exact wpAny_bind fin
section
variable {X:Cx} {o i e value:Expr} {pos pos' tpos:Pos} {td ty tv:TE}
end
section
variable {X:Cx} {pos:Pos}
end
section
variable {X:Cx} {pins:List (Addr × Obj)} {σ:St} {H:Hp} {s:Shared} {a:Addr} {y d:V} {u r:Value} {o:Option V} {A:Around} {E:Value→Shared→Prop}
end
section
variable {X:Cx} {o e f:Expr} {apos cpos:Pos} {td ty tx:TE}
end
section
variable {X:Cx} {pins:List (Addr × Obj)} {σ:St} {H:Hp} {s:Shared} {a:Addr} {kvs:List (Key × V)} {A:Around} {E:Value→Shared→Prop}
end
section
variable {X:Cx} {pins:List (Addr × Obj)} {σ:St} {H:Hp} {s:Shared} {a:Addr} {y:V} {u:Value} {A:Around} {E:Value→Shared→Prop}
end
end L2
namespace L2
open PySem PySem.Spec PyProof.Rows
section
variable {prog:Program} {w:World} {A:Around} {E:Value→Shared→Prop}
end
section
variable {X:Cx}
end
end L2
namespace L2
open PySem PySem.Spec PyProof.Rows
theorem xM:bootBuiltins "reversed" = some (.type "reversed"):=by decide +kernel
section
variable {X:Cx} {pins:List (Addr × Obj)} {σ:St} {H:Hp} {s:Shared} {h':Heap}
theorem Inv.turnedL {t':Nat} {ch:List Addr} (I:Inv X pins σ H s) (k:∀ b o,b∉ch→s.heap.get? b=some o→h'.get? b=some o) (hf:∀ b∈ch,FpOk X pins H b):Inv X pins σ H { s with heap:=h',toks:=t' }:=by
 have nit:∀ b u,H b=some u→b∉ch:=fun b u e z=>by
  have q:=(hf b z).1
  rw [q] at e;cases e
 refine I.step (g':=s.gens) (d':=s.drawn) (ch:=ch) (fun b hb=>⟨(hf b hb).2.2.2.1,(hf b hb).2.1,(hf b hb).2.2.2.2.1,(hf b hb).2.2.2.2.2⟩) (fun b o _ _ hc e _=>k b o hc e) (fun b o _ _ hc e _=>⟨o.slots,k b o hc e⟩)
  (fun _ _ _ _ n=>n) (fun b o hc e=>⟨o,k b o hc e⟩) (fun _ _ e=>e) (fun _ _ _ e=>e) (fun b ps e=>⟨#[],by rw [e];simp⟩) (fun m hm=>?_) (fun b u e=>?_) I.bare
 ·obtain ⟨o,es,ep,ho,r⟩:=hm
  exact ⟨o,es,ep,k _ o (fun z=>(hf _ z).2.1 rfl) ho,r⟩
 ·refine (I.hok b u e).stay (fun c v hc q=>k c v ?_ q) (fun _ q=>q) fun _ _ q=>q
  rcases hc with z | z
  ·rw [z];exact nit b u e
  ·exact nit c _ z
theorem Inv.turnedNew {t':Nat} {ch:List Addr} {T:Addr} {ob:HO} (I:Inv X pins σ H s) (k:∀ b o,b∉ch→s.heap.get? b=some o→h'.get? b=some o) (hf:∀ b∈ch,FpOk X pins H b) (hT:s.heap.objs.size≤T)
  (new:ObjOk X.prog X.w (upd H T ob) h' T ob):Inv X pins σ (upd H T ob) { s with heap:=h',toks:=t' }:=by
 have hn:H T=none:=I.hok.fresh hT
 have nit:∀ b u,H b=some u→b∉ch:=fun b u e z=>by
  have q:=(hf b z).1
  rw [q] at e;cases e
 refine I.step (g':=s.gens) (d':=s.drawn) (ch:=ch) (fun b hb=>⟨(hf b hb).2.2.2.1,(hf b hb).2.1,(hf b hb).2.2.2.2.1,(hf b hb).2.2.2.2.2⟩) (fun b o _ _ hc e _=>k b o hc e) (fun b o _ _ hc e _=>⟨o.slots,k b o hc e⟩)
  (fun b o _ e n=>?_) (fun b o hc e=>⟨o,k b o hc e⟩) (fun b xs e=>?_) (fun b o u e=>?_) (fun b ps e=>⟨#[],?_⟩) (fun m hm=>?_) (fun b u e=>?_) I.bare
 ·rw [zl (Nat.ne_of_lt (Nat.lt_of_lt_of_le (Heap.lt_size e) hT))];exact n
 ·rw [zl (zn e hn)];exact e
 ·rw [zl (zn e hn)];exact e
 ·rw [zl (zn e hn),e];simp
 ·obtain ⟨o,es,ep,ho,r⟩:=hm
  exact ⟨o,es,ep,k _ o (fun z=>(hf _ z).2.1 rfl) ho,r⟩
 ·by_cases hb:b=T
  ·subst hb
   rw [zf] at e
   cases e
   exact new
  ·rw [zl hb] at e
   refine (I.hok b u e).stay (fun c v hc q=>k c v ?_ q) (fun c q=>by rw [zl (zn q hn)];exact q) fun c xs q=>by rw [zl (zn q hn)];exact q
   rcases hc with z | z
   ·rw [z];exact nit b u e
   ·exact nit c _ z
end
section
variable {X:Cx}
theorem pi_one {tg:Expr} {pins:List (Addr × Obj)} {σ:St} {H:Hp} {s:Shared} {R:It→Hp→Prop} {J:It} {tn:Nat→Heap→Prop} {tk:Nat} (I:Inv X pins σ H s) (o:Obj)
  (T:Turn X.prog X.w X.K tg J [s.heap.objs.size] s.heap.objs.size tn) (st:tn 0 (s.heap.push o)) (q:R J H):PIE X pins σ tg R (.ref s.heap.objs.size) { s with heap:=s.heap.push o,toks:=tk }:=by
 refine ⟨s.heap.objs.size,[s.heap.objs.size],tn,J,H,rfl,I.kept fun b ob e=>Heap.get?_push_of_some _ e,T,st,fun b hb=>?_,q⟩
 have e:b=s.heap.objs.size:=by simpa using hb
 subst e
 exact I.fpOk (Nat.le_refl _) (I.hok.fresh (Nat.le_refl _))
end
def Itc (lo c:Int) (n:Nat):It:=⟨fun i _=>i<n,fun i H x H'=>H' = H∧x = .int (lo+(i:Nat) * c),fun i _=>n≤i⟩
theorem JN {P:Program} {w:World} {K:PySem.W.Frag} {tg:Expr} (it:Addr) (lo c:Int) (n:Nat):Turn P w K tg (Itc lo c n) [it] it (fun i h=>IsRangeIter h it (lo+(i:Nat) * c) ((n:Int) - (i:Nat)) c) where
 mem:=by simp
 obj:=fun i h st b hb=>by
  have e:b=it:=by simpa using hb
  subst e
  exact ⟨_,st,fun v z=>nomatch z⟩
 keep:=fun i h h' st k=>k it (by simp) _ st
 item:=by
  intro X hP hw hK hc i pins s σ H E I hf st hg
  subst hP hw hK
  obtain ⟨f0,f1,f2,f3,f4,f5⟩:=hf it (by simp)
  have W:=Walks.range (prog:=X.prog) (w:=X.w) (I.ok.hd hc) it lo c n
  refine W.item i s _ _ hg st fun v h' tk hv st' kk=>?_
  obtain ⟨t,rfl⟩:=hv
  have I1:Inv X pins σ H { s with heap:=h',toks:=tk }:=I.turned (fun b o hb e=>kk b o (by simpa using hb) e) f0 f1 f3 f4 f5
  exact ⟨_,rfl,Yq (s:={ s with heap:=h',toks:=tk }) (n:="range_iterator") st' rfl rfl (by decide) ⟨.int (lo+(i:Nat) * c),H,I1,⟨t,rfl⟩,⟨rfl,rfl⟩,st',fun b hb=>(hf b hb).1⟩⟩
 done:=by
  intro X hP hw hK hc i pins s σ H E I hf st hg
  subst hP hw hK
  obtain ⟨f0,f1,f2,f3,f4,f5⟩:=hf it (by simp)
  exact wpAny_pyNext_range_end (I.ok.hd hc) st (by have:n≤i:=hg;omega) fun h' eb=>⟨rfl,I.turned (t':=s.toks) (fun b o hb e=>eb b o hb e) f0 f1 f3 f4 f5⟩
 self:=fun A i s Q E st h=>wpAny_pyIter_rangeiter st h
def RgC (i j c:Int) (n:Nat):Prop:=c≠0∧c.natAbs<1073741824∧Builtin.Range.small i j c=true∧Builtin.Range.rangeSize i j c=n
def iRng3 (ta:TA):TI:=fun σ H R=>ta σ H fun vs H1=>∃ (i j c:Int) (n:Nat),vs=[.int i,.int j,.int c]∧RgC i j c n∧R (Itc i c n) H1
section
variable {X:Cx} {tg:Expr}
theorem Zu {a b c:Expr} {ta:TA} {p pos:Pos} (hg:Gl X "range") (hm:X.mg "range" = none) (ha:PA X [a,b,c] ta)
  (hs:starEach [a,b,c] X.env=(false,eval a X.env) :: starEach [b,c] X.env:=by rfl) (hpl:(backTo pos (starEach [b,c] X.env)).any (·.1)=false:=by rfl) :
  PI X tg (.Call (.Name "range" p) [a,b,c] [] pos) (iRng3 ta):=by
 intro pins s σ H R I h
 refine Call_ (ww I hg hm boot_range (PyProof.Rows.callWith_type1 (thn (ha pos pins s σ H _ I h) fun us s1 ⟨vs,H1,I1,r1,q1⟩=>?_) hs hpl))
 obtain ⟨i,j,k,n,e,⟨c0,c1,c2,c3⟩,q⟩:=q1
 subst e
 cases r1 with
 | cons r rr=>
  cases rr with
  | cons r' rr=>
   cases rr with
   | cons r'' rr=>
    cases rr
    obtain ⟨t,rfl⟩:=r
    obtain ⟨t',rfl⟩:=r'
    obtain ⟨t'',rfl⟩:=r''
    refine call_range_3 c0 ?_ (.inl (PyProof.noPylong_small c1))
    refine wpAny_pyIter_range (IsRange.new ..) c2 ?_
    have I2:Inv X pins σ H1 { s1 with heap:=s1.heap.push { cls:=.type "range",data:=.fields #[.int i t,.int j t',.int k t''] } }:=I1.kept (t':=s1.toks) fun b o e=>Heap.get?_push_of_some _ e
    refine pi_one (tk:=s1.toks) I2 _ (JN _ i k n) ?_ q
    have e1:i+((0:Nat):Int) * k=i:=by simp
    have e2:(n:Int) - ((0:Nat):Int)=Builtin.Range.rangeSize i j k:=by rw [c3];simp
    show IsRangeIter _ _ (i+((0:Nat):Int) * k) ((n:Int) - ((0:Nat):Int)) k
    rw [e1,e2]
    exact Heap.get?_push_size _ rfl
end
theorem WU {lo c:Int} {n:Nat} {g:TG} {tb:TS} {D:Ends} {σ:St} {H:Hp} (Pv:Nat→St→Hp→Prop) (h0:Pv 0 σ H)
  (hs:∀ i σ H,i<n→Pv i σ H→g (.int (lo+(i:Nat) * c)) σ H fun σ2 H2=>tb { D with nx:=Pv (i+1),ct:=Pv (i+1),bk:=D.nx } σ2 H2) (hd:∀ σ H,Pv n σ H→D.nx σ H) :
  ∃ W:Nat→Nat→St→Hp→Prop,(∃ m,W 0 m σ H)∧∀ i m σ H,W i m σ H →
   ((Itc lo c n).stop i H∧D.nx σ H)∨((Itc lo c n).go i H∧∃ N:St→Hp→Prop,(∀ σ' H',N σ' H'→∃ m',m' < m∧W (i+1) m' σ' H')∧∀ x H',(Itc lo c n).yld i H x H'→g x σ H' fun σ2 H2=>tb { D with nx:=N,ct:=N,bk:=D.nx } σ2 H2):=by
 refine ⟨fun i m σ H=>m=n - i∧i≤n∧Pv i σ H,⟨n,by simp,Nat.zero_le _,h0⟩,?_⟩
 rintro i m σ H ⟨rfl,hi,p⟩
 by_cases hlt:i<n
 ·refine .inr ⟨hlt,Pv (i+1),fun σ' H' p'=>⟨n - (i+1),by omega,rfl,hlt,p'⟩,fun x H' y=>?_⟩
  obtain ⟨e,y⟩:=y
  subst e y
  exact hs i σ _ hlt p
 ·have e:i=n:=by omega
  subst e
  exact .inl ⟨Nat.le_refl _,hd σ H p⟩
def Itv (K:PySem.W.Frag) (a:Addr) (n:Nat):It:=
 ⟨fun i H=>i<n∧∃ (xs:List V) (x:V),SqL K H a xs∧xs[n - 1 - i]? = some x,fun i H x H'=>H' = H∧∀ xs,SqL K H a xs→xs[n - 1 - i]? = some x,fun i _=>n≤i⟩
theorem turn_rev {P:Program} {w:World} {K:PySem.W.Frag} {tg:Expr} (a it:Addr) (n:Nat):Turn P w K tg (Itv K a n) [it] it (fun i h=>i≤n∧h.IsRevIter it a ((n:Int) - 1 - (i:Nat))) where
 mem:=by simp
 obj:=fun i h st b hb=>by
  have e:b=it:=by simpa using hb
  subst e
  obtain ⟨_,o,e,c,d⟩:=st
  exact ⟨o,e,fun v z=>by rw [d] at z;cases z⟩
 keep:=fun i h h' st k=>⟨st.1,st.2.at fun o e=>k it (by simp) o e⟩
 item:=by
  intro X hP hw hK hc i pins s σ H E I hf st hg
  subst hP hw hK
  obtain ⟨hin,xs,x,hq,hx⟩:=hg
  obtain ⟨its,rv,p,hz⟩:=I.list hq
  obtain ⟨u,hu,ru⟩:=rv.get hx
  obtain ⟨f0,f1,f2,f3,f4,f5⟩:=hf it (by simp)
  obtain ⟨_,hit⟩:=st
  have e1:(n:Int) - 1 - ((i:Nat):Int)=((n - 1 - i:Nat):Int):=by omega
  rw [e1] at hit
  refine wpAny_pyNext_rev_item hit p.isList (x:=u) (by simpa using hu) fun h' st' sb=>?_
  have e2:((n - 1 - i:Nat):Int) - 1=(n:Int) - 1 - ((i+1:Nat):Int):=by omega
  rw [e2] at st'
  have I1:Inv X pins σ H { s with heap:=h' }:=I.turned (t':=s.toks) (fun b o hb e=>(sb.2 b hb).trans e) f0 f1 f3 f4 f5
  obtain ⟨o,e,c,d⟩:=id st'
  exact ⟨u,rfl,Yq (s:={ s with heap:=h' }) e c d (by decide) ⟨x,H,I1,ru,⟨rfl,fun ys hy=>by rw [I.list_inj hy hq];exact hx⟩,⟨hin,st'⟩,fun b hb=>(hf b hb).1⟩⟩
 done:=by
  intro X hP hw hK hc i pins s σ H E I hf st hg
  subst hP hw hK
  obtain ⟨f0,f1,f2,f3,f4,f5⟩:=hf it (by simp)
  obtain ⟨hin,hit⟩:=st
  have hge:n≤i:=hg
  have e1:(n:Int) - 1 - ((i:Nat):Int) = -1:=by omega
  rw [e1] at hit
  exact wpAny_pyNext_rev_end (I.ok.hd hc) hit fun h' eb=>⟨rfl,I.turned (t':=s.toks) (fun b o hb e=>eb b o hb e) f0 f1 f3 f4 f5⟩
 self:=fun A i s Q E st h=>wpAny_pyIter_revIter st.2 h
def iRev (K:PySem.W.Frag) (ta:TA):TI:=fun σ H R=>ta σ H fun vs H1=>∃ (a:Addr) (xs:List V),vs=[.ref a]∧SqL K H1 a xs∧R (Itv K a xs.length) H1
section
variable {X:Cx} {tg:Expr}
theorem Qs {e:Expr} {ta:TA} {p pos:Pos} (hg:Gl X "reversed") (hm:X.mg "reversed" = none) (ha:PA X [e] ta) (hs:starEach [e] X.env=[(false,eval e X.env)]:=by rfl):PI X tg (.Call (.Name "reversed" p) [e] [] pos) (iRev X.K ta):=by
 intro pins s σ H R I h
 refine Call_ (ww I hg hm xM (PyProof.Rows.callWith_type1 (thn (ha pos pins s σ H _ I h) fun us s1 ⟨vs,H1,I1,r1,q1⟩=>?_) hs rfl))
 obtain ⟨a,xs,e,hq,q⟩:=q1
 subst e
 cases r1 with
 | cons r rr=>
  cases rr
  cases r
  obtain ⟨its,rv,p',hz⟩:=I1.list hq
  have hl:=rv.length
  have e1:((its.toArray.size:Nat):Int) - 1=(xs.length:Int) - 1 - ((0:Nat):Int):=by simp only [List.size_toArray];omega
  refine call_reversed_list p'.isList (wpAny_pyIter_revIter (l:=a) (i:=((its.toArray.size:Nat):Int) - 1) ⟨_,Heap.get?_push_size _ rfl,rfl,rfl⟩ ?_)
  refine pi_one (tk:=s1.toks) I1 _ (turn_rev a _ xs.length) ⟨Nat.zero_le _,?_⟩ q
  rw [← e1]
  exact ⟨_,Heap.get?_push_size _ rfl,rfl,rfl⟩
end
section
variable {prog:Program} {w:World} {A:Around} {E:Value→Shared→Prop} {s:Shared}
end
section
variable {X:Cx} {pins:List (Addr × Obj)} {σ:St} {H:Hp} {s:Shared} {d:Addr} {o:Obj}
end
section
variable {P:Program} {w:World} {K:PySem.W.Frag} {tg:Expr} {d:Addr} {o:Obj} {es:Array DictEntry} {ep:Nat}
end
section
variable {X:Cx} {tg e:Expr} {td:TE} {apos cpos:Pos}
end
def Ite (K:PySem.W.Frag) (a:Addr):It:=
 ⟨fun i H=>∃ (xs:List V) (x:V),SqL K H a xs∧xs[i]? = some x,fun i H v H'=>∃ T x,v = .ref T∧H T=none∧H' = upd H T (.tup [.int (i:Nat),x])∧∀ xs,SqL K H a xs→xs[i]? = some x,fun i H=>∃ xs:List V,SqL K H a xs∧xs.length≤i⟩
theorem YE {P:Program} {w:World} {K:PySem.W.Frag} {elts:List Expr} {kk:Nat} {tpos:Pos} (a e it:Addr) :
  Turn P w K (.Tuple elts kk tpos) (Ite K a) [e,it] e (fun i h=>(∃ old,IsEnum h e it ((i:Nat):Int) old)∧h.IsListIter it a i∧e≠it) where
 mem:=by simp
 obj:=fun i h st b hb=>by
  obtain ⟨⟨old,he⟩,⟨o,ho,hc,hd⟩,_⟩:=st
  have e':b=e∨b=it:=by simpa using hb
  rcases e' with z | z
  ·rw [z];exact ⟨_,he,fun v q=>nomatch q⟩
  ·rw [z];exact ⟨o,ho,fun v q=>by rw [hd] at q;cases q⟩
 keep:=fun i h h' st k=>let ⟨⟨old,he⟩,hi,hne⟩:=st;⟨⟨old,k e (by simp) _ he⟩,hi.at fun o q=>k it (by simp) o q,hne⟩
 item:=by
  intro X hP hw hK hc i pins s σ H E I hf st hg
  subst hP hw hK
  obtain ⟨⟨old,he⟩,hit,hne⟩:=st
  obtain ⟨xs,x,hq,hx⟩:=hg
  obtain ⟨its,rv,p,hz⟩:=I.list hq
  obtain ⟨u,hu,ru⟩:=rv.get hx
  have hel:e<s.heap.objs.size:=Heap.lt_size he
  have hil:it<s.heap.objs.size:=by obtain ⟨_,q,_⟩:=hit;exact Heap.lt_size q
  refine wpAny_pyNext_enum_item he hit p.isList (x:=u) (by simpa using hu) hne fun h' ho hit' hT hsz hk=>?_
  refine ⟨_,rfl,wpAny_letOwnedTupleGo_enum (s:={ s with heap:=h',toks:=s.toks+1 }) ho fun h'' he' sb=>?_⟩
  have hT2:h''.get? s.heap.objs.size=some { cls:=.type "tuple",data:=.seq #[.int i s.toks,u] }:=(sb.2 _ (Nat.ne_of_gt hel)).trans hT
  have new:ObjOk X.prog X.w (upd H s.heap.objs.size (.tup [.int (i:Nat),x])) h'' s.heap.objs.size (.tup [.int (i:Nat),x]):=
   ⟨by show 2≤sizeLine;decide,[.int i s.toks,u],.cons ⟨_,rfl⟩ (.cons ru .nil),⟨_,hT2,rfl,_,rfl⟩⟩
  have I1:Inv X pins σ (upd H s.heap.objs.size (.tup [.int (i:Nat),x])) { s with heap:=h'',toks:=s.toks+1 }:=
   I.turnedNew (ch:=[e,it]) (fun b ob hb q=>(sb.2 b (fun z=>hb (by simp [z]))).trans (hk b ob (fun z=>hb (by simp [z])) (fun z=>hb (by simp [z])) q)) hf (Nat.le_refl _) new
  refine ⟨.ref s.heap.objs.size,_,I1,rfl,⟨_,x,rfl,I.hok.fresh (Nat.le_refl _),rfl,fun ys hy=>by rw [I.list_inj hy hq];exact hx⟩,⟨⟨u,?_⟩,hit'.at fun o q=>(sb.2 it (Ne.symm hne)).trans q,hne⟩,fun b hb=>?_⟩
  ·have e1:((i+1:Nat):Int)=(i:Int)+1:=by omega
   rw [e1];exact he'
  ·have hb':b<s.heap.objs.size:=by
    have e':b=e∨b=it:=by simpa using hb
    rcases e' with z | z
    ·rw [z];exact hel
    ·rw [z];exact hil
   rw [zl (Nat.ne_of_lt hb')]
   exact (hf b hb).1
 done:=by
  intro X hP hw hK hc i pins s σ H E I hf st hg
  subst hP hw hK
  obtain ⟨⟨old,he⟩,hit,hne⟩:=st
  obtain ⟨xs,hq,hx⟩:=hg
  obtain ⟨its,rv,p,hz⟩:=I.list hq
  obtain ⟨f0,f1,f2,f3,f4,f5⟩:=hf it (by simp)
  have hl:=rv.length
  exact wpAny_pyNext_enum_end (I.ok.hd hc) he hit p.isList (by simp;omega) fun h' eb=>⟨rfl,I.turned (t':=s.toks) (fun b o hb q=>eb b o hb q) f0 f1 f3 f4 f5⟩
 self:=fun A i s Q E st h=>let ⟨⟨_,he⟩,_⟩:=st;wpAny_pyIter_enum he h
def iEnum (K:PySem.W.Frag) (ta:TA):TI:=fun σ H R=>ta σ H fun vs H1=>∃ a xs,vs=[.ref a]∧SqL K H1 a xs∧R (Ite K a) H1
theorem pi_enum {X:Cx} {e:Expr} {ta:TA} {p pos tpos:Pos} {elts:List Expr} {kk:Nat} (hg:Gl X "enumerate") (hm:X.mg "enumerate" = none) (ha:PA X [e] ta) (hs:starEach [e] X.env=[(false,eval e X.env)]:=by rfl) :
  PI X (.Tuple elts kk tpos) (.Call (.Name "enumerate" p) [e] [] pos) (iEnum X.K ta):=by
 intro pins s σ H R I h
 refine Call_ (ww I hg hm boot_enumerate (PyProof.Rows.callWith_type1 (thn (ha pos pins s σ H _ I h) fun us s1 ⟨vs,H1,I1,r1,q1⟩=>?_) hs rfl))
 obtain ⟨a,xs,ex,hq,q⟩:=q1
 subst ex
 cases r1 with
 | cons r rr=>
  cases rr
  cases r
  obtain ⟨its,rv,p',hz⟩:=I1.list hq
  refine call_enumerate_list p'.isList fun h' he hit hsz hk=>wpAny_pyIter_enum he ?_
  have I2:Inv X pins σ H1 { s1 with heap:=h' }:=I1.kept (t':=s1.toks) hk
  refine ⟨s1.heap.objs.size+1,[s1.heap.objs.size+1,s1.heap.objs.size],_,_,H1,rfl,I2,YE a (s1.heap.objs.size+1) s1.heap.objs.size,⟨⟨.none,he⟩,hit,Nat.succ_ne_self _⟩,fun b hb=>?_,q⟩
  have e':b=s1.heap.objs.size+1∨b=s1.heap.objs.size:=by simpa using hb
  have hle:s1.heap.objs.size≤b:=by
   rcases e' with z | z
   ·rw [z];exact Nat.le_add_right _ _
   ·rw [z];exact Nat.le_refl _
  exact I1.fpOk hle (I1.hok.fresh hle)
theorem Vi:bootBuiltins "zip" = some (.type "zip"):=by decide +kernel
def Itz (K:PySem.W.Frag) (a b:Addr):It:=
 ⟨fun i H=>∃ (xs ys:List V) (x y:V),SqL K H a xs∧SqL K H b ys∧xs[i]? = some x∧ys[i]? = some y,
  fun i H v H'=>∃ T x y,v = .ref T∧H T=none∧H' = upd H T (.tup [x,y])∧(∀ xs,SqL K H a xs→xs[i]? = some x)∧∀ ys,SqL K H b ys→ys[i]? = some y,
  fun i H=>∃ xs ys:List V,SqL K H a xs∧SqL K H b ys∧(xs.length≤i∨ys.length≤i)⟩
theorem turn_zip {P:Program} {w:World} {K:PySem.W.Frag} {elts:List Expr} {kk:Nat} {tpos:Pos} {a b z TI TO i1 i2:Addr} (D:ZipApart z TI TO i1 i2 a b) :
  Turn P w K (.Tuple elts kk tpos) (Itz K a b) [z,TI,TO,i1,i2] z (fun i h=>IsZip h z TI TO .none∧IsPair h TI (.ref i1) (.ref i2)∧(∃ x y,IsPair h TO x y)∧h.IsListIter i1 a i∧h.IsListIter i2 b i) where
 mem:=by simp
 obj:=fun i h st c hc=>by
  obtain ⟨hz,hTI,⟨x,y,hTO⟩,⟨o1,e1,_,d1⟩,⟨o2,e2,_,d2⟩⟩:=st
  have e':c=z∨c=TI∨c=TO∨c=i1∨c=i2:=by simpa using hc
  rcases e' with q | q | q | q | q
  ·rw [q];exact ⟨_,hz,fun v q=>nomatch q⟩
  ·rw [q];exact ⟨_,hTI,fun v q=>nomatch q⟩
  ·rw [q];exact ⟨_,hTO,fun v q=>nomatch q⟩
  ·rw [q];exact ⟨o1,e1,fun v q=>by rw [d1] at q;cases q⟩
  ·rw [q];exact ⟨o2,e2,fun v q=>by rw [d2] at q;cases q⟩
 keep:=fun i h h' st k=>by
  obtain ⟨hz,hTI,⟨x,y,hTO⟩,h1,h2⟩:=st
  exact ⟨k z (by simp) _ hz,k TI (by simp) _ hTI,⟨x,y,k TO (by simp) _ hTO⟩,h1.at fun o q=>k i1 (by simp) o q,h2.at fun o q=>k i2 (by simp) o q⟩
 item:=by
  intro X hP hw hK hc i pins s σ H E I hf st hg
  subst hP hw hK
  obtain ⟨hz,hTI,⟨x0,y0,hTO⟩,h1,h2⟩:=st
  obtain ⟨xs,ys,x,y,hqx,hqy,hx,hy⟩:=hg
  obtain ⟨its,rv,p,_⟩:=I.list hqx
  obtain ⟨its2,rv2,p2,_⟩:=I.list hqy
  obtain ⟨u,hu,ru⟩:=rv.get hx
  obtain ⟨u2,hu2,ru2⟩:=rv2.get hy
  have hzl:z<s.heap.objs.size:=Heap.lt_size hz
  refine wpAny_pyNext_zip_item D hz hTI hTO h1 h2 p.isList p2.isList (x:=u) (y:=u2) (by simpa using hu) (by simpa using hu2) fun h' z' TO' h1' h2' hT hsz hk=>?_
  refine ⟨_,rfl,wpAny_letOwnedTupleGo_zip (s:={ s with heap:=h' }) z' fun h'' z'' sb=>?_⟩
  have hT2:h''.get? s.heap.objs.size=some { cls:=.type "tuple",data:=.seq #[u,u2] }:=(sb.2 _ (Nat.ne_of_gt hzl)).trans hT
  have new:ObjOk X.prog X.w (upd H s.heap.objs.size (.tup [x,y])) h'' s.heap.objs.size (.tup [x,y]):=
   ⟨by show 2≤sizeLine;decide,[u,u2],.cons ru (.cons ru2 .nil),⟨_,hT2,rfl,_,rfl⟩⟩
  have I1:Inv X pins σ (upd H s.heap.objs.size (.tup [x,y])) { s with heap:=h'' }:=
   I.turnedNew (t':=s.toks) (ch:=[z,TI,TO,i1,i2]) (fun c o hb q=>(sb.2 c (fun q'=>hb (by simp [q']))).trans (hk c o (fun q'=>hb (by simp [q'])) (fun q'=>hb (by simp [q'])) (fun q'=>hb (by simp [q'])) (fun q'=>hb (by simp [q'])) q)) hf (Nat.le_refl _) new
  refine ⟨.ref s.heap.objs.size,_,I1,rfl,⟨_,x,y,rfl,I.hok.fresh (Nat.le_refl _),rfl,fun l hl=>by rw [I.list_inj hl hqx];exact hx,fun l hl=>by rw [I.list_inj hl hqy];exact hy⟩,⟨z'',?_,⟨u,u2,?_⟩,?_,?_⟩,fun c hcm=>?_⟩
  ·exact (sb.2 _ D.TIz).trans (hk _ _ D.TIz D.TITO D.TIi1 D.TIi2 hTI)
  ·exact (sb.2 _ D.TOz).trans TO'
  ·exact h1'.at fun o q=>(sb.2 _ D.i1z).trans q
  ·exact h2'.at fun o q=>(sb.2 _ D.i2z).trans q
  ·have hlt:c<s.heap.objs.size:=by
    have e':c=z∨c=TI∨c=TO∨c=i1∨c=i2:=by simpa using hcm
    rcases e' with q | q | q | q | q
    ·rw [q];exact hzl
    ·rw [q];exact Heap.lt_size hTI
    ·rw [q];exact Heap.lt_size hTO
    ·rw [q];obtain ⟨_,e1,_⟩:=h1;exact Heap.lt_size e1
    ·rw [q];obtain ⟨_,e2,_⟩:=h2;exact Heap.lt_size e2
   rw [zl (Nat.ne_of_lt hlt)]
   exact (hf c hcm).1
 done:=by
  intro X hP hw hK hc i pins s σ H E I hf st hg
  subst hP hw hK
  obtain ⟨hz,hTI,⟨x0,y0,hTO⟩,h1,h2⟩:=st
  obtain ⟨xs,ys,hqx,hqy,hend⟩:=hg
  obtain ⟨its,rv,p,_⟩:=I.list hqx
  obtain ⟨its2,rv2,p2,_⟩:=I.list hqy
  have l1:=rv.length
  have l2:=rv2.length
  have he:its.toArray[i]? = none∨its2.toArray[i]? = none:=by
   rcases hend with q | q
   ·exact .inl (by simp;omega)
   ·exact .inr (by simp;omega)
  exact wpAny_pyNext_zip_end (I.ok.hd hc) D hz hTI hTO h1 h2 p.isList p2.isList he fun h' hk=>⟨rfl,I.turnedL (t':=s.toks) (ch:=[z,TI,TO,i1,i2]) (fun c o hb q=>
   hk c o (fun q'=>hb (by simp [q'])) (fun q'=>hb (by simp [q'])) (fun q'=>hb (by simp [q'])) (fun q'=>hb (by simp [q'])) q) hf⟩
 self:=fun A i s Q E st h=>wpAny_pyIter_zip st.1 h
def iZip (K:PySem.W.Frag) (ta:TA):TI:=fun σ H R=>ta σ H fun vs H1=>∃ a b xs ys,vs=[.ref a,.ref b]∧SqL K H1 a xs∧SqL K H1 b ys∧R (Itz K a b) H1
theorem pi_zip {X:Cx} {e e2:Expr} {ta:TA} {p pos tpos:Pos} {elts:List Expr} {kk:Nat} (hg:Gl X "zip") (hm:X.mg "zip" = none) (ha:PA X [e,e2] ta)
  (hs:starEach [e,e2] X.env=(false,eval e X.env) :: starEach [e2] X.env:=by rfl) (hpl:(backTo pos (starEach [e2] X.env)).any (·.1)=false:=by rfl) :
  PI X (.Tuple elts kk tpos) (.Call (.Name "zip" p) [e,e2] [] pos) (iZip X.K ta):=by
 intro pins s σ H R I h
 refine Call_ (ww I hg hm Vi (PyProof.Rows.callWith_type1 (thn (ha pos pins s σ H _ I h) fun us s1 ⟨vs,H1,I1,r1,q1⟩=>?_) hs hpl))
 obtain ⟨a,b,xs,ys,ex,hqx,hqy,q⟩:=q1
 subst ex
 cases r1 with
 | cons r rr=>
  cases rr with
  | cons r' rr=>
   cases rr
   cases r
   cases r'
   obtain ⟨its,rv,p1,_⟩:=I1.list hqx
   obtain ⟨its2,rv2,p2,_⟩:=I1.list hqy
   have la:a<s1.heap.objs.size:=p1.lt
   have lb:b<s1.heap.objs.size:=p2.lt
   refine call_zip_2 p1.isList p2.isList fun h' hz hTI hTO h1 h2 hsz hk=>wpAny_pyIter_zip hz ?_
   have I2:Inv X pins σ H1 { s1 with heap:=h' }:=I1.kept (t':=s1.toks) hk
   refine ⟨s1.heap.objs.size+4,[s1.heap.objs.size+4,s1.heap.objs.size+2,s1.heap.objs.size+3,s1.heap.objs.size,s1.heap.objs.size+1],_,_,H1,rfl,I2,turn_zip (PySem.W.ktu_apart s1.heap.objs.size a b la lb),⟨hz,hTI,⟨_,_,hTO⟩,h1,h2⟩,fun c hcm=>?_,q⟩
   have e':c=s1.heap.objs.size+4∨c=s1.heap.objs.size+2∨c=s1.heap.objs.size+3∨c=s1.heap.objs.size∨c=s1.heap.objs.size+1:=by simpa using hcm
   have hle:s1.heap.objs.size≤c:=by
    rcases e' with z | z | z | z | z
    ·rw [z];exact Nat.le_add_right _ _
    ·rw [z];exact Nat.le_add_right _ _
    ·rw [z];exact Nat.le_add_right _ _
    ·rw [z];exact Nat.le_refl _
    ·rw [z];exact Nat.le_add_right _ _
   exact I1.fpOk hle (I1.hok.fresh hle)
end L2
section
namespace Bits
open PySem PyProof.Rows
end Bits
end
section
namespace TL
open PySem PySem.Builtin PySem.Builtin.Str PySem.StrLaws
end TL
end
namespace L2
open PySem PySem.Spec PyProof.Rows
section
variable {X:Cx} {pins:List (Addr × Obj)} {σ:St} {H:Hp} {s:Shared} {Q:VK}
end
section
variable {X:Cx}
end
section
variable {X:Cx} {o e:Expr} {to te:TE}
end
end L2
namespace L2
open PySem PySem.Spec PyProof.Rows
section
variable {X:Cx}
end
end L2
namespace Att
open PySem PySem.W PySem.Calls PyProof.Rows
section
variable {prog:Program} {w:World} {A:Around} {E:Value→Shared→Prop} {s:Shared} {K:Frag}
end
end Att
namespace L2
open PySem PySem.Spec PyProof.Rows
end L2
namespace L2
open PySem PySem.Spec PyProof.Rows
end L2
namespace L2
open PySem PySem.Spec PyProof.Rows
def inClass (s:Stmt) (j:Nat):Stmt:=match s with
 | .ClassDef _ _ _ body _ _ _ _ _ _ _=>body.getD j (.Pass ⟨0,0,0,0⟩)
 | _=>.Pass ⟨0,0,0,0⟩
def defArgs (s:Stmt):Arguments:=match s with
 | .FunctionDef _ a _ _ _ _ _ _ _ _=>a
 | _=>{ posonlyargs:=[],args:=[],vararg:=none,kwonlyargs:=[],kw_defaults:=[],kwarg:=none,defaults:=[] }
def defBody (s:Stmt):List Stmt:=match s with
 | .FunctionDef _ _ b _ _ _ _ _ _ _=>b
 | _=>[]
def defScope (s:Stmt):Scope:=match s with
 | .FunctionDef _ _ _ _ _ _ sc _ _ _=>sc
 | _=>{ kind:=.function,names:=[],isGenerator:=false,isCoroutine:=false }
abbrev CX0:CXT:=fun _ _ _ _ _ _=>False
abbrev E0:XK:=fun _ _ _=>False
theorem pass0 {X:Cx}:Passes CX0 X E0:=fun _ _ _ _ _ _ _ h=>h.elim
structure Fun (K:PySem.W.Frag) (x qual:Str) (st:Stmt) (f:Addr) (fd:FuncData):Prop where
 ex:∃ (oc:Value) (od:Option Addr) (kV doc pm:Value) (an:Option Addr) (cdv ct:Value) (osl:Array (Option Value)),
  fd=PySem.W.fnOf x qual (defArgs st) (defBody st) (defScope st) .none kV doc pm an cdv ct∧K.lookup f=some ⟨oc,od,.func fd,osl⟩∧PySem.W.codeIn K cdv qual=true
 kp:PySem.W.keepIn K (.ref f)=true
section
variable {P:Program} {w:World} {K:PySem.W.Frag} {mg:Str→Option Value} {base:Heap}
theorem Fun.ok {x qual:Str} {st:Stmt} {f:Addr} {fd:FuncData} {N ps:List Str} {k:Nat} {sp:Sp} (F:Fun K x qual st f fd) (S:FnScope N ps (defScope st)) (len:∀ vs H Q E,sp vs H Q E→vs.length=ps.length)
  (hbody:∀ (cdv:Value) (A:Around) (outer:List Env) (s:Shared) (H:Hp) (vs:List V) (Q:VK) (E:XK),Room k (A.deeper (envOfC qual (defScope st) s.heap.objs.size f cdv))→sp vs H Q E →
   ∃ t,PSs (cxOf CX0 P w K mg base N qual (defScope st) f cdv A outer s H E).nox (defBody st) t∧t { nx:=fun _ H'=>Q .non H',rt:=Q } (start N vs) H):FnOk P w K mg base CX0 (k+1) f fd ps sp:=by
 obtain ⟨oc,od,kV,doc,pm,an,cdv,ct,osl,rfl,lk,hcd⟩:=F.ex
 refine fn_of lk hcd S len fun A outer s H vs Q E hr hsp=>?_
 obtain ⟨t,h,q⟩:=hbody cdv A outer s H vs Q E hr hsp
 exact ⟨t,h.nox,q⟩
theorem Fun.binds {x qual:Str} {st:Stmt} {f:Addr} {fd:FuncData} {ps:List Str} (F:Fun K x qual st f fd)
  (h:∀ (kV doc pm:Value) (an:Option Addr) (cdv ct:Value) (us:List Value),us.length=ps.length→bindArgs (PySem.W.fnOf x qual (defArgs st) (defBody st) (defScope st) .none kV doc pm an cdv ct) ⟨us,[]⟩=pure (ps.zip us)):Binds K fd ps []:=by
 obtain ⟨oc,od,kV,doc,pm,an,cdv,ct,osl,rfl,lk,hcd⟩:=F.ex
 exact .all (h kV doc pm an cdv ct)
theorem fun_mk {x qual:Str} {st:Stmt} {f:Addr} {oc:Value} {od an:Option Addr} {osl:Array (Option Value)} {kV doc pm cdv ct:Value} (l:K.lookup f=some ⟨oc,od,.func (PySem.W.fnOf x qual (defArgs st) (defBody st) (defScope st) .none kV doc pm an cdv ct),osl⟩)
  (c:PySem.W.codeIn K cdv qual=true) (k:PySem.W.keepIn K (.ref f)=true):Fun K x qual st f (PySem.W.fnOf x qual (defArgs st) (defBody st) (defScope st) .none kV doc pm an cdv ct):=⟨⟨oc,od,kV,doc,pm,an,cdv,ct,osl,rfl,l,c⟩,k⟩
end
theorem hu_of {A:Around} {k:Nat} (hr:Room k A):A.units+1<cLine:=Nat.lt_of_le_of_lt (Nat.add_le_add_left (by decide:1≤64) _) hr.units
section
variable {X:Cx}
theorem pv (i:Nat) {x:Str} {pos:Pos} (hN:X.N[i]? = some x:=by rfl) (hv:Vis X.env.scope x:=by first | exact Or.inl rfl | exact Or.inr (Or.inl rfl) | exact Or.inr (Or.inr rfl)) (hd:(x == ("__debug__":Str))=false:=by decide)
  (hcd:(x == ("__classdict__":Str))=false:=by decide):PE X (.Name x pos) (tVar i):=pe_var hN hv hd hcd
end
theorem iteF {A B:Prop} (h:B):if false=true then A else B:=by
 rw [if_neg Bool.false_ne_true]
 exact h
theorem iteT {A B:Prop} (h:A):if true=true then A else B:=by
 rw [if_pos rfl]
 exact h
def Same (H H':Hp):Prop:=∀ b o,H b=some o→H' b=some o
theorem Same.refl (H:Hp):Same H H:=fun _ _ h=>h
theorem Same.trans {H H1 H2:Hp} (a:Same H H1) (b:Same H1 H2):Same H H2:=fun c o h=>b c o (a c o h)
theorem Same.free {H H':Hp} (e:Same H H') {l:Addr} (h:H' l=Option.none):H l=Option.none:=by
 cases q:H l with
 | none=>rfl
 | some o=>
  rw [e l o q] at h
  cases h
theorem Same.seq {K:PySem.W.Frag} {H H':Hp} {a:Addr} {xs:List V} (e:Same H H') (h:SqL K H a xs):SqL K H' a xs:=by
 rcases h with (h | ⟨o,h⟩) | h
 ·exact .inl (.inl (e _ _ h))
 ·exact .inl (.inr ⟨o,e _ _ h⟩)
 ·exact .inr h
section
variable {κ:Type} [DecidableEq κ]
end
theorem nd_ix {α:Type} {l:List α} (hN:l.Nodup) {i j:Nat} {x:α} (a:l[i]? = some x) (b:l[j]? = some x):i=j:=by
 obtain ⟨h1,e1⟩:=List.getElem?_eq_some_iff.mp a
 obtain ⟨h2,e2⟩:=List.getElem?_eq_some_iff.mp b
 exact (List.getElem_inj hN).mp (e1.trans e2.symm)
end L2
section
set_option Elab.async false
set_option linter.all false
set_option maxRecDepth 100000
set_option maxHeartbeats 2000000
namespace L2
open PySem PySem.Spec PyProof.Rows
open PySem.W (WData Codec OpenSpec Well WellAll ReadsW ReadsAllW)
mutual
inductive Dw (K:PySem.W.Frag) (H:Hp):V→WData→Prop
 | non:Dw K H .non .none
 | bl (b:Bool):Dw K H (.bl b) (.bool b)
 | int (i:Int):Dw K H (.int i) (.int i)
 | str (x:Str):Dw K H (.str x) (.str x)
 | byt (b:Array UInt8):Dw K H (.byt b) (.bytes b.toList)
 | lst {a:Addr} {xs:List V} {ds:List WData}:SqL K H a xs→DwAll K H xs ds→Dw K H (.ref a) (.list ds)
 | tup {a:Addr} {xs:List V} {ds:List WData}:SqT K H a xs→DwAll K H xs ds→Dw K H (.ref a) (.tuple ds)
inductive DwAll (K:PySem.W.Frag) (H:Hp):List V→List WData→Prop
 | nil:DwAll K H [] []
 | cons {v:V} {vs:List V} {d:WData} {ds:List WData}:Dw K H v d→DwAll K H vs ds→DwAll K H (v :: vs) (d :: ds)
end
theorem Yt {K:PySem.W.Frag} {H:Hp}:∀ ns:List Int,DwAll K H (ns.map V.int) (ns.map WData.int)
 | []=>.nil
 | n :: r=>.cons (.int n) (Yt r)
theorem Ym {K:PySem.W.Frag} {H:Hp}:∀ (ns:List Int) (xs:List V),DwAll K H xs (ns.map WData.int)→xs=ns.map V.int
 | [],xs,h=>by
  cases h
  rfl
 | n :: r,xs,h=>by
  cases h with
  | cons h1 h2=>
   cases h1
   rw [Ym r _ h2] <;> rfl
section
variable {P:Program} {w:World} {K:PySem.W.Frag} {H:Hp} {h:Heap} {R:PySem.W.WRecords} {cl:Str→Option Addr}
theorem sqL_at {a:Addr} {xs:List V} (hok:HOk P w H h) (KX:K.In h) (q:SqL K H a xs):∃ (its:List Value) (o:Obj) (n:Nat),Vals xs its∧h.get? a=some o∧o.cls = .type "list"∧o.data = .seq its.toArray n:=by
 rcases q with q | ⟨o,its,n,e,hc,_,hd,_,hv⟩
 ·obtain ⟨_,its,n,hv,e⟩:=(show ObjOk P w H h a (.lst xs) from q.ok hok)
  exact ⟨its,_,n,hv,e,rfl,rfl⟩
 ·exact ⟨its.toList,o,n,hv,KX _ _ e,hc,by simp [hd]⟩
theorem sqT_at {a:Addr} {xs:List V} (hok:HOk P w H h) (KX:K.In h) (q:SqT K H a xs):∃ (its:List Value) (o:Obj) (n:Nat),Vals xs its∧h.get? a=some o∧o.cls = .type "tuple"∧o.data = .seq its.toArray n:=by
 rcases q with q | ⟨o,its,n,e,hc,hd,_,hv⟩
 ·obtain ⟨_,its,hv,o,e,hc,n,hd⟩:=(show ObjOk P w H h a (.tup xs) from q.ok hok)
  exact ⟨its,o,n,hv,e,hc,hd⟩
 ·exact ⟨its.toList,o,n,hv,KX _ _ e,hc,by simp [hd]⟩
mutual
theorem Dw.reads (hok:HOk P w H h) (KX:K.In h):∀ (d:WData) (v:V) (u:Value),Dw K H v d→RelV v u→∃ as,ReadsW R cl h u d as
 | .none,_,_,x,r=>by
  cases x
  cases r
  exact ⟨_,ReadsW.none⟩
 | .bool b,_,_,x,r=>by
  cases x
  cases r
  exact ⟨_,ReadsW.bool b⟩
 | .int i,_,_,x,r=>by
  cases x
  obtain ⟨t,rfl⟩:=r
  exact ⟨_,ReadsW.int i t⟩
 | .str s,_,_,x,r=>by
  cases x
  obtain ⟨t,rfl⟩:=r
  exact ⟨_,ReadsW.str s t⟩
 | .bytes b,_,_,x,r=>by
  cases x
  obtain ⟨t,rfl⟩:=r
  exact ⟨_,ReadsW.bytes _ t⟩
 | .list ds,_,_,x,r=>by
  cases x with
  | lst hs ha=>
   cases r
   obtain ⟨its,o,n,rv,ho,hc,hd⟩:=sqL_at hok KX hs
   obtain ⟨as,hr⟩:=Dw.readsAll hok KX ds _ its ha rv
   exact ⟨_,ReadsW.list ho hc hd hr⟩
 | .tuple ds,_,_,x,r=>by
  cases x with
  | tup hs ha=>
   cases r
   obtain ⟨its,o,n,rv,ho,hc,hd⟩:=sqT_at hok KX hs
   obtain ⟨as,hr⟩:=Dw.readsAll hok KX ds _ its ha rv
   exact ⟨_,ReadsW.tuple ho hc hd hr⟩
 | .float _,_,_,x,_=>by cases x
 | .dict _,_,_,x,_=>by cases x
 | .bytearray _,_,_,x,_=>by cases x
 | .set _,_,_,x,_=>by cases x
 | .frozenset _,_,_,x,_=>by cases x
 | .obj _ _,_,_,x,_=>by cases x
theorem Dw.readsAll (hok:HOk P w H h) (KX:K.In h):∀ (ds:List WData) (vs:List V) (us:List Value),DwAll K H vs ds→Vals vs us→∃ as,ReadsAllW R cl h us ds as
 | [],_,_,x,r=>by
  cases x
  cases r
  exact ⟨_,ReadsAllW.nil⟩
 | d :: ds,_,_,x,r=>by
  cases x with
  | cons h1 h2=>
   cases r with
   | cons r1 r2=>
    obtain ⟨as,q1⟩:=Dw.reads hok KX d _ _ h1 r1
    obtain ⟨bs,q2⟩:=Dw.readsAll hok KX ds _ _ h2 r2
    exact ⟨_,ReadsAllW.cons q1 q2⟩
end
end
mutual
def plW:WData→Bool
 | .none=>true
 | .bool _=>true
 | .int _=>true
 | .str _=>true
 | .bytes _=>true
 | .list xs=>plWs xs
 | .tuple xs=>plWs xs
 | _=>false
def plWs:List WData→Bool
 | []=>true
 | x :: r=>plW x&&plWs r
end
theorem Qr {α:Type} {f:α→WData} (h:∀ a,plW (f a)=true):∀ l:List α,plWs (l.map f)=true
 | []=>rfl
 | x :: r=>by
  show (plW (f x)&&plWs (r.map f))=true
  rw [h x,Qr h r] <;> rfl
theorem yK:∀ (c:Codec) (a:c.denote),plW (c.enc a)=true
 | .unit,_=>rfl
 | .bool,_=>rfl
 | .int _ _,_=>rfl
 | .nat _ _,_=>rfl
 | .u8,_=>rfl
 | .bytes _ _,_=>rfl
 | .text _ _ _ _,_=>rfl
 | .list _ _ c,a=>Qr (fun x=>yK c x) a
 | .pair c d,a=>by
  show (plW (c.enc a.1)&&(plW (d.enc a.2)&&true))=true
  rw [yK c a.1,yK d a.2] <;> rfl
 | .triple c d e,a=>by
  show (plW (c.enc a.1)&&(plW (d.enc a.2.1)&&(plW (e.enc a.2.2)&&true)))=true
  rw [yK c a.1,yK d a.2.1,yK e a.2.2] <;> rfl
 | .option c,none=>rfl
 | .option c,some x=>yK c x
theorem Zt:∀ (cs:List Codec) (a:Codec.denoteAll cs),plWs (Codec.encAll cs a)=true
 | [],_=>rfl
 | c :: cs,a=>by
  show (plW (c.enc a.1)&&plWs (Codec.encAll cs a.2))=true
  rw [yK c a.1,Zt cs a.2] <;> rfl
theorem vk:∀ {xs:List WData} {d:WData},d∈xs→d.weight≤WData.weightAll xs
 | [],d,h=>absurd h (by simp)
 | x :: r,d,h=>by
  show d.weight≤x.weight+1+WData.weightAll r
  rcases List.mem_cons.mp h with e | m
  ·rw [e]
   omega
  ·have z:=vk m
   omega
def toV:Value→V
 | .none=>.non
 | .bool b=>.bl b
 | .int i _=>.int i
 | .str x _=>.str x
 | .bytes b _=>.byt b
 | .ref a=>.ref a
 | _=>.non
def OkU (A:List Addr):Value→Prop
 | .none=>True
 | .bool _=>True
 | .int _ _=>True
 | .str _ _=>True
 | .bytes _ _=>True
 | .ref a=>a∈A
 | _=>False
theorem OkU.mono {A B:List Addr} (h:∀ a∈A,a∈B):∀ {u:Value},OkU A u→OkU B u:=fun {u} x=>by
 cases u with
 | ref a=>exact h a x
 | none=>trivial
 | bool b=>trivial
 | int i t=>trivial
 | str s t=>trivial
 | bytes b t=>trivial
 | _=>exact False.elim x
theorem relV_toV {A:List Addr} {u:Value} (x:OkU A u):RelV (toV u) u:=by
 cases u with
 | ref a=>rfl
 | none=>rfl
 | bool b=>rfl
 | int i t=>exact ⟨t,rfl⟩
 | str s t=>exact ⟨t,rfl⟩
 | bytes b t=>exact ⟨t,rfl⟩
 | _=>exact False.elim x
theorem wy {A:List Addr}:∀ {vs:List Value},(∀ u∈vs,OkU A u)→Vals (vs.map toV) vs
 | [],_=>.nil
 | u :: r,h=>.cons (relV_toV (h u (List.mem_cons_self ..))) (wy fun x hx=>h x (List.mem_cons_of_mem _ hx))
def ArgOb (h:Heap) (A:List Addr) (a:Addr):Prop:=∃ vs:List Value,vs.length≤sizeLine∧(∀ u∈vs,OkU A u) ∧
 (h.get? a=some { cls:=.type "list",data:=.seq vs.toArray }∨h.get? a=some { cls:=.type "tuple",data:=.seq vs.toArray })
theorem ArgOb.mono {h:Heap} {A B:List Addr} {a:Addr} (k:∀ a∈A,a∈B) (x:ArgOb h A a):ArgOb h B a:=by
 obtain ⟨vs,h1,h2,h3⟩:=x
 exact ⟨vs,h1,fun u hu=>(h2 u hu).mono k,h3⟩
theorem qY {P:Params} {h:Heap}:∀ {vs:List Value} {ds:List WData},WellAll P h vs ds→vs.length=ds.length
 | _,_,.nil=>rfl
 | _,_,.cons _ b=>by
  show _+1=_+1
  rw [qY b]
theorem Zg {P:Params} {h:Heap} {v:Value} {ds:List WData} (x:Well P h v (.list ds)):∃ (a:Addr) (vs:List Value),v = .ref a∧h.get? a=some { cls:=.type "list",data:=.seq vs.toArray }∧WellAll P h vs ds:=by
 cases x with
 | list ho hall=>exact ⟨_,_,rfl,ho,hall⟩
theorem uH {P:Params} {h:Heap} {v:Value} {ds:List WData} (x:Well P h v (.tuple ds)):∃ (a:Addr) (vs:List Value),v = .ref a∧h.get? a=some { cls:=.type "tuple",data:=.seq vs.toArray }∧WellAll P h vs ds:=by
 cases x with
 | tuple ho hall=>exact ⟨_,_,rfl,ho,hall⟩
theorem Zh {P:Params} {h:Heap} {us:List Value} {d:WData} {ds:List WData} (x:WellAll P h us (d :: ds)):∃ (v:Value) (vs:List Value),us=v :: vs∧Well P h v d∧WellAll P h vs ds:=by
 cases x with
 | cons a b=>exact ⟨_,_,rfl,a,b⟩
theorem Yh {n:Nat} (h:n≤1048576):n≤sizeLine:=Nat.le_trans h (by decide)
section
variable {P:Params} {h:Heap}
mutual
theorem area_one:∀ (d:WData) (v:Value),Well P h v d→plW d=true→d.weight≤1048576→∃ A:List Addr,OkU A v∧∀ a∈A,ArgOb h A a
 | .none,_,x,_,_=>by
  cases x
  exact ⟨[],trivial,fun a m=>absurd m (by simp)⟩
 | .bool b,_,x,_,_=>by
  cases x
  exact ⟨[],trivial,fun a m=>absurd m (by simp)⟩
 | .int i,_,x,_,_=>by
  cases x
  exact ⟨[],trivial,fun a m=>absurd m (by simp)⟩
 | .str s,_,x,_,_=>by
  cases x
  exact ⟨[],trivial,fun a m=>absurd m (by simp)⟩
 | .bytes b,_,x,_,_=>by
  cases x
  exact ⟨[],trivial,fun a m=>absurd m (by simp)⟩
 | .list ds,_,x,p,z=>by
  obtain ⟨a,vs,rfl,ho,hall⟩:=Zg x
  have z2:WData.weightAll ds≤1048576:=z
  obtain ⟨A,h1,h2⟩:=kr ds _ hall p fun d hd=>Nat.le_trans (vk hd) z2
  have k:∀ b∈A,b∈a :: A:=fun b hb=>List.mem_cons_of_mem _ hb
  refine ⟨a :: A,List.mem_cons_self ..,fun b hb=>?_⟩
  rcases List.mem_cons.mp hb with e | m
  ·rw [e]
   exact ⟨vs,Yh (by rw [qY hall];exact Nat.le_trans (PySem.W.length_le_weightAllW ds) z2),fun u hu=>(h1 u hu).mono k,.inl ho⟩
  ·exact (h2 b m).mono k
 | .tuple ds,_,x,p,z=>by
  obtain ⟨a,vs,rfl,ho,hall⟩:=uH x
  have z2:WData.weightAll ds≤1048576:=z
  obtain ⟨A,h1,h2⟩:=kr ds _ hall p fun d hd=>Nat.le_trans (vk hd) z2
  have k:∀ b∈A,b∈a :: A:=fun b hb=>List.mem_cons_of_mem _ hb
  refine ⟨a :: A,List.mem_cons_self ..,fun b hb=>?_⟩
  rcases List.mem_cons.mp hb with e | m
  ·rw [e]
   exact ⟨vs,Yh (by rw [qY hall];exact Nat.le_trans (PySem.W.length_le_weightAllW ds) z2),fun u hu=>(h1 u hu).mono k,.inr ho⟩
  ·exact (h2 b m).mono k
 | .float _,_,_,p,_=>Bool.noConfusion (show false=true from p)
 | .dict _,_,_,p,_=>Bool.noConfusion (show false=true from p)
 | .bytearray _,_,_,p,_=>Bool.noConfusion (show false=true from p)
 | .set _,_,_,p,_=>Bool.noConfusion (show false=true from p)
 | .frozenset _,_,_,p,_=>Bool.noConfusion (show false=true from p)
 | .obj _ _,_,_,p,_=>Bool.noConfusion (show false=true from p)
theorem kr:∀ (ds:List WData) (vs:List Value),WellAll P h vs ds→plWs ds=true→(∀ d∈ds,d.weight≤1048576)→∃ A:List Addr,(∀ u∈vs,OkU A u)∧∀ a∈A,ArgOb h A a
 | [],_,x,_,_=>by
  cases x
  exact ⟨[],fun u m=>absurd m (by simp),fun a m=>absurd m (by simp)⟩
 | d :: ds,_,x,p,z=>by
  obtain ⟨v,vs,rfl,x1,x2⟩:=Zh x
  have q:plW d=true∧plWs ds=true:=Bool.and_eq_true_iff.mp p
  obtain ⟨A,a1,a2⟩:=area_one d v x1 q.1 (z d (List.mem_cons_self ..))
  obtain ⟨B,b1,b2⟩:=kr ds vs x2 q.2 fun e he=>z e (List.mem_cons_of_mem _ he)
  have kA:∀ b∈A,b∈A++B:=fun b hb=>List.mem_append.mpr (.inl hb)
  have kB:∀ b∈B,b∈A++B:=fun b hb=>List.mem_append.mpr (.inr hb)
  refine ⟨A++B,fun u hu=>?_,fun b hb=>?_⟩
  ·rcases List.mem_cons.mp hu with e | m
   ·rw [e]
    exact a1.mono kA
   ·exact (b1 u m).mono kB
  ·rcases List.mem_append.mp hb with m | m
   ·exact (a2 b m).mono kA
   ·exact (b2 b m).mono kB
end
end
def hoOf (o:Obj):Option HO:=match o.data with
 | .seq vs _=>if (o.cls == Value.type "list")=true then some (.frz o (.lst (vs.toList.map toV))) else some (.frz o (.tup (vs.toList.map toV)))
 | _=>none
def argH (K:PySem.W.Frag) (h:Heap) (A:List Addr):Hp:=fun b=>if b∈A then (if (K.lookup b).isNone=true then (h.get? b).bind hoOf else none) else none
def OnlyF (H:Hp):Prop:=∀ b,H b=none∨∃ o u,H b=some (.frz o u)
theorem QM (vs:List Value):hoOf { cls:=.type "list",data:=.seq vs.toArray } = some (.frz { cls:=.type "list",data:=.seq vs.toArray } (.lst (vs.map toV))):=by
 show (if (Value.type "list" == Value.type "list")=true then some (HO.frz { cls:=.type "list",data:=.seq vs.toArray } (.lst (vs.toArray.toList.map toV))) else some (HO.frz { cls:=.type "list",data:=.seq vs.toArray } (.tup (vs.toArray.toList.map toV))))=_
 rw [if_pos (beq_self_eq_true _)]
theorem QL (vs:List Value):hoOf { cls:=.type "tuple",data:=.seq vs.toArray } = some (.frz { cls:=.type "tuple",data:=.seq vs.toArray } (.tup (vs.map toV))):=by
 show (if (Value.type "tuple" == Value.type "list")=true then some (HO.frz { cls:=.type "tuple",data:=.seq vs.toArray } (.lst (vs.toArray.toList.map toV))) else some (HO.frz { cls:=.type "tuple",data:=.seq vs.toArray } (.tup (vs.toArray.toList.map toV))))=_
 rw [if_neg (by decide)]
section
variable {P:Program} {w:World} {K:PySem.W.Frag} {h:Heap} {A:List Addr}
theorem uE {b:Addr} {o:Obj} (hb:b∈A) (hk:K.lookup b=none) (e:h.get? b=some o):argH K h A b=hoOf o:=by
 unfold argH
 rw [if_pos hb,hk,if_pos (show (none:Option Obj).isNone=true from rfl),e] <;> rfl
theorem of_argH {b:Addr} {u:HO} (q:argH K h A b=some u):b∈A∧K.lookup b=none:=by
 unfold argH at q
 by_cases hb:b∈A
 ·rw [if_pos hb] at q
  cases hk:K.lookup b with
  | none=>exact ⟨hb,rfl⟩
  | some o=>
   rw [hk,if_neg (by simp)] at q
   cases q
 ·rw [if_neg hb] at q
  cases q
theorem uD (ar:∀ a∈A,ArgOb h A a) {b:Addr} {u:HO} (q:argH K h A b=some u):K.lookup b=none∧∃ vs:List Value,vs.length≤sizeLine∧(∀ u∈vs,OkU A u) ∧
  ((h.get? b=some { cls:=.type "list",data:=.seq vs.toArray }∧u = .frz { cls:=.type "list",data:=.seq vs.toArray } (.lst (vs.map toV))) ∨
   (h.get? b=some { cls:=.type "tuple",data:=.seq vs.toArray }∧u = .frz { cls:=.type "tuple",data:=.seq vs.toArray } (.tup (vs.map toV)))):=by
 obtain ⟨hb,hk⟩:=of_argH q
 obtain ⟨vs,h1,h2,h3⟩:=ar b hb
 refine ⟨hk,vs,h1,h2,?_⟩
 rcases h3 with e | e
 ·rw [uE hb hk e,QM] at q
  exact .inl ⟨e,(Option.some.inj q).symm⟩
 ·rw [uE hb hk e,QL] at q
  exact .inr ⟨e,(Option.some.inj q).symm⟩
theorem Vl (ar:∀ a∈A,ArgOb h A a):OnlyF (argH K h A):=fun b=>by
 cases q:argH K h A b with
 | none=>exact .inl rfl
 | some u=>
  obtain ⟨_,vs,_,_,⟨_,e⟩ | ⟨_,e⟩⟩:=uD ar q
  ·exact .inr ⟨_,_,by rw [e]⟩
  ·exact .inr ⟨_,_,by rw [e]⟩
theorem argH_ok (ar:∀ a∈A,ArgOb h A a):HOk P w (argH K h A) h:=fun b u q=>by
 obtain ⟨_,vs,h1,h2,⟨e,rfl⟩ | ⟨e,rfl⟩⟩:=uD ar q
 ·exact ⟨e,by rw [List.length_map];exact h1,vs,_,wy h2,e⟩
 ·exact ⟨e,by rw [List.length_map];exact h1,vs,wy h2,_,e,rfl,_,rfl⟩
theorem uu {c c':Value} {vs us:List Value} (e:(some { cls:=c,data:=.seq vs.toArray }:Option Obj)=some { cls:=c',data:=.seq us.toArray }):c=c'∧vs=us:=by
 have e1:=Option.some.inj e
 have e2:c=c':=congrArg Obj.cls e1
 have e3:Data.seq vs.toArray=Data.seq us.toArray:=congrArg Obj.data e1
 injection e3 with e4
 refine ⟨e2,?_⟩
 have e5:=congrArg Array.toList e4
 simpa using e5
theorem argL (KX:K.In h) (ar:∀ a∈A,ArgOb h A a) {a:Addr} {vs:List Value} (ha:a∈A) (e:h.get? a=some { cls:=.type "list",data:=.seq vs.toArray }):(∀ u∈vs,OkU A u)∧SqL K (argH K h A) a (vs.map toV):=by
 obtain ⟨us,h1,h2,h3⟩:=ar a ha
 have hu:us=vs:=by
  rcases h3 with q | q
  ·rw [e] at q
   exact (uu q).2.symm
  ·rw [e] at q
   exact absurd (Value.type.inj (uu q).1) (by decide)
 subst hu
 refine ⟨h2,?_⟩
 cases hk:K.lookup a with
 | none=>exact .inl (.inr ⟨_,by rw [uE ha hk e,QM]⟩)
 | some o=>
  have e2:=KX a o hk
  rw [e] at e2
  obtain rfl:=Option.some.inj e2
  exact .inr ⟨_,us.toArray,_,hk,rfl,rfl,rfl,by rw [List.size_toArray];exact h1,by simpa using wy h2⟩
theorem argT (KX:K.In h) (ar:∀ a∈A,ArgOb h A a) {a:Addr} {vs:List Value} (ha:a∈A) (e:h.get? a=some { cls:=.type "tuple",data:=.seq vs.toArray }):(∀ u∈vs,OkU A u)∧SqT K (argH K h A) a (vs.map toV):=by
 obtain ⟨us,h1,h2,h3⟩:=ar a ha
 have hu:us=vs:=by
  rcases h3 with q | q
  ·rw [e] at q
   exact absurd (Value.type.inj (uu q).1) (by decide)
  ·rw [e] at q
   exact (uu q).2.symm
 subst hu
 refine ⟨h2,?_⟩
 cases hk:K.lookup a with
 | none=>exact .inl (.inr ⟨_,by rw [uE ha hk e,QL]⟩)
 | some o=>
  have e2:=KX a o hk
  rw [e] at e2
  obtain rfl:=Option.some.inj e2
  exact .inr ⟨_,us.toArray,_,hk,rfl,rfl,by rw [List.size_toArray];exact h1,by simpa using wy h2⟩
mutual
theorem dw_one {Pm:Params} (KX:K.In h) (ar:∀ a∈A,ArgOb h A a):∀ (d:WData) (v:Value),Well Pm h v d→plW d=true→OkU A v→Dw K (argH K h A) (toV v) d
 | .none,_,x,_,_=>by
  cases x
  exact .non
 | .bool b,_,x,_,_=>by
  cases x
  exact .bl b
 | .int i,_,x,_,_=>by
  cases x
  exact .int i
 | .str s,_,x,_,_=>by
  cases x
  exact .str s
 | .bytes b,_,x,_,_=>by
  cases x
  have z:=Dw.byt (K:=K) (H:=argH K h A) b.toArray
  exact z
 | .list ds,_,x,p,hu=>by
  obtain ⟨a,vs,rfl,ho,hall⟩:=Zg x
  obtain ⟨h2,hs⟩:=argL KX ar hu ho
  exact .lst hs (JD KX ar ds _ hall p h2)
 | .tuple ds,_,x,p,hu=>by
  obtain ⟨a,vs,rfl,ho,hall⟩:=uH x
  obtain ⟨h2,hs⟩:=argT KX ar hu ho
  exact .tup hs (JD KX ar ds _ hall p h2)
 | .float _,_,_,p,_=>Bool.noConfusion (show false=true from p)
 | .dict _,_,_,p,_=>Bool.noConfusion (show false=true from p)
 | .bytearray _,_,_,p,_=>Bool.noConfusion (show false=true from p)
 | .set _,_,_,p,_=>Bool.noConfusion (show false=true from p)
 | .frozenset _,_,_,p,_=>Bool.noConfusion (show false=true from p)
 | .obj _ _,_,_,p,_=>Bool.noConfusion (show false=true from p)
theorem JD {Pm:Params} (KX:K.In h) (ar:∀ a∈A,ArgOb h A a):∀ (ds:List WData) (vs:List Value),WellAll Pm h vs ds→plWs ds=true→(∀ u∈vs,OkU A u)→DwAll K (argH K h A) (vs.map toV) ds
 | [],_,x,_,_=>by
  cases x
  exact .nil
 | d :: ds,_,x,p,hu=>by
  obtain ⟨v,vs,rfl,x1,x2⟩:=Zh x
  have q:plW d=true∧plWs ds=true:=Bool.and_eq_true_iff.mp p
  exact .cons (dw_one KX ar d v x1 q.1 (hu _ (List.mem_cons_self ..))) (JD KX ar ds vs x2 q.2 fun u m=>hu u (List.mem_cons_of_mem _ m))
end
end
theorem YR {P:Program} {w:World} {K:PySem.W.Frag} {mg mb:Str→Option Value} {CX:CXT} {k:Nat} {fa:Addr} {fd:FuncData} {ps:List Str} {sp:Sp} {s₁:Shared} {vals:List Value} {ds:List WData} {R:PySem.W.WRecords} {cl:Str→Option Addr} {d0:WData}
  (KX:K.In s₁.heap) (hns:s₁.heap.Ns mainGlobals mg) (hb:s₁.heap.Ns builtinsNs mb) (hbb:∀ x:Str,x≠"__name__"→mb x=bootBuiltins x) (hlim:s₁.heap.NoLimit) (hg:s₁.gens = #[])
  (hwl:WellAll w.params s₁.heap vals ds) (hpl:plWs ds=true) (hwt:∀ d∈ds,d.weight≤1048576) (hr:Room k callerA)
  (F:∀ base:Heap,K.In base→base.Ns mainGlobals mg→FnOk P w K mg base CX k fa fd ps sp) (hbind:∀ (s:Shared) (us:List Value),us.length=ps.length→BindsTo s fd ⟨us,[]⟩ (ps.zip us)) (hlen:ds.length=ps.length)
  (hsp:∀ (H:Hp) (xs:List V),OnlyF H→DwAll K H xs ds→sp xs H (fun v H'=>Dw K H' v d0) fun _ _ _=>False)
  (hCX:∀ H e s',CX [] H s₁ (fun _ _ _=>False) e s'→False) :
  codeAny (model P w) callerA (.call (.ref fa) ⟨vals,[]⟩) (fun r s'=>∃ u as,r = .ok (.ret u)∧ReadsW R cl s'.heap u d0 as∧OldK s₁.heap s'.heap∧s'.os=s₁.os∧AllBare s'.gens) s₁:=by
 obtain ⟨A,ho,ar⟩:=kr ds vals hwl hpl hwt
 have hO:OnlyF (argH K s₁.heap A):=Vl ar
 have hok:HOk P w (argH K s₁.heap A) s₁.heap:=argH_ok ar
 have hS:=JD KX ar ds vals hwl hpl ho
 have hV:=wy ho
 have hK:∀ b u,argH K s₁.heap A b=some u→K.lookup b=none:=fun b u q=>(uD ar q).1
 have noA:∀ {b:Addr} {o:Obj} {es:Array DictEntry} {ep:Nat},s₁.heap.get? b=some o→o.data = .dict es ep→argH K s₁.heap A b=none:=fun {b o es ep} e d=>by
  cases q:argH K s₁.heap A b with
  | none=>rfl
  | some u=>
   obtain ⟨_,vs,_,_,⟨e2,_⟩ | ⟨e2,_⟩⟩:=uD ar q
   ·rw [e2] at e
    cases e
    have d':Data.seq vs.toArray _=Data.dict es ep:=d
    cases d'
   ·rw [e2] at e
    cases e
    have d':Data.seq vs.toArray _=Data.dict es ep:=d
    cases d'
 generalize argH K s₁.heap A=H at hO hok hS hK noA
 have base_of:∀ {b:Addr} {o:Obj},s₁.heap.get? b=some o→H b=none→(hidT s₁.heap H).get? b=some o:=fun e n=>hidT_get e n
 have nsK:∀ {b:Addr} {m:Str→Option Value},s₁.heap.Ns b m→(hidT s₁.heap H).Ns b m:=fun {b m} ⟨o,es,ep,e,d,r⟩=>⟨o,es,ep,base_of e (noA e d),d,r⟩
 have nK:∀ b o,K.lookup b=some o→H b=none:=fun b o e=>by
  cases q:H b with
  | none=>rfl
  | some u=>
   rw [hK b u q] at e
   cases e
 have hKb:K.In (hidT s₁.heap H):=fun b o e=>base_of (KX b o e) (nK b o e)
 have hM:Mod K mg (hidT s₁.heap H):=⟨hKb,nsK hns,⟨mb,nsK hb,hbb⟩,let ⟨mc,h1,h2⟩:=hlim;⟨mc,nsK h1,h2⟩⟩
 have e0:Env0 P w K mg (hidT s₁.heap H) callerA [] s₁ H:=⟨rfl,hM,fun b o e=>of_hidT e,Nat.le_of_eq (Vf _ _),trivial,fun b hb=>absurd (show b∈([]:List Addr) from hb) (by simp),hok,.of_eq hg⟩
 have hl:vals.length=ps.length:=by rw [qY hwl];exact hlen
 refine codeAny_mono ((F _ hKb (nsK hns)).run callerA [] s₁ H ⟨vals,[]⟩ vals (vals.map toV) _ _ hr e0 (hbind s₁ vals hl) hV (hsp H _ hO hS)) fun r s' x=>?_
 cases r with
 | error e=>exact (hCX H e s' x).elim
 | ok fl=>
  cases fl with
  | next=>exact False.elim x
  | brk=>exact False.elim x
  | cont=>exact False.elim x
  | ret u=>
   obtain ⟨v,H',os,bare,un,hok',r',q⟩:=x
   have kept:∀ b o,s₁.heap.get? b=some o→s'.heap.get? b=some o:=fun b o e=>by
    cases q2:H b with
    | none=>exact un.keep b o e q2 (by intro z;exact absurd (show b∈([]:List Addr) from z) (by simp)) (by simp)
    | some u2=>
     rcases hO b with z | ⟨ob,u3,z⟩
     ·rw [q2] at z
      cases z
     ·have z2:=un.frzs b ob _ z
      obtain ⟨e1,_⟩:=hok b _ z
      obtain ⟨e2,_⟩:=hok' b _ z2
      rw [e] at e1
      cases e1
      exact e2
   have KX':K.In s'.heap:=fun b o e=>kept b o (KX b o e)
   obtain ⟨as,hrd⟩:=Dw.reads (R:=R) (cl:=cl) hok' KX' d0 v u q r'
   exact ⟨u,as,rfl,hrd,OldK.of_keep kept,os,bare⟩
theorem xy {ds:List WData} (h:WData.layableAll ds=true):∀ d∈ds,d.weight≤1048576:=fun d hd=>
 (PySem.W.layableW_iff.mp (List.all_eq_true.mp h d hd)).2.2
theorem xE:∀ (cs:List Codec) (a:Codec.denoteAll cs),(Codec.encAll cs a).length=cs.length
 | [],_=>rfl
 | c :: cs,a=>by
  show (Codec.encAll cs a.2).length+1=cs.length+1
  rw [xE cs a.2]
theorem YC {r:OpenSpec} {k:Nat} {q:Program} {loose:List Str} {XP:(Str→Option Value)→Heap→Prop} {YP:World→Heap→Prop} {d:DefRec} {K:Params→PySem.W.Frag} {CX:World→CXT} {ps:List Str} {sp:World→Sp}
  (hwell:r.wellSaid=true) (hdf:d.params.defaults=[]) (hlen:r.args.length=ps.length) (hr:Room k callerA)
  (hY:∀ (w:World) (h:Heap),YP w h→(K w.params).In h)
  (F:∀ (w:World) (mg:Str→Option Value) (fa:Addr) (h:Heap),YP w h→(K w.params).In h→h.Ns mainGlobals mg→mg d.name=some (.ref fa) →
   ∃ fd:FuncData,(∀ (s:Shared) (us:List Value),us.length=ps.length→BindsTo s fd ⟨us,[]⟩ (ps.zip us)) ∧
    ∀ base:Heap,(K w.params).In base→base.Ns mainGlobals mg→FnOk r.prog w (K w.params) mg base (CX w) k fa fd ps (sp w))
  (hsp:∀ (w:World) (H:Hp) (xs:List V) (a:Codec.denoteAll r.args),OnlyF H→Codec.withinAll r.args a=true→Codec.app r.args r.asked a=true→DwAll (K w.params) H xs (Codec.encAll r.args a) →
   sp w xs H (fun v H'=>Dw (K w.params) H' v (r.ret.enc (Codec.app r.args r.f a))) fun _ _ _=>False)
  (hCX:∀ (w:World) (H:Hp) (s:Shared) (e:Value) (s':Shared),CX w [] H s (fun _ _ _=>False) e s'→False) :
  PySem.W.WalkOS q loose XP YP r d [] (fun f vs=>PySem.call f vs):=by
 intro w s_0 s₁ mg mb G Y fa o pm cd doc dV kV ho hd hcd hD hmg hg args vals as hpre hlay hrd hwl hlo
 obtain ⟨a,e1,e2⟩:=PySem.W.os_pre_some hpre
 obtain ⟨e3,hwi⟩:=Codec.encAll_of_decAll r.args args a e1
 subst e3
 have KX:=hY w _ Y
 obtain ⟨fd,hb,hF⟩:=F w mg fa _ Y KX G.T.g hmg
 refine PySem.W.enter_call (codeAny_mono (YR (R:=[]) (cl:=classAt s_0.heap) (d0:=r.ret.enc (Codec.app r.args r.f a)) KX G.T.g G.T.b G.T.builtins G.T.nolimit hg hwl (Zt _ _) (xy hlay) hr hF hb (by rw [xE];exact hlen)
  (fun H xs hO hS=>hsp w H xs a hO hwi e2 hS) fun H e s'=>hCX w H s₁ e s') fun r' s' hq=>?_)
 obtain ⟨u,as',rfl,h1,h2,h3,h4⟩:=hq
 exact ⟨.inl ⟨u,_,as',rfl,fun _=>rfl,h1,(OpenSpec.post_iff hwell hwi _ _).mpr rfl,fun z=>Bool.noConfusion (show false=true from z)⟩,h2,h3,h4⟩
theorem Q7 {r:OpenSpec} {k:Nat} {q:Program} {loose:List Str} {XP:(Str→Option Value)→Heap→Prop} {YP:World→Heap→Prop} {d:DefRec} {K:Params→PySem.W.Frag} {CX:CXT} {ps:List Str} {sp:PySem.W.Frag→Sp}
  (hwell:r.wellSaid=true) (hdf:d.params.defaults=[]) (hlen:r.args.length=ps.length) (hr:Room k callerA)
  (hY:∀ (w:World) (h:Heap),YP w h→(K w.params).In h)
  (F:∀ (w:World) (mg:Str→Option Value) (fa:Addr) (h:Heap),YP w h→(K w.params).In h→h.Ns mainGlobals mg→mg d.name=some (.ref fa) →
   ∃ fd:FuncData,(∀ (s:Shared) (us:List Value),us.length=ps.length→BindsTo s fd ⟨us,[]⟩ (ps.zip us)) ∧
    ∀ base:Heap,(K w.params).In base→base.Ns mainGlobals mg→FnOk r.prog w (K w.params) mg base CX k fa fd ps (sp (K w.params)))
  (hsp:∀ (K:PySem.W.Frag) (H:Hp) (xs:List V) (a:Codec.denoteAll r.args),OnlyF H→Codec.withinAll r.args a=true→Codec.app r.args r.asked a=true→DwAll K H xs (Codec.encAll r.args a) →
   sp K xs H (fun v H'=>Dw K H' v (r.ret.enc (Codec.app r.args r.f a))) fun _ _ _=>False)
  (hCX:∀ (H:Hp) (s:Shared) (e:Value) (s':Shared),CX [] H s (fun _ _ _=>False) e s'→False) :
  PySem.W.WalkOS q loose XP YP r d [] (fun f vs=>PySem.call f vs):=
 YC (K:=K) (CX:=fun _=>CX) (sp:=fun w=>sp (K w.params)) hwell hdf hlen hr hY F (fun w H xs a h1 h2 h3 h4=>hsp (K w.params) H xs a h1 h2 h3 h4) fun _ H s e s'=>hCX H s e s'
end L2
end

set_option maxHeartbeats 4000000
section
namespace BM
open PySem PySem.Spec PyProof.Rows L2
def top (i:Nat):Stmt:=PySem.Challenge.pw_bagsmade_s01_answers.main.body.getD i (.Pass ⟨0,0,0,0⟩)
structure Lk (K:PySem.W.Frag) (mg:Str→Option Value) (x:Str) (st:Stmt) (ps:List Str) where
 f:Addr
 fd:FuncData
 fn:Fun K x x st f fd
 at_:mg x=some (.ref f)
 b:Binds K fd ps []
structure Ck (K:PySem.W.Frag) (mg:Str→Option Value) (x q:Str) (st:Stmt) (ps:List Str) (as:List Str) where
 C:Addr
 f:Addr
 fd:FuncData
 cl:Cls K C
 no:∀ a∈as,NoAttr K C a
 at_:mg x=some (.ref C)
 made:Mk K C f
 fn:Fun K "__init__" q st f fd
 b:Binds K fd ps []
structure Ik (mg:Str→Option Value) (x:Str) (i:Int) where
 t:Tok
 at_:mg x=some (.int i t)
def kTup (K:PySem.W.Frag) (v:Value):Option (List Value):=match v with
 | .ref a=>match K.lookup a with
  | some ⟨.type c,_,.seq its _,_⟩=>if c == "tuple" && decide (its.size≤1000) then some its.toList else none
  | _=>none
 | _=>none
def vInt (i:Int) (v:Value):Bool:=match v with
 | .int j _=>decide (j=i)
 | _=>false
def kPair (K:PySem.W.Frag) (p:Int × Int) (v:Value):Bool:=match kTup K v with
 | some [x,y]=>vInt p.1 x&&vInt p.2 y
 | _=>false
def kAll {α:Type} (f:α→Value→Bool):List α→List Value→Bool
 | [],[]=>true
 | x :: xs,v :: vs=>f x v&&kAll f xs vs
 | _,_=>false
def kRng (K:PySem.W.Frag) (l:List (Int × Int)) (v:Value):Bool:=match kTup K v with
 | some vs=>kAll (kPair K) l vs
 | none=>false
def kRow (K:PySem.W.Frag) (l:Int × Int × List (Int × Int)) (v:Value):Bool:=match kTup K v with
 | some [x,y,z]=>vInt l.1 x&&(vInt l.2.1 y&&kRng K l.2.2 z)
 | _=>false
def kEnts {α:Type} (f:α→Value→Bool):List (Int × α)→List DictEntry→Bool
 | [],[]=>true
 | x :: xs,e :: es=>vInt x.1 e.key&&(decide (e.hash=hashInt x.1)&&(f x.2 e.val&&kEnts f xs es))
 | _,_=>false
def kDict {α:Type} (K:PySem.W.Frag) (f:α→Value→Bool) (l:List (Int × α)) (d:Addr):Bool:=match K.lookup d with
 | some ⟨.type c,none,.dict es _,sl⟩=>(c == "dict")&&(sl.isEmpty&&kEnts f l es.toList)
 | _=>false
def plainR:List (Int × List (Int × Int)):=[(0,[]),(1,[(0,9),(1,1000),(1,50)]),(2,[(-1,11),(0,1000000),(0,1000),(0,40)]),(3,[(0,11),(0,9),(1,10000)]),(4,[(0,11),(0,9),(1,10000)]),(5,[(0,11),(0,11),(0,9),(1,10000)]),(6,[(0,11),(-1,11)]),(7,[(0,11)]),(8,[(0,11)]),(9,[(0,11),(0,9)]),(10,[]),(11,[]),(12,[(0,11),(0,9),(1,100)]),(13,[(0,11),(0,9),(1,100)]),(14,[(0,11),(0,11),(0,15)]),(15,[(0,5),(1,1000)]),(16,[(1,100)]),(17,[(0,5)]),(18,[(0,9)]),(19,[]),(20,[(0,9)])]
def rowR:List (Int × Int × Int × List (Int × Int)):=[(0,3,30,[(1,1000),(1,100),(0,1000)]),(1,0,8,[(0,9),(1,9)]),(11,0,10,[(0,1000000000000000000)])]
structure Dk (mg:Str→Option Value) (x:Str) (chk:Addr→Bool) where
 d:Addr
 at_:mg x=some (.ref d)
 ns:(d == sysModules)=false
 ck:chk d=true
theorem dk_mk {K:PySem.W.Frag} {h:Heap} {mg:Str→Option Value} {x:Str} {chk:Addr→Bool} {d:Addr} (X:K.In h) (G:h.Ns mainGlobals mg) (a:PySem.W.nsIn K mainGlobals x=some (some (.ref d))) (n:(d == sysModules)=false) (c:chk d=true):Nonempty (Dk mg x chk):=⟨⟨d,PySem.W.mg_of X G a,n,c⟩⟩
abbrev vB:Stmt:=top 1
abbrev vq:Stmt:=top 2
abbrev yE:Stmt:=top 3
abbrev kK:Stmt:=top 4
abbrev w6:Stmt:=top 12
abbrev yC:Stmt:=top 13
abbrev qO:Stmt:=top 14
abbrev qx:Stmt:=top 15
abbrev wu:Stmt:=top 17
abbrev qw:Stmt:=top 18
abbrev qN:Stmt:=top 19
abbrev wj:Stmt:=top 20
abbrev qP:Stmt:=top 21
abbrev vC:Stmt:=top 22
abbrev vE:Stmt:=top 23
abbrev u6:Stmt:=top 24
abbrev vp:Stmt:=top 25
abbrev j7:Stmt:=top 26
abbrev w4:Stmt:=top 27
abbrev vt:Stmt:=top 28
abbrev kI:Stmt:=top 29
abbrev kH:Stmt:=top 42
abbrev s_put:Stmt:=top 43
abbrev Wu:Stmt:=top 44
abbrev Wv:Stmt:=top 45
abbrev Ji:Stmt:=top 46
abbrev wl:Stmt:=top 47
abbrev yy:Stmt:=top 48
abbrev yz:Stmt:=top 49
abbrev kM:Stmt:=top 51
abbrev j9:Stmt:=top 52
abbrev wo:Stmt:=top 53
abbrev vD:Stmt:=top 54
abbrev wX:Stmt:=top 57
abbrev wm:Stmt:=top 58
abbrev wZ:Stmt:=top 59
abbrev yB:Stmt:=top 60
abbrev jT:Stmt:=top 62
abbrev s_act:Stmt:=top 63
abbrev yG:Stmt:=top 64
abbrev Jj:Stmt:=top 65
abbrev wn:Stmt:=top 69
abbrev Jh:Stmt:=top 70
abbrev Wt:Stmt:=top 71
abbrev wW:Stmt:=top 72
abbrev vw:Stmt:=top 77
abbrev Ww:Stmt:=top 78
abbrev yw:Stmt:=top 79
abbrev jB:Stmt:=top 80
abbrev qy:Stmt:=top 81
abbrev yF:Stmt:=top 82
abbrev kL:Stmt:=top 83
abbrev yx:Stmt:=top 85
abbrev Wx:Stmt:=top 86
abbrev j8:Stmt:=top 91
abbrev qv:Stmt:=top 92
abbrev wq:Stmt:=top 93
abbrev wY:Stmt:=top 95
abbrev wk:Stmt:=top 96
abbrev yA:Stmt:=top 97
abbrev kN:Stmt:=top 99
abbrev yH:Stmt:=top 100
abbrev qa:Stmt:=top 101
abbrev jU:Stmt:=top 102
abbrev vz:Stmt:=inClass (top 7) 0
abbrev w8:Stmt:=inClass (top 8) 0
abbrev kJ:Stmt:=inClass (top 9) 0
abbrev wp:Stmt:=inClass (top 10) 0
abbrev yD:Stmt:=inClass (top 11) 0
abbrev vy:Stmt:=inClass (top 76) 0
abbrev vA:Stmt:=inClass (top 90) 0
structure Prog (K:PySem.W.Frag) (mg:Str→Option Value) where
 count_in:Lk K mg "count_in" vB ["stacks","good"]
 space_in:Lk K mg "space_in" vq ["stacks","good","size"]
 filled_up:Lk K mg "filled_up" yE ["stacks","good","size","many"]
 emptied:Lk K mg "emptied" kK ["stacks","good","many"]
 lacks_good:Lk K mg "lacks_good" w6 ["state","good"]
 lacks_bag:Lk K mg "lacks_bag" yC ["state","b"]
 lacks_recipe:Lk K mg "lacks_recipe" qO ["state","recipe"]
 lacks_machine:Lk K mg "lacks_machine" qx ["state","machine"]
 bags_around:Lk K mg "bags_around" wu ["state","b"]
 weight_of_bag:Lk K mg "weight_of_bag" qw ["state","b"]
 places_taken:Lk K mg "places_taken" qN ["state","b"]
 weight_left:Lk K mg "weight_left" wj ["state","b"]
 how_many_fit:Lk K mg "how_many_fit" qP ["state","b","good"]
 bag_fits:Lk K mg "bag_fits" vC ["state","b","weight"]
 add_load:Lk K mg "add_load" vE ["state","b","weight"]
 put_in:Lk K mg "put_in" u6 ["state","b","good","many"]
 take_out:Lk K mg "take_out" vp ["state","b","good","many"]
 put_if_it_fits:Lk K mg "put_if_it_fits" j7 ["state","b","good","many"]
 take_needs:Lk K mg "take_needs" w4 ["state","b","needs","times"]
 put_back:Lk K mg "put_back" vt ["state","b","stacks","held"]
 lay_bag:Lk K mg "lay_bag" kI ["state","a","b"]
 new_bag:Lk K mg "new_bag" kH ["state","b","room","own_weight","places"]
 put:Lk K mg "put" s_put ["state","b","good","many"]
 take:Lk K mg "take" Wu ["state","b","good","many"]
 move:Lk K mg "move" Wv ["state","a","b","good","many"]
 carry:Lk K mg "carry" Ji ["state","a","b"]
 tell_stacks:Lk K mg "tell_stacks" wl ["state","b"]
 tell_load:Lk K mg "tell_load" yy ["state","b"]
 tell_fits:Lk K mg "tell_fits" yz ["state","b","good"]
 cost_at:Lk K mg "cost_at" kM ["recipe","prices"]
 cost_by_recipe:Lk K mg "cost_by_recipe" j9 ["recipe","costs"]
 least_costs:Lk K mg "least_costs" wo ["goods","recipes"]
 are_fair:Lk K mg "are_fair" vD ["goods","recipes","prices"]
 tell_goods:Lk K mg "tell_goods" wX ["state","told"]
 tell_recipe:Lk K mg "tell_recipe" wm ["state","good","cost","ticks","told"]
 tell_costs:Lk K mg "tell_costs" wZ ["state"]
 tell_fair:Lk K mg "tell_fair" yB ["state","prices"]
 let_a_tick_go_by:Lk K mg "let_a_tick_go_by" jT ["state"]
 act:Lk K mg "act" s_act ["state","machine"]
 bring_out:Lk K mg "bring_out" yG ["state","machine"]
 begin:Lk K mg "begin" Jj ["state","machine"]
 new_machine:Lk K mg "new_machine" wn ["state","a","b","recipe"]
 order:Lk K mg "order" Jh ["state","number","many"]
 tick:Lk K mg "tick" Wt ["state","many"]
 tell_state:Lk K mg "tell_state" wW ["state","number"]
 plan_for:Lk K mg "plan_for" vw ["state","costs","b","good","many"]
 meet:Lk K mg "meet" Ww ["state","costs","plan","good","many"]
 use_stock:Lk K mg "use_stock" yw ["plan","good","many"]
 first_recipe_at_cost:Lk K mg "first_recipe_at_cost" jB ["recipes","costs","good"]
 cost_of_steps:Lk K mg "cost_of_steps" qy ["state","steps"]
 carry_out:Lk K mg "carry_out" yF ["state","b","steps"]
 do_step:Lk K mg "do_step" kL ["state","b","deed","which","many"]
 tell_plan:Lk K mg "tell_plan" yx ["state","b","good","many"]
 make:Lk K mg "make" Wx ["state","b","good","many"]
 cut_into_calls:Lk K mg "cut_into_calls" j8 ["numbers"]
 within_ranges:Lk K mg "within_ranges" qv ["call"]
 each_within:Lk K mg "each_within" wq ["numbers","ranges"]
 tell_count:Lk K mg "tell_count" wY ["state","good"]
 tell_totals:Lk K mg "tell_totals" wk ["state"]
 tell_find:Lk K mg "tell_find" yA ["state","good"]
 answers:Lk K mg "answers" kN ["calls"]
 answer_to:Lk K mg "answer_to" yH ["state","call"]
 answer_of_bags:Lk K mg "answer_of_bags" qa ["state","number","plain"]
 answer_of_making:Lk K mg "answer_of_making" jU ["state","number","plain"]
 kGood:Ck K mg "Good" "Good.__init__" vz ["self","weight","size","price"] ["weight","size","price"]
 kRecipe:Ck K mg "Recipe" "Recipe.__init__" w8 ["self","makes","cost","ticks","needs"] ["makes","cost","ticks","needs"]
 kBag:Ck K mg "Bag" "Bag.__init__" kJ ["self","inside","room","own_weight","places"] ["inside","room","own_weight","places","stacks","held"]
 kMachine:Ck K mg "Machine" "Machine.__init__" wp ["self","takes_from","puts_into","recipe"] ["takes_from","puts_into","recipe","ordered","works","left","made"]
 kState:Ck K mg "State" "State.__init__" yD ["self"] ["goods","recipes","bags","machines","paid","ticks"]
 kPlan:Ck K mg "Plan" "Plan.__init__" vy ["self","stock"] ["stock","steps","used"]
 kCall:Ck K mg "Call" "Call.__init__" vA ["self","number","plain","row"] ["number","plain","row"]
 c_GROUND:Ik mg "GROUND" (-1)
 c_OUT_OF_RANGE:Ik mg "OUT_OF_RANGE" (-1)
 c_NO_GOODS:Ik mg "NO_GOODS" (-2)
 c_NO_SUCH:Ik mg "NO_SUCH" (-3)
 c_NO_MORE_ALLOWED:Ik mg "NO_MORE_ALLOWED" (-4)
 c_GOODS_ALREADY:Ik mg "GOODS_ALREADY" (-5)
 c_NO_ROOM:Ik mg "NO_ROOM" (-6)
 c_NEEDED_TWICE:Ik mg "NEEDED_TWICE" (-7)
 c_TOO_FEW:Ik mg "TOO_FEW" (-8)
 c_NO_COST:Ik mg "NO_COST" (-9)
 c_TOO_MANY_TICKS:Ik mg "TOO_MANY_TICKS" (-10)
 c_MOST_BAGS:Ik mg "MOST_BAGS" (12)
 c_MOST_RECIPES:Ik mg "MOST_RECIPES" (16)
 c_MOST_MACHINES:Ik mg "MOST_MACHINES" (6)
 c_MOST_TICKS:Ik mg "MOST_TICKS" (10000)
 c_BUY:Ik mg "BUY" (0)
 c_DO:Ik mg "DO" (1)
 PLAIN_RANGES:Dk mg "PLAIN_RANGES" (kDict K (kRng K) plainR)
 ROW_RANGES:Dk mg "ROW_RANGES" (kDict K (kRow K) rowR)
 b_sum:mg "sum" = none
 b_min:mg "min" = none
 b_any:mg "any" = none
 b_all:mg "all" = none
 b_len:mg "len" = none
 b_list:mg "list" = none
 b_set:mg "set" = none
 b_range:mg "range" = none
 b_enumerate:mg "enumerate" = none
 b_zip:mg "zip" = none
 b_reversed:mg "reversed" = none
theorem Ck.ne {K:PySem.W.Frag} {mg:Str→Option Value} {x q x' q':Str} {st st':Stmt} {ps ps' as as':List Str} (a:Ck K mg x q st ps as) (b:Ck K mg x' q' st' ps' as') (h:q≠q'):a.C≠b.C:=by
 intro e
 have h1:=a.made.init
 rw [e,b.made.init] at h1
 have e2:b.f=a.f:=by injection h1 with h1;injection h1 with h1;injection h1
 obtain ⟨oc,od,kV,doc,pm,an,cdv,ct,osl,rfl1,lk,hcd⟩:=a.fn.ex
 obtain ⟨oc',od',kV',doc',pm',an',cdv',ct',osl',rfl2,lk',hcd'⟩:=b.fn.ex
 rw [e2,lk] at lk'
 injection lk' with lk'
 injection lk' with _ _ lk' _
 injection lk' with lk'
 rw [rfl1,rfl2] at lk'
 exact h (congrArg FuncData.qualname lk')
theorem zH {K:PySem.W.Frag} {h:Heap} {mg:Str→Option Value} {x:Str} {st:Stmt} {ps:List Str} (X:K.In h) (G:h.Ns mainGlobals mg) {f:Addr} {oc:Value} {od an:Option Addr} {sl:Array (Option Value)} {kV dc pm cd ct:Value}
  (a:PySem.W.nsIn K mainGlobals x=some (some (.ref f))) (l:K.lookup f=some ⟨oc,od,.func (PySem.W.fnOf x x (defArgs st) (defBody st) (defScope st) .none kV dc pm an cd ct),sl⟩) (c:PySem.W.codeIn K cd x=true) (k:PySem.W.keepIn K (.ref f)=true)
  (hb:∀ (kV doc pm:Value) (an:Option Addr) (cdv ct:Value) (us:List Value),us.length=ps.length→bindArgs (PySem.W.fnOf x x (defArgs st) (defBody st) (defScope st) .none kV doc pm an cdv ct) ⟨us,[]⟩=pure (ps.zip us)):Nonempty (Lk K mg x st ps):=
 have F:=fun_mk (st:=st) l c k
 ⟨⟨f,_,F,PySem.W.mg_of X G a,F.binds hb⟩⟩
theorem xG {K:PySem.W.Frag} {h:Heap} {mg:Str→Option Value} {x q:Str} {st:Stmt} {ps as:List Str} (X:K.In h) (G:h.Ns mainGlobals mg) {C f:Addr} {oc:Value} {od an:Option Addr} {sl:Array (Option Value)} {kV dc pm cd ct:Value}
  (aC:PySem.W.nsIn K mainGlobals x=some (some (.ref C))) (a1:PySem.W.findIn K (.ref C) "__init__" = some (some (.ref f))) (i1:PySem.W.isFn K (.ref f)=true)
  (l:K.lookup f=some ⟨oc,od,.func (PySem.W.fnOf "__init__" q (defArgs st) (defBody st) (defScope st) .none kV dc pm an cd ct),sl⟩) (c:PySem.W.codeIn K cd q=true) (k:PySem.W.keepIn K (.ref f)=true)
  (pg:PySem.W.plainGet K C Str.empty=true) (hd:PySem.W.hasDictIn K C=true) (po:PySem.W.plainOver K C=true) (sa:PySem.W.findIn K (.ref C) "__setattr__" = some (some (.builtin "object.__setattr__"))) (mk:PySem.W.makesIn K C=true) (kc:PySem.W.keepIn K (.ref C)=true)
  (no:∀ a∈as,NoAttr K C a)
  (hb:∀ (kV doc pm:Value) (an:Option Addr) (cdv ct:Value) (us:List Value),us.length=ps.length→bindArgs (PySem.W.fnOf "__init__" q (defArgs st) (defBody st) (defScope st) .none kV doc pm an cdv ct) ⟨us,[]⟩=pure (ps.zip us)):Nonempty (Ck K mg x q st ps as):=
 have F:=fun_mk (st:=st) l c k
 ⟨⟨C,f,_,⟨pg,hd,po,sa⟩,no,PySem.W.mg_of X G aC,⟨mk,a1,i1,kc⟩,F,F.binds hb⟩⟩
theorem qt {K:PySem.W.Frag} {h:Heap} {mg:Str→Option Value} {x:Str} {i:Int} {t:Tok} (X:K.In h) (G:h.Ns mainGlobals mg) (a:PySem.W.nsIn K mainGlobals x=some (some (.int i t))):Nonempty (Ik mg x i):=⟨⟨t,PySem.W.mg_of X G a⟩⟩
end BM
end
section
namespace BM
open PySem PySem.Spec L2
open PyProof.Rows hiding St
open Vbwsao (Good Recipe Bag Machine State)
def insV:Option Nat→V
 | none=>.int (-1)
 | some c=>.int (c:Int)
structure Adr where
 st:Addr
 gl:Addr
 rl:Addr
 bl:Addr
 ml:Addr
 ga:List Addr
 ra:List Addr
 ba:List Addr
 ma:List Addr
abbrev Adr.tops (A:Adr):List Addr:=[A.gl,A.rl,A.bl,A.ml]
def fsGood (g:Good):List (Str × V):=[("weight",.int (g.weight:Int)),("size",.int (g.stack:Int)),("price",.int (g.price:Int))]
def fsRec (r:Recipe) (nl:Addr):List (Str × V):=[("makes",.int (r.makes:Int)),("cost",.int (r.cost:Int)),("ticks",.int (r.ticks:Int)),("needs",.ref nl)]
def fsBag (b:Bag) (sl:Addr) (h:Int):List (Str × V):=[("inside",insV b.inside),("room",.int (b.room:Int)),("own_weight",.int (b.own:Int)),("places",.int (b.slots:Int)),("stacks",.ref sl),("held",.int h)]
def fsMach (m:Machine):List (Str × V):=[("takes_from",.int (m.from_:Int)),("puts_into",.int (m.to_:Int)),("recipe",.int (m.recipe:Int)),("ordered",.int (m.queue:Int)),("works",.bl m.working),("left",.int (m.left:Int)),("made",.int (m.made:Int))]
def fsState (A:Adr) (paid ticks:Nat):List (Str × V):=[("goods",.ref A.gl),("recipes",.ref A.rl),("bags",.ref A.bl),("machines",.ref A.ml),("paid",.int (paid:Int)),("ticks",.int (ticks:Int))]
def fsPlan (a b c:Addr):List (Str × V):=[("stock",.ref a),("steps",.ref b),("used",.ref c)]
def fsCall (n:Int) (a b:Addr):List (Str × V):=[("number",.int n),("plain",.ref a),("row",.ref b)]
section
variable {g:Good} {r:Recipe} {b:Bag} {m:Machine} {A:Adr} {paid ticks:Nat} {x y z:Addr} {h n:Int}
theorem Y6:(fsGood g).lookup ("weight":Str)=some (.int (g.weight:Int)):=rfl
theorem lg_size:(fsGood g).lookup ("size":Str)=some (.int (g.stack:Int)):=rfl
theorem lg_price:(fsGood g).lookup ("price":Str)=some (.int (g.price:Int)):=rfl
theorem lr_makes:(fsRec r x).lookup ("makes":Str)=some (.int (r.makes:Int)):=rfl
theorem lr_cost:(fsRec r x).lookup ("cost":Str)=some (.int (r.cost:Int)):=rfl
theorem lr_ticks:(fsRec r x).lookup ("ticks":Str)=some (.int (r.ticks:Int)):=rfl
theorem lr_needs:(fsRec r x).lookup ("needs":Str)=some (.ref x):=rfl
theorem Vb:(fsBag b x h).lookup ("inside":Str)=some (insV b.inside):=rfl
theorem lb_room:(fsBag b x h).lookup ("room":Str)=some (.int (b.room:Int)):=rfl
theorem lb_own:(fsBag b x h).lookup ("own_weight":Str)=some (.int (b.own:Int)):=rfl
theorem Va:(fsBag b x h).lookup ("places":Str)=some (.int (b.slots:Int)):=rfl
theorem Y9:(fsBag b x h).lookup ("stacks":Str)=some (.ref x):=rfl
theorem lb_held:(fsBag b x h).lookup ("held":Str)=some (.int h):=rfl
theorem lm_from:(fsMach m).lookup ("takes_from":Str)=some (.int (m.from_:Int)):=rfl
theorem lm_to:(fsMach m).lookup ("puts_into":Str)=some (.int (m.to_:Int)):=rfl
theorem Y5:(fsMach m).lookup ("recipe":Str)=some (.int (m.recipe:Int)):=rfl
theorem WR:(fsMach m).lookup ("ordered":Str)=some (.int (m.queue:Int)):=rfl
theorem lm_works:(fsMach m).lookup ("works":Str)=some (.bl m.working):=rfl
theorem lm_left:(fsMach m).lookup ("left":Str)=some (.int (m.left:Int)):=rfl
theorem lm_made:(fsMach m).lookup ("made":Str)=some (.int (m.made:Int)):=rfl
theorem ls_goods:(fsState A paid ticks).lookup ("goods":Str)=some (.ref A.gl):=rfl
theorem WQ:(fsState A paid ticks).lookup ("recipes":Str)=some (.ref A.rl):=rfl
theorem ls_bags:(fsState A paid ticks).lookup ("bags":Str)=some (.ref A.bl):=rfl
theorem QG:(fsState A paid ticks).lookup ("machines":Str)=some (.ref A.ml):=rfl
theorem ls_paid:(fsState A paid ticks).lookup ("paid":Str)=some (.int (paid:Int)):=rfl
theorem ls_ticks:(fsState A paid ticks).lookup ("ticks":Str)=some (.int (ticks:Int)):=rfl
theorem lp_stock:(fsPlan x y z).lookup ("stock":Str)=some (.ref x):=rfl
theorem lp_steps:(fsPlan x y z).lookup ("steps":Str)=some (.ref y):=rfl
theorem lp_used:(fsPlan x y z).lookup ("used":Str)=some (.ref z):=rfl
theorem Y8:(fsCall n x y).lookup ("number":Str)=some (.int n):=rfl
theorem lc_plain:(fsCall n x y).lookup ("plain":Str)=some (.ref x):=rfl
theorem lc_row:(fsCall n x y).lookup ("row":Str)=some (.ref y):=rfl
theorem pb_held {k:Int}:putF "held" (.int k) (fsBag b x h)=fsBag b x k:=rfl
theorem pb_stacks {l:List (Nat × Nat)}:putF "stacks" (.ref y) (fsBag b x h)=fsBag { b with stacks:=l } y h:=rfl
theorem pb_inside {c:Option Nat}:putF "inside" (insV c) (fsBag b x h)=fsBag { b with inside:=c } x h:=rfl
theorem pm_ordered {k:Nat}:putF "ordered" (.int (k:Int)) (fsMach m)=fsMach { m with queue:=k }:=rfl
theorem pm_works {k:Bool}:putF "works" (.bl k) (fsMach m)=fsMach { m with working:=k }:=rfl
theorem pm_left {k:Nat}:putF "left" (.int (k:Int)) (fsMach m)=fsMach { m with left:=k }:=rfl
theorem pm_made {k:Nat}:putF "made" (.int (k:Int)) (fsMach m)=fsMach { m with made:=k }:=rfl
theorem ps_paid {k:Nat}:putF "paid" (.int (k:Int)) (fsState A paid ticks)=fsState A k ticks:=rfl
theorem ps_ticks {k:Nat}:putF "ticks" (.int (k:Int)) (fsState A paid ticks)=fsState A paid k:=rfl
end
def Frm (κ L:List Addr) (H H':Hp):Prop:=∀ b o,H b=some o→(∀ xs,o = .lst xs→b∉L)→(∀ C dx fs,o = .ins C dx fs→C∉κ)→H' b=some o
theorem Frm.refl {κ L:List Addr} (H:Hp):Frm κ L H H:=fun _ _ h _ _=>h
theorem Frm.trans {κ L:List Addr} {H H1 H2:Hp} (a:Frm κ L H H1) (b:Frm κ L H1 H2):Frm κ L H H2:=fun c o h h1 h2=>b c o (a c o h h1 h2) h1 h2
theorem Frm.mono {κ L κ' L':List Addr} {H H1:Hp} (a:Frm κ L H H1) (h:∀ x∈κ,x∈κ') (h':∀ x∈L,x∈L'):Frm κ' L' H H1:=fun c o e h1 h2=>
 a c o e (fun xs e1 m=>h1 xs e1 (h' _ m)) fun C dx fs e1 m=>h2 C dx fs e1 (h _ m)
theorem zy {κ L:List Addr} {H H1:Hp} (a:Same H H1):Frm κ L H H1:=fun c o e _ _=>a c o e
theorem Frm.lst {κ L:List Addr} {H H1:Hp} (a:Frm κ L H H1) {l:Addr} {xs:List V} (h:H l=some (.lst xs)) (n:l∉L):H1 l=some (.lst xs):=a l _ h (fun _ _=>n) fun _ _ _ e=>by cases e
theorem Frm.tup {κ L:List Addr} {H H1:Hp} (a:Frm κ L H H1) {l:Addr} {xs:List V} (h:H l=some (.tup xs)):H1 l=some (.tup xs):=a l _ h (fun _ e=>by cases e) fun _ _ _ e=>by cases e
theorem Frm.ins {κ L:List Addr} {H H1:Hp} (a:Frm κ L H H1) {l C dx:Addr} {fs:List (Str × V)} (h:H l=some (.ins C dx fs)) (n:C∉κ):H1 l=some (.ins C dx fs):=a l _ h (fun _ e=>by cases e) fun _ _ _ e=>by cases e;exact n
theorem zM {H:Hp} {p:Addr} {o:HO} (h:H p=none):Same H (upd H p o):=fun b u e=>by
 rw [zl (zn e h)];exact e
theorem jR {H H1:Hp} {p:Addr} {o:HO} (s:Same H H1) (h:H1 p=none):Same H (L2.upd H1 p o):=s.trans (zM h)
theorem jL {H H1:Hp} {p:Addr} {o:HO} (s:Same H H1) (h:H p=none):Same H (L2.upd H1 p o):=fun b u e=>by
 rw [zl (zn e h)];exact s b u e
theorem jp {κ L:List Addr} {H:Hp} {a C dx:Addr} {fs fs':List (Str × V)} (h:H a=some (.ins C dx fs)) (n:C∈κ):Frm κ L H (L2.upd H a (.ins C dx fs')):=fun b o e _ h2=>by
 by_cases q:b=a
 ·subst q;rw [h] at e;cases e;exact absurd n (h2 C dx fs rfl)
 ·rw [zl q];exact e
theorem jv {κ L:List Addr} {H:Hp} {a:Addr} {xs ys:List V} (h:H a=some (.lst xs)) (n:a∈L):Frm κ L H (L2.upd H a (.lst ys)):=fun b o e h1 _=>by
 by_cases q:b=a
 ·subst q;rw [h] at e;cases e;exact absurd n (h1 xs rfl)
 ·rw [zl q];exact e
theorem frm_upd {κ L:List Addr} {H H1:Hp} {p:Addr} {o:HO} (s:Frm κ L H H1) (h:H p=none):Frm κ L H (L2.upd H1 p o):=fun b u e h1 h2=>by
 rw [zl (zn e h)];exact s b u e h1 h2
def PrAt (H:Hp) (a:Addr) (x:Nat × Nat):Prop:=H a=some (.tup [.int (x.1:Int),.int (x.2:Int)])
def LsAt {α:Type} (H:Hp) (l:Addr) (as:List Addr) (xs:List α) (R:Addr→α→Prop):Prop:=H l=some (.lst (as.map V.ref))∧as.length=xs.length∧∀ (j:Nat) (a:Addr) (x:α),as[j]? = some a→xs[j]? = some x→R a x
def PrsAt (H:Hp) (l:Addr) (xs:List (Nat × Nat)):Prop:=∃ as:List Addr,LsAt H l as xs (PrAt H)
theorem jo {α β:Type} {as:List α} {xs:List β} (h:as.length=xs.length) {j:Nat} {a:α} (e:as[j]? = some a):∃ x,xs[j]? = some x:=by
 obtain ⟨h1,_⟩:=List.getElem?_eq_some_iff.mp e
 exact ⟨xs[j]'(by omega),List.getElem?_eq_getElem _⟩
theorem LsAt.imp {α:Type} {H H':Hp} {l:Addr} {as:List Addr} {xs:List α} {R R':Addr→α→Prop} (h:LsAt H l as xs R) (hl:H' l=some (.lst (as.map V.ref))) (f:∀ a x,R a x→R' a x):LsAt H' l as xs R':=
 ⟨hl,h.2.1,fun j a x e1 e2=>f a x (h.2.2 j a x e1 e2)⟩
theorem PrsAt.frm {κ L:List Addr} {H H':Hp} {l:Addr} {xs:List (Nat × Nat)} (h:PrsAt H l xs) (f:Frm κ L H H') (n:l∉L):PrsAt H' l xs:=by
 obtain ⟨as,q⟩:=h
 exact ⟨as,q.imp (f.lst q.1 n) fun a x e=>f.tup e⟩
theorem PrsAt.same {H H':Hp} {l:Addr} {xs:List (Nat × Nat)} (h:PrsAt H l xs) (f:Same H H'):PrsAt H' l xs:=h.frm (κ:=[]) (L:=[]) (zy f) (by simp)
section
variable {K:PySem.W.Frag} {mg:Str→Option Value} (T:Prog K mg)
def GoodAt (H:Hp) (a:Addr) (g:Good):Prop:=∃ dx,H a=some (.ins T.kGood.C dx (fsGood g))
def RecAt (L:List Addr) (H:Hp) (a:Addr) (r:Recipe):Prop:=∃ dx nl,H a=some (.ins T.kRecipe.C dx (fsRec r nl))∧nl∉L∧PrsAt H nl r.needs
def BagAt (L:List Addr) (H:Hp) (a:Addr) (x:Bag × Int):Prop:=∃ dx sl,H a=some (.ins T.kBag.C dx (fsBag x.1 sl x.2))∧sl∉L∧PrsAt H sl x.1.stacks
def MachAt (H:Hp) (a:Addr) (m:Machine):Prop:=∃ dx,H a=some (.ins T.kMachine.C dx (fsMach m))
structure StX (H:Hp) (A:Adr) (s:State) (hs:List Int):Prop where
 st:∃ dx,H A.st=some (.ins T.kState.C dx (fsState A s.paid s.ticks))
 gs:LsAt H A.gl A.ga s.goods (GoodAt T H)
 rs:LsAt H A.rl A.ra s.recipes (RecAt T A.tops H)
 bs:LsAt H A.bl A.ba (s.bags.zip hs) (BagAt T A.tops H)
 ms:LsAt H A.ml A.ma s.machines (MachAt T H)
 hl:hs.length=s.bags.length
 nb:A.ba.Nodup
 nm:A.ma.Nodup
 nt:A.tops.Nodup
def heldOf (gs:List Good) (bs:List Bag):List Int:=(List.range bs.length).map fun k=>(Vbwsao.holds gs bs k:Int)
abbrev StAt (H:Hp) (A:Adr) (s:State):Prop:=StX T H A s (heldOf s.goods s.bags)
variable {T}
theorem nGB:T.kGood.C≠T.kBag.C:=Ck.ne _ _ (by decide +kernel)
theorem nGM:T.kGood.C≠T.kMachine.C:=Ck.ne _ _ (by decide +kernel)
theorem nGS:T.kGood.C≠T.kState.C:=Ck.ne _ _ (by decide +kernel)
theorem nRB:T.kRecipe.C≠T.kBag.C:=Ck.ne _ _ (by decide +kernel)
theorem nRM:T.kRecipe.C≠T.kMachine.C:=Ck.ne _ _ (by decide +kernel)
theorem nRS:T.kRecipe.C≠T.kState.C:=Ck.ne _ _ (by decide +kernel)
theorem nMB:T.kMachine.C≠T.kBag.C:=Ck.ne _ _ (by decide +kernel)
theorem nSB:T.kState.C≠T.kBag.C:=Ck.ne _ _ (by decide +kernel)
theorem nSM:T.kState.C≠T.kMachine.C:=Ck.ne _ _ (by decide +kernel)
theorem nPB:T.kPlan.C≠T.kBag.C:=Ck.ne _ _ (by decide +kernel)
theorem nPM:T.kPlan.C≠T.kMachine.C:=Ck.ne _ _ (by decide +kernel)
theorem nPS:T.kPlan.C≠T.kState.C:=Ck.ne _ _ (by decide +kernel)
theorem nCB:T.kCall.C≠T.kBag.C:=Ck.ne _ _ (by decide +kernel)
theorem nCM:T.kCall.C≠T.kMachine.C:=Ck.ne _ _ (by decide +kernel)
theorem nCS:T.kCall.C≠T.kState.C:=Ck.ne _ _ (by decide +kernel)
variable {H H':Hp} {A:Adr} {s:State} {hs:List Int} {κ L:List Addr}
theorem GoodAt.frm {a:Addr} {g:Good} (h:GoodAt T H a g) (f:Frm κ L H H') (n:T.kGood.C∉κ):GoodAt T H' a g:=let ⟨dx,e⟩:=h;⟨dx,f.ins e n⟩
theorem RecAt.frm {M:List Addr} {a:Addr} {r:Recipe} (h:RecAt T M H a r) (f:Frm κ L H H') (n:T.kRecipe.C∉κ) (hL:∀ x∈L,x∈M):RecAt T M H' a r:=
 let ⟨dx,nl,e,q,p⟩:=h;⟨dx,nl,f.ins e n,q,p.frm f fun m=>q (hL _ m)⟩
theorem BagAt.frm {M:List Addr} {a:Addr} {x:Bag × Int} (h:BagAt T M H a x) (f:Frm κ L H H') (n:T.kBag.C∉κ) (hL:∀ x∈L,x∈M):BagAt T M H' a x:=
 let ⟨dx,nl,e,q,p⟩:=h;⟨dx,nl,f.ins e n,q,p.frm f fun m=>q (hL _ m)⟩
theorem MachAt.frm {a:Addr} {m:Machine} (h:MachAt T H a m) (f:Frm κ L H H') (n:T.kMachine.C∉κ):MachAt T H' a m:=let ⟨dx,e⟩:=h;⟨dx,f.ins e n⟩
theorem StX.same (S:StX T H A s hs) (f:Same H H'):StX T H' A s hs:=by
 have F:Frm [] [] H H':=zy f
 obtain ⟨dx,e⟩:=S.st
 exact ⟨⟨dx,f _ _ e⟩,S.gs.imp (f _ _ S.gs.1) fun a x h=>h.frm F (by simp),S.rs.imp (f _ _ S.rs.1) fun a x h=>h.frm F (by simp) (by simp),
  S.bs.imp (f _ _ S.bs.1) fun a x h=>h.frm F (by simp) (by simp),S.ms.imp (f _ _ S.ms.1) fun a x h=>h.frm F (by simp),S.hl,S.nb,S.nm,S.nt⟩
theorem StX.bags (S:StX T H A s hs) (f:Frm [T.kBag.C] [] H H') {bs':List Bag} {hs':List Int} (hb:LsAt H' A.bl A.ba (bs'.zip hs') (BagAt T A.tops H')) (hl:hs'.length=bs'.length):StX T H' A { s with bags:=bs' } hs':=by
 obtain ⟨dx,e⟩:=S.st
 exact ⟨⟨dx,f.ins e (by simp;exact nSB)⟩,S.gs.imp (f.lst S.gs.1 (by simp)) fun a x h=>h.frm f (by simp;exact nGB),S.rs.imp (f.lst S.rs.1 (by simp)) fun a x h=>h.frm f (by simp;exact nRB) (by simp),
  hb,S.ms.imp (f.lst S.ms.1 (by simp)) fun a x h=>h.frm f (by simp;exact nMB),hl,S.nb,S.nm,S.nt⟩
theorem ZR {α β:Type} {l:List α} {m:List β} {j:Nat} {x:α} {y:β} (h1:l[j]? = some x) (h2:m[j]? = some y):(l.zip m)[j]? = some (x,y):=by
 rw [List.getElem?_zip_eq_some];exact ⟨h1,h2⟩
theorem ZQ {α β:Type}:∀ {l:List α} {m:List β} {j:Nat} {x:α} {y:β},(l.set j x).zip (m.set j y)=(l.zip m).set j (x,y)
 | [],m,j,x,y=>by simp
 | a :: l,[],j,x,y=>by cases j <;> simp
 | a :: l,b :: m,0,x,y=>by simp
 | a :: l,b :: m,j+1,x,y=>by simp [ZQ]
theorem StX.bag (S:StX T H A s hs) {j:Nat} {b:Bag} (hb:s.bags[j]? = some b):∃ a h,A.ba[j]? = some a∧hs[j]? = some h∧∃ dx sl,H a=some (.ins T.kBag.C dx (fsBag b sl h))∧sl∉A.tops∧PrsAt H sl b.stacks:=by
 obtain ⟨h1,_⟩:=List.getElem?_eq_some_iff.mp hb
 have l2:=S.bs.2.1
 have l1:=S.hl
 rw [List.length_zip] at l2
 have ha:A.ba[j]? = some (A.ba[j]'(by omega)):=List.getElem?_eq_getElem _
 have hh:hs[j]? = some (hs[j]'(by omega)):=List.getElem?_eq_getElem _
 exact ⟨_,_,ha,hh,S.bs.2.2 j _ _ ha (ZR hb hh)⟩
theorem StX.setBag (S:StX T H A s hs) {j:Nat} {a dx:Addr} {b b':Bag} {sl sl':Addr} {h h':Int} (ha:A.ba[j]? = some a) (hb:s.bags[j]? = some b) (e:H a=some (.ins T.kBag.C dx (fsBag b sl h)))
  (n:sl'∉A.tops) (p:PrsAt H sl' b'.stacks):StX T (L2.upd H a (.ins T.kBag.C dx (fsBag b' sl' h'))) A { s with bags:=s.bags.set j b' } (hs.set j h'):=by
 have f:Frm [T.kBag.C] [] H (L2.upd H a (.ins T.kBag.C dx (fsBag b' sl' h'))):=jp e (by simp)
 refine S.bags f ?_ (by simp [S.hl])
 refine ⟨f.lst S.bs.1 (by simp),by rw [ZQ];simp [S.bs.2.1],fun i c x hc hx=>?_⟩
 rw [ZQ] at hx
 by_cases q:i=j
 ·subst q
  rw [ha] at hc;cases hc
  obtain ⟨h1,_⟩:=List.getElem?_eq_some_iff.mp hb
  have l2:=S.hl
  rw [List.getElem?_set_self (by rw [List.length_zip];omega)] at hx
  cases hx
  exact ⟨dx,sl',zf,n,p.frm f (by simp)⟩
 ·rw [List.getElem?_set_ne (fun z=>q z.symm)] at hx
  have nc:c≠a:=fun z=>q (nd_ix S.nb hc (by rw [z];exact ha))
  obtain ⟨dx',nl,e',q',p'⟩:=S.bs.2.2 i c x hc hx
  exact ⟨dx',nl,by rw [zl nc];exact e',q',p'.frm f (by simp)⟩
end
end BM
end
section
namespace BM
open PySem PySem.Spec L2
open PyProof.Rows hiding St
theorem Y1:typeLookup (.type "list_reverseiterator") "__len__" = pure none:=by rw [typeLookup_type,builtinLookup_eq_fast];kernel_rfl
theorem hint_lri:typeLookup (.type "list_reverseiterator") "__length_hint__" = pure (some (.builtin "list_reverseiterator.__length_hint__")):=by rw [typeLookup_type,builtinLookup_eq_fast];kernel_rfl
theorem WX {prog:Program} {w:World} {A:Around} {s:Shared} {R:Result→Shared→Prop} {I:Addr} {fp wr:List Addr} {G:Array GenState→Array GenState→Prop} {n:Nat} {P:Nat→Value→Prop} {St:Nat→Shared→Prop}
  (W:WalksS prog w A.in1 I fp wr G n P St) (hT:∀ i s,St i s→s.TypeIs (.ref I) "list_reverseiterator") (S:Addr) (res:Value) (c₀:Nat) (hst:St 0 s) (hSf:S∉fp) (hI:I∈fp)
  (hS:s.heap.get? S=some { cls:=.type "list",data:=.seq #[] c₀ })
  (hR:∀ s' acc' c',Moved (S :: wr) G s s'→s'.heap.get? S=some { cls:=.type "list",dict:=none,data:=.seq acc' c',slots:=#[] }→ItemsOf P acc' n→R (.ok (.ret res)) s') (hn:n≤sizeLine) :
  wpAny (model prog w) A.in1 (Builtin.List.listExtendWith (.ref S) (.ref I) res)
   (fun fin s'=>match fin with | .done f=>R (.ok f) s' | .again c'=>c'.quiet=true∧codeAny (model prog w) A c' R s') (fun e s'=>R (.error e) s') s:=by
 have hSI:S≠I:=fun e=>hSf (e ▸ hI)
 unfold Builtin.List.listExtendWith
 refine wpAny_bind (wpAny_typeOf (hT 0 _ hst) ?_)
 have h1:Builtin.List.listSameRef (.ref S) (.ref I)=false:=by simp [Builtin.List.listSameRef,hSI]
 rw [if_neg (by rw [h1];decide)]
 refine wpAny_bind (W.self 0 _ _ _ hst ?_)
 refine wpAny_bind (wpAny_holding ?_)
 unfold Builtin.List.listLengthHint
 refine wpAny_bind (wpAny_specialOf (hT 0 _ hst) Y1 ?_)
 show wpAny _ A.in1 (specialOf (Value.ref I) (Str.ofString "__length_hint__") >>= _) _ _ _
 refine wpAny_bind (wpAny_specialOf (hT 0 _ hst) hint_lri ?_)
 (generalize hid:("list_reverseiterator.__length_hint__":String)=id0;wp_delta;rw [show splitId id0=some ("list_reverseiterator","__length_hint__") from by subst hid;decide +kernel];subst hid)
 refine wpAny_bind (wpAny_isInstance (b:=true) (hT 0 _ hst) (by rw [isSubtype_type];kernel_rfl) ?_)
 refine wpAny_pure ?_
 rw [if_neg (by decide)]
 refine wpAny_pure ⟨plainId_quiet F.plain_extend_loop _,codeAny_extend_loopS W hn _ hSf _ n 0 _ _ _ rfl (Nat.zero_le _) hst hS (ItemsOf.nil P) fun s' acc' c' hm hS' hacc=>hR s' acc' c' hm hS' hacc⟩
theorem Zc {prog:Program} {w:World} {A:Around} {s:Shared} {R:Result→Shared→Prop} {I:Addr} {fp wr:List Addr} {G:Array GenState→Array GenState→Prop} {n:Nat} {P:Nat→Value→Prop} {St:Nat→Shared→Prop}
  (W:WalksS prog w A.in1 I fp wr G n P St) (hT:∀ i s,St i s→s.TypeIs (.ref I) "list_reverseiterator") (S:Addr) (hst:St 0 s) (hSf:S∉fp) (hI:I∈fp)
  (hS:s.heap.get? S=some { cls:=.type "list",data:=.seq #[] })
  (hR:∀ s' acc' c',Moved (S :: wr) G s s'→s'.heap.get? S=some { cls:=.type "list",dict:=none,data:=.seq acc' c',slots:=#[] }→ItemsOf P acc' n→R (.ok (.ret .none)) s') (hn:n≤sizeLine) :
  wpAny (model prog w) A.in1 (Builtin.«list.__init__» ⟨[.ref S,.ref I],[]⟩)
   (fun fin s'=>match fin with | .done f=>R (.ok f) s' | .again c'=>c'.quiet=true∧codeAny (model prog w) A c' R s') (fun e s'=>R (.error e) s') s:=by
 show wpAny _ A.in1 (do let old ← Builtin.List.listItems (.ref S);Builtin.List.listUpdate (.ref S) (fun _=>#[]);letGo old.toList.reverse;Builtin.List.listExtendWith (.ref S) (.ref I) .none) _ _ s
 refine wpAny_bind ?_
 unfold Builtin.List.listItems
 refine wpAny_bind (wpAny_seqItems hS rfl (wpAny_pure ?_))
 show wpAny _ A.in1 (updateSeq S (fun _=>#[]) >>= fun _=>letGo (#[]:Array Value).toList.reverse >>= fun _=>Builtin.List.listExtendWith (.ref S) (.ref I) .none) _ _ s
 refine wpAny_bind (wpAny_updateSeq hS rfl ?_)
 have hS₂:=Heap.get?_update_self (Obj.mapSeq (fun _=>(#[]:Array Value))) hS rfl
 have oth:∀ b o,b≠S→s.heap.get? b=some o→(s.heap.update S (Obj.mapSeq (fun _=>(#[]:Array Value)))).get? b=some o:=
  fun b o hb e=>(Heap.get?_update_other _ _ (Ne.symm hb)).trans e
 refine wpAny_bind (wpAny_letGo ?_)
 refine WX (hn:=hn) W hT S .none _ (W.frame 0 s _ s.toks hst (Nat.le_refl _) fun b hb o e=>oth b o (fun h=>hSf (h ▸ hb)) e) hSf hI hS₂ fun s' acc' c' hm hS' hacc=>?_
 exact hR s' acc' c' (Moved.trans W.gtrans ((Moved.refl W.grefl).then_heap (Nat.le_refl _) fun b o hb e=>oth b o (fun h=>hb (h ▸ List.mem_cons_self)) e) hm) hS' hacc
theorem Ze {prog:Program} {w:World} {A:Around} {E:Value→Shared→Prop} {s:Shared} {I l:Addr} {items:Array Value} {Q:Value→Shared→Prop} (hh:A.handled=none) (hit:s.heap.IsRevIter I l ((items.size:Int) - 1)) (hl:s.heap.IsList l items) (hne:l≠I)
  (hQ:∀ s' acc' c',Moved [s.heap.objs.size,I] (fun a b=>b=a) { s with heap:=s.heap.push { cls:=.type "list",data:=.seq #[] } } s' →
   s'.heap.get? s.heap.objs.size=some { cls:=.type "list",dict:=none,data:=.seq acc' c',slots:=#[] }→ItemsOf (fun i v=>items[items.size - 1 - i]? = some v) acc' items.size→Q (.ref s.heap.objs.size) s') (hn:items.size≤sizeLine) :
  wpAny (model prog w) A (call (.type "list") [.ref I]) Q E s:=by
 have W:=(Walks.listRev (prog:=prog) (w:=w) (A:=A.in1.in1) hh I l hne items).toS
 obtain ⟨oi,hoi,_⟩:=id hit
 obtain ⟨ol,hol,_⟩:=id hl
 have hSf:s.heap.objs.size∉[I,l]:=fun hm=>by
  simp only [List.mem_cons,List.mem_nil_iff,or_false] at hm
  rcases hm with h | h
  ·rw [← h] at hoi;exact Nat.lt_irrefl _ (Heap.lt_size hoi)
  ·rw [← h] at hol;exact Nat.lt_irrefl _ (Heap.lt_size hol)
 refine callType_codes (Q₁:=fun obj s₁=>obj = .ref s.heap.objs.size∧s₁ = { s with heap:=s.heap.push { cls:=.type "list",data:=.seq #[] } }) F.called_list (F.typeCall_list_1 _) F.entry_list_init
  (code_list_new _ ⟨rfl,rfl⟩) fun obj s₁ h₁=>?_
 obtain ⟨rfl,rfl⟩:=h₁
 have hS:(s.heap.push { cls:=.type "list",data:=.seq #[] }).get? s.heap.objs.size=some { cls:=.type "list",data:=.seq #[] }:=Heap.get?_push_size _ rfl
 have hst:(fun (i:Nat) (s:Shared)=>i≤items.size∧s.heap.IsRevIter I l ((items.size:Int) - 1 - (i:Int))∧s.heap.IsList l items) 0 s:=⟨Nat.zero_le _,by simpa using hit,hl⟩
 refine ⟨⟨_,hS,rfl⟩,F.args_list_init_2 _ _,Zc (hn:=hn) W (fun i s h=>h.2.1.typeIs) _ (W.frame 0 s _ s.toks hst (Nat.le_refl _) fun b _ o e=>Heap.get?_push_of_some _ e) hSf (by simp) hS fun s' acc' c' hm hS' hacc=>?_⟩
 exact ⟨rfl,hQ s' acc' c' hm hS' hacc⟩
theorem bt_list:bootBuiltins "list" = some (.type "list"):=by decide +kernel
theorem QZ:bootBuiltins "reversed" = some (.type "reversed"):=by decide +kernel
theorem zQ:bootBuiltins "len" = some (.builtin "len"):=by decide +kernel
theorem bt_set:bootBuiltins "set" = some (.type "set"):=by decide +kernel
theorem vals_rev {xs:List V} {its acc:List Value} (r:Vals xs its) (hl:acc.length=its.length) (h:∀ (j:Nat) v,acc[j]? = some v→its[its.length - 1 - j]? = some v):Vals xs.reverse acc:=by
 have e:acc=its.reverse:=by
  apply List.ext_getElem?
  intro j
  by_cases hj:j<acc.length
  ·have h1:acc[j]? = some acc[j]:=List.getElem?_eq_getElem hj
   rw [h1,List.getElem?_reverse (by omega)]
   exact (h j _ h1).symm
  ·rw [List.getElem?_eq_none (by omega),List.getElem?_eq_none (by rw [List.length_reverse];omega)]
 subst e
 clear h hl
 induction r with
 | nil=>exact .nil
 | cons a t ih=>
  rw [List.reverse_cons,List.reverse_cons]
  exact ih.append (.cons a .nil)
section
variable {X:Cx}
def tRevL (K:PySem.W.Frag) (te:TE):TE:=fun σ H Q=>te σ H fun x H1=>∃ a xs,x = .ref a∧SqL K H1 a xs∧∀ p,H1 p=none→Q (.ref p) (upd H1 p (.lst xs.reverse))
theorem WC {K:PySem.W.Frag} (hK:X.K=K) (hh:X.A.handled=none) {e:Expr} {te:TE} {p p2 pos pos2:Pos} (hg:Gl X "list") (hm:X.mg "list" = none) (hg2:Gl X "reversed") (hm2:X.mg "reversed" = none) (he:PE X e te) (hs:starEach [e] X.env=[(false,eval e X.env)]:=by rfl):PE X (.Call (.Name "list" p) [.Call (.Name "reversed" p2) [e] [] pos2] [] pos) (tRevL K te):=by
 subst hK
 intro pins s σ H Q I h
 refine wpAny_Call_Name_kw (ww I hg hm bt_list ?_)
 refine PyProof.Rows.callWith_type1 (Calls.spliced_cons ?_) rfl rfl
 refine wpAny_Call_Name_kw (ww I hg2 hm2 QZ ?_)
 refine PyProof.Rows.callWith_type1 ?_ (by rw [hs];rfl) rfl
 rw [hs]
 refine Calls.spliced_cons (thn (he pins s σ H _ I h) fun u s1 ⟨x,H1,I1,r1,a,xs,ex,hq,q⟩=>Calls.spliced_nil ?_)
 subst ex
 obtain rfl:u=Value.ref a:=r1
 obtain ⟨its,r,pl,hz⟩:=I1.list hq
 have hlen:=r.length
 refine call_reversed_list pl.isList ?_
 refine Calls.spliced_nil ?_
 obtain ⟨oa,hoa,_⟩:=id pl.isList
 have hla:a<s1.heap.objs.size:=Heap.lt_size hoa
 refine Ze (items:=its.toArray) hh ⟨_,Heap.get?_push_size _ rfl,rfl,rfl⟩ (pl.isList.at fun o e=>Heap.get?_push_of_some _ e) (Nat.ne_of_lt hla) (fun s' acc c' hm hS hacc=>?_) (by rw [List.size_toArray];omega)
 have hk:∀ b o,s1.heap.get? b=some o→s'.heap.get? b=some o:=fun b o e=>by
  have hb:=Heap.lt_size e
  refine hm.heap b o ?_ (Heap.get?_push_of_some _ (Heap.get?_push_of_some _ e))
  simp only [List.mem_cons,List.mem_nil_iff,or_false,not_or]
  refine ⟨?_,Nat.ne_of_lt hb⟩
  rw [Heap.size_push]
  exact Nat.ne_of_lt (Nat.lt_succ_of_lt hb)
 have es:s' = { s1 with heap:=s'.heap,toks:=s'.toks }:=by
  have h1:=hm.gens
  have h2:=hm.drawn
  have h3:=hm.os
  cases s'
  cases s1
  simp only at h1 h2 h3
  subst h1 h2 h3
  rfl
 have hp:s1.heap.objs.size≤(s1.heap.push (revObj a ((its.toArray.size:Int) - 1))).objs.size:=by rw [Heap.size_push];omega
 have I2:=I1.laid (o:=.lst xs.reverse) (h':=s'.heap) (t':=s'.toks) hk hp ⟨by rw [List.length_reverse];exact hz,acc.toList,c',vals_rev r (by rw [Array.length_toList,hacc.1,List.size_toArray]) (fun j v hv=>?_),hS⟩
 ·rw [← es] at I2
  exact ⟨.ref _,_,I2,rfl,q _ (I1.hok.fresh hp)⟩
 ·have:=hacc.2 j v (by simpa using hv)
  simpa using this
theorem xP {l:List Int} {z:Int} (h:l.Nodup):(step_dedup l z).Nodup:=by
 unfold step_dedup
 split
 ·exact h
 ·rename_i h1
  rw [List.nodup_append]
  refine ⟨h,by simp,fun a ha b hb=>?_⟩
  simp only [List.mem_singleton] at hb
  subst hb
  rintro rfl
  exact h1 (List.any_eq_true.mpr ⟨a,ha,by simp⟩)
theorem QR (val:Nat→Int):∀ i,(firstMet val i).Nodup
 | 0=>by rw [firstMet_zero];exact List.nodup_nil
 | i+1=>by rw [firstMet_succ];exact xP (QR val i)
theorem Zd (ns:List Int):∀ i,i≤ns.length→((firstMet (fun i=>ns.getD i 0) i).length=i↔(ns.take i).Nodup):=by
 intro i hi
 induction i with
 | zero=>simp [firstMet_zero]
 | succ i ih=>
  have ih:=ih (by omega)
  have hle:=firstMet_length_le (fun i=>ns.getD i 0) i
  have hx:ns[i]? = some (ns.getD i 0):=by
   rw [List.getD_eq_getElem?_getD,List.getElem?_eq_getElem (by omega)]
   rfl
  have ht:ns.take (i+1)=ns.take i++[ns.getD i 0]:=by
   rw [List.take_add_one,hx]
   rfl
  have hm:(firstMet (fun i=>ns.getD i 0) i).any (· == ns.getD i 0)=true↔ns.getD i 0∈ns.take i:=by
   rw [firstMet_any,List.any_eq_true]
   constructor
   ·rintro ⟨x,hx1,hx2⟩
    obtain ⟨j,hj,rfl⟩:=List.mem_map.mp hx1
    have hj':=List.mem_range.mp hj
    have e:ns.getD j 0=ns.getD i 0:=by simpa using hx2
    rw [← e]
    have h2:(ns.take i)[j]? = some (ns.getD j 0):=by
     rw [List.getElem?_take_of_lt hj',List.getD_eq_getElem?_getD,List.getElem?_eq_getElem (by omega)]
     rfl
    exact List.mem_of_getElem? h2
   ·intro hx1
    obtain ⟨j,hj⟩:=List.mem_iff_getElem?.mp hx1
    have hj':j<i:=by
     have:=(List.getElem?_eq_some_iff.mp hj).1
     rw [List.length_take] at this
     omega
    refine ⟨ns.getD i 0,List.mem_map.mpr ⟨j,List.mem_range.mpr hj',?_⟩,by simp⟩
    rw [List.getElem?_take_of_lt hj'] at hj
    show ns.getD j 0=_
    rw [List.getD_eq_getElem?_getD,hj]
    rfl
  rw [firstMet_succ,ht,List.nodup_append]
  unfold step_dedup
  by_cases q:(firstMet (fun i=>ns.getD i 0) i).any (· == ns.getD i 0)=true
  ·rw [if_pos q]
   refine ⟨fun h=>by omega,fun h=>?_⟩
   exact absurd rfl (h.2.2 _ (hm.mp q) _ (List.mem_singleton.mpr rfl))
  ·rw [if_neg q,List.length_append,List.length_singleton]
   constructor
   ·intro h
    refine ⟨ih.mp (by omega),by simp,fun a ha b hb=>?_⟩
    simp only [List.mem_singleton] at hb
    subst hb
    rintro rfl
    exact q (hm.mpr ha)
   ·intro h
    have:=ih.mpr h.1
    omega
theorem ints_are {ns:List Int} {its:List Value} (r:Vals (ns.map V.int) its):IntsAre its ns:=by
 induction ns generalizing its with
 | nil=>cases r;first | exact .nil | rfl | trivial
 | cons n ns ih=>
  cases r with
  | cons a t=>
   obtain ⟨tk,rfl⟩:=a
   first | exact .cons (ih t) | exact ⟨⟨_,rfl⟩,ih t⟩ | exact .cons _ _ (ih t) | exact .cons ⟨_,rfl⟩ (ih t) | exact ⟨rfl,ih t⟩
def tLenSet (K:PySem.W.Frag) (te:TE):TE:=fun σ H Q=>te σ H fun x H1=>∃ (a:Addr) (ns:List Int),x = .ref a∧SqL K H1 a (ns.map V.int)∧ns.length≤1000∧∀ m:Nat,m≤ns.length→(m=ns.length↔ns.Nodup)→Q (.int (m:Int)) H1
theorem YW {K:PySem.W.Frag} (hK:X.K=K) (hh:X.A.handled=none) {e:Expr} {te:TE} {p p2 pos pos2:Pos} (hg:Gl X "len") (hm:X.mg "len" = none) (hg2:Gl X "set") (hm2:X.mg "set" = none) (he:PE X e te) (hs:starEach [e] X.env=[(false,eval e X.env)]:=by rfl):PE X (.Call (.Name "len" p) [.Call (.Name "set" p2) [e] [] pos2] [] pos) (tLenSet K te):=by
 subst hK
 intro pins s σ H Q I h
 refine wpAny_Call_Name_kw (ww I hg hm zQ ?_)
 refine PyProof.Rows.callWith_builtin1 (Calls.spliced_cons ?_) rfl rfl
 refine wpAny_Call_Name_kw (ww I hg2 hm2 bt_set ?_)
 refine PyProof.Rows.callWith_type1 ?_ (by rw [hs];rfl) rfl
 rw [hs]
 refine Calls.spliced_cons (thn (he pins s σ H _ I h) fun u s1 ⟨x,H1,I1,r1,a,ns,ex,hq,hz1,q⟩=>Calls.spliced_nil ?_)
 subst ex
 obtain rfl:u=Value.ref a:=r1
 obtain ⟨its,r,pl,hz⟩:=I1.list hq
 have hlen:=r.length
 rw [List.length_map] at hlen
 refine PySem.call_set_list (ns:=ns) hh pl.isList (by simpa using ints_are r) (by rw [List.size_toArray];unfold scanBound;omega) fun h' tk hS hk=>?_
 refine Calls.spliced_nil ?_
 obtain ⟨o,es,ep,t,ho,hex,hd,_,_,hsc,hf,hn⟩:=hS
 have hle:=firstMet_length_le (fun i=>ns.getD i 0) its.toArray.size
 have hsz:its.toArray.size=ns.length:=by rw [List.size_toArray];omega
 refine call_len_set ho hex hd hf (by rw [hn];omega) ?_
 have I2:=I1.kept (h':=h') (t':=tk+1+1) fun b u e=>hk b u (Heap.lt_size e) e
 refine ⟨.int (es.size:Int),H1,I2,⟨_,rfl⟩,q _ (by omega) ?_⟩
 rw [hn,hsz]
 have h9:=Zd ns ns.length (Nat.le_refl _)
 rw [List.take_length] at h9
 exact h9
end
theorem xK:bootBuiltins "sum" = some (.builtin "sum"):=by decide +kernel
theorem xL:bootBuiltins "min" = some (.builtin "min"):=by decide +kernel
theorem bt_any:bootBuiltins "any" = some (.builtin "any"):=by decide +kernel
theorem W3:bootBuiltins "all" = some (.builtin "all"):=by decide +kernel
def nst:Expr→Bool
 | .Starred _ _=>false
 | _=>true
theorem wA {e:Expr} {es:List Expr} {env:Env} (h:nst e=true):starEach (e :: es) env=(false,eval e env) :: starEach es env:=by
 cases e with
 | Starred _ _=>exact absurd (show false=true from h) Bool.false_ne_true
 | _=>rfl
section
variable {X:Cx}
theorem zc {e:Expr} {es:List Expr} {te:TE} {t:TA} (ha:PE X e te) (hr:PA X es t) (h:nst e=true:=by rfl):PA X (e :: es) (tCons te t):=pa_cons ha hr (wA h)
def MD (K:PySem.W.Frag) (d:Addr) (l:List (Int × V)):Prop:=(d == sysModules)=false∧(l.map (·.1)).Nodup∧∃ es ep,K.lookup d=some ⟨.type "dict",none,.dict es ep,#[]⟩ ∧
 Paired (fun (p:Int × V) (e:DictEntry)=>(∃ t,e.key = .int p.1 t)∧e.hash=hashInt p.1∧RelV p.2 e.val) l es.toList
def keyL (l:List (Int × V)):List (Key × V):=l.map fun p=>(Sum.inl p.1,p.2)
theorem QF {P:Program} {w:World}:∀ {l:List (Int × V)} {es:List DictEntry},Paired (fun (p:Int × V) (e:DictEntry)=>(∃ t,e.key = .int p.1 t)∧e.hash=hashInt p.1∧RelV p.2 e.val) l es →
  ∃ vs:List (Key × Value),KV (keyL l) vs∧Pairs (mixKind P w) es vs∧vs.map (·.1)=(l.map (·.1)).map Sum.inl
 | _,_,.nil=>⟨[],.nil,.nil,rfl⟩
 | p :: l,e :: es,.cons r t=>by
  obtain ⟨vs,h1,h2,h3⟩:=QF (P:=P) (w:=w) t
  obtain ⟨⟨tk,hk⟩,_,hv⟩:=r
  refine ⟨(Sum.inl p.1,e.val) :: vs,.cons ⟨rfl,hv⟩ h1,.cons ?_ rfl h2,by simp [h3]⟩
  show keyIs (Sum.inl p.1) e.key=true
  rw [hk]
  show Value.isInt p.1 (.int p.1 tk)=true
  simp [Value.isInt]
theorem Yg {P:Program} {w:World}:∀ {l:List (Int × V)} {es:List DictEntry},Paired (fun (p:Int × V) (e:DictEntry)=>(∃ t,e.key = .int p.1 t)∧e.hash=hashInt p.1∧RelV p.2 e.val) l es →
  ∀ e∈es,∃ k,(mixKind P w).is k e.key=true∧e.hash=(mixKind P w).hash k
 | _,_,.nil,e,he=>by cases he
 | p :: l,e :: es,.cons r t,e',he=>by
  rcases List.mem_cons.mp he with rfl | he
  ·obtain ⟨⟨tk,hk⟩,hh,_⟩:=r
   refine ⟨Sum.inl p.1,?_,hh⟩
   show keyIs (Sum.inl p.1) e'.key=true
   rw [hk]
   show Value.isInt p.1 (.int p.1 tk)=true
   simp [Value.isInt]
  ·exact Yg t e' he
theorem nd_inl:∀ {l:List Int},l.Nodup→(l.map (Sum.inl:Int→Key)).Nodup
 | [],_=>List.nodup_nil
 | a :: l,h=>by
  obtain ⟨h1,h2⟩:=List.nodup_cons.mp h
  refine List.nodup_cons.mpr ⟨fun m=>?_,nd_inl h2⟩
  obtain ⟨x,hx,e⟩:=List.mem_map.mp m
  cases e
  exact h1 hx
theorem MD.dict {P:Program} {w:World} {K:PySem.W.Frag} {h:Heap} {d:Addr} {l:List (Int × V)} (m:MD K d l) (k:K.In h):∃ vs,KV (keyL l) vs∧h.DictOf (mixKind P w) d vs:=by
 obtain ⟨_,nd,es,ep,lk,pr⟩:=m
 obtain ⟨vs,h1,h2,h3⟩:=QF (P:=P) (w:=w) pr
 refine ⟨vs,h1,_,es,ep,k _ _ lk,⟨rfl,rfl,rfl⟩,rfl,fun e he=>Yg pr e (by simpa using he),h2,?_⟩
 rw [h3]
 exact nd_inl nd
theorem yS:∀ (l:List (Int × V)) (k:Int),valV (keyL l) (Sum.inl k:Key)=l.lookup k
 | [],k=>rfl
 | p :: l,k=>by
  have ih:=yS l k
  unfold valV at ih ⊢
  show (((Sum.inl p.1,p.2) :: keyL l).find? fun kv=>decide (kv.1=Sum.inl k)).map (·.2)=((p.1,p.2) :: l).lookup k
  rw [List.find?_cons,List.lookup_cons]
  by_cases e:p.1=k
  ·subst e;simp
  ·have e1:decide ((Sum.inl p.1:Key)=Sum.inl k)=false:=decide_eq_false fun q=>e (Sum.inl.inj q)
   have e2:(k == p.1)=false:=beq_eq_false_iff_ne.mpr fun q=>e q.symm
   simp only [e1,e2]
   exact ih
def tMDGet (K:PySem.W.Frag) (td ty:TE):TE:=fun σ H Q=>td σ H fun x H1=>ty σ H1 fun y H2=>∃ d l k v,x = .ref d∧y = .int k∧MD K d l∧l.lookup k=some v∧Q v H2
def tMDIn (K:PySem.W.Frag) (ty td:TE):TE:=fun σ H Q=>ty σ H fun y H1=>td σ H1 fun x H2=>∃ d l k,x = .ref d∧y = .int k∧MD K d l∧Q (.bl (l.lookup k).isSome) H2
def tMDNotIn (K:PySem.W.Frag) (ty td:TE):TE:=fun σ H Q=>ty σ H fun y H1=>td σ H1 fun x H2=>∃ d l k,x = .ref d∧y = .int k∧MD K d l∧Q (.bl (!(l.lookup k).isSome)) H2
variable {o i:Expr} {pos:Pos} {td ty:TE}
theorem xg {K:PySem.W.Frag} (hK:X.K=K) (hu:X.A.units+1<cLine) (ho:PE X o td) (hi:PE X i ty) (hs:NoSl i):PE X (.Subscript o i pos) (tMDGet K td ty):=by
 subst hK
 intro pins s σ H Q I h
 refine subD_of PySem.F.slot_dict_getitem.lookup hs (thn (ho pins s σ H _ I h) fun u s1 ⟨x,H1,I1,rx,q1⟩=>thn (hi pins s1 σ H1 _ I1 q1) fun iv s2 ⟨y,H2,I2,ry,d,l,k,v,ex,ey,m,lk,q2⟩=>?_)
 subst ex ey
 obtain rfl:u=Value.ref d:=rx
 obtain ⟨vs,rel,dd⟩:=m.dict (P:=X.prog) (w:=X.w) I2.kIn
 obtain ⟨w',hw,rw'⟩:=RelO.some_of (v:=v) (o:=valueAt vs (Sum.inl k)) (by rw [← lk,← yS];exact rel.val (Sum.inl k))
 exact ⟨dd.typeIs,wpAny_getItem_of (kV_is (k:=Sum.inl k) ry) dd.mapOf hw ⟨v,H2,I2.tok _,rw',q2⟩⟩
theorem pc_mdin {K:PySem.W.Frag} (hK:X.K=K) (hu:X.A.units+1<cLine) (hi:PE X i ty) (ho:PE X o td):PC X .In i o (tMDIn K ty td):=by
 subst hK
 intro pins s σ H Q I h
 refine thn (hi pins s σ H _ I h) fun iv s1 ⟨y,H1,I1,ry,q1⟩=>thn (ho pins s1 σ H1 _ I1 q1) fun u s2 ⟨x,H2,I2,rx,d,l,k,ex,ey,m,q2⟩=>?_
 subst ex ey
 obtain rfl:u=Value.ref d:=rx
 obtain ⟨vs,rel,dd⟩:=m.dict (P:=X.prog) (w:=X.w) I2.kIn
 refine wpAny_in_of (kV_is (k:=Sum.inl k) ry) m.1 dd.mapOf ?_
 rw [← (rel.val (Sum.inl k)).isSome_eq,yS]
 exact ⟨.bl _,H2,I2.tok _,rfl,q2⟩
theorem WE {K:PySem.W.Frag} (hK:X.K=K) (hu:X.A.units+1<cLine) (hi:PE X i ty) (ho:PE X o td):PC X .NotIn i o (tMDNotIn K ty td):=by
 subst hK
 intro pins s σ H Q I h
 refine thn (hi pins s σ H _ I h) fun iv s1 ⟨y,H1,I1,ry,q1⟩=>thn (ho pins s1 σ H1 _ I1 q1) fun u s2 ⟨x,H2,I2,rx,d,l,k,ex,ey,m,q2⟩=>?_
 subst ex ey
 obtain rfl:u=Value.ref d:=rx
 obtain ⟨vs,rel,dd⟩:=m.dict (P:=X.prog) (w:=X.w) I2.kIn
 refine wpAny_notIn_of (kV_is (k:=Sum.inl k) ry) m.1 dd.mapOf ?_
 rw [← (rel.val (Sum.inl k)).isSome_eq,yS]
 exact ⟨.bl _,H2,I2.tok _,rfl,q2⟩
theorem wv (l:Addr) (items:Array Value) (n:Nat) (b:Addr) (items2:Array Value) (n2:Nat) (dc:Option Addr) (sl:Array (Option Value)) (hs0:¬(!items.isEmpty&&Builtin.List.listTooLong (items.size+items2.size))=true) (hs1:items.size≤sizeLine) (hs2:items.size+items2.size≤sizeLine+1) :
  Meets (Builtin.«list.extend» ⟨[.ref l,.ref b],[]⟩) (fun _ R s=>s.heap.get? l=some { cls:=.type "list",dict:=none,data:=.seq items n,slots:=#[] }∧s.heap.get? b=some { cls:=.type "tuple",dict:=dc,data:=.seq items2 n2,slots:=sl }∧R (.ok (.ret Value.none)) { s with heap:=s.heap.update l (Obj.mapSeq fun x=>x++items2),toks:=s.toks }):=
 .of_wp fun prog w A R s h=>by
  obtain ⟨hp,g,d,tk,os⟩:=s;obtain ⟨hl,hb,h⟩:=h;have f1:=PySem.AutoSeq1.idx_int;have f2:=PySem.AutoSeq1.sub_tuple_tuple;have f3:=PySem.AutoSeq1.sub_list_list;have f4:=PySem.AutoSeq1.sub_tuple_list;have f5:=PySem.AutoSeq1.sub_list_tuple;
  have hz':(items++items2).size≤sizeLine+1:=by rw [Array.size_append];exact hs2
  wp_walk using (wpAny_updateSeq hl rfl (hz:=hs1) (_hz':=hz')),PySem.AutoSeq1.wpAny_loadPart' hl,PySem.AutoSeq1.wpAny_loadPart' hb;exact ⟨_,rfl,h⟩
def rExtend2:V→List V→Hp→VK→Prop:=fun x vs H Q=>∃ l b xs zs,x = .ref l∧vs=[.ref b]∧H l=some (.lst xs)∧(H b=some (.lst zs)∨H b=some (.tup zs))∧xs.length+zs.length≤sizeLine∧Q .non (upd H l (.lst (xs++zs)))
theorem WL:MtM X "list.extend" rExtend2:=by
 intro pins s σ H x vs v us Q I rx rv h
 obtain ⟨l,b,xs,zs,rfl,rfl,hH,hB,hz,q⟩:=h
 rcases hB with hB | hB
 ·exact Y2 pins s σ H _ _ v us Q I rx rv ⟨l,b,xs,zs,rfl,rfl,hH,hB,hz,q⟩
 ·cases rx
  obtain ⟨u,rfl,ru⟩:=rv.one
  cases ru
  obtain ⟨z,its,n,r,hl,e⟩:=I.lstM hH
  obtain ⟨z2,its2,r2,⟨c2,dc2,dd2,sl2⟩,e2,hc2,n2,d2⟩:=I.hok b _ hB
  cases (show c2=_ from hc2)
  cases (show dd2=_ from d2)
  have hl2:=r2.length
  have hsz:its.toArray.size+its2.toArray.size≤sizeLine:=by rw [List.size_toArray,List.size_toArray];omega
  have hlong:¬ (!its.toArray.isEmpty&&Builtin.List.listTooLong (its.toArray.size+its2.toArray.size))=true:=by
   rw [notLongL hsz,Bool.and_false]
   exact Bool.false_ne_true
  refine call_meets F.slot_list_extend ⟨_,e,rfl⟩ F.entry_list_extend (F.args_list_extend_2 _ _)
   (wv l its.toArray n b its2.toArray n2 dc2 sl2 hlong (by rw [List.size_toArray];omega) (by omega)) ⟨e,e2,?_⟩
  refine ⟨.non,_,I.lset (its':=its++its2) hH e (by simp) (r.append r2) ?_,rfl,q⟩
  rw [List.length_append]
  omega
theorem zd {K:PySem.W.Frag} (hK:X.K=K) {e:Expr} {f:Str} {pos:Pos} {ta:TE} (he:PE X e ta) (hb:attributeBase e f X.env (eval e X.env)=eval e X.env):PE X (.Attribute e f pos) (tFld K ta f):=hK ▸ pe_fld he hb
theorem zC {K:PySem.W.Frag} (hK:X.K=K) {o value:Expr} {f:Str} {pos pos':Pos} {ta tv:TE} (ha:PE X o ta) (hv:PE X value tv) (hs:swapsWith value (some (.Attribute o f pos')) pos.line X.env=pure false):PS X (.Assign [.Attribute o f pos'] value pos) (sFld K ta tv f):=hK ▸ ps_fld ha hv hs
theorem zk {K:PySem.W.Frag} (hK:X.K=K):IxR X (rIxL K):=hK ▸ ix_list
theorem yh {K:PySem.W.Frag} (hK:X.K=K):IxR X (rIxT K):=hK ▸ ix_tup
theorem Qe {K:PySem.W.Frag} (hK:X.K=K):SlR X (rSlL K):=hK ▸ sl_list
theorem js {K:PySem.W.Frag} (hK:X.K=K) {es:List Expr} {k:Nat} {pos:Pos} {t:TGs} {n:Nat} (hc:X.calm=true) (h:PGs X es t) (hn:(assignEach es X.env).length=n:=by rfl) (hst:(assignEach es X.env).findIdx? (·.1)=none:=by rfl):PG X (.Tuple es k pos) (gTup K n t):=hK ▸ pg_tup hc h hn hst
theorem zL {K:PySem.W.Frag} (hK:X.K=K) {tg l:Expr} {tl:TE} (hl:PE X l tl):PI X tg l (iList K tl):=hK ▸ pi_list hl
theorem xf {K:PySem.W.Frag} (hK:X.K=K) {e:Expr} {ta:TA} {p pos tpos:Pos} {elts:List Expr} {kk:Nat} (hg:Gl X "enumerate") (hm:X.mg "enumerate" = none) (ha:PA X [e] ta) (hs:starEach [e] X.env=[(false,eval e X.env)]:=by rfl):PI X (.Tuple elts kk tpos) (.Call (.Name "enumerate" p) [e] [] pos) (iEnum K ta):=hK ▸ pi_enum hg hm ha hs
theorem pi_zipK {K:PySem.W.Frag} (hK:X.K=K) {e e2:Expr} {ta:TA} {p pos tpos:Pos} {elts:List Expr} {kk:Nat} (hg:Gl X "zip") (hm:X.mg "zip" = none) (ha:PA X [e,e2] ta) (hs:starEach [e,e2] X.env=(false,eval e X.env) :: starEach [e2] X.env:=by rfl) (hpl:(backTo pos (starEach [e2] X.env)).any (·.1)=false:=by rfl):PI X (.Tuple elts kk tpos) (.Call (.Name "zip" p) [e,e2] [] pos) (iZip K ta):=hK ▸ pi_zip hg hm ha hs hpl
theorem Jo {K:PySem.W.Frag} (hK:X.K=K) {tg e:Expr} {ta:TA} {p pos:Pos} (hg:Gl X "reversed") (hm:X.mg "reversed" = none) (ha:PA X [e] ta) (hs:starEach [e] X.env=[(false,eval e X.env)]:=by rfl):PI X tg (.Call (.Name "reversed" p) [e] [] pos) (iRev K ta):=hK ▸ Qs hg hm ha hs
theorem zo {K:PySem.W.Frag} (hK:X.K=K):CallR X (.builtin "len") (fun xs H Q=>∃ p ys,xs=[.ref p]∧(SqL K H p ys∨SqT K H p ys)∧Q (.int ys.length) H):=hK ▸ JJ
theorem km {K:PySem.W.Frag} (hK:X.K=K) (hc:X.calm=true):CallR X (.builtin "sum") (rSum K):=hK ▸ cr_sum hc
theorem cr_minK {K:PySem.W.Frag} (hK:X.K=K) (hc:X.calm=true):CallR X (.builtin "min") (rMin K):=hK ▸ cr_min hc
theorem Yy {K:PySem.W.Frag} (hK:X.K=K) (hc:X.calm=true):CallR X (.builtin "any") (rAny K):=hK ▸ cr_any hc
theorem JG {K:PySem.W.Frag} (hK:X.K=K) (hc:X.calm=true):CallR X (.builtin "all") (rAll K):=hK ▸ cr_all hc
theorem WF {K:PySem.W.Frag} (hK:X.K=K):OpR X (compareOp .In) (rIn K false):=hK ▸ YY
def tMt (K:PySem.W.Frag) (r:V→List V→Hp→VK→Prop) (to te:TE):TE:=fun σ H Q=>to σ H fun x H1=>tyV K "list" x H1∧te σ H1 fun y H2=>r x [y] H2 Q
theorem qb {K:PySem.W.Frag} (hK:X.K=K) {o e:Expr} {to te:TE} {apos cpos:Pos} (ho:PE X o to) (he:PE X e te) (hn:nst e=true:=by rfl)
  (hbase:attributeBase o "append" X.env (eval o X.env)=eval o X.env:=by rfl) (hline:(apos.endLine == cpos.line)=true:=by rfl):PE X (.Call (.Attribute o "append" apos) [e] [] cpos) (tMt K rAppend to te):=by
 subst hK
 exact pe_bm PySem.F.plainAttrs_list PySem.F.slot_list_append PySem.F.type_list_append Y3 ho (zc he zb hn) hbase (by rw [wA hn];rfl) hline (wA hn) rfl
theorem WD {K:PySem.W.Frag} (hK:X.K=K) {o e:Expr} {to te:TE} {apos cpos:Pos} (ho:PE X o to) (he:PE X e te) (hn:nst e=true:=by rfl)
  (hbase:attributeBase o "extend" X.env (eval o X.env)=eval o X.env:=by rfl) (hline:(apos.endLine == cpos.line)=true:=by rfl):PE X (.Call (.Attribute o "extend" apos) [e] [] cpos) (tMt K rExtend2 to te):=by
 subst hK
 exact pe_bm PySem.F.plainAttrs_list PySem.F.slot_list_extend PySem.F.type_list_extend WL ho (zc he zb hn) hbase (by rw [wA hn];rfl) hline (wA hn) rfl
end
end BM
end
section
namespace BM
open PySem PySem.Spec L2
open PyProof.Rows hiding St
open Vbwsao (Good Recipe Bag Machine State)
theorem zZ {α:Type}:∀ {l:List α} {i:Nat} {x:α},l[i]? = some x→l.take (i+1)=l.take i++[x]
 | [],i,x,h=>by simp at h
 | a :: l,0,x,h=>by
  have e:a=x:=Option.some.inj h
  subst e
  rfl
 | a :: l,i+1,x,h=>by
  have ih:=zZ (l:=l) (i:=i) (x:=x) h
  show a :: l.take (i+1)=a :: l.take i++[x]
  rw [ih]
  rfl
theorem zT {α:Type} {l:List α} {i:Nat} {x:α} (h:l[i]? = some x):i<l.length:=(List.getElem?_eq_some_iff.mp h).1
theorem jY {K:PySem.W.Frag} {i j:Nat} {a:Addr} {u v:V} {σ:St} {H:Hp} {Q:St→Hp→Prop} (h:H a=some (.tup [u,v])) (q:Q ((σ.set i (some u)).set j (some v)) H):gTup K 2 (gCons (gName i) (gCons (gName j) gNil)) (.ref a) σ H Q:=
 ⟨a,_,rfl,SqT.of h,rfl,u,[v],rfl,v,[],rfl,rfl,q⟩
theorem xC {K:PySem.W.Frag} {i j k:Nat} {a:Addr} {u v w:V} {σ:St} {H:Hp} {Q:St→Hp→Prop} (h:H a=some (.tup [u,v,w])) (q:Q (((σ.set i (some u)).set j (some v)).set k (some w)) H):gTup K 3 (gCons (gName i) (gCons (gName j) (gCons (gName k) gNil))) (.ref a) σ H Q:=
 ⟨a,_,rfl,SqT.of h,rfl,u,[v,w],rfl,v,[w],rfl,w,[],rfl,rfl,q⟩
theorem JA {α:Type} {K:PySem.W.Frag} {g:TG} {tt:TT} {te:TE} {vs:List Nat} {σ:St} {H:Hp} {l:Addr} {items:List V} {xs:List α} {Q:Addr→Hp→Prop} (It:Hp→α→V→Prop) (p:α→Bool) (f:α→V) (hl:SqL K H l items) (hlen:items.length=xs.length) (hz:xs.length<sizeLine)
  (hit:∀ (i:Nat) v x,items[i]? = some v→xs[i]? = some x→It H x v) (mono:∀ H1 x v,Same H H1→It H x v→It H1 x v)
  (hs:∀ x v H1 (N1:VK) (N2:Hp→Prop),x∈xs→Same H H1→It H1 x v→(p x=true→∀ H2,Same H1 H2→N1 (f x) H2)→(p x=false→∀ H2,Same H1 H2→N2 H2) →
   g v (wipe σ vs) H1 fun σ2 H2=>wipe σ2 vs=wipe σ vs∧tt σ2 H2 fun b H3=>if b=true then te σ2 H3 N1 else N2 H3)
  (q:∀ D H',Same H H'→H D=none→H' D=some (.lst ((xs.filter p).map f))→Q D H') :
  ∀ D,H D=none→∃ W:Nat→Nat→Hp→Prop,(∃ m,W 0 m (L2.upd H D (.lst [])))∧∀ i m H,W i m H →
   ((Itl K l).stop i H∧Q D H)∨((Itl K l).go i H∧∃ Nx:Hp→Prop,(∀ H',Nx H'→∃ m',m' < m∧W (i+1) m' H')∧∀ x H',(Itl K l).yld i H x H'→g x (wipe σ vs) H' fun σ2 H2=>wipe σ2 vs=wipe σ vs∧tt σ2 H2 fun b H3=>
    if b=true then te σ2 H3 fun y H4=>∃ acc,H4 D=some (.lst acc)∧acc.length<sizeLine∧Nx (L2.upd H4 D (.lst (acc++[y]))) else Nx H3):=by
 intro D hD
 refine lc_list (K:=K) (a:=l) (xs:=items) (fun i H'=>Same H H'∧H' D=some (.lst (((xs.take i).filter p).map f))) ⟨zM hD,by rw [zf];rfl⟩ (fun i H' _ h=>h.1.seq hl) ?_ ?_
 ·rintro i v H1 hv ⟨s1,hD1⟩
  obtain ⟨x,hx⟩:=jo hlen hv
  have hlt:=zT hx
  have hle:(((xs.take i).filter p).map f).length<sizeLine:=by
   have:=List.length_filter_le p (xs.take i)
   rw [List.length_map]
   rw [List.length_take] at this
   omega
  refine hs x v H1 _ _ (List.mem_of_getElem? hx) s1 (mono _ _ _ s1 (hit i v x hv hx)) (fun hp H2 s2=>?_) (fun hp H2 s2=>?_)
  ·refine ⟨_,s2 _ _ hD1,hle,jL (s1.trans s2) hD,?_⟩
   rw [zf,zZ hx,List.filter_append,List.map_append,List.filter_cons,if_pos hp]
   rfl
  ·refine ⟨s1.trans s2,?_⟩
   rw [s2 _ _ hD1,zZ hx,List.filter_append,List.filter_cons,if_neg (by rw [hp];exact Bool.false_ne_true),List.filter_nil,List.append_nil]
 ·rintro H' ⟨s1,hD1⟩
  rw [hlen,List.take_length] at hD1
  exact q D H' s1 hD hD1
theorem lc_prs {K:PySem.W.Frag} {g:TG} {tt:TT} {te:TE} {vs:List Nat} {σ:St} {H:Hp} {l:Addr} {xs:List (Nat × Nat)} {Q:Addr→Hp→Prop} (p:Nat × Nat→Bool) (f:Nat × Nat→V) (hl:PrsAt H l xs) (hz:xs.length<sizeLine)
  (hs:∀ x a H1 (N1:VK) (N2:Hp→Prop),x∈xs→Same H H1→PrAt H1 a x→(p x=true→∀ H2,Same H1 H2→N1 (f x) H2)→(p x=false→∀ H2,Same H1 H2→N2 H2) →
   g (.ref a) (wipe σ vs) H1 fun σ2 H2=>wipe σ2 vs=wipe σ vs∧tt σ2 H2 fun b H3=>if b=true then te σ2 H3 N1 else N2 H3)
  (q:∀ D H',Same H H'→H D=none→H' D=some (.lst ((xs.filter p).map f))→Q D H') :
  (∃ xs,SqL K H l xs)∧∀ D,H D=none→∃ W:Nat→Nat→Hp→Prop,(∃ m,W 0 m (L2.upd H D (.lst [])))∧∀ i m H,W i m H →
   ((Itl K l).stop i H∧Q D H)∨((Itl K l).go i H∧∃ Nx:Hp→Prop,(∀ H',Nx H'→∃ m',m' < m∧W (i+1) m' H')∧∀ x H',(Itl K l).yld i H x H'→g x (wipe σ vs) H' fun σ2 H2=>wipe σ2 vs=wipe σ vs∧tt σ2 H2 fun b H3=>
    if b=true then te σ2 H3 fun y H4=>∃ acc,H4 D=some (.lst acc)∧acc.length<sizeLine∧Nx (L2.upd H4 D (.lst (acc++[y]))) else Nx H3):=by
 obtain ⟨as,h1,h2,h3⟩:=hl
 refine ⟨⟨_,SqL.of h1⟩,JA (fun H x v=>∃ a,v = .ref a∧PrAt H a x) p f (SqL.of h1) (by rw [List.length_map];exact h2) hz (fun i v x hv hx=>?_) (fun H1 x v s1 ⟨a,e,h⟩=>⟨a,e,s1 _ _ h⟩) ?_ q⟩
 ·rw [List.getElem?_map] at hv
  obtain ⟨a,ha,rfl⟩:=Option.map_eq_some_iff.mp hv
  exact ⟨a,rfl,h3 i a x ha hx⟩
 ·rintro x v H1 N1 N2 hx s1 ⟨a,rfl,h⟩ k1 k2
  exact hs x a H1 N1 N2 hx s1 h k1 k2
theorem uB {K:PySem.W.Frag} {l:Addr} {xs:List (Nat × Nat)} {g:TG} {tb:TS} {D:Ends} {σ:St} {H:Hp} (Pv:Nat→St→Hp→Prop) (hl:PrsAt H l xs) (h0:Pv 0 σ H) (hk:∀ i σ' H',Pv i σ' H'→PrsAt H l xs→∀ as,LsAt H l as xs (PrAt H)→LsAt H' l as xs (PrAt H'))
  (hs:∀ (i:Nat) x a σ H,xs[i]? = some x→PrAt H a x→Pv i σ H→g (.ref a) σ H fun σ2 H2=>tb { D with nx:=Pv (i+1),ct:=Pv (i+1),bk:=D.nx } σ2 H2) (hd:∀ σ H,Pv xs.length σ H→D.nx σ H) :
  (∃ xs,SqL K H l xs)∧∃ W:Nat→Nat→St→Hp→Prop,(∃ m,W 0 m σ H)∧∀ i m σ H,W i m σ H →
   ((Itl K l).stop i H∧D.nx σ H)∨((Itl K l).go i H∧∃ N:St→Hp→Prop,(∀ σ' H',N σ' H'→∃ m',m' < m∧W (i+1) m' σ' H')∧∀ x H',(Itl K l).yld i H x H'→g x σ H' fun σ2 H2=>tb { D with nx:=N,ct:=N,bk:=D.nx } σ2 H2):=by
 have hl0:=hl
 obtain ⟨as,hq⟩:=hl
 refine ⟨⟨_,SqL.of hq.1⟩,wO (K:=K) (a:=l) (xs:=as.map V.ref) (fun i σ' H'=>Pv i σ' H') h0 (fun i σ' H' _ p=>SqL.of (hk i σ' H' p hl0 as hq).1) ?_ ?_⟩
 ·intro i v σ' H' hv p
  rw [List.getElem?_map] at hv
  obtain ⟨a,ha,rfl⟩:=Option.map_eq_some_iff.mp hv
  obtain ⟨x,hx⟩:=jo hq.2.1 ha
  exact hs i x a σ' H' hx ((hk i σ' H' p hl0 as hq).2.2 i a x ha hx) p
 ·intro σ' H' p
  rw [List.length_map,hq.2.1] at p
  exact hd σ' H' p
theorem zx {c p:Bool} {A B:Prop} (e:c=p) (h1:p=true→A) (h2:p=false→B):if c=true then A else B:=by
 subst e
 cases c with
 | true=>rw [if_pos rfl];exact h1 rfl
 | false=>rw [if_neg Bool.false_ne_true];exact h2 rfl
theorem qJ (a b:Nat):decide (V.int (a:Int)=V.int (b:Int))=(a == b):=by
 by_cases e:a=b
 ·subst e;simp
 ·have:¬ V.int (a:Int)=V.int (b:Int):=fun q=>by injection q with q;omega
  rw [decide_eq_false this]
  exact (beq_eq_false_iff_ne.mpr e).symm
theorem vP {α:Type} (f:α→Nat):∀ l:List α,((l.map f).sum:Int)=(l.map fun x=>(f x:Int)).sum
 | []=>rfl
 | a :: l=>by
  simp only [List.map_cons,List.sum_cons]
  rw [← vP f l]
  omega
theorem small {n m:Nat} (h:n≤m) (hm:m≤1000000:=by decide):n<sizeLine:=Nat.lt_of_le_of_lt (Nat.le_trans h hm) (by decide)
section
variable {P:Program} {w:World} {K:PySem.W.Frag} {mg:Str→Option Value} {base:Heap}
theorem q4:FnScope ["stacks","good","kept","many"] ["stacks","good"] (defScope vB):=⟨rfl,rfl,rfl,by decide +kernel,rfl,by decide +kernel,by decide +kernel⟩
def J9:Sp:=fun vs H Q _=>∃ (l:Addr) (xs:List (Nat × Nat)) (g:Nat),vs=[.ref l,.int (g:Int)]∧PrsAt H l xs∧xs.length≤1000∧∀ H',Same H H'→Q (.int (Vbwsao.countIn xs g:Int)) H'
theorem jJ (T:Prog K mg):FnOk P w K mg base CX0 1 T.count_in.f T.count_in.fd ["stacks","good"] J9:=by
 refine T.count_in.fn.ok q4 (fun vs H Q E h=>?_) (fun cdv A outer s H vs Q E hr h=>?_)
 ·obtain ⟨l,xs,g,rfl,_⟩:=h
  rfl
 ·obtain ⟨l,xs,g,rfl,hl,hz,k⟩:=h
  refine ⟨_,(ze (zm (zr (km (K:=K) rfl rfl) (by rfl) T.b_sum xK (zc (qT rfl q4.nd (zL (K:=K) rfl (pv 0)) (own:=[("kept",2),("many",3)]) (zW (by kernel_rfl)) (fun _ _ _ _ _=>(js (K:=K) (n:=2) rfl rfl (zF (zw (i:=2) q4.nd rfl (by first | exact Or.inl rfl | exact Or.inr rfl)) (zF (zw (i:=3) q4.nd rfl (by first | exact Or.inl rfl | exact Or.inr rfl)) jr)))) (fun _ _ _ _ _=>(yY (zq z8 (pv 2) (pv 1) (nomark _)))) (fun _ _ _ _ _=>(pv 3))) zb)))),?_⟩
  refine ⟨_,rfl,l,rfl,lc_prs (fun x=>x.1 == g) (fun x=>V.int (x.2:Int)) hl (small hz) ?_ ?_⟩
  ·rintro x a H1 N1 N2 hx s1 h k1 k2
   refine jY h ⟨rfl,_,rfl,_,rfl,rfl,_,rfl,zx (qJ _ _) (fun e=>⟨_,rfl,k1 e H1 (Same.refl _)⟩) (fun e=>k2 e H1 (Same.refl _))⟩
  ·intro D H' s1 hD hD'
   refine ⟨D,(xs.filter fun x=>x.1 == g).map fun x=>(x.2:Int),rfl,SqL.of (by rw [hD',List.map_map];rfl),?_⟩
   show Q _ _
   rw [← vP]
   exact k H' s1
end
end BM
end
section
namespace BM
open Vbwsao
theorem y8 (size g:Nat):∀ (l:List (Nat × Nat)) (n:Nat),(fill size g n l).1≤n
 | [],n=>Nat.le_refl n
 | (h,m) :: r,n=>by
  unfold fill
  split
  ·have:=y8 size g r (n - min n (size - m));show (fill size g (n - min n (size - m)) r).1≤n;omega
  ·exact y8 size g r n
theorem kX (size g:Nat) (h m:Nat):∀ (l:List (Nat × Nat)) (n:Nat),fill size g n (l++[(h,m)]) =
  if h=g then ((fill size g n l).1 - min (fill size g n l).1 (size - m),(fill size g n l).2++[(h,m+min (fill size g n l).1 (size - m))]) else ((fill size g n l).1,(fill size g n l).2++[(h,m)])
 | [],n=>by
  show fill size g n [(h,m)]=_
  by_cases e:h=g
  ·simp only [fill,if_pos e];rfl
  ·simp only [fill,if_neg e];rfl
 | (k,j) :: r,n=>by
  show fill size g n ((k,j) :: (r++[(h,m)]))=_
  by_cases e:k=g
  ·simp only [fill,if_pos e]
   rw [kX size g h m r]
   by_cases e2:h=g
   ·simp only [if_pos e2];rfl
   ·simp only [if_neg e2];rfl
  ·simp only [fill,if_neg e]
   rw [kX size g h m r]
   by_cases e2:h=g
   ·simp only [if_pos e2];rfl
   ·simp only [if_neg e2];rfl
theorem wP (size g:Nat):∀ (l:List (Nat × Nat)) (n:Nat),(fill size g n l).2.length=l.length
 | [],n=>rfl
 | (h,m) :: r,n=>by
  unfold fill
  split
  ·show (fill size g (n - min n (size - m)) r).2.length+1=r.length+1;rw [wP]
  ·show (fill size g n r).2.length+1=r.length+1;rw [wP]
theorem jK (size g:Nat):∀ f,newStacks size g f 0=[]
 | 0=>rfl
 | f+1=>rfl
theorem jQ (size g f n:Nat) (h:0<n):newStacks size g (f+1) n=(g,min size n) :: newStacks size g f (n - size):=by
 show (if n=0 then [] else _)=_
 rw [if_neg (by omega)]
theorem qk {g n h m:Nat} {r:List (Nat × Nat)} (e:¬ h=g):takeBack g n ((h,m) :: r)=(h,m) :: takeBack g n r:=by
 simp only [takeBack,if_neg e]
theorem ql {g n h m:Nat} {r:List (Nat × Nat)} (e:h=g):takeBack g n ((h,m) :: r)=(if m=min n m then [] else [(h,m - min n m)])++takeBack g (n - min n m) r:=by
 simp only [takeBack,if_pos e]
inductive ChS (bs:List Bag):Option Nat→List Nat→Prop
 | nil:ChS bs none []
 | cons {b:Nat} {x:Bag} {l:List Nat}:bs[b]? = some x→ChS bs x.inside l→ChS bs (some b) (b :: l)
theorem ChS.lt {bs:List Bag} {o:Option Nat} {l:List Nat} (h:ChS bs o l):∀ k∈l,k<bs.length:=by
 induction h with
 | nil=>intro k hk;cases hk
 | cons hb _ ih=>
  intro k hk
  rcases List.mem_cons.mp hk with rfl | hk
  ·exact (List.getElem?_eq_some_iff.mp hb).1
  ·exact ih k hk
end BM
end
section
namespace BM
open PySem PySem.Spec L2
open PyProof.Rows hiding St
open Vbwsao (Good Recipe Bag Machine State)
theorem wJ {H:Hp} {p t:Addr} {as:List Addr} {xs:List (Nat × Nat)} {x:Nat × Nat} (h:LsAt H p as xs (PrAt H)) (ht:H t=none) :
  LsAt (L2.upd (L2.upd H t (.tup [.int (x.1:Int),.int (x.2:Int)])) p (.lst (as.map V.ref++[.ref t]))) p (as++[t]) (xs++[x]) (PrAt (L2.upd (L2.upd H t (.tup [.int (x.1:Int),.int (x.2:Int)])) p (.lst (as.map V.ref++[.ref t])))):=by
 have np:p≠t:=zn h.1 ht
 refine ⟨by rw [zf,List.map_append];rfl,by simp [h.2.1],fun j a y ha hy=>?_⟩
 have nt:∀ b,b≠p→(L2.upd (L2.upd H t (.tup [.int (x.1:Int),.int (x.2:Int)])) p (.lst (as.map V.ref++[.ref t]))) b=(L2.upd H t (.tup [.int (x.1:Int),.int (x.2:Int)])) b:=fun b hb=>zl hb
 by_cases hj:j<as.length
 ·rw [List.getElem?_append_left hj] at ha
  rw [List.getElem?_append_left (by rw [← h.2.1];exact hj)] at hy
  have q:=h.2.2 j a y ha hy
  unfold PrAt at q ⊢
  rw [nt a (ne_of q h.1 (by intro z;cases z)),zl (zn q ht)]
  exact q
 ·have hj2:=zT ha
  have e:j=as.length:=by simp at hj2;omega
  subst e
  rw [List.getElem?_concat_length] at ha
  rw [h.2.1,List.getElem?_concat_length] at hy
  cases ha
  cases hy
  unfold PrAt
  rw [nt _ (Ne.symm np),zf]
theorem for_rev {K:PySem.W.Frag} {a:Addr} {xs:List V} {g:TG} {tb:TS} {D:Ends} {σ:St} {H:Hp} (Pv:Nat→St→Hp→Prop) (h0:Pv 0 σ H) (hl:∀ i σ H,i≤xs.length→Pv i σ H→SqL K H a xs)
  (hs:∀ (i:Nat) x σ H,xs.reverse[i]? = some x→Pv i σ H→g x σ H fun σ2 H2=>tb { D with nx:=Pv (i+1),ct:=Pv (i+1),bk:=D.nx } σ2 H2) (hd:∀ σ H,Pv xs.length σ H→D.nx σ H) :
  ∃ W:Nat→Nat→St→Hp→Prop,(∃ m,W 0 m σ H)∧∀ i m σ H,W i m σ H →
   ((Itv K a xs.length).stop i H∧D.nx σ H)∨((Itv K a xs.length).go i H∧∃ N:St→Hp→Prop,(∀ σ' H',N σ' H'→∃ m',m' < m∧W (i+1) m' σ' H')∧∀ x H',(Itv K a xs.length).yld i H x H'→g x σ H' fun σ2 H2=>tb { D with nx:=N,ct:=N,bk:=D.nx } σ2 H2):=by
 refine ⟨fun i m σ H=>m=xs.length - i∧i≤xs.length∧Pv i σ H,⟨xs.length,by simp,Nat.zero_le _,h0⟩,?_⟩
 rintro i m σ H ⟨rfl,hi,p⟩
 have q:=hl i σ H hi p
 by_cases hlt:i<xs.length
 ·refine .inr ⟨⟨hlt,xs,xs[xs.length - 1 - i],q,by rw [List.getElem?_eq_getElem]⟩,Pv (i+1),fun σ' H' p'=>⟨xs.length - (i+1),by omega,rfl,hlt,p'⟩,fun x H' y=>?_⟩
  obtain ⟨e,y⟩:=y
  subst e
  have y1:=y xs q
  refine hs i x σ _ ?_ p
  rw [List.getElem?_reverse hlt]
  exact y1
 ·have e:i=xs.length:=by omega
  subst e
  exact .inl ⟨Nat.le_refl _,hd σ H p⟩
theorem _root_.L2.Same.prs {H H0 H':Hp} {l:Addr} {xs:List (Nat × Nat)} (s:Same H H') (hl:PrsAt H l xs) (s0:Same H H0):PrsAt H0 l xs→∀ as,LsAt H0 l as xs (PrAt H0)→LsAt H' l as xs (PrAt H'):=by
 intro _ as hq
 obtain ⟨as',hq2⟩:=hl
 have e:as' = as:=by
  have h1:=s0 _ _ hq2.1
  rw [hq.1] at h1
  have h2:=congrArg (fun o=>match o with | some (HO.lst z)=>z | _=>[]) h1
  exact (List.map_inj_right (fun a b h=>by cases h;rfl)).mp h2.symm
 subst e
 exact hq2.imp (s _ _ hq2.1) fun a x h=>s _ _ h
theorem xt (i j:Int):(if j<i then j else i)=min i j:=by
 split <;> omega
theorem ZC {H:Hp} {p t:Addr} {as:List Addr} {xs:List (Nat × Nat)} {i size g n k2:Nat} {x:Nat × Nat} {z2:Int} (hx:xs[i]? = some x) (h:LsAt H p as (Vbwsao.fill size g n (xs.take i)).2 (PrAt H)) (ht:H t=none)
  (hk:(if x.1=g then min (Vbwsao.fill size g n (xs.take i)).1 (size - x.2) else 0)=k2) (hz:z2=((x.2+k2:Nat):Int)) :
  (∃ as',LsAt (L2.upd (L2.upd H t (.tup [.int (x.1:Int),.int z2])) p (.lst (as.map V.ref++[.ref t]))) p as' (Vbwsao.fill size g n (xs.take (i+1))).2 (PrAt (L2.upd (L2.upd H t (.tup [.int (x.1:Int),.int z2])) p (.lst (as.map V.ref++[.ref t]))))) ∧
   (Vbwsao.fill size g n (xs.take (i+1))).1=(Vbwsao.fill size g n (xs.take i)).1 - k2:=by
 subst hz
 have e1:xs.take (i+1)=xs.take i++[(x.1,x.2)]:=zZ hx
 have q:=wJ (x:=(x.1,x.2+k2)) h ht
 rw [e1,kX]
 by_cases e:x.1=g
 ·rw [if_pos e] at hk ⊢
  rw [hk]
  exact ⟨⟨_,q⟩,rfl⟩
 ·rw [if_neg e] at hk ⊢
  subst hk
  exact ⟨⟨_,q⟩,rfl⟩
section
variable {P:Program} {w:World} {K:PySem.W.Frag} {mg:Str→Option Value} {base:Heap}
theorem q0:FnScope ["stacks","good","size","kept","many"] ["stacks","good","size"] (defScope vq):=⟨rfl,rfl,rfl,by decide +kernel,rfl,by decide +kernel,by decide +kernel⟩
def spaceIn (xs:List (Nat × Nat)) (g size:Nat):Nat:=((xs.filter fun y=>y.1 == g).map fun y=>size - y.2).sum
def J3:Sp:=fun vs H Q _=>∃ (l:Addr) (xs:List (Nat × Nat)) (g size:Nat),vs=[.ref l,.int (g:Int),.int (size:Int)]∧PrsAt H l xs∧xs.length≤1000∧(∀ x∈xs,x.1=g→x.2≤size)∧∀ H',Same H H'→Q (.int (spaceIn xs g size:Int)) H'
theorem Qv (T:Prog K mg):FnOk P w K mg base CX0 1 T.space_in.f T.space_in.fd ["stacks","good","size"] J3:=by
 refine T.space_in.fn.ok q0 (fun vs H Q E h=>?_) (fun cdv A outer s H vs Q E hr h=>?_)
 ·obtain ⟨l,xs,g,size,rfl,_⟩:=h
  rfl
 ·obtain ⟨l,xs,g,size,rfl,hl,hz,hle,k⟩:=h
  refine ⟨_,(ze (zm (zr (km (K:=K) rfl rfl) (by rfl) T.b_sum xK (zc (qT rfl q0.nd (zL (K:=K) rfl (pv 0)) (own:=[("kept",3),("many",4)]) (zW (by kernel_rfl)) (fun _ _ _ _ _=>(js (K:=K) (n:=2) rfl rfl (zF (zw (i:=3) q0.nd rfl (by first | exact Or.inl rfl | exact Or.inr rfl)) (zF (zw (i:=4) q0.nd rfl (by first | exact Or.inl rfl | exact Or.inr rfl)) jr)))) (fun _ _ _ _ _=>(yY (zq z8 (pv 3) (pv 1) (nomark _)))) (fun _ _ _ _ _=>(zI jI (pv 2) (pv 4)))) zb)))),?_⟩
  refine ⟨_,rfl,l,rfl,lc_prs (fun x=>x.1 == g) (fun x=>V.int ((size - x.2:Nat):Int)) hl (small hz) ?_ ?_⟩
  ·rintro x a H1 N1 N2 hx s1 h k1 k2
   refine jY h ⟨rfl,_,rfl,_,rfl,rfl,_,rfl,zx (qJ _ _) (fun e=>?_) (fun e=>k2 e H1 (Same.refl _))⟩
   have h1:=hle x hx (by simpa using e)
   have h2:=k1 e H1 (Same.refl _)
   rw [show ((size - x.2:Nat):Int)=(size:Int) - (x.2:Int) by omega] at h2
   exact ⟨_,rfl,_,rfl,_,_,rfl,rfl,h2⟩
  ·intro D H' s1 hD hD'
   refine ⟨D,(xs.filter fun x=>x.1 == g).map fun x=>((size - x.2:Nat):Int),rfl,SqL.of (by rw [hD',List.map_map];rfl),?_⟩
   show Q _ _
   have e:(((xs.filter fun x=>x.1 == g).map fun x=>((size - x.2:Nat):Int)).sum)=(spaceIn xs g size:Int):=by
    unfold spaceIn
    rw [vP]
   rw [e]
   exact k H' s1
theorem z9:FnScope ["stacks","good","size","many","left","after","kept","held","added"] ["stacks","good","size","many"] (defScope yE):=⟨rfl,rfl,rfl,by decide +kernel,rfl,by decide +kernel,by decide +kernel⟩
def Z6:Sp:=fun vs H Q _=>∃ (l:Addr) (xs:List (Nat × Nat)) (g size n:Nat),vs=[.ref l,.int (g:Int),.int (size:Int),.int (n:Int)]∧PrsAt H l xs∧1≤size∧(∀ x∈xs,x.1=g→x.2≤size)∧(Vbwsao.putStacks size g n xs).length≤1000 ∧
 ∀ p H',Same H H'→H p=none→PrsAt H' p (Vbwsao.putStacks size g n xs)→Q (.ref p) H'
theorem Jw (T:Prog K mg):FnOk P w K mg base CX0 1 T.filled_up.f T.filled_up.fd ["stacks","good","size","many"] Z6:=by
 refine T.filled_up.fn.ok z9 (fun vs H Q E h=>?_) (fun cdv A outer s H vs Q E hr h=>?_)
 ·obtain ⟨l,xs,g,size,n,rfl,_⟩:=h
  rfl
 ·obtain ⟨l,xs,g,size,n,rfl,hl,hs1,hle,hz,k⟩:=h
  have hz2:(Vbwsao.fill size g n xs).2.length+(Vbwsao.newStacks size g n (Vbwsao.fill size g n xs).1).length≤1000:=by
   have e:Vbwsao.putStacks size g n xs=(Vbwsao.fill size g n xs).2++Vbwsao.newStacks size g n (Vbwsao.fill size g n xs).1:=rfl
   rw [e,List.length_append] at hz
   exact hz
  have hxl:xs.length≤1000:=by
   rw [wP] at hz2
   omega
  refine ⟨_,(za (zt (i:=4) z9.nd rfl (by first | exact Or.inl rfl | exact Or.inr rfl) (pv 3))
   (za (zt (i:=5) z9.nd rfl (by first | exact Or.inl rfl | exact Or.inr rfl) (zu zb))
   (za (jH PassesOwn.never rfl (zL (K:=K) rfl (pv 0)) (js (K:=K) (n:=2) rfl rfl (zF (zw (i:=6) z9.nd rfl (by first | exact Or.inl rfl | exact Or.inr rfl)) (zF (zw (i:=7) z9.nd rfl (by first | exact Or.inl rfl | exact Or.inr rfl)) jr))) (za (zt (i:=8) z9.nd rfl (by first | exact Or.inl rfl | exact Or.inr rfl) zj)
   (za (zB (zq z8 (pv 6) (pv 1) (nomark _)) (ze (zt (i:=8) z9.nd rfl (by first | exact Or.inl rfl | exact Or.inr rfl) (zr (va rfl) (by rfl) T.b_min xL (zc (pv 4) (zc (zI jI (pv 2) (pv 7)) zb))))) zp)
   (za (zt (i:=4) z9.nd rfl (by first | exact Or.inl rfl | exact Or.inr rfl) (zI jI (pv 4) (pv 8)))
   (ze (zG (qb (K:=K) rfl (pv 5) (vG (zc (pv 6) (zc (zI jf (pv 7) (pv 8)) zb))))))))))
   (za (xb PassesOwn.never (zq qC (pv 4) zj (nomark _)) (za (zt (i:=8) z9.nd rfl (by first | exact Or.inl rfl | exact Or.inr rfl) (zr (va rfl) (by rfl) T.b_min xL (zc (pv 4) (zc (pv 2) zb))))
   (za (zt (i:=4) z9.nd rfl (by first | exact Or.inl rfl | exact Or.inr rfl) (zI jI (pv 4) (pv 8)))
   (ze (zG (qb (K:=K) rfl (pv 5) (vG (zc (pv 1) (zc (pv 8) zb)))))))))
   (ze (zm (pv 5))))))),?_⟩
  refine ⟨_,rfl,Nat.zero_le _,fun p hp=>?_⟩
  have s0:Same H (L2.upd H p (.lst [])):=zM hp
  refine ⟨_,rfl,l,rfl,uB (fun i σ H'=>Same H H'∧(∃ as,LsAt H' p as (Vbwsao.fill size g n (xs.take i)).2 (PrAt H')) ∧
   ∃ z v6 v7 v8,z=((Vbwsao.fill size g n (xs.take i)).1:Int)∧σ=[some (.ref l),some (.int (g:Int)),some (.int (size:Int)),some (.int (n:Int)),some (.int z),some (.ref p),v6,v7,v8]) (hl.same s0)
   ⟨s0,⟨[],by rw [zf];rfl,rfl,fun j a x h=>by simp at h⟩,_,_,_,_,rfl,rfl⟩ (fun i σ' H' hp=>hp.1.prs hl s0) ?_ ?_⟩
  ·rintro i x a σ H1 hx hpa ⟨s1,⟨as,hq⟩,z,v6,v7,v8,hzz,rfl⟩
   have hlt:=zT hx
   have hxm:x∈xs:=List.mem_of_getElem? hx
   have hlen:(as.map V.ref).length<sizeLine:=by
    rw [List.length_map,hq.2.1,wP,List.length_take]
    exact small (m:=1000) (by omega)
   refine jY hpa ?_
   refine ⟨_,rfl,_,rfl,rfl,_,rfl,zx (qJ _ _) (fun e=>?_) (fun e=>?_)⟩
   ·have hg:x.1=g:=by simpa using e
    have hm:=hle x hxm hg
    refine ⟨_,rfl,_,rfl,_,rfl,_,_,rfl,rfl,_,_,rfl,_,rfl,_,rfl,_,_,rfl,rfl,_,rfl,.inl ⟨rfl,_,SqL.of hq.1⟩,_,rfl,_,rfl,_,rfl,_,_,rfl,rfl,(by show 2≤sizeLine;decide),fun t ht=>?_⟩
    obtain ⟨h1,h2⟩:=ZC (k2:=min (Vbwsao.fill size g n (xs.take i)).1 (size - x.2)) (z2:=(x.2:Int)+(if (size:Int) - (x.2:Int)<z then (size:Int) - (x.2:Int) else z)) hx hq ht (by rw [if_pos hg]) (by rw [xt,hzz];omega)
    refine ⟨p,_,_,rfl,rfl,(by rw [zl (zn hq.1 ht)];exact hq.1),hlen,jL (jR s1 ht) hp,h1,_,_,_,_,?_,rfl⟩
    rw [h2,xt,hzz]
    omega
   ·have hg:¬ x.1=g:=by simpa using e
    refine ⟨_,rfl,_,rfl,_,_,rfl,rfl,_,rfl,.inl ⟨rfl,_,SqL.of hq.1⟩,_,rfl,_,rfl,_,rfl,_,_,rfl,rfl,(by show 2≤sizeLine;decide),fun t ht=>?_⟩
    obtain ⟨h1,h2⟩:=ZC (k2:=0) (z2:=(x.2:Int)+0) hx hq ht (by rw [if_neg hg]) (by omega)
    refine ⟨p,_,_,rfl,rfl,(by rw [zl (zn hq.1 ht)];exact hq.1),hlen,jL (jR s1 ht) hp,h1,_,_,_,_,?_,rfl⟩
    rw [h2,hzz]
    omega
  ·rintro σ H1 ⟨s1,⟨as,hq⟩,z,v6,v7,v8,hzz,rfl⟩
   rw [List.take_length] at hq hzz
   refine JM (fun σ H'=>Same H H'∧∃ (left f:Nat) (ys:List (Nat × Nat)),left≤f∧ys++Vbwsao.newStacks size g f left=Vbwsao.putStacks size g n xs∧(∃ as,LsAt H' p as ys (PrAt H')) ∧
    ∃ v6 v7 v8,σ=[some (.ref l),some (.int (g:Int)),some (.int (size:Int)),some (.int (n:Int)),some (.int (left:Int)),some (.ref p),v6,v7,v8])
    (fun (σ:St) (_:Hp)=>match σ[4]? with | some (some (V.int z))=>z.toNat | _=>0) ⟨s1,(Vbwsao.fill size g n xs).1,n,_,y8 _ _ _ _,rfl,⟨as,hq⟩,v6,v7,v8,by rw [hzz]⟩ ?_ ?_
   ·rintro σ H2 ⟨s2,left,f,ys,hf,hys,⟨as,hq⟩,v6,v7,v8,rfl⟩
    refine ⟨_,rfl,_,_,rfl,rfl,_,rfl,zx (p:=decide (0<left)) (by simp) (fun e=>?_) (fun e=>?_)⟩
    ·have e1:0<left:=by simpa using e
     obtain ⟨f,rfl⟩:∃ f',f=f' + 1:=⟨f - 1,by omega⟩
     rw [jQ _ _ _ _ e1] at hys
     have hlen:(as.map V.ref).length<sizeLine:=by
      have:=congrArg List.length hys
      rw [List.length_append,List.length_cons] at this
      rw [List.length_map,hq.2.1]
      exact small (m:=1000) (by omega)
     refine ⟨_,rfl,_,rfl,_,_,rfl,_,rfl,_,rfl,_,_,rfl,rfl,_,rfl,.inl ⟨rfl,_,SqL.of hq.1⟩,_,rfl,_,rfl,(by show 2≤sizeLine;decide),fun t ht=>?_⟩
     have e2:(if (size:Int)<(left:Int) then (size:Int) else (left:Int))=((min size left:Nat):Int):=by rw [xt];omega
     refine ⟨p,_,_,rfl,rfl,(by rw [zl (zn hq.1 ht)];exact hq.1),hlen,⟨jL (jR s2 ht) hp,left - size,f,ys++[(g,min size left)],by omega,by rw [List.append_assoc];exact hys,⟨as++[t],?_⟩,v6,v7,some (V.int (if (size:Int)<(left:Int) then (size:Int) else (left:Int))),?_⟩,?_⟩
     ·have q:=wJ (x:=(g,min size left)) hq ht
      rw [e2]
      exact q
     ·have e3:(left:Int) - (if (size:Int)<(left:Int) then (size:Int) else (left:Int))=((left - size:Nat):Int):=by rw [e2];omega
      rw [← e3]
      rfl
     ·rw [e2]
      show ((left:Int) - ((min size left:Nat):Int)).toNat<(left:Int).toNat
      omega
    ·have e1:left=0:=by simpa using e
     subst e1
     rw [jK,List.append_nil] at hys
     subst hys
     exact ⟨_,rfl,k p H2 s2 hp ⟨as,hq⟩⟩
   ·rintro σ H Q Q' hq ⟨v,h1,i,j,h2,h3,k,h4,h5⟩
    exact ⟨v,h1,i,j,h2,h3,k,h4,hq _ _ h5⟩
end
section
variable {K:PySem.W.Frag} {mg:Str→Option Value} {T:Prog K mg} {H:Hp} {A:Adr} {s:State} {hs:List Int} {Q:VK} {R:V→Prop} {a0 dx0 nl sl sk sp us pl rw:Addr} {g:Good} {r:Recipe} {b:Bag} {m:Machine} {h nn:Int}
theorem zV (S:StX T H A s hs) (q:R (.ref A.gl)):∃ a C dx fs v,V.ref A.st = .ref a∧H a=some (.ins C dx fs)∧Cls K C∧NoAttr K C "goods"∧fs.lookup ("goods":Str)=some v∧R v:=let ⟨dx,e⟩:=S.st;⟨_,_,dx,_,_,rfl,e,T.kState.cl,T.kState.no _ (List.mem_of_getElem? (i:=0) rfl),ls_goods,q⟩
theorem zY (S:StX T H A s hs) (q:R (.ref A.rl)):∃ a C dx fs v,V.ref A.st = .ref a∧H a=some (.ins C dx fs)∧Cls K C∧NoAttr K C "recipes"∧fs.lookup ("recipes":Str)=some v∧R v:=let ⟨dx,e⟩:=S.st;⟨_,_,dx,_,_,rfl,e,T.kState.cl,T.kState.no _ (List.mem_of_getElem? (i:=1) rfl),WQ,q⟩
theorem zP (S:StX T H A s hs) (q:R (.ref A.bl)):∃ a C dx fs v,V.ref A.st = .ref a∧H a=some (.ins C dx fs)∧Cls K C∧NoAttr K C "bags"∧fs.lookup ("bags":Str)=some v∧R v:=let ⟨dx,e⟩:=S.st;⟨_,_,dx,_,_,rfl,e,T.kState.cl,T.kState.no _ (List.mem_of_getElem? (i:=2) rfl),ls_bags,q⟩
theorem jz (S:StX T H A s hs) (q:R (.ref A.ml)):∃ a C dx fs v,V.ref A.st = .ref a∧H a=some (.ins C dx fs)∧Cls K C∧NoAttr K C "machines"∧fs.lookup ("machines":Str)=some v∧R v:=let ⟨dx,e⟩:=S.st;⟨_,_,dx,_,_,rfl,e,T.kState.cl,T.kState.no _ (List.mem_of_getElem? (i:=3) rfl),QG,q⟩
theorem W7 (S:StX T H A s hs) (q:R (.int (s.paid:Int))):∃ a C dx fs v,V.ref A.st = .ref a∧H a=some (.ins C dx fs)∧Cls K C∧NoAttr K C "paid"∧fs.lookup ("paid":Str)=some v∧R v:=let ⟨dx,e⟩:=S.st;⟨_,_,dx,_,_,rfl,e,T.kState.cl,T.kState.no _ (List.mem_of_getElem? (i:=4) rfl),ls_paid,q⟩
theorem vY (S:StX T H A s hs) (q:R (.int (s.ticks:Int))):∃ a C dx fs v,V.ref A.st = .ref a∧H a=some (.ins C dx fs)∧Cls K C∧NoAttr K C "ticks"∧fs.lookup ("ticks":Str)=some v∧R v:=let ⟨dx,e⟩:=S.st;⟨_,_,dx,_,_,rfl,e,T.kState.cl,T.kState.no _ (List.mem_of_getElem? (i:=5) rfl),ls_ticks,q⟩
theorem kO (T:Prog K mg) (e:H a0=some (.ins T.kGood.C dx0 (fsGood g))) (q:R (.int (g.weight:Int))):∃ a C dx fs v,V.ref a0 = .ref a∧H a=some (.ins C dx fs)∧Cls K C∧NoAttr K C "weight"∧fs.lookup ("weight":Str)=some v∧R v:=⟨_,_,dx0,_,_,rfl,e,T.kGood.cl,T.kGood.no _ (List.mem_of_getElem? (i:=0) rfl),Y6,q⟩
theorem Jm (T:Prog K mg) (e:H a0=some (.ins T.kGood.C dx0 (fsGood g))) (q:R (.int (g.stack:Int))):∃ a C dx fs v,V.ref a0 = .ref a∧H a=some (.ins C dx fs)∧Cls K C∧NoAttr K C "size"∧fs.lookup ("size":Str)=some v∧R v:=⟨_,_,dx0,_,_,rfl,e,T.kGood.cl,T.kGood.no _ (List.mem_of_getElem? (i:=1) rfl),lg_size,q⟩
theorem yI (T:Prog K mg) (e:H a0=some (.ins T.kGood.C dx0 (fsGood g))) (q:R (.int (g.price:Int))):∃ a C dx fs v,V.ref a0 = .ref a∧H a=some (.ins C dx fs)∧Cls K C∧NoAttr K C "price"∧fs.lookup ("price":Str)=some v∧R v:=⟨_,_,dx0,_,_,rfl,e,T.kGood.cl,T.kGood.no _ (List.mem_of_getElem? (i:=2) rfl),lg_price,q⟩
theorem qQ (T:Prog K mg) (e:H a0=some (.ins T.kRecipe.C dx0 (fsRec r nl))) (q:R (.int (r.makes:Int))):∃ a C dx fs v,V.ref a0 = .ref a∧H a=some (.ins C dx fs)∧Cls K C∧NoAttr K C "makes"∧fs.lookup ("makes":Str)=some v∧R v:=⟨_,_,dx0,_,_,rfl,e,T.kRecipe.cl,T.kRecipe.no _ (List.mem_of_getElem? (i:=0) rfl),lr_makes,q⟩
theorem W8 (T:Prog K mg) (e:H a0=some (.ins T.kRecipe.C dx0 (fsRec r nl))) (q:R (.int (r.cost:Int))):∃ a C dx fs v,V.ref a0 = .ref a∧H a=some (.ins C dx fs)∧Cls K C∧NoAttr K C "cost"∧fs.lookup ("cost":Str)=some v∧R v:=⟨_,_,dx0,_,_,rfl,e,T.kRecipe.cl,T.kRecipe.no _ (List.mem_of_getElem? (i:=1) rfl),lr_cost,q⟩
theorem rr_ticks (T:Prog K mg) (e:H a0=some (.ins T.kRecipe.C dx0 (fsRec r nl))) (q:R (.int (r.ticks:Int))):∃ a C dx fs v,V.ref a0 = .ref a∧H a=some (.ins C dx fs)∧Cls K C∧NoAttr K C "ticks"∧fs.lookup ("ticks":Str)=some v∧R v:=⟨_,_,dx0,_,_,rfl,e,T.kRecipe.cl,T.kRecipe.no _ (List.mem_of_getElem? (i:=2) rfl),lr_ticks,q⟩
theorem wE (T:Prog K mg) (e:H a0=some (.ins T.kRecipe.C dx0 (fsRec r nl))) (q:R (.ref nl)):∃ a C dx fs v,V.ref a0 = .ref a∧H a=some (.ins C dx fs)∧Cls K C∧NoAttr K C "needs"∧fs.lookup ("needs":Str)=some v∧R v:=⟨_,_,dx0,_,_,rfl,e,T.kRecipe.cl,T.kRecipe.no _ (List.mem_of_getElem? (i:=3) rfl),lr_needs,q⟩
theorem wH (T:Prog K mg) (e:H a0=some (.ins T.kBag.C dx0 (fsBag b sl h))) (q:R (insV b.inside)):∃ a C dx fs v,V.ref a0 = .ref a∧H a=some (.ins C dx fs)∧Cls K C∧NoAttr K C "inside"∧fs.lookup ("inside":Str)=some v∧R v:=⟨_,_,dx0,_,_,rfl,e,T.kBag.cl,T.kBag.no _ (List.mem_of_getElem? (i:=0) rfl),Vb,q⟩
theorem Ya (T:Prog K mg) (e:H a0=some (.ins T.kBag.C dx0 (fsBag b sl h))) (q:R (.int (b.room:Int))):∃ a C dx fs v,V.ref a0 = .ref a∧H a=some (.ins C dx fs)∧Cls K C∧NoAttr K C "room"∧fs.lookup ("room":Str)=some v∧R v:=⟨_,_,dx0,_,_,rfl,e,T.kBag.cl,T.kBag.no _ (List.mem_of_getElem? (i:=1) rfl),lb_room,q⟩
theorem x5 (T:Prog K mg) (e:H a0=some (.ins T.kBag.C dx0 (fsBag b sl h))) (q:R (.int (b.own:Int))):∃ a C dx fs v,V.ref a0 = .ref a∧H a=some (.ins C dx fs)∧Cls K C∧NoAttr K C "own_weight"∧fs.lookup ("own_weight":Str)=some v∧R v:=⟨_,_,dx0,_,_,rfl,e,T.kBag.cl,T.kBag.no _ (List.mem_of_getElem? (i:=2) rfl),lb_own,q⟩
theorem Zr (T:Prog K mg) (e:H a0=some (.ins T.kBag.C dx0 (fsBag b sl h))) (q:R (.int (b.slots:Int))):∃ a C dx fs v,V.ref a0 = .ref a∧H a=some (.ins C dx fs)∧Cls K C∧NoAttr K C "places"∧fs.lookup ("places":Str)=some v∧R v:=⟨_,_,dx0,_,_,rfl,e,T.kBag.cl,T.kBag.no _ (List.mem_of_getElem? (i:=3) rfl),Va,q⟩
theorem jk (T:Prog K mg) (e:H a0=some (.ins T.kBag.C dx0 (fsBag b sl h))) (q:R (.ref sl)):∃ a C dx fs v,V.ref a0 = .ref a∧H a=some (.ins C dx fs)∧Cls K C∧NoAttr K C "stacks"∧fs.lookup ("stacks":Str)=some v∧R v:=⟨_,_,dx0,_,_,rfl,e,T.kBag.cl,T.kBag.no _ (List.mem_of_getElem? (i:=4) rfl),Y9,q⟩
theorem yc (T:Prog K mg) (e:H a0=some (.ins T.kBag.C dx0 (fsBag b sl h))) (q:R (.int h)):∃ a C dx fs v,V.ref a0 = .ref a∧H a=some (.ins C dx fs)∧Cls K C∧NoAttr K C "held"∧fs.lookup ("held":Str)=some v∧R v:=⟨_,_,dx0,_,_,rfl,e,T.kBag.cl,T.kBag.no _ (List.mem_of_getElem? (i:=5) rfl),lb_held,q⟩
theorem qi (T:Prog K mg) (e:H a0=some (.ins T.kMachine.C dx0 (fsMach m))) (q:R (.int (m.from_:Int))):∃ a C dx fs v,V.ref a0 = .ref a∧H a=some (.ins C dx fs)∧Cls K C∧NoAttr K C "takes_from"∧fs.lookup ("takes_from":Str)=some v∧R v:=⟨_,_,dx0,_,_,rfl,e,T.kMachine.cl,T.kMachine.no _ (List.mem_of_getElem? (i:=0) rfl),lm_from,q⟩
theorem yb (T:Prog K mg) (e:H a0=some (.ins T.kMachine.C dx0 (fsMach m))) (q:R (.int (m.to_:Int))):∃ a C dx fs v,V.ref a0 = .ref a∧H a=some (.ins C dx fs)∧Cls K C∧NoAttr K C "puts_into"∧fs.lookup ("puts_into":Str)=some v∧R v:=⟨_,_,dx0,_,_,rfl,e,T.kMachine.cl,T.kMachine.no _ (List.mem_of_getElem? (i:=1) rfl),lm_to,q⟩
theorem yW (T:Prog K mg) (e:H a0=some (.ins T.kMachine.C dx0 (fsMach m))) (q:R (.int (m.recipe:Int))):∃ a C dx fs v,V.ref a0 = .ref a∧H a=some (.ins C dx fs)∧Cls K C∧NoAttr K C "recipe"∧fs.lookup ("recipe":Str)=some v∧R v:=⟨_,_,dx0,_,_,rfl,e,T.kMachine.cl,T.kMachine.no _ (List.mem_of_getElem? (i:=2) rfl),Y5,q⟩
theorem qR (T:Prog K mg) (e:H a0=some (.ins T.kMachine.C dx0 (fsMach m))) (q:R (.int (m.queue:Int))):∃ a C dx fs v,V.ref a0 = .ref a∧H a=some (.ins C dx fs)∧Cls K C∧NoAttr K C "ordered"∧fs.lookup ("ordered":Str)=some v∧R v:=⟨_,_,dx0,_,_,rfl,e,T.kMachine.cl,T.kMachine.no _ (List.mem_of_getElem? (i:=3) rfl),WR,q⟩
theorem kd (T:Prog K mg) (e:H a0=some (.ins T.kMachine.C dx0 (fsMach m))) (q:R (.bl m.working)):∃ a C dx fs v,V.ref a0 = .ref a∧H a=some (.ins C dx fs)∧Cls K C∧NoAttr K C "works"∧fs.lookup ("works":Str)=some v∧R v:=⟨_,_,dx0,_,_,rfl,e,T.kMachine.cl,T.kMachine.no _ (List.mem_of_getElem? (i:=4) rfl),lm_works,q⟩
theorem uw (T:Prog K mg) (e:H a0=some (.ins T.kMachine.C dx0 (fsMach m))) (q:R (.int (m.left:Int))):∃ a C dx fs v,V.ref a0 = .ref a∧H a=some (.ins C dx fs)∧Cls K C∧NoAttr K C "left"∧fs.lookup ("left":Str)=some v∧R v:=⟨_,_,dx0,_,_,rfl,e,T.kMachine.cl,T.kMachine.no _ (List.mem_of_getElem? (i:=5) rfl),lm_left,q⟩
theorem Jl (T:Prog K mg) (e:H a0=some (.ins T.kMachine.C dx0 (fsMach m))) (q:R (.int (m.made:Int))):∃ a C dx fs v,V.ref a0 = .ref a∧H a=some (.ins C dx fs)∧Cls K C∧NoAttr K C "made"∧fs.lookup ("made":Str)=some v∧R v:=⟨_,_,dx0,_,_,rfl,e,T.kMachine.cl,T.kMachine.no _ (List.mem_of_getElem? (i:=6) rfl),lm_made,q⟩
theorem rp_stock (T:Prog K mg) (e:H a0=some (.ins T.kPlan.C dx0 (fsPlan sk sp us))) (q:R (.ref sk)):∃ a C dx fs v,V.ref a0 = .ref a∧H a=some (.ins C dx fs)∧Cls K C∧NoAttr K C "stock"∧fs.lookup ("stock":Str)=some v∧R v:=⟨_,_,dx0,_,_,rfl,e,T.kPlan.cl,T.kPlan.no _ (List.mem_of_getElem? (i:=0) rfl),lp_stock,q⟩
theorem wF (T:Prog K mg) (e:H a0=some (.ins T.kPlan.C dx0 (fsPlan sk sp us))) (q:R (.ref sp)):∃ a C dx fs v,V.ref a0 = .ref a∧H a=some (.ins C dx fs)∧Cls K C∧NoAttr K C "steps"∧fs.lookup ("steps":Str)=some v∧R v:=⟨_,_,dx0,_,_,rfl,e,T.kPlan.cl,T.kPlan.no _ (List.mem_of_getElem? (i:=1) rfl),lp_steps,q⟩
theorem Jk (T:Prog K mg) (e:H a0=some (.ins T.kPlan.C dx0 (fsPlan sk sp us))) (q:R (.ref us)):∃ a C dx fs v,V.ref a0 = .ref a∧H a=some (.ins C dx fs)∧Cls K C∧NoAttr K C "used"∧fs.lookup ("used":Str)=some v∧R v:=⟨_,_,dx0,_,_,rfl,e,T.kPlan.cl,T.kPlan.no _ (List.mem_of_getElem? (i:=2) rfl),lp_used,q⟩
theorem zD (T:Prog K mg) (e:H a0=some (.ins T.kCall.C dx0 (fsCall nn pl rw))) (q:R (.int nn)):∃ a C dx fs v,V.ref a0 = .ref a∧H a=some (.ins C dx fs)∧Cls K C∧NoAttr K C "number"∧fs.lookup ("number":Str)=some v∧R v:=⟨_,_,dx0,_,_,rfl,e,T.kCall.cl,T.kCall.no _ (List.mem_of_getElem? (i:=0) rfl),Y8,q⟩
theorem wG (T:Prog K mg) (e:H a0=some (.ins T.kCall.C dx0 (fsCall nn pl rw))) (q:R (.ref pl)):∃ a C dx fs v,V.ref a0 = .ref a∧H a=some (.ins C dx fs)∧Cls K C∧NoAttr K C "plain"∧fs.lookup ("plain":Str)=some v∧R v:=⟨_,_,dx0,_,_,rfl,e,T.kCall.cl,T.kCall.no _ (List.mem_of_getElem? (i:=1) rfl),lc_plain,q⟩
theorem vF (T:Prog K mg) (e:H a0=some (.ins T.kCall.C dx0 (fsCall nn pl rw))) (q:R (.ref rw)):∃ a C dx fs v,V.ref a0 = .ref a∧H a=some (.ins C dx fs)∧Cls K C∧NoAttr K C "row"∧fs.lookup ("row":Str)=some v∧R v:=⟨_,_,dx0,_,_,rfl,e,T.kCall.cl,T.kCall.no _ (List.mem_of_getElem? (i:=2) rfl),lc_row,q⟩
theorem jb {l:Addr} {as:List Addr} {α:Type} {xs:List α} {R:Addr→α→Prop} {j:Nat} {a:Addr} (h:LsAt H l as xs R) (ha:as[j]? = some a) (q:Q (.ref a) H):rIxL K (.ref l) (.int (j:Int)) H Q:=
 ⟨l,_,_,_,rfl,rfl,SqL.of h.1,yk (by rw [List.getElem?_map,ha];rfl),q⟩
theorem kU {l:Addr} {ns:List Int} {j:Nat} {z:Int} (h:H l=some (.lst (ns.map V.int))) (ha:ns[j]? = some z) (q:Q (.int z) H):rIxL K (.ref l) (.int (j:Int)) H Q:=
 ⟨l,_,_,_,rfl,rfl,SqL.of h,yk (by rw [List.getElem?_map,ha];rfl),q⟩
theorem LsAt.get {l:Addr} {as:List Addr} {α:Type} {xs:List α} {R:Addr→α→Prop} {j:Nat} {x:α} (h:LsAt H l as xs R) (hx:xs[j]? = some x):∃ a,as[j]? = some a∧R a x:=by
 obtain ⟨a,ha⟩:=jo h.2.1.symm hx
 exact ⟨a,ha,h.2.2 j a x ha hx⟩
end
section
variable {P:Program} {w:World} {K:PySem.W.Frag} {mg:Str→Option Value} {base:Heap}
theorem jG:FnScope ["stacks","good","many","left","after","kept","held","gone"] ["stacks","good","many"] (defScope kK):=⟨rfl,rfl,rfl,by decide +kernel,rfl,by decide +kernel,by decide +kernel⟩
def Wm:Sp:=fun vs H Q _=>∃ (l:Addr) (xs:List (Nat × Nat)) (g n:Nat),vs=[.ref l,.int (g:Int),.int (n:Int)]∧PrsAt H l xs∧xs.length≤1000∧(∀ x∈xs,1≤x.2) ∧
 ∀ p H',Same H H'→H p=none→PrsAt H' p (Vbwsao.takeStacks g n xs)→Q (.ref p) H'
theorem WI (T:Prog K mg):FnOk P w K mg base CX0 1 T.emptied.f T.emptied.fd ["stacks","good","many"] Wm:=by
 refine T.emptied.fn.ok jG (fun vs H Q E h=>?_) (fun cdv A outer s H vs Q E hr h=>?_)
 ·obtain ⟨l,xs,g,n,rfl,_⟩:=h
  rfl
 ·obtain ⟨l,xs,g,n,rfl,hl,hz,hpos,k⟩:=h
  refine ⟨_,(za (zt (i:=3) jG.nd rfl (by first | exact Or.inl rfl | exact Or.inr rfl) (pv 2))
   (za (zt (i:=4) jG.nd rfl (by first | exact Or.inl rfl | exact Or.inr rfl) (zu zb))
   (za (jH PassesOwn.never rfl (Jo (K:=K) rfl rfl T.b_reversed (zc (pv 0) zb)) (js (K:=K) (n:=2) rfl rfl (zF (zw (i:=5) jG.nd rfl (by first | exact Or.inl rfl | exact Or.inr rfl)) (zF (zw (i:=6) jG.nd rfl (by first | exact Or.inl rfl | exact Or.inr rfl)) jr))) (za (zt (i:=7) jG.nd rfl (by first | exact Or.inl rfl | exact Or.inr rfl) zj)
   (za (zB (zq z8 (pv 5) (pv 1) (nomark _)) (ze (zt (i:=7) jG.nd rfl (by first | exact Or.inl rfl | exact Or.inr rfl) (zr (va rfl) (by rfl) T.b_min xL (zc (pv 3) (zc (pv 6) zb))))) zp)
   (za (zt (i:=3) jG.nd rfl (by first | exact Or.inl rfl | exact Or.inr rfl) (zI jI (pv 3) (pv 7)))
   (ze (zB (zq qC (pv 6) (pv 7) (nomark _)) (ze (zG (qb (K:=K) rfl (pv 4) (vG (zc (pv 5) (zc (zI jI (pv 6) (pv 7)) zb)))))) zp))))))
   (ze (zm (WC (K:=K) rfl hr.hd rfl T.b_list rfl T.b_reversed (pv 4))))))),?_⟩
  refine ⟨_,rfl,Nat.zero_le _,fun p hp=>?_⟩
  have s0:Same H (L2.upd H p (.lst [])):=zM hp
  have hl0:=hl
  obtain ⟨bs,hb⟩:=hl
  refine ⟨_,rfl,l,_,rfl,SqL.of (s0 _ _ hb.1),?_⟩
  refine for_rev (fun i σ H'=>Same H H'∧∃ (left:Nat) (ys:List (Nat × Nat)),ys.length≤i∧ys++Vbwsao.takeBack g left (xs.reverse.drop i)=Vbwsao.takeBack g n xs.reverse∧(∃ as,LsAt H' p as ys (PrAt H')) ∧
   ∃ z v5 v6 v7,z=(left:Int)∧σ=[some (.ref l),some (.int (g:Int)),some (.int (n:Int)),some (.int z),some (.ref p),v5,v6,v7])
   ⟨s0,n,[],Nat.le_refl _,rfl,⟨[],by rw [zf];rfl,rfl,fun j a x h=>by simp at h⟩,_,_,_,_,rfl,rfl⟩ (fun i σ' H' _ h=>SqL.of (h.1 _ _ hb.1)) ?_ ?_
  ·rintro i v σ H1 hv ⟨s1,left,ys,hyl,hys,⟨as,hq⟩,z,v5,v6,v7,hzz,rfl⟩
   have hlt0:=zT hv
   rw [List.length_reverse,List.length_map] at hlt0
   have hlt:i<xs.length:=by rw [← hb.2.1];exact hlt0
   rw [← List.map_reverse,List.getElem?_map] at hv
   obtain ⟨a,ha,rfl⟩:=Option.map_eq_some_iff.mp hv
   obtain ⟨x,hx⟩:∃ x,xs.reverse[i]? = some x:=⟨_,List.getElem?_eq_getElem (by rw [List.length_reverse];exact hlt)⟩
   have hxm:x∈xs:=List.mem_reverse.mp (List.mem_of_getElem? hx)
   have hpa:PrAt H1 a x:=by
    rw [List.getElem?_reverse hlt0] at ha
    rw [List.getElem?_reverse hlt] at hx
    rw [← hb.2.1] at hx
    exact s1 _ _ (hb.2.2 _ a x ha hx)
   have e1:xs.reverse.drop i=(x.1,x.2) :: xs.reverse.drop (i+1):=by
    obtain ⟨h1,h2⟩:=List.getElem?_eq_some_iff.mp hx
    rw [List.drop_eq_getElem_cons h1,h2]
   rw [e1] at hys
   have hp1:=hpos x hxm
   have hlen:(as.map V.ref).length<sizeLine:=by
    rw [List.length_map,hq.2.1]
    exact small (m:=1000) (by omega)
   refine jY hpa ?_
   refine ⟨_,rfl,_,rfl,rfl,_,rfl,zx (qJ _ _) (fun e=>?_) (fun e=>?_)⟩
   ·have hg:x.1=g:=by simpa using e
    rw [ql hg] at hys
    refine ⟨_,rfl,_,rfl,_,_,rfl,_,rfl,_,rfl,_,_,rfl,rfl,_,rfl,_,rfl,_,_,rfl,rfl,_,rfl,?_⟩
    have e2:(if (x.2:Int)<z then (x.2:Int) else z)=((min left x.2:Nat):Int):=by rw [xt,hzz];omega
    rw [e2]
    refine zx (p:=decide (min left x.2<x.2)) (decide_eq_decide.mpr (by omega)) (fun e3=>?_) (fun e3=>?_)
    ·have e4:min left x.2<x.2:=by simpa using e3
     rw [if_neg (by omega)] at hys
     refine ⟨_,rfl,.inl ⟨rfl,_,SqL.of hq.1⟩,_,rfl,_,rfl,_,rfl,_,_,rfl,rfl,(by show 2≤sizeLine;decide),fun t ht=>?_⟩
     refine ⟨p,_,_,rfl,rfl,(by rw [zl (zn hq.1 ht)];exact hq.1),hlen,jL (jR s1 ht) hp,left - min left x.2,ys++[(x.1,x.2 - min left x.2)],by simp;omega,by rw [List.append_assoc];exact hys,⟨as++[t],?_⟩,z - ((min left x.2:Nat):Int),_,_,_,by omega,rfl⟩
     have q:=wJ (x:=(x.1,x.2 - min left x.2)) hq ht
     have e5:((x.2 - min left x.2:Nat):Int)=(x.2:Int) - ((min left x.2:Nat):Int):=by omega
     rw [e5] at q
     exact q
    ·have e4:¬ min left x.2<x.2:=by simpa using e3
     rw [if_pos (by omega),List.nil_append] at hys
     exact ⟨s1,left - min left x.2,ys,by omega,hys,⟨as,hq⟩,z - ((min left x.2:Nat):Int),_,_,_,by omega,rfl⟩
   ·have hg:¬ x.1=g:=by simpa using e
    rw [qk hg] at hys
    refine ⟨_,rfl,_,rfl,_,_,rfl,rfl,_,rfl,_,rfl,_,_,rfl,rfl,_,rfl,zx (p:=true) (decide_eq_true (by omega)) (fun _=>?_) (fun q=>absurd q (by decide))⟩
    refine ⟨_,rfl,.inl ⟨rfl,_,SqL.of hq.1⟩,_,rfl,_,rfl,_,rfl,_,_,rfl,rfl,(by show 2≤sizeLine;decide),fun t ht=>?_⟩
    refine ⟨p,_,_,rfl,rfl,(by rw [zl (zn hq.1 ht)];exact hq.1),hlen,jL (jR s1 ht) hp,left,ys++[(x.1,x.2)],by simp;omega,by rw [List.append_assoc];exact hys,⟨as++[t],?_⟩,z - 0,_,_,_,by omega,rfl⟩
    have q:=wJ (x:=(x.1,x.2)) hq ht
    have e5:(x.2:Int)=(x.2:Int) - 0:=by omega
    rw [e5] at q
    exact q
  ·rintro σ H1 ⟨s1,left,ys,hyl,hys,⟨as,hq⟩,z,v5,v6,v7,hzz,rfl⟩
   rw [List.length_map,hb.2.1,← List.length_reverse,List.drop_length] at hys
   have e0:Vbwsao.takeBack g left []=[]:=by cases left <;> rfl
   rw [e0,List.append_nil] at hys
   refine ⟨_,rfl,p,_,rfl,SqL.of hq.1,fun p2 hp2=>k p2 _ (jR s1 hp2) (s1.free hp2) ?_⟩
   refine ⟨as.reverse,by rw [zf,List.map_reverse],by unfold Vbwsao.takeStacks;rw [← hys,List.length_reverse,List.length_reverse,hq.2.1],fun j a x ha hx=>?_⟩
   have hj:=zT ha
   rw [List.length_reverse] at hj
   rw [List.getElem?_reverse hj] at ha
   unfold Vbwsao.takeStacks at hx
   rw [← hys,List.getElem?_reverse (by rw [← hq.2.1];exact hj),← hq.2.1] at hx
   have q:=hq.2.2 _ a x ha hx
   unfold PrAt at q ⊢
   rw [zl (zn q hp2)]
   exact q
end
theorem wx {α:Type} {K:PySem.W.Frag} {g:TG} {te:TE} {vs:List Nat} {σ:St} {H:Hp} {l:Addr} {items:List V} {xs:List α} {Q:Addr→Hp→Prop} (It:Hp→α→V→Prop) (f:α→V) (hl:SqL K H l items) (hlen:items.length=xs.length) (hz:xs.length<sizeLine)
  (hit:∀ (i:Nat) v x,items[i]? = some v→xs[i]? = some x→It H x v) (mono:∀ H1 x v,Same H H1→It H x v→It H1 x v)
  (hs:∀ x v H1 (N1:VK),x∈xs→Same H H1→It H1 x v→(∀ H2,Same H1 H2→N1 (f x) H2)→g v (wipe σ vs) H1 fun σ2 H2=>wipe σ2 vs=wipe σ vs∧te σ2 H2 N1)
  (mono2:∀ v σ H (Q Q':St→Hp→Prop),(∀ σ' H',Q σ' H'→Q' σ' H')→g v σ H Q→g v σ H Q')
  (q:∀ D H',Same H H'→H D=none→H' D=some (.lst (xs.map f))→Q D H') :
  ∀ D,H D=none→∃ W:Nat→Nat→Hp→Prop,(∃ m,W 0 m (L2.upd H D (.lst [])))∧∀ i m H,W i m H →
   ((Itl K l).stop i H∧Q D H)∨((Itl K l).go i H∧∃ Nx:Hp→Prop,(∀ H',Nx H'→∃ m',m' < m∧W (i+1) m' H')∧∀ x H',(Itl K l).yld i H x H'→g x (wipe σ vs) H' fun σ2 H2=>wipe σ2 vs=wipe σ vs∧tYes σ2 H2 fun b H3=>
    if b=true then te σ2 H3 fun y H4=>∃ acc,H4 D=some (.lst acc)∧acc.length<sizeLine∧Nx (L2.upd H4 D (.lst (acc++[y]))) else Nx H3):=by
 refine JA (tt:=tYes) It (fun _=>true) f hl hlen hz hit mono (fun x v H1 N1 N2 hx s1 hi k1 k2=>?_) (fun D H' s1 hD hD'=>q D H' s1 hD (by rw [hD',List.filter_eq_self.mpr (fun _ _=>rfl)]))
 refine mono2 _ _ _ _ _ (fun σ' H' h=>⟨h.1,?_⟩) (hs x v H1 N1 hx s1 hi (k1 rfl))
 exact iteT (A:=te σ' H' N1) (B:=N2 H') h.2
theorem jN {i:Nat}:∀ v σ H (Q Q':St→Hp→Prop),(∀ σ' H',Q σ' H'→Q' σ' H')→gName i v σ H Q→gName i v σ H Q':=fun _ _ _ _ _ h q=>h _ _ q
theorem y3 {K:PySem.W.Frag} {i j:Nat}:∀ v σ H (Q Q':St→Hp→Prop),(∀ σ' H',Q σ' H'→Q' σ' H')→gTup K 2 (gCons (gName i) (gCons (gName j) gNil)) v σ H Q→gTup K 2 (gCons (gName i) (gCons (gName j) gNil)) v σ H Q':=
 fun _ _ _ _ _ h ⟨a,xs,e1,e2,e3,v,r,e4,v2,r2,e5,e6,q⟩=>⟨a,xs,e1,e2,e3,v,r,e4,v2,r2,e5,e6,h _ _ q⟩
theorem insV_eq (o:Option Nat) (j:Nat):decide (insV o=V.int (j:Int))=(o == some j):=by
 cases o with
 | none=>
  have:¬ insV none=V.int (j:Int):=fun q=>by injection q with q;omega
  rw [decide_eq_false this]
  rfl
 | some c=>
  show decide (V.int (c:Int)=V.int (j:Int))=(some c == some j)
  rw [qJ]
  rfl
theorem kW (o:Option Nat) (z:Int):scal (insV o) (.int z)=true:=by cases o <;> rfl
theorem ul (o:Option Nat):decide (insV o=V.int (-1))=o.isNone:=by
 cases o with
 | none=>rfl
 | some c=>
  have:¬ insV (some c)=V.int (-1):=fun q=>by injection q with q;omega
  rw [decide_eq_false this]
  rfl
theorem Q6 (bs:List Bag) (j:Nat):(Vbwsao.within bs j).length=(bs.filter fun x=>x.inside == some j).length:=by
 have e:bs=(List.range bs.length).map (Vbwsao.bagAt bs):=by
  apply List.ext_getElem?
  intro i
  by_cases h:i<bs.length
  ·rw [List.getElem?_map,List.getElem?_range h,Option.map_some,List.getElem?_eq_getElem h]
   unfold Vbwsao.bagAt
   rw [List.getD_eq_getElem?_getD,List.getElem?_eq_getElem h]
   rfl
  ·rw [List.getElem?_eq_none (by omega),List.getElem?_eq_none (by simp;omega)]
 unfold Vbwsao.within
 conv=>rhs;rw [e]
 rw [List.filter_map,List.length_map]
 rfl
theorem z3 {bs:List Bag} {j:Nat} {b:Bag} (h:bs[j]? = some b):Vbwsao.bagAt bs j=b:=by
 unfold Vbwsao.bagAt
 rw [List.getD_eq_getElem?_getD,h]
 rfl
def addL (hs:List Int) (l:List Nat) (w:Int):List Int:=l.foldl (fun hs k=>hs.set k (hs.getD k 0+w)) hs
theorem xO (w:Int):∀ (l:List Nat) (hs:List Int),(addL hs l w).length=hs.length
 | [],hs=>rfl
 | k :: l,hs=>by
  show (addL (hs.set k (hs.getD k 0+w)) l w).length=hs.length
  rw [xO w l,List.length_set]
theorem Vm (w:Int) (l:List Nat) (k:Nat) (hs:List Int):addL hs (l++[k]) w=(addL hs l w).set k ((addL hs l w).getD k 0+w):=by
 unfold addL
 rw [List.foldl_append]
 rfl
theorem jD {α:Type} {l:List α} {j:Nat} {x:α} (h:l[j]? = some x):l.set j x=l:=by
 apply List.ext_getElem?
 intro i
 by_cases e:j=i
 ·subst e;rw [List.getElem?_set_self (zT h),h]
 ·rw [List.getElem?_set_ne e]
theorem jO {α:Type} {l:List α} {j:Nat} {x d:α} (h:l[j]? = some x):l.getD j d=x:=by
 rw [List.getD_eq_getElem?_getD,h];rfl
section
variable {P:Program} {w:World} {K:PySem.W.Frag} {mg:Str→Option Value} {base:Heap}
theorem xZ:FnScope ["state","good"] ["state","good"] (defScope w6):=⟨rfl,rfl,rfl,by decide +kernel,rfl,by decide +kernel,by decide +kernel⟩
def xV (T:Prog K mg):Sp:=fun vs H Q _=>∃ (A:Adr) (s:State) (hs:List Int) (z:Int),vs=[.ref A.st,.int z]∧StX T H A s hs∧Q (.bl (decide ((s.goods.length:Int)≤z))) H
theorem ja (T:Prog K mg):FnOk P w K mg base CX0 1 T.lacks_good.f T.lacks_good.fd ["state","good"] (xV T):=by
 refine T.lacks_good.fn.ok xZ (fun vs H Q E h=>?_) (fun cdv A outer s H vs Q E hr h=>?_)
 ·obtain ⟨A,s,hs,z,rfl,_⟩:=h
  rfl
 ·obtain ⟨A,st,hs,z,rfl,S,k⟩:=h
  refine ⟨_,(ze (zm (wa kf (pv 1) (zr (zo (K:=K) rfl) (by rfl) T.b_len zQ (zc (zd (K:=K) rfl (pv 0) rfl) zb)) (nomark _)))),?_⟩
  refine ⟨_,rfl,_,rfl,zV S ⟨A.gl,_,rfl,.inl (SqL.of S.gs.1),_,_,rfl,rfl,?_⟩⟩
  show Q (.bl (decide (((A.ga.map V.ref).length:Int)≤z))) H
  rw [List.length_map,S.gs.2.1]
  exact k
theorem Je:FnScope ["state","b"] ["state","b"] (defScope yC):=⟨rfl,rfl,rfl,by decide +kernel,rfl,by decide +kernel,by decide +kernel⟩
def Z4 (T:Prog K mg):Sp:=fun vs H Q _=>∃ (A:Adr) (s:State) (hs:List Int) (z:Int),vs=[.ref A.st,.int z]∧StX T H A s hs∧Q (.bl (decide ((s.bags.length:Int)≤z))) H
theorem StX.blen {T:Prog K mg} {H:Hp} {A:Adr} {s:State} {hs:List Int} (S:StX T H A s hs):A.ba.length=s.bags.length:=by
 have h1:=S.bs.2.1
 have h2:=S.hl
 rw [List.length_zip] at h1
 omega
theorem zR (T:Prog K mg):FnOk P w K mg base CX0 1 T.lacks_bag.f T.lacks_bag.fd ["state","b"] (Z4 T):=by
 refine T.lacks_bag.fn.ok Je (fun vs H Q E h=>?_) (fun cdv A outer s H vs Q E hr h=>?_)
 ·obtain ⟨A,s,hs,z,rfl,_⟩:=h
  rfl
 ·obtain ⟨A,st,hs,z,rfl,S,k⟩:=h
  refine ⟨_,(ze (zm (wa kf (pv 1) (zr (zo (K:=K) rfl) (by rfl) T.b_len zQ (zc (zd (K:=K) rfl (pv 0) rfl) zb)) (nomark _)))),?_⟩
  refine ⟨_,rfl,_,rfl,zP S ⟨A.bl,_,rfl,.inl (SqL.of S.bs.1),_,_,rfl,rfl,?_⟩⟩
  show Q (.bl (decide (((A.ba.map V.ref).length:Int)≤z))) H
  rw [List.length_map,S.blen]
  exact k
theorem ur:FnScope ["state","recipe"] ["state","recipe"] (defScope qO):=⟨rfl,rfl,rfl,by decide +kernel,rfl,by decide +kernel,by decide +kernel⟩
def up (T:Prog K mg):Sp:=fun vs H Q _=>∃ (A:Adr) (s:State) (hs:List Int) (z:Int),vs=[.ref A.st,.int z]∧StX T H A s hs∧Q (.bl (decide ((s.recipes.length:Int)≤z))) H
theorem ut (T:Prog K mg):FnOk P w K mg base CX0 1 T.lacks_recipe.f T.lacks_recipe.fd ["state","recipe"] (up T):=by
 refine T.lacks_recipe.fn.ok ur (fun vs H Q E h=>?_) (fun cdv A outer s H vs Q E hr h=>?_)
 ·obtain ⟨A,s,hs,z,rfl,_⟩:=h
  rfl
 ·obtain ⟨A,st,hs,z,rfl,S,k⟩:=h
  refine ⟨_,(ze (zm (wa kf (pv 1) (zr (zo (K:=K) rfl) (by rfl) T.b_len zQ (zc (zd (K:=K) rfl (pv 0) rfl) zb)) (nomark _)))),?_⟩
  refine ⟨_,rfl,_,rfl,zY S ⟨A.rl,_,rfl,.inl (SqL.of S.rs.1),_,_,rfl,rfl,?_⟩⟩
  show Q (.bl (decide (((A.ra.map V.ref).length:Int)≤z))) H
  rw [List.length_map,S.rs.2.1]
  exact k
theorem kG:FnScope ["state","machine"] ["state","machine"] (defScope qx):=⟨rfl,rfl,rfl,by decide +kernel,rfl,by decide +kernel,by decide +kernel⟩
def kC (T:Prog K mg):Sp:=fun vs H Q _=>∃ (A:Adr) (s:State) (hs:List Int) (z:Int),vs=[.ref A.st,.int z]∧StX T H A s hs∧Q (.bl (decide ((s.machines.length:Int)≤z))) H
theorem wK (T:Prog K mg):FnOk P w K mg base CX0 1 T.lacks_machine.f T.lacks_machine.fd ["state","machine"] (kC T):=by
 refine T.lacks_machine.fn.ok kG (fun vs H Q E h=>?_) (fun cdv A outer s H vs Q E hr h=>?_)
 ·obtain ⟨A,s,hs,z,rfl,_⟩:=h
  rfl
 ·obtain ⟨A,st,hs,z,rfl,S,k⟩:=h
  refine ⟨_,(ze (zm (wa kf (pv 1) (zr (zo (K:=K) rfl) (by rfl) T.b_len zQ (zc (zd (K:=K) rfl (pv 0) rfl) zb)) (nomark _)))),?_⟩
  refine ⟨_,rfl,_,rfl,jz S ⟨A.ml,_,rfl,.inl (SqL.of S.ms.1),_,_,rfl,rfl,?_⟩⟩
  show Q (.bl (decide (((A.ma.map V.ref).length:Int)≤z))) H
  rw [List.length_map,S.ms.2.1]
  exact k
theorem j3:FnScope ["state","b","around","at"] ["state","b"] (defScope wu):=⟨rfl,rfl,rfl,by decide +kernel,rfl,by decide +kernel,by decide +kernel⟩
def uY (T:Prog K mg):Sp:=fun vs H Q _=>∃ (A:Adr) (s:State) (hs:List Int) (o:Option Nat) (l:List Nat),vs=[.ref A.st,insV o]∧StX T H A s hs∧ChS s.bags o l∧l.length≤1000 ∧
 ∀ p H',Same H H'→H p=none→H' p=some (.lst (l.map fun (k:Nat)=>V.int (k:Int)))→Q (.ref p) H'
theorem qW (T:Prog K mg):FnOk P w K mg base CX0 1 T.bags_around.f T.bags_around.fd ["state","b"] (uY T):=by
 refine T.bags_around.fn.ok j3 (fun vs H Q E h=>?_) (fun cdv A outer s H vs Q E hr h=>?_)
 ·obtain ⟨A,s,hs,o,l,rfl,_⟩:=h
  rfl
 ·obtain ⟨A,st,hs,o,l,rfl,S,hc,hz,k⟩:=h
  refine ⟨_,(za (zt (i:=2) j3.nd rfl (by first | exact Or.inl rfl | exact Or.inr rfl) (zu zb))
   (za (zt (i:=3) j3.nd rfl (by first | exact Or.inl rfl | exact Or.inr rfl) (pv 1))
   (za (xb PassesOwn.never (zq op_ne (pv 3) (zA (v:=.int (-1)) rfl T.c_GROUND.at_ ⟨_,rfl⟩) (nomark _)) (za (zG (qb (K:=K) rfl (pv 2) (pv 3)))
   (ze (zt (i:=3) j3.nd rfl (by first | exact Or.inl rfl | exact Or.inr rfl) (zd (K:=K) rfl (zv (zk (K:=K) rfl) (zd (K:=K) rfl (pv 0) rfl) (pv 3) (fun _ _=>rfl)) rfl)))))
   (ze (zm (pv 2)))))),?_⟩
  refine ⟨Nat.zero_le _,fun p hp=>?_⟩
  refine ⟨_,rfl,?_⟩
  refine ⟨fun m σ H'=>Same H H'∧∃ (o':Option Nat) (d rest:List Nat),ChS st.bags o' rest∧d++rest=l∧m=rest.length∧H' p=some (.lst (d.map fun (k:Nat)=>V.int (k:Int)))∧σ=[some (.ref A.st),some (insV o),some (.ref p),some (insV o')],
   ⟨l.length,zM hp,o,[],l,hc,rfl,rfl,zf,rfl⟩,?_⟩
  rintro m σ H1 ⟨s1,o',d,rest,hc1,hd,rfl,hq,rfl⟩
  refine ⟨_,rfl,kW _ _,_,rfl,zx (p:=!o'.isNone) (by rw [ul]) (fun e=>?_) (fun e=>?_)⟩
  ·cases hc1 with
   | nil=>exact absurd e (by decide)
   | @cons b x rest' hb hc2=>
    have S1:=S.same s1
    have hlen:(d.map fun (k:Nat)=>V.int (k:Int)).length<sizeLine:=by
     rw [List.length_map]
     have:=congrArg List.length hd
     rw [List.length_append,List.length_cons] at this
     exact small (m:=1000) (by omega)
    refine ⟨fun σ' H'=>Same H H'∧∃ (o':Option Nat) (d rest:List Nat),ChS st.bags o' rest∧d++rest=l∧rest.length<(b :: rest').length∧H' p=some (.lst (d.map fun (k:Nat)=>V.int (k:Int)))∧σ' = [some (.ref A.st),some (insV o),some (.ref p),some (insV o')],
     fun σ' H' ⟨h1,o',d,rest,h2,h3,h4,h5,h6⟩=>⟨rest.length,h4,h1,o',d,rest,h2,h3,rfl,h5,h6⟩,?_⟩
    have s2:Same H (L2.upd H1 p (.lst ((d.map fun (k:Nat)=>V.int (k:Int))++[V.int (b:Int)]))):=jL s1 hp
    have S2:=S.same s2
    obtain ⟨a,h,ha,_,dx,sl,e1,_⟩:=S2.bag hb
    refine ⟨_,rfl,.inl ⟨rfl,_,SqL.of hq⟩,_,rfl,p,_,_,rfl,rfl,hq,hlen,_,rfl,zP S2 ⟨_,rfl,jb S2.bs ha (wH T e1 ⟨s2,x.inside,d++[b],rest',hc2,by rw [List.append_assoc];exact hd,Nat.lt_succ_self _,by rw [zf,List.map_append];rfl,rfl⟩)⟩⟩
  ·cases hc1 with
   | cons hb hc2=>exact absurd e (by simp)
   | nil=>
    rw [List.append_nil] at hd
    subst hd
    exact ⟨_,rfl,k p H1 s1 hp hq⟩
end
section
variable {P:Program} {w:World} {K:PySem.W.Frag} {mg:Str→Option Value} {base:Heap}
theorem wC:FnScope ["state","b","bag"] ["state","b"] (defScope qw):=⟨rfl,rfl,rfl,by decide +kernel,rfl,by decide +kernel,by decide +kernel⟩
def kz (T:Prog K mg):Sp:=fun vs H Q _=>∃ (A:Adr) (s:State) (hs:List Int) (j:Nat) (b:Bag) (h:Int),vs=[.ref A.st,.int (j:Int)]∧StX T H A s hs∧s.bags[j]? = some b∧hs[j]? = some h∧Q (.int ((b.own:Int)+h)) H
theorem qc (T:Prog K mg):FnOk P w K mg base CX0 1 T.weight_of_bag.f T.weight_of_bag.fd ["state","b"] (kz T):=by
 refine T.weight_of_bag.fn.ok wC (fun vs H Q E h=>?_) (fun cdv A outer s H vs Q E hr h=>?_)
 ·obtain ⟨A,s,hs,j,b,h,rfl,_⟩:=h
  rfl
 ·obtain ⟨A,st,hs,j,b,h,rfl,S,hb,hh,k⟩:=h
  obtain ⟨a,h',ha,hh',dx,sl,e1,_⟩:=S.bag hb
  rw [hh] at hh'
  cases hh'
  refine ⟨_,(za (zt (i:=2) wC.nd rfl (by first | exact Or.inl rfl | exact Or.inr rfl) (zv (zk (K:=K) rfl) (zd (K:=K) rfl (pv 0) rfl) (pv 1) (fun _ _=>rfl)))
   (ze (zm (zI jf (zd (K:=K) rfl (pv 2) rfl) (zd (K:=K) rfl (pv 2) rfl))))),?_⟩
  exact ⟨_,rfl,zP S ⟨_,rfl,jb S.bs ha ⟨_,rfl,x5 T e1 ⟨_,rfl,yc T e1 ⟨_,_,rfl,rfl,k⟩⟩⟩⟩⟩
theorem StX.bagItem {T:Prog K mg} {H:Hp} {A:Adr} {s:State} {hs:List Int} (S:StX T H A s hs) {i:Nat} {v:V} {x:Bag × Int} (hv:(A.ba.map V.ref)[i]? = some v) (hx:(s.bags.zip hs)[i]? = some x):∃ a,v = .ref a∧A.ba[i]? = some a∧BagAt T A.tops H a x:=by
 rw [List.getElem?_map] at hv
 obtain ⟨a,ha,rfl⟩:=Option.map_eq_some_iff.mp hv
 exact ⟨a,rfl,ha,S.bs.2.2 i a x ha hx⟩
theorem uF {bs:List Bag} {hs:List Int} (h:hs.length=bs.length) (p:Bag→Bool):((bs.zip hs).filter fun x=>p x.1).length=(bs.filter p).length:=by
 have e:bs=(bs.zip hs).map (·.1):=by rw [List.map_fst_zip (by omega)]
 conv=>rhs;rw [e,List.filter_map,List.length_map]
 rfl
theorem qu:FnScope ["state","b","right_in_it","bag"] ["state","b"] (defScope qN):=⟨rfl,rfl,rfl,by decide +kernel,rfl,by decide +kernel,by decide +kernel⟩
def uo (T:Prog K mg):Sp:=fun vs H Q _=>∃ (A:Adr) (s:State) (hs:List Int) (j:Nat) (b:Bag),vs=[.ref A.st,.int (j:Int)]∧StX T H A s hs∧s.bags.length≤1000∧s.bags[j]? = some b∧∀ H',Same H H'→Q (.int (Vbwsao.usedSlots s.bags j:Int)) H'
theorem qz (T:Prog K mg):FnOk P w K mg base CX0 1 T.places_taken.f T.places_taken.fd ["state","b"] (uo T):=by
 refine T.places_taken.fn.ok qu (fun vs H Q E h=>?_) (fun cdv A outer s H vs Q E hr h=>?_)
 ·obtain ⟨A,s,hs,j,b,rfl,_⟩:=h
  rfl
 ·obtain ⟨A,st,hs,j,b,rfl,S,hz,hb,k⟩:=h
  refine ⟨_,(za (wI (i:=2) rfl qu.nd rfl rfl (yT rfl rfl rfl rfl) (zL (K:=K) rfl (zd (K:=K) rfl (pv 0) rfl)) (own:=[("bag",3)]) (zW (by kernel_rfl)) (fun _ _ _ _ _=>(zw (i:=3) qu.nd rfl (by first | exact Or.inl rfl | exact Or.inr rfl))) (fun _ _ _ _ _=>(yY (zq z8 (zd (K:=K) rfl (pv 3) rfl) (pv 1) (nomark _)))) (fun _ _ _ _ _=>(pv 3)))
   (ze (zm (zI jf (zr (zo (K:=K) rfl) (by rfl) T.b_len zQ (zc (zd (K:=K) rfl (zv (zk (K:=K) rfl) (zd (K:=K) rfl (pv 0) rfl) (pv 1) (fun _ _=>rfl)) rfl) zb)) (zr (zo (K:=K) rfl) (by rfl) T.b_len zQ (zc (pv 2) zb)))))),?_⟩
  have hl:(st.bags.zip hs).length=st.bags.length:=by rw [List.length_zip,S.hl];omega
  have hl2:A.ba.length=(st.bags.zip hs).length:=S.bs.2.1
  refine ⟨_,rfl,zP S ⟨A.bl,rfl,⟨_,SqL.of S.bs.1⟩,JA (xs:=A.ba.zip (st.bags.zip hs)) (fun H x v=>v = .ref x.1∧BagAt T A.tops H x.1 x.2) (fun x=>x.2.1.inside == some j) (fun x=>.ref x.1) (SqL.of S.bs.1) (by rw [List.length_map,List.length_zip];omega) (by rw [List.length_zip];exact small (m:=1000) (by omega))
   (fun i v x hv hx=>?_) (fun H1 x v s1 ⟨e,h⟩=>⟨e,h.frm (κ:=[]) (L:=[]) (zy s1) (by simp) (by simp)⟩) ?_ ?_⟩⟩
  ·obtain ⟨h1,h2⟩:=List.getElem?_zip_eq_some.mp hx
   obtain ⟨a,e,ha,h⟩:=S.bagItem hv h2
   rw [ha] at h1
   cases h1
   exact ⟨e,h⟩
  ·rintro x v H1 N1 N2 hx s1 ⟨rfl,dx,sl,e1,_⟩ k1 k2
   exact ⟨rfl,_,rfl,wH T e1 ⟨_,rfl,kW _ _,_,rfl,zx (insV_eq _ _) (fun e=>⟨_,rfl,k1 e H1 (Same.refl _)⟩) (fun e=>k2 e H1 (Same.refl _))⟩⟩
  ·intro D H' s1 hD hD'
   have S1:=S.same s1
   obtain ⟨a,h,ha,_,dx,sl,e1,_,⟨as,hp⟩⟩:=S1.bag hb
   refine ⟨_,rfl,zP S1 ⟨_,rfl,jb S1.bs ha (jk T e1 ⟨sl,_,rfl,.inl (SqL.of hp.1),_,rfl,D,_,rfl,.inl (SqL.of hD'),_,_,rfl,rfl,?_⟩)⟩⟩
   have e2:(((A.ba.zip (st.bags.zip hs)).filter fun x=>x.2.1.inside == some j).map fun x=>V.ref x.1).length=(Vbwsao.within st.bags j).length:=by
    rw [List.length_map,Q6,← uF S.hl]
    have e:st.bags.zip hs=(A.ba.zip (st.bags.zip hs)).map (·.2):=by rw [List.map_snd_zip (by omega)]
    conv=>rhs;rw [e,List.filter_map,List.length_map]
    rfl
   have e3:(as.map V.ref).length=b.stacks.length:=by rw [List.length_map];exact hp.2.1
   have k1:=k H' s1
   unfold Vbwsao.usedSlots at k1
   rw [z3 hb,Int.natCast_add,← e2,← e3] at k1
   exact k1
def lft (bs:List Bag) (hs:List Int) (k:Nat):Int:=((Vbwsao.bagAt bs k).room:Int) - hs.getD k 0
theorem jF:FnScope ["state","b","around","k","bag"] ["state","b"] (defScope wj):=⟨rfl,rfl,rfl,by decide +kernel,rfl,by decide +kernel,by decide +kernel⟩
def uP (T:Prog K mg):Sp:=fun vs H Q _=>∃ (A:Adr) (s:State) (hs:List Int) (o:Option Nat) (l:List Nat),vs=[.ref A.st,insV o]∧StX T H A s hs∧ChS s.bags o l∧l.length≤1000 ∧
 ∀ p H',Same H H'→H p=none→H' p=some (.lst ((l.map (lft s.bags hs)).map V.int))→Q (.ref p) H'
theorem yL (T:Prog K mg):FnOk P w K mg base CX0 2 T.weight_left.f T.weight_left.fd ["state","b"] (uP T):=by
 refine T.weight_left.fn.ok jF (fun vs H Q E h=>?_) (fun cdv A outer s H vs Q E hr h=>?_)
 ·obtain ⟨A,s,hs,o,l,rfl,_⟩:=h
  rfl
 ·obtain ⟨A,st,hs,o,l,rfl,S,hc,hz,k⟩:=h
  refine ⟨_,(za (wI (i:=2) rfl jF.nd rfl rfl (yT rfl rfl rfl rfl) (zL (K:=K) rfl (zi (qW T) (hr.mono (by decide)) rfl T.bags_around.at_ T.bags_around.fn.kp T.bags_around.b .nil pass0 (zc (pv 0) (zc (pv 1) zb)))) (own:=[("k",3)]) (zW (by kernel_rfl)) (fun _ _ _ _ _=>(zw (i:=3) jF.nd rfl (by first | exact Or.inl rfl | exact Or.inr rfl))) (fun _ _ _ _ _=>jC) (fun _ _ _ _ _=>(zv (zk (K:=K) rfl) (zd (K:=K) rfl (pv 0) rfl) (pv 3) (fun _ _=>rfl))))
   (ze (zm (qT rfl jF.nd (zL (K:=K) rfl (pv 2)) (own:=[("bag",4)]) (zW (by kernel_rfl)) (fun _ _ _ _ _=>(zw (i:=4) jF.nd rfl (by first | exact Or.inl rfl | exact Or.inr rfl))) (fun _ _ _ _ _=>jC) (fun _ _ _ _ _=>(zI jI (zd (K:=K) rfl (pv 4) rfl) (zd (K:=K) rfl (pv 4) rfl))))))),?_⟩
  refine ⟨_,rfl,_,rfl,A,st,hs,o,l,rfl,S,hc,hz,fun p H1 s1 hp hp1=>⟨p,rfl,⟨_,SqL.of hp1⟩,?_⟩⟩
  have S1:=S.same s1
  refine wx (xs:=l) (fun H x v=>v=V.int (x:Int)) (fun x=>V.ref (A.ba.getD x 0)) (SqL.of hp1) (by rw [List.length_map]) (small hz) (fun i v x hv hx=>?_) (fun _ _ _ _ h=>h) ?_ jN ?_
  ·rw [List.getElem?_map,hx] at hv
   cases hv
   rfl
  ·rintro x v H2 N1 hx s2 rfl k1
   obtain ⟨b,hb⟩:∃ b,st.bags[x]? = some b:=⟨_,List.getElem?_eq_getElem (hc.lt x hx)⟩
   have S2:=S1.same s2
   obtain ⟨a,h,ha,_⟩:=S2.bag hb
   have k2:=k1 H2 (Same.refl _)
   rw [jO ha] at k2
   exact ⟨rfl,_,rfl,zP S2 ⟨_,rfl,jb S2.bs ha k2⟩⟩
  ·intro D H2 s2 hD hD2
   have S2:=S1.same s2
   refine ⟨_,rfl,D,rfl,⟨_,SqL.of hD2⟩,wx (xs:=l) (fun H x v=>v=V.ref (A.ba.getD x 0)∧x∈l) (fun x=>V.int (lft st.bags hs x)) (SqL.of hD2) (by rw [List.length_map]) (small hz) (fun i v x hv hx=>?_) (fun _ _ _ _ h=>h) ?_ jN ?_⟩
   ·rw [List.getElem?_map,hx] at hv
    cases hv
    exact ⟨rfl,List.mem_of_getElem? hx⟩
   ·rintro x v H3 N1 hx s3 ⟨rfl,_⟩ k1
    obtain ⟨b,hb⟩:∃ b,st.bags[x]? = some b:=⟨_,List.getElem?_eq_getElem (hc.lt x hx)⟩
    have S3:=S2.same s3
    obtain ⟨a,h,ha,hh,dx,sl,e1,_⟩:=S3.bag hb
    have k2:=k1 H3 (Same.refl _)
    unfold lft at k2
    rw [z3 hb,jO hh] at k2
    rw [jO ha]
    exact ⟨rfl,_,rfl,Ya T e1 ⟨_,rfl,yc T e1 ⟨_,_,rfl,rfl,k2⟩⟩⟩
   ·intro D2 H3 s3 hD2 hD3
    refine k D2 H3 ((s1.trans s2).trans s3) (s1.free (s2.free hD2)) ?_
    rw [hD3,List.map_map]
    rfl
theorem yu:FnScope ["state","b","weight","k","bag"] ["state","b","weight"] (defScope vE):=⟨rfl,rfl,rfl,by decide +kernel,rfl,by decide +kernel,by decide +kernel⟩
def Qc (T:Prog K mg):Sp:=fun vs H Q _=>∃ (A:Adr) (s:State) (hs:List Int) (o:Option Nat) (l:List Nat) (z:Int),vs=[.ref A.st,insV o,.int z]∧StX T H A s hs∧ChS s.bags o l∧l.length≤1000 ∧
 ∀ H',StX T H' A s (addL hs l z)→Frm [T.kBag.C] [] H H'→Q .non H'
theorem jZ (T:Prog K mg):FnOk P w K mg base CX0 2 T.add_load.f T.add_load.fd ["state","b","weight"] (Qc T):=by
 refine T.add_load.fn.ok yu (fun vs H Q E h=>?_) (fun cdv A outer s H vs Q E hr h=>?_)
 ·obtain ⟨A,s,hs,o,l,z,rfl,_⟩:=h
  rfl
 ·obtain ⟨A,st,hs,o,l,z,rfl,S,hc,hz,k⟩:=h
  refine ⟨_,(ze (jH PassesOwn.never rfl (zL (K:=K) rfl (zi (qW T) (hr.mono (by decide)) rfl T.bags_around.at_ T.bags_around.fn.kp T.bags_around.b .nil pass0 (zc (pv 0) (zc (pv 1) zb)))) (zw (i:=3) yu.nd rfl (by first | exact Or.inl rfl | exact Or.inr rfl)) (za (zt (i:=4) yu.nd rfl (by first | exact Or.inl rfl | exact Or.inr rfl) (zv (zk (K:=K) rfl) (zd (K:=K) rfl (pv 0) rfl) (pv 3) (fun _ _=>rfl)))
   (ze (zC (K:=K) rfl (pv 4) (zI jf (zd (K:=K) rfl (pv 4) rfl) (pv 2)) rfl))))),?_⟩
  refine ⟨_,rfl,_,rfl,A,st,hs,o,l,rfl,S,hc,hz,fun p H1 s1 hp hp1=>⟨p,rfl,⟨_,SqL.of hp1⟩,?_⟩⟩
  refine wO (K:=K) (a:=p) (xs:=l.map fun (k:Nat)=>V.int (k:Int)) (fun i σ H'=>StX T H' A st (addL hs (l.take i) z)∧Frm [T.kBag.C] [] H1 H'∧∃ v3 v4,σ=[some (.ref A.st),some (insV o),some (.int z),v3,v4]) ⟨S.same s1,Frm.refl _,_,_,rfl⟩ (fun i σ H' _ h=>SqL.of (h.2.1.lst hp1 (by simp))) ?_ ?_
  ·rintro i v σ H2 hv ⟨S2,f2,v3,v4,rfl⟩
   rw [List.getElem?_map] at hv
   obtain ⟨x,hx,rfl⟩:=Option.map_eq_some_iff.mp hv
   obtain ⟨b,hb⟩:∃ b,st.bags[x]? = some b:=⟨_,List.getElem?_eq_getElem (hc.lt x (List.mem_of_getElem? hx))⟩
   obtain ⟨a,h,ha,hh,dx,sl,e1,n1,p1⟩:=S2.bag hb
   refine ⟨_,rfl,zP S2 ⟨_,rfl,jb S2.bs ha ⟨_,rfl,yc T e1 ⟨_,rfl,_,_,rfl,rfl,_,rfl,a,T.kBag.C,dx,_,rfl,e1,T.kBag.cl,T.kBag.no _ (List.mem_of_getElem? (i:=5) rfl),(by show 6<1000;decide),?_⟩⟩⟩⟩
   have q:=S2.setBag (b':=b) (h':=h+z) ha hb e1 n1 p1
   rw [jD hb] at q
   refine ⟨?_,f2.trans (jp e1 (by simp)),_,_,rfl⟩
   rw [zZ hx,Vm,jO hh]
   exact q
  ·rintro σ H2 ⟨S2,f2,v3,v4,rfl⟩
   rw [List.length_map,List.take_length] at S2
   exact k H2 S2 ((zy s1).trans f2)
end
end BM
end
section
namespace BM
open Vbwsao
theorem ChS.det {bs:List Bag} {o:Option Nat} {l:List Nat} (h:ChS bs o l):∀ {l':List Nat},ChS bs o l'→l=l':=by
 induction h with
 | nil=>intro l' h';cases h';rfl
 | cons hb _ ih=>
  intro l' h'
  cases h' with
  | cons hb' h2=>
   rw [hb] at hb'
   cases hb'
   rw [ih h2]
theorem ChS.part {bs:List Bag} {o:Option Nat} {l:List Nat} (h:ChS bs o l):∀ c∈l,∃ l',ChS bs (some c) l'∧l'.length≤l.length∧∀ k∈l',k∈l:=by
 induction h with
 | nil=>intro c hc;cases hc
 | @cons b x l hb h1 ih=>
  intro c hc
  rcases List.mem_cons.mp hc with rfl | hc
  ·exact ⟨_,.cons hb h1,Nat.le_refl _,fun k hk=>hk⟩
  ·obtain ⟨l',h2,h3,h4⟩:=ih c hc
   exact ⟨l',h2,Nat.le_succ_of_le h3,fun k hk=>List.mem_cons_of_mem _ (h4 k hk)⟩
theorem ChS.nodup {bs:List Bag} {o:Option Nat} {l:List Nat} (h:ChS bs o l):l.Nodup:=by
 induction h with
 | nil=>exact List.nodup_nil
 | @cons b x l hb h1 ih=>
  refine List.nodup_cons.mpr ⟨fun hm=>?_,ih⟩
  obtain ⟨l',h2,h3,_⟩:=h1.part b hm
  have e:=h2.det (.cons hb h1)
  rw [e] at h3
  simp at h3
  omega
theorem xp:∀ (n:Nat) (l:List Nat),l.Nodup→(∀ k∈l,k<n)→l.length≤n
 | 0,[],_,_=>Nat.le_refl _
 | 0,a :: l,_,h=>absurd (h a List.mem_cons_self) (by omega)
 | n+1,l,hn,h=>by
  have h1:(l.erase n).length≤n:=xp n (l.erase n) (hn.erase n) fun k hk=>by
   have h2:=h k (List.mem_of_mem_erase hk)
   have h3:k≠n:=fun e=>by
    subst e
    exact hn.not_mem_erase hk
   omega
  by_cases hm:n∈l
  ·rw [List.length_erase_of_mem hm] at h1
   have:0<l.length:=List.length_pos_of_mem hm
   omega
  ·rw [List.erase_of_not_mem hm] at h1
   omega
theorem ChS.len {bs:List Bag} {o:Option Nat} {l:List Nat} (h:ChS bs o l):l.length≤bs.length:=xp _ _ h.nodup h.lt
theorem zK {bs:List Bag} {j:Nat} {b:Bag} (h:bs[j]? = some b):bagAt bs j=b:=by
 unfold bagAt
 rw [List.getD_eq_getElem?_getD,h]
 rfl
theorem ChS.chain {bs:List Bag} {o:Option Nat} {l:List Nat} (h:ChS bs o l):∀ {b f:Nat},o=some b→l.length≤f→chain bs f b=l:=by
 induction h with
 | nil=>intro b f e;cases e
 | @cons b x l hb h1 ih=>
  intro b' f e hf
  cases e
  cases f with
  | zero=>simp at hf
  | succ f=>
   show (match (bagAt bs b).inside with | some c=>b :: Vbwsao.chain bs f c | none=>[b])=b :: l
   rw [zK hb]
   cases hi:x.inside with
   | none=>
    rw [hi] at h1
    cases h1
    rfl
   | some c=>
    show b :: Vbwsao.chain bs f c=b :: l
    rw [ih hi (by simp at hf;omega)]
theorem ChS.chainOf {bs:List Bag} {b:Nat} {l:List Nat} (h:ChS bs (some b) l):chainOf bs b=l:=h.chain rfl (Nat.le_succ_of_le h.len)
theorem yR:∀ (bs:List Bag) (f b:Nat),chain bs (f+1) b=match (bagAt bs b).inside with | some c=>b :: chain bs f c | none=>[b]:=fun _ _ _=>rfl
def sumTo:Nat→(Nat→Nat)→Nat
 | 0,_=>0
 | n+1,f=>sumTo n f+f n
theorem YG (f:Nat→Nat):∀ n,((List.range n).map f).sum=sumTo n f
 | 0=>rfl
 | n+1=>by rw [List.range_succ,List.map_append,List.sum_append,YG f n];simp [sumTo]
theorem wz (p:Nat→Bool) (f:Nat→Nat):∀ n,(((List.range n).filter p).map f).sum=sumTo n fun e=>if p e=true then f e else 0
 | 0=>rfl
 | n+1=>by
  rw [List.range_succ,List.filter_append,List.map_append,List.sum_append,wz p f n]
  show _=sumTo n _+_
  congr 1
  by_cases h:p n=true
  ·simp [List.filter_cons,h]
  ·simp [List.filter_cons,h]
theorem zJ {n:Nat} {f g:Nat→Nat} (h:∀ i,i<n→f i=g i):sumTo n f=sumTo n g:=by
 induction n with
 | zero=>rfl
 | succ n ih=>show sumTo n f+f n=sumTo n g+g n;rw [ih fun i hi=>h i (by omega),h n (by omega)]
theorem j5 (n:Nat) (f g:Nat→Nat):sumTo n (fun i=>f i+g i)=sumTo n f+sumTo n g:=by
 induction n with
 | zero=>rfl
 | succ n ih=>show sumTo n _+(f n+g n)=(sumTo n f+f n)+(sumTo n g+g n);rw [ih];omega
theorem jA (n:Nat):sumTo n (fun _=>0)=0:=by
 induction n with
 | zero=>rfl
 | succ n ih=>show sumTo n _+0=0;rw [ih]
theorem Zk (n k:Nat) (f:Nat→Nat):sumTo n (fun i=>f i * k)=sumTo n f * k:=by
 induction n with
 | zero=>show 0=0 * k;omega
 | succ n ih=>show sumTo n _+f n * k=(sumTo n f+f n) * k;rw [ih,Nat.add_mul]
theorem uM (n k:Nat) (f:Nat→Nat):sumTo n (fun i=>k * f i)=k * sumTo n f:=by
 induction n with
 | zero=>rfl
 | succ n ih=>show sumTo n _+k * f n=k * (sumTo n f+f n);rw [ih,Nat.mul_add]
theorem Wc (n m:Nat) (f:Nat→Nat→Nat):sumTo n (fun i=>sumTo m (f i))=sumTo m (fun j=>sumTo n fun i=>f i j):=by
 induction n with
 | zero=>exact (jA m).symm
 | succ n ih=>
  show sumTo n _+sumTo m (f n)=sumTo m (fun j=>sumTo n (fun i=>f i j)+f n j)
  rw [j5,ih]
theorem ku {n a:Nat} (h:a<n) (v:Nat→Nat):sumTo n (fun e=>if e=a then v e else 0)=v a:=by
 induction n with
 | zero=>omega
 | succ n ih=>
  show sumTo n _+(if n=a then v n else 0)=v a
  by_cases e:n=a
  ·subst e
   rw [if_pos rfl,zJ (g:=fun _=>0) (fun i hi=>if_neg (by omega)),jA]
   omega
  ·rw [if_neg e,ih (by omega)]
   rfl
theorem Wd {n a:Nat} (h:n≤a) (v:Nat→Nat):sumTo n (fun e=>if e=a then v e else 0)=0:=by
 rw [zJ (g:=fun _=>0) (fun i hi=>if_neg (by omega)),jA]
theorem YH {n b:Nat} (hb:b<n) {f g:Nat→Nat} (h:∀ i,i≠b→f i=g i):sumTo n f+g b=sumTo n g+f b:=by
 induction n with
 | zero=>omega
 | succ n ih=>
  show sumTo n f+f n+g b=sumTo n g+g n+f b
  by_cases e:n=b
  ·subst e
   rw [zJ (g:=g) fun i hi=>h i (by omega)]
   omega
  ·have:=ih (by omega)
   rw [h n e]
   omega
theorem xH (bs:List Bag):∀ (f d:Nat),chain bs (f+1) d=d :: (chain bs f d).filterMap fun e=>(bagAt bs e).inside
 | 0,d=>by
  rw [yR]
  cases (bagAt bs d).inside <;> rfl
 | f+1,d=>by
  rw [yR]
  cases h:(bagAt bs d).inside with
  | none=>
   rw [yR,h]
   simp [h]
  | some c=>
   rw [yR bs f d,h]
   show d :: chain bs (f+1) c=d :: (d :: chain bs f c).filterMap _
   rw [List.filterMap_cons,h,xH bs f c]
theorem QX {bs:List Bag} (hi:∀ b c,(bagAt bs b).inside=some c→c<bs.length):∀ (f d:Nat),d<bs.length→∀ k∈chain bs f d,k<bs.length
 | 0,d,_,k,hk=>by cases hk
 | f+1,d,hd,k,hk=>by
  rw [yR] at hk
  cases h:(bagAt bs d).inside with
  | none=>
   rw [h] at hk
   simp at hk
   omega
  | some c=>
   rw [h] at hk
   rcases List.mem_cons.mp hk with rfl | hk
   ·exact hd
   ·exact QX hi f c (hi d c h) k hk
theorem QW (n c:Nat) (g:Nat→Option Nat):∀ l:List Nat,(∀ k∈l,k<n)→(l.filterMap g).count c=sumTo n fun e=>if (g e == some c)=true then l.count e else 0
 | [],_=>by
  rw [zJ (g:=fun _=>0) (fun i _=>by simp),jA]
  rfl
 | a :: l,h=>by
  have ih:=QW n c g l fun k hk=>h k (List.mem_cons_of_mem _ hk)
  have ha:=h a List.mem_cons_self
  have e1:(sumTo n fun e=>if (g e == some c)=true then (a :: l).count e else 0)=sumTo n (fun e=>if (g e == some c)=true then l.count e else 0)+sumTo n (fun e=>if e=a then (if (g e == some c)=true then 1 else 0) else 0):=by
   rw [← j5]
   refine zJ fun i hi=>?_
   rw [List.count_cons]
   by_cases h1:(g i == some c)=true
   ·rw [if_pos h1,if_pos h1,if_pos h1]
    by_cases h2:i=a
    ·subst h2;simp
    ·have:(a == i)=false:=beq_eq_false_iff_ne.mpr (Ne.symm h2)
     rw [this,if_neg h2];rfl
   ·rw [if_neg h1,if_neg h1,if_neg h1]
    split <;> rfl
  rw [e1,ku ha,List.filterMap_cons,← ih]
  cases hg:g a with
  | none=>simp
  | some d=>
   show List.count c (d :: l.filterMap g)=_
   rw [List.count_cons]
   congr 1
def wt (gs:List Good) (bs:List Bag) (d:Nat):Nat:=(bagAt bs d).own+stacksWeight gs (bagAt bs d).stacks
theorem ZK {bs:List Bag} {j:Nat} (h:bs.length≤j):bagAt bs j=⟨none,0,0,0,[]⟩:=by
 unfold bagAt
 rw [List.getD_eq_getElem?_getD,List.getElem?_eq_none h]
 rfl
theorem QH (gs:List Good) {bs:List Bag} (hi:∀ b c,(bagAt bs b).inside=some c→c<bs.length):∀ (f c:Nat),load gs bs f c=sumTo bs.length fun d=>wt gs bs d * (chain bs f d).count c
 | 0,c=>by
  show 0=_
  rw [zJ (g:=fun _=>0) (fun i _=>by show wt gs bs i * ([]:List Nat).count c=0;simp),jA]
 | f+1,c=>by
  show (bagAt bs c).own+(stacksWeight gs (bagAt bs c).stacks+((within bs c).map (load gs bs f)).sum)=_
  have e1:((within bs c).map (load gs bs f)).sum=sumTo bs.length fun e=>if ((bagAt bs e).inside == some c)=true then (sumTo bs.length fun d=>wt gs bs d * (chain bs f d).count e) else 0:=by
   unfold within
   rw [wz]
   refine zJ fun i _=>?_
   rw [QH gs hi f i]
  have e2:(sumTo bs.length fun d=>wt gs bs d * (chain bs (f+1) d).count c)=sumTo bs.length (fun d=>if d=c then wt gs bs d else 0)+sumTo bs.length (fun d=>sumTo bs.length fun e=>if ((bagAt bs e).inside == some c)=true then wt gs bs d * (chain bs f d).count e else 0):=by
   rw [← j5]
   refine zJ fun d hd=>?_
   rw [xH,List.count_cons,QW bs.length c _ _ (QX hi f d hd),Nat.mul_add,← uM,Nat.add_comm]
   congr 1
   ·by_cases h:d=c
    ·subst h;simp
    ·have:(d == c)=false:=beq_eq_false_iff_ne.mpr h
     rw [this,if_neg h];simp
   ·refine zJ fun e _=>?_
    by_cases h:((bagAt bs e).inside == some c)=true
    ·rw [if_pos h,if_pos h]
    ·rw [if_neg h,if_neg h]
     omega
  rw [e1,e2,Wc]
  have e3:(sumTo bs.length fun d=>if d=c then wt gs bs d else 0)=wt gs bs c:=by
   by_cases hc:c<bs.length
   ·exact ku hc _
   ·rw [Wd (by omega)]
    unfold wt
    rw [ZK (by omega)]
    rfl
  rw [e3]
  have e4:(sumTo bs.length fun e=>if ((bagAt bs e).inside == some c)=true then (sumTo bs.length fun d=>wt gs bs d * (chain bs f d).count e) else 0)=sumTo bs.length fun j=>sumTo bs.length fun i=>if ((bagAt bs j).inside == some c)=true then wt gs bs i * (chain bs f i).count j else 0:=by
   refine zJ fun e _=>?_
   by_cases h:((bagAt bs e).inside == some c)=true
   ·simp only [if_pos h]
   ·simp only [if_neg h]
    rw [jA]
  rw [e4]
  unfold wt
  omega
structure GInv (gs:List Good):Prop where
 len:gs.length≤10
 ok:∀ x∈gs,1≤x.weight∧x.weight≤1000∧1≤x.stack∧x.stack≤100∧x.price≤1000
def StkOk (gs:List Good) (l:List (Nat × Nat)):Prop:=∀ x∈l,x.1<gs.length∧1≤x.2∧x.2≤(goodAt gs x.1).stack
structure BInv (gs:List Good) (bs:List Bag):Prop where
 len:bs.length≤12
 ac:∀ b,b<bs.length→∃ l,ChS bs (some b) l
 st:∀ b∈bs,StkOk gs b.stacks
 sl:∀ b∈bs,b.slots≤40
 fine:allFine gs bs=true
theorem qX {gs:List Good} {g:Nat} {x:Good} (h:gs[g]? = some x):goodAt gs g=x:=by
 unfold goodAt
 rw [List.getD_eq_getElem?_getD,h]
 rfl
theorem GInv.at {gs:List Good} (G:GInv gs) {g:Nat} (h:g<gs.length):1≤(goodAt gs g).weight∧(goodAt gs g).weight≤1000∧1≤(goodAt gs g).stack∧(goodAt gs g).stack≤100∧(goodAt gs g).price≤1000:=by
 rw [qX (List.getElem?_eq_getElem h)]
 exact G.ok _ (List.getElem_mem h)
theorem ZO {bs:List Bag} (ac:∀ b,b<bs.length→∃ l,ChS bs (some b) l):∀ b c,(bagAt bs b).inside=some c→c<bs.length:=by
 intro b c h
 by_cases hb:b<bs.length
 ·obtain ⟨l,hl⟩:=ac b hb
  cases hl with
  | cons hb' h2=>
   rw [zK hb'] at h
   rw [h] at h2
   cases h2 with
   | cons hc _=>exact (List.getElem?_eq_some_iff.mp hc).1
 ·rw [ZK (by omega)] at h
  cases h
theorem jy {gs:List Good} {bs:List Bag}:allFine gs bs=true↔∀ b,b<bs.length→holds gs bs b≤(bagAt bs b).room∧usedSlots bs b≤(bagAt bs b).slots:=by
 unfold allFine bagFine
 simp only [List.all_eq_true,List.mem_range,Bool.and_eq_true,decide_eq_true_eq]
theorem jW (gs:List Good) {bs:List Bag} (ac:∀ b,b<bs.length→∃ l,ChS bs (some b) l) (c:Nat):loadOf gs bs c=sumTo bs.length fun d=>wt gs bs d * (chainOf bs d).count c:=QH gs (ZO ac) _ _
theorem jg (gs:List Good) (bs:List Bag) (c:Nat):loadOf gs bs c=(bagAt bs c).own+holds gs bs c:=by
 unfold holds
 have:(bagAt bs c).own≤loadOf gs bs c:=by
  show _≤(bagAt bs c).own+_
  omega
 omega
theorem kE (bs:List Bag) (b:Nat) (f:Bag→Bag) {x:Bag} (h:bs[b]? = some x):setBag bs b f=bs.set b (f x):=by
 unfold setBag
 apply List.ext_getElem?
 intro i
 rw [List.getElem?_map,List.getElem?_zipIdx]
 by_cases e:b=i
 ·subst e
  rw [List.getElem?_set_self (List.getElem?_eq_some_iff.mp h).1,h]
  simp
 ·rw [List.getElem?_set_ne e]
  cases bs[i]? with
  | none=>rfl
  | some y=>
   simp
   intro q
   exact absurd q.symm e
theorem zX {bs:List Bag} {b:Nat} {x y:Bag} (h:bs[b]? = some x):bagAt (bs.set b y) b=y:=zK (List.getElem?_set_self (List.getElem?_eq_some_iff.mp h).1)
theorem jh {bs:List Bag} {b c:Nat} {y:Bag} (h:c≠b):bagAt (bs.set b y) c=bagAt bs c:=by
 unfold bagAt
 rw [List.getD_eq_getElem?_getD,List.getD_eq_getElem?_getD,List.getElem?_set_ne (Ne.symm h)]
theorem ChS.set {bs:List Bag} {b:Nat} {x y:Bag} (hx:bs[b]? = some x) (hi:y.inside=x.inside) {o:Option Nat} {l:List Nat} (h:ChS bs o l):ChS (bs.set b y) o l:=by
 induction h with
 | nil=>exact .nil
 | @cons c z l hc h1 ih=>
  by_cases e:b=c
  ·subst e
   rw [hx] at hc
   cases hc
   exact .cons (List.getElem?_set_self (List.getElem?_eq_some_iff.mp hx).1) (by rw [hi];exact ih)
  ·exact .cons (by rw [List.getElem?_set_ne e];exact hc) ih
theorem Q4 {bs:List Bag} {b:Nat} {x y:Bag} (hx:bs[b]? = some x) (hi:y.inside=x.inside) (c:Nat):within (bs.set b y) c=within bs c:=by
 unfold within
 rw [List.length_set]
 refine List.filter_congr fun d _=>?_
 by_cases e:d=b
 ·subst e
  rw [zX hx,zK hx,hi]
 ·rw [jh e]
theorem wc (gs:List Good) {bs:List Bag} (ac:∀ b,b<bs.length→∃ l,ChS bs (some b) l) {b:Nat} {x:Bag} {l:List Nat} (hx:bs[b]? = some x) (hl:ChS bs (some b) l) (ys:List (Nat × Nat)) (c:Nat) :
  holds gs (bs.set b { x with stacks:=ys }) c+stacksWeight gs x.stacks * l.count c=holds gs bs c+stacksWeight gs ys * l.count c:=by
 have ac':∀ d,d<(bs.set b { x with stacks:=ys }).length→∃ l,ChS (bs.set b { x with stacks:=ys }) (some d) l:=fun d hd=>by
  rw [List.length_set] at hd
  obtain ⟨m,hm⟩:=ac d hd
  exact ⟨m,hm.set (y:={ x with stacks:=ys }) hx rfl⟩
 have hb:=(List.getElem?_eq_some_iff.mp hx).1
 have ech:∀ d,d<bs.length→chainOf (bs.set b { x with stacks:=ys }) d=chainOf bs d:=fun d hd=>by
  obtain ⟨m,hm⟩:=ac d hd
  rw [(hm.set (y:={ x with stacks:=ys }) hx rfl).chainOf,hm.chainOf]
 have e1:=jW gs ac c
 have e2:=jW gs ac' c
 rw [List.length_set,zJ (g:=fun d=>wt gs (bs.set b { x with stacks:=ys }) d * (chainOf bs d).count c) (fun d hd=>by rw [ech d hd])] at e2
 have e3:=YH hb (f:=fun d=>wt gs (bs.set b { x with stacks:=ys }) d * (chainOf bs d).count c) (g:=fun d=>wt gs bs d * (chainOf bs d).count c) fun i hi=>by
  unfold wt
  rw [jh hi]
 rw [← e1,← e2] at e3
 have e4:wt gs (bs.set b { x with stacks:=ys }) b=x.own+stacksWeight gs ys:=by
  unfold wt
  rw [zX hx]
 have e5:wt gs bs b=x.own+stacksWeight gs x.stacks:=by
  unfold wt
  rw [zK hx]
 simp only [e4,e5,hl.chainOf,Nat.add_mul] at e3
 have e6:(bagAt (bs.set b { x with stacks:=ys }) c).own=(bagAt bs c).own:=by
  by_cases e:c=b
  ·subst e
   rw [zX hx,zK hx]
  ·rw [jh e]
 have e7:=jg gs bs c
 have e8:=jg gs (bs.set b { x with stacks:=ys }) c
 rw [e6] at e8
 omega
theorem ChS.app {bs:List Bag} {y:Bag} {o:Option Nat} {l:List Nat} (h:ChS bs o l):ChS (bs++[y]) o l:=by
 induction h with
 | nil=>exact .nil
 | cons hc h1 ih=>exact .cons (by rw [List.getElem?_append_left (List.getElem?_eq_some_iff.mp hc).1];exact hc) ih
theorem qf {bs:List Bag} {y:Bag} {c:Nat} (h:c<bs.length):bagAt (bs++[y]) c=bagAt bs c:=by
 unfold bagAt
 rw [List.getD_eq_getElem?_getD,List.getD_eq_getElem?_getD,List.getElem?_append_left h]
theorem vb {bs:List Bag} {y:Bag}:bagAt (bs++[y]) bs.length=y:=zK (List.getElem?_concat_length ..)
theorem ac_app {bs:List Bag} (ac:∀ b,b<bs.length→∃ l,ChS bs (some b) l) {y:Bag} {l:List Nat} (hl:ChS bs y.inside l):∀ b,b<(bs++[y]).length→∃ l,ChS (bs++[y]) (some b) l:=fun d hd=>by
 rw [List.length_append,List.length_singleton] at hd
 by_cases e:d<bs.length
 ·obtain ⟨m,hm⟩:=ac d e
  exact ⟨m,hm.app⟩
 ·have e2:d=bs.length:=by omega
  subst e2
  exact ⟨_,.cons (List.getElem?_concat_length ..) hl.app⟩
theorem load_new (gs:List Good) {bs:List Bag} (ac:∀ b,b<bs.length→∃ l,ChS bs (some b) l) {y:Bag} {l:List Nat} (hl:ChS bs y.inside l) (hy:y.stacks=[]) (c:Nat) :
  loadOf gs (bs++[y]) c=(if c<bs.length then loadOf gs bs c else 0)+y.own * (bs.length :: l).count c:=by
 have e2:=jW gs (ac_app ac hl) c
 rw [List.length_append,List.length_singleton] at e2
 have e3:chainOf (bs++[y]) bs.length=bs.length :: l:=(ChS.cons (List.getElem?_concat_length ..) hl.app).chainOf
 have e4:wt gs (bs++[y]) bs.length=y.own:=by
  unfold wt
  rw [vb,hy]
  rfl
 rw [e2]
 show sumTo bs.length _+wt gs (bs++[y]) bs.length * (chainOf (bs++[y]) bs.length).count c=_
 rw [e3,e4]
 congr 1
 by_cases hc:c<bs.length
 ·rw [if_pos hc,jW gs ac c]
  refine zJ fun d hd=>?_
  obtain ⟨m,hm⟩:=ac d hd
  rw [hm.app.chainOf,hm.chainOf]
  unfold wt
  rw [qf hd]
 ·rw [if_neg hc,zJ (g:=fun _=>0) (fun d hd=>?_),jA]
  obtain ⟨m,hm⟩:=ac d hd
  rw [hm.app.chainOf,List.count_eq_zero.mpr (fun h=>hc (hm.lt c h))]
  omega
theorem ChS.off {bs:List Bag} {a:Nat} {x:Bag} {lp:List Nat} (hx:bs[a]? = some x) (hp:ChS bs x.inside lp) {o:Option Nat} {l:List Nat} (h:ChS bs o l):∃ l0,ChS (bs.set a { x with inside:=none }) o l0∧l=l0++(if a∈l then lp else [])∧(a∈l0↔a∈l):=by
 induction h with
 | nil=>exact ⟨[],.nil,by simp,by simp⟩
 | @cons c z l hc h1 ih=>
  by_cases e:a=c
  ·subst e
   rw [hx] at hc
   cases hc
   have:=h1.det hp
   subst this
   exact ⟨[a],.cons (List.getElem?_set_self (List.getElem?_eq_some_iff.mp hx).1) .nil,by simp,by simp⟩
  ·obtain ⟨l0,h2,h3,h4⟩:=ih
   refine ⟨c :: l0,.cons (by rw [List.getElem?_set_ne e];exact hc) h2,?_,by simp [e,h4]⟩
   have:(a∈c :: l)↔(a∈l):=by simp [e]
   by_cases hm:a∈l
   ·rw [if_pos (this.mpr hm)]
    rw [if_pos hm] at h3
    rw [List.cons_append,← h3]
   ·rw [if_neg (fun q=>hm (this.mp q))]
    rw [if_neg hm] at h3
    rw [List.cons_append,← h3]
theorem QI (gs:List Good) {bs:List Bag} (ac:∀ b,b<bs.length→∃ l,ChS bs (some b) l) {a:Nat} {x:Bag} {lp:List Nat} (hx:bs[a]? = some x) (hp:ChS bs x.inside lp) (c:Nat) :
  loadOf gs bs c=loadOf gs (bs.set a { x with inside:=none }) c+loadOf gs bs a * lp.count c:=by
 have ac0:∀ d,d<(bs.set a { x with inside:=none }).length→∃ l,ChS (bs.set a { x with inside:=none }) (some d) l:=fun d hd=>by
  rw [List.length_set] at hd
  obtain ⟨m,hm⟩:=ac d hd
  obtain ⟨l0,h0,_⟩:=ChS.off hx hp hm
  exact ⟨l0,h0⟩
 rw [jW gs ac c,jW gs ac0 c,jW gs ac a,List.length_set,← Zk,← j5]
 refine zJ fun d hd=>?_
 obtain ⟨m,hm⟩:=ac d hd
 obtain ⟨l0,h0,h1,h2⟩:=ChS.off hx hp hm
 have e:wt gs (bs.set a { x with inside:=none }) d=wt gs bs d:=by
  unfold wt
  by_cases e:d=a
  ·subst e
   rw [zX hx,zK hx]
  ·rw [jh e]
 rw [hm.chainOf,h0.chainOf,e]
 have e2:m.count a=if a∈m then 1 else 0:=by
  by_cases hq:a∈m
  ·rw [if_pos hq]
   exact List.Nodup.count hm.nodup |>.trans (if_pos hq)
  ·rw [if_neg hq,List.count_eq_zero.mpr hq]
 rw [e2]
 by_cases hq:a∈m
 ·rw [if_pos hq] at h1 ⊢
  rw [h1,List.count_append,Nat.mul_add,Nat.mul_one]
 ·rw [if_neg hq] at h1 ⊢
  rw [List.append_nil] at h1
  rw [h1]
  omega
def spaceOf (xs:List (Nat × Nat)) (g size:Nat):Nat:=((xs.filter fun y=>y.1 == g).map fun y=>size - y.2).sum
theorem qg (gs:List Good) (x:Nat × Nat) (l:List (Nat × Nat)):stacksWeight gs (x :: l)=(goodAt gs x.1).weight * x.2+stacksWeight gs l:=rfl
theorem Wb (gs:List Good) (l m:List (Nat × Nat)):stacksWeight gs (l++m)=stacksWeight gs l+stacksWeight gs m:=by
 unfold stacksWeight
 rw [List.map_append,List.sum_append]
theorem Wa (gs:List Good):∀ l:List (Nat × Nat),stacksWeight gs l.reverse=stacksWeight gs l
 | []=>rfl
 | x :: l=>by
  rw [List.reverse_cons,Wb,Wa gs l,qg,qg]
  show _+(_+0)=_
  omega
theorem jS (x:Nat × Nat) (l:List (Nat × Nat)) (g:Nat):countIn (x :: l) g=(if x.1=g then x.2 else 0)+countIn l g:=by
 unfold countIn
 rw [List.filter_cons]
 by_cases e:x.1=g
 ·simp [e]
 ·simp [e]
theorem W0 (l m:List (Nat × Nat)) (g:Nat):countIn (l++m) g=countIn l g+countIn m g:=by
 unfold countIn
 rw [List.filter_append,List.map_append,List.sum_append]
theorem JE (g:Nat):∀ l:List (Nat × Nat),countIn l.reverse g=countIn l g
 | []=>rfl
 | x :: l=>by
  rw [List.reverse_cons,W0,JE g l,jS,jS]
  show _+(_+0)=_
  omega
theorem sp_cons (x:Nat × Nat) (l:List (Nat × Nat)) (g size:Nat):spaceOf (x :: l) g size=(if x.1=g then size - x.2 else 0)+spaceOf l g size:=by
 unfold spaceOf
 rw [List.filter_cons]
 by_cases e:x.1=g
 ·simp [e]
 ·simp [e]
theorem qI {size g h m n:Nat} {r:List (Nat × Nat)} (e:h=g):fill size g n ((h,m) :: r)=((fill size g (n - min n (size - m)) r).1,(h,m+min n (size - m)) :: (fill size g (n - min n (size - m)) r).2):=by
 simp only [fill,if_pos e]
theorem qH {size g h m n:Nat} {r:List (Nat × Nat)} (e:¬ h=g):fill size g n ((h,m) :: r)=((fill size g n r).1,(h,m) :: (fill size g n r).2):=by
 simp only [fill,if_neg e]
theorem ZT (gs:List Good) (size g:Nat):∀ (l:List (Nat × Nat)) (n:Nat),stacksWeight gs (fill size g n l).2+(goodAt gs g).weight * (fill size g n l).1=stacksWeight gs l+(goodAt gs g).weight * n
 | [],n=>rfl
 | (h,m) :: r,n=>by
  by_cases e:h=g
  ·subst e
   rw [qI rfl]
   have ih:=ZT gs size h r (n - min n (size - m))
   rw [qg,qg]
   show (goodAt gs h).weight * (m+min n (size - m))+stacksWeight gs (fill size h (n - min n (size - m)) r).2+(goodAt gs h).weight * (fill size h (n - min n (size - m)) r).1=(goodAt gs h).weight * m+stacksWeight gs r+(goodAt gs h).weight * n
   have e2:(goodAt gs h).weight * n=(goodAt gs h).weight * (n - min n (size - m))+(goodAt gs h).weight * min n (size - m):=by
    rw [← Nat.mul_add]
    congr 1
    omega
   rw [Nat.mul_add]
   omega
  ·rw [qH e]
   have ih:=ZT gs size g r n
   rw [qg,qg]
   show (goodAt gs h).weight * m+stacksWeight gs (fill size g n r).2+(goodAt gs g).weight * (fill size g n r).1=(goodAt gs h).weight * m+stacksWeight gs r+(goodAt gs g).weight * n
   omega
theorem kY (size g:Nat):∀ (l:List (Nat × Nat)) (n:Nat),(fill size g n l).1=n - spaceOf l g size
 | [],n=>rfl
 | (h,m) :: r,n=>by
  rw [sp_cons]
  by_cases e:h=g
  ·rw [qI e]
   show (fill size g (n - min n (size - m)) r).1=_
   rw [kY size g r,if_pos e]
   show _=n - ((size - m)+_)
   omega
  ·rw [qH e]
   show (fill size g n r).1=_
   rw [kY size g r,if_neg e]
   omega
theorem JF (size g h:Nat):∀ (l:List (Nat × Nat)) (n:Nat),countIn (fill size g n l).2 h+(if h=g then (fill size g n l).1 else 0)=countIn l h+(if h=g then n else 0)
 | [],n=>rfl
 | (c,m) :: r,n=>by
  by_cases e:c=g
  ·rw [qI e]
   have ih:=JF size g h r (n - min n (size - m))
   rw [jS,jS]
   by_cases e2:h=g
   ·simp only [e2,e,if_pos] at ih ⊢
    omega
   ·have e3:¬ c=h:=fun q=>e2 (q ▸ e)
    simp only [if_neg e2,if_neg e3] at ih ⊢
    omega
  ·rw [qH e]
   have ih:=JF size g h r n
   rw [jS,jS]
   show (if c=h then m else 0)+countIn (fill size g n r).2 h+(if h=g then (fill size g n r).1 else 0)=(if c=h then m else 0)+countIn r h+(if h=g then n else 0)
   omega
theorem sw_new (gs:List Good) (size g:Nat) (hs:1≤size):∀ (f n:Nat),n≤f→stacksWeight gs (newStacks size g f n)=(goodAt gs g).weight * n
 | 0,n,h=>by
  have:n=0:=by omega
  subst this
  rfl
 | f+1,n,h=>by
  by_cases e:n=0
  ·subst e
   rw [jK]
   rfl
  ·rw [jQ _ _ _ _ (by omega),qg,sw_new gs size g hs f (n - size) (by omega)]
   show (goodAt gs g).weight * min size n+_=_
   rw [← Nat.mul_add]
   congr 1
   omega
theorem ct_new (size g h:Nat) (hs:1≤size):∀ (f n:Nat),n≤f→countIn (newStacks size g f n) h=if h=g then n else 0
 | 0,n,hn=>by
  have:n=0:=by omega
  subst this
  show 0=_
  split <;> rfl
 | f+1,n,hn=>by
  by_cases e:n=0
  ·subst e
   rw [jK]
   show 0=_
   split <;> rfl
  ·rw [jQ _ _ _ _ (by omega),jS,ct_new size g h hs f (n - size) (by omega)]
   by_cases e2:h=g
   ·subst e2
    simp only [if_pos]
    omega
   ·rw [if_neg e2,if_neg e2,if_neg (fun q=>e2 q.symm)]
theorem Ye (size g:Nat) (hs:1≤size):∀ (f n k:Nat),n≤f→((newStacks size g f n).length≤k↔n≤k * size)
 | 0,n,k,hn=>by
  have:n=0:=by omega
  subst this
  simp [newStacks]
 | f+1,n,k,hn=>by
  by_cases e:n=0
  ·subst e
   rw [jK]
   simp
  ·rw [jQ _ _ _ _ (by omega),List.length_cons]
   cases k with
   | zero=>simp;omega
   | succ k=>
    have ih:=Ye size g hs f (n - size) k (by omega)
    rw [Nat.add_mul,Nat.one_mul]
    constructor
    ·intro h
     have:=ih.mp (by omega)
     omega
    ·intro h
     have:=ih.mpr (by omega)
     omega
theorem xa (size g n:Nat) (l:List (Nat × Nat)):putStacks size g n l=(fill size g n l).2++newStacks size g n (fill size g n l).1:=rfl
theorem sw_put (gs:List Good) (size g n:Nat) (hs:1≤size) (l:List (Nat × Nat)):stacksWeight gs (putStacks size g n l)=stacksWeight gs l+(goodAt gs g).weight * n:=by
 rw [xa,Wb,sw_new gs size g hs _ _ (y8 _ _ _ _)]
 exact ZT gs size g l n
theorem ct_put (size g h n:Nat) (hs:1≤size) (l:List (Nat × Nat)):countIn (putStacks size g n l) h=countIn l h+if h=g then n else 0:=by
 rw [xa,W0,ct_new size g h hs _ _ (y8 _ _ _ _)]
 exact JF size g h l n
theorem put_len (size g n k:Nat) (hs:1≤size) (l:List (Nat × Nat)):(putStacks size g n l).length≤l.length+k↔n≤spaceOf l g size+k * size:=by
 rw [xa,List.length_append,wP]
 have h1:=Ye size g hs n (fill size g n l).1 k (y8 _ _ _ _)
 rw [kY] at h1 ⊢
 constructor
 ·intro h
  have:=h1.mp (by omega)
  omega
 ·intro h
  have:=h1.mpr (by omega)
  omega
theorem put_len_ge (size g n:Nat) (l:List (Nat × Nat)):l.length≤(putStacks size g n l).length:=by
 rw [xa,List.length_append,wP]
 omega
theorem JC {gs:List Good} {g:Nat} (hg:g<gs.length):∀ (l:List (Nat × Nat)) (n:Nat),StkOk gs l→StkOk gs (fill (goodAt gs g).stack g n l).2
 | [],n,_=>fun x hx=>by cases hx
 | (h,m) :: r,n,hl=>by
  have h1:=hl (h,m) List.mem_cons_self
  have h2:StkOk gs r:=fun x hx=>hl x (List.mem_cons_of_mem _ hx)
  by_cases e:h=g
  ·subst e
   rw [qI rfl]
   intro x hx
   rcases List.mem_cons.mp hx with rfl | hx
   ·obtain ⟨a,b,c⟩:=h1
    have c':m≤(goodAt gs h).stack:=c
    have b':1≤m:=b
    refine ⟨hg,?_,?_⟩
    ·show 1≤m+_
     omega
    ·show m+min n ((goodAt gs h).stack - m)≤(goodAt gs h).stack
     omega
   ·exact JC hg r _ h2 x hx
  ·rw [qH e]
   intro x hx
   rcases List.mem_cons.mp hx with rfl | hx
   ·exact h1
   ·exact JC hg r _ h2 x hx
theorem new_ok {gs:List Good} {g:Nat} (hg:g<gs.length) (hs:1≤(goodAt gs g).stack):∀ (f n:Nat),StkOk gs (newStacks (goodAt gs g).stack g f n)
 | 0,n=>fun x hx=>by cases hx
 | f+1,n=>by
  by_cases e:n=0
  ·subst e
   rw [jK]
   exact fun x hx=>by cases hx
  ·rw [jQ _ _ _ _ (by omega)]
   intro x hx
   rcases List.mem_cons.mp hx with rfl | hx
   ·refine ⟨hg,?_,Nat.min_le_left _ _⟩
    show 1≤min _ n
    omega
   ·exact new_ok hg hs f _ x hx
theorem put_ok {gs:List Good} {g:Nat} (hg:g<gs.length) (hs:1≤(goodAt gs g).stack) (n:Nat) {l:List (Nat × Nat)} (hl:StkOk gs l):StkOk gs (putStacks (goodAt gs g).stack g n l):=by
 rw [xa]
 intro x hx
 rcases List.mem_append.mp hx with hx | hx
 ·exact JC hg l n hl x hx
 ·exact new_ok hg hs _ _ x hx
theorem sw_tb (gs:List Good) (g:Nat):∀ (l:List (Nat × Nat)) (n:Nat),n≤countIn l g→stacksWeight gs (takeBack g n l)+(goodAt gs g).weight * n=stacksWeight gs l
 | [],n,h=>by
  have:n=0:=by
   have:countIn [] g=0:=rfl
   omega
  subst this
  rfl
 | (h,m) :: r,n,hn=>by
  rw [jS] at hn
  by_cases e:h=g
  ·subst e
   rw [if_pos rfl] at hn
   rw [ql rfl,Wb,qg]
   have ih:=sw_tb gs h r (n - min n m) (by show n - min n m≤_;omega)
   have e2:(goodAt gs h).weight * n=(goodAt gs h).weight * (n - min n m)+(goodAt gs h).weight * min n m:=by
    rw [← Nat.mul_add]
    congr 1
    omega
   have e3:stacksWeight gs (if m=min n m then [] else [(h,m - min n m)])+(goodAt gs h).weight * min n m=(goodAt gs h).weight * m:=by
    by_cases q:m=min n m
    ·rw [if_pos q,← q]
     show 0+_=_
     omega
    ·rw [if_neg q]
     show (goodAt gs h).weight * (m - min n m)+0+_=_
     rw [Nat.add_zero,← Nat.mul_add]
     congr 1
     omega
   show _=(goodAt gs h).weight * m+_
   omega
  ·rw [if_neg e] at hn
   rw [qk e,qg,qg]
   have ih:=sw_tb gs g r n (by omega)
   omega
theorem ct_tb (g h:Nat):∀ (l:List (Nat × Nat)) (n:Nat),countIn (takeBack g n l) h=if h=g then countIn l h - n else countIn l h
 | [],n=>by
  show 0=if h=g then 0 - n else 0
  split <;> omega
 | (c,m) :: r,n=>by
  by_cases e:c=g
  ·rw [ql e,W0,jS,ct_tb g h r]
   have e3:countIn (if m=min n m then [] else [(c,m - min n m)]) h=if c=h then m - min n m else 0:=by
    by_cases q:m=min n m
    ·rw [if_pos q]
     show 0=_
     split <;> omega
    ·rw [if_neg q,jS]
     rfl
   rw [e3]
   by_cases e2:h=g
   ·have e4:c=h:=e.trans e2.symm
    simp only [if_pos e2,if_pos e4]
    omega
   ·have e4:¬ c=h:=fun q=>e2 (q ▸ e)
    simp only [if_neg e2,if_neg e4]
  ·rw [qk e,jS,jS,ct_tb g h r]
   by_cases e2:h=g
   ·have e4:¬ c=h:=fun q=>e (q.trans e2)
    simp only [if_pos e2,if_neg e4]
    omega
   ·simp only [if_neg e2]
theorem tb_ok {gs:List Good} (g:Nat):∀ (l:List (Nat × Nat)) (n:Nat),StkOk gs l→StkOk gs (takeBack g n l)
 | [],n,_=>fun x hx=>by cases hx
 | (h,m) :: r,n,hl=>by
  have h1:=hl (h,m) List.mem_cons_self
  have h2:StkOk gs r:=fun x hx=>hl x (List.mem_cons_of_mem _ hx)
  by_cases e:h=g
  ·rw [ql e]
   intro x hx
   rcases List.mem_append.mp hx with hx | hx
   ·by_cases q:m=min n m
    ·rw [if_pos q] at hx
     cases hx
    ·rw [if_neg q] at hx
     simp at hx
     subst hx
     obtain ⟨a,b,c⟩:=h1
     have c':m≤(goodAt gs h).stack:=c
     refine ⟨a,?_,?_⟩
     ·show 1≤m - min n m
      omega
     ·show m - min n m≤(goodAt gs h).stack
      omega
   ·exact tb_ok g r _ h2 x hx
  ·rw [qk e]
   intro x hx
   rcases List.mem_cons.mp hx with rfl | hx
   ·exact h1
   ·exact tb_ok g r _ h2 x hx
theorem Q9 (g:Nat):∀ (l:List (Nat × Nat)) (n:Nat),(takeBack g n l).length≤l.length
 | [],n=>Nat.le_refl _
 | (h,m) :: r,n=>by
  by_cases e:h=g
  ·rw [ql e,List.length_append]
   have:=Q9 g r (n - min n m)
   have h2:(if m=min n m then ([]:List (Nat × Nat)) else [(h,m - min n m)]).length≤1:=by split <;> simp
   rw [List.length_cons]
   omega
  ·rw [qk e]
   have:=Q9 g r n
   simp
   omega
theorem sw_take (gs:List Good) (g n:Nat) (l:List (Nat × Nat)) (h:n≤countIn l g):stacksWeight gs (takeStacks g n l)+(goodAt gs g).weight * n=stacksWeight gs l:=by
 unfold takeStacks
 rw [Wa,sw_tb gs g l.reverse n (by rw [JE];exact h),Wa]
theorem uC (g h n:Nat) (l:List (Nat × Nat)):countIn (takeStacks g n l) h=if h=g then countIn l h - n else countIn l h:=by
 unfold takeStacks
 rw [JE,ct_tb,JE]
theorem take_ok {gs:List Good} (g n:Nat) {l:List (Nat × Nat)} (hl:StkOk gs l):StkOk gs (takeStacks g n l):=by
 unfold takeStacks
 intro x hx
 exact tb_ok g l.reverse n (fun y hy=>hl y (List.mem_reverse.mp hy)) x (List.mem_reverse.mp hx)
theorem take_len (g n:Nat) (l:List (Nat × Nat)):(takeStacks g n l).length≤l.length:=by
 unfold takeStacks
 rw [List.length_reverse]
 have:=Q9 g l.reverse n
 rw [List.length_reverse] at this
 exact this
theorem yj {l:List Nat} (h:l.Nodup) (c:Nat):l.count c=if c∈l then 1 else 0:=List.Nodup.count h
theorem z6 (gs:List Good) {bs:List Bag} {b:Nat} {x:Bag} (g n:Nat) (h:bs[b]? = some x):putRaw gs bs b g n=bs.set b { x with stacks:=putStacks (goodAt gs g).stack g n x.stacks }:=kE _ _ _ h
theorem z4 {bs:List Bag} {b:Nat} {x:Bag} (g n:Nat) (h:bs[b]? = some x):takeRaw bs b g n=bs.set b { x with stacks:=takeStacks g n x.stacks }:=kE _ _ _ h
theorem Zx {gs:List Good} (G:GInv gs) {bs:List Bag} (ac:∀ b,b<bs.length→∃ l,ChS bs (some b) l) {b g:Nat} {x:Bag} {l:List Nat} (hx:bs[b]? = some x) (hl:ChS bs (some b) l) (hg:g<gs.length) (n c:Nat) :
  holds gs (putRaw gs bs b g n) c=holds gs bs c+(goodAt gs g).weight * n * l.count c:=by
 rw [z6 gs g n hx]
 have h:=wc gs ac hx hl (putStacks (goodAt gs g).stack g n x.stacks) c
 rw [sw_put gs _ g n (G.at hg).2.2.1,Nat.add_mul] at h
 omega
theorem xB (gs:List Good) {bs:List Bag} (ac:∀ b,b<bs.length→∃ l,ChS bs (some b) l) {b g n:Nat} {x:Bag} {l:List Nat} (hx:bs[b]? = some x) (hl:ChS bs (some b) l) (hn:n≤countIn x.stacks g) (c:Nat) :
  holds gs (takeRaw bs b g n) c+(goodAt gs g).weight * n * l.count c=holds gs bs c:=by
 rw [z4 g n hx]
 have h:=wc gs ac hx hl (takeStacks g n x.stacks) c
 rw [← sw_take gs g n x.stacks hn,Nat.add_mul] at h
 omega
theorem Zp {bs:List Bag} {b:Nat} {x:Bag} (hx:bs[b]? = some x) (ys:List (Nat × Nat)) (c:Nat):usedSlots (bs.set b { x with stacks:=ys }) c=if c=b then ys.length+(within bs b).length else usedSlots bs c:=by
 unfold usedSlots
 rw [Q4 (y:={ x with stacks:=ys }) hx rfl]
 by_cases e:c=b
 ·subst e
  rw [if_pos rfl,zX hx]
 ·rw [if_neg e,jh e]
theorem u7 {bs:List Bag} {b:Nat} {x:Bag} (hx:bs[b]? = some x) (ys:List (Nat × Nat)) (c:Nat):(bagAt (bs.set b { x with stacks:=ys }) c).room=(bagAt bs c).room∧(bagAt (bs.set b { x with stacks:=ys }) c).slots=(bagAt bs c).slots:=by
 by_cases e:c=b
 ·subst e
  rw [zX hx,zK hx]
  exact ⟨rfl,rfl⟩
 ·rw [jh e]
  exact ⟨rfl,rfl⟩
theorem yg (n:Nat):∀ (l:List Nat) (a:Nat),n≤l.foldl min a↔n≤a∧∀ x∈l,n≤x
 | [],a=>by simp
 | x :: l,a=>by
  rw [List.foldl_cons,yg n l]
  simp only [List.mem_cons,forall_eq_or_imp]
  rw [Nat.le_min]
  exact and_assoc
theorem put_iff {gs:List Good} {bs:List Bag} (G:GInv gs) (B:BInv gs bs) {b g:Nat} {x:Bag} {l:List Nat} (hx:bs[b]? = some x) (hl:ChS bs (some b) l) (hg:g<gs.length) (n:Nat) :
  allFine gs (putRaw gs bs b g n)=true↔n≤fits gs bs b g:=by
 have hw:=(G.at hg).1
 have hsz:=(G.at hg).2.2.1
 have hb:=(List.getElem?_eq_some_iff.mp hx).1
 have F:=jy.mp B.fine
 rw [jy]
 unfold fits
 rw [yg,hl.chainOf,zK hx]
 have e1:(((x.stacks.filter fun y=>y.1 == g).map fun y=>(goodAt gs g).stack - y.2).sum+(x.slots - usedSlots bs b) * (goodAt gs g).stack)=spaceOf x.stacks g (goodAt gs g).stack+(x.slots - usedSlots bs b) * (goodAt gs g).stack:=rfl
 rw [e1,← put_len _ g n _ hsz]
 have eS:=Zp hx (putStacks (goodAt gs g).stack g n x.stacks)
 have eR:=u7 hx (putStacks (goodAt gs g).stack g n x.stacks)
 have eH:∀ c,holds gs (putRaw gs bs b g n) c=holds gs bs c+(goodAt gs g).weight * n * l.count c:=Zx G B.ac hx hl hg n
 have ub:usedSlots bs b=x.stacks.length+(within bs b).length:=by
  unfold usedSlots
  rw [zK hx]
 have fb:=(F b hb).2
 rw [zK hx] at fb
 constructor
 ·intro h
  refine ⟨?_,?_⟩
  ·have:=(h b (by rw [z6 gs g n hx,List.length_set];exact hb)).2
   rw [z6 gs g n hx,eS,if_pos rfl,(eR b).2,zK hx] at this
   omega
  ·intro y hy
   obtain ⟨c,hc,rfl⟩:=List.mem_map.mp hy
   have hcl:=hl.lt c hc
   have:=(h c (by rw [z6 gs g n hx,List.length_set];exact hcl)).1
   rw [eH,yj hl.nodup,if_pos hc] at this
   rw [z6 gs g n hx,(eR c).1] at this
   rw [Nat.le_div_iff_mul_le hw,Nat.mul_comm]
   omega
 ·rintro ⟨h1,h2⟩ c hc
  rw [z6 gs g n hx,List.length_set] at hc
  have fc:=F c hc
  refine ⟨?_,?_⟩
  ·rw [eH,z6 gs g n hx,(eR c).1,yj hl.nodup]
   by_cases hm:c∈l
   ·have:=h2 _ (List.mem_map.mpr ⟨c,hm,rfl⟩)
    rw [Nat.le_div_iff_mul_le hw,Nat.mul_comm] at this
    rw [if_pos hm]
    omega
   ·rw [if_neg hm]
    omega
  ·rw [z6 gs g n hx,eS,(eR c).2]
   by_cases e:c=b
   ·subst e
    rw [if_pos rfl,zK hx]
    omega
   ·rw [if_neg e]
    exact fc.2
theorem BInv.stk {gs:List Good} {bs:List Bag} (B:BInv gs bs) {b:Nat} {x:Bag} (hx:bs[b]? = some x):StkOk gs x.stacks:=B.st x (List.mem_of_getElem? hx)
theorem BInv.set {gs:List Good} {bs:List Bag} (B:BInv gs bs) {b:Nat} {x:Bag} (hx:bs[b]? = some x) {ys:List (Nat × Nat)} (hy:StkOk gs ys) (hf:allFine gs (bs.set b { x with stacks:=ys })=true):BInv gs (bs.set b { x with stacks:=ys }) where
 len:=by rw [List.length_set];exact B.len
 ac:=fun d hd=>by
  rw [List.length_set] at hd
  obtain ⟨m,hm⟩:=B.ac d hd
  exact ⟨m,hm.set (y:={ x with stacks:=ys }) hx rfl⟩
 st:=fun z hz=>by
  rcases List.mem_or_eq_of_mem_set hz with h | rfl
  ·exact B.st z h
  ·exact hy
 sl:=fun z hz=>by
  rcases List.mem_or_eq_of_mem_set hz with h | rfl
  ·exact B.sl z h
  ·exact B.sl x (List.mem_of_getElem? hx)
 fine:=hf
theorem Yb {gs:List Good} {bs:List Bag} (G:GInv gs) (B:BInv gs bs) {b g n:Nat} {x:Bag} (hx:bs[b]? = some x) (hg:g<gs.length) (hf:allFine gs (putRaw gs bs b g n)=true):BInv gs (putRaw gs bs b g n):=by
 rw [z6 gs g n hx] at hf ⊢
 exact B.set hx (put_ok hg (G.at hg).2.2.1 n (B.stk hx)) hf
theorem BInv.stk_len {gs:List Good} {bs:List Bag} (B:BInv gs bs) {b:Nat} {x:Bag} (hx:bs[b]? = some x):x.stacks.length≤40:=by
 have:=(jy.mp B.fine b (List.getElem?_eq_some_iff.mp hx).1).2
 unfold usedSlots at this
 rw [zK hx] at this
 have:=B.sl x (List.mem_of_getElem? hx)
 omega
theorem uK {gs:List Good} {bs:List Bag} (B:BInv gs bs) {b g n:Nat} {x:Bag} {l:List Nat} (hx:bs[b]? = some x) (hl:ChS bs (some b) l) (hn:n≤countIn x.stacks g):BInv gs (takeRaw bs b g n):=by
 have hf:allFine gs (takeRaw bs b g n)=true:=by
  rw [jy]
  intro c hc
  have eH:=xB gs B.ac hx hl hn c
  rw [z4 g n hx] at hc eH ⊢
  rw [List.length_set] at hc
  have F:=jy.mp B.fine c hc
  rw [(u7 hx _ c).1,(u7 hx _ c).2,Zp hx]
  refine ⟨by omega,?_⟩
  by_cases e:c=b
  ·subst e
   rw [if_pos rfl]
   have h1:=take_len g n x.stacks
   have h2:=F.2
   unfold usedSlots at h2
   rw [zK hx] at h2 ⊢
   omega
  ·rw [if_neg e]
   exact F.2
 rw [z4 g n hx] at hf ⊢
 exact B.set hx (take_ok g n (B.stk hx)) hf
theorem uG {bs:List Bag} {y:Bag} (c:Nat):(within (bs++[y]) c).length=(within bs c).length+if y.inside=some c then 1 else 0:=by
 unfold within
 rw [List.length_append,List.length_singleton,List.range_succ,List.filter_append,List.length_append]
 congr 1
 ·congr 1
  refine List.filter_congr fun d hd=>?_
  rw [qf (List.mem_range.mp hd)]
 ·rw [List.filter_cons,vb]
  by_cases e:y.inside=some c
  ·simp [e]
  ·rw [if_neg e,if_neg (by simpa using e)]
   rfl
theorem kR (gs:List Good) {bs:List Bag} (ac:∀ b,b<bs.length→∃ l,ChS bs (some b) l) {y:Bag} {l:List Nat} (hl:ChS bs y.inside l) (hy:y.stacks=[]) (c:Nat) :
  holds gs (bs++[y]) c=(if c<bs.length then holds gs bs c else 0)+y.own * l.count c:=by
 have h:=load_new gs ac hl hy c
 have h1:=jg gs (bs++[y]) c
 by_cases hc:c<bs.length
 ·rw [if_pos hc] at h ⊢
  rw [List.count_cons,if_neg (by simp;omega),Nat.add_zero] at h
  have h2:=jg gs bs c
  rw [qf hc] at h1
  omega
 ·rw [if_neg hc] at h ⊢
  have hz:l.count c=0:=List.count_eq_zero.mpr fun q=>hc (hl.lt c q)
  rw [List.count_cons,hz] at h
  rw [hz]
  by_cases e:c=bs.length
  ·subst e
   rw [vb] at h1
   simp at h
   omega
  ·rw [if_neg (by simp;omega)] at h
   unfold holds
   omega
def bagFits (bs:List Bag) (hs:Nat→Nat) (o:Option Nat) (l:List Nat) (w:Nat):Prop:=match o with
 | none=>True
 | some b=>usedSlots bs b<(bagAt bs b).slots∧∀ c∈l,hs c+w≤(bagAt bs c).room
theorem new_iff {gs:List Good} {bs:List Bag} (B:BInv gs bs) {y:Bag} {l:List Nat} (hl:ChS bs y.inside l) (hy:y.stacks=[]) :
  allFine gs (bs++[y])=true↔bagFits bs (holds gs bs) y.inside l y.own:=by
 have F:=jy.mp B.fine
 rw [jy]
 have hS:∀ c,c<bs.length→usedSlots (bs++[y]) c=usedSlots bs c+if y.inside=some c then 1 else 0:=fun c hc=>by
  unfold usedSlots
  rw [uG,qf hc]
  omega
 have hn:usedSlots (bs++[y]) bs.length=0:=by
  unfold usedSlots
  rw [vb,hy,uG]
  have e1:(within bs bs.length).length=0:=by
   unfold within
   rw [List.length_eq_zero_iff,List.filter_eq_nil_iff]
   intro d hd h
   have:=ZO B.ac d bs.length (by simpa using h)
   omega
  have e2:¬ y.inside=some bs.length:=fun q=>by
   rw [q] at hl
   cases hl with
   | cons hb _=>simp at hb
  rw [e1,if_neg e2]
  rfl
 constructor
 ·intro h
  cases ho:y.inside with
  | none=>trivial
  | some b=>
   have hb:b<bs.length:=by
    rw [ho] at hl
    cases hl with
    | cons hb _=>exact (List.getElem?_eq_some_iff.mp hb).1
   refine ⟨?_,fun c hc=>?_⟩
   ·have:=(h b (by simp;omega)).2
    rw [hS b hb,if_pos ho,qf hb] at this
    omega
   ·have hcl:=hl.lt c hc
    have:=(h c (by simp;omega)).1
    rw [kR gs B.ac hl hy,if_pos hcl,yj hl.nodup,if_pos hc,qf hcl] at this
    omega
 ·intro h c hc
  rw [List.length_append,List.length_singleton] at hc
  rw [kR gs B.ac hl hy,yj hl.nodup]
  by_cases hcl:c<bs.length
  ·rw [if_pos hcl,qf hcl,hS c hcl]
   have fc:=F c hcl
   unfold bagFits at h
   cases ho:y.inside with
   | none=>
    rw [ho] at hl
    cases hl
    rw [if_neg (by simp),if_neg (by simp)]
    omega
   | some b=>
    rw [ho] at h
    refine ⟨?_,?_⟩
    ·by_cases hm:c∈l
     ·have:=h.2 c hm
      rw [if_pos hm]
      omega
     ·rw [if_neg hm]
      omega
    ·by_cases e:b=c
     ·subst e
      have:=h.1
      rw [if_pos rfl]
      omega
     ·rw [if_neg (fun q=>e (Option.some.inj q))]
      omega
  ·have e:c=bs.length:=by omega
   subst e
   rw [if_neg hcl,if_neg (fun q=>hcl (hl.lt _ q)),hn]
   omega
theorem new_inv {gs:List Good} {bs:List Bag} (B:BInv gs bs) {y:Bag} {l:List Nat} (hl:ChS bs y.inside l) (hy:y.stacks=[]) (hs:y.slots≤40) (hlen:bs.length<12) (hf:allFine gs (bs++[y])=true):BInv gs (bs++[y]) where
 len:=by simp;omega
 ac:=ac_app B.ac hl
 st:=fun z hz=>by
  rcases List.mem_append.mp hz with h | h
  ·exact B.st z h
  ·simp at h
   subst h
   rw [hy]
   exact fun x hx=>by cases hx
 sl:=fun z hz=>by
  rcases List.mem_append.mp hz with h | h
  ·exact B.sl z h
  ·simp at h
   subst h
   exact hs
 fine:=hf
theorem ym {p q:Nat→Bool} (h:∀ d,p d=true→q d=true):∀ l:List Nat,(l.filter p).length≤(l.filter q).length
 | []=>Nat.le_refl _
 | a :: l=>by
  have ih:=ym h l
  rw [List.filter_cons,List.filter_cons]
  by_cases e:p a=true
  ·rw [if_pos e,if_pos (h a e)]
   simp
   omega
  ·rw [if_neg e]
   by_cases e2:q a=true
   ·rw [if_pos e2]
    simp
    omega
   ·rw [if_neg e2]
    exact ih
theorem Q5 {bs:List Bag} {a:Nat} {x:Bag} (hx:bs[a]? = some x) (c:Nat):(within (bs.set a { x with inside:=none }) c).length≤(within bs c).length:=by
 unfold within
 rw [List.length_set]
 refine ym (fun d hd=>?_) _
 by_cases e:d=a
 ·subst e
  rw [zX hx] at hd
  exact absurd hd (by simp)
 ·rw [jh e] at hd
  exact hd
theorem qE {bs:List Bag} {a:Nat} {x:Bag} (hx:bs[a]? = some x) (o:Option Nat) (c:Nat):(bagAt (bs.set a { x with inside:=o }) c).own=(bagAt bs c).own∧(bagAt (bs.set a { x with inside:=o }) c).room=(bagAt bs c).room∧(bagAt (bs.set a { x with inside:=o }) c).slots=(bagAt bs c).slots∧(bagAt (bs.set a { x with inside:=o }) c).stacks=(bagAt bs c).stacks:=by
 by_cases e:c=a
 ·subst e
  rw [zX hx,zK hx]
  exact ⟨rfl,rfl,rfl,rfl⟩
 ·rw [jh e]
  exact ⟨rfl,rfl,rfl,rfl⟩
theorem y2 (gs:List Good) {bs:List Bag} (ac:∀ b,b<bs.length→∃ l,ChS bs (some b) l) {a:Nat} {x:Bag} {lp:List Nat} (hx:bs[a]? = some x) (hp:ChS bs x.inside lp) (c:Nat) :
  holds gs bs c=holds gs (bs.set a { x with inside:=none }) c+loadOf gs bs a * lp.count c:=by
 have h:=QI gs ac hx hp c
 have h1:=jg gs bs c
 have h2:=jg gs (bs.set a { x with inside:=none }) c
 rw [(qE hx none c).1] at h2
 omega
theorem Yd {bs:List Bag} {a:Nat} {x:Bag} {lp:List Nat} (hx:bs[a]? = some x) (hp:ChS bs x.inside lp):a∉lp:=(List.nodup_cons.mp (ChS.cons hx hp).nodup).1
theorem QA (gs:List Good) {bs:List Bag} (ac:∀ b,b<bs.length→∃ l,ChS bs (some b) l) {a:Nat} {x:Bag} {lp:List Nat} (hx:bs[a]? = some x) (hp:ChS bs x.inside lp):loadOf gs (bs.set a { x with inside:=none }) a=loadOf gs bs a:=by
 have h:=QI gs ac hx hp a
 rw [List.count_eq_zero.mpr (Yd hx hp)] at h
 omega
theorem off_ac {bs:List Bag} (ac:∀ b,b<bs.length→∃ l,ChS bs (some b) l) {a:Nat} {x:Bag} {lp:List Nat} (hx:bs[a]? = some x) (hp:ChS bs x.inside lp):∀ d,d<(bs.set a { x with inside:=none }).length→∃ l,ChS (bs.set a { x with inside:=none }) (some d) l:=fun d hd=>by
 rw [List.length_set] at hd
 obtain ⟨m,hm⟩:=ac d hd
 obtain ⟨l0,h0,_⟩:=ChS.off hx hp hm
 exact ⟨l0,h0⟩
theorem j4 {bs:List Bag} {a:Nat} {x z:Bag} {o:Option Nat} (hx:bs[a]? = some x) (hz:z∈bs.set a { x with inside:=o }):∃ y∈bs,y.stacks=z.stacks∧y.slots=z.slots:=by
 rcases List.mem_or_eq_of_mem_set hz with h | rfl
 ·exact ⟨z,h,rfl,rfl⟩
 ·exact ⟨x,List.mem_of_getElem? hx,rfl,rfl⟩
theorem off_inv {gs:List Good} {bs:List Bag} (B:BInv gs bs) {a:Nat} {x:Bag} {lp:List Nat} (hx:bs[a]? = some x) (hp:ChS bs x.inside lp):BInv gs (bs.set a { x with inside:=none }) where
 len:=by rw [List.length_set];exact B.len
 ac:=off_ac B.ac hx hp
 st:=fun z hz=>by
  obtain ⟨y,hy,e,_⟩:=j4 hx hz
  rw [← e]
  exact B.st y hy
 sl:=fun z hz=>by
  obtain ⟨y,hy,_,e⟩:=j4 hx hz
  rw [← e]
  exact B.sl y hy
 fine:=by
  rw [jy]
  intro c hc
  rw [List.length_set] at hc
  have F:=jy.mp B.fine c hc
  have h:=y2 gs B.ac hx hp c
  rw [(qE hx none c).2.1,(qE hx none c).2.2.1]
  refine ⟨by omega,?_⟩
  have h2:=F.2
  unfold usedSlots at h2 ⊢
  rw [(qE hx none c).2.2.2]
  have:=Q5 hx c
  omega
theorem ChS.away {bs:List Bag} {a:Nat} {y:Bag} {o:Option Nat} {l:List Nat} (h:ChS bs o l) (ha:a∉l):ChS (bs.set a y) o l:=by
 induction h with
 | nil=>exact .nil
 | @cons c z l hc h1 ih=>
  have e:a≠c:=fun q=>ha (by rw [q];exact List.mem_cons_self)
  exact .cons (by rw [List.getElem?_set_ne e];exact hc) (ih fun q=>ha (List.mem_cons_of_mem _ q))
theorem on_ac {bs:List Bag} (ac:∀ b,b<bs.length→∃ l,ChS bs (some b) l) {a:Nat} {x:Bag} {o:Option Nat} {l:List Nat} (hx:bs[a]? = some x) (hl:ChS bs o l) (ha:a∉l):∀ d,d<(bs.set a { x with inside:=o }).length→∃ l,ChS (bs.set a { x with inside:=o }) (some d) l:=by
 have key:∀ {o':Option Nat} {m:List Nat},ChS bs o' m→∃ l,ChS (bs.set a { x with inside:=o }) o' l:=by
  intro o' m hm
  induction hm with
  | nil=>exact ⟨[],.nil⟩
  | @cons c z m hc h1 ih=>
   by_cases e:a=c
   ·subst e
    exact ⟨_,.cons (List.getElem?_set_self (List.getElem?_eq_some_iff.mp hx).1) (hl.away ha)⟩
   ·obtain ⟨k,hk⟩:=ih
    exact ⟨_,.cons (by rw [List.getElem?_set_ne e];exact hc) hk⟩
 intro d hd
 rw [List.length_set] at hd
 obtain ⟨m,hm⟩:=ac d hd
 exact key hm
theorem Qu (gs:List Good) {bs:List Bag} (ac:∀ b,b<bs.length→∃ l,ChS bs (some b) l) {a:Nat} {x:Bag} {o:Option Nat} {l:List Nat} (hx:bs[a]? = some x) (hi:x.inside=none) (hl:ChS bs o l) (ha:a∉l) (c:Nat) :
  holds gs (bs.set a { x with inside:=o }) c=holds gs bs c+loadOf gs bs a * l.count c:=by
 have hx':(bs.set a { x with inside:=o })[a]? = some { x with inside:=o }:=List.getElem?_set_self (List.getElem?_eq_some_iff.mp hx).1
 have hl':ChS (bs.set a { x with inside:=o }) o l:=hl.away ha
 have h:=y2 gs (on_ac ac hx hl ha) hx' hl' c
 have h2:=QA gs (on_ac ac hx hl ha) hx' hl'
 have e:(bs.set a { x with inside:=o }).set a { ({ x with inside:=o }:Bag) with inside:=none } = bs:=by
  rw [List.set_set]
  have:({ ({ x with inside:=o }:Bag) with inside:=none }:Bag)=x:=by
   cases x
   cases hi
   rfl
  rw [this]
  apply List.ext_getElem?
  intro i
  by_cases q:a=i
  ·subst q
   rw [List.getElem?_set_self (List.getElem?_eq_some_iff.mp hx).1,hx]
  ·rw [List.getElem?_set_ne q]
 rw [e] at h h2
 rw [h,h2]
theorem YB {bs:List Bag} {a:Nat} {x:Bag} {o:Option Nat} (hx:bs[a]? = some x) (hi:x.inside=none) (c:Nat):(within (bs.set a { x with inside:=o }) c).length=(within bs c).length+if o=some c then 1 else 0:=by
 have ha:=(List.getElem?_eq_some_iff.mp hx).1
 have key:∀ n,((List.range n).filter fun d=>(bagAt (bs.set a { x with inside:=o }) d).inside == some c).length=((List.range n).filter fun d=>(bagAt bs d).inside == some c).length+if a<n∧o=some c then 1 else 0:=by
  intro n
  induction n with
  | zero=>simp
  | succ n ih=>
   rw [List.range_succ,List.filter_append,List.filter_append,List.length_append,List.length_append,ih]
   by_cases e:n=a
   ·subst e
    rw [List.filter_cons,List.filter_cons,zX hx,zK hx,hi]
    by_cases q:o=some c
    ·simp [q]
    ·have q2:(o == some c)=false:=by simpa using q
     simp [q,q2]
   ·simp only [List.filter_cons,List.filter_nil,jh e]
    have:(a<n+1∧o=some c)↔(a<n∧o=some c):=by
     constructor
     ·rintro ⟨h1,h2⟩;exact ⟨by omega,h2⟩
     ·rintro ⟨h1,h2⟩;exact ⟨by omega,h2⟩
    by_cases q:a<n∧o=some c
    ·rw [if_pos q,if_pos (this.mpr q)]
     omega
    ·rw [if_neg q,if_neg (fun z=>q (this.mp z))]
     omega
 unfold within
 rw [List.length_set,key]
 simp [ha]
theorem on_iff {gs:List Good} {bs:List Bag} (B:BInv gs bs) {a:Nat} {x:Bag} {o:Option Nat} {l:List Nat} (hx:bs[a]? = some x) (hi:x.inside=none) (hl:ChS bs o l) (ha:a∉l) :
  allFine gs (bs.set a { x with inside:=o })=true↔bagFits bs (holds gs bs) o l (loadOf gs bs a):=by
 have F:=jy.mp B.fine
 rw [jy]
 have hS:∀ c,usedSlots (bs.set a { x with inside:=o }) c=usedSlots bs c+if o=some c then 1 else 0:=fun c=>by
  unfold usedSlots
  rw [YB hx hi,(qE hx o c).2.2.2]
  omega
 have hH:=Qu gs B.ac hx hi hl ha
 constructor
 ·intro h
  cases o with
  | none=>trivial
  | some b=>
   have hb:b<bs.length:=by
    cases hl with
    | cons hb _=>exact (List.getElem?_eq_some_iff.mp hb).1
   refine ⟨?_,fun c hc=>?_⟩
   ·have:=(h b (by rw [List.length_set];exact hb)).2
    rw [hS b,if_pos rfl,(qE hx (some b) b).2.2.1] at this
    omega
   ·have hcl:=hl.lt c hc
    have:=(h c (by rw [List.length_set];exact hcl)).1
    rw [hH,yj hl.nodup,if_pos hc,(qE hx (some b) c).2.1] at this
    omega
 ·intro h c hc
  rw [List.length_set] at hc
  rw [hH,yj hl.nodup,(qE hx o c).2.1,(qE hx o c).2.2.1,hS c]
  have fc:=F c hc
  unfold bagFits at h
  cases ho:o with
  | none=>
   rw [ho] at hl
   cases hl
   rw [if_neg (by simp),if_neg (by simp)]
   omega
  | some b=>
   rw [ho] at h
   refine ⟨?_,?_⟩
   ·by_cases hm:c∈l
    ·have:=h.2 c hm
     rw [if_pos hm]
     omega
    ·rw [if_neg hm]
     omega
   ·by_cases e:b=c
    ·subst e
     have:=h.1
     rw [if_pos rfl]
     omega
    ·rw [if_neg (fun q=>e (Option.some.inj q))]
     omega
theorem on_inv {gs:List Good} {bs:List Bag} (B:BInv gs bs) {a:Nat} {x:Bag} {o:Option Nat} {l:List Nat} (hx:bs[a]? = some x) (hl:ChS bs o l) (ha:a∉l) (hf:allFine gs (bs.set a { x with inside:=o })=true):BInv gs (bs.set a { x with inside:=o }) where
 len:=by rw [List.length_set];exact B.len
 ac:=on_ac B.ac hx hl ha
 st:=fun z hz=>by
  obtain ⟨y,hy,e,_⟩:=j4 hx hz
  rw [← e]
  exact B.st y hy
 sl:=fun z hz=>by
  obtain ⟨y,hy,_,e⟩:=j4 hx hz
  rw [← e]
  exact B.sl y hy
 fine:=hf
end BM
end
section
namespace BM
open PySem PySem.Spec L2
open PyProof.Rows hiding St
open Vbwsao (Good Recipe Bag Machine State)
theorem k5 (w:Int):∀ (l:List Nat) (hs:List Int) (k:Nat),k<hs.length→(addL hs l w).getD k 0=hs.getD k 0+w * (l.count k:Int)
 | [],hs,k,_=>by simp [addL]
 | a :: l,hs,k,hk=>by
  show (addL (hs.set a (hs.getD a 0+w)) l w).getD k 0=_
  rw [k5 w l _ k (by rw [List.length_set];exact hk),List.count_cons]
  by_cases e:a=k
  ·subst e
   rw [jO (List.getElem?_set_self hk)]
   simp
   rw [Int.mul_add]
   omega
  ·rw [List.getD_eq_getElem?_getD,List.getElem?_set_ne e,← List.getD_eq_getElem?_getD,if_neg (by simpa using e)]
   simp
theorem jw (gs:List Good) (bs:List Bag):(heldOf gs bs).length=bs.length:=by
 unfold heldOf
 rw [List.length_map,List.length_range]
theorem z7 (gs:List Good) (bs:List Bag) {k:Nat} (h:k<bs.length):(heldOf gs bs)[k]? = some (Vbwsao.holds gs bs k:Int):=by
 unfold heldOf
 rw [List.getElem?_map,List.getElem?_range h]
 rfl
theorem Yp {gs:List Good} {bs:List Bag} {hs:List Int} (hl:hs.length=bs.length) (h:∀ c,c<bs.length→hs.getD c 0=(Vbwsao.holds gs bs c:Int)):hs=heldOf gs bs:=by
 apply List.ext_getElem?
 intro i
 by_cases hi:i<bs.length
 ·rw [z7 gs bs hi,← h i hi,List.getElem?_eq_getElem (by omega)]
  rw [jO (List.getElem?_eq_getElem (by omega))]
 ·rw [List.getElem?_eq_none (by omega),List.getElem?_eq_none (by rw [jw];omega)]
theorem wN {gs:List Good} {bs bs':List Bag} {l:List Nat} {w:Int} (hl:bs'.length=bs.length) (h:∀ c,c<bs.length→(Vbwsao.holds gs bs' c:Int)=(Vbwsao.holds gs bs c:Int)+w * (l.count c:Int)):addL (heldOf gs bs) l w=heldOf gs bs':=by
 refine Yp (by rw [xO,jw,hl]) fun c hc=>?_
 rw [k5 _ _ _ _ (by rw [jw];omega),jO (z7 gs bs (by omega)),h c (by omega)]
theorem vj:∀ (l:List Nat) (a:Nat),l.foldl min a=a∨l.foldl min a∈l
 | [],a=>.inl rfl
 | x :: l,a=>by
  rw [List.foldl_cons]
  rcases vj l (min a x) with h | h
  ·rw [h]
   by_cases e:a≤x
   ·left;omega
   ·right
    have:min a x=x:=by omega
    rw [this]
    exact List.mem_cons_self
  ·exact .inr (List.mem_cons_of_mem _ h)
theorem WM {l:List Nat} {a:Nat} {m:Int} {ns:List Int} (e:ns=(a :: l).map fun (x:Nat)=>(x:Int)) (h1:m∈ns) (h2:∀ y∈ns,m≤y):m=((l.foldl min a:Nat):Int):=by
 subst e
 obtain ⟨x,hx,rfl⟩:=List.mem_map.mp h1
 have h3:=(yg (l.foldl min a) l a).mp (Nat.le_refl _)
 have h4:l.foldl min a≤x:=by
  rcases List.mem_cons.mp hx with rfl | hx
  ·exact h3.1
  ·exact h3.2 x hx
 have h5:l.foldl min a∈a :: l:=by
  rcases vj l a with h | h
  ·rw [h];exact List.mem_cons_self
  ·exact List.mem_cons_of_mem _ h
 have h6:=h2 _ (List.mem_map.mpr ⟨_,h5,rfl⟩)
 omega
section
variable {P:Program} {w:World} {K:PySem.W.Frag} {mg:Str→Option Value} {base:Heap}
theorem StX.fresh {T:Prog K mg} {H:Hp} {A:Adr} {s:State} {hs:List Int} (S:StX T H A s hs) {p:Addr} (h:H p=none):p∉A.tops:=by
 intro hm
 simp only [List.mem_cons,List.mem_nil_iff,or_false] at hm
 rcases hm with rfl | rfl | rfl | rfl
 ·rw [S.gs.1] at h;cases h
 ·rw [S.rs.1] at h;cases h
 ·rw [S.bs.1] at h;cases h
 ·rw [S.ms.1] at h;cases h
theorem StX.good {T:Prog K mg} {H:Hp} {A:Adr} {s:State} {hs:List Int} (S:StX T H A s hs) {j:Nat} (hj:j<s.goods.length):∃ a dx,A.ga[j]? = some a∧H a=some (.ins T.kGood.C dx (fsGood (Vbwsao.goodAt s.goods j))):=by
 obtain ⟨a,ha,dx,e⟩:=S.gs.get (List.getElem?_eq_getElem hj)
 rw [← qX (List.getElem?_eq_getElem hj)] at e
 exact ⟨a,dx,ha,e⟩
theorem jd:FnScope ["state","b","good","told","bag","free","by_places","left"] ["state","b","good"] (defScope qP):=⟨rfl,rfl,rfl,by decide +kernel,rfl,by decide +kernel,by decide +kernel⟩
def uq (T:Prog K mg):Sp:=fun vs H Q _=>∃ (A:Adr) (s:State) (j g:Nat),vs=[.ref A.st,.int (j:Int),.int (g:Int)]∧StAt T H A s∧GInv s.goods∧BInv s.goods s.bags∧j<s.bags.length∧g<s.goods.length ∧
 ∀ H',Same H H'→Q (.int (Vbwsao.fits s.goods s.bags j g:Int)) H'
theorem yl (T:Prog K mg):FnOk P w K mg base CX0 3 T.how_many_fit.f T.how_many_fit.fd ["state","b","good"] (uq T):=by
 refine T.how_many_fit.fn.ok jd (fun vs H Q E h=>?_) (fun cdv A outer s H vs Q E hr h=>?_)
 ·obtain ⟨A,s,j,g,rfl,_⟩:=h
  rfl
 ·obtain ⟨A,st,j,g,rfl,S,G,B,hj,hg,k⟩:=h
  obtain ⟨x,hx⟩:∃ x,st.bags[j]? = some x:=⟨_,List.getElem?_eq_getElem hj⟩
  obtain ⟨l,hl⟩:=B.ac j hj
  have hll:l.length≤1000:=by have:=hl.len;have:=B.len;omega
  obtain ⟨ga,gdx,hga,eg⟩:=S.good hg
  obtain ⟨a,h,ha,hh,dx,sl,e1,n1,p1⟩:=S.bag hx
  have Gg:=G.at hg
  have F:=jy.mp B.fine
  refine ⟨_,(za (zt (i:=3) jd.nd rfl (by first | exact Or.inl rfl | exact Or.inr rfl) (zv (zk (K:=K) rfl) (zd (K:=K) rfl (pv 0) rfl) (pv 2) (fun _ _=>rfl)))
   (za (zt (i:=4) jd.nd rfl (by first | exact Or.inl rfl | exact Or.inr rfl) (zv (zk (K:=K) rfl) (zd (K:=K) rfl (pv 0) rfl) (pv 1) (fun _ _=>rfl)))
   (za (zt (i:=5) jd.nd rfl (by first | exact Or.inl rfl | exact Or.inr rfl) (zI jI (zd (K:=K) rfl (pv 4) rfl) (zi (qz T) (hr.mono (by decide)) rfl T.places_taken.at_ T.places_taken.fn.kp T.places_taken.b .nil pass0 (zc (pv 0) (zc (pv 1) zb)))))
   (za (zt (i:=6) jd.nd rfl (by first | exact Or.inl rfl | exact Or.inr rfl) (zI jf (zi (Qv T) (hr.mono (by decide)) rfl T.space_in.at_ T.space_in.fn.kp T.space_in.b .nil pass0 (zc (zd (K:=K) rfl (pv 4) rfl) (zc (pv 2) (zc (zd (K:=K) rfl (pv 3) rfl) zb)))) (zI yd (pv 5) (zd (K:=K) rfl (pv 3) rfl))))
   (ze (zm (zr (cr_minK (K:=K) rfl rfl) (by rfl) T.b_min xL (zc (zI vH (zu (zc (pv 6) zb)) (qT rfl jd.nd (zL (K:=K) rfl (zi (yL T) (hr.mono (by decide)) rfl T.weight_left.at_ T.weight_left.fn.kp T.weight_left.b .nil pass0 (zc (pv 0) (zc (pv 1) zb)))) (own:=[("left",7)]) (zW (by kernel_rfl)) (fun _ _ _ _ _=>(zw (i:=7) jd.nd rfl (by first | exact Or.inl rfl | exact Or.inr rfl))) (fun _ _ _ _ _=>jC) (fun _ _ _ _ _=>(zI op_fdiv (pv 7) (zd (K:=K) rfl (pv 3) rfl))))) zb)))))))),?_⟩
  refine ⟨_,rfl,zV S ⟨_,rfl,jb S.gs hga ⟨_,rfl,zP S ⟨_,rfl,jb S.bs ha ⟨_,rfl,Zr T e1 ⟨_,rfl,_,rfl,A,st,_,j,x,rfl,S,(by have:=B.len;omega),hx,fun H1 s1=>?_⟩⟩⟩⟩⟩⟩
  have e1':=s1 _ _ e1
  have eg':=s1 _ _ eg
  refine ⟨_,_,rfl,rfl,_,rfl,jk T e1' ⟨_,rfl,_,rfl,Jm T eg' ⟨sl,x.stacks,g,_,rfl,p1.same s1,(by have:=B.stk_len hx;omega),(fun y hy e=>e ▸ (B.stk hx y hy).2.2),fun H2 s2=>?_⟩⟩⟩
  have S2:=(S.same s1).same s2
  have eg2:=s2 _ _ eg'
  refine ⟨_,rfl,_,rfl,Jm T eg2 ⟨_,_,rfl,rfl,.inr ⟨by omega,by omega⟩,_,_,rfl,rfl,?_⟩⟩
  refine ⟨_,rfl,(by show 1≤sizeLine;decide),fun p hp=>?_⟩
  have s3:=zM (o:=.lst [V.int ((spaceIn x.stacks g (Vbwsao.goodAt st.goods g).stack:Int)+((x.slots:Int) - (Vbwsao.usedSlots st.bags j:Int)) * ((Vbwsao.goodAt st.goods g).stack:Int))]) hp
  have hp3:(L2.upd H2 p (.lst [V.int ((spaceIn x.stacks g (Vbwsao.goodAt st.goods g).stack:Int)+((x.slots:Int) - (Vbwsao.usedSlots st.bags j:Int)) * ((Vbwsao.goodAt st.goods g).stack:Int))])) p=_:=zf
  refine ⟨_,rfl,_,rfl,A,st,_,some j,l,rfl,S2.same s3,hl,hll,fun q H4 s4 hq hq4=>⟨q,rfl,⟨_,SqL.of hq4⟩,?_⟩⟩
  have eg4:=s4 _ _ (s3 _ _ eg2)
  have hp4:=s4 _ _ hp3
  refine wx (xs:=l) (fun H x v=>v=V.int (lft st.bags (heldOf st.goods st.bags) x)) (fun x=>V.int (lft st.bags (heldOf st.goods st.bags) x / ((Vbwsao.goodAt st.goods g).weight:Int))) (SqL.of hq4) (by rw [List.length_map,List.length_map]) (small hll) (fun i v y hv hy=>?_) (fun _ _ _ _ h=>h) ?_ jN ?_
  ·rw [List.getElem?_map,List.getElem?_map,hy] at hv
   cases hv
   rfl
  ·rintro y v H5 N1 hy s5 rfl k1
   exact ⟨rfl,_,rfl,_,rfl,kO T (s5 _ _ eg4) ⟨_,_,rfl,rfl,⟨by omega,by omega⟩,k1 H5 (Same.refl _)⟩⟩
  ·intro D H5 s5 hD hD5
   refine ⟨p,D,_,_,rfl,rfl,s5 _ _ hp4,hD5,(by rw [List.length_map];show 1+l.length≤sizeLine;exact Nat.le_of_lt (small (m:=1001) (by omega))),fun p6 hp6=>?_⟩
   refine ⟨p6,((spaceIn x.stacks g (Vbwsao.goodAt st.goods g).stack:Int)+((x.slots:Int) - (Vbwsao.usedSlots st.bags j:Int)) * ((Vbwsao.goodAt st.goods g).stack:Int)) :: l.map (fun x=>lft st.bags (heldOf st.goods st.bags) x / ((Vbwsao.goodAt st.goods g).weight:Int)),rfl,SqL.of (by rw [zf,List.map_cons,List.map_map];rfl),by simp,fun m hm1 hm2=>?_⟩
   have e2:=WM (a:=spaceIn x.stacks g (Vbwsao.goodAt st.goods g).stack+(x.slots - Vbwsao.usedSlots st.bags j) * (Vbwsao.goodAt st.goods g).stack) (l:=l.map fun c=>((Vbwsao.bagAt st.bags c).room - Vbwsao.holds st.goods st.bags c) / (Vbwsao.goodAt st.goods g).weight) ?_ hm1 hm2
   ·have e3:Vbwsao.fits st.goods st.bags j g=(l.map fun c=>((Vbwsao.bagAt st.bags c).room - Vbwsao.holds st.goods st.bags c) / (Vbwsao.goodAt st.goods g).weight).foldl min (spaceIn x.stacks g (Vbwsao.goodAt st.goods g).stack+(x.slots - Vbwsao.usedSlots st.bags j) * (Vbwsao.goodAt st.goods g).stack):=by
     unfold Vbwsao.fits
     rw [hl.chainOf,z3 hx]
     rfl
    rw [e2,← e3]
    exact k _ ((((s1.trans s2).trans s3).trans s4).trans (jR s5 hp6))
   ·have fj:=(F j hj).2
    rw [z3 hx] at fj
    rw [List.map_cons,List.map_map]
    congr 1
    ·rw [Int.natCast_add,Int.natCast_mul,Int.ofNat_sub fj]
    ·refine List.map_congr_left fun c hc=>?_
     have hcl:=hl.lt c hc
     have fc:=(F c hcl).1
     show lft _ _ c / _=((((Vbwsao.bagAt st.bags c).room - Vbwsao.holds st.goods st.bags c) / (Vbwsao.goodAt st.goods g).weight:Nat):Int)
     unfold lft
     rw [jO (z7 _ _ hcl),Int.natCast_ediv,Int.ofNat_sub fc]
end
section
variable {P:Program} {w:World} {K:PySem.W.Frag} {mg:Str→Option Value} {base:Heap}
theorem yt:FnScope ["state","b","weight","left"] ["state","b","weight"] (defScope vC):=⟨rfl,rfl,rfl,by decide +kernel,rfl,by decide +kernel,by decide +kernel⟩
def Qa (T:Prog K mg):Sp:=fun vs H Q _=>∃ (A:Adr) (s:State) (o:Option Nat) (l:List Nat) (wg:Nat),vs=[.ref A.st,insV o,.int (wg:Int)]∧StAt T H A s∧BInv s.goods s.bags∧ChS s.bags o l ∧
 ∀ (r:Bool) H',Same H H'→(r=true↔bagFits s.bags (Vbwsao.holds s.goods s.bags) o l wg)→Q (.bl r) H'
theorem ug (T:Prog K mg):FnOk P w K mg base CX0 3 T.bag_fits.f T.bag_fits.fd ["state","b","weight"] (Qa T):=by
 refine T.bag_fits.fn.ok yt (fun vs H Q E h=>?_) (fun cdv A outer s H vs Q E hr h=>?_)
 ·obtain ⟨A,s,o,l,wg,rfl,_⟩:=h
  rfl
 ·obtain ⟨A,st,o,l,wg,rfl,S,B,hl,k⟩:=h
  have hll:l.length≤1000:=by have:=hl.len;have:=B.len;omega
  have F:=jy.mp B.fine
  refine ⟨_,(za (zB (zq z8 (pv 1) (zA (v:=.int (-1)) rfl T.c_GROUND.at_ ⟨_,rfl⟩) (nomark _)) (ze (zm qU)) zp)
   (za (zB (zq kf (zi (qz T) (hr.mono (by decide)) rfl T.places_taken.at_ T.places_taken.fn.kp T.places_taken.b .nil pass0 (zc (pv 0) (zc (pv 1) zb))) (zd (K:=K) rfl (zv (zk (K:=K) rfl) (zd (K:=K) rfl (pv 0) rfl) (pv 1) (fun _ _=>rfl)) rfl) (nomark _)) (ze (zm qU)) zp)
   (ze (zm (zr (JG (K:=K) rfl rfl) (by rfl) T.b_all W3 (zc (qT rfl yt.nd (zL (K:=K) rfl (zi (yL T) (hr.mono (by decide)) rfl T.weight_left.at_ T.weight_left.fn.kp T.weight_left.b .nil pass0 (zc (pv 0) (zc (pv 1) zb)))) (own:=[("left",3)]) (zW (by kernel_rfl)) (fun _ _ _ _ _=>(zw (i:=3) yt.nd rfl (by first | exact Or.inl rfl | exact Or.inr rfl))) (fun _ _ _ _ _=>jC) (fun _ _ _ _ _=>(wa op_le (pv 2) (pv 3) (nomark _)))) zb)))))),?_⟩
  refine ⟨_,rfl,kW _ _,_,rfl,zx (p:=o.isNone) (by rw [ul]) (fun e=>?_) (fun e=>?_)⟩
  ·cases o with
   | some c=>cases e
   | none=>exact k true H (Same.refl _) ⟨fun _=>True.intro,fun _=>rfl⟩
  ·cases o with
   | none=>cases e
   | some j=>
    have hl0:=hl
    cases hl with
    | @cons _ x l' hx hl'=>
     obtain ⟨a,h,ha,hh,dx,sl,e1,n1,p1⟩:=S.bag hx
     refine ⟨_,rfl,_,rfl,A,st,_,j,x,rfl,S,(by have:=B.len;omega),hx,fun H1 s1=>?_⟩
     have S1:=S.same s1
     have e1':=s1 _ _ e1
     refine ⟨_,rfl,zP S1 ⟨_,rfl,jb S1.bs ha (Zr T e1' ⟨_,_,rfl,rfl,_,rfl,zx (p:=decide (x.slots≤Vbwsao.usedSlots st.bags j)) (decide_eq_decide.mpr (by omega)) (fun e=>?_) (fun e=>?_)⟩)⟩⟩
     ·have e2:x.slots≤Vbwsao.usedSlots st.bags j:=by simpa using e
      refine k false H1 s1 ⟨fun q=>(by cases q),fun q=>?_⟩
      have:=q.1
      rw [z3 hx] at this
      omega
     ·have e2:¬ x.slots≤Vbwsao.usedSlots st.bags j:=by simpa using e
      refine ⟨_,rfl,_,rfl,A,st,_,some j,j :: l',rfl,S1,hl0,hll,fun q H2 s2 hq hq2=>⟨q,rfl,⟨_,SqL.of hq2⟩,?_⟩⟩
      refine wx (xs:=j :: l') (fun H x v=>v=V.int (lft st.bags (heldOf st.goods st.bags) x)) (fun x=>V.bl (decide ((wg:Int)≤lft st.bags (heldOf st.goods st.bags) x))) (SqL.of hq2) (by rw [List.length_map,List.length_map]) (small hll) (fun i v y hv hy=>?_) (fun _ _ _ _ h=>h) ?_ jN ?_
      ·rw [List.getElem?_map,List.getElem?_map,hy] at hv
       cases hv
       rfl
      ·rintro y v H5 N1 hy s5 rfl k1
       exact ⟨rfl,_,rfl,_,rfl,_,_,rfl,rfl,k1 H5 (Same.refl _)⟩
      ·intro D H5 s5 hD hD5
       refine ⟨D,(j :: l').map fun x=>decide ((wg:Int)≤lft st.bags (heldOf st.goods st.bags) x),rfl,SqL.of (by rw [hD5,List.map_map];rfl),?_⟩
       refine k _ H5 ((s1.trans s2).trans s5) ?_
       rw [List.all_map,List.all_eq_true]
       have key:∀ c∈j :: l',(wg:Int)≤lft st.bags (heldOf st.goods st.bags) c↔Vbwsao.holds st.goods st.bags c+wg≤(Vbwsao.bagAt st.bags c).room:=fun c hc=>by
        unfold lft
        rw [jO (z7 _ _ (hl0.lt c hc))]
        omega
       constructor
       ·intro h
        refine ⟨by rw [z3 hx];omega,fun c hc=>(key c hc).mp (of_decide_eq_true (h c hc))⟩
       ·intro h c hc
        exact decide_eq_true ((key c hc).mpr (h.2 c hc))
theorem kF:FnScope ["state","b","good","many","told","bag"] ["state","b","good","many"] (defScope u6):=⟨rfl,rfl,rfl,by decide +kernel,rfl,by decide +kernel,by decide +kernel⟩
def YS (T:Prog K mg):Sp:=fun vs H Q _=>∃ (A:Adr) (s:State) (j g n:Nat),vs=[.ref A.st,.int (j:Int),.int (g:Int),.int (n:Int)]∧StAt T H A s∧GInv s.goods∧BInv s.goods s.bags∧j<s.bags.length∧g<s.goods.length∧Vbwsao.allFine s.goods (Vbwsao.putRaw s.goods s.bags j g n)=true ∧
 ∀ H',StAt T H' A { s with bags:=Vbwsao.putRaw s.goods s.bags j g n }→Frm [T.kBag.C] [] H H'→Q .non H'
theorem YZ (T:Prog K mg):FnOk P w K mg base CX0 3 T.put_in.f T.put_in.fd ["state","b","good","many"] (YS T):=by
 refine T.put_in.fn.ok kF (fun vs H Q E h=>?_) (fun cdv A outer s H vs Q E hr h=>?_)
 ·obtain ⟨A,s,j,g,n,rfl,_⟩:=h
  rfl
 ·obtain ⟨A,st,j,g,n,rfl,S,G,B,hj,hg,hf,k⟩:=h
  obtain ⟨x,hx⟩:∃ x,st.bags[j]? = some x:=⟨_,List.getElem?_eq_getElem hj⟩
  obtain ⟨l,hl⟩:=B.ac j hj
  have hll:l.length≤1000:=by have:=hl.len;have:=B.len;omega
  obtain ⟨ga,gdx,hga,eg⟩:=S.good hg
  obtain ⟨a,h,ha,hh,dx,sl,e1,n1,p1⟩:=S.bag hx
  have Gg:=G.at hg
  have B':=Yb G B hx hg hf
  have hx':(Vbwsao.putRaw st.goods st.bags j g n)[j]? = some { x with stacks:=Vbwsao.putStacks (Vbwsao.goodAt st.goods g).stack g n x.stacks }:=by
   rw [z6 st.goods g n hx]
   exact List.getElem?_set_self hj
  have hlen:=B'.stk_len hx'
  have hl':ChS (st.bags.set j { x with stacks:=Vbwsao.putStacks (Vbwsao.goodAt st.goods g).stack g n x.stacks }) (some j) l:=hl.set (y:={ x with stacks:=Vbwsao.putStacks (Vbwsao.goodAt st.goods g).stack g n x.stacks }) hx rfl
  refine ⟨_,(za (zt (i:=4) kF.nd rfl (by first | exact Or.inl rfl | exact Or.inr rfl) (zv (zk (K:=K) rfl) (zd (K:=K) rfl (pv 0) rfl) (pv 2) (fun _ _=>rfl)))
   (za (zt (i:=5) kF.nd rfl (by first | exact Or.inl rfl | exact Or.inr rfl) (zv (zk (K:=K) rfl) (zd (K:=K) rfl (pv 0) rfl) (pv 1) (fun _ _=>rfl)))
   (za (zC (K:=K) rfl (pv 5) (zi (Jw T) (hr.mono (by decide)) rfl T.filled_up.at_ T.filled_up.fn.kp T.filled_up.b .nil pass0 (zc (zd (K:=K) rfl (pv 5) rfl) (zc (pv 2) (zc (zd (K:=K) rfl (pv 4) rfl) (zc (pv 3) zb))))) rfl)
   (ze (zG (zi (jZ T) (hr.mono (by decide)) rfl T.add_load.at_ T.add_load.fn.kp T.add_load.b .nil pass0 (zc (pv 0) (zc (pv 1) (zc (zI yd (pv 3) (zd (K:=K) rfl (pv 4) rfl)) zb))))))))),?_⟩
  refine ⟨_,rfl,zV S ⟨_,rfl,jb S.gs hga ⟨_,rfl,zP S ⟨_,rfl,jb S.bs ha ⟨_,rfl,jk T e1 ⟨_,rfl,_,rfl,Jm T eg ⟨_,rfl,sl,x.stacks,g,_,n,rfl,p1,Gg.2.2.1,(fun y hy e=>e ▸ (B.stk hx y hy).2.2),Nat.le_trans hlen (by decide),fun p H1 s1 hp hp1=>?_⟩⟩⟩⟩⟩⟩⟩
  have S1:=S.same s1
  have e1':=s1 _ _ e1
  have eg':=s1 _ _ eg
  refine ⟨_,rfl,a,T.kBag.C,dx,_,rfl,e1',T.kBag.cl,T.kBag.no _ (List.mem_of_getElem? (i:=4) rfl),(by show 6<1000;decide),?_⟩
  have S2:=S1.setBag (b':={ x with stacks:=Vbwsao.putStacks (Vbwsao.goodAt st.goods g).stack g n x.stacks }) (h':=h) ha hx e1' (S.fresh hp) hp1
  rw [jD hh] at S2
  have f2:Frm [T.kBag.C] [] H1 (L2.upd H1 a (.ins T.kBag.C dx (putF "stacks" (.ref p) (fsBag x sl h)))):=jp e1' (by simp)
  have eg2:=f2.ins eg' (by simp;exact nGB)
  refine ⟨_,rfl,_,rfl,_,rfl,_,rfl,kO T eg2 ⟨_,_,rfl,rfl,.inr ⟨by omega,by omega⟩,?_⟩⟩
  refine ⟨A,_,_,some j,l,_,rfl,S2,hl',hll,fun H3 S3 f3=>k H3 ?_ (((zy s1).trans f2).trans f3)⟩
  rw [z6 st.goods g n hx]
  have e5:addL (heldOf st.goods st.bags) l ((n:Int) * ((Vbwsao.goodAt st.goods g).weight:Int))=heldOf st.goods (st.bags.set j { x with stacks:=Vbwsao.putStacks (Vbwsao.goodAt st.goods g).stack g n x.stacks }):=by
   refine wN (by rw [List.length_set]) fun c hc=>?_
   have:=Zx G B.ac hx hl hg n c
   rw [z6 st.goods g n hx] at this
   rw [this,Int.natCast_add,Int.natCast_mul,Int.natCast_mul,Int.mul_comm (n:Int)]
  rw [e5] at S3
  exact S3
theorem k9:FnScope ["state","b","good","many","bag"] ["state","b","good","many"] (defScope vp):=⟨rfl,rfl,rfl,by decide +kernel,rfl,by decide +kernel,by decide +kernel⟩
def J2 (T:Prog K mg):Sp:=fun vs H Q _=>∃ (A:Adr) (s:State) (j g n:Nat) (x:Bag),vs=[.ref A.st,.int (j:Int),.int (g:Int),.int (n:Int)]∧StAt T H A s∧GInv s.goods∧BInv s.goods s.bags∧s.bags[j]? = some x∧g<s.goods.length∧n≤Vbwsao.countIn x.stacks g ∧
 ∀ H',StAt T H' A { s with bags:=Vbwsao.takeRaw s.bags j g n }→Frm [T.kBag.C] [] H H'→Q .non H'
theorem yM (T:Prog K mg):FnOk P w K mg base CX0 3 T.take_out.f T.take_out.fd ["state","b","good","many"] (J2 T):=by
 refine T.take_out.fn.ok k9 (fun vs H Q E h=>?_) (fun cdv A outer s H vs Q E hr h=>?_)
 ·obtain ⟨A,s,j,g,n,x,rfl,_⟩:=h
  rfl
 ·obtain ⟨A,st,j,g,n,x,rfl,S,G,B,hx,hg,hn,k⟩:=h
  have hj:=zT hx
  obtain ⟨l,hl⟩:=B.ac j hj
  have hll:l.length≤1000:=by have:=hl.len;have:=B.len;omega
  obtain ⟨ga,gdx,hga,eg⟩:=S.good hg
  obtain ⟨a,h,ha,hh,dx,sl,e1,n1,p1⟩:=S.bag hx
  have Gg:=G.at hg
  have hl':ChS (st.bags.set j { x with stacks:=Vbwsao.takeStacks g n x.stacks }) (some j) l:=hl.set (y:={ x with stacks:=Vbwsao.takeStacks g n x.stacks }) hx rfl
  refine ⟨_,(za (zt (i:=4) k9.nd rfl (by first | exact Or.inl rfl | exact Or.inr rfl) (zv (zk (K:=K) rfl) (zd (K:=K) rfl (pv 0) rfl) (pv 1) (fun _ _=>rfl)))
   (za (zC (K:=K) rfl (pv 4) (zi (WI T) (hr.mono (by decide)) rfl T.emptied.at_ T.emptied.fn.kp T.emptied.b .nil pass0 (zc (zd (K:=K) rfl (pv 4) rfl) (zc (pv 2) (zc (pv 3) zb)))) rfl)
   (ze (zG (zi (jZ T) (hr.mono (by decide)) rfl T.add_load.at_ T.add_load.fn.kp T.add_load.b .nil pass0 (zc (pv 0) (zc (pv 1) (zc (zI yd (pe_un un_neg (pv 3)) (zd (K:=K) rfl (zv (zk (K:=K) rfl) (zd (K:=K) rfl (pv 0) rfl) (pv 2) (fun _ _=>rfl)) rfl)) zb)))))))),?_⟩
  refine ⟨_,rfl,zP S ⟨_,rfl,jb S.bs ha ⟨_,rfl,jk T e1 ⟨_,rfl,_,rfl,sl,x.stacks,g,n,rfl,p1,(by have:=B.stk_len hx;omega),(fun y hy=>(B.stk hx y hy).2.1),fun p H1 s1 hp hp1=>?_⟩⟩⟩⟩
  have S1:=S.same s1
  have e1':=s1 _ _ e1
  have eg':=s1 _ _ eg
  refine ⟨_,rfl,a,T.kBag.C,dx,_,rfl,e1',T.kBag.cl,T.kBag.no _ (List.mem_of_getElem? (i:=4) rfl),(by show 6<1000;decide),?_⟩
  have S2:=S1.setBag (b':={ x with stacks:=Vbwsao.takeStacks g n x.stacks }) (h':=h) ha hx e1' (S.fresh hp) hp1
  rw [jD hh] at S2
  have f2:Frm [T.kBag.C] [] H1 (L2.upd H1 a (.ins T.kBag.C dx (putF "stacks" (.ref p) (fsBag x sl h)))):=jp e1' (by simp)
  have eg2:=f2.ins eg' (by simp;exact nGB)
  refine ⟨_,rfl,_,rfl,_,rfl,_,rfl,_,rfl,zV S2 ⟨_,rfl,jb S2.gs hga (kO T eg2 ⟨_,_,rfl,rfl,.inr ⟨by omega,by omega⟩,?_⟩)⟩⟩
  refine ⟨A,_,_,some j,l,_,rfl,S2,hl',hll,fun H3 S3 f3=>k H3 ?_ (((zy s1).trans f2).trans f3)⟩
  rw [z4 g n hx]
  have e5:addL (heldOf st.goods st.bags) l (-(n:Int) * ((Vbwsao.goodAt st.goods g).weight:Int))=heldOf st.goods (st.bags.set j { x with stacks:=Vbwsao.takeStacks g n x.stacks }):=by
   refine wN (by rw [List.length_set]) fun c hc=>?_
   have:=xB st.goods B.ac hx hl hn c
   rw [z4 g n hx] at this
   rw [← this,Int.natCast_add,Int.natCast_mul,Int.natCast_mul,Int.neg_mul,Int.neg_mul,Int.mul_comm (n:Int)]
   omega
  rw [e5] at S3
  exact S3
theorem vV:FnScope ["state","b","good","many"] ["state","b","good","many"] (defScope j7):=⟨rfl,rfl,rfl,by decide +kernel,rfl,by decide +kernel,by decide +kernel⟩
def vQ (T:Prog K mg):Sp:=fun vs H Q _=>∃ (A:Adr) (s:State) (j g n:Nat),vs=[.ref A.st,.int (j:Int),.int (g:Int),.int (n:Int)]∧StAt T H A s∧GInv s.goods∧BInv s.goods s.bags∧j<s.bags.length∧g<s.goods.length ∧
 (∀ bs' H',Vbwsao.put? s.goods s.bags j g n=some bs'→BInv s.goods bs'→StAt T H' A { s with bags:=bs' }→Frm [T.kBag.C] [] H H'→Q (.bl true) H') ∧
 (Vbwsao.put? s.goods s.bags j g n=none→∀ H',Same H H'→Q (.bl false) H')
theorem put_some {gs:List Good} {bs:List Bag} {b g n:Nat} (h:Vbwsao.allFine gs (Vbwsao.putRaw gs bs b g n)=true):Vbwsao.put? gs bs b g n=some (Vbwsao.putRaw gs bs b g n):=if_pos h
theorem put_none {gs:List Good} {bs:List Bag} {b g n:Nat} (h:¬ Vbwsao.allFine gs (Vbwsao.putRaw gs bs b g n)=true):Vbwsao.put? gs bs b g n=none:=if_neg h
theorem jt (T:Prog K mg):FnOk P w K mg base CX0 4 T.put_if_it_fits.f T.put_if_it_fits.fd ["state","b","good","many"] (vQ T):=by
 refine T.put_if_it_fits.fn.ok vV (fun vs H Q E h=>?_) (fun cdv A outer s H vs Q E hr h=>?_)
 ·obtain ⟨A,s,j,g,n,rfl,_⟩:=h
  rfl
 ·obtain ⟨A,st,j,g,n,rfl,S,G,B,hj,hg,k1,k2⟩:=h
  obtain ⟨x,hx⟩:∃ x,st.bags[j]? = some x:=⟨_,List.getElem?_eq_getElem hj⟩
  obtain ⟨l,hl⟩:=B.ac j hj
  have key:=put_iff G B hx hl hg n
  refine ⟨_,(za (zB (zq qC (pv 3) (zi (yl T) (hr.mono (by decide)) rfl T.how_many_fit.at_ T.how_many_fit.fn.kp T.how_many_fit.b .nil pass0 (zc (pv 0) (zc (pv 1) (zc (pv 2) zb)))) (nomark _)) (ze (zm qU)) zp)
   (za (zG (zi (YZ T) (hr.mono (by decide)) rfl T.put_in.at_ T.put_in.fn.kp T.put_in.b .nil pass0 (zc (pv 0) (zc (pv 1) (zc (pv 2) (zc (pv 3) zb))))))
   (ze (zm qU)))),?_⟩
  refine ⟨_,rfl,_,rfl,_,rfl,_,rfl,A,st,j,g,rfl,S,G,B,hj,hg,fun H1 s1=>⟨_,_,rfl,rfl,_,rfl,zx (p:=decide (Vbwsao.fits st.goods st.bags j g<n)) (decide_eq_decide.mpr (by omega)) (fun e=>?_) (fun e=>?_)⟩⟩
  ·have e2:Vbwsao.fits st.goods st.bags j g<n:=by simpa using e
   exact k2 (put_none fun q=>by have:=key.mp q;omega) H1 s1
  ·have e2:¬ Vbwsao.fits st.goods st.bags j g<n:=by simpa using e
   have hf:=key.mpr (by omega)
   exact ⟨_,rfl,_,rfl,_,rfl,_,rfl,A,st,j,g,n,rfl,S.same s1,G,B,hj,hg,hf,fun H2 S2 f2=>k1 _ H2 (put_some hf) (Yb G B hx hg hf) S2 ((zy s1).trans f2)⟩
theorem wf:FnScope ["state","b","needs","times","good","many"] ["state","b","needs","times"] (defScope w4):=⟨rfl,rfl,rfl,by decide +kernel,rfl,by decide +kernel,by decide +kernel⟩
def xU (T:Prog K mg):Sp:=fun vs H Q _=>∃ (A:Adr) (s:State) (j m:Nat) (nl:Addr) (needs:List (Nat × Nat)) (bs':List Bag),vs=[.ref A.st,.int (j:Int),.ref nl,.int (m:Int)]∧StAt T H A s∧GInv s.goods∧BInv s.goods s.bags∧j<s.bags.length∧PrsAt H nl needs∧(∀ x∈needs,x.1<s.goods.length∧x.2≤9) ∧
 Vbwsao.takeAll s.bags j (needs.map fun x=>(x.1,x.2 * m))=some bs'∧∀ H',BInv s.goods bs'→StAt T H' A { s with bags:=bs' }→Frm [T.kBag.C] [] H H'→Q .non H'
theorem ZS {bs bs':List Bag} {j g n:Nat} {r:List (Nat × Nat)} {x:Bag} (hx:bs[j]? = some x) (h:Vbwsao.takeAll bs j ((g,n) :: r)=some bs'):n≤Vbwsao.countIn x.stacks g∧Vbwsao.takeAll (Vbwsao.takeRaw bs j g n) j r=some bs':=by
 have h':(Vbwsao.take? bs j g n).bind (fun c=>Vbwsao.takeAll c j r)=some bs':=h
 unfold Vbwsao.take? at h'
 rw [z3 hx] at h'
 by_cases e:Vbwsao.countIn x.stacks g<n
 ·rw [if_pos e] at h'
  cases h'
 ·rw [if_neg e] at h'
  exact ⟨by omega,h'⟩
theorem vi (T:Prog K mg):FnOk P w K mg base CX0 4 T.take_needs.f T.take_needs.fd ["state","b","needs","times"] (xU T):=by
 refine T.take_needs.fn.ok wf (fun vs H Q E h=>?_) (fun cdv A outer s H vs Q E hr h=>?_)
 ·obtain ⟨A,s,j,m,nl,needs,bs',rfl,_⟩:=h
  rfl
 ·obtain ⟨A,st,j,m,nl,needs,bs',rfl,S,G,B,hj,hp,hn,ht,k⟩:=h
  refine ⟨_,(ze (jH PassesOwn.never rfl (zL (K:=K) rfl (pv 2)) (js (K:=K) (n:=2) rfl rfl (zF (zw (i:=4) wf.nd rfl (by first | exact Or.inl rfl | exact Or.inr rfl)) (zF (zw (i:=5) wf.nd rfl (by first | exact Or.inl rfl | exact Or.inr rfl)) jr))) (ze (zG (zi (yM T) (hr.mono (by decide)) rfl T.take_out.at_ T.take_out.fn.kp T.take_out.b .nil pass0 (zc (pv 0) (zc (pv 1) (zc (pv 4) (zc (zI yd (pv 3) (pv 5)) zb))))))))),?_⟩
  refine ⟨_,rfl,nl,rfl,uB (fun i σ H'=>Frm [T.kBag.C] [] H H'∧(∃ bs1,bs1.length=st.bags.length∧BInv st.goods bs1∧StAt T H' A { st with bags:=bs1 }∧Vbwsao.takeAll bs1 j ((needs.drop i).map fun x=>(x.1,x.2 * m))=some bs') ∧
   ∃ v4 v5,σ=[some (.ref A.st),some (.int (j:Int)),some (.ref nl),some (.int (m:Int)),v4,v5]) hp ⟨Frm.refl _,⟨st.bags,rfl,B,S,ht⟩,_,_,rfl⟩ (fun i σ' H' h _ as hq=>hq.imp (h.1.lst hq.1 (by simp)) fun a x e=>h.1.tup e) ?_ ?_⟩
  ·rintro i x a σ H1 hx hpa ⟨f1,⟨bs1,hlen,B1,S1,ht1⟩,v4,v5,rfl⟩
   have hxn:=hn x (List.mem_of_getElem? hx)
   obtain ⟨y,hy⟩:∃ y,bs1[j]? = some y:=⟨_,List.getElem?_eq_getElem (by omega)⟩
   obtain ⟨l,hl⟩:=B1.ac j (by omega)
   have e1:needs.drop i=x :: needs.drop (i+1):=by
    obtain ⟨h1,h2⟩:=List.getElem?_eq_some_iff.mp hx
    rw [List.drop_eq_getElem_cons h1,h2]
   rw [e1,List.map_cons] at ht1
   obtain ⟨hc,ht2⟩:=ZS hy ht1
   refine jY hpa ?_
   refine ⟨_,rfl,_,rfl,_,rfl,_,rfl,_,rfl,_,_,rfl,rfl,.inr ⟨by omega,by omega⟩,A,{ st with bags:=bs1 },j,x.1,x.2 * m,y,?_,S1,G,B1,hy,hxn.1,hc,fun H2 S2 f2=>?_⟩
   ·rw [Int.natCast_mul,Int.mul_comm]
    rfl
   ·refine ⟨f1.trans f2,⟨_,?_,uK B1 hy hl hc,S2,ht2⟩,_,_,rfl⟩
    rw [z4 x.1 _ hy,List.length_set]
    exact hlen
  ·rintro σ H1 ⟨f1,⟨bs1,hlen,B1,S1,ht1⟩,v4,v5,rfl⟩
   rw [List.drop_length] at ht1
   have e:bs1=bs':=Option.some.inj ht1
   subst e
   exact k H1 B1 S1 f1
end
end BM
end
section
namespace BM
open Vbwsao
structure RInv (gs:List Good) (rs:List Recipe):Prop where
 len:rs.length≤16
 ok:∀ r∈rs,r.makes<gs.length∧1≤r.cost∧r.cost≤1000∧r.needs.length≤4∧(∀ x∈r.needs,x.1<gs.length∧1≤x.2∧x.2≤9)∧(r.needs.map (·.1)).Nodup
structure SInv (s:State):Prop where
 g:GInv s.goods
 r:RInv s.goods s.recipes
 b:BInv s.goods s.bags
 ml:s.machines.length≤6
 m:∀ x∈s.machines,x.from_<s.bags.length∧x.to_<s.bags.length∧x.recipe<s.recipes.length
 em:s.goods=[]→s.bags=[]∧s.recipes=[]
theorem SInv.bags {s:State} (I:SInv s) {bs:List Bag} (B:BInv s.goods bs) (hl:bs.length=s.bags.length):SInv { s with bags:=bs } where
 g:=I.g
 r:=I.r
 b:=B
 ml:=I.ml
 m:=fun x hx=>by
  have:=I.m x hx
  show _<bs.length∧_<bs.length∧_
  rw [hl]
  exact this
 em:=fun h=>by
  obtain ⟨h1,h2⟩:=I.em h
  rw [h1] at hl
  exact ⟨List.eq_nil_of_length_eq_zero hl,h2⟩
theorem SInv.start:SInv Vbwsao.start where
 g:=⟨by decide,fun x hx=>by cases hx⟩
 r:=⟨by decide,fun x hx=>by cases hx⟩
 b:=⟨by decide,fun b hb=>absurd hb (by show ¬ b<0;omega),fun x hx=>(by cases hx),fun x hx=>(by cases hx),rfl⟩
 ml:=by decide
 m:=fun x hx=>by cases hx
 em:=fun _=>⟨rfl,rfl⟩
theorem zg {s:State} {c:Int} {l:List (Int × Bool)} {k:Unit→State × List Int} {b:Bool} (h:b=false):guarded s ((c,b) :: l) k=guarded s l k:=by
 subst h
 rfl
theorem zU {s:State} {c:Int} {l:List (Int × Bool)} {k:Unit→State × List Int} {b:Bool} (h:b=true):guarded s ((c,b) :: l) k=(s,[c]):=by
 subst h
 rfl
theorem jx {s:State} {k:Unit→State × List Int}:guarded s [] k=k ():=rfl
theorem jc {n lo hi:Int}:inr n lo hi=true↔lo≤n∧n≤hi:=by
 unfold inr
 simp
def callIn:Call→Bool
 | .goods l=>decide (3≤l.length)&&(decide (l.length≤30)&&triplesFine l)
 | .recipe g c t l=>goodIx g&&(inr c 1 1000&&(inr t 1 50&&(decide (l.length≤8)&&needsFine l)))
 | .bag b room own slots=>inr b (-1) 11&&(inr room 0 1000000&&(inr own 0 1000&&inr slots 0 40))
 | .put b g n=>bagIx b&&(goodIx g&&amount n)
 | .take b g n=>bagIx b&&(goodIx g&&amount n)
 | .move a b g n=>bagIx a&&(bagIx b&&(goodIx g&&amount n))
 | .carry a b=>bagIx a&&inr b (-1) 11
 | .stacks b=>bagIx b
 | .load b=>bagIx b
 | .fits b g=>bagIx b&&goodIx g
 | .costs=>true
 | .fair l=>decide (l.length≤10)&&l.all fun n=>inr n 0 1000000000000000000
 | .plan b g n=>bagIx b&&(goodIx g&&inr n 1 100)
 | .make b g n=>bagIx b&&(goodIx g&&inr n 1 100)
 | .machine a b r=>bagIx a&&(bagIx b&&inr r 0 15)
 | .order m n=>inr m 0 5&&inr n 1 1000
 | .tick n=>inr n 1 100
 | .state m=>inr m 0 5
 | .count g=>goodIx g
 | .totals=>true
 | .find g=>goodIx g
theorem JU {s:State} {c:Call} (h:callIn c=false):step s c=(s,[-1]):=by
 cases c <;> unfold step <;> dsimp only <;> first | (exact zU (congrArg not h)) | (exact absurd (show true=false from h) (by decide))
def isGoods:Call→Bool
 | .goods _=>true
 | .totals=>true
 | _=>false
theorem qK {s:State} {c:Call} (h:callIn c=true) (hg:s.goods=[]) (hc:isGoods c=false):step s c=(s,[-2]):=by
 have e:s.goods.isEmpty=true:=by rw [hg];rfl
 cases c <;> unfold step <;> dsimp only <;> first
  | (exact absurd (show true=false from hc) (by decide))
  | (exact zU e)
  | (exact (zg (congrArg not h)).trans (zU e))
section
variable {s:State} {a b g n room own slots:Int}
theorem st_bag3 (hi:callIn (.bag b room own slots)=true) (hg:s.goods.isEmpty=false) (h:nb s b=true):step s (.bag b room own slots)=(s,[-3]):=by
 unfold step;dsimp only
 exact (zg (congrArg not hi)).trans ((zg hg).trans (zU h))
theorem st_bag4 (hi:callIn (.bag b room own slots)=true) (hg:s.goods.isEmpty=false) (h:nb s b=false) (h2:12≤s.bags.length):step s (.bag b room own slots)=(s,[-4]):=by
 unfold step;dsimp only
 exact (zg (congrArg not hi)).trans ((zg hg).trans ((zg h).trans (zU (decide_eq_true h2))))
def newBag (b room own slots:Int):Bag:=⟨if b<0 then none else some b.toNat,room.toNat,own.toNat,slots.toNat,[]⟩
theorem st_bag6 (hi:callIn (.bag b room own slots)=true) (hg:s.goods.isEmpty=false) (h:nb s b=false) (h2:¬ 12≤s.bags.length) (h3:¬ allFine s.goods (s.bags++[newBag b room own slots])=true):step s (.bag b room own slots)=(s,[-6]):=by
 unfold step;dsimp only
 exact (zg (congrArg not hi)).trans ((zg hg).trans ((zg h).trans ((zg (decide_eq_false h2)).trans (zU (congrArg not (Bool.not_eq_true _ ▸ h3:allFine s.goods (s.bags++[newBag b room own slots])=false))))))
theorem st_bag (hi:callIn (.bag b room own slots)=true) (hg:s.goods.isEmpty=false) (h:nb s b=false) (h2:¬ 12≤s.bags.length) (h3:allFine s.goods (s.bags++[newBag b room own slots])=true):step s (.bag b room own slots)=({ s with bags:=s.bags++[newBag b room own slots] },[0,(s.bags.length:Int)]):=by
 unfold step;dsimp only
 exact (zg (congrArg not hi)).trans ((zg hg).trans ((zg h).trans ((zg (decide_eq_false h2)).trans ((zg (congrArg not h3)).trans jx))))
theorem W5 (hi:callIn (.put b g n)=true) (hg:s.goods.isEmpty=false) (h:(nb s b||ng s g)=true):step s (.put b g n)=(s,[-3]):=by
 unfold step;dsimp only
 exact (zg (congrArg not hi)).trans ((zg hg).trans (zU h))
theorem st_put6 (hi:callIn (.put b g n)=true) (hg:s.goods.isEmpty=false) (h:(nb s b||ng s g)=false) (h2:put? s.goods s.bags b.toNat g.toNat n.toNat=none):step s (.put b g n)=(s,[-6]):=by
 unfold step;dsimp only
 exact (zg (congrArg not hi)).trans ((zg hg).trans ((zg h).trans (zU (by rw [h2];rfl))))
theorem st_put (hi:callIn (.put b g n)=true) (hg:s.goods.isEmpty=false) (h:(nb s b||ng s g)=false) {bs:List Bag} (h2:put? s.goods s.bags b.toNat g.toNat n.toNat=some bs):step s (.put b g n)=({ s with bags:=bs },[0]):=by
 unfold step;dsimp only
 refine (zg (congrArg not hi)).trans ((zg hg).trans ((zg h).trans ((zg (by rw [h2];rfl)).trans (jx.trans ?_))))
 rw [h2]
 rfl
theorem JV (hi:callIn (.take b g n)=true) (hg:s.goods.isEmpty=false) (h:(nb s b||ng s g)=true):step s (.take b g n)=(s,[-3]):=by
 unfold step;dsimp only
 exact (zg (congrArg not hi)).trans ((zg hg).trans (zU h))
theorem st_take8 (hi:callIn (.take b g n)=true) (hg:s.goods.isEmpty=false) (h:(nb s b||ng s g)=false) (h2:missing s b g n=true):step s (.take b g n)=(s,[-8]):=by
 unfold step;dsimp only
 exact (zg (congrArg not hi)).trans ((zg hg).trans ((zg h).trans (zU h2)))
theorem st_take (hi:callIn (.take b g n)=true) (hg:s.goods.isEmpty=false) (h:(nb s b||ng s g)=false) (h2:missing s b g n=false):step s (.take b g n)=({ s with bags:=takeRaw s.bags b.toNat g.toNat n.toNat },[0,(countIn (stock s b) g.toNat:Int) - n]):=by
 unfold step;dsimp only
 exact (zg (congrArg not hi)).trans ((zg hg).trans ((zg h).trans ((zg h2).trans jx)))
theorem uO (hi:callIn (.move a b g n)=true) (hg:s.goods.isEmpty=false) (h:(nb s a||(nb s b||ng s g))=true):step s (.move a b g n)=(s,[-3]):=by
 unfold step;dsimp only
 exact (zg (congrArg not hi)).trans ((zg hg).trans (zU h))
theorem st_move6 (hi:callIn (.move a b g n)=true) (hg:s.goods.isEmpty=false) (h:(nb s a||(nb s b||ng s g))=false) (h1:missing s a g n=false) (h2:moved s a b g n=none):step s (.move a b g n)=(s,[-6]):=by
 unfold step;dsimp only
 exact (zg (congrArg not hi)).trans ((zg hg).trans ((zg h).trans (zU (by rw [h1,h2];rfl))))
theorem st_move8 (hi:callIn (.move a b g n)=true) (hg:s.goods.isEmpty=false) (h:(nb s a||(nb s b||ng s g))=false) (h1:missing s a g n=true):step s (.move a b g n)=(s,[-8]):=by
 unfold step;dsimp only
 exact (zg (congrArg not hi)).trans ((zg hg).trans ((zg h).trans ((zg (by rw [h1];rfl)).trans (zU h1))))
theorem st_move (hi:callIn (.move a b g n)=true) (hg:s.goods.isEmpty=false) (h:(nb s a||(nb s b||ng s g))=false) (h1:missing s a g n=false) {bs:List Bag} (h2:moved s a b g n=some bs):step s (.move a b g n)=({ s with bags:=bs },[0]):=by
 unfold step;dsimp only
 refine (zg (congrArg not hi)).trans ((zg hg).trans ((zg h).trans ((zg (by rw [h1,h2];rfl)).trans ((zg h1).trans (jx.trans ?_)))))
 rw [h2]
 rfl
theorem Zo (hi:callIn (.carry a b)=true) (hg:s.goods.isEmpty=false) (h:(nb s a||nb s b)=true):step s (.carry a b)=(s,[-3]):=by
 unfold step;dsimp only
 exact (zg (congrArg not hi)).trans ((zg hg).trans (zU h))
theorem Zn (hi:callIn (.carry a b)=true) (hg:s.goods.isEmpty=false) (h:(nb s a||nb s b)=false) (h2:carried s a b=none):step s (.carry a b)=(s,[-6]):=by
 unfold step;dsimp only
 exact (zg (congrArg not hi)).trans ((zg hg).trans ((zg h).trans (zU (by rw [h2];rfl))))
theorem st_carry (hi:callIn (.carry a b)=true) (hg:s.goods.isEmpty=false) (h:(nb s a||nb s b)=false) {bs:List Bag} (h2:carried s a b=some bs):step s (.carry a b)=({ s with bags:=bs },[0]):=by
 unfold step;dsimp only
 refine (zg (congrArg not hi)).trans ((zg hg).trans ((zg h).trans ((zg (by rw [h2];rfl)).trans (jx.trans ?_))))
 rw [h2]
 rfl
theorem We (hi:callIn (.stacks b)=true) (hg:s.goods.isEmpty=false) (h:nb s b=true):step s (.stacks b)=(s,[-3]):=by
 unfold step;dsimp only
 exact (zg (congrArg not hi)).trans ((zg hg).trans (zU h))
theorem YL (hi:callIn (.stacks b)=true) (hg:s.goods.isEmpty=false) (h:nb s b=false):step s (.stacks b)=(s,0 :: (stock s b).flatMap fun x=>[(x.1:Int),(x.2:Int)]):=by
 unfold step;dsimp only
 exact (zg (congrArg not hi)).trans ((zg hg).trans ((zg h).trans jx))
theorem st_load3 (hi:callIn (.load b)=true) (hg:s.goods.isEmpty=false) (h:nb s b=true):step s (.load b)=(s,[-3]):=by
 unfold step;dsimp only
 exact (zg (congrArg not hi)).trans ((zg hg).trans (zU h))
theorem st_load (hi:callIn (.load b)=true) (hg:s.goods.isEmpty=false) (h:nb s b=false):step s (.load b)=(s,[0,(loadOf s.goods s.bags b.toNat:Int),((bagAt s.bags b.toNat).room:Int) - (holds s.goods s.bags b.toNat:Int),(usedSlots s.bags b.toNat:Int),match (bagAt s.bags b.toNat).inside with
    | some c=>(c:Int)
    | none=>-1]):=by
 unfold step;dsimp only
 exact (zg (congrArg not hi)).trans ((zg hg).trans ((zg h).trans jx))
theorem J1 (hi:callIn (.fits b g)=true) (hg:s.goods.isEmpty=false) (h:(nb s b||ng s g)=true):step s (.fits b g)=(s,[-3]):=by
 unfold step;dsimp only
 exact (zg (congrArg not hi)).trans ((zg hg).trans (zU h))
theorem st_fits (hi:callIn (.fits b g)=true) (hg:s.goods.isEmpty=false) (h:(nb s b||ng s g)=false):step s (.fits b g)=(s,[0,(Vbwsao.fits s.goods s.bags b.toNat g.toNat:Int)]):=by
 unfold step;dsimp only
 exact (zg (congrArg not hi)).trans ((zg hg).trans ((zg h).trans jx))
end
end BM
end
section
namespace BM
open PySem PySem.Spec L2
open PyProof.Rows hiding St
open Vbwsao (Good Recipe Bag Machine State)
section
variable {P:Program} {w:World} {K:PySem.W.Frag} {mg:Str→Option Value} {base:Heap}
theorem ua:FnScope ["state","b","stacks","held","bag"] ["state","b","stacks","held"] (defScope vt):=⟨rfl,rfl,rfl,by decide +kernel,rfl,by decide +kernel,by decide +kernel⟩
def J4 (T:Prog K mg):Sp:=fun vs H Q _=>∃ (A:Adr) (s:State) (hs:List Int) (j:Nat) (x:Bag) (h z:Int) (sl:Addr) (ys:List (Nat × Nat)) (l:List Nat),vs=[.ref A.st,.int (j:Int),.ref sl,.int z]∧StX T H A s hs∧s.bags[j]? = some x∧hs[j]? = some h∧PrsAt H sl ys∧sl∉A.tops∧ChS s.bags (some j) l∧l.length≤1000 ∧
 ∀ H',StX T H' A { s with bags:=s.bags.set j { x with stacks:=ys } } (addL hs l (z - h))→Frm [T.kBag.C] [] H H'→Q .non H'
theorem ue (T:Prog K mg):FnOk P w K mg base CX0 3 T.put_back.f T.put_back.fd ["state","b","stacks","held"] (J4 T):=by
 refine T.put_back.fn.ok ua (fun vs H Q E h=>?_) (fun cdv A outer s H vs Q E hr h=>?_)
 ·obtain ⟨A,s,hs,j,x,h,z,sl,ys,l,rfl,_⟩:=h
  rfl
 ·obtain ⟨A,st,hs,j,x,h,z,sl,ys,l,rfl,S,hx,hh,hp,hn,hl,hll,k⟩:=h
  obtain ⟨a,h',ha,hh',dx,sl0,e1,n1,p1⟩:=S.bag hx
  rw [hh] at hh'
  cases hh'
  refine ⟨_,(za (zt (i:=4) ua.nd rfl (by first | exact Or.inl rfl | exact Or.inr rfl) (zv (zk (K:=K) rfl) (zd (K:=K) rfl (pv 0) rfl) (pv 1) (fun _ _=>rfl)))
   (za (zC (K:=K) rfl (pv 4) (pv 2) rfl)
   (ze (zG (zi (jZ T) (hr.mono (by decide)) rfl T.add_load.at_ T.add_load.fn.kp T.add_load.b .nil pass0 (zc (pv 0) (zc (pv 1) (zc (zI jI (pv 3) (zd (K:=K) rfl (pv 4) rfl)) zb)))))))),?_⟩
  refine ⟨_,rfl,zP S ⟨_,rfl,jb S.bs ha ⟨_,rfl,_,rfl,a,T.kBag.C,dx,_,rfl,e1,T.kBag.cl,T.kBag.no _ (List.mem_of_getElem? (i:=4) rfl),(by show 6<1000;decide),?_⟩⟩⟩
  have S2:=S.setBag (b':={ x with stacks:=ys }) (h':=h) ha hx e1 hn hp
  rw [jD hh] at S2
  have f2:Frm [T.kBag.C] [] H (L2.upd H a (.ins T.kBag.C dx (putF "stacks" (.ref sl) (fsBag x sl0 h)))):=jp e1 (by simp)
  have e2:(L2.upd H a (.ins T.kBag.C dx (putF "stacks" (.ref sl) (fsBag x sl0 h)))) a=some (.ins T.kBag.C dx (fsBag { x with stacks:=ys } sl h)):=zf
  exact ⟨_,rfl,_,rfl,_,rfl,_,rfl,yc T e2 ⟨_,_,rfl,rfl,A,_,_,some j,l,_,rfl,S2,hl.set (y:={ x with stacks:=ys }) hx rfl,hll,fun H3 S3 f3=>k H3 S3 (f2.trans f3)⟩⟩
theorem vo:FnScope ["state","a","b","bag","weight"] ["state","a","b"] (defScope kI):=⟨rfl,rfl,rfl,by decide +kernel,rfl,by decide +kernel,by decide +kernel⟩
def Wk (T:Prog K mg):Sp:=fun vs H Q _=>∃ (A:Adr) (s:State) (hs:List Int) (j:Nat) (x:Bag) (h:Int) (o:Option Nat) (lp l:List Nat),vs=[.ref A.st,.int (j:Int),insV o]∧StX T H A s hs∧s.bags[j]? = some x∧hs[j]? = some h∧ChS s.bags x.inside lp∧lp.length≤1000∧j∉lp∧ChS (s.bags.set j { x with inside:=o }) o l∧l.length≤1000 ∧
 ∀ H',StX T H' A { s with bags:=s.bags.set j { x with inside:=o } } (addL (addL hs lp (-((x.own:Int)+h))) l ((x.own:Int)+h))→Frm [T.kBag.C] [] H H'→Q .non H'
theorem vI (T:Prog K mg):FnOk P w K mg base CX0 3 T.lay_bag.f T.lay_bag.fd ["state","a","b"] (Wk T):=by
 refine T.lay_bag.fn.ok vo (fun vs H Q E h=>?_) (fun cdv A outer s H vs Q E hr h=>?_)
 ·obtain ⟨A,s,hs,j,x,h,o,lp,l,rfl,_⟩:=h
  rfl
 ·obtain ⟨A,st,hs,j,x,h,o,lp,l,rfl,S,hx,hh,hp,hpl,hj,hl,hll,k⟩:=h
  obtain ⟨a,h',ha,hh',dx,sl0,e1,n1,p1⟩:=S.bag hx
  rw [hh] at hh'
  cases hh'
  refine ⟨_,(za (zt (i:=3) vo.nd rfl (by first | exact Or.inl rfl | exact Or.inr rfl) (zv (zk (K:=K) rfl) (zd (K:=K) rfl (pv 0) rfl) (pv 1) (fun _ _=>rfl)))
   (za (zt (i:=4) vo.nd rfl (by first | exact Or.inl rfl | exact Or.inr rfl) (zi (qc T) (hr.mono (by decide)) rfl T.weight_of_bag.at_ T.weight_of_bag.fn.kp T.weight_of_bag.b .nil pass0 (zc (pv 0) (zc (pv 1) zb))))
   (za (zG (zi (jZ T) (hr.mono (by decide)) rfl T.add_load.at_ T.add_load.fn.kp T.add_load.b .nil pass0 (zc (pv 0) (zc (zd (K:=K) rfl (pv 3) rfl) (zc (pe_un un_neg (pv 4)) zb)))))
   (za (zC (K:=K) rfl (pv 3) (pv 2) rfl)
   (ze (zG (zi (jZ T) (hr.mono (by decide)) rfl T.add_load.at_ T.add_load.fn.kp T.add_load.b .nil pass0 (zc (pv 0) (zc (pv 2) (zc (pv 4) zb)))))))))),?_⟩
  refine ⟨_,rfl,zP S ⟨_,rfl,jb S.bs ha ⟨_,rfl,_,rfl,A,st,hs,j,x,h,rfl,S,hx,hh,_,rfl,_,rfl,wH T e1 ⟨_,rfl,_,rfl,A,st,hs,x.inside,lp,_,rfl,S,hp,hpl,fun H1 S1 f1=>?_⟩⟩⟩⟩
  obtain ⟨a',h1,ha',hh1,dx1,sl1,e2,n2,p2⟩:=S1.bag hx
  rw [ha] at ha'
  cases ha'
  refine ⟨_,rfl,_,rfl,a,T.kBag.C,dx1,_,rfl,e2,T.kBag.cl,T.kBag.no _ (List.mem_of_getElem? (i:=0) rfl),(by show 6<1000;decide),?_⟩
  have S2:=S1.setBag (b':={ x with inside:=o }) (h':=h1) ha hx e2 n2 p2
  rw [jD hh1] at S2
  have f2:Frm [T.kBag.C] [] H1 (L2.upd H1 a (.ins T.kBag.C dx1 (putF "inside" (insV o) (fsBag x sl1 h1)))):=jp e2 (by simp)
  exact ⟨_,rfl,_,rfl,_,rfl,A,_,_,o,l,_,rfl,S2,hl,hll,fun H3 S3 f3=>k H3 S3 ((f1.trans f2).trans f3)⟩
def kap (T:Prog K mg):List Addr:=[T.kBag.C,T.kMachine.C,T.kState.C]
def CallOk (T:Prog K mg) (A:Adr) (s:State) (c:Vbwsao.Call) (H:Hp) (Q:VK):Prop:=∀ p H' A',A'.st=A.st→A'.tops=A.tops→StAt T H' A' (Vbwsao.step s c).1→SInv (Vbwsao.step s c).1 →
 H' p=some (.lst ((Vbwsao.step s c).2.map V.int))→Frm (kap T) A.tops H H'→Q (.ref p) H'
theorem CallOk.ans {T:Prog K mg} {A:Adr} {s s':State} {c:Vbwsao.Call} {H H1:Hp} {Q:VK} {l:List Int} (k:CallOk T A s c H Q) (e:Vbwsao.step s c=(s',l)) (S:StAt T H1 A s') (I:SInv s') (f:Frm (kap T) A.tops H H1) {p:Addr} (hp:H1 p=none):Q (.ref p) (L2.upd H1 p (.lst (l.map V.int))):=by
 have h:=k p (L2.upd H1 p (.lst (l.map V.int))) A rfl rfl
 rw [e] at h
 exact h (S.same (zM hp)) I zf (f.trans (zy (zM hp)))
theorem CallOk.ref {T:Prog K mg} {A:Adr} {s:State} {c:Vbwsao.Call} {H H1:Hp} {Q:VK} {z:Int} (k:CallOk T A s c H Q) (e:Vbwsao.step s c=(s,[z])) (S:StAt T H A s) (I:SInv s) (s1:Same H H1):1≤sizeLine∧∀ p,H1 p=none→Q (.ref p) (L2.upd H1 p (.lst [V.int z])):=
 ⟨by decide,fun p hp=>k.ans e (S.same s1) I (zy s1) hp⟩
theorem frmB {T:Prog K mg} {A:Adr} {H H1:Hp} (f:Frm [T.kBag.C] [] H H1):Frm (kap T) A.tops H H1:=f.mono (fun x hx=>by simp at hx;subst hx;simp [kap]) (by simp)
theorem ji {a b:Bool} (h1:a=false) (h2:b=false):(a||b)=false:=by rw [h1,h2];rfl
theorem sc_put:FnScope ["state","b","good","many"] ["state","b","good","many"] (defScope s_put):=⟨rfl,rfl,rfl,by decide +kernel,rfl,by decide +kernel,by decide +kernel⟩
def sp_put (T:Prog K mg):Sp:=fun vs H Q _=>∃ (A:Adr) (s:State) (b g n:Int),vs=[.ref A.st,.int b,.int g,.int n]∧StAt T H A s∧SInv s∧s.goods.isEmpty=false∧callIn (.put b g n)=true∧CallOk T A s (.put b g n) H Q
theorem ok_put (T:Prog K mg):FnOk P w K mg base CX0 5 T.put.f T.put.fd ["state","b","good","many"] (sp_put T):=by
 refine T.put.fn.ok sc_put (fun vs H Q E h=>?_) (fun cdv A outer s H vs Q E hr h=>?_)
 ·obtain ⟨A,s,b,g,n,rfl,_⟩:=h
  rfl
 ·obtain ⟨A,st,b,g,n,rfl,S,I,hg,hi,k⟩:=h
  have hr1:(0≤b∧b≤11)∧(0≤g∧g≤9)∧(1≤n∧n≤10000):=by
   simp only [callIn,Vbwsao.bagIx,Vbwsao.goodIx,Vbwsao.amount,Bool.and_eq_true,jc] at hi
   exact hi
  refine ⟨_,(za (zB (PW.pt (q5 (zN (zi (zR T) (hr.mono (by decide)) rfl T.lacks_bag.at_ T.lacks_bag.fn.kp T.lacks_bag.b .nil pass0 (zc (pv 0) (zc (pv 1) zb)))) (qS (zN (zi (ja T) (hr.mono (by decide)) rfl T.lacks_good.at_ T.lacks_good.fn.kp T.lacks_good.b .nil pass0 (zc (pv 0) (zc (pv 2) zb))))))) (ze (zm (zu (zc (zA (v:=.int (-3)) rfl T.c_NO_SUCH.at_ ⟨_,rfl⟩) zb)))) zp)
   (za (zB (yJ (zN (zi (jt T) (hr.mono (by decide)) rfl T.put_if_it_fits.at_ T.put_if_it_fits.fn.kp T.put_if_it_fits.b .nil pass0 (zc (pv 0) (zc (pv 1) (zc (pv 2) (zc (pv 3) zb))))))) (ze (zm (zu (zc (zA (v:=.int (-6)) rfl T.c_NO_ROOM.at_ ⟨_,rfl⟩) zb)))) zp)
   (ze (zm (zu (zc zj zb)))))),?_⟩
  refine ⟨_,rfl,_,rfl,A,st,_,b,rfl,S,_,rfl,zx rfl (fun e=>iteT (k.ref (W5 hi hg (by unfold Vbwsao.nb;rw [e];rfl)) S I (Same.refl _))) (fun e=>?_)⟩
  refine ⟨_,rfl,_,rfl,A,st,_,g,rfl,S,_,rfl,zx rfl (fun e2=>k.ref (W5 hi hg (by unfold Vbwsao.nb Vbwsao.ng;rw [e,e2];rfl)) S I (Same.refl _)) (fun e2=>?_)⟩
  have e3:(Vbwsao.nb st b||Vbwsao.ng st g)=false:=ji e e2
  have e4:b=((b.toNat:Nat):Int):=by omega
  have e5:g=((g.toNat:Nat):Int):=by omega
  have e6:n=((n.toNat:Nat):Int):=by omega
  have hb:b.toNat<st.bags.length:=by have:=of_decide_eq_false e;omega
  have hgl:g.toNat<st.goods.length:=by have:=of_decide_eq_false e2;omega
  refine ⟨_,rfl,_,rfl,_,rfl,_,rfl,A,st,b.toNat,g.toNat,n.toNat,by rw [← e4,← e5,← e6];rfl,S,I.g,I.b,hb,hgl,fun bs' H' hq B' S' f'=>⟨true,rfl,?_⟩,fun hq H' s'=>⟨false,rfl,k.ref (st_put6 hi hg e3 hq) S I s'⟩⟩
  have hlen:bs'.length=st.bags.length:=by
   unfold Vbwsao.put? at hq
   dsimp only at hq
   split at hq
   ·cases hq
    unfold Vbwsao.putRaw Vbwsao.setBag
    simp
   ·cases hq
  exact ⟨by decide,fun p hp=>k.ans (st_put hi hg e3 hq) S' (I.bags B' hlen) (frmB f') hp⟩
theorem WB (gs:List Good) (bs:List Bag) (j g n:Nat):(Vbwsao.putRaw gs bs j g n).length=bs.length:=by
 unfold Vbwsao.putRaw Vbwsao.setBag
 simp
theorem qZ (bs:List Bag) (j g n:Nat):(Vbwsao.takeRaw bs j g n).length=bs.length:=by
 unfold Vbwsao.takeRaw Vbwsao.setBag
 simp
theorem Qp {gs:List Good} {bs bs':List Bag} {j g n:Nat} (h:Vbwsao.put? gs bs j g n=some bs'):bs'.length=bs.length:=by
 unfold Vbwsao.put? at h
 dsimp only at h
 split at h
 ·cases h
  exact WB _ _ _ _ _
 ·cases h
theorem sc_take:FnScope ["state","b","good","many"] ["state","b","good","many"] (defScope Wu):=⟨rfl,rfl,rfl,by decide +kernel,rfl,by decide +kernel,by decide +kernel⟩
def sp_take (T:Prog K mg):Sp:=fun vs H Q _=>∃ (A:Adr) (s:State) (b g n:Int),vs=[.ref A.st,.int b,.int g,.int n]∧StAt T H A s∧SInv s∧s.goods.isEmpty=false∧callIn (.take b g n)=true∧CallOk T A s (.take b g n) H Q
theorem ok_take (T:Prog K mg):FnOk P w K mg base CX0 4 T.take.f T.take.fd ["state","b","good","many"] (sp_take T):=by
 refine T.take.fn.ok sc_take (fun vs H Q E h=>?_) (fun cdv A outer s H vs Q E hr h=>?_)
 ·obtain ⟨A,s,b,g,n,rfl,_⟩:=h
  rfl
 ·obtain ⟨A,st,b,g,n,rfl,S,I,hg,hi,k⟩:=h
  have hr1:(0≤b∧b≤11)∧(0≤g∧g≤9)∧(1≤n∧n≤10000):=by
   simp only [callIn,Vbwsao.bagIx,Vbwsao.goodIx,Vbwsao.amount,Bool.and_eq_true,jc] at hi
   exact hi
  obtain ⟨b,rfl⟩:∃ b':Nat,b=(b':Int):=⟨b.toNat,by omega⟩
  obtain ⟨g,rfl⟩:∃ g':Nat,g=(g':Int):=⟨g.toNat,by omega⟩
  obtain ⟨n,rfl⟩:∃ n':Nat,n=(n':Int):=⟨n.toNat,by omega⟩
  refine ⟨_,(za (zB (PW.pt (q5 (zN (zi (zR T) (hr.mono (by decide)) rfl T.lacks_bag.at_ T.lacks_bag.fn.kp T.lacks_bag.b .nil pass0 (zc (pv 0) (zc (pv 1) zb)))) (qS (zN (zi (ja T) (hr.mono (by decide)) rfl T.lacks_good.at_ T.lacks_good.fn.kp T.lacks_good.b .nil pass0 (zc (pv 0) (zc (pv 2) zb))))))) (ze (zm (zu (zc (zA (v:=.int (-3)) rfl T.c_NO_SUCH.at_ ⟨_,rfl⟩) zb)))) zp)
   (za (zB (zq qC (pv 3) (zi (jJ T) (hr.mono (by decide)) rfl T.count_in.at_ T.count_in.fn.kp T.count_in.b .nil pass0 (zc (zd (K:=K) rfl (zv (zk (K:=K) rfl) (zd (K:=K) rfl (pv 0) rfl) (pv 1) (fun _ _=>rfl)) rfl) (zc (pv 2) zb))) (nomark _)) (ze (zm (zu (zc (zA (v:=.int (-8)) rfl T.c_TOO_FEW.at_ ⟨_,rfl⟩) zb)))) zp)
   (za (zG (zi (yM T) (hr.mono (by decide)) rfl T.take_out.at_ T.take_out.fn.kp T.take_out.b .nil pass0 (zc (pv 0) (zc (pv 1) (zc (pv 2) (zc (pv 3) zb))))))
   (ze (zm (zu (zc zj (zc (zi (jJ T) (hr.mono (by decide)) rfl T.count_in.at_ T.count_in.fn.kp T.count_in.b .nil pass0 (zc (zd (K:=K) rfl (zv (zk (K:=K) rfl) (zd (K:=K) rfl (pv 0) rfl) (pv 1) (fun _ _=>rfl)) rfl) (zc (pv 2) zb))) zb)))))))),?_⟩
  refine ⟨_,rfl,_,rfl,A,st,_,_,rfl,S,_,rfl,zx rfl (fun e=>iteT (k.ref (JV hi hg (by unfold Vbwsao.nb;rw [e];rfl)) S I (Same.refl _))) (fun e=>?_)⟩
  refine ⟨_,rfl,_,rfl,A,st,_,_,rfl,S,_,rfl,zx rfl (fun e2=>k.ref (JV hi hg (by unfold Vbwsao.nb Vbwsao.ng;rw [e,e2];rfl)) S I (Same.refl _)) (fun e2=>?_)⟩
  have e3:(Vbwsao.nb st b||Vbwsao.ng st g)=false:=ji e e2
  have hb:b<st.bags.length:=by have:=of_decide_eq_false e;omega
  have hgl:g<st.goods.length:=by have:=of_decide_eq_false e2;omega
  obtain ⟨x,hx⟩:∃ x,st.bags[b]? = some x:=⟨_,List.getElem?_eq_getElem hb⟩
  obtain ⟨l,hl⟩:=I.b.ac b hb
  obtain ⟨a,h,ha,hh,dx,sl,e1,n1,p1⟩:=S.bag hx
  have hlen:=I.b.stk_len hx
  have est:Vbwsao.stock st (b:Int)=x.stacks:=by
   unfold Vbwsao.stock
   rw [Int.toNat_natCast,z3 hx]
  have emi:Vbwsao.missing st b g n=decide (Vbwsao.countIn x.stacks g<n):=by
   unfold Vbwsao.missing
   rw [est,Int.toNat_natCast]
   exact decide_eq_decide.mpr (by omega)
  refine ⟨_,rfl,_,rfl,zP S ⟨_,rfl,jb S.bs ha (jk T e1 ⟨_,rfl,sl,x.stacks,g,rfl,p1,(by omega),fun H1 s1=>⟨_,_,rfl,rfl,_,rfl,zx (p:=decide (Vbwsao.countIn x.stacks g<n)) (decide_eq_decide.mpr (by omega)) (fun e4=>k.ref (st_take8 hi hg e3 (emi.trans e4)) S I s1) (fun e4=>?_)⟩⟩)⟩⟩
  have hn:n≤Vbwsao.countIn x.stacks g:=by have:=of_decide_eq_false e4;omega
  refine ⟨_,rfl,_,rfl,_,rfl,_,rfl,A,st,b,g,n,x,rfl,S.same s1,I.g,I.b,hx,hgl,hn,fun H2 S2 f2=>?_⟩
  have B2:=uK I.b hx hl hn
  have hx2:(Vbwsao.takeRaw st.bags b g n)[b]? = some { x with stacks:=Vbwsao.takeStacks g n x.stacks }:=by
   rw [z4 g n hx]
   exact List.getElem?_set_self hb
  obtain ⟨a2,h2,ha2,hh2,dx2,sl2,e12,n12,p12⟩:=S2.bag hx2
  have hlen2:=B2.stk_len hx2
  refine ⟨_,rfl,zP S2 ⟨_,rfl,jb S2.bs ha2 (jk T e12 ⟨_,rfl,sl2,_,g,rfl,p12,Nat.le_trans hlen2 (by decide),fun H3 s3=>?_⟩)⟩⟩
  refine ⟨by show 2≤sizeLine;decide,fun p hp=>?_⟩
  have q:=k.ans (st_take hi hg e3 (emi.trans e4)) (S2.same s3) (I.bags B2 (qZ _ _ _ _)) ((frmB ((zy s1).trans f2)).trans (zy s3)) hp
  have e7:(Vbwsao.countIn (Vbwsao.stock st b) (g:Int).toNat:Int) - n=(Vbwsao.countIn (Vbwsao.takeStacks g n x.stacks) g:Int):=by
   rw [est,Int.toNat_natCast,uC,if_pos rfl]
   omega
  rw [e7] at q
  exact q
end
section
variable {P:Program} {w:World} {K:PySem.W.Frag} {mg:Str→Option Value} {base:Heap}
def But (p:Addr) (H H':Hp):Prop:=∀ b o,H b=some o→b≠p→H' b=some o
theorem But.upd {p:Addr} {H H1:Hp} {o:HO} (h:But p H H1):But p H (L2.upd H1 p o):=fun b u e n=>by rw [zl n];exact h b u e n
theorem But.refl {p:Addr} (H:Hp):But p H H:=fun _ _ e _=>e
theorem But.new {p q:Addr} {H H1:Hp} {o:HO} (h:But p H H1) (hq:H1 q=none):But p H (L2.upd H1 q o):=fun b u e n=>by rw [zl (zn (h b u e n) hq)];exact h b u e n
theorem But.same {H H1:Hp} {x dx C:Addr} (nx:H x=none) (nd:H dx=none) (h:But x (L2.upd (L2.upd H dx (.own x)) x (.ins C dx [])) H1):Same H H1:=fun b o e=>
 h b o (by rw [zl (zn e nx),zl (zn e nd)];exact e) (zn e nx)
theorem Qk:FnScope ["self","weight","size","price"] ["self","weight","size","price"] (defScope vz):=⟨rfl,rfl,rfl,by decide +kernel,rfl,by decide +kernel,by decide +kernel⟩
def J7 (T:Prog K mg):Sp:=fun vs H Q _=>∃ (p dx:Addr) (g:Good),vs=[.ref p,.int (g.weight:Int),.int (g.stack:Int),.int (g.price:Int)]∧H p=some (.ins T.kGood.C dx [])∧∀ H',H' p=some (.ins T.kGood.C dx (fsGood g))→But p H H'→Q .non H'
theorem Qx (T:Prog K mg):FnOk P w K mg base CX0 1 T.kGood.f T.kGood.fd ["self","weight","size","price"] (J7 T):=by
 refine T.kGood.fn.ok Qk (fun vs H Q E h=>?_) (fun cdv A outer s H vs Q E hr h=>?_)
 ·obtain ⟨p,dx,g,rfl,_⟩:=h
  rfl
 ·obtain ⟨p,dx,g,rfl,hp,k⟩:=h
  refine ⟨_,(za (zC (K:=K) rfl (pv 0) (pv 1) rfl)
   (za (zC (K:=K) rfl (pv 0) (pv 2) rfl)
   (ze (zC (K:=K) rfl (pv 0) (pv 3) rfl)))),?_⟩
  refine ⟨_,rfl,_,rfl,p,_,dx,_,rfl,hp,T.kGood.cl,T.kGood.no _ (List.mem_of_getElem? (i:=0) rfl),(by show 0<1000;decide),
   _,rfl,_,rfl,p,_,dx,_,rfl,zf,T.kGood.cl,T.kGood.no _ (List.mem_of_getElem? (i:=1) rfl),(by show 1<1000;decide),
   _,rfl,_,rfl,p,_,dx,_,rfl,zf,T.kGood.cl,T.kGood.no _ (List.mem_of_getElem? (i:=2) rfl),(by show 2<1000;decide),k _ zf ((((But.refl H).upd).upd).upd)⟩
theorem x4:FnScope ["self","makes","cost","ticks","needs"] ["self","makes","cost","ticks","needs"] (defScope w8):=⟨rfl,rfl,rfl,by decide +kernel,rfl,by decide +kernel,by decide +kernel⟩
def xW (T:Prog K mg):Sp:=fun vs H Q _=>∃ (p dx nl:Addr) (r:Recipe),vs=[.ref p,.int (r.makes:Int),.int (r.cost:Int),.int (r.ticks:Int),.ref nl]∧H p=some (.ins T.kRecipe.C dx [])∧∀ H',H' p=some (.ins T.kRecipe.C dx (fsRec r nl))→But p H H'→Q .non H'
theorem Zb (T:Prog K mg):FnOk P w K mg base CX0 1 T.kRecipe.f T.kRecipe.fd ["self","makes","cost","ticks","needs"] (xW T):=by
 refine T.kRecipe.fn.ok x4 (fun vs H Q E h=>?_) (fun cdv A outer s H vs Q E hr h=>?_)
 ·obtain ⟨p,dx,nl,r,rfl,_⟩:=h
  rfl
 ·obtain ⟨p,dx,nl,r,rfl,hp,k⟩:=h
  refine ⟨_,(za (zC (K:=K) rfl (pv 0) (pv 1) rfl)
   (za (zC (K:=K) rfl (pv 0) (pv 2) rfl)
   (za (zC (K:=K) rfl (pv 0) (pv 3) rfl)
   (ze (zC (K:=K) rfl (pv 0) (pv 4) rfl))))),?_⟩
  refine ⟨_,rfl,_,rfl,p,_,dx,_,rfl,hp,T.kRecipe.cl,T.kRecipe.no _ (List.mem_of_getElem? (i:=0) rfl),(by show 0<1000;decide),
   _,rfl,_,rfl,p,_,dx,_,rfl,zf,T.kRecipe.cl,T.kRecipe.no _ (List.mem_of_getElem? (i:=1) rfl),(by show 1<1000;decide),
   _,rfl,_,rfl,p,_,dx,_,rfl,zf,T.kRecipe.cl,T.kRecipe.no _ (List.mem_of_getElem? (i:=2) rfl),(by show 2<1000;decide),
   _,rfl,_,rfl,p,_,dx,_,rfl,zf,T.kRecipe.cl,T.kRecipe.no _ (List.mem_of_getElem? (i:=3) rfl),(by show 3<1000;decide),k _ zf (((((But.refl H).upd).upd).upd).upd)⟩
theorem Ws:FnScope ["self","inside","room","own_weight","places"] ["self","inside","room","own_weight","places"] (defScope kJ):=⟨rfl,rfl,rfl,by decide +kernel,rfl,by decide +kernel,by decide +kernel⟩
def Wl (T:Prog K mg):Sp:=fun vs H Q _=>∃ (p dx:Addr) (b:Bag),vs=[.ref p,insV b.inside,.int (b.room:Int),.int (b.own:Int),.int (b.slots:Int)]∧b.stacks=[]∧H p=some (.ins T.kBag.C dx []) ∧
 ∀ H' sl,H' p=some (.ins T.kBag.C dx (fsBag b sl 0))→H' sl=some (.lst [])→H sl=none→But p H H'→Q .non H'
theorem WH (T:Prog K mg):FnOk P w K mg base CX0 1 T.kBag.f T.kBag.fd ["self","inside","room","own_weight","places"] (Wl T):=by
 refine T.kBag.fn.ok Ws (fun vs H Q E h=>?_) (fun cdv A outer s H vs Q E hr h=>?_)
 ·obtain ⟨p,dx,b,rfl,_⟩:=h
  rfl
 ·obtain ⟨p,dx,b,rfl,hst,hp,k⟩:=h
  refine ⟨_,(za (zC (K:=K) rfl (pv 0) (pv 1) rfl)
   (za (zC (K:=K) rfl (pv 0) (pv 2) rfl)
   (za (zC (K:=K) rfl (pv 0) (pv 3) rfl)
   (za (zC (K:=K) rfl (pv 0) (pv 4) rfl)
   (za (zC (K:=K) rfl (pv 0) (zu zb) rfl)
   (ze (zC (K:=K) rfl (pv 0) zj rfl))))))),?_⟩
  refine ⟨_,rfl,_,rfl,p,_,dx,_,rfl,hp,T.kBag.cl,T.kBag.no _ (List.mem_of_getElem? (i:=0) rfl),(by show 0<1000;decide),
   _,rfl,_,rfl,p,_,dx,_,rfl,zf,T.kBag.cl,T.kBag.no _ (List.mem_of_getElem? (i:=1) rfl),(by show 1<1000;decide),
   _,rfl,_,rfl,p,_,dx,_,rfl,zf,T.kBag.cl,T.kBag.no _ (List.mem_of_getElem? (i:=2) rfl),(by show 2<1000;decide),
   _,rfl,_,rfl,p,_,dx,_,rfl,zf,T.kBag.cl,T.kBag.no _ (List.mem_of_getElem? (i:=3) rfl),(by show 3<1000;decide),Nat.zero_le _,fun sl hsl=>?_⟩
  have b4:But p H (L2.upd (L2.upd (L2.upd (L2.upd H p (.ins T.kBag.C dx (putF "inside" (insV b.inside) []))) p (.ins T.kBag.C dx (putF "room" (.int (b.room:Int)) (putF "inside" (insV b.inside) [])))) p (.ins T.kBag.C dx (putF "own_weight" (.int (b.own:Int)) (putF "room" (.int (b.room:Int)) (putF "inside" (insV b.inside) []))))) p (.ins T.kBag.C dx (putF "places" (.int (b.slots:Int)) (putF "own_weight" (.int (b.own:Int)) (putF "room" (.int (b.room:Int)) (putF "inside" (insV b.inside) [])))))):=((((But.refl H).upd).upd).upd).upd
  have np:p≠sl:=zn zf hsl
  have hs0:H sl=none:=by
   rw [zl (Ne.symm np),zl (Ne.symm np),zl (Ne.symm np),zl (Ne.symm np)] at hsl
   exact hsl
  exact ⟨_,rfl,p,_,dx,_,rfl,(by rw [zl np];exact zf),T.kBag.cl,T.kBag.no _ (List.mem_of_getElem? (i:=4) rfl),(by show 4<1000;decide),
   _,rfl,p,_,dx,_,rfl,zf,T.kBag.cl,T.kBag.no _ (List.mem_of_getElem? (i:=5) rfl),(by show 5<1000;decide),k _ sl zf (by rw [zl (Ne.symm np),zl (Ne.symm np)];exact zf) hs0 (((b4.new hsl).upd).upd)⟩
theorem u4:FnScope ["self","takes_from","puts_into","recipe"] ["self","takes_from","puts_into","recipe"] (defScope wp):=⟨rfl,rfl,rfl,by decide +kernel,rfl,by decide +kernel,by decide +kernel⟩
def uW (T:Prog K mg):Sp:=fun vs H Q _=>∃ (p dx:Addr) (a b r:Nat),vs=[.ref p,.int (a:Int),.int (b:Int),.int (r:Int)]∧H p=some (.ins T.kMachine.C dx [])∧∀ H',H' p=some (.ins T.kMachine.C dx (fsMach ⟨a,b,r,0,false,0,0⟩))→But p H H'→Q .non H'
theorem xn (T:Prog K mg):FnOk P w K mg base CX0 1 T.kMachine.f T.kMachine.fd ["self","takes_from","puts_into","recipe"] (uW T):=by
 refine T.kMachine.fn.ok u4 (fun vs H Q E h=>?_) (fun cdv A outer s H vs Q E hr h=>?_)
 ·obtain ⟨p,dx,a,b,r,rfl,_⟩:=h
  rfl
 ·obtain ⟨p,dx,a,b,r,rfl,hp,k⟩:=h
  refine ⟨_,(za (zC (K:=K) rfl (pv 0) (pv 1) rfl)
   (za (zC (K:=K) rfl (pv 0) (pv 2) rfl)
   (za (zC (K:=K) rfl (pv 0) (pv 3) rfl)
   (za (zC (K:=K) rfl (pv 0) zj rfl)
   (za (zC (K:=K) rfl (pv 0) qU rfl)
   (za (zC (K:=K) rfl (pv 0) zj rfl)
   (ze (zC (K:=K) rfl (pv 0) zj rfl)))))))),?_⟩
  refine ⟨_,rfl,_,rfl,p,_,dx,_,rfl,hp,T.kMachine.cl,T.kMachine.no _ (List.mem_of_getElem? (i:=0) rfl),(by show 0<1000;decide),
   _,rfl,_,rfl,p,_,dx,_,rfl,zf,T.kMachine.cl,T.kMachine.no _ (List.mem_of_getElem? (i:=1) rfl),(by show 1<1000;decide),
   _,rfl,_,rfl,p,_,dx,_,rfl,zf,T.kMachine.cl,T.kMachine.no _ (List.mem_of_getElem? (i:=2) rfl),(by show 2<1000;decide),
   _,rfl,p,_,dx,_,rfl,zf,T.kMachine.cl,T.kMachine.no _ (List.mem_of_getElem? (i:=3) rfl),(by show 3<1000;decide),
   _,rfl,p,_,dx,_,rfl,zf,T.kMachine.cl,T.kMachine.no _ (List.mem_of_getElem? (i:=4) rfl),(by show 4<1000;decide),
   _,rfl,p,_,dx,_,rfl,zf,T.kMachine.cl,T.kMachine.no _ (List.mem_of_getElem? (i:=5) rfl),(by show 5<1000;decide),
   _,rfl,p,_,dx,_,rfl,zf,T.kMachine.cl,T.kMachine.no _ (List.mem_of_getElem? (i:=6) rfl),(by show 6<1000;decide),k _ zf ((((((((But.refl H).upd).upd).upd).upd).upd).upd).upd)⟩
theorem Ql:FnScope ["self","number","plain","row"] ["self","number","plain","row"] (defScope vA):=⟨rfl,rfl,rfl,by decide +kernel,rfl,by decide +kernel,by decide +kernel⟩
def J8 (T:Prog K mg):Sp:=fun vs H Q _=>∃ (p dx:Addr) (n:Int) (a b:Addr),vs=[.ref p,.int n,.ref a,.ref b]∧H p=some (.ins T.kCall.C dx [])∧∀ H',H' p=some (.ins T.kCall.C dx (fsCall n a b))→But p H H'→Q .non H'
theorem Qy (T:Prog K mg):FnOk P w K mg base CX0 1 T.kCall.f T.kCall.fd ["self","number","plain","row"] (J8 T):=by
 refine T.kCall.fn.ok Ql (fun vs H Q E h=>?_) (fun cdv A outer s H vs Q E hr h=>?_)
 ·obtain ⟨p,dx,n,a,b,rfl,_⟩:=h
  rfl
 ·obtain ⟨p,dx,n,a,b,rfl,hp,k⟩:=h
  refine ⟨_,(za (zC (K:=K) rfl (pv 0) (pv 1) rfl)
   (za (zC (K:=K) rfl (pv 0) (pv 2) rfl)
   (ze (zC (K:=K) rfl (pv 0) (pv 3) rfl)))),?_⟩
  refine ⟨_,rfl,_,rfl,p,_,dx,_,rfl,hp,T.kCall.cl,T.kCall.no _ (List.mem_of_getElem? (i:=0) rfl),(by show 0<1000;decide),
   _,rfl,_,rfl,p,_,dx,_,rfl,zf,T.kCall.cl,T.kCall.no _ (List.mem_of_getElem? (i:=1) rfl),(by show 1<1000;decide),
   _,rfl,_,rfl,p,_,dx,_,rfl,zf,T.kCall.cl,T.kCall.no _ (List.mem_of_getElem? (i:=2) rfl),(by show 2<1000;decide),k _ zf ((((But.refl H).upd).upd).upd)⟩
end
theorem Yo (a:Nat):∀ l:List Nat,inV (.int (a:Int)) (l.map fun (k:Nat)=>V.int (k:Int))=l.contains a
 | []=>rfl
 | b :: l=>by
  show (eqV (.int (b:Int)) (.int (a:Int))||inV (.int (a:Int)) (l.map fun (k:Nat)=>V.int (k:Int)))=(b :: l).contains a
  rw [Yo a l,List.contains_cons]
  congr 1
  show ((b:Int) == (a:Int))=(a == b)
  by_cases e:a=b
  ·subst e;simp
  ·have h1:((b:Int) == (a:Int))=false:=beq_eq_false_iff_ne.mpr (by omega)
   have h2:(a == b)=false:=beq_eq_false_iff_ne.mpr e
   rw [h1,h2]
theorem ZA:∀ l:List Nat,(l.map fun (k:Nat)=>V.int (k:Int)).all flatV=true
 | []=>rfl
 | b :: l=>by
  show (flatV (.int (b:Int))&&(l.map fun (k:Nat)=>V.int (k:Int)).all flatV)=true
  rw [ZA l]
  rfl
def bagO (b:Int):Option Nat:=if b<0 then none else some b.toNat
theorem y6 {b:Int} (h:-1≤b):insV (bagO b) = .int b:=by
 unfold bagO
 by_cases e:b<0
 ·rw [if_pos e]
  show V.int (-1)=_
  congr 1
  omega
 ·rw [if_neg e]
  show V.int ((b.toNat:Nat):Int)=_
  congr 1
  omega
theorem Yz {gs:List Good} {bs:List Bag} (B:BInv gs bs) {b:Int} (h:b<bs.length):∃ l,ChS bs (bagO b) l:=by
 unfold bagO
 by_cases e:b<0
 ·rw [if_pos e]
  exact ⟨[],.nil⟩
 ·rw [if_neg e]
  exact B.ac b.toNat (by omega)
section
variable {P:Program} {w:World} {K:PySem.W.Frag} {mg:Str→Option Value} {base:Heap}
theorem StX.addBag {T:Prog K mg} {H:Hp} {A:Adr} {s:State} {hs:List Int} (S:StX T H A s hs) {a dx sl:Addr} {y:Bag} (e:H a=some (.ins T.kBag.C dx (fsBag y sl 0))) (hsl:H sl=some (.lst [])) (hy:y.stacks=[]) (nsl:sl∉A.tops) (na:a∉A.ba) :
  StX T (L2.upd H A.bl (.lst (A.ba.map V.ref++[.ref a]))) { A with ba:=A.ba++[a] } { s with bags:=s.bags++[y] } (hs++[0]):=by
 have hm:A.bl∈A.tops:=by simp
 have f:Frm [] A.tops H (L2.upd H A.bl (.lst (A.ba.map V.ref++[.ref a]))):=jv S.bs.1 hm
 have nt:=S.nt
 simp only [List.nodup_cons,List.mem_cons,List.mem_nil_iff,or_false,not_or] at nt
 obtain ⟨dx0,e0⟩:=S.st
 have fl:∀ l xs,H l=some (.lst xs)→l≠A.bl→(L2.upd H A.bl (.lst (A.ba.map V.ref++[.ref a]))) l=some (.lst xs):=fun l xs h n=>by rw [zl n];exact h
 refine ⟨⟨dx0,f.ins e0 (by simp)⟩,S.gs.imp (fl _ _ S.gs.1 nt.1.2.1) fun b x h=>h.frm f (by simp),S.rs.imp (fl _ _ S.rs.1 nt.2.1.1) fun b x h=>h.frm f (by simp) (fun _ h=>h),?_,
  S.ms.imp (fl _ _ S.ms.1 (Ne.symm nt.2.2.1)) fun b x h=>h.frm f (by simp),by simp [S.hl],?_,S.nm,S.nt⟩
 ·have ez:(s.bags++[y]).zip (hs++[0])=s.bags.zip hs++[(y,0)]:=by
   rw [List.zip_append S.hl.symm]
   rfl
  refine ⟨by rw [zf,List.map_append];rfl,by rw [ez];simp [S.bs.2.1],fun j b x hb hx=>?_⟩
  rw [ez] at hx
  by_cases hj:j<A.ba.length
  ·rw [List.getElem?_append_left hj] at hb
   rw [List.getElem?_append_left (by rw [← S.bs.2.1];exact hj)] at hx
   exact (S.bs.2.2 j b x hb hx).frm f (by simp) (fun _ h=>h)
  ·have hj2:=zT hb
   have e2:j=A.ba.length:=by simp at hj2;omega
   subst e2
   rw [List.getElem?_concat_length] at hb
   rw [S.bs.2.1,List.getElem?_concat_length] at hx
   cases hb
   cases hx
   exact ⟨dx,sl,f.ins e (by simp),nsl,⟨[],by rw [f.lst hsl nsl];rfl,by rw [hy];rfl,fun i b x h=>by simp at h⟩⟩
 ·exact List.nodup_append.mpr ⟨S.nb,by simp,fun x hx y hy=>by simp at hy;subst hy;exact fun q=>na (q ▸ hx)⟩
theorem StX.ba_lt {T:Prog K mg} {H:Hp} {A:Adr} {s:State} {hs:List Int} (S:StX T H A s hs) {a:Addr} (h:H a=none):a∉A.ba:=by
 intro hm
 obtain ⟨j,hj,e⟩:=List.getElem_of_mem hm
 have hj1:A.ba[j]? = some a:=by rw [List.getElem?_eq_getElem hj,e]
 obtain ⟨x,hx⟩:=jo S.bs.2.1 hj1
 obtain ⟨dx,sl,e1,_⟩:=S.bs.2.2 j a x hj1 hx
 rw [h] at e1
 cases e1
theorem Wr:FnScope ["state","b","room","own_weight","places"] ["state","b","room","own_weight","places"] (defScope kH):=⟨rfl,rfl,rfl,by decide +kernel,rfl,by decide +kernel,by decide +kernel⟩
def Wj (T:Prog K mg):Sp:=fun vs H Q _=>∃ (A:Adr) (s:State) (b r o sl:Int),vs=[.ref A.st,.int b,.int r,.int o,.int sl]∧StAt T H A s∧SInv s∧s.goods.isEmpty=false∧callIn (.bag b r o sl)=true∧CallOk T A s (.bag b r o sl) H Q
theorem WG (T:Prog K mg):FnOk P w K mg base CX0 4 T.new_bag.f T.new_bag.fd ["state","b","room","own_weight","places"] (Wj T):=by
 refine T.new_bag.fn.ok Wr (fun vs H Q E h=>?_) (fun cdv A outer s H vs Q E hr h=>?_)
 ·obtain ⟨A,s,b,r,o,sl,rfl,_⟩:=h
  rfl
 ·obtain ⟨A,st,b,r,o,sl,rfl,S,I,hg,hi,k⟩:=h
  have hr1:(-1≤b∧b≤11)∧(0≤r∧r≤1000000)∧(0≤o∧o≤1000)∧(0≤sl∧sl≤40):=by
   simp only [callIn,Bool.and_eq_true,jc] at hi
   exact hi
  refine ⟨_,(za (zB (zN (zi (zR T) (hr.mono (by decide)) rfl T.lacks_bag.at_ T.lacks_bag.fn.kp T.lacks_bag.b .nil pass0 (zc (pv 0) (zc (pv 1) zb)))) (ze (zm (zu (zc (zA (v:=.int (-3)) rfl T.c_NO_SUCH.at_ ⟨_,rfl⟩) zb)))) zp)
   (za (zB (zq kf (zr (zo (K:=K) rfl) (by rfl) T.b_len zQ (zc (zd (K:=K) rfl (pv 0) rfl) zb)) (zA (v:=.int (12)) rfl T.c_MOST_BAGS.at_ ⟨_,rfl⟩) (nomark _)) (ze (zm (zu (zc (zA (v:=.int (-4)) rfl T.c_NO_MORE_ALLOWED.at_ ⟨_,rfl⟩) zb)))) zp)
   (za (zB (yJ (zN (zi (ug T) (hr.mono (by decide)) rfl T.bag_fits.at_ T.bag_fits.fn.kp T.bag_fits.b .nil pass0 (zc (pv 0) (zc (pv 1) (zc (pv 3) zb)))))) (ze (zm (zu (zc (zA (v:=.int (-6)) rfl T.c_NO_ROOM.at_ ⟨_,rfl⟩) zb)))) zp)
   (za (zG (qb (K:=K) rfl (zd (K:=K) rfl (pv 0) rfl) (yZ T.kBag.made (WH T) (hr.mono (by decide)) rfl T.kBag.at_ T.kBag.b .nil pass0 (zc (pv 1) (zc (pv 2) (zc (pv 3) (zc (pv 4) zb)))))))
   (za (zG (zi (jZ T) (hr.mono (by decide)) rfl T.add_load.at_ T.add_load.fn.kp T.add_load.b .nil pass0 (zc (pv 0) (zc (pv 1) (zc (pv 3) zb)))))
   (ze (zm (zu (zc zj (zc (zI jI (zr (zo (K:=K) rfl) (by rfl) T.b_len zQ (zc (zd (K:=K) rfl (pv 0) rfl) zb)) zj) zb)))))))))),?_⟩
  refine ⟨_,rfl,_,rfl,A,st,_,_,rfl,S,_,rfl,zx rfl (fun e=>k.ref (st_bag3 hi hg e) S I (Same.refl _)) (fun e=>?_)⟩
  have hb:b<st.bags.length:=by have:=of_decide_eq_false e;omega
  obtain ⟨l,hl⟩:=Yz I.b hb
  refine ⟨_,rfl,zP S ⟨A.bl,_,rfl,.inl (SqL.of S.bs.1),_,_,rfl,rfl,_,rfl,zx (p:=decide (12≤st.bags.length)) ?_ (fun e2=>k.ref (st_bag4 hi hg e (of_decide_eq_true e2)) S I (Same.refl _)) (fun e2=>?_)⟩⟩
  ·rw [List.length_map,S.blen]
   exact decide_eq_decide.mpr (by omega)
  have e2':=of_decide_eq_false e2
  have hni:(newBag b r o sl).inside=bagO b:=rfl
  have key:=new_iff (y:=newBag b r o sl) I.b hl rfl
  have ev:V.int b=insV (bagO b):=(y6 hr1.1.1).symm
  refine ⟨_,rfl,_,rfl,_,rfl,A,st,bagO b,l,o.toNat,?_,S,I.b,hl,fun rr H1 s1 hrr=>⟨rr,rfl,zx (p:=!rr) rfl (fun e3=>?_) (fun e3=>?_)⟩⟩
  ·rw [y6 hr1.1.1,show ((o.toNat:Nat):Int)=o by omega]
   rfl
  ·have:¬ Vbwsao.allFine st.goods (st.bags++[newBag b r o sl])=true:=fun q=>by
    have:=hrr.mpr (key.mp q)
    rw [this] at e3
    cases e3
   exact k.ref (st_bag6 hi hg e e2' this) S I s1
  ·have hrt:rr=true:=by cases rr;cases e3;rfl
   have hf:Vbwsao.allFine st.goods (st.bags++[newBag b r o sl])=true:=key.mpr (hrr.mp hrt)
   have S1:=S.same s1
   refine ⟨_,rfl,zP S1 ⟨.inl ⟨rfl,_,SqL.of S1.bs.1⟩,_,rfl,_,rfl,_,rfl,_,rfl,fun x dx nx ndx nex=>?_⟩⟩
   refine ⟨x,dx,newBag b r o sl,?_,rfl,zf,fun H2 sl2 h2 h3 h4 hbut=>⟨rfl,?_⟩⟩
   ·show [V.ref x,V.int b,V.int r,V.int o,V.int sl]++[]=[V.ref x,insV (bagO b),V.int ((r.toNat:Nat):Int),V.int ((o.toNat:Nat):Int),V.int ((sl.toNat:Nat):Int)]
    rw [← ev,show ((o.toNat:Nat):Int)=o by omega,show ((r.toNat:Nat):Int)=r by omega,show ((sl.toNat:Nat):Int)=sl by omega]
    rfl
   ·have s2:Same H1 H2:=hbut.same nx ndx
    have S2:=S1.same s2
    have hsl1:H1 sl2=none:=by
     have n1:sl2≠x:=fun q=>by rw [q,zf] at h4;cases h4
     have n2:sl2≠dx:=fun q=>by rw [zl n1,q,zf] at h4;cases h4
     rw [zl n1,zl n2] at h4
     exact h4
    have S3:=S2.addBag (y:=newBag b r o sl) h2 h3 rfl (S1.fresh hsl1) (S1.ba_lt nx)
    have f3:Frm (kap T) A.tops H2 (L2.upd H2 A.bl (.lst (A.ba.map V.ref++[.ref x]))):=jv S2.bs.1 (by simp)
    refine ⟨A.bl,_,_,rfl,rfl,S2.bs.1,(by rw [List.length_map,S.blen];exact small (m:=1000) (by have:=I.b.len;omega)),?_⟩
    refine ⟨_,rfl,_,rfl,_,rfl,{ A with ba:=A.ba++[x] },_,_,bagO b,l,o,?_,S3,hl.app,(by have:=hl.len;have:=I.b.len;omega),fun H4 S4 f4=>?_⟩
    ·rw [y6 hr1.1.1]
     rfl
    ·have e5:addL (heldOf st.goods st.bags++[0]) l o=heldOf st.goods (st.bags++[newBag b r o sl]):=by
      refine Yp (by rw [xO];simp [jw]) fun c hc=>?_
      rw [k5 _ _ _ _ (by simp [jw] at hc ⊢;omega)]
      have hn:=kR st.goods I.b.ac hl (y:=newBag b r o sl) rfl c
      rw [hn]
      have e6:(newBag b r o sl).own=o.toNat:=rfl
      have e7:(heldOf st.goods st.bags++[0]).getD c 0=((if c<st.bags.length then Vbwsao.holds st.goods st.bags c else 0:Nat):Int):=by
       by_cases hc2:c<st.bags.length
       ·rw [if_pos hc2,jO (x:=(Vbwsao.holds st.goods st.bags c:Int))]
        rw [List.getElem?_append_left (by rw [jw];exact hc2)]
        exact z7 _ _ hc2
       ·rw [if_neg hc2]
        have:c=st.bags.length:=by simp at hc;omega
        subst this
        rw [jO (x:=(0:Int))]
        ·rfl
        ·have:=List.getElem?_concat_length (l:=heldOf st.goods st.bags) (a:=(0:Int))
         rw [jw] at this
         exact this
      rw [e7,e6,Int.natCast_add,Int.natCast_mul,show ((o.toNat:Nat):Int)=o by omega]
     rw [e5] at S4
     have I':SInv { st with bags:=st.bags++[newBag b r o sl] }:=by
      have B':=new_inv I.b hl (y:=newBag b r o sl) rfl (by show sl.toNat≤40;omega) (by omega) hf
      refine ⟨I.g,I.r,B',I.ml,fun m hm=>?_,fun h=>?_⟩
      ·have:=I.m m hm
       show _<(st.bags++[newBag b r o sl]).length∧_<(st.bags++[newBag b r o sl]).length∧_
       simp
       omega
      ·rw [h] at hg
       cases hg
     refine ⟨_,rfl,zP (A:={ A with ba:=A.ba++[x] }) S4 ⟨A.bl,_,rfl,.inl (SqL.of S4.bs.1),_,_,rfl,rfl,(by show 2≤sizeLine;decide),fun p hp=>?_⟩⟩
     have ka:=k p (L2.upd H4 p (.lst ([0,(st.bags.length:Int)].map V.int))) { A with ba:=A.ba++[x] } rfl rfl
     rw [st_bag hi hg e e2' hf] at ka
     have kb:=ka (S4.same (zM hp)) I' zf ((((zy (s1.trans s2)).trans f3).trans (frmB (A:=A) f4)).trans (zy (zM hp)))
     have e8:(((A.ba++[x]).map V.ref).length:Int) - 1=(st.bags.length:Int):=by
      rw [List.length_map,List.length_append,S.blen]
      simp
     have e9:[V.int 0,V.int ((((A.ba++[x]).map V.ref).length:Int) - 1)]=[0,(st.bags.length:Int)].map V.int:=by
      rw [e8]
      rfl
     rw [← e9] at kb
     exact kb
end
section
variable {P:Program} {w:World} {K:PySem.W.Frag} {mg:Str→Option Value} {base:Heap}
theorem Qh {bs:List Bag} {j:Nat} {x:Bag} {ts:List (Nat × Nat)} (hx:bs[j]? = some x):(bs.set j { x with stacks:=ts }).set j { ({ x with stacks:=ts }:Bag) with stacks:=x.stacks } = bs:=by
 rw [List.set_set]
 exact jD hx
theorem ZL (gs:List Good) {bs:List Bag} (ac:∀ b,b<bs.length→∃ l,ChS bs (some b) l) {j:Nat} {x:Bag} {l:List Nat} (hx:bs[j]? = some x) (hl:ChS bs (some j) l) (ts:List (Nat × Nat)) :
  addL (heldOf gs (bs.set j { x with stacks:=ts })) l ((Vbwsao.holds gs bs j:Int) - (Vbwsao.holds gs (bs.set j { x with stacks:=ts }) j:Int))=heldOf gs bs:=by
 have hj:j∈l:=by
  cases hl with
  | cons _ _=>exact List.mem_cons_self
 refine wN (by rw [List.length_set]) fun c hc=>?_
 have h1:=wc gs ac hx hl ts c
 have h2:=wc gs ac hx hl ts j
 rw [yj hl.nodup,if_pos hj] at h2
 rw [yj hl.nodup] at h1 ⊢
 by_cases hm:c∈l
 ·rw [if_pos hm] at h1 ⊢
  omega
 ·rw [if_neg hm] at h1 ⊢
  omega
theorem Jd:FnScope ["state","a","b","good","many","stacks","held"] ["state","a","b","good","many"] (defScope Wv):=⟨rfl,rfl,rfl,by decide +kernel,rfl,by decide +kernel,by decide +kernel⟩
def sp_move (T:Prog K mg):Sp:=fun vs H Q _=>∃ (A:Adr) (s:State) (a b g n:Int),vs=[.ref A.st,.int a,.int b,.int g,.int n]∧StAt T H A s∧SInv s∧s.goods.isEmpty=false∧callIn (.move a b g n)=true∧CallOk T A s (.move a b g n) H Q
theorem ok_move (T:Prog K mg):FnOk P w K mg base CX0 5 T.move.f T.move.fd ["state","a","b","good","many"] (sp_move T):=by
 refine T.move.fn.ok Jd (fun vs H Q E h=>?_) (fun cdv A outer s H vs Q E hr h=>?_)
 ·obtain ⟨A,s,a,b,g,n,rfl,_⟩:=h
  rfl
 ·obtain ⟨A,st,a,b,g,n,rfl,S,I,hg,hi,k⟩:=h
  have hr1:(0≤a∧a≤11)∧(0≤b∧b≤11)∧(0≤g∧g≤9)∧(1≤n∧n≤10000):=by
   simp only [callIn,Vbwsao.bagIx,Vbwsao.goodIx,Vbwsao.amount,Bool.and_eq_true,jc] at hi
   exact hi
  obtain ⟨a,rfl⟩:∃ b':Nat,a=(b':Int):=⟨a.toNat,by omega⟩
  obtain ⟨b,rfl⟩:∃ b':Nat,b=(b':Int):=⟨b.toNat,by omega⟩
  obtain ⟨g,rfl⟩:∃ g':Nat,g=(g':Int):=⟨g.toNat,by omega⟩
  obtain ⟨n,rfl⟩:∃ n':Nat,n=(n':Int):=⟨n.toNat,by omega⟩
  refine ⟨_,(za (zB (PW.pt (q5 (zN (zi (zR T) (hr.mono (by decide)) rfl T.lacks_bag.at_ T.lacks_bag.fn.kp T.lacks_bag.b .nil pass0 (zc (pv 0) (zc (pv 1) zb)))) (q5 (zN (zi (zR T) (hr.mono (by decide)) rfl T.lacks_bag.at_ T.lacks_bag.fn.kp T.lacks_bag.b .nil pass0 (zc (pv 0) (zc (pv 2) zb)))) (qS (zN (zi (ja T) (hr.mono (by decide)) rfl T.lacks_good.at_ T.lacks_good.fn.kp T.lacks_good.b .nil pass0 (zc (pv 0) (zc (pv 3) zb)))))))) (ze (zm (zu (zc (zA (v:=.int (-3)) rfl T.c_NO_SUCH.at_ ⟨_,rfl⟩) zb)))) zp)
   (za (zt (i:=5) Jd.nd rfl (by first | exact Or.inl rfl | exact Or.inr rfl) (zd (K:=K) rfl (zv (zk (K:=K) rfl) (zd (K:=K) rfl (pv 0) rfl) (pv 1) (fun _ _=>rfl)) rfl))
   (za (zt (i:=6) Jd.nd rfl (by first | exact Or.inl rfl | exact Or.inr rfl) (zd (K:=K) rfl (zv (zk (K:=K) rfl) (zd (K:=K) rfl (pv 0) rfl) (pv 1) (fun _ _=>rfl)) rfl))
   (za (zB (zq qC (pv 4) (zi (jJ T) (hr.mono (by decide)) rfl T.count_in.at_ T.count_in.fn.kp T.count_in.b .nil pass0 (zc (pv 5) (zc (pv 3) zb))) (nomark _)) (ze (zm (zu (zc (zA (v:=.int (-8)) rfl T.c_TOO_FEW.at_ ⟨_,rfl⟩) zb)))) zp)
   (za (zG (zi (yM T) (hr.mono (by decide)) rfl T.take_out.at_ T.take_out.fn.kp T.take_out.b .nil pass0 (zc (pv 0) (zc (pv 1) (zc (pv 3) (zc (pv 4) zb))))))
   (za (zB (yJ (zN (zi (jt T) (hr.mono (by decide)) rfl T.put_if_it_fits.at_ T.put_if_it_fits.fn.kp T.put_if_it_fits.b .nil pass0 (zc (pv 0) (zc (pv 2) (zc (pv 3) (zc (pv 4) zb))))))) (za (zG (zi (ue T) (hr.mono (by decide)) rfl T.put_back.at_ T.put_back.fn.kp T.put_back.b .nil pass0 (zc (pv 0) (zc (pv 1) (zc (pv 5) (zc (pv 6) zb))))))
   (ze (zm (zu (zc (zA (v:=.int (-6)) rfl T.c_NO_ROOM.at_ ⟨_,rfl⟩) zb))))) zp)
   (ze (zm (zu (zc zj zb)))))))))),?_⟩
  refine ⟨_,rfl,_,rfl,A,st,_,_,rfl,S,_,rfl,zx rfl (fun e=>iteT (k.ref (uO hi hg (by unfold Vbwsao.nb;rw [e];rfl)) S I (Same.refl _))) (fun e=>?_)⟩
  refine ⟨_,rfl,_,rfl,A,st,_,_,rfl,S,_,rfl,zx rfl (fun e2=>iteT (k.ref (uO hi hg (by unfold Vbwsao.nb;rw [e,e2];rfl)) S I (Same.refl _))) (fun e2=>?_)⟩
  refine ⟨_,rfl,_,rfl,A,st,_,_,rfl,S,_,rfl,zx rfl (fun e3=>k.ref (uO hi hg (by unfold Vbwsao.nb Vbwsao.ng;rw [e,e2,e3];rfl)) S I (Same.refl _)) (fun e3=>?_)⟩
  have e0:(Vbwsao.nb st a||(Vbwsao.nb st b||Vbwsao.ng st g))=false:=ji e (ji e2 e3)
  have hal:a<st.bags.length:=by have:=of_decide_eq_false e;omega
  have hbl:b<st.bags.length:=by have:=of_decide_eq_false e2;omega
  have hgl:g<st.goods.length:=by have:=of_decide_eq_false e3;omega
  obtain ⟨x,hx⟩:∃ x,st.bags[a]? = some x:=⟨_,List.getElem?_eq_getElem hal⟩
  obtain ⟨l,hl⟩:=I.b.ac a hal
  have hll:l.length≤1000:=by have:=hl.len;have:=I.b.len;omega
  obtain ⟨aa,h,ha,hh,dx,sl,e1,n1,p1⟩:=S.bag hx
  have hh2:h=(Vbwsao.holds st.goods st.bags a:Int):=by
   rw [z7 _ _ hal] at hh
   cases hh
   rfl
  have hlen:=I.b.stk_len hx
  have emi:Vbwsao.missing st a g n=decide (Vbwsao.countIn x.stacks g<n):=by
   unfold Vbwsao.missing Vbwsao.stock
   rw [Int.toNat_natCast,z3 hx,Int.toNat_natCast]
   exact decide_eq_decide.mpr (by omega)
  refine ⟨_,rfl,zP S ⟨_,rfl,jb S.bs ha (jk T e1 ⟨_,rfl,zP S ⟨_,rfl,jb S.bs ha (yc T e1 ⟨_,rfl,_,rfl,_,rfl,sl,x.stacks,g,rfl,p1,(by omega),fun H1 s1=>⟨_,_,rfl,rfl,_,rfl,zx (p:=decide (Vbwsao.countIn x.stacks g<n)) (decide_eq_decide.mpr (by omega)) (fun e4=>k.ref (st_move8 hi hg e0 (emi.trans e4)) S I s1) (fun e4=>?_)⟩⟩)⟩⟩)⟩⟩
  have hn:n≤Vbwsao.countIn x.stacks g:=by have:=of_decide_eq_false e4;omega
  have emv:Vbwsao.moved st a b g n=Vbwsao.put? st.goods (Vbwsao.takeRaw st.bags a g n) b g n:=by
   unfold Vbwsao.moved Vbwsao.take?
   simp only [Int.toNat_natCast]
   rw [z3 hx,if_neg (by omega)]
   rfl
  refine ⟨_,rfl,_,rfl,_,rfl,_,rfl,A,st,a,g,n,x,rfl,S.same s1,I.g,I.b,hx,hgl,hn,fun H2 S2 f2=>?_⟩
  have B2:=uK I.b hx hl hn
  have hx2:(Vbwsao.takeRaw st.bags a g n)[a]? = some { x with stacks:=Vbwsao.takeStacks g n x.stacks }:=by
   rw [z4 g n hx]
   exact List.getElem?_set_self hal
  refine ⟨_,rfl,_,rfl,_,rfl,_,rfl,A,_,b,g,n,rfl,S2,I.g,B2,by show b<(Vbwsao.takeRaw st.bags a g n).length;rw [qZ];exact hbl,hgl,fun bs' H3 hq B3 S3 f3=>⟨true,rfl,?_⟩,fun hq H3 s3=>⟨false,rfl,?_⟩⟩
  ·refine ⟨by decide,fun p hp=>k.ans (st_move hi hg e0 (emi.trans e4) (emv.trans hq)) S3 (I.bags B3 ((Qp hq).trans (qZ _ _ _ _))) (frmB (((zy s1).trans f2).trans f3)) hp⟩
  ·have S3:=S2.same s3
   have hl2:ChS (Vbwsao.takeRaw st.bags a g n) (some a) l:=by
    rw [z4 g n hx]
    exact hl.set (y:={ x with stacks:=Vbwsao.takeStacks g n x.stacks }) hx rfl
   have p3:PrsAt H3 sl x.stacks:=((p1.same s1).frm f2 (by simp)).same s3
   refine ⟨_,rfl,_,rfl,_,rfl,_,rfl,A,{ st with bags:=Vbwsao.takeRaw st.bags a g n },heldOf st.goods (Vbwsao.takeRaw st.bags a g n),a,{ x with stacks:=Vbwsao.takeStacks g n x.stacks },(Vbwsao.holds st.goods (Vbwsao.takeRaw st.bags a g n) a:Int),h,sl,x.stacks,l,rfl,S3,hx2,z7 _ _ (by rw [qZ];exact hal),p3,n1,hl2,hll,fun H4 S4 f4=>?_⟩
   rw [hh2] at S4
   have e6:(Vbwsao.takeRaw st.bags a g n).set a { ({ x with stacks:=Vbwsao.takeStacks g n x.stacks }:Bag) with stacks:=x.stacks } = st.bags:=by
    rw [z4 g n hx]
    exact Qh hx
   have e7:addL (heldOf st.goods (Vbwsao.takeRaw st.bags a g n)) l ((Vbwsao.holds st.goods st.bags a:Int) - (Vbwsao.holds st.goods (Vbwsao.takeRaw st.bags a g n) a:Int))=heldOf st.goods st.bags:=by
    rw [z4 g n hx]
    exact ZL st.goods I.b.ac hx hl _
   rw [e7] at S4
   have S5:StAt T H4 A st:=by
    have S6:StX T H4 A { st with bags:=(Vbwsao.takeRaw st.bags a g n).set a { ({ x with stacks:=Vbwsao.takeStacks g n x.stacks }:Bag) with stacks:=x.stacks } } (heldOf st.goods st.bags):=S4
    rw [e6] at S6
    exact S6
   exact ⟨by decide,fun p hp=>k.ans (st_move6 hi hg e0 (emi.trans e4) (emv.trans hq)) S5 I (frmB ((((zy s1).trans f2).trans (zy s3)).trans f4)) hp⟩
theorem Jb:FnScope ["state","b","good"] ["state","b","good"] (defScope yz):=⟨rfl,rfl,rfl,by decide +kernel,rfl,by decide +kernel,by decide +kernel⟩
def Z1 (T:Prog K mg):Sp:=fun vs H Q _=>∃ (A:Adr) (s:State) (b g:Int),vs=[.ref A.st,.int b,.int g]∧StAt T H A s∧SInv s∧s.goods.isEmpty=false∧callIn (.fits b g)=true∧CallOk T A s (.fits b g) H Q
theorem Js (T:Prog K mg):FnOk P w K mg base CX0 4 T.tell_fits.f T.tell_fits.fd ["state","b","good"] (Z1 T):=by
 refine T.tell_fits.fn.ok Jb (fun vs H Q E h=>?_) (fun cdv A outer s H vs Q E hr h=>?_)
 ·obtain ⟨A,s,b,g,rfl,_⟩:=h
  rfl
 ·obtain ⟨A,st,b,g,rfl,S,I,hg,hi,k⟩:=h
  have hr1:(0≤b∧b≤11)∧(0≤g∧g≤9):=by
   simp only [callIn,Vbwsao.bagIx,Vbwsao.goodIx,Bool.and_eq_true,jc] at hi
   exact hi
  obtain ⟨b,rfl⟩:∃ b':Nat,b=(b':Int):=⟨b.toNat,by omega⟩
  obtain ⟨g,rfl⟩:∃ g':Nat,g=(g':Int):=⟨g.toNat,by omega⟩
  refine ⟨_,(za (zB (PW.pt (q5 (zN (zi (zR T) (hr.mono (by decide)) rfl T.lacks_bag.at_ T.lacks_bag.fn.kp T.lacks_bag.b .nil pass0 (zc (pv 0) (zc (pv 1) zb)))) (qS (zN (zi (ja T) (hr.mono (by decide)) rfl T.lacks_good.at_ T.lacks_good.fn.kp T.lacks_good.b .nil pass0 (zc (pv 0) (zc (pv 2) zb))))))) (ze (zm (zu (zc (zA (v:=.int (-3)) rfl T.c_NO_SUCH.at_ ⟨_,rfl⟩) zb)))) zp)
   (ze (zm (zu (zc zj (zc (zi (yl T) (hr.mono (by decide)) rfl T.how_many_fit.at_ T.how_many_fit.fn.kp T.how_many_fit.b .nil pass0 (zc (pv 0) (zc (pv 1) (zc (pv 2) zb)))) zb)))))),?_⟩
  refine ⟨_,rfl,_,rfl,A,st,_,_,rfl,S,_,rfl,zx rfl (fun e=>iteT (k.ref (J1 hi hg (by unfold Vbwsao.nb;rw [e];rfl)) S I (Same.refl _))) (fun e=>?_)⟩
  refine ⟨_,rfl,_,rfl,A,st,_,_,rfl,S,_,rfl,zx rfl (fun e2=>k.ref (J1 hi hg (by unfold Vbwsao.nb Vbwsao.ng;rw [e,e2];rfl)) S I (Same.refl _)) (fun e2=>?_)⟩
  have hb:b<st.bags.length:=by have:=of_decide_eq_false e;omega
  have hgl:g<st.goods.length:=by have:=of_decide_eq_false e2;omega
  refine ⟨_,rfl,_,rfl,_,rfl,A,st,b,g,rfl,S,I.g,I.b,hb,hgl,fun H1 s1=>⟨by show 2≤sizeLine;decide,fun p hp=>?_⟩⟩
  exact k.ans (st_fits hi hg (ji e e2)) (S.same s1) I (zy s1) hp
theorem vU:FnScope ["state","b","bag"] ["state","b"] (defScope yy):=⟨rfl,rfl,rfl,by decide +kernel,rfl,by decide +kernel,by decide +kernel⟩
def Z0 (T:Prog K mg):Sp:=fun vs H Q _=>∃ (A:Adr) (s:State) (b:Int),vs=[.ref A.st,.int b]∧StAt T H A s∧SInv s∧s.goods.isEmpty=false∧callIn (.load b)=true∧CallOk T A s (.load b) H Q
theorem Jr (T:Prog K mg):FnOk P w K mg base CX0 2 T.tell_load.f T.tell_load.fd ["state","b"] (Z0 T):=by
 refine T.tell_load.fn.ok vU (fun vs H Q E h=>?_) (fun cdv A outer s H vs Q E hr h=>?_)
 ·obtain ⟨A,s,b,rfl,_⟩:=h
  rfl
 ·obtain ⟨A,st,b,rfl,S,I,hg,hi,k⟩:=h
  have hr1:(0≤b∧b≤11):=by
   simp only [callIn,Vbwsao.bagIx,jc] at hi
   exact hi
  obtain ⟨b,rfl⟩:∃ b':Nat,b=(b':Int):=⟨b.toNat,by omega⟩
  refine ⟨_,(za (zB (zN (zi (zR T) (hr.mono (by decide)) rfl T.lacks_bag.at_ T.lacks_bag.fn.kp T.lacks_bag.b .nil pass0 (zc (pv 0) (zc (pv 1) zb)))) (ze (zm (zu (zc (zA (v:=.int (-3)) rfl T.c_NO_SUCH.at_ ⟨_,rfl⟩) zb)))) zp)
   (za (zt (i:=2) vU.nd rfl (by first | exact Or.inl rfl | exact Or.inr rfl) (zv (zk (K:=K) rfl) (zd (K:=K) rfl (pv 0) rfl) (pv 1) (fun _ _=>rfl)))
   (ze (zm (zu (zc zj (zc (zi (qc T) (hr.mono (by decide)) rfl T.weight_of_bag.at_ T.weight_of_bag.fn.kp T.weight_of_bag.b .nil pass0 (zc (pv 0) (zc (pv 1) zb))) (zc (zI jI (zd (K:=K) rfl (pv 2) rfl) (zd (K:=K) rfl (pv 2) rfl)) (zc (zi (qz T) (hr.mono (by decide)) rfl T.places_taken.at_ T.places_taken.fn.kp T.places_taken.b .nil pass0 (zc (pv 0) (zc (pv 1) zb))) (zc (zd (K:=K) rfl (pv 2) rfl) zb)))))))))),?_⟩
  refine ⟨_,rfl,_,rfl,A,st,_,_,rfl,S,_,rfl,zx rfl (fun e=>k.ref (st_load3 hi hg e) S I (Same.refl _)) (fun e=>?_)⟩
  have hb:b<st.bags.length:=by have:=of_decide_eq_false e;omega
  obtain ⟨x,hx⟩:∃ x,st.bags[b]? = some x:=⟨_,List.getElem?_eq_getElem hb⟩
  obtain ⟨a,h,ha,hh,dx,sl,e1,n1,p1⟩:=S.bag hx
  have hh2:h=(Vbwsao.holds st.goods st.bags b:Int):=by
   rw [z7 _ _ hb] at hh
   cases hh
   rfl
  refine ⟨_,rfl,zP S ⟨_,rfl,jb S.bs ha ⟨_,rfl,_,rfl,A,st,_,b,x,h,rfl,S,hx,hh,_,rfl,Ya T e1 ⟨_,rfl,yc T e1 ⟨_,_,rfl,rfl,_,rfl,_,rfl,A,st,_,b,x,rfl,S,(by have:=I.b.len;omega),hx,fun H1 s1=>?_⟩⟩⟩⟩⟩
  refine ⟨_,rfl,wH T (s1 _ _ e1) ⟨by show 5≤sizeLine;decide,fun p hp=>?_⟩⟩
  have q:=k.ans (st_load hi hg e) (S.same s1) I (zy s1) hp
  rw [Int.toNat_natCast,z3 hx,jg,z3 hx,Int.natCast_add,← hh2] at q
  have e8:insV x.inside=V.int (match x.inside with | some c=>(c:Int) | none=>-1):=by
   cases x.inside <;> rfl
  rw [e8]
  exact q
theorem j1:FnScope ["state","b","answer","good","many"] ["state","b"] (defScope wl):=⟨rfl,rfl,rfl,by decide +kernel,rfl,by decide +kernel,by decide +kernel⟩
def uR (T:Prog K mg):Sp:=fun vs H Q _=>∃ (A:Adr) (s:State) (b:Int),vs=[.ref A.st,.int b]∧StAt T H A s∧SInv s∧s.goods.isEmpty=false∧callIn (.stacks b)=true∧CallOk T A s (.stacks b) H Q
theorem xj (T:Prog K mg):FnOk P w K mg base CX0 2 T.tell_stacks.f T.tell_stacks.fd ["state","b"] (uR T):=by
 refine T.tell_stacks.fn.ok j1 (fun vs H Q E h=>?_) (fun cdv A outer s H vs Q E hr h=>?_)
 ·obtain ⟨A,s,b,rfl,_⟩:=h
  rfl
 ·obtain ⟨A,st,b,rfl,S,I,hg,hi,k⟩:=h
  have hr1:(0≤b∧b≤11):=by
   simp only [callIn,Vbwsao.bagIx,jc] at hi
   exact hi
  obtain ⟨b,rfl⟩:∃ b':Nat,b=(b':Int):=⟨b.toNat,by omega⟩
  refine ⟨_,(za (zB (zN (zi (zR T) (hr.mono (by decide)) rfl T.lacks_bag.at_ T.lacks_bag.fn.kp T.lacks_bag.b .nil pass0 (zc (pv 0) (zc (pv 1) zb)))) (ze (zm (zu (zc (zA (v:=.int (-3)) rfl T.c_NO_SUCH.at_ ⟨_,rfl⟩) zb)))) zp)
   (za (zt (i:=2) j1.nd rfl (by first | exact Or.inl rfl | exact Or.inr rfl) (zu (zc zj zb)))
   (za (jH PassesOwn.never rfl (zL (K:=K) rfl (zd (K:=K) rfl (zv (zk (K:=K) rfl) (zd (K:=K) rfl (pv 0) rfl) (pv 1) (fun _ _=>rfl)) rfl)) (js (K:=K) (n:=2) rfl rfl (zF (zw (i:=3) j1.nd rfl (by first | exact Or.inl rfl | exact Or.inr rfl)) (zF (zw (i:=4) j1.nd rfl (by first | exact Or.inl rfl | exact Or.inr rfl)) jr))) (ze (zG (WD (K:=K) rfl (pv 2) (zu (zc (pv 3) (zc (pv 4) zb)))))))
   (ze (zm (pv 2)))))),?_⟩
  refine ⟨_,rfl,_,rfl,A,st,_,_,rfl,S,_,rfl,zx rfl (fun e=>k.ref (We hi hg e) S I (Same.refl _)) (fun e=>?_)⟩
  have hb:b<st.bags.length:=by have:=of_decide_eq_false e;omega
  obtain ⟨x,hx⟩:∃ x,st.bags[b]? = some x:=⟨_,List.getElem?_eq_getElem hb⟩
  obtain ⟨a,h,ha,hh,dx,sl,e1,n1,p1⟩:=S.bag hx
  have hlen:=I.b.stk_len hx
  refine ⟨by show 1≤sizeLine;decide,fun p hp=>?_⟩
  have s1:=zM (o:=.lst [V.int 0]) hp
  have S1:=S.same s1
  refine ⟨_,rfl,zP S1 ⟨_,rfl,jb S1.bs ha (jk T (s1 _ _ e1) ⟨sl,rfl,?_⟩)⟩⟩
  refine uB (fun i σ H'=>Same H H'∧H' p=some (.lst ((0 :: (x.stacks.take i).flatMap fun y=>[(y.1:Int),(y.2:Int)]).map V.int))∧∃ v3 v4,σ=[some (.ref A.st),some (.int (b:Int)),some (.ref p),v3,v4]) (p1.same s1) ⟨s1,zf,_,_,rfl⟩ (fun i σ' H' h=>h.1.prs p1 s1) ?_ ?_
  ·rintro i y aa σ H1 hy hpa ⟨s2,h2,v3,v4,rfl⟩
   have hi2:=zT hy
   refine jY hpa ⟨_,rfl,.inl ⟨rfl,_,SqL.of h2⟩,_,rfl,_,rfl,by show 2≤sizeLine;decide,fun q hq=>?_⟩
   refine ⟨p,q,_,_,rfl,rfl,by rw [zl (zn h2 hq)];exact h2,.inl zf,?_,jL (jR s2 hq) hp,?_,_,_,rfl⟩
   ·have e9:∀ m:List (Nat × Nat),(m.flatMap fun y=>[(y.1:Int),(y.2:Int)]).length=2 * m.length:=by
     intro m
     induction m with
     | nil=>rfl
     | cons c m ih=>rw [List.flatMap_cons,List.length_append,ih];simp;omega
    rw [List.length_map,List.length_cons,e9,List.length_take]
    show 2 * min i x.stacks.length+1+2≤sizeLine
    exact Nat.le_of_lt (small (m:=1000) (by omega))
   ·rw [zf,zZ hy,List.flatMap_append]
    simp
  ·rintro σ H1 ⟨s2,h2,v3,v4,rfl⟩
   rw [List.take_length] at h2
   refine ⟨_,rfl,?_⟩
   have ka:=k p H1 A rfl rfl
   rw [YL hi hg e] at ka
   unfold Vbwsao.stock at ka
   rw [Int.toNat_natCast,z3 hx] at ka
   exact ka (S.same s2) I h2 (zy s2)
end
theorem xN (hs:List Int) (w:Int):addL hs [] w=hs:=rfl
section
variable {P:Program} {w:World} {K:PySem.W.Frag} {mg:Str→Option Value} {base:Heap}
theorem Qm:FnScope ["state","a","b","before"] ["state","a","b"] (defScope Ji):=⟨rfl,rfl,rfl,by decide +kernel,rfl,by decide +kernel,by decide +kernel⟩
def sp_carry (T:Prog K mg):Sp:=fun vs H Q _=>∃ (A:Adr) (s:State) (a b:Int),vs=[.ref A.st,.int a,.int b]∧StAt T H A s∧SInv s∧s.goods.isEmpty=false∧callIn (.carry a b)=true∧CallOk T A s (.carry a b) H Q
theorem ok_carry (T:Prog K mg):FnOk P w K mg base CX0 4 T.carry.f T.carry.fd ["state","a","b"] (sp_carry T):=by
 refine T.carry.fn.ok Qm (fun vs H Q E h=>?_) (fun cdv A outer s H vs Q E hr h=>?_)
 ·obtain ⟨A,s,a,b,rfl,_⟩:=h
  rfl
 ·obtain ⟨A,st,a,b,rfl,S,I,hg,hi,k⟩:=h
  have hr1:(0≤a∧a≤11)∧(-1≤b∧b≤11):=by
   simp only [callIn,Vbwsao.bagIx,Bool.and_eq_true,jc] at hi
   exact hi
  obtain ⟨a,rfl⟩:∃ b':Nat,a=(b':Int):=⟨a.toNat,by omega⟩
  have ev:insV (bagO b)=V.int b:=y6 hr1.2.1
  refine ⟨_,(za (zB (PW.pt (q5 (zN (zi (zR T) (hr.mono (by decide)) rfl T.lacks_bag.at_ T.lacks_bag.fn.kp T.lacks_bag.b .nil pass0 (zc (pv 0) (zc (pv 1) zb)))) (qS (zN (zi (zR T) (hr.mono (by decide)) rfl T.lacks_bag.at_ T.lacks_bag.fn.kp T.lacks_bag.b .nil pass0 (zc (pv 0) (zc (pv 2) zb))))))) (ze (zm (zu (zc (zA (v:=.int (-3)) rfl T.c_NO_SUCH.at_ ⟨_,rfl⟩) zb)))) zp)
   (za (zB (zq (WF (K:=K) rfl) (pv 1) (zi (qW T) (hr.mono (by decide)) rfl T.bags_around.at_ T.bags_around.fn.kp T.bags_around.b .nil pass0 (zc (pv 0) (zc (pv 2) zb))) (by with_unfolding_all rfl)) (ze (zm (zu (zc (zA (v:=.int (-6)) rfl T.c_NO_ROOM.at_ ⟨_,rfl⟩) zb)))) zp)
   (za (zt (i:=3) Qm.nd rfl (by first | exact Or.inl rfl | exact Or.inr rfl) (zd (K:=K) rfl (zv (zk (K:=K) rfl) (zd (K:=K) rfl (pv 0) rfl) (pv 1) (fun _ _=>rfl)) rfl))
   (za (zG (zi (vI T) (hr.mono (by decide)) rfl T.lay_bag.at_ T.lay_bag.fn.kp T.lay_bag.b .nil pass0 (zc (pv 0) (zc (pv 1) (zc (zA (v:=.int (-1)) rfl T.c_GROUND.at_ ⟨_,rfl⟩) zb)))))
   (za (zB (yJ (zN (zi (ug T) (hr.mono (by decide)) rfl T.bag_fits.at_ T.bag_fits.fn.kp T.bag_fits.b .nil pass0 (zc (pv 0) (zc (pv 2) (zc (zi (qc T) (hr.mono (by decide)) rfl T.weight_of_bag.at_ T.weight_of_bag.fn.kp T.weight_of_bag.b .nil pass0 (zc (pv 0) (zc (pv 1) zb))) zb)))))) (za (zG (zi (vI T) (hr.mono (by decide)) rfl T.lay_bag.at_ T.lay_bag.fn.kp T.lay_bag.b .nil pass0 (zc (pv 0) (zc (pv 1) (zc (pv 3) zb)))))
   (ze (zm (zu (zc (zA (v:=.int (-6)) rfl T.c_NO_ROOM.at_ ⟨_,rfl⟩) zb))))) zp)
   (za (zG (zi (vI T) (hr.mono (by decide)) rfl T.lay_bag.at_ T.lay_bag.fn.kp T.lay_bag.b .nil pass0 (zc (pv 0) (zc (pv 1) (zc (pv 2) zb)))))
   (ze (zm (zu (zc zj zb)))))))))),?_⟩
  refine ⟨_,rfl,_,rfl,A,st,_,_,rfl,S,_,rfl,zx rfl (fun e=>iteT (k.ref (Zo hi hg (by unfold Vbwsao.nb;rw [e];rfl)) S I (Same.refl _))) (fun e=>?_)⟩
  refine ⟨_,rfl,_,rfl,A,st,_,_,rfl,S,_,rfl,zx rfl (fun e2=>k.ref (Zo hi hg (by unfold Vbwsao.nb;rw [e,e2];rfl)) S I (Same.refl _)) (fun e2=>?_)⟩
  have e0:(Vbwsao.nb st a||Vbwsao.nb st b)=false:=ji e e2
  have hal:a<st.bags.length:=by have:=of_decide_eq_false e;omega
  have hbl:b<st.bags.length:=by have:=of_decide_eq_false e2;omega
  obtain ⟨l,hl⟩:=Yz I.b hbl
  have hll:l.length≤1000:=by have:=hl.len;have:=I.b.len;omega
  obtain ⟨x,hx⟩:∃ x,st.bags[a]? = some x:=⟨_,List.getElem?_eq_getElem hal⟩
  obtain ⟨m,hm⟩:=I.b.ac a hal
  obtain ⟨lp,hlp⟩:∃ lp,ChS st.bags x.inside lp:=by
   cases hm with
   | cons hb h2=>
    rw [hx] at hb
    cases hb
    exact ⟨_,h2⟩
  have hpl:lp.length≤1000:=by have:=hlp.len;have:=I.b.len;omega
  have nlp:=Yd hx hlp
  refine ⟨_,rfl,_,rfl,_,rfl,A,st,_,bagO b,l,by rw [ev];rfl,S,hl,hll,fun q H1 s1 hq hq1=>?_⟩
  refine ⟨q,_,rfl,.inl (SqL.of hq1),rfl,ZA l,_,rfl,zx (p:=l.contains a) (Yo a l) (fun e3=>?_) (fun e3=>?_)⟩
  ·refine k.ref (Zn hi hg e0 ?_) S I s1
   have hm:a∈l:=by simpa using e3
   unfold Vbwsao.carried
   have hb0:0≤b:=by
    by_cases q:b<0
    ·unfold bagO at hl
     rw [if_pos q] at hl
     cases hl
     cases hm
    ·omega
   have hc:Vbwsao.chainOf st.bags b.toNat=l:=by
    unfold bagO at hl
    rw [if_neg (by omega)] at hl
    exact hl.chainOf
   rw [if_pos ⟨hb0,by rw [hc,Int.toNat_natCast];exact e3⟩]
  have nm:a∉l:=by simpa using e3
  have S1:=S.same s1
  obtain ⟨aa,h,ha,hh,dx,sl,e1,n1,p1⟩:=S1.bag hx
  have hh2:h=(Vbwsao.holds st.goods st.bags a:Int):=by
   rw [z7 _ _ hal] at hh
   cases hh
   rfl
  have ecar:Vbwsao.carried st a b=if Vbwsao.allFine st.goods (st.bags.set a { x with inside:=bagO b })=true then some (st.bags.set a { x with inside:=bagO b }) else none:=by
   unfold Vbwsao.carried
   have hnot:¬ (0≤b∧(Vbwsao.chainOf st.bags b.toNat).contains (a:Int).toNat=true):=by
    rintro ⟨h1,h2⟩
    have hc:Vbwsao.chainOf st.bags b.toNat=l:=by
     unfold bagO at hl
     rw [if_neg (by omega)] at hl
     exact hl.chainOf
    rw [hc,Int.toNat_natCast] at h2
    exact nm (by simpa using h2)
   rw [if_neg hnot,Int.toNat_natCast]
   rw [kE st.bags a _ hx]
   rfl
  have B0:=off_inv I.b hx hlp
  have hx0:(st.bags.set a { x with inside:=none })[a]? = some { x with inside:=none }:=List.getElem?_set_self hal
  have hsets:∀ o:Option Nat,(st.bags.set a { x with inside:=none }).set a { ({ x with inside:=none }:Bag) with inside:=o } = st.bags.set a { x with inside:=o }:=fun o=>by rw [List.set_set]
  have hself:st.bags.set a { x with inside:=x.inside } = st.bags:=jD hx
  have ld:(x.own:Int)+h=(Vbwsao.loadOf st.goods st.bags a:Int):=by
   rw [jg,z3 hx,hh2]
   omega
  refine ⟨_,rfl,zP S1 ⟨_,rfl,jb S1.bs ha (wH T e1 ?_)⟩⟩
  refine ⟨_,rfl,_,rfl,A,st,_,a,x,h,none,lp,[],rfl,S1,hx,hh,hlp,hpl,nlp,.nil,by decide,fun H2 S2 f2=>?_⟩
  have e5:addL (addL (heldOf st.goods st.bags) lp (-((x.own:Int)+h))) [] ((x.own:Int)+h)=heldOf st.goods (st.bags.set a { x with inside:=none }):=by
   rw [xN]
   refine wN (by rw [List.length_set]) fun c hc=>?_
   have:=y2 st.goods I.b.ac hx hlp c
   rw [ld,this,Int.natCast_add,Int.natCast_mul,Int.neg_mul]
   omega
  rw [e5] at S2
  have S2':StAt T H2 A { st with bags:=st.bags.set a { x with inside:=none } }:=S2
  have hl0:ChS (st.bags.set a { x with inside:=none }) (bagO b) l:=hl.away nm
  have hh0:(heldOf st.goods (st.bags.set a { x with inside:=none }))[a]? = some (Vbwsao.holds st.goods (st.bags.set a { x with inside:=none }) a:Int):=z7 _ _ (by rw [List.length_set];exact hal)
  have ld0:(x.own:Int)+(Vbwsao.holds st.goods (st.bags.set a { x with inside:=none }) a:Int)=(Vbwsao.loadOf st.goods (st.bags.set a { x with inside:=none }) a:Int):=by
   rw [jg,zX hx,Int.natCast_add]
  have key:=on_iff (o:=bagO b) B0 hx0 rfl hl0 nm
  rw [hsets] at key
  refine ⟨_,rfl,_,rfl,_,rfl,_,rfl,A,_,_,a,{ x with inside:=none },_,rfl,S2',hx0,hh0,A,_,bagO b,l,Vbwsao.loadOf st.goods (st.bags.set a { x with inside:=none }) a,?_,S2',B0,hl0,fun rr H3 s3 hrr=>⟨rr,rfl,zx (p:=!rr) rfl (fun e6=>?_) (fun e6=>?_)⟩⟩
  ·rw [ev,← ld0]
   rfl
  ·
   have hnf:¬ Vbwsao.allFine st.goods (st.bags.set a { x with inside:=bagO b })=true:=fun q=>by
    have:=hrr.mpr (key.mp q)
    rw [this] at e6
    cases e6
   have S3:=S2'.same s3
   refine ⟨_,rfl,_,rfl,_,rfl,A,_,_,a,{ x with inside:=none },_,x.inside,[],lp,rfl,S3,hx0,hh0,.nil,by decide,by simp,?_,hpl,fun H4 S4 f4=>?_⟩
   ·show ChS ((st.bags.set a { x with inside:=none }).set a { ({ x with inside:=none }:Bag) with inside:=x.inside }) x.inside lp
    rw [hsets,hself]
    exact hlp
   ·have S5:StX T H4 A { st with bags:=(st.bags.set a { x with inside:=none }).set a { ({ x with inside:=none }:Bag) with inside:=x.inside } } (addL (addL (heldOf st.goods (st.bags.set a { x with inside:=none })) [] (-((x.own:Int)+(Vbwsao.holds st.goods (st.bags.set a { x with inside:=none }) a:Int)))) lp ((x.own:Int)+(Vbwsao.holds st.goods (st.bags.set a { x with inside:=none }) a:Int))):=S4
    rw [hsets,hself,xN] at S5
    have e7:addL (heldOf st.goods (st.bags.set a { x with inside:=none })) lp ((x.own:Int)+(Vbwsao.holds st.goods (st.bags.set a { x with inside:=none }) a:Int))=heldOf st.goods st.bags:=by
     refine wN (by rw [List.length_set]) fun c hc=>?_
     have h1:=y2 st.goods I.b.ac hx hlp c
     have h2:=QA st.goods I.b.ac hx hlp
     rw [ld0,h2,h1,Int.natCast_add,Int.natCast_mul]
    rw [e7] at S5
    have S6:StAt T H4 A st:=S5
    exact ⟨by decide,fun p hp=>k.ans (Zn hi hg e0 (by rw [ecar,if_neg hnf])) S6 I (frmB ((((zy s1).trans f2).trans (zy s3)).trans f4)) hp⟩
  ·have hrt:rr=true:=by cases rr;cases e6;rfl
   have hf:=key.mpr (hrr.mp hrt)
   have S3:=S2'.same s3
   refine ⟨_,rfl,_,rfl,_,rfl,A,_,_,a,{ x with inside:=none },_,bagO b,[],l,by rw [ev];rfl,S3,hx0,hh0,.nil,by decide,by simp,?_,hll,fun H4 S4 f4=>?_⟩
   ·show ChS ((st.bags.set a { x with inside:=none }).set a { ({ x with inside:=none }:Bag) with inside:=bagO b }) (bagO b) l
    rw [hsets]
    exact hl.away nm
   ·have S5:StX T H4 A { st with bags:=(st.bags.set a { x with inside:=none }).set a { ({ x with inside:=none }:Bag) with inside:=bagO b } } (addL (addL (heldOf st.goods (st.bags.set a { x with inside:=none })) [] (-((x.own:Int)+(Vbwsao.holds st.goods (st.bags.set a { x with inside:=none }) a:Int)))) l ((x.own:Int)+(Vbwsao.holds st.goods (st.bags.set a { x with inside:=none }) a:Int))):=S4
    rw [hsets,xN] at S5
    have e7:addL (heldOf st.goods (st.bags.set a { x with inside:=none })) l ((x.own:Int)+(Vbwsao.holds st.goods (st.bags.set a { x with inside:=none }) a:Int))=heldOf st.goods (st.bags.set a { x with inside:=bagO b }):=by
     refine wN (by rw [List.length_set,List.length_set]) fun c hc=>?_
     have h1:=Qu st.goods B0.ac hx0 rfl hl0 nm c
     rw [hsets] at h1
     rw [ld0,h1,Int.natCast_add,Int.natCast_mul]
    rw [e7] at S5
    have S6:StAt T H4 A { st with bags:=st.bags.set a { x with inside:=bagO b } }:=S5
    have B4:=on_inv (o:=bagO b) B0 hx0 hl0 nm (by rw [hsets];exact hf)
    rw [hsets] at B4
    exact ⟨by decide,fun p hp=>k.ans (st_carry hi hg e0 (by rw [ecar,if_pos hf])) S6 (I.bags B4 (by rw [List.length_set])) (frmB ((((zy s1).trans f2).trans (zy s3)).trans f4)) hp⟩
end
end BM
end
section
namespace BM
open Vbwsao
def ole (a b:Option Nat):Prop:=match b with
 | none=>True
 | some y=>∃ x,a=some x∧x≤y
theorem qr (a:Option Nat):ole a a:=by
 cases a with
 | none=>trivial
 | some x=>exact ⟨x,rfl,Nat.le_refl _⟩
theorem jq {a b c:Option Nat} (h1:ole a b) (h2:ole b c):ole a c:=by
 cases c with
 | none=>trivial
 | some z=>
  obtain ⟨y,rfl,hy⟩:=h2
  obtain ⟨x,rfl,hx⟩:=h1
  exact ⟨x,rfl,by omega⟩
theorem qF {a b:Option Nat} (h1:ole a b) (h2:ole b a):a=b:=by
 cases a with
 | none=>
  cases b with
  | none=>rfl
  | some y=>
   obtain ⟨x,e,_⟩:=h1
   cases e
 | some x=>
  obtain ⟨y,rfl,hy⟩:=h2
  obtain ⟨x',e,hx⟩:=h1
  cases e
  congr 1
  omega
theorem ole_none {a:Option Nat}:ole a none:=trivial
theorem xx (a b:Option Nat):ole (lesser a b) a:=by
 cases a with
 | none=>trivial
 | some x=>
  cases b with
  | none=>exact ⟨x,rfl,Nat.le_refl _⟩
  | some y=>exact ⟨min x y,rfl,Nat.min_le_left _ _⟩
theorem xw (a b:Option Nat):ole (lesser a b) b:=by
 cases a with
 | none=>exact qr b
 | some x=>
  cases b with
  | none=>trivial
  | some y=>exact ⟨min x y,rfl,Nat.min_le_right _ _⟩
theorem kS (a b:Option Nat):lesser a b=a∨lesser a b=b:=by
 cases a with
 | none=>exact .inr rfl
 | some x=>
  cases b with
  | none=>exact .inl rfl
  | some y=>
   show some (min x y)=some x∨some (min x y)=some y
   by_cases h:x≤y
   ·left;congr 1;omega
   ·right;congr 1;omega
theorem JB (f:Recipe→Option Nat):∀ (l:List Recipe) (a:Option Nat),ole (l.foldl (fun a r=>lesser a (f r)) a) a∧∀ r∈l,ole (l.foldl (fun a r=>lesser a (f r)) a) (f r)
 | [],a=>⟨qr a,fun r h=>by cases h⟩
 | x :: l,a=>by
  obtain ⟨h1,h2⟩:=JB f l (lesser a (f x))
  refine ⟨jq h1 (xx _ _),fun r hr=>?_⟩
  rcases List.mem_cons.mp hr with rfl | hr
  ·exact jq h1 (xw _ _)
  ·exact h2 r hr
theorem Yr (f:Recipe→Option Nat):∀ (l:List Recipe) (a:Option Nat),l.foldl (fun a r=>lesser a (f r)) a=a∨∃ r∈l,l.foldl (fun a r=>lesser a (f r)) a=f r
 | [],a=>.inl rfl
 | x :: l,a=>by
  rcases Yr f l (lesser a (f x)) with h | ⟨r,hr,h⟩
  ·rcases kS a (f x) with e | e
   ·left
    show l.foldl _ (lesser a (f x))=a
    rw [h,e]
   ·right
    refine ⟨x,List.mem_cons_self,?_⟩
    show l.foldl _ (lesser a (f x))=f x
    rw [h,e]
  ·exact .inr ⟨r,List.mem_cons_of_mem _ hr,h⟩
def bySum (c:Costs):List (Nat × Nat)→Option Nat
 | []=>some 0
 | x :: r=>match costAt c x.1,bySum c r with
  | some k,some m=>some (x.2 * k+m)
  | _,_=>none
theorem Zz (c:Costs):∀ l:List (Nat × Nat),l.foldl (fun a x=>match a,costAt c x.1 with
 | some n,some k=>some (n+x.2 * k)
 | _,_=>none) none=none
 | []=>rfl
 | x :: l=>by
  rw [List.foldl_cons]
  exact Zz c l
theorem QP (c:Costs):∀ (l:List (Nat × Nat)) (a:Nat),l.foldl (fun a x=>match a,costAt c x.1 with
 | some n,some k=>some (n+x.2 * k)
 | _,_=>none) (some a)=(bySum c l).map (a + ·)
 | [],a=>rfl
 | x :: l,a=>by
  rw [List.foldl_cons]
  cases h:costAt c x.1 with
  | none=>
   simp only [h,bySum]
   exact Zz c l
  | some k=>
   simp only [h,bySum]
   rw [QP c l]
   cases bySum c l with
   | none=>rfl
   | some m=>
    show some (a+x.2 * k+m)=some (a+(x.2 * k+m))
    congr 1
    omega
theorem jj (c:Costs) (r:Recipe):byRecipe c r=(bySum c r.needs).map (r.cost + ·):=QP c r.needs r.cost
theorem xI {c c':Costs}:∀ (l:List (Nat × Nat)),(∀ x∈l,ole (costAt c x.1) (costAt c' x.1))→ole (bySum c l) (bySum c' l)
 | [],_=>qr _
 | x :: l,h=>by
  have h1:=h x List.mem_cons_self
  have ih:=xI l fun y hy=>h y (List.mem_cons_of_mem _ hy)
  unfold bySum
  cases e1:costAt c' x.1 with
  | none=>trivial
  | some k=>
   cases e2:bySum c' l with
   | none=>trivial
   | some m=>
    rw [e1] at h1
    rw [e2] at ih
    obtain ⟨k',e3,hk⟩:=h1
    obtain ⟨m',e4,hm⟩:=ih
    rw [e3,e4]
    exact ⟨_,rfl,by have:=Nat.mul_le_mul_left x.2 hk;omega⟩
theorem um {c c':Costs}:∀ (l:List (Nat × Nat)),(∀ x∈l,costAt c x.1=costAt c' x.1)→bySum c l=bySum c' l
 | [],_=>rfl
 | x :: l,h=>by
  unfold bySum
  rw [h x List.mem_cons_self,um l fun y hy=>h y (List.mem_cons_of_mem _ hy)]
theorem qj {c c':Costs} {r:Recipe} (h:∀ x∈r.needs,ole (costAt c x.1) (costAt c' x.1)):ole (byRecipe c r) (byRecipe c' r):=by
 rw [jj,jj]
 have h2:=xI r.needs h
 cases e:bySum c' r.needs with
 | none=>trivial
 | some m=>
  rw [e] at h2
  obtain ⟨m',e2,hm⟩:=h2
  rw [e2]
  exact ⟨r.cost+m',rfl,by show r.cost+m'≤r.cost+m;omega⟩
theorem xJ {c c':Costs} {r:Recipe} (h:∀ x∈r.needs,costAt c x.1=costAt c' x.1):byRecipe c r=byRecipe c' r:=by
 rw [jj,jj,um r.needs h]
theorem ZF {c:Costs}:∀ {l:List (Nat × Nat)} {v:Nat},bySum c l=some v→∀ x∈l,∃ k,costAt c x.1=some k∧x.2 * k≤v
 | y :: l,v,h,x,hx=>by
  unfold bySum at h
  cases e1:costAt c y.1 with
  | none=>rw [e1] at h;cases h
  | some k=>
   rw [e1] at h
   cases e2:bySum c l with
   | none=>rw [e2] at h;cases h
   | some m=>
    rw [e2] at h
    cases h
    rcases List.mem_cons.mp hx with rfl | hx
    ·exact ⟨k,e1,by omega⟩
    ·obtain ⟨k',h1,h2⟩:=ZF e2 x hx
     exact ⟨k',h1,by omega⟩
theorem ko {c:Costs} {r:Recipe} {v:Nat} (h:byRecipe c r=some v) (hc:1≤r.cost) (hn:∀ x∈r.needs,1≤x.2):r.cost≤v∧∀ x∈r.needs,∃ k,costAt c x.1=some k∧k<v:=by
 rw [jj] at h
 cases e:bySum c r.needs with
 | none=>rw [e] at h;cases h
 | some m=>
  rw [e] at h
  have h':r.cost+m=v:=Option.some.inj h
  subst h'
  refine ⟨by omega,fun x hx=>?_⟩
  obtain ⟨k,h1,h2⟩:=ZF e x hx
  refine ⟨k,h1,?_⟩
  have:=Nat.mul_le_mul_right k (hn x hx)
  omega
section
variable {gs:List Good} {rs:List Recipe}
theorem yi (c:Costs) {g:Nat} (hg:g<gs.length):costAt (round gs rs c) g=(rs.filter fun r=>r.makes == g).foldl (fun a r=>lesser a (byRecipe c r)) (bought (goodAt gs g)):=by
 unfold costAt round
 rw [List.getD_eq_getElem?_getD,List.getElem?_map,List.getElem?_range hg]
 rfl
theorem qd {c:Costs} {g:Nat} (h:c.length≤g):costAt c g=none:=by
 unfold costAt
 rw [List.getD_eq_getElem?_getD,List.getElem?_eq_none h]
 rfl
theorem Zq (c:Costs):(round gs rs c).length=gs.length:=by
 unfold round
 simp
theorem jV:∀ k,(rounds gs rs k).length=gs.length
 | 0=>by unfold rounds;simp
 | k+1=>Zq _
theorem ya (c:Costs) {g:Nat} (hg:g<gs.length):ole (costAt (round gs rs c) g) (bought (goodAt gs g)):=by
 rw [yi c hg]
 exact (JB _ _ _).1
theorem w9 (c:Costs) {r:Recipe} (hr:r∈rs) (hg:r.makes<gs.length):ole (costAt (round gs rs c) r.makes) (byRecipe c r):=by
 rw [yi c hg]
 exact (JB _ _ _).2 r (List.mem_filter.mpr ⟨hr,by simp⟩)
theorem v0 (c:Costs) {g:Nat} (hg:g<gs.length):costAt (round gs rs c) g=bought (goodAt gs g)∨∃ r∈rs,r.makes=g∧costAt (round gs rs c) g=byRecipe c r:=by
 rw [yi c hg]
 rcases Yr (byRecipe c) (rs.filter fun r=>r.makes == g) (bought (goodAt gs g)) with h | ⟨r,hr,h⟩
 ·exact .inl h
 ·obtain ⟨h1,h2⟩:=List.mem_filter.mp hr
  exact .inr ⟨r,h1,by simpa using h2,h⟩
theorem Wz {c c':Costs} (h:∀ g,ole (costAt c g) (costAt c' g)) (g:Nat):ole (costAt (round gs rs c) g) (costAt (round gs rs c') g):=by
 by_cases hg:g<gs.length
 ·rcases v0 (rs:=rs) c' hg with e | ⟨r,hr,rfl,e⟩
  ·rw [e]
   exact ya c hg
  ·rw [e]
   exact jq (w9 c hr hg) (qj fun x _=>h x.1)
 ·rw [qd (c:=round gs rs c') (by rw [Zq];omega)]
  trivial
theorem uc (g:Nat):costAt (rounds gs rs 0) g=none:=by
 unfold costAt rounds
 rw [List.getD_eq_getElem?_getD,List.getElem?_map]
 cases gs[g]? <;> rfl
theorem qp:∀ (k g:Nat),ole (costAt (rounds gs rs (k+1)) g) (costAt (rounds gs rs k) g)
 | 0,g=>by rw [uc];trivial
 | k+1,g=>Wz (qp k) g
theorem improved (R:RInv gs rs):∀ (k g:Nat),costAt (rounds gs rs (k+1)) g≠costAt (rounds gs rs k) g →
  ∃ (v:Nat) (l:List Nat),costAt (rounds gs rs (k+1)) g=some v∧l.length=k+1∧l.Nodup∧(∀ y∈l,y<gs.length)∧∀ y∈l,ole (costAt (rounds gs rs (k+1)) y) (some v)
 | k,g,hne=>by
  have hg:g<gs.length:=by
   by_cases h:g<gs.length
   ·exact h
   ·exact absurd (by rw [qd (by rw [jV];omega),qd (by rw [jV];omega)]) hne
  cases hv:costAt (rounds gs rs (k+1)) g with
  | none=>
   have:=qp (gs:=gs) (rs:=rs) k g
   rw [hv] at this hne
   exact absurd (qF this trivial) hne
  | some v=>
   match k with
   | 0=>exact ⟨v,[g],rfl,rfl,by simp,by simpa using hg,by intro y hy;simp at hy;subst hy;rw [hv];exact qr _⟩
   | k+1=>
    have hd:=qp (gs:=gs) (rs:=rs) (k+1) g
    rcases v0 (rs:=rs) (rounds gs rs (k+1)) hg with e | ⟨r,hr,hm,e⟩
    ·have h1:ole (costAt (rounds gs rs (k+1)) g) (bought (goodAt gs g)):=ya _ hg
     rw [← e] at h1
     exact absurd (qF hd h1) hne
    ·obtain ⟨r1,r2,r3,r4,r5,r6⟩:=R.ok r hr
     have ev:byRecipe (rounds gs rs (k+1)) r=some v:=e.symm.trans hv
     obtain ⟨hc,hmem⟩:=ko ev r2 fun x hx=>(r5 x hx).2.1
     have ⟨x,hx,hxn⟩:∃ x∈r.needs,costAt (rounds gs rs (k+1)) x.1≠costAt (rounds gs rs k) x.1:=by
      by_cases h:∃ x∈r.needs,costAt (rounds gs rs (k+1)) x.1≠costAt (rounds gs rs k) x.1
      ·exact h
      ·have h':∀ x∈r.needs,costAt (rounds gs rs (k+1)) x.1=costAt (rounds gs rs k) x.1:=fun x hx=>by
        by_cases q:costAt (rounds gs rs (k+1)) x.1=costAt (rounds gs rs k) x.1
        ·exact q
        ·exact absurd ⟨x,hx,q⟩ h
       have e2:=xJ h'
       have h1:ole (costAt (rounds gs rs (k+1)) g) (byRecipe (rounds gs rs k) r):=by
        rw [← hm]
        exact w9 _ hr (hm ▸ hg)
       rw [← e2,← e] at h1
       exact absurd (qF hd h1) hne
     obtain ⟨vx,l,h1,h2,h3,h4,h5⟩:=improved R k x.1 hxn
     obtain ⟨k',hk',hlt⟩:=hmem x hx
     rw [h1] at hk'
     cases hk'
     refine ⟨v,g :: l,rfl,by simp [h2],List.nodup_cons.mpr ⟨fun hm=>?_,h3⟩,?_,?_⟩
     ·have h6:=jq (qp (gs:=gs) (rs:=rs) (k+1) g) (h5 g hm)
      rw [hv] at h6
      obtain ⟨z,ez,hz⟩:=h6
      cases ez
      omega
     ·intro y hy
      rcases List.mem_cons.mp hy with rfl | hy
      ·exact hg
      ·exact h4 y hy
     ·intro y hy
      rcases List.mem_cons.mp hy with rfl | hy
      ·rw [hv]
       exact qr _
      ·exact jq (qp (k+1) y) (jq (h5 y hy) ⟨vx,rfl,by omega⟩)
theorem vZ (R:RInv gs rs) (g:Nat):costAt (rounds gs rs (gs.length+1)) g=costAt (rounds gs rs gs.length) g:=by
 by_cases h:costAt (rounds gs rs (gs.length+1)) g=costAt (rounds gs rs gs.length) g
 ·exact h
 ·obtain ⟨v,l,h1,h2,h3,h4,h5⟩:=improved R gs.length g h
  have:=xp _ l h3 h4
  omega
theorem ZE {c c':Costs} (hl:c.length=c'.length) (h:∀ g,costAt c g=costAt c' g):c=c':=by
 apply List.ext_getElem?
 intro i
 by_cases hi:i<c.length
 ·have:=h i
  unfold costAt at this
  rw [List.getD_eq_getElem?_getD,List.getD_eq_getElem?_getD,List.getElem?_eq_getElem hi,List.getElem?_eq_getElem (by omega)] at this
  rw [List.getElem?_eq_getElem hi,List.getElem?_eq_getElem (by omega)]
  exact congrArg some this
 ·rw [List.getElem?_eq_none (by omega),List.getElem?_eq_none (by omega)]
theorem ZD (R:RInv gs rs):round gs rs (costs gs rs)=costs gs rs:=by
 have e:rounds gs rs (gs.length+1)=rounds gs rs gs.length:=ZE (by rw [jV,jV]) (vZ R)
 show round gs rs (rounds gs rs (gs.length+1))=rounds gs rs (gs.length+1)
 conv=>lhs;rw [e]
 rfl
def relax (c:Costs) (r:Recipe):Costs:=match byRecipe c r with
 | none=>c
 | some v=>match costAt c r.makes with
  | none=>c.set r.makes (some v)
  | some y=>if v<y then c.set r.makes (some v) else c
def sweep (rs:List Recipe) (c:Costs):Costs:=rs.foldl relax c
def sweeps (rs:List Recipe):Nat→Costs→Costs
 | 0,c=>c
 | n+1,c=>sweep rs (sweeps rs n c)
theorem yX (c:Costs) (r:Recipe):(relax c r).length=c.length:=by
 unfold relax
 split
 ·rfl
 ·split
  ·simp
  ·split
   ·simp
   ·rfl
theorem xF {c:Costs} {j g:Nat} {v:Option Nat} (hj:j<c.length):costAt (c.set j v) g=if g=j then v else costAt c g:=by
 unfold costAt
 by_cases e:g=j
 ·subst e
  rw [if_pos rfl,List.getD_eq_getElem?_getD,List.getElem?_set_self hj]
  rfl
 ·rw [if_neg e,List.getD_eq_getElem?_getD,List.getD_eq_getElem?_getD,List.getElem?_set_ne (Ne.symm e)]
theorem ke {c:Costs} {r:Recipe} (hj:r.makes<c.length) (g:Nat):costAt (relax c r) g=if g=r.makes then lesser (costAt c g) (byRecipe c r) else costAt c g:=by
 unfold relax
 cases hv:byRecipe c r with
 | none=>
  show costAt c g=_
  split
  ·cases costAt c g <;> rfl
  ·rfl
 | some v=>
  cases hy:costAt c r.makes with
  | none=>
   show costAt (c.set r.makes (some v)) g=_
   rw [xF hj]
   split
   ·rename_i e
    subst e
    rw [hy]
    rfl
   ·rfl
  | some y=>
   show costAt (if v<y then c.set r.makes (some v) else c) g=_
   by_cases h:v<y
   ·rw [if_pos h,xF hj]
    split
    ·rename_i e
     subst e
     rw [hy]
     show some v=some (min y v)
     congr 1
     omega
    ·rfl
   ·rw [if_neg h]
    split
    ·rename_i e
     subst e
     rw [hy]
     show some y=some (min y v)
     congr 1
     omega
    ·rfl
theorem Qo {c:Costs} {r:Recipe} (hj:r.makes<c.length) (g:Nat):ole (costAt (relax c r) g) (costAt c g):=by
 rw [ke hj]
 split
 ·exact xx _ _
 ·exact qr _
theorem vn:∀ (rs:List Recipe) (c:Costs),(∀ r∈rs,r.makes<c.length)→(sweep rs c).length=c.length∧(∀ g,ole (costAt (sweep rs c) g) (costAt c g))∧∀ r∈rs,ole (costAt (sweep rs c) r.makes) (byRecipe c r)
 | [],c,_=>⟨rfl,fun g=>qr _,fun r h=>by cases h⟩
 | r :: rs,c,h=>by
  have hr:=h r List.mem_cons_self
  obtain ⟨h1,h2,h3⟩:=vn rs (relax c r) fun q hq=>by rw [yX];exact h q (List.mem_cons_of_mem _ hq)
  have e:sweep (r :: rs) c=sweep rs (relax c r):=rfl
  rw [e]
  refine ⟨by rw [h1,yX],fun g=>jq (h2 g) (Qo hr g),fun q hq=>?_⟩
  rcases List.mem_cons.mp hq with rfl | hq
  ·refine jq (h2 _) ?_
   rw [ke hr,if_pos rfl]
   exact xw _ _
  ·exact jq (h3 q hq) (qj fun x _=>Qo hr x.1)
theorem JP {d:Costs}:∀ (rs:List Recipe) (c:Costs),(∀ r∈rs,r.makes<c.length∧ole (costAt d r.makes) (byRecipe d r))→(∀ g,ole (costAt d g) (costAt c g))→∀ g,ole (costAt d g) (costAt (sweep rs c) g)
 | [],c,_,h=>h
 | r :: rs,c,hr,h=>by
  have h0:=hr r List.mem_cons_self
  refine JP rs (relax c r) (fun q hq=>by rw [yX];exact hr q (List.mem_cons_of_mem _ hq)) fun g=>?_
  rw [ke h0.1]
  split
  ·rename_i e
   subst e
   rcases kS (costAt c r.makes) (byRecipe c r) with q | q
   ·rw [q];exact h _
   ·rw [q];exact jq h0.2 (qj fun x _=>h x.1)
  ·exact h g
theorem vO (R:RInv gs rs):sweeps rs gs.length (gs.map bought)=costs gs rs:=by
 have hlen:∀ k,(sweeps rs k (gs.map bought)).length=gs.length:=by
  intro k
  induction k with
  | zero=>simp [sweeps]
  | succ k ih=>
   have:=(vn rs (sweeps rs k (gs.map bought)) fun r hr=>by rw [ih];exact (R.ok r hr).1).1
   show (sweep rs _).length=_
   rw [this,ih]
 have hb:∀ g,costAt (gs.map bought) g=if g<gs.length then bought (goodAt gs g) else none:=fun g=>by
  by_cases h:g<gs.length
  ·rw [if_pos h]
   unfold costAt
   rw [List.getD_eq_getElem?_getD,List.getElem?_map,List.getElem?_eq_getElem h,qX (List.getElem?_eq_getElem h)]
   rfl
  ·rw [if_neg h]
   exact qd (by simp;omega)
 have hup:∀ k,(∀ g,ole (costAt (sweeps rs k (gs.map bought)) g) (costAt (rounds gs rs k) g))∧∀ g,g<gs.length→ole (costAt (sweeps rs k (gs.map bought)) g) (bought (goodAt gs g)):=by
  intro k
  induction k with
  | zero=>
   refine ⟨fun g=>by rw [uc];trivial,fun g hg=>?_⟩
   show ole (costAt (gs.map bought) g) _
   rw [hb,if_pos hg]
   exact qr _
  | succ k ih=>
   obtain ⟨h1,h2,h3⟩:=vn rs (sweeps rs k (gs.map bought)) fun r hr=>by rw [hlen];exact (R.ok r hr).1
   have hbt:∀ g,g<gs.length→ole (costAt (sweeps rs (k+1) (gs.map bought)) g) (bought (goodAt gs g)):=fun g hg=>jq (h2 g) (ih.2 g hg)
   refine ⟨fun g=>?_,hbt⟩
   by_cases hg:g<gs.length
   ·rcases v0 (rs:=rs) (rounds gs rs k) hg with e | ⟨r,hr,hm,e⟩
    ·show ole _ (costAt (round gs rs (rounds gs rs k)) g)
     rw [e]
     exact hbt g hg
    ·show ole _ (costAt (round gs rs (rounds gs rs k)) g)
     rw [e,← hm]
     exact jq (h3 r hr) (qj fun x _=>ih.1 x.1)
   ·rw [qd (c:=rounds gs rs (k+1)) (by rw [jV];omega)]
    trivial
 have hfix:=ZD R
 have hdn:∀ k g,ole (costAt (costs gs rs) g) (costAt (sweeps rs k (gs.map bought)) g):=by
  intro k
  induction k with
  | zero=>
   intro g
   show ole _ (costAt (gs.map bought) g)
   rw [hb]
   by_cases hg:g<gs.length
   ·rw [if_pos hg,← hfix]
    exact ya _ hg
   ·rw [if_neg hg]
    trivial
  | succ k ih=>
   refine JP rs _ (fun r hr=>⟨by rw [hlen];exact (R.ok r hr).1,?_⟩) ih
   have:=w9 (gs:=gs) (costs gs rs) hr (R.ok r hr).1
   rw [hfix] at this
   exact this
 refine ZE (by rw [hlen];exact (jV _).symm) fun g=>qF ?_ (hdn _ g)
 have:=(hup gs.length).1 g
 rw [← vZ R] at this
 exact this
end
def enc:Option Nat→Int
 | some n=>(n:Int)
 | none=>0
def encL (c:Costs):List Int:=c.map enc
def Pos (c:Costs):Prop:=∀ g n,costAt c g=some n→1≤n
theorem jP (c:Costs) (g:Nat):(encL c).getD g 0=enc (costAt c g):=by
 unfold encL costAt
 rw [List.getD_eq_getElem?_getD,List.getD_eq_getElem?_getD,List.getElem?_map]
 cases c[g]? <;> rfl
theorem encL_get (c:Costs) {g:Nat} (h:g<c.length):(encL c)[g]? = some (enc (costAt c g)):=by
 rw [← jP,List.getD_eq_getElem?_getD,List.getElem?_eq_getElem (by unfold encL;simp;exact h)]
 rfl
theorem QS {c:Costs} (hp:Pos c) (g:Nat):enc (costAt c g)=0↔costAt c g=none:=by
 cases h:costAt c g with
 | none=>exact ⟨fun _=>rfl,fun _=>rfl⟩
 | some n=>
  have:=hp g n h
  constructor
  ·intro q
   have:(n:Int)=0:=q
   omega
  ·intro q
   cases q
def costI (r:Recipe) (ps:List Int):Int:=(r.cost:Int)+(r.needs.map fun x=>(x.2:Int) * ps.getD x.1 0).sum
def cbrI (r:Recipe) (ps:List Int):Int:=if (r.needs.any fun x=>decide (ps.getD x.1 0=0))=true then 0 else costI r ps
def relaxI (ps:List Int) (r:Recipe):List Int:=if 0<cbrI r ps∧(ps.getD r.makes 0=0∨cbrI r ps<ps.getD r.makes 0) then ps.set r.makes (cbrI r ps) else ps
theorem ZV {c:Costs} (hp:Pos c):∀ l:List (Nat × Nat),(bySum c l=none↔(l.any fun x=>decide ((encL c).getD x.1 0=0))=true)∧∀ v,bySum c l=some v→(l.map fun x=>(x.2:Int) * (encL c).getD x.1 0).sum=(v:Int)
 | []=>⟨⟨fun h=>(by cases h),fun h=>(by cases h)⟩,fun v h=>(by cases h;rfl)⟩
 | x :: l=>by
  obtain ⟨h1,h2⟩:=ZV hp l
  rw [List.any_cons,jP,List.map_cons,List.sum_cons,jP]
  unfold bySum
  cases e:costAt c x.1 with
  | none=>
   refine ⟨⟨fun _=>by simp [enc],fun _=>rfl⟩,fun v h=>by cases h⟩
  | some k=>
   have hk:=hp _ _ e
   have e0:decide (enc (some k)=0)=false:=decide_eq_false (by show ¬ (k:Int)=0;omega)
   rw [e0,Bool.false_or]
   cases e2:bySum c l with
   | none=>exact ⟨⟨fun _=>h1.mp e2,fun _=>rfl⟩,fun v h=>by cases h⟩
   | some m=>
    refine ⟨⟨fun h=>(by cases h),fun h=>?_⟩,fun v h=>?_⟩
    ·rw [h1.mpr h] at e2
     cases e2
    ·cases h
     rw [h2 m e2]
     show (x.2:Int) * (k:Int)+(m:Int)=((x.2 * k+m:Nat):Int)
     rw [Int.natCast_add,Int.natCast_mul]
theorem JI {c:Costs} (hp:Pos c) (r:Recipe):cbrI r (encL c)=enc (byRecipe c r):=by
 obtain ⟨h1,h2⟩:=ZV hp r.needs
 unfold cbrI costI
 rw [jj]
 cases e:bySum c r.needs with
 | none=>
  rw [if_pos (h1.mp e)]
  rfl
 | some m=>
  rw [if_neg (fun q=>by rw [h1.mpr q] at e;cases e),h2 m e]
  show (r.cost:Int)+(m:Int)=((r.cost+m:Nat):Int)
  omega
theorem costI_enc {c:Costs} (hp:Pos c) {r:Recipe} {v:Nat} (h:byRecipe c r=some v):costI r (encL c)=(v:Int):=by
 have h1:=JI hp r
 rw [h] at h1
 unfold cbrI at h1
 obtain ⟨h3,h2⟩:=ZV hp r.needs
 rw [if_neg (fun q=>?_)] at h1
 ·exact h1
 ·rw [jj,h3.mpr q] at h
  cases h
theorem YT {c:Costs} (hp:Pos c) {r:Recipe} (hc:1≤r.cost) (hm:r.makes<c.length):Pos (relax c r):=by
 intro g n h
 rw [ke hm] at h
 split at h
 ·rcases kS (costAt c g) (byRecipe c r) with e | e
  ·rw [e] at h
   exact hp g n h
  ·rw [e,jj] at h
   cases e2:bySum c r.needs with
   | none=>rw [e2] at h;cases h
   | some m=>
    rw [e2] at h
    have:r.cost+m=n:=Option.some.inj h
    omega
 ·exact hp g n h
theorem QT (c:Costs) (j:Nat) (v:Option Nat):encL (c.set j v)=(encL c).set j (enc v):=by
 unfold encL
 rw [List.map_set]
theorem YU {c:Costs} (hp:Pos c) {r:Recipe} (hc:1≤r.cost):relaxI (encL c) r=encL (relax c r):=by
 unfold relaxI relax
 rw [JI hp,jP]
 cases hv:byRecipe c r with
 | none=>
  rw [if_neg (by show ¬ ((0:Int)<0∧_);omega)]
 | some v=>
  have hv1:1≤v:=by
   rw [jj] at hv
   cases e2:bySum c r.needs with
   | none=>rw [e2] at hv;cases hv
   | some m=>
    rw [e2] at hv
    have:r.cost+m=v:=Option.some.inj hv
    omega
  cases hy:costAt c r.makes with
  | none=>
   rw [if_pos ⟨by show (0:Int)<(v:Int);omega,.inl rfl⟩]
   show _=encL (c.set r.makes (some v))
   rw [QT]
  | some y=>
   have hy1:=hp _ _ hy
   show _=encL (if v<y then c.set r.makes (some v) else c)
   by_cases h:v<y
   ·rw [if_pos h,if_pos ⟨by show (0:Int)<(v:Int);omega,.inr (by show (v:Int)<(y:Int);omega)⟩,QT]
   ·rw [if_neg h,if_neg]
    rintro ⟨_,q | q⟩
    ·have:(y:Int)=0:=q
     omega
    ·have:(v:Int)<(y:Int):=q
     omega
theorem W4 (gs:List Good):Pos (gs.map bought):=by
 intro g n h
 unfold costAt at h
 rw [List.getD_eq_getElem?_getD,List.getElem?_map] at h
 cases e:gs[g]? with
 | none=>rw [e] at h;cases h
 | some x=>
  rw [e] at h
  have h':bought x=some n:=h
  unfold bought at h'
  split at h'
  ·cases h'
  ·cases h'
   omega
theorem WY (x:Good):enc (bought x)=(x.price:Int):=by
 unfold bought
 split
 ·rename_i h
  rw [h]
  rfl
 ·rfl
theorem QU (gs:List Good):encL (gs.map bought)=gs.map fun x=>(x.price:Int):=by
 unfold encL
 rw [List.map_map]
 exact List.map_congr_left fun x _=>WY x
theorem qA {gs:List Good} {rs:List Recipe} (R:RInv gs rs):∀ (l:List Recipe) (c:Costs),(∀ r∈l,r∈rs)→c.length=gs.length→Pos c→Pos (l.foldl relax c)∧(l.foldl relax c).length=gs.length
 | [],c,_,hl,hp=>⟨hp,hl⟩
 | r :: l,c,hm,hl,hp=>by
  have hr:=R.ok r (hm r List.mem_cons_self)
  exact qA R l (relax c r) (fun q hq=>hm q (List.mem_cons_of_mem _ hq)) (by rw [yX];exact hl) (YT hp hr.2.1 (by omega))
theorem vm {gs:List Good} {rs:List Recipe} (R:RInv gs rs):∀ k,Pos (sweeps rs k (gs.map bought))∧(sweeps rs k (gs.map bought)).length=gs.length
 | 0=>⟨W4 gs,by simp [sweeps]⟩
 | k+1=>by
  obtain ⟨h1,h2⟩:=vm R k
  exact qA R rs _ (fun r h=>h) h2 h1
theorem wQ {gs:List Good} {rs:List Recipe} (R:RInv gs rs):Pos (costs gs rs):=by
 rw [← vO R]
 exact (vm R _).1
theorem jl (gs:List Good) (rs:List Recipe):(costs gs rs).length=gs.length:=jV _
def fairI (gs:List Good) (rs:List Recipe) (ps:List Int):Bool:=((gs.zip ps).all fun x=>!(decide (0<x.1.price)&&decide ((x.1.price:Int)<x.2)))&&rs.all fun r=>decide (ps.getD r.makes 0≤costI r ps)
theorem wT {ps:List Int} (h:∀ z∈ps,0≤z) (g:Nat):(((ps.map Int.toNat).getD g 0:Nat):Int)=ps.getD g 0:=by
 rw [List.getD_eq_getElem?_getD,List.getD_eq_getElem?_getD,List.getElem?_map]
 cases e:ps[g]? with
 | none=>rfl
 | some z=>
  have:=h z (List.mem_of_getElem? e)
  show ((z.toNat:Nat):Int)=z
  omega
theorem Zj {ps:List Int} (h:∀ z∈ps,0≤z):∀ l:List (Nat × Nat),(((l.map fun x=>x.2 * (ps.map Int.toNat).getD x.1 0).sum:Nat):Int)=(l.map fun x=>(x.2:Int) * ps.getD x.1 0).sum
 | []=>rfl
 | x :: l=>by
  rw [List.map_cons,List.sum_cons,List.map_cons,List.sum_cons,← Zj h l,Int.natCast_add,Int.natCast_mul,wT h]
theorem Ys {gs:List Good} {rs:List Recipe} {ps:List Int} (h:∀ z∈ps,0≤z) (hl:ps.length=gs.length):fair gs rs (ps.map Int.toNat)=fairI gs rs ps:=by
 unfold fair fairI
 have e1:((ps.map Int.toNat).length == gs.length)=true:=by simp [hl]
 rw [e1,Bool.true_and]
 congr 1
 ·rw [Bool.eq_iff_iff,List.all_eq_true,List.all_eq_true]
  constructor
  ·rintro q ⟨x,z⟩ hx
   obtain ⟨i,hi,e⟩:=List.getElem_of_mem hx
   have hi2:i<gs.length:=by simp at hi;omega
   have e2:(gs.zip ps)[i]? = some (x,z):=by rw [List.getElem?_eq_getElem hi,e]
   obtain ⟨h1,h2⟩:=List.getElem?_zip_eq_some.mp e2
   have:=q i (List.mem_range.mpr hi2)
   dsimp only at this
   rw [qX h1] at this
   have h3:=wT h i
   rw [List.getD_eq_getElem?_getD (l:=ps),h2] at h3
   have h4:(((ps.map Int.toNat).getD i 0:Nat):Int)=z:=h3
   simp only [Bool.or_eq_true,beq_iff_eq,decide_eq_true_eq] at this
   simp only [Bool.not_eq_true',Bool.and_eq_false_iff,decide_eq_false_iff_not]
   omega
  ·intro q i hi
   have hi2:i<gs.length:=List.mem_range.mp hi
   have h1:gs[i]? = some gs[i]:=List.getElem?_eq_getElem hi2
   have h2:ps[i]? = some (ps[i]'(by omega)):=List.getElem?_eq_getElem (by omega)
   have:=q (gs[i],ps[i]'(by omega)) (List.mem_of_getElem? (List.getElem?_zip_eq_some.mpr ⟨h1,h2⟩))
   dsimp only
   rw [qX h1]
   have h3:=wT h i
   rw [List.getD_eq_getElem?_getD (l:=ps),h2] at h3
   have h4:(((ps.map Int.toNat).getD i 0:Nat):Int)=ps[i]'(by omega):=h3
   simp only [Bool.not_eq_true',Bool.and_eq_false_iff,decide_eq_false_iff_not] at this
   simp only [Bool.or_eq_true,beq_iff_eq,decide_eq_true_eq]
   omega
 ·congr 1
  funext r
  refine decide_eq_decide.mpr ?_
  have h1:=wT h r.makes
  have h2:=Zj h r.needs
  unfold costI
  omega
end BM
end
section
namespace BM
open PySem PySem.Spec L2
open PyProof.Rows hiding St
open Vbwsao (Good Recipe Bag Machine State)
theorem yf {K:PySem.W.Frag} {H:Hp} {q:Addr} {ps:List Int} {j:Nat} {Q:VK} (h:H q=some (.lst (ps.map V.int))) (hj:j<ps.length) (k:Q (.int (ps.getD j 0)) H):rIxL K (.ref q) (.int (j:Int)) H Q:=by
 refine kU h (List.getElem?_eq_getElem hj) ?_
 rw [jO (List.getElem?_eq_getElem hj)] at k
 exact k
theorem uA {K:PySem.W.Frag} {g:TG} {te:TE} {vs:List Nat} {σ:St} {H:Hp} {l:Addr} {xs:List (Nat × Nat)} {Q:Addr→Hp→Prop} (f:Nat × Nat→V) (hl:PrsAt H l xs) (hz:xs.length<sizeLine)
  (hs:∀ x a H1 (N1:VK),x∈xs→Same H H1→PrAt H1 a x→(∀ H2,Same H1 H2→N1 (f x) H2)→g (.ref a) (wipe σ vs) H1 fun σ2 H2=>wipe σ2 vs=wipe σ vs∧te σ2 H2 N1)
  (mono2:∀ v σ H (Q Q':St→Hp→Prop),(∀ σ' H',Q σ' H'→Q' σ' H')→g v σ H Q→g v σ H Q')
  (q:∀ D H',Same H H'→H D=none→H' D=some (.lst (xs.map f))→Q D H') :
  (∃ xs,SqL K H l xs)∧∀ D,H D=none→∃ W:Nat→Nat→Hp→Prop,(∃ m,W 0 m (L2.upd H D (.lst [])))∧∀ i m H,W i m H →
   ((Itl K l).stop i H∧Q D H)∨((Itl K l).go i H∧∃ Nx:Hp→Prop,(∀ H',Nx H'→∃ m',m' < m∧W (i+1) m' H')∧∀ x H',(Itl K l).yld i H x H'→g x (wipe σ vs) H' fun σ2 H2=>wipe σ2 vs=wipe σ vs∧tYes σ2 H2 fun b H3=>
    if b=true then te σ2 H3 fun y H4=>∃ acc,H4 D=some (.lst acc)∧acc.length<sizeLine∧Nx (L2.upd H4 D (.lst (acc++[y]))) else Nx H3):=by
 obtain ⟨as,h1,h2,h3⟩:=hl
 refine ⟨⟨_,SqL.of h1⟩,wx (xs:=xs) (fun H x v=>∃ a,v = .ref a∧PrAt H a x) f (SqL.of h1) (by rw [List.length_map];exact h2) hz (fun i v x hv hx=>?_) (fun H1 x v s1 ⟨a,e,h⟩=>⟨a,e,s1 _ _ h⟩) ?_ mono2 q⟩
 ·rw [List.getElem?_map] at hv
  obtain ⟨a,ha,rfl⟩:=Option.map_eq_some_iff.mp hv
  exact ⟨a,rfl,h3 i a x ha hx⟩
 ·rintro x v H1 N1 hx s1 ⟨a,rfl,h⟩ k1
  exact hs x a H1 N1 hx s1 h k1
section
variable {P:Program} {w:World} {K:PySem.W.Frag} {mg:Str→Option Value} {base:Heap}
theorem wV:FnScope ["recipe","prices","good","many"] ["recipe","prices"] (defScope kM):=⟨rfl,rfl,rfl,by decide +kernel,rfl,by decide +kernel,by decide +kernel⟩
def Wo (T:Prog K mg):Sp:=fun vs H Q _=>∃ (a q:Addr) (L:List Addr) (r:Recipe) (ps:List Int),vs=[.ref a,.ref q]∧RecAt T L H a r∧H q=some (.lst (ps.map V.int))∧r.needs.length≤1000∧(∀ x∈r.needs,x.1<ps.length∧x.2≤9)∧∀ H',Same H H'→Q (.int (costI r ps)) H'
theorem xo (T:Prog K mg):FnOk P w K mg base CX0 1 T.cost_at.f T.cost_at.fd ["recipe","prices"] (Wo T):=by
 refine T.cost_at.fn.ok wV (fun vs H Q E h=>?_) (fun cdv A outer s H vs Q E hr h=>?_)
 ·obtain ⟨a,q,L,r,ps,rfl,_⟩:=h
  rfl
 ·obtain ⟨a,q,L,r,ps,rfl,⟨dx,nl,e1,n1,p1⟩,hq,hz,hb,k⟩:=h
  refine ⟨_,(ze (zm (zI jf (zd (K:=K) rfl (pv 0) rfl) (zr (km (K:=K) rfl rfl) (by rfl) T.b_sum xK (zc (qT rfl wV.nd (zL (K:=K) rfl (zd (K:=K) rfl (pv 0) rfl)) (own:=[("good",2),("many",3)]) (zW (by kernel_rfl)) (fun _ _ _ _ _=>(js (K:=K) (n:=2) rfl rfl (zF (zw (i:=2) wV.nd rfl (by first | exact Or.inl rfl | exact Or.inr rfl)) (zF (zw (i:=3) wV.nd rfl (by first | exact Or.inl rfl | exact Or.inr rfl)) jr)))) (fun _ _ _ _ _=>jC) (fun _ _ _ _ _=>(zI yd (pv 3) (zv (zk (K:=K) rfl) (pv 1) (pv 2) (fun _ _=>rfl))))) zb))))),?_⟩
  refine ⟨_,rfl,W8 T e1 ⟨_,rfl,wE T e1 ⟨nl,rfl,uA (fun x=>V.int ((x.2:Int) * ps.getD x.1 0)) p1 (small hz) ?_ y3 ?_⟩⟩⟩
  ·rintro x aa H1 N1 hx s1 h k1
   have hbx:=hb x hx
   exact jY h ⟨rfl,_,rfl,_,rfl,_,rfl,yf (s1 _ _ hq) hbx.1 ⟨_,_,rfl,rfl,.inl ⟨by omega,by omega⟩,k1 H1 (Same.refl _)⟩⟩
  ·intro D H' s1 hD hD'
   refine ⟨D,r.needs.map fun x=>(x.2:Int) * ps.getD x.1 0,rfl,SqL.of (by rw [hD',List.map_map];rfl),?_⟩
   exact ⟨_,_,rfl,rfl,k H' s1⟩
theorem jE:FnScope ["recipe","costs","good","many"] ["recipe","costs"] (defScope j9):=⟨rfl,rfl,rfl,by decide +kernel,rfl,by decide +kernel,by decide +kernel⟩
def vS (T:Prog K mg):Sp:=fun vs H Q _=>∃ (a q:Addr) (L:List Addr) (r:Recipe) (ps:List Int),vs=[.ref a,.ref q]∧RecAt T L H a r∧H q=some (.lst (ps.map V.int))∧r.needs.length≤1000∧(∀ x∈r.needs,x.1<ps.length∧x.2≤9)∧∀ H',Same H H'→Q (.int (cbrI r ps)) H'
theorem wb (T:Prog K mg):FnOk P w K mg base CX0 2 T.cost_by_recipe.f T.cost_by_recipe.fd ["recipe","costs"] (vS T):=by
 refine T.cost_by_recipe.fn.ok jE (fun vs H Q E h=>?_) (fun cdv A outer s H vs Q E hr h=>?_)
 ·obtain ⟨a,q,L,r,ps,rfl,_⟩:=h
  rfl
 ·obtain ⟨a,q,L,r,ps,rfl,hra,hq,hz,hb,k⟩:=h
  obtain ⟨dx,nl,e1,n1,p1⟩:=id hra
  refine ⟨_,(za (zB (zN (zr (Yy (K:=K) rfl rfl) (by rfl) T.b_any bt_any (zc (qT rfl jE.nd (zL (K:=K) rfl (zd (K:=K) rfl (pv 0) rfl)) (own:=[("good",2),("many",3)]) (zW (by kernel_rfl)) (fun _ _ _ _ _=>(js (K:=K) (n:=2) rfl rfl (zF (zw (i:=2) jE.nd rfl (by first | exact Or.inl rfl | exact Or.inr rfl)) (zF (zw (i:=3) jE.nd rfl (by first | exact Or.inl rfl | exact Or.inr rfl)) jr)))) (fun _ _ _ _ _=>jC) (fun _ _ _ _ _=>(wa z8 (zv (zk (K:=K) rfl) (pv 1) (pv 2) (fun _ _=>rfl)) zj (nomark _)))) zb))) (ze (zm zj)) zp)
   (ze (zm (zi (xo T) (hr.mono (by decide)) rfl T.cost_at.at_ T.cost_at.fn.kp T.cost_at.b .nil pass0 (zc (pv 0) (zc (pv 1) zb)))))),?_⟩
  refine ⟨_,rfl,wE T e1 ⟨nl,rfl,uA (fun x=>V.bl (decide (ps.getD x.1 0=0))) p1 (small hz) ?_ y3 ?_⟩⟩
  ·rintro x aa H1 N1 hx s1 h k1
   have hbx:=hb x hx
   have k3:=k1 H1 (Same.refl _)
   refine jY h ⟨rfl,_,rfl,_,rfl,yf (s1 _ _ hq) hbx.1 ⟨rfl,?_⟩⟩
   have e:decide (V.int (ps.getD x.1 0)=V.int 0)=decide (ps.getD x.1 0=0):=decide_eq_decide.mpr ⟨fun z=>by injection z,fun z=>by rw [z]⟩
   rw [e]
   exact k3
  ·intro D H' s1 hD hD'
   refine ⟨D,r.needs.map fun x=>decide (ps.getD x.1 0=0),rfl,SqL.of (by rw [hD',List.map_map];rfl),_,rfl,?_⟩
   have ea:(r.needs.map fun x=>decide (ps.getD x.1 0=0)).any id=r.needs.any fun x=>decide (ps.getD x.1 0=0):=by rw [List.any_map];rfl
   refine zx ea (fun e=>?_) (fun e=>?_)
   ·have k1:=k H' s1
    unfold cbrI at k1
    rw [if_pos e] at k1
    exact k1
   ·refine ⟨_,rfl,_,rfl,a,q,L,r,ps,rfl,hra.frm (κ:=[]) (L:=[]) (zy s1) (by simp) (by simp),s1 _ _ hq,hz,hb,fun H2 s2=>?_⟩
    have k1:=k H2 (s1.trans s2)
    unfold cbrI at k1
    rw [if_neg (by rw [e];exact Bool.false_ne_true)] at k1
    exact k1
theorem jn:FnScope ["goods","recipes","costs","turn","recipe","made","before","good"] ["goods","recipes"] (defScope wo):=⟨rfl,rfl,rfl,by decide +kernel,rfl,by decide +kernel,by decide +kernel⟩
def uV (T:Prog K mg):Sp:=fun vs H Q _=>∃ (gl rl:Addr) (ga ra:List Addr) (L:List Addr) (gs:List Good) (rs:List Recipe),vs=[.ref gl,.ref rl]∧LsAt H gl ga gs (GoodAt T H)∧LsAt H rl ra rs (RecAt T L H)∧GInv gs∧RInv gs rs ∧
 ∀ p H',Same H H'→H p=none→H' p=some (.lst ((encL (Vbwsao.costs gs rs)).map V.int))→Q (.ref p) H'
theorem qV (T:Prog K mg):FnOk P w K mg base CX0 3 T.least_costs.f T.least_costs.fd ["goods","recipes"] (uV T):=by
 refine T.least_costs.fn.ok jn (fun vs H Q E h=>?_) (fun cdv A outer s H vs Q E hr h=>?_)
 ·obtain ⟨gl,rl,ga,ra,L,gs,rs,rfl,_⟩:=h
  rfl
 ·obtain ⟨gl,rl,ga,ra,L,gs,rs,rfl,hgs,hrs,G,R,k⟩:=h
  have mG:∀ {H1:Hp},Same H H1→LsAt H1 gl ga gs (GoodAt T H1):=fun s1=>hgs.imp (s1 _ _ hgs.1) fun a x h=>h.frm (κ:=[]) (L:=[]) (zy s1) (by simp)
  have mR:∀ {H1:Hp},Same H H1→LsAt H1 rl ra rs (RecAt T L H1):=fun s1=>hrs.imp (s1 _ _ hrs.1) fun a x h=>h.frm (κ:=[]) (L:=[]) (zy s1) (by simp) (by simp)
  refine ⟨_,(za (wI (i:=2) rfl jn.nd rfl rfl (yT rfl rfl rfl rfl) (zL (K:=K) rfl (pv 0)) (own:=[("good",7)]) (zW (by kernel_rfl)) (fun _ _ _ _ _=>(zw (i:=7) jn.nd rfl (by first | exact Or.inl rfl | exact Or.inr rfl))) (fun _ _ _ _ _=>jC) (fun _ _ _ _ _=>(zd (K:=K) rfl (pv 7) rfl)))
   (za (jH PassesOwn.never rfl (kP rfl T.b_range (zc (zr (zo (K:=K) rfl) (by rfl) T.b_len zQ (zc (pv 0) zb)) zb)) (zw (i:=3) jn.nd rfl (by first | exact Or.inl rfl | exact Or.inr rfl)) (ze (jH PassesOwn.never rfl (zL (K:=K) rfl (pv 1)) (zw (i:=4) jn.nd rfl (by first | exact Or.inl rfl | exact Or.inr rfl)) (za (zt (i:=5) jn.nd rfl (by first | exact Or.inl rfl | exact Or.inr rfl) (zi (wb T) (hr.mono (by decide)) rfl T.cost_by_recipe.at_ T.cost_by_recipe.fn.kp T.cost_by_recipe.b .nil pass0 (zc (pv 4) (zc (pv 2) zb))))
   (za (zt (i:=6) jn.nd rfl (by first | exact Or.inl rfl | exact Or.inr rfl) (zv (zk (K:=K) rfl) (pv 2) (zd (K:=K) rfl (pv 4) rfl) (fun _ _=>rfl)))
   (ze (zB (PW.pt (WA (zq qC (pv 5) zj (nomark _)) (Jn (PW.pt (q5 (zq z8 (pv 6) zj (nomark _)) (qS (zq Zv (pv 5) (pv 6) (nomark _)))))))) (ze (ps_asg (pv 5) (pg_sub (pv 2) (zd (K:=K) rfl (pv 4) rfl) Qg))) zp)))))))
   (ze (zm (pv 2))))),?_⟩
  refine ⟨_,rfl,gl,rfl,⟨_,SqL.of hgs.1⟩,wx (xs:=gs) (fun H x v=>∃ a,v = .ref a∧GoodAt T H a x) (fun x=>V.int (x.price:Int)) (SqL.of hgs.1) (by rw [List.length_map,hgs.2.1]) (small (m:=1000) (by have:=G.len;omega)) (fun i v x hv hx=>?_) (fun H1 x v s1 ⟨a,e,h⟩=>⟨a,e,h.frm (κ:=[]) (L:=[]) (zy s1) (by simp)⟩) ?_ jN ?_⟩
  ·rw [List.getElem?_map] at hv
   obtain ⟨a,ha,rfl⟩:=Option.map_eq_some_iff.mp hv
   exact ⟨a,rfl,hgs.2.2 i a x ha hx⟩
  ·rintro x v H1 N1 hx s1 ⟨a,rfl,dx,e1⟩ k1
   exact ⟨rfl,_,rfl,yI T e1 (k1 H1 (Same.refl _))⟩
  ·intro D H1 s1 hD hD1
   have hD1':H1 D=some (.lst ((encL (gs.map Vbwsao.bought)).map V.int)):=by
    rw [hD1,QU,List.map_map]
    rfl
   refine ⟨_,rfl,gl,_,rfl,.inl (SqL.of (s1 _ _ hgs.1)),_,rfl,by omega,by have:=G.len;rw [List.length_map,hgs.2.1];omega,?_⟩
   refine Zy (lo:=0) (n:=((ga.map V.ref).length:Int).toNat) (fun i σ H'=>Same H H'∧H' D=some (.lst ((encL (sweeps rs i (gs.map Vbwsao.bought))).map V.int))∧∃ v3 v4 v5 v6 v7,σ=[some (.ref gl),some (.ref rl),some (.ref D),v3,v4,v5,v6,v7]) ⟨s1,hD1',_,_,_,_,_,rfl⟩ ?_ ?_
   ·rintro i σ H2 hi ⟨s2,h2,v3,v4,v5,v6,v7,rfl⟩
    obtain ⟨hp0,hl0⟩:=vm R i
    refine ⟨_,rfl,rl,rfl,⟨_,SqL.of (mR s2).1⟩,?_⟩
    refine wO (K:=K) (a:=rl) (xs:=ra.map V.ref) (fun j σ H'=>Same H H'∧H' D=some (.lst ((encL ((rs.take j).foldl relax (sweeps rs i (gs.map Vbwsao.bought)))).map V.int))∧∃ v4 v5 v6 v7,σ=[some (.ref gl),some (.ref rl),some (.ref D),some (.int (0+(i:Int))),v4,v5,v6,v7]) ⟨s2,h2,_,_,_,_,rfl⟩ (fun j σ H' _ h=>SqL.of (mR h.1).1) ?_ ?_
    ·rintro j v σ H3 hv ⟨s3,h3,v4,v5,v6,v7,rfl⟩
     rw [List.getElem?_map] at hv
     obtain ⟨a,ha,rfl⟩:=Option.map_eq_some_iff.mp hv
     obtain ⟨r,hr⟩:=jo hrs.2.1 ha
     have hra:=(mR s3).2.2 j a r ha hr
     have Rr:=R.ok r (List.mem_of_getElem? hr)
     obtain ⟨hp3,hl3⟩:=qA R (rs.take j) _ (fun q hq=>List.mem_of_mem_take hq) hl0 hp0
     have e0:=zZ hr
     generalize hc:(rs.take j).foldl relax (sweeps rs i (gs.map Vbwsao.bought))=c at h3 hp3 hl3
     have e1:(rs.take (j+1)).foldl relax (sweeps rs i (gs.map Vbwsao.bought))=relax c r:=by
      rw [e0,List.foldl_append,hc]
      rfl
     have hlc:(encL c).length=gs.length:=by unfold encL;simp [hl3]
     refine ⟨_,rfl,_,rfl,a,D,L,r,encL c,rfl,hra,h3,by omega,fun x hx=>⟨by rw [hlc];exact (Rr.2.2.2.2.1 x hx).1,(Rr.2.2.2.2.1 x hx).2.2⟩,fun H4 s4=>?_⟩
     have s4':=s3.trans s4
     have h4:=s4 _ _ h3
     obtain ⟨dx,nl,er,_,_⟩:=hra
     have er4:=s4 _ _ er
     refine ⟨_,rfl,_,rfl,qQ T er4 (yf h4 (by rw [hlc];exact Rr.1) ?_)⟩
     have hrel:=YU hp3 (r:=r) Rr.2.1
     have fin:∀ (H5:Hp) (v4 v5 v6 v7:Option V),Same H H5→H5 D=some (.lst ((relaxI (encL c) r).map V.int))→Same H H5∧H5 D=some (.lst ((encL ((rs.take (j+1)).foldl relax (sweeps rs i (gs.map Vbwsao.bought)))).map V.int))∧∃ v4' v5' v6' v7',([some (.ref gl),some (.ref rl),some (.ref D),some (.int (0+(i:Int))),v4,v5,v6,v7]:L2.St)=[some (.ref gl),some (.ref rl),some (.ref D),some (.int (0+(i:Int))),v4',v5',v6',v7']:=fun H5 v4 v5 v6 v7 s5 h5=>by
      rw [hrel,← e1] at h5
      exact ⟨s5,h5,_,_,_,_,rfl⟩
     refine ⟨_,rfl,_,_,rfl,rfl,_,rfl,zx (p:=decide (0<cbrI r (encL c))) rfl (fun e2=>?_) (fun e2=>?_)⟩
     ·have e2':=of_decide_eq_true e2
      have dz:decide (V.int ((encL c).getD r.makes 0)=V.int 0)=decide ((encL c).getD r.makes 0=0):=decide_eq_decide.mpr ⟨fun z=>by injection z,fun z=>by rw [z]⟩
      have store:0<cbrI r (encL c)∧((encL c).getD r.makes 0=0∨cbrI r (encL c)<(encL c).getD r.makes 0)→Same H (L2.upd H4 D (.lst (((encL c).map V.int).set r.makes (V.int (cbrI r (encL c))))))∧(L2.upd H4 D (.lst (((encL c).map V.int).set r.makes (V.int (cbrI r (encL c)))))) D=some (.lst ((relaxI (encL c) r).map V.int)):=fun hc=>by
       refine ⟨jL s4' hD,?_⟩
       rw [zf]
       unfold relaxI
       rw [if_pos hc,List.map_set]
      have hix:ixN ((encL c).map V.int).length (r.makes:Int)=some r.makes:=by
       unfold ixN
       rw [if_pos (by omega),if_pos (by rw [List.length_map,hlc];have:=Rr.1;omega),Int.toNat_natCast]
      refine ⟨_,rfl,rfl,_,rfl,zx (p:=decide ((encL c).getD r.makes 0=0)) dz (fun e3=>?_) (fun e3=>?_)⟩
      ·obtain ⟨q1,q2⟩:=store ⟨e2',.inl (of_decide_eq_true e3)⟩
       exact iteT ⟨_,rfl,_,rfl,_,rfl,qQ T er4 ⟨D,_,_,_,rfl,rfl,h4,hix,fin _ _ _ _ _ q1 q2⟩⟩
      ·refine ⟨_,rfl,_,rfl,_,_,rfl,rfl,_,rfl,zx (p:=decide (cbrI r (encL c)<(encL c).getD r.makes 0)) rfl (fun e4=>?_) (fun e4=>?_)⟩
       ·obtain ⟨q1,q2⟩:=store ⟨e2',.inr (of_decide_eq_true e4)⟩
        exact ⟨_,rfl,_,rfl,_,rfl,qQ T er4 ⟨D,_,_,_,rfl,rfl,h4,hix,fin _ _ _ _ _ q1 q2⟩⟩
       ·refine fin _ _ _ _ _ s4' ?_
        rw [h4]
        unfold relaxI
        rw [if_neg]
        rintro ⟨_,q | q⟩
        ·exact of_decide_eq_false e3 q
        ·exact of_decide_eq_false e4 q
     ·refine iteF (fin _ _ _ _ _ s4' ?_)
      rw [h4]
      unfold relaxI
      rw [if_neg]
      rintro ⟨q,_⟩
      exact of_decide_eq_false e2 q
    ·rintro σ H3 ⟨s3,h3,v4,v5,v6,v7,rfl⟩
     rw [List.length_map,hrs.2.1,List.take_length] at h3
     exact ⟨s3,h3,_,_,_,_,_,rfl⟩
   ·rintro σ H2 ⟨s2,h2,v3,v4,v5,v6,v7,rfl⟩
    have e:((ga.map V.ref).length:Int).toNat=gs.length:=by rw [List.length_map,hgs.2.1,Int.toNat_natCast]
    rw [e,vO R] at h2
    exact ⟨_,rfl,k D H2 s2 hD h2⟩
end
theorem for_zip {K:PySem.W.Frag} {a b:Addr} {xs ys:List V} {g:TG} {tb:TS} {D:Ends} {σ:St} {H:Hp} (Pv:Nat→St→Hp→Prop) (h0:Pv 0 σ H) (hlen:xs.length=ys.length) (hl:∀ i σ H,i≤xs.length→Pv i σ H→SqL K H a xs∧SqL K H b ys)
  (hs:∀ (i:Nat) x y T σ H,xs[i]? = some x→ys[i]? = some y→H T=none→Pv i σ H→g (.ref T) σ (L2.upd H T (.tup [x,y])) fun σ2 H2=>tb { D with nx:=Pv (i+1),ct:=Pv (i+1),bk:=D.nx } σ2 H2) (hd:∀ σ H,Pv xs.length σ H→D.nx σ H) :
  ∃ W:Nat→Nat→St→Hp→Prop,(∃ m,W 0 m σ H)∧∀ i m σ H,W i m σ H →
   ((Itz K a b).stop i H∧D.nx σ H)∨((Itz K a b).go i H∧∃ N:St→Hp→Prop,(∀ σ' H',N σ' H'→∃ m',m' < m∧W (i+1) m' σ' H')∧∀ x H',(Itz K a b).yld i H x H'→g x σ H' fun σ2 H2=>tb { D with nx:=N,ct:=N,bk:=D.nx } σ2 H2):=by
 refine ⟨fun i m σ H=>m=xs.length - i∧i≤xs.length∧Pv i σ H,⟨xs.length,by simp,Nat.zero_le _,h0⟩,?_⟩
 rintro i m σ H ⟨rfl,hi,p⟩
 have q:=hl i σ H hi p
 by_cases hlt:i<xs.length
 ·refine .inr ⟨⟨xs,ys,xs[i],ys[i]'(by omega),q.1,q.2,by simp [hlt],by rw [List.getElem?_eq_getElem]⟩,Pv (i+1),fun σ' H' p'=>⟨xs.length - (i+1),by omega,rfl,hlt,p'⟩,fun v H' y=>?_⟩
  obtain ⟨T,x,y,rfl,hT,rfl,h1,h2⟩:=y
  exact hs i x y T σ H (h1 xs q.1) (h2 ys q.2) hT p
 ·have e:i=xs.length:=by omega
  subst e
  exact .inl ⟨⟨xs,ys,q.1,q.2,.inl (Nat.le_refl _)⟩,hd σ H p⟩
theorem for_enum {K:PySem.W.Frag} {a:Addr} {xs:List V} {g:TG} {tb:TS} {D:Ends} {σ:St} {H:Hp} (Pv:Nat→St→Hp→Prop) (h0:Pv 0 σ H) (hl:∀ i σ H,i≤xs.length→Pv i σ H→SqL K H a xs)
  (hs:∀ (i:Nat) x T σ H,xs[i]? = some x→H T=none→Pv i σ H→g (.ref T) σ (L2.upd H T (.tup [.int (i:Int),x])) fun σ2 H2=>tb { D with nx:=Pv (i+1),ct:=Pv (i+1),bk:=D.nx } σ2 H2) (hd:∀ σ H,Pv xs.length σ H→D.nx σ H) :
  ∃ W:Nat→Nat→St→Hp→Prop,(∃ m,W 0 m σ H)∧∀ i m σ H,W i m σ H →
   ((Ite K a).stop i H∧D.nx σ H)∨((Ite K a).go i H∧∃ N:St→Hp→Prop,(∀ σ' H',N σ' H'→∃ m',m' < m∧W (i+1) m' σ' H')∧∀ x H',(Ite K a).yld i H x H'→g x σ H' fun σ2 H2=>tb { D with nx:=N,ct:=N,bk:=D.nx } σ2 H2):=by
 refine ⟨fun i m σ H=>m=xs.length - i∧i≤xs.length∧Pv i σ H,⟨xs.length,by simp,Nat.zero_le _,h0⟩,?_⟩
 rintro i m σ H ⟨rfl,hi,p⟩
 have q:=hl i σ H hi p
 by_cases hlt:i<xs.length
 ·refine .inr ⟨⟨xs,xs[i],q,by simp [hlt]⟩,Pv (i+1),fun σ' H' p'=>⟨xs.length - (i+1),by omega,rfl,hlt,p'⟩,fun v H' y=>?_⟩
  obtain ⟨T,x,rfl,hT,rfl,h1⟩:=y
  exact hs i x T σ H (h1 xs q) hT p
 ·have e:i=xs.length:=by omega
  subst e
  exact .inl ⟨⟨xs,q,Nat.le_refl _⟩,hd σ H p⟩
theorem Yi {α:Type} {K:PySem.W.Frag} {g:TG} {tt:TT} {te:TE} {vs:List Nat} {σ:St} {H:Hp} {l:Addr} {items:List V} {xs:List α} {Q:Addr→Hp→Prop} (It:Hp→α→V→Prop) (p:α→Bool) (f:Nat→V) (hl:SqL K H l items) (hlen:items.length=xs.length) (hz:xs.length<sizeLine)
  (hit:∀ (i:Nat) v x,items[i]? = some v→xs[i]? = some x→It H x v) (mono:∀ H1 x v,Same H H1→It H x v→It H1 x v)
  (hs:∀ (i:Nat) x v T H1 (N1:VK) (N2:Hp→Prop),xs[i]? = some x→Same H H1→It H1 x v→H1 T=some (.tup [.int (i:Int),v])→(p x=true→∀ H2,Same H1 H2→N1 (f i) H2)→(p x=false→∀ H2,Same H1 H2→N2 H2) →
   g (.ref T) (wipe σ vs) H1 fun σ2 H2=>wipe σ2 vs=wipe σ vs∧tt σ2 H2 fun b H3=>if b=true then te σ2 H3 N1 else N2 H3)
  (q:∀ D H',Same H H'→H D=none→H' D=some (.lst (((List.range xs.length).filter fun i=>(xs[i]?.map p).getD false).map f))→Q D H') :
  ∀ D,H D=none→∃ W:Nat→Nat→Hp→Prop,(∃ m,W 0 m (L2.upd H D (.lst [])))∧∀ i m H,W i m H →
   ((Ite K l).stop i H∧Q D H)∨((Ite K l).go i H∧∃ Nx:Hp→Prop,(∀ H',Nx H'→∃ m',m' < m∧W (i+1) m' H')∧∀ x H',(Ite K l).yld i H x H'→g x (wipe σ vs) H' fun σ2 H2=>wipe σ2 vs=wipe σ vs∧tt σ2 H2 fun b H3=>
    if b=true then te σ2 H3 fun y H4=>∃ acc,H4 D=some (.lst acc)∧acc.length<sizeLine∧Nx (L2.upd H4 D (.lst (acc++[y]))) else Nx H3):=by
 intro D hD
 refine ⟨fun i m H'=>m=items.length - i∧i≤items.length∧Same H H'∧H' D=some (.lst (((List.range i).filter fun i=>(xs[i]?.map p).getD false).map f)),⟨items.length,by simp,Nat.zero_le _,zM hD,zf⟩,?_⟩
 rintro i m H1 ⟨rfl,hi,s1,hD1⟩
 have hq:=s1.seq hl
 by_cases hlt:i<items.length
 ·refine .inr ⟨⟨items,items[i],hq,by simp [hlt]⟩,fun H'=>Same H H'∧H' D=some (.lst (((List.range (i+1)).filter fun i=>(xs[i]?.map p).getD false).map f)),fun H' h=>⟨items.length - (i+1),by omega,rfl,hlt,h.1,h.2⟩,fun w H' y=>?_⟩
  obtain ⟨T,v,rfl,hT,rfl,h1⟩:=y
  have hv:=h1 items hq
  obtain ⟨x,hx⟩:=jo hlen hv
  have s2:Same H (L2.upd H1 T (.tup [.int (i:Int),v])):=jR s1 hT
  have hle:(((List.range i).filter fun i=>(xs[i]?.map p).getD false).map f).length<sizeLine:=by
   have:=List.length_filter_le (fun i=>(xs[i]?.map p).getD false) (List.range i)
   rw [List.length_map]
   rw [List.length_range] at this
   omega
  have hD2:(L2.upd H1 T (.tup [.int (i:Int),v])) D=some (.lst (((List.range i).filter fun i=>(xs[i]?.map p).getD false).map f)):=by
   rw [zl (zn hD1 hT)]
   exact hD1
  refine hs i x v T _ _ _ hx s2 (mono _ _ _ s2 (hit i v x hv hx)) zf (fun hp H2 s3=>?_) (fun hp H2 s3=>?_)
  ·refine ⟨_,s3 _ _ hD2,hle,jL (s2.trans s3) hD,?_⟩
   rw [zf,List.range_succ,List.filter_append,List.map_append,List.filter_cons,if_pos (by rw [hx];exact hp)]
   rfl
  ·refine ⟨s2.trans s3,?_⟩
   rw [s3 _ _ hD2,List.range_succ,List.filter_append,List.filter_cons,if_neg (by rw [hx];show ¬ p x=true;rw [hp];exact Bool.false_ne_true),List.filter_nil,List.append_nil]
 ·have e:i=items.length:=by omega
  subst e
  rw [hlen] at hD1
  exact .inl ⟨⟨items,hq,Nat.le_refl _⟩,q D H1 s1 hD hD1⟩
theorem Y7 {lo c:Int} {n:Nat} {g:TG} {tt:TT} {te:TE} {vs:List Nat} {σ:St} {H1:Hp} {D:Addr} {Qd:Hp→Prop} (Pv:Nat→Hp→Prop) (h0:Pv 0 (L2.upd H1 D (.lst [])))
  (hs:∀ i H,i<n→Pv i H→g (.int (lo+(i:Nat) * c)) (wipe σ vs) H fun σ2 H2=>wipe σ2 vs=wipe σ vs∧tt σ2 H2 fun b H3=>
   if b=true then te σ2 H3 fun y H4=>∃ acc,H4 D=some (.lst acc)∧acc.length<sizeLine∧Pv (i+1) (L2.upd H4 D (.lst (acc++[y]))) else Pv (i+1) H3) (hd:∀ H,Pv n H→Qd H) :
  ∃ W:Nat→Nat→Hp→Prop,(∃ m,W 0 m (L2.upd H1 D (.lst [])))∧∀ i m H,W i m H →
   ((Itc lo c n).stop i H∧Qd H)∨((Itc lo c n).go i H∧∃ Nx:Hp→Prop,(∀ H',Nx H'→∃ m',m' < m∧W (i+1) m' H')∧∀ x H',(Itc lo c n).yld i H x H'→g x (wipe σ vs) H' fun σ2 H2=>wipe σ2 vs=wipe σ vs∧tt σ2 H2 fun b H3=>
    if b=true then te σ2 H3 fun y H4=>∃ acc,H4 D=some (.lst acc)∧acc.length<sizeLine∧Nx (L2.upd H4 D (.lst (acc++[y]))) else Nx H3):=by
 refine ⟨fun i m H=>m=n - i∧i≤n∧Pv i H,⟨n,by simp,Nat.zero_le _,h0⟩,?_⟩
 rintro i m H ⟨rfl,hi,p⟩
 by_cases hlt:i<n
 ·refine .inr ⟨hlt,Pv (i+1),fun H' p'=>⟨n - (i+1),by omega,rfl,hlt,p'⟩,fun x H' y=>?_⟩
  obtain ⟨e,y⟩:=y
  subst e y
  exact hs i _ hlt p
 ·have e:i=n:=by omega
  subst e
  exact .inl ⟨Nat.le_refl _,hd H p⟩
theorem rg3:∀ m,m<11→RgC 0 ((3 * m:Nat):Int) 3 m:=by unfold RgC;decide
theorem rg2:∀ m,m<5→RgC 0 ((2 * m:Nat):Int) 2 m:=by unfold RgC;decide
section
variable {P:Program} {w:World} {K:PySem.W.Frag} {mg:Str→Option Value} {base:Heap}
theorem qo:FnScope ["goods","recipes","prices","good","price","recipe"] ["goods","recipes","prices"] (defScope vD):=⟨rfl,rfl,rfl,by decide +kernel,rfl,by decide +kernel,by decide +kernel⟩
def Qb (T:Prog K mg):Sp:=fun vs H Q _=>∃ (gl rl q:Addr) (ga ra:List Addr) (L:List Addr) (gs:List Good) (rs:List Recipe) (ps:List Int),vs=[.ref gl,.ref rl,.ref q]∧LsAt H gl ga gs (GoodAt T H)∧LsAt H rl ra rs (RecAt T L H)∧GInv gs∧RInv gs rs∧H q=some (.lst (ps.map V.int))∧ps.length=gs.length ∧
 ∀ H',Same H H'→Q (.bl (fairI gs rs ps)) H'
theorem Qz (T:Prog K mg):FnOk P w K mg base CX0 2 T.are_fair.f T.are_fair.fd ["goods","recipes","prices"] (Qb T):=by
 refine T.are_fair.fn.ok qo (fun vs H Q E h=>?_) (fun cdv A outer s H vs Q E hr h=>?_)
 ·obtain ⟨gl,rl,q,ga,ra,L,gs,rs,ps,rfl,_⟩:=h
  rfl
 ·obtain ⟨gl,rl,q,ga,ra,L,gs,rs,ps,rfl,hgs,hrs,G,R,hq,hpl,k⟩:=h
  have mG:∀ {H1:Hp},Same H H1→LsAt H1 gl ga gs (GoodAt T H1):=fun s1=>hgs.imp (s1 _ _ hgs.1) fun a x h=>h.frm (κ:=[]) (L:=[]) (zy s1) (by simp)
  have mR:∀ {H1:Hp},Same H H1→LsAt H1 rl ra rs (RecAt T L H1):=fun s1=>hrs.imp (s1 _ _ hrs.1) fun a x h=>h.frm (κ:=[]) (L:=[]) (zy s1) (by simp) (by simp)
  refine ⟨_,(za (jH PassesOwn.never rfl (pi_zipK (K:=K) rfl rfl T.b_zip (zc (pv 0) (zc (pv 2) zb))) (js (K:=K) (n:=2) rfl rfl (zF (zw (i:=3) qo.nd rfl (by first | exact Or.inl rfl | exact Or.inr rfl)) (zF (zw (i:=4) qo.nd rfl (by first | exact Or.inl rfl | exact Or.inr rfl)) jr))) (ze (zB (PW.pt (WA (zq qC (zd (K:=K) rfl (pv 3) rfl) zj (nomark _)) (Jn (zq qC (pv 4) (zd (K:=K) rfl (pv 3) rfl) (nomark _))))) (ze (zm qU)) zp)))
   (ze (zm (zr (JG (K:=K) rfl rfl) (by rfl) T.b_all W3 (zc (qT rfl qo.nd (zL (K:=K) rfl (pv 1)) (own:=[("recipe",5)]) (zW (by kernel_rfl)) (fun _ _ _ _ _=>(zw (i:=5) qo.nd rfl (by first | exact Or.inl rfl | exact Or.inr rfl))) (fun _ _ _ _ _=>jC) (fun _ _ _ _ _=>(wa op_le (zv (zk (K:=K) rfl) (pv 2) (zd (K:=K) rfl (pv 5) rfl) (fun _ _=>rfl)) (zi (xo T) (hr.mono (by decide)) rfl T.cost_at.at_ T.cost_at.fn.kp T.cost_at.b .nil pass0 (zc (pv 5) (zc (pv 2) zb))) (nomark _)))) zb))))),?_⟩
  refine ⟨_,rfl,_,rfl,gl,q,_,_,rfl,SqL.of hgs.1,SqL.of hq,?_⟩
  refine for_zip (K:=K) (a:=gl) (b:=q) (xs:=ga.map V.ref) (ys:=ps.map V.int) (fun i σ H'=>Same H H'∧(((gs.zip ps).take i).all fun x=>!(decide (0<x.1.price)&&decide ((x.1.price:Int)<x.2)))=true∧∃ v3 v4 v5,σ=[some (.ref gl),some (.ref rl),some (.ref q),v3,v4,v5]) ⟨Same.refl _,rfl,_,_,_,rfl⟩ (by rw [List.length_map,List.length_map,hgs.2.1,hpl]) (fun i σ H' _ h=>⟨SqL.of (mG h.1).1,SqL.of (h.1 _ _ hq)⟩) ?_ ?_
  ·rintro i x y TT σ H1 hx hy hT ⟨s1,ha1,v3,v4,v5,rfl⟩
   rw [List.getElem?_map] at hx hy
   obtain ⟨a,ha,rfl⟩:=Option.map_eq_some_iff.mp hx
   obtain ⟨z,hz,rfl⟩:=Option.map_eq_some_iff.mp hy
   obtain ⟨g,hg⟩:=jo hgs.2.1 ha
   have s2:Same H (L2.upd H1 TT (.tup [.ref a,.int z])):=jR s1 hT
   obtain ⟨dx,e1⟩:=(mG s2).2.2 i a g ha hg
   have hzip:(gs.zip ps)[i]? = some (g,z):=ZR hg hz
   have bad:(decide (0<g.price)&&decide ((g.price:Int)<z))=true→fairI gs rs ps=false:=fun h=>by
    unfold fairI
    have:((gs.zip ps).all fun x=>!(decide (0<x.1.price)&&decide ((x.1.price:Int)<x.2)))=false:=by
     rw [List.all_eq_false]
     exact ⟨(g,z),List.mem_of_getElem? hzip,by simp only [h];decide⟩
    rw [this]
    rfl
   have good:(decide (0<g.price)&&decide ((g.price:Int)<z))=false→(((gs.zip ps).take (i+1)).all fun x=>!(decide (0<x.1.price)&&decide ((x.1.price:Int)<x.2)))=true:=fun h=>by
    rw [zZ hzip,List.all_append,ha1]
    simp only [List.all_cons,List.all_nil,h]
    rfl
   refine jY zf ?_
   refine ⟨_,rfl,yI T e1 ⟨_,_,rfl,rfl,_,rfl,zx (p:=decide (0<g.price)) (decide_eq_decide.mpr (by omega)) (fun e2=>?_) (fun e2=>?_)⟩⟩
   ·refine ⟨_,rfl,_,rfl,yI T e1 ⟨_,_,rfl,rfl,_,rfl,zx (p:=decide ((g.price:Int)<z)) rfl (fun e3=>?_) (fun e3=>?_)⟩⟩
    ·have k1:=k _ s2
     rw [bad (by rw [e2,e3];rfl)] at k1
     exact k1
    ·exact ⟨s2,good (by rw [e2,e3];rfl),_,_,_,rfl⟩
   ·exact iteF ⟨s2,good (by rw [e2];rfl),_,_,_,rfl⟩
  ·rintro σ H1 ⟨s1,ha1,v3,v4,v5,rfl⟩
   rw [List.length_map,hgs.2.1] at ha1
   have e0:(gs.zip ps).take gs.length=gs.zip ps:=by
    apply List.take_of_length_le
    rw [List.length_zip]
    omega
   rw [e0] at ha1
   have hrs1:=mR s1
   refine ⟨_,rfl,rl,rfl,⟨_,SqL.of hrs1.1⟩,wx (xs:=rs) (fun H x v=>x∈rs∧∃ a,v = .ref a∧RecAt T L H a x) (fun r=>V.bl (decide (ps.getD r.makes 0≤costI r ps))) (SqL.of hrs1.1) (by rw [List.length_map,hrs1.2.1]) (small (m:=1000) (by have:=R.len;omega)) (fun i v x hv hx=>?_) (fun H1 x v s1 ⟨hm,a,e,h⟩=>⟨hm,a,e,h.frm (κ:=[]) (L:=[]) (zy s1) (by simp) (by simp)⟩) ?_ jN ?_⟩
   ·rw [List.getElem?_map] at hv
    obtain ⟨a,ha,rfl⟩:=Option.map_eq_some_iff.mp hv
    exact ⟨List.mem_of_getElem? hx,a,rfl,hrs1.2.2 i a x ha hx⟩
   ·rintro r v H2 N1 hx s2 ⟨hm,a,rfl,hra⟩ k1
    obtain ⟨dx,nl,er,_,_⟩:=id hra
    have Rr:=R.ok r hm
    have hq2:=s2 _ _ (s1 _ _ hq)
    refine ⟨rfl,_,rfl,_,rfl,qQ T er (yf hq2 (by rw [hpl];exact Rr.1) ?_)⟩
    refine ⟨_,rfl,_,rfl,a,q,L,r,ps,rfl,hra,hq2,by omega,fun x hx=>⟨by rw [hpl];exact (Rr.2.2.2.2.1 x hx).1,(Rr.2.2.2.2.1 x hx).2.2⟩,fun H3 s3=>⟨_,_,rfl,rfl,k1 H3 s3⟩⟩
   ·intro D H2 s2 hD hD2
    refine ⟨D,rs.map fun r=>decide (ps.getD r.makes 0≤costI r ps),rfl,SqL.of (by rw [hD2,List.map_map];rfl),?_⟩
    have k1:=k H2 (s1.trans s2)
    unfold fairI at k1
    rw [ha1,Bool.true_and] at k1
    rw [List.all_map]
    exact k1
end
end BM
end
section
namespace BM
open Vbwsao
section
variable {s:State} {g c t m n a b r:Int} {l:List Int}
theorem YO (hi:callIn (.goods l)=true) (hg:s.goods.isEmpty=false):step s (.goods l)=(s,[-5]):=by
 unfold step;dsimp only
 exact (zg (congrArg not hi)).trans (zU (congrArg not hg))
theorem J0 (hi:callIn (.goods l)=true) (hg:s.goods.isEmpty=true):step s (.goods l)=({ s with goods:=triples l },[0,((triples l).length:Int)]):=by
 unfold step;dsimp only
 exact (zg (congrArg not hi)).trans ((zg (congrArg not hg)).trans jx)
theorem Wh (hi:callIn (.recipe g c t l)=true) (hg:s.goods.isEmpty=false) (h:(ng s g||(pairs l).any fun x=>ng s (x.1:Int))=true):step s (.recipe g c t l)=(s,[-3]):=by
 unfold step;dsimp only
 exact (zg (congrArg not hi)).trans ((zg hg).trans (zU h))
theorem Wg (hi:callIn (.recipe g c t l)=true) (hg:s.goods.isEmpty=false) (h:(ng s g||(pairs l).any fun x=>ng s (x.1:Int))=false) (h2:16≤s.recipes.length):step s (.recipe g c t l)=(s,[-4]):=by
 unfold step;dsimp only
 exact (zg (congrArg not hi)).trans ((zg hg).trans ((zg h).trans (zU (decide_eq_true h2))))
theorem Wf (hi:callIn (.recipe g c t l)=true) (hg:s.goods.isEmpty=false) (h:(ng s g||(pairs l).any fun x=>ng s (x.1:Int))=false) (h2:¬ 16≤s.recipes.length) (h3:unlike ((pairs l).map fun x=>x.1)=false):step s (.recipe g c t l)=(s,[-7]):=by
 unfold step;dsimp only
 exact (zg (congrArg not hi)).trans ((zg hg).trans ((zg h).trans ((zg (decide_eq_false h2)).trans (zU (congrArg not h3)))))
theorem YM (hi:callIn (.recipe g c t l)=true) (hg:s.goods.isEmpty=false) (h:(ng s g||(pairs l).any fun x=>ng s (x.1:Int))=false) (h2:¬ 16≤s.recipes.length) (h3:unlike ((pairs l).map fun x=>x.1)=true):step s (.recipe g c t l)=({ s with recipes:=s.recipes++[⟨g.toNat,c.toNat,t.toNat,pairs l⟩] },[0,(s.recipes.length:Int)]):=by
 unfold step;dsimp only
 exact (zg (congrArg not hi)).trans ((zg hg).trans ((zg h).trans ((zg (decide_eq_false h2)).trans ((zg (congrArg not h3)).trans jx))))
theorem st_costs (hg:s.goods.isEmpty=false):step s .costs=(s,0 :: encL (costs s.goods s.recipes)):=by
 unfold step;dsimp only
 refine (zg hg).trans (jx.trans ?_)
 congr 2
theorem ZW (hi:callIn (.fair l)=true) (hg:s.goods.isEmpty=false):step s (.fair l)=(s,[0,if fair s.goods s.recipes (l.map Int.toNat)=true then 1 else 0]):=by
 unfold step;dsimp only
 exact (zg (congrArg not hi)).trans ((zg hg).trans jx)
theorem fair_len (gs:List Good) (rs:List Recipe) {ps:List Nat} (h:¬ ps.length=gs.length):fair gs rs ps=false:=by
 unfold fair
 have:(ps.length == gs.length)=false:=beq_eq_false_iff_ne.mpr h
 rw [this]
 rfl
theorem vN:∀ (n:Nat) (l:List Int),l.length≤n→triplesFine l=true→l.length=3 * (triples l).length∧(∀ x∈triples l,1≤x.weight∧x.weight≤1000∧1≤x.stack∧x.stack≤100∧x.price≤1000) ∧
  ∀ (i:Nat) (x:Good),(triples l)[i]? = some x→l[3 * i]? = some (x.weight:Int)∧l[3 * i+1]? = some (x.stack:Int)∧l[3 * i+2]? = some (x.price:Int)
 | _,[],_,_=>⟨rfl,fun x h=>(by cases h),fun i x h=>(by simp [triples] at h)⟩
 | _,[a],_,h=>by simp [triplesFine] at h
 | _,[a,b],_,h=>by simp [triplesFine] at h
 | 0,a :: b :: c :: r,hl,_=>by simp at hl
 | n+1,a :: b :: c :: r,hl,h=>by
  have h':(inr a 1 1000&&(inr b 1 100&&(inr c 0 1000&&triplesFine r)))=true:=h
  simp only [Bool.and_eq_true,jc] at h'
  obtain ⟨h1,h2,h3,h4⟩:=h'
  obtain ⟨i1,i2,i3⟩:=vN n r (by simp at hl;omega) h4
  refine ⟨?_,?_,?_⟩
  ·show r.length+3=3 * ((triples r).length+1)
   omega
  ·intro x hx
   rcases List.mem_cons.mp hx with rfl | hx
   ·exact ⟨by show 1≤a.toNat;omega,by show a.toNat≤1000;omega,by show 1≤b.toNat;omega,by show b.toNat≤100;omega,by show c.toNat≤1000;omega⟩
   ·exact i2 x hx
  ·intro i x hx
   cases i with
   | zero=>
    have e:(⟨a.toNat,b.toNat,c.toNat⟩:Good)=x:=Option.some.inj hx
    subst e
    refine ⟨?_,?_,?_⟩
    ·show some a=some ((a.toNat:Nat):Int)
     congr 1
     omega
    ·show some b=some ((b.toNat:Nat):Int)
     congr 1
     omega
    ·show some c=some ((c.toNat:Nat):Int)
     congr 1
     omega
   | succ i=>
    have:=i3 i x hx
    rw [show 3 * (i+1)=3 * i+1+1+1 by omega]
    exact this
theorem xh:∀ (n:Nat) (l:List Int),l.length≤n→needsFine l=true→l.length=2 * (pairs l).length∧(∀ x∈pairs l,x.1≤9∧1≤x.2∧x.2≤9) ∧
  ∀ (i:Nat) (x:Nat × Nat),(pairs l)[i]? = some x→l[2 * i]? = some (x.1:Int)∧l[2 * i+1]? = some (x.2:Int)
 | _,[],_,_=>⟨rfl,fun x h=>(by cases h),fun i x h=>(by simp [pairs] at h)⟩
 | _,[a],_,h=>by simp [needsFine] at h
 | 0,a :: b :: r,hl,_=>by simp at hl
 | n+1,a :: b :: r,hl,h=>by
  have h':(inr a 0 9&&(inr b 1 9&&needsFine r))=true:=h
  simp only [Bool.and_eq_true,jc] at h'
  obtain ⟨h1,h2,h4⟩:=h'
  obtain ⟨i1,i2,i3⟩:=xh n r (by simp at hl;omega) h4
  refine ⟨?_,?_,?_⟩
  ·show r.length+2=2 * ((pairs r).length+1)
   omega
  ·intro x hx
   rcases List.mem_cons.mp hx with rfl | hx
   ·exact ⟨by show a.toNat≤9;omega,by show 1≤b.toNat;omega,by show b.toNat≤9;omega⟩
   ·exact i2 x hx
  ·intro i x hx
   cases i with
   | zero=>
    have e:(a.toNat,b.toNat)=x:=Option.some.inj hx
    subst e
    refine ⟨?_,?_⟩
    ·show some a=some ((a.toNat:Nat):Int)
     congr 1
     omega
    ·show some b=some ((b.toNat:Nat):Int)
     congr 1
     omega
   | succ i=>
    have:=i3 i x hx
    rw [show 2 * (i+1)=2 * i+1+1 by omega]
    exact this
theorem wS:∀ l:List Nat,unlike l=true↔l.Nodup
 | []=>by simp [unlike]
 | a :: l=>by
  show (!l.contains a&&unlike l)=true↔_
  rw [List.nodup_cons,Bool.and_eq_true,wS l]
  simp
theorem xr:∀ l:List Nat,(l.map fun (x:Nat)=>(x:Int)).Nodup↔l.Nodup
 | []=>by simp
 | a :: l=>by
  rw [List.map_cons,List.nodup_cons,List.nodup_cons,xr l]
  constructor
  ·rintro ⟨h1,h2⟩
   exact ⟨fun hm=>h1 (List.mem_map.mpr ⟨a,hm,rfl⟩),h2⟩
  ·rintro ⟨h1,h2⟩
   refine ⟨fun hm=>?_,h2⟩
   obtain ⟨b,hb,e⟩:=List.mem_map.mp hm
   have:b=a:=by omega
   exact h1 (this ▸ hb)
end
end BM
end
section
namespace BM
open PySem PySem.Spec L2
open PyProof.Rows hiding St
open Vbwsao (Good Recipe Bag Machine State)
theorem y4 {α:Type} {H H':Hp} {l a:Addr} {as:List Addr} {xs:List α} {x:α} {R R':Addr→α→Prop} (h:LsAt H l as xs R) (hl:H' l=some (.lst (as.map V.ref++[.ref a]))) (f:∀ b y,R b y→R' b y) (ha:R' a x):LsAt H' l (as++[a]) (xs++[x]) R':=by
 refine ⟨by rw [hl,List.map_append];rfl,by simp [h.2.1],fun j b y hb hy=>?_⟩
 by_cases hj:j<as.length
 ·rw [List.getElem?_append_left hj] at hb
  rw [List.getElem?_append_left (by rw [← h.2.1];exact hj)] at hy
  exact f b y (h.2.2 j b y hb hy)
 ·have hj2:=zT hb
  have e2:j=as.length:=by simp at hj2;omega
  subst e2
  rw [List.getElem?_concat_length] at hb
  rw [h.2.1,List.getElem?_concat_length] at hy
  cases hb
  cases hy
  exact ha
section
variable {P:Program} {w:World} {K:PySem.W.Frag} {mg:Str→Option Value} {base:Heap}
theorem StX.addGood {T:Prog K mg} {H:Hp} {A:Adr} {s:State} {hs:List Int} (S:StX T H A s hs) {a dx:Addr} {y:Good} (e:H a=some (.ins T.kGood.C dx (fsGood y))) :
  StX T (L2.upd H A.gl (.lst (A.ga.map V.ref++[.ref a]))) { A with ga:=A.ga++[a] } { s with goods:=s.goods++[y] } hs:=by
 have f:Frm [] A.tops H (L2.upd H A.gl (.lst (A.ga.map V.ref++[.ref a]))):=jv S.gs.1 (by simp)
 have nt:=S.nt
 simp only [List.nodup_cons,List.mem_cons,List.mem_nil_iff,or_false,not_or] at nt
 obtain ⟨dx0,e0⟩:=S.st
 have fl:∀ l xs,H l=some (.lst xs)→l≠A.gl→(L2.upd H A.gl (.lst (A.ga.map V.ref++[.ref a]))) l=some (.lst xs):=fun l xs h n=>by rw [zl n];exact h
 exact ⟨⟨dx0,f.ins e0 (by simp)⟩,y4 S.gs zf (fun b y h=>h.frm f (by simp)) ⟨dx,f.ins e (by simp)⟩,S.rs.imp (fl _ _ S.rs.1 (Ne.symm nt.1.1)) fun b x h=>h.frm f (by simp) (fun _ h=>h),
  S.bs.imp (fl _ _ S.bs.1 (Ne.symm nt.1.2.1)) fun b x h=>h.frm f (by simp) (fun _ h=>h),S.ms.imp (fl _ _ S.ms.1 (Ne.symm nt.1.2.2)) fun b x h=>h.frm f (by simp),S.hl,S.nb,S.nm,S.nt⟩
theorem StX.addRec {T:Prog K mg} {H:Hp} {A:Adr} {s:State} {hs:List Int} (S:StX T H A s hs) {a dx nl:Addr} {y:Recipe} (e:H a=some (.ins T.kRecipe.C dx (fsRec y nl))) (n:nl∉A.tops) (p:PrsAt H nl y.needs) :
  StX T (L2.upd H A.rl (.lst (A.ra.map V.ref++[.ref a]))) { A with ra:=A.ra++[a] } { s with recipes:=s.recipes++[y] } hs:=by
 have f:Frm [] A.tops H (L2.upd H A.rl (.lst (A.ra.map V.ref++[.ref a]))):=jv S.rs.1 (by simp)
 have nt:=S.nt
 simp only [List.nodup_cons,List.mem_cons,List.mem_nil_iff,or_false,not_or] at nt
 obtain ⟨dx0,e0⟩:=S.st
 have fl:∀ l xs,H l=some (.lst xs)→l≠A.rl→(L2.upd H A.rl (.lst (A.ra.map V.ref++[.ref a]))) l=some (.lst xs):=fun l xs h n=>by rw [zl n];exact h
 exact ⟨⟨dx0,f.ins e0 (by simp)⟩,S.gs.imp (fl _ _ S.gs.1 nt.1.1) fun b x h=>h.frm f (by simp),y4 S.rs zf (fun b y h=>h.frm f (by simp) (fun _ h=>h)) ⟨dx,nl,f.ins e (by simp),n,p.frm f n⟩,
  S.bs.imp (fl _ _ S.bs.1 (Ne.symm nt.2.1.1)) fun b x h=>h.frm f (by simp) (fun _ h=>h),S.ms.imp (fl _ _ S.ms.1 (Ne.symm nt.2.1.2)) fun b x h=>h.frm f (by simp),S.hl,S.nb,S.nm,S.nt⟩
theorem xY:FnScope ["state"] ["state"] (defScope wZ):=⟨rfl,rfl,rfl,by decide +kernel,rfl,by decide +kernel,by decide +kernel⟩
def xT (T:Prog K mg):Sp:=fun vs H Q _=>∃ (A:Adr) (s:State),vs=[.ref A.st]∧StAt T H A s∧SInv s∧s.goods.isEmpty=false∧CallOk T A s .costs H Q
theorem Za (T:Prog K mg):FnOk P w K mg base CX0 4 T.tell_costs.f T.tell_costs.fd ["state"] (xT T):=by
 refine T.tell_costs.fn.ok xY (fun vs H Q E h=>?_) (fun cdv A outer s H vs Q E hr h=>?_)
 ·obtain ⟨A,s,rfl,_⟩:=h
  rfl
 ·obtain ⟨A,st,rfl,S,I,hg,k⟩:=h
  refine ⟨_,(ze (zm (zI vH (zu (zc zj zb)) (zi (qV T) (hr.mono (by decide)) rfl T.least_costs.at_ T.least_costs.fn.kp T.least_costs.b .nil pass0 (zc (zd (K:=K) rfl (pv 0) rfl) (zc (zd (K:=K) rfl (pv 0) rfl) zb)))))),?_⟩
  refine ⟨by show 1≤sizeLine;decide,fun p hp=>?_⟩
  have s1:=zM (o:=.lst [V.int 0]) hp
  have S1:=S.same s1
  refine ⟨_,rfl,zV S1 ⟨_,rfl,zY S1 ⟨A.gl,A.rl,A.ga,A.ra,A.tops,st.goods,st.recipes,rfl,S1.gs,S1.rs,I.g,I.r,fun q H2 s2 hq hq2=>?_⟩⟩⟩
  refine ⟨p,q,_,_,rfl,rfl,s2 _ _ zf,hq2,?_,fun p3 hp3=>?_⟩
  ·show 1+((encL (Vbwsao.costs st.goods st.recipes)).map V.int).length≤sizeLine
   unfold encL
   rw [List.length_map,List.length_map,jl]
   exact Nat.le_of_lt (small (m:=1000) (by have:=I.g.len;omega))
  ·exact k.ans (st_costs hg) ((S1.same s2)) I ((zy s1).trans (zy s2)) hp3
theorem Jc:FnScope ["state","prices"] ["state","prices"] (defScope yB):=⟨rfl,rfl,rfl,by decide +kernel,rfl,by decide +kernel,by decide +kernel⟩
def Z3 (T:Prog K mg):Sp:=fun vs H Q _=>∃ (A:Adr) (s:State) (q:Addr) (l:List Int),vs=[.ref A.st,.ref q]∧StAt T H A s∧SInv s∧s.goods.isEmpty=false∧callIn (.fair l)=true∧H q=some (.lst (l.map V.int))∧CallOk T A s (.fair l) H Q
theorem Ju (T:Prog K mg):FnOk P w K mg base CX0 3 T.tell_fair.f T.tell_fair.fd ["state","prices"] (Z3 T):=by
 refine T.tell_fair.fn.ok Jc (fun vs H Q E h=>?_) (fun cdv A outer s H vs Q E hr h=>?_)
 ·obtain ⟨A,s,q,l,rfl,_⟩:=h
  rfl
 ·obtain ⟨A,st,q,l,rfl,S,I,hg,hi,hq,k⟩:=h
  have hpos:∀ z∈l,0≤z:=by
   simp only [callIn,Bool.and_eq_true,List.all_eq_true,jc] at hi
   exact fun z hz=>(hi.2 z hz).1
  refine ⟨_,(za (zB (zq op_ne (zr (zo (K:=K) rfl) (by rfl) T.b_len zQ (zc (pv 1) zb)) (zr (zo (K:=K) rfl) (by rfl) T.b_len zQ (zc (zd (K:=K) rfl (pv 0) rfl) zb)) (nomark _)) (ze (zm (zu (zc zj (zc zj zb))))) zp)
   (za (zB (zN (zi (Qz T) (hr.mono (by decide)) rfl T.are_fair.at_ T.are_fair.fn.kp T.are_fair.b .nil pass0 (zc (zd (K:=K) rfl (pv 0) rfl) (zc (zd (K:=K) rfl (pv 0) rfl) (zc (pv 1) zb))))) (ze (zm (zu (zc zj (zc zj zb))))) zp)
   (ze (zm (zu (zc zj (zc zj zb))))))),?_⟩
  refine ⟨_,rfl,q,_,rfl,.inl (SqL.of hq),_,rfl,zV S ⟨A.gl,_,rfl,.inl (SqL.of S.gs.1),rfl,_,rfl,zx (p:=decide (¬ l.length=st.goods.length)) ?_ (fun e=>?_) (fun e=>?_)⟩⟩
  ·rw [List.length_map,List.length_map,S.gs.2.1,qJ]
   by_cases h:l.length=st.goods.length
   ·simp [h]
   ·simp [h]
  ·have e1:=of_decide_eq_true e
   refine ⟨by show 2≤sizeLine;decide,fun p hp=>?_⟩
   have e2:=ZW hi hg
   rw [fair_len _ _ (by rw [List.length_map];exact e1)] at e2
   exact k.ans e2 S I (Frm.refl _) hp
  ·have e1:l.length=st.goods.length:=by simpa using e
   refine ⟨_,rfl,zV S ⟨_,rfl,zY S ⟨_,rfl,A.gl,A.rl,q,A.ga,A.ra,A.tops,st.goods,st.recipes,l,rfl,S.gs,S.rs,I.g,I.r,hq,e1,fun H1 s1=>⟨_,rfl,zx rfl (fun e3=>?_) (fun e3=>?_)⟩⟩⟩⟩
   ·refine ⟨by show 2≤sizeLine;decide,fun p hp=>?_⟩
    have e2:=ZW hi hg
    rw [Ys hpos e1,if_pos e3] at e2
    exact k.ans e2 (S.same s1) I (zy s1) hp
   ·refine ⟨by show 2≤sizeLine;decide,fun p hp=>?_⟩
    have e2:=ZW hi hg
    rw [Ys hpos e1,if_neg (by rw [e3];exact Bool.false_ne_true)] at e2
    exact k.ans e2 (S.same s1) I (zy s1) hp
theorem vh:FnScope ["state","told","k"] ["state","told"] (defScope wX):=⟨rfl,rfl,rfl,by decide +kernel,rfl,by decide +kernel,by decide +kernel⟩
def xR (T:Prog K mg):Sp:=fun vs H Q _=>∃ (A:Adr) (s:State) (q:Addr) (l:List Int),vs=[.ref A.st,.ref q]∧StAt T H A s∧SInv s∧callIn (.goods l)=true∧H q=some (.lst (l.map V.int))∧q∉A.tops∧CallOk T A s (.goods l) H Q
theorem x8 (T:Prog K mg):FnOk P w K mg base CX0 3 T.tell_goods.f T.tell_goods.fd ["state","told"] (xR T):=by
 refine T.tell_goods.fn.ok vh (fun vs H Q E h=>?_) (fun cdv A outer s H vs Q E hr h=>?_)
 ·obtain ⟨A,s,q,l,rfl,_⟩:=h
  rfl
 ·obtain ⟨A,st,q,l,rfl,S,I,hi,hq,hqt,k⟩:=h
  have hi':=hi
  simp only [callIn,Bool.and_eq_true,decide_eq_true_eq] at hi'
  obtain ⟨h3,h30,hf⟩:=hi'
  obtain ⟨f1,f2,f3⟩:=vN _ l (Nat.le_refl _) hf
  refine ⟨_,(za (zB (zq qC (zr (zo (K:=K) rfl) (by rfl) T.b_len zQ (zc (zd (K:=K) rfl (pv 0) rfl) zb)) zj (nomark _)) (ze (zm (zu (zc (zA (v:=.int (-5)) rfl T.c_GOODS_ALREADY.at_ ⟨_,rfl⟩) zb)))) zp)
   (za (jH PassesOwn.never rfl (Zu rfl T.b_range (zc zj (zc (zr (zo (K:=K) rfl) (by rfl) T.b_len zQ (zc (pv 1) zb)) (zc zj zb)))) (zw (i:=2) vh.nd rfl (by first | exact Or.inl rfl | exact Or.inr rfl)) (ze (zG (qb (K:=K) rfl (zd (K:=K) rfl (pv 0) rfl) (yZ T.kGood.made (Qx T) (hr.mono (by decide)) rfl T.kGood.at_ T.kGood.b .nil pass0 (zc (zv (zk (K:=K) rfl) (pv 1) (pv 2) (fun _ _=>rfl)) (zc (zv (zk (K:=K) rfl) (pv 1) (zI jf (pv 2) zj) (fun _ _=>rfl)) (zc (zv (zk (K:=K) rfl) (pv 1) (zI jf (pv 2) zj) (fun _ _=>rfl)) zb))))))))
   (ze (zm (zu (zc zj (zc (zr (zo (K:=K) rfl) (by rfl) T.b_len zQ (zc (zd (K:=K) rfl (pv 0) rfl) zb)) zb))))))),?_⟩
  refine ⟨_,rfl,zV S ⟨A.gl,_,rfl,.inl (SqL.of S.gs.1),_,_,rfl,rfl,_,rfl,zx (p:=!st.goods.isEmpty) ?_ (fun e=>?_) (fun e=>?_)⟩⟩
  ·rw [List.length_map,S.gs.2.1]
   cases st.goods with
   | nil=>rfl
   | cons x r=>exact decide_eq_true (by simp)
  ·exact k.ref (YO hi (by simpa using e)) S I (Same.refl _)
  ·have eg:st.goods.isEmpty=true:=by simpa using e
   have eg2:st.goods=[]:=List.isEmpty_iff.mp eg
   obtain ⟨eb,er⟩:=I.em eg2
   have ega:A.ga=[]:=by
    have:=S.gs.2.1
    rw [eg2] at this
    exact List.eq_nil_of_length_eq_zero this
   have ehs:heldOf st.goods st.bags=[]:=by rw [eb];rfl
   refine ⟨_,rfl,q,_,rfl,.inl (SqL.of hq),0,_,3,(Vbwsao.triples l).length,rfl,by rw [List.length_map,f1];exact rg3 _ (by omega),?_⟩
   refine WU (lo:=0) (c:=3) (n:=(Vbwsao.triples l).length) (fun i σ H'=>Frm (kap T) A.tops H H'∧(∃ ga,StX T H' { A with ga:=ga } { st with goods:=(Vbwsao.triples l).take i } [])∧∃ v2,σ=[some (.ref A.st),some (.ref q),v2]) ⟨Frm.refl _,⟨A.ga,by have S0:StX T H A st (heldOf st.goods st.bags):=S;rw [ehs] at S0;rw [List.take_zero,← eg2];exact S0⟩,_,rfl⟩ ?_ ?_
   ·rintro i σ H1 hi1 ⟨fr1,⟨ga,S1⟩,v2,rfl⟩
    obtain ⟨x,hx⟩:∃ x,(Vbwsao.triples l)[i]? = some x:=⟨_,List.getElem?_eq_getElem hi1⟩
    obtain ⟨g1,g2,g3⟩:=f3 i x hx
    have hq1:=fr1.lst hq hqt
    have ei:(0:Int)+(i:Int) * 3=((3 * i:Nat):Int):=by omega
    have ei1:((3 * i:Nat):Int)+1=((3 * i+1:Nat):Int):=by omega
    have ei2:((3 * i:Nat):Int)+2=((3 * i+2:Nat):Int):=by omega
    show gName 2 (.int (0+(i:Int) * 3)) _ _ _
    rw [ei]
    refine ⟨_,rfl,zV (A:={ A with ga:=ga }) S1 ⟨.inl ⟨rfl,_,SqL.of S1.gs.1⟩,_,rfl,_,rfl,kU hq1 g1 ?_⟩⟩
    refine ⟨_,rfl,_,rfl,_,_,rfl,rfl,?_⟩
    show rIxL K (.ref q) (.int (((3 * i:Nat):Int)+1)) H1 _
    rw [ei1]
    refine kU hq1 g2 ⟨_,rfl,_,rfl,_,_,rfl,rfl,?_⟩
    show rIxL K (.ref q) (.int (((3 * i:Nat):Int)+2)) H1 _
    rw [ei2]
    refine kU hq1 g3 ?_
    intro y dx ny ndy ney
    refine ⟨y,dx,x,rfl,zf,fun H2 h2 hbut=>⟨rfl,?_⟩⟩
    have s2:Same H1 H2:=hbut.same ny ndy
    have S2:=S1.same s2
    have S3:=S2.addGood h2
    have fr3:Frm (kap T) A.tops H2 (L2.upd H2 A.gl (.lst (ga.map V.ref++[.ref y]))):=jv S2.gs.1 (by simp)
    refine ⟨A.gl,_,_,rfl,rfl,S2.gs.1,?_,(fr1.trans (zy s2)).trans fr3,⟨ga++[y],?_⟩,_,rfl⟩
    ·have:=S2.gs.2.1
     have h5:ga.length=((Vbwsao.triples l).take i).length:=this
     rw [List.length_map,h5,List.length_take]
     exact small (m:=1000) (by omega)
    ·rw [zZ hx]
     exact S3
   ·rintro σ H1 ⟨fr1,⟨ga,S1⟩,v2,rfl⟩
    rw [List.take_length] at S1
    refine ⟨_,rfl,zV (A:={ A with ga:=ga }) S1 ⟨A.gl,_,rfl,.inl (SqL.of S1.gs.1),(by show 2≤sizeLine;decide),fun p hp=>?_⟩⟩
    have ka:=k p (L2.upd H1 p (.lst ([0,((Vbwsao.triples l).length:Int)].map V.int))) { A with ga:=ga } rfl rfl
    rw [J0 hi eg] at ka
    have S2:StAt T H1 { A with ga:=ga } { st with goods:=Vbwsao.triples l }:=by
     have e0:heldOf (Vbwsao.triples l) st.bags=[]:=by rw [eb];rfl
     show StX T H1 { A with ga:=ga } { st with goods:=Vbwsao.triples l } (heldOf (Vbwsao.triples l) st.bags)
     rw [e0]
     exact S1
    have I':SInv { st with goods:=Vbwsao.triples l }:=by
     refine ⟨⟨by show (Vbwsao.triples l).length≤10;omega,f2⟩,?_,?_,I.ml,I.m,fun _=>⟨eb,er⟩⟩
     ·show RInv (Vbwsao.triples l) st.recipes
      rw [er]
      exact ⟨by decide,fun r hr=>by cases hr⟩
     ·show BInv (Vbwsao.triples l) st.bags
      rw [eb]
      exact ⟨by decide,fun b hb=>absurd hb (by show ¬ b<0;omega),fun x hx=>(by cases hx),fun x hx=>(by cases hx),rfl⟩
    have kb:=ka (S2.same (zM hp)) I' zf (fr1.trans (zy (zM hp)))
    have e8:((ga.map V.ref).length:Int)=((Vbwsao.triples l).length:Int):=by
     have:=S1.gs.2.1
     have h5:ga.length=(Vbwsao.triples l).length:=this
     rw [List.length_map,h5]
    have e9:[V.int 0,V.int ((ga.map V.ref).length:Int)]=[0,((Vbwsao.triples l).length:Int)].map V.int:=by
     rw [e8]
     rfl
    rw [← e9] at kb
    exact kb
end
theorem yes_ {σ:St} {H:Hp} {A B:Hp→Prop} (h:A H):tYes σ H fun b H3=>if b=true then A H3 else B H3:=iteT (A:=A H) (B:=B H) h
section
variable {P:Program} {w:World} {K:PySem.W.Frag} {mg:Str→Option Value} {base:Heap}
theorem jm:FnScope ["state","good","cost","ticks","told","needs","needed","k","pair","named"] ["state","good","cost","ticks","told"] (defScope wm):=⟨rfl,rfl,rfl,by decide +kernel,rfl,by decide +kernel,by decide +kernel⟩
def uS (T:Prog K mg):Sp:=fun vs H Q _=>∃ (A:Adr) (s:State) (g c t:Int) (q:Addr) (l:List Int),vs=[.ref A.st,.int g,.int c,.int t,.ref q]∧StAt T H A s∧SInv s∧s.goods.isEmpty=false∧callIn (.recipe g c t l)=true∧H q=some (.lst (l.map V.int))∧CallOk T A s (.recipe g c t l) H Q
theorem xk (T:Prog K mg):FnOk P w K mg base CX0 3 T.tell_recipe.f T.tell_recipe.fd ["state","good","cost","ticks","told"] (uS T):=by
 refine T.tell_recipe.fn.ok jm (fun vs H Q E h=>?_) (fun cdv A outer s H vs Q E hr h=>?_)
 ·obtain ⟨A,s,g,c,t,q,l,rfl,_⟩:=h
  rfl
 ·obtain ⟨A,st,g,c,t,q,l,rfl,S,I,hg,hi,hq,k⟩:=h
  have hi':=hi
  simp only [callIn,Vbwsao.goodIx,Bool.and_eq_true,decide_eq_true_eq,jc] at hi'
  obtain ⟨hg1,hc1,ht1,hl8,hf⟩:=hi'
  obtain ⟨f1,f2,f3⟩:=xh _ l (Nat.le_refl _) hf
  obtain ⟨g,rfl⟩:∃ g':Nat,g=(g':Int):=⟨g.toNat,by omega⟩
  have hu:=hu_of hr
  refine ⟨_,(za (wI (i:=5) rfl jm.nd rfl rfl (yT rfl rfl rfl rfl) (Zu rfl T.b_range (zc zj (zc (zr (zo (K:=K) rfl) (by rfl) T.b_len zQ (zc (pv 4) zb)) (zc zj zb)))) (own:=[("k",7)]) (zW (by kernel_rfl)) (fun _ _ _ _ _=>(zw (i:=7) jm.nd rfl (by first | exact Or.inl rfl | exact Or.inr rfl))) (fun _ _ _ _ _=>jC) (fun _ _ _ _ _=>(vG (zc (zv (zk (K:=K) rfl) (pv 4) (pv 7) (fun _ _=>rfl)) (zc (zv (zk (K:=K) rfl) (pv 4) (zI jf (pv 7) zj) (fun _ _=>rfl)) zb)))))
   (za (wI (i:=6) rfl jm.nd rfl rfl (yT rfl rfl rfl rfl) (zL (K:=K) rfl (pv 5)) (own:=[("pair",8)]) (zW (by kernel_rfl)) (fun _ _ _ _ _=>(zw (i:=8) jm.nd rfl (by first | exact Or.inl rfl | exact Or.inr rfl))) (fun _ _ _ _ _=>jC) (fun _ _ _ _ _=>(zv (yh (K:=K) rfl) (pv 8) zj (fun _ _=>rfl))))
   (za (zB (zN (zr (Yy (K:=K) rfl rfl) (by rfl) T.b_any bt_any (zc (qT rfl jm.nd (zL (K:=K) rfl (zI vH (zu (zc (pv 1) zb)) (pv 6))) (own:=[("named",9)]) (zW (by kernel_rfl)) (fun _ _ _ _ _=>(zw (i:=9) jm.nd rfl (by first | exact Or.inl rfl | exact Or.inr rfl))) (fun _ _ _ _ _=>jC) (fun _ _ _ _ _=>(zi (ja T) (hr.mono (by decide)) rfl T.lacks_good.at_ T.lacks_good.fn.kp T.lacks_good.b .nil pass0 (zc (pv 0) (zc (pv 9) zb))))) zb))) (ze (zm (zu (zc (zA (v:=.int (-3)) rfl T.c_NO_SUCH.at_ ⟨_,rfl⟩) zb)))) zp)
   (za (zB (zq kf (zr (zo (K:=K) rfl) (by rfl) T.b_len zQ (zc (zd (K:=K) rfl (pv 0) rfl) zb)) (zA (v:=.int (16)) rfl T.c_MOST_RECIPES.at_ ⟨_,rfl⟩) (nomark _)) (ze (zm (zu (zc (zA (v:=.int (-4)) rfl T.c_NO_MORE_ALLOWED.at_ ⟨_,rfl⟩) zb)))) zp)
   (za (zB (zq Zv (YW (K:=K) rfl hr.hd rfl T.b_len rfl T.b_set (pv 6)) (zr (zo (K:=K) rfl) (by rfl) T.b_len zQ (zc (pv 6) zb)) (nomark _)) (ze (zm (zu (zc (zA (v:=.int (-7)) rfl T.c_NEEDED_TWICE.at_ ⟨_,rfl⟩) zb)))) zp)
   (za (zG (qb (K:=K) rfl (zd (K:=K) rfl (pv 0) rfl) (yZ T.kRecipe.made (Zb T) (hr.mono (by decide)) rfl T.kRecipe.at_ T.kRecipe.b .nil pass0 (zc (pv 1) (zc (pv 2) (zc (pv 3) (zc (pv 5) zb)))))))
   (ze (zm (zu (zc zj (zc (zI jI (zr (zo (K:=K) rfl) (by rfl) T.b_len zQ (zc (zd (K:=K) rfl (pv 0) rfl) zb)) zj) zb))))))))))),?_⟩
  refine ⟨_,rfl,q,_,rfl,.inl (SqL.of hq),0,_,2,(Vbwsao.pairs l).length,rfl,by rw [List.length_map,f1];exact rg2 _ (by omega),fun D hD=>?_⟩
  refine Y7 (fun i H'=>Same H H'∧∃ as,LsAt H' D as ((Vbwsao.pairs l).take i) (PrAt H')) ⟨zM hD,[],zf,rfl,fun j a x h=>by simp at h⟩ ?_ ?_
  ·rintro i H1 hi1 ⟨s1,as,ha⟩
   obtain ⟨x,hx⟩:∃ x,(Vbwsao.pairs l)[i]? = some x:=⟨_,List.getElem?_eq_getElem hi1⟩
   obtain ⟨g1,g2⟩:=f3 i x hx
   have hq1:=s1 _ _ hq
   have ei:(0:Int)+(i:Int) * 2=((2 * i:Nat):Int):=by omega
   have ei1:((2 * i:Nat):Int)+1=((2 * i+1:Nat):Int):=by omega
   show gName 7 (.int (0+(i:Int) * 2)) _ _ _
   rw [ei]
   refine ⟨rfl,yes_ ?_⟩
   refine ⟨_,rfl,_,rfl,kU hq1 g1 ⟨_,rfl,_,rfl,_,_,rfl,rfl,?_⟩⟩
   show rIxL K (.ref q) (.int (((2 * i:Nat):Int)+1)) H1 _
   rw [ei1]
   refine kU hq1 g2 ⟨by show 2≤sizeLine;decide,fun tt htt=>?_⟩
   refine ⟨as.map V.ref,by rw [zl (zn ha.1 htt)];exact ha.1,?_,jL (jR s1 htt) hD,as++[tt],?_⟩
   ·rw [List.length_map,ha.2.1,List.length_take]
    exact small (m:=1000) (by omega)
   ·rw [zZ hx]
    exact wJ ha htt
  ·rintro H1 ⟨s1,as,ha⟩
   rw [List.take_length] at ha
   have hneeds:PrsAt H1 D (Vbwsao.pairs l):=⟨as,ha⟩
   have hlen4:(Vbwsao.pairs l).length≤4:=by omega
   refine ⟨_,rfl,D,rfl,⟨_,SqL.of ha.1⟩,wx (xs:=Vbwsao.pairs l) (fun H x v=>∃ a,v = .ref a∧PrAt H a x) (fun x=>V.int (x.1:Int)) (SqL.of ha.1) (by rw [List.length_map,ha.2.1]) (small (m:=1000) (by omega)) (fun i v x hv hx=>?_) (fun H1 x v s1 ⟨a,e,h⟩=>⟨a,e,s1 _ _ h⟩) ?_ jN ?_⟩
   ·rw [List.getElem?_map] at hv
    obtain ⟨a,ha1,rfl⟩:=Option.map_eq_some_iff.mp hv
    exact ⟨a,rfl,ha.2.2 i a x ha1 hx⟩
   ·rintro x v H2 N1 hx s2 ⟨a,rfl,h⟩ k1
    exact ⟨rfl,_,rfl,a,_,_,_,rfl,rfl,SqT.of h,rfl,k1 H2 (Same.refl _)⟩
   ·intro E1 H2 s2 hE hE2
    have hE2':H2 E1=some (.lst (((Vbwsao.pairs l).map fun x=>(x.1:Int)).map V.int)):=by
     rw [hE2,List.map_map]
     rfl
    refine ⟨_,rfl,by show 1≤sizeLine;decide,fun p3 hp3=>?_⟩
    have s3:=zM (o:=.lst [V.int (g:Int)]) hp3
    refine ⟨_,rfl,p3,E1,_,_,rfl,rfl,zf,s3 _ _ hE2',?_,fun p4 hp4=>?_⟩
    ·rw [List.length_map,List.length_map]
     show 1+(Vbwsao.pairs l).length≤sizeLine
     exact Nat.le_of_lt (small (m:=1000) (by omega))
    have s4:=zM (o:=.lst ([V.int (g:Int)]++((Vbwsao.pairs l).map fun x=>(x.1:Int)).map V.int)) hp4
    have S4:=(((S.same s1).same s2).same s3).same s4
    have hp4':(L2.upd (L2.upd H2 p3 (.lst [V.int (g:Int)])) p4 (.lst ([V.int (g:Int)]++((Vbwsao.pairs l).map fun x=>(x.1:Int)).map V.int))) p4=some (.lst (((g:Int) :: (Vbwsao.pairs l).map fun x=>(x.1:Int)).map V.int)):=zf
    refine ⟨p4,rfl,⟨_,SqL.of hp4'⟩,wx (xs:=(g:Int) :: (Vbwsao.pairs l).map fun x=>(x.1:Int)) (fun H z v=>v=V.int z) (fun z=>V.bl (decide ((st.goods.length:Int)≤z))) (SqL.of hp4') (by rw [List.length_map]) (small (m:=1000) (by simp;omega)) (fun i v x hv hx=>?_) (fun H1 x v s1 h=>h) ?_ jN ?_⟩
    ·rw [List.getElem?_map,hx] at hv
     cases hv
     rfl
    ·rintro z v H5 N1 hz s5 rfl k1
     exact ⟨rfl,_,rfl,_,rfl,A,st,_,z,rfl,S4.same s5,k1 H5 (Same.refl _)⟩
    ·intro F H5 s5 hF hF5
     have s05:Same H H5:=(((s1.trans s2).trans s3).trans s4).trans s5
     have S5:=S4.same s5
     refine ⟨F,((g:Int) :: (Vbwsao.pairs l).map fun x=>(x.1:Int)).map fun z=>decide ((st.goods.length:Int)≤z),rfl,SqL.of (by rw [hF5,List.map_map];rfl),_,rfl,?_⟩
     have eany:((((g:Int) :: (Vbwsao.pairs l).map fun x=>(x.1:Int)).map fun z=>decide ((st.goods.length:Int)≤z)).any id)=(Vbwsao.ng st g||(Vbwsao.pairs l).any fun x=>Vbwsao.ng st (x.1:Int)):=by
      rw [List.any_map,List.any_cons,List.any_map]
      rfl
     refine zx eany (fun e=>k.ref (Wh hi hg e) S I s05) (fun e=>?_)
     have e':=e
     rw [Bool.or_eq_false_iff] at e'
     refine ⟨_,rfl,zY S5 ⟨A.rl,_,rfl,.inl (SqL.of S5.rs.1),_,_,rfl,rfl,_,rfl,zx (p:=decide (16≤st.recipes.length)) ?_ (fun e2=>k.ref (Wg hi hg e (of_decide_eq_true e2)) S I s05) (fun e2=>?_)⟩⟩
     ·rw [List.length_map,S5.rs.2.1]
      exact decide_eq_decide.mpr (by omega)
     have e2':=of_decide_eq_false e2
     have hE5:=s5 _ _ (s4 _ _ (s3 _ _ hE2'))
     refine ⟨_,rfl,E1,_,rfl,SqL.of hE5,by rw [List.length_map];omega,fun m hm1 hm2=>⟨_,rfl,E1,_,rfl,.inl (SqL.of hE5),_,_,rfl,rfl,_,rfl,?_⟩⟩
     have hnd:((Vbwsao.pairs l).map fun x=>(x.1:Int)).Nodup↔((Vbwsao.pairs l).map fun x=>x.1).Nodup:=by
      rw [← xr,List.map_map]
      rfl
     refine zx (p:=!Vbwsao.unlike ((Vbwsao.pairs l).map fun x=>x.1)) ?_ (fun e3=>k.ref (Wf hi hg e e2' (by simpa using e3)) S I s05) (fun e3=>?_)
     ·rw [List.length_map]
      by_cases hu1:Vbwsao.unlike ((Vbwsao.pairs l).map fun x=>x.1)=true
      ·have:=hm2.mpr (hnd.mpr ((wS _).mp hu1))
       rw [hu1]
       exact decide_eq_false (by omega)
      ·have h6:¬ m=((Vbwsao.pairs l).map fun x=>(x.1:Int)).length:=fun q=>hu1 ((wS _).mpr (hnd.mp (hm2.mp q)))
       rw [Bool.not_eq_true] at hu1
       rw [hu1]
       exact decide_eq_true (by omega)
     have hul:Vbwsao.unlike ((Vbwsao.pairs l).map fun x=>x.1)=true:=by simpa using e3
     refine ⟨_,rfl,zY S5 ⟨.inl ⟨rfl,_,SqL.of S5.rs.1⟩,_,rfl,_,rfl,_,rfl,_,rfl,fun y dx ny ndy ney=>?_⟩⟩
     refine ⟨y,dx,D,⟨g,c.toNat,t.toNat,Vbwsao.pairs l⟩,?_,zf,fun H6 h6 hbut=>⟨rfl,?_⟩⟩
     ·show [V.ref y,V.int (g:Int),V.int c,V.int t,V.ref D]++[]=[V.ref y,V.int (g:Int),V.int ((c.toNat:Nat):Int),V.int ((t.toNat:Nat):Int),V.ref D]
      rw [show ((c.toNat:Nat):Int)=c by omega,show ((t.toNat:Nat):Int)=t by omega]
      rfl
     ·have s6:Same H5 H6:=hbut.same ny ndy
      have S6:=S5.same s6
      have pD:PrsAt H6 D (Vbwsao.pairs l):=(((hneeds.same s2).same s3).same s4).same s5 |>.same s6
      have S7:=S6.addRec (y:=⟨g,c.toNat,t.toNat,Vbwsao.pairs l⟩) h6 (S.fresh hD) pD
      have f7:Frm (kap T) A.tops H6 (L2.upd H6 A.rl (.lst (A.ra.map V.ref++[.ref y]))):=jv S6.rs.1 (by simp)
      refine ⟨A.rl,_,_,rfl,rfl,S6.rs.1,?_,?_⟩
      ·rw [List.length_map,S.rs.2.1]
       exact small (m:=1000) (by have:=I.r.len;omega)
      ·refine ⟨_,rfl,zY (A:={ A with ra:=A.ra++[y] }) S7 ⟨A.rl,_,rfl,.inl (SqL.of S7.rs.1),_,_,rfl,rfl,(by show 2≤sizeLine;decide),fun p hp=>?_⟩⟩
       have ka:=k p (L2.upd (L2.upd H6 A.rl (.lst (A.ra.map V.ref++[.ref y]))) p (.lst ([0,(st.recipes.length:Int)].map V.int))) { A with ra:=A.ra++[y] } rfl rfl
       rw [YM hi hg e e2' hul] at ka
       have I':SInv { st with recipes:=st.recipes++[⟨(g:Int).toNat,c.toNat,t.toNat,Vbwsao.pairs l⟩] }:=by
        refine ⟨I.g,⟨by show (st.recipes++_).length≤16;simp;omega,fun r hr2=>?_⟩,I.b,I.ml,fun m hm=>?_,fun h=>?_⟩
        ·rcases List.mem_append.mp hr2 with h | h
         ·exact I.r.ok r h
         ·simp only [List.mem_singleton] at h
          subst h
          have eg1:=e'.1
          have eg2:=e'.2
          unfold Vbwsao.ng at eg1
          have eg3:=of_decide_eq_false eg1
          rw [List.any_eq_false] at eg2
          refine ⟨?_,?_,?_,hlen4,fun x hx=>⟨?_,(f2 x hx).2.1,(f2 x hx).2.2⟩,(wS _).mp hul⟩
          ·show (g:Int).toNat<st.goods.length
           omega
          ·show 1≤c.toNat
           omega
          ·show c.toNat≤1000
           omega
          ·have h7:=eg2 x hx
           unfold Vbwsao.ng at h7
           have h8:¬ (st.goods.length:Int)≤(x.1:Int):=fun q=>h7 (decide_eq_true q)
           show x.1<st.goods.length
           omega
        ·have:=I.m m hm
         show _∧_∧_<(st.recipes++[_]).length
         simp
         omega
        ·rw [h] at hg
         cases hg
       have kb:=ka (S7.same (zM hp)) I' zf (((zy (s05.trans s6)).trans f7).trans (zy (zM hp)))
       have e8:(((A.ra++[y]).map V.ref).length:Int) - 1=(st.recipes.length:Int):=by
        rw [List.length_map,List.length_append,S.rs.2.1]
        simp
       have e9:[V.int 0,V.int ((((A.ra++[y]).map V.ref).length:Int) - 1)]=[0,(st.recipes.length:Int)].map V.int:=by
        rw [e8]
        rfl
       rw [← e9] at kb
       exact kb
end
end BM
end
section
namespace BM
open Vbwsao
theorem take?_some {bs:List Bag} {b g n:Nat} {x:Bag} (hx:bs[b]? = some x) (h:n≤countIn x.stacks g):take? bs b g n=some (takeRaw bs b g n):=by
 unfold take?
 rw [zK hx,if_neg (by omega)]
theorem take?_none {bs:List Bag} {b g n:Nat} {x:Bag} (hx:bs[b]? = some x) (h:¬ n≤countIn x.stacks g):take? bs b g n=none:=by
 unfold take?
 rw [zK hx,if_pos (by omega)]
theorem k7 {bs:List Bag} {b g n:Nat} {x:Bag} (hx:bs[b]? = some x):(takeRaw bs b g n)[b]? = some { x with stacks:=takeStacks g n x.stacks }:=by
 rw [z4 g n hx]
 exact List.getElem?_set_self (List.getElem?_eq_some_iff.mp hx).1
theorem yq {b:Nat}:∀ (l:List (Nat × Nat)) (bs:List Bag) (x:Bag),bs[b]? = some x→(l.map (·.1)).Nodup→(∀ y∈l,y.2≤countIn x.stacks y.1)→∃ bs' x',takeAll bs b l=some bs'∧bs'[b]? = some x'∧(∀ h,countIn x'.stacks h+(l.map fun y=>if y.1=h then y.2 else 0).sum=countIn x.stacks h)
 | [],bs,x,hx,_,_=>⟨bs,x,rfl,hx,fun h=>rfl⟩
 | y :: l,bs,x,hx,hn,hc=>by
  have hy:=hc y List.mem_cons_self
  rw [List.map_cons,List.nodup_cons] at hn
  have hne:∀ z∈l,¬ z.1=y.1:=fun z hz q=>hn.1 (q ▸ List.mem_map.mpr ⟨z,hz,rfl⟩)
  obtain ⟨bs',x',h1,h2,h3⟩:=yq l (takeRaw bs b y.1 y.2) _ (k7 hx) hn.2 fun z hz=>by
   show z.2≤countIn (takeStacks y.1 y.2 x.stacks) z.1
   rw [uC,if_neg (hne z hz)]
   exact hc z (List.mem_cons_of_mem _ hz)
  refine ⟨bs',x',?_,h2,fun h=>?_⟩
  ·show (take? bs b y.1 y.2).bind _=_
   rw [take?_some hx hy]
   exact h1
  ·have:=h3 h
   rw [show ({ x with stacks:=takeStacks y.1 y.2 x.stacks }:Bag).stacks=takeStacks y.1 y.2 x.stacks from rfl,uC] at this
   rw [List.map_cons,List.sum_cons]
   by_cases e:y.1=h
   ·subst e
    rw [if_pos rfl] at this ⊢
    omega
   ·rw [if_neg (fun q=>e q.symm)] at this
    rw [if_neg e]
    omega
theorem k8 {b:Nat}:∀ (l:List (Nat × Nat)) (bs:List Bag) (x:Bag),bs[b]? = some x→(l.map (·.1)).Nodup→¬ (∀ y∈l,y.2≤countIn x.stacks y.1)→takeAll bs b l=none
 | [],bs,x,hx,_,h=>absurd (fun y hy=>by cases hy) h
 | y :: l,bs,x,hx,hn,h=>by
  rw [List.map_cons,List.nodup_cons] at hn
  have hne:∀ z∈l,¬ z.1=y.1:=fun z hz q=>hn.1 (q ▸ List.mem_map.mpr ⟨z,hz,rfl⟩)
  show (take? bs b y.1 y.2).bind _=_
  by_cases hy:y.2≤countIn x.stacks y.1
  ·rw [take?_some hx hy]
   refine k8 l (takeRaw bs b y.1 y.2) _ (k7 hx) hn.2 fun q=>h fun z hz=>?_
   rcases List.mem_cons.mp hz with rfl | hz
   ·exact hy
   ·have:=q z hz
    rw [show ({ x with stacks:=takeStacks y.1 y.2 x.stacks }:Bag).stacks=takeStacks y.1 y.2 x.stacks from rfl,uC,if_neg (hne z hz)] at this
    exact this
  ·rw [take?_none hx hy]
   rfl
theorem yp {b:Nat}:∀ (l:List (Nat × Nat)) (bs bs':List Bag),takeAll bs b l=some bs'→bs'.length=bs.length
 | [],bs,bs',h=>by
  have:bs=bs':=Option.some.inj h
  rw [this]
 | y :: l,bs,bs',h=>by
  have h':(take? bs b y.1 y.2).bind (fun c=>takeAll c b l)=some bs':=h
  unfold take? at h'
  split at h'
  ·cases h'
  ·rw [yp l _ bs' h']
   unfold takeRaw setBag
   simp
section
variable {s:State} {g m n a b r:Int}
theorem yr (hi:callIn (.machine a b r)=true) (hg:s.goods.isEmpty=false) (h:(nb s a||(nb s b||decide ((s.recipes.length:Int)≤r)))=true):step s (.machine a b r)=(s,[-3]):=by
 unfold step;dsimp only
 exact (zg (congrArg not hi)).trans ((zg hg).trans (zU h))
theorem JZ (hi:callIn (.machine a b r)=true) (hg:s.goods.isEmpty=false) (h:(nb s a||(nb s b||decide ((s.recipes.length:Int)≤r)))=false) (h2:6≤s.machines.length):step s (.machine a b r)=(s,[-4]):=by
 unfold step;dsimp only
 exact (zg (congrArg not hi)).trans ((zg hg).trans ((zg h).trans (zU (decide_eq_true h2))))
theorem Wi (hi:callIn (.machine a b r)=true) (hg:s.goods.isEmpty=false) (h:(nb s a||(nb s b||decide ((s.recipes.length:Int)≤r)))=false) (h2:¬ 6≤s.machines.length):step s (.machine a b r)=({ s with machines:=s.machines++[⟨a.toNat,b.toNat,r.toNat,0,false,0,0⟩] },[0,(s.machines.length:Int)]):=by
 unfold step;dsimp only
 exact (zg (congrArg not hi)).trans ((zg hg).trans ((zg h).trans ((zg (decide_eq_false h2)).trans jx)))
theorem YN (hi:callIn (.order m n)=true) (hg:s.goods.isEmpty=false) (h:decide ((s.machines.length:Int)≤m)=true):step s (.order m n)=(s,[-3]):=by
 unfold step;dsimp only
 exact (zg (congrArg not hi)).trans ((zg hg).trans (zU h))
theorem st_order (hi:callIn (.order m n)=true) (hg:s.goods.isEmpty=false) (h:decide ((s.machines.length:Int)≤m)=false):step s (.order m n)=({ s with machines:=(s.machines.zipIdx).map fun x=>if (x.2:Int)=m then { x.1 with queue:=x.1.queue+n.toNat } else x.1 },[0]):=by
 unfold step;dsimp only
 exact (zg (congrArg not hi)).trans ((zg hg).trans ((zg h).trans jx))
theorem YJ (hi:callIn (.tick n)=true) (hg:s.goods.isEmpty=false) (h:10000<s.ticks+n.toNat):step s (.tick n)=(s,[-10]):=by
 unfold step;dsimp only
 exact (zg (congrArg not hi)).trans ((zg hg).trans (zU (decide_eq_true h)))
theorem st_tick (hi:callIn (.tick n)=true) (hg:s.goods.isEmpty=false) (h:¬ 10000<s.ticks+n.toNat):step s (.tick n)=({ s with bags:=(machinesTicks s.goods s.recipes n.toNat s.bags s.machines).1,machines:=(machinesTicks s.goods s.recipes n.toNat s.bags s.machines).2,ticks:=s.ticks+n.toNat },[0,((s.ticks+n.toNat:Nat):Int)]):=by
 unfold step;dsimp only
 exact (zg (congrArg not hi)).trans ((zg hg).trans ((zg (decide_eq_false h)).trans jx))
theorem YK (hi:callIn (.state m)=true) (hg:s.goods.isEmpty=false) (h:decide ((s.machines.length:Int)≤m)=true):step s (.state m)=(s,[-3]):=by
 unfold step;dsimp only
 exact (zg (congrArg not hi)).trans ((zg hg).trans (zU h))
theorem JW (hi:callIn (.state m)=true) (hg:s.goods.isEmpty=false) (h:decide ((s.machines.length:Int)≤m)=false) {x:Machine} (hx:s.machines[m.toNat]? = some x):step s (.state m)=(s,[0,(x.from_:Int),(x.to_:Int),(x.recipe:Int),(x.queue:Int),if x.working=true then 1 else 0,(x.left:Int),(x.made:Int)]):=by
 unfold step;dsimp only
 refine (zg (congrArg not hi)).trans ((zg hg).trans ((zg h).trans (jx.trans ?_)))
 rw [hx]
theorem YQ (hi:callIn (.count g)=true) (hg:s.goods.isEmpty=false) (h:ng s g=true):step s (.count g)=(s,[-3]):=by
 unfold step;dsimp only
 exact (zg (congrArg not hi)).trans ((zg hg).trans (zU h))
theorem st_count (hi:callIn (.count g)=true) (hg:s.goods.isEmpty=false) (h:ng s g=false):step s (.count g)=(s,[0,(countAll s g.toNat:Int)]):=by
 unfold step;dsimp only
 exact (zg (congrArg not hi)).trans ((zg hg).trans ((zg h).trans jx))
theorem st_find3 (hi:callIn (.find g)=true) (hg:s.goods.isEmpty=false) (h:ng s g=true):step s (.find g)=(s,[-3]):=by
 unfold step;dsimp only
 exact (zg (congrArg not hi)).trans ((zg hg).trans (zU h))
theorem st_find (hi:callIn (.find g)=true) (hg:s.goods.isEmpty=false) (h:ng s g=false):step s (.find g)=(s,0 :: ((List.range s.bags.length).filter fun b=>decide (0<countIn (bagAt s.bags b).stacks g.toNat)).map fun (b:Nat)=>(b:Int)):=by
 unfold step;dsimp only
 exact (zg (congrArg not hi)).trans ((zg hg).trans ((zg h).trans jx))
end
theorem YX {ms:List Machine} {j n:Nat} {x:Machine} (hx:ms[j]? = some x):(ms.zipIdx).map (fun y=>if (y.2:Int)=(j:Int) then { y.1 with queue:=y.1.queue+n } else y.1)=ms.set j { x with queue:=x.queue+n }:=by
 apply List.ext_getElem?
 intro i
 rw [List.getElem?_map,List.getElem?_zipIdx]
 by_cases e:j=i
 ·subst e
  rw [List.getElem?_set_self (List.getElem?_eq_some_iff.mp hx).1,hx]
  simp
 ·rw [List.getElem?_set_ne e]
  cases ms[i]? with
  | none=>rfl
  | some y=>
   simp
   intro q
   exact absurd (by omega) e
end BM
end
section
namespace BM
open PySem PySem.Spec L2
open PyProof.Rows hiding St
open Vbwsao (Good Recipe Bag Machine State)
section
variable {P:Program} {w:World} {K:PySem.W.Frag} {mg:Str→Option Value} {base:Heap}
theorem StX.setMach {T:Prog K mg} {H:Hp} {A:Adr} {s:State} {hs:List Int} (S:StX T H A s hs) {j:Nat} {a dx:Addr} {m m':Machine} (ha:A.ma[j]? = some a) (hm:s.machines[j]? = some m) (e:H a=some (.ins T.kMachine.C dx (fsMach m))) :
  StX T (L2.upd H a (.ins T.kMachine.C dx (fsMach m'))) A { s with machines:=s.machines.set j m' } hs:=by
 have f:Frm [T.kMachine.C] [] H (L2.upd H a (.ins T.kMachine.C dx (fsMach m'))):=jp e (by simp)
 obtain ⟨dx0,e0⟩:=S.st
 refine ⟨⟨dx0,f.ins e0 (by simp;exact nSM)⟩,S.gs.imp (f.lst S.gs.1 (by simp)) fun b x h=>h.frm f (by simp;exact nGM),S.rs.imp (f.lst S.rs.1 (by simp)) fun b x h=>h.frm f (by simp;exact nRM) (by simp),
  S.bs.imp (f.lst S.bs.1 (by simp)) fun b x h=>h.frm f (by simp;exact Ne.symm nMB) (by simp),⟨f.lst S.ms.1 (by simp),by simp [S.ms.2.1],fun i c x hc hx=>?_⟩,S.hl,S.nb,S.nm,S.nt⟩
 by_cases q:i=j
 ·subst q
  rw [ha] at hc
  cases hc
  have hx':(s.machines.set i m')[i]? = some x:=hx
  rw [List.getElem?_set_self (zT hm)] at hx'
  cases hx'
  exact ⟨dx,zf⟩
 ·have hx':(s.machines.set j m')[i]? = some x:=hx
  rw [List.getElem?_set_ne (fun z=>q z.symm)] at hx'
  have nc:c≠a:=fun z=>q (nd_ix S.nm hc (by rw [z];exact ha))
  obtain ⟨dx',e'⟩:=S.ms.2.2 i c x hc hx'
  exact ⟨dx',by rw [zl nc];exact e'⟩
theorem StX.mach {T:Prog K mg} {H:Hp} {A:Adr} {s:State} {hs:List Int} (S:StX T H A s hs) {j:Nat} {m:Machine} (hm:s.machines[j]? = some m):∃ a dx,A.ma[j]? = some a∧H a=some (.ins T.kMachine.C dx (fsMach m)):=by
 obtain ⟨a,ha,dx,e⟩:=S.ms.get hm
 exact ⟨a,dx,ha,e⟩
theorem StX.machAt {T:Prog K mg} {H:Hp} {A:Adr} {s:State} {hs:List Int} (S:StX T H A s hs) {j:Nat} {a:Addr} {m:Machine} (ha:A.ma[j]? = some a) (hm:s.machines[j]? = some m):∃ dx,H a=some (.ins T.kMachine.C dx (fsMach m)):=S.ms.2.2 j a m ha hm
theorem StX.reci {T:Prog K mg} {H:Hp} {A:Adr} {s:State} {hs:List Int} (S:StX T H A s hs) {j:Nat} {r:Recipe} (hr:s.recipes[j]? = some r):∃ a dx nl,A.ra[j]? = some a∧H a=some (.ins T.kRecipe.C dx (fsRec r nl))∧nl∉A.tops∧PrsAt H nl r.needs:=by
 obtain ⟨a,ha,dx,nl,e,n,p⟩:=S.rs.get hr
 exact ⟨a,dx,nl,ha,e,n,p⟩
def kBM (T:Prog K mg):List Addr:=[T.kBag.C,T.kMachine.C]
theorem frmM {T:Prog K mg} {H H1:Hp} (f:Frm [T.kMachine.C] [] H H1):Frm (kBM T) [] H H1:=f.mono (fun x hx=>by simp at hx;subst hx;simp [kBM]) (fun _ h=>h)
theorem frmB2 {T:Prog K mg} {H H1:Hp} (f:Frm [T.kBag.C] [] H H1):Frm (kBM T) [] H H1:=f.mono (fun x hx=>by simp at hx;subst hx;simp [kBM]) (fun _ h=>h)
theorem SInv.mach {s:State} (I:SInv s) {j:Nat} {m m':Machine} (hm:s.machines[j]? = some m) (h1:m'.from_=m.from_) (h2:m'.to_=m.to_) (h3:m'.recipe=m.recipe):SInv { s with machines:=s.machines.set j m' } where
 g:=I.g
 r:=I.r
 b:=I.b
 ml:=by show (s.machines.set j m').length≤6;rw [List.length_set];exact I.ml
 m:=fun x hx=>by
  rcases List.mem_or_eq_of_mem_set hx with h | rfl
  ·exact I.m x h
  ·have:=I.m m (List.mem_of_getElem? hm)
   rw [h1,h2,h3]
   exact this
 em:=I.em
def tickS (s:State) (j:Nat) (m:Machine):State:={ s with bags:=(Vbwsao.machineTick s.goods s.recipes s.bags m).1,machines:=s.machines.set j (Vbwsao.machineTick s.goods s.recipes s.bags m).2 }
def MachOk (T:Prog K mg) (A:Adr) (s:State) (j:Nat) (m:Machine) (H:Hp) (Q:VK):Prop:=∀ H',StAt T H' A (tickS s j m)→SInv (tickS s j m)→Frm (kBM T) [] H H'→Q .non H'
theorem vW:FnScope ["state","machine","makes"] ["state","machine"] (defScope yG):=⟨rfl,rfl,rfl,by decide +kernel,rfl,by decide +kernel,by decide +kernel⟩
def Z8 (T:Prog K mg):Sp:=fun vs H Q _=>∃ (A:Adr) (s:State) (j:Nat) (a:Addr) (m:Machine),vs=[.ref A.st,.ref a]∧StAt T H A s∧SInv s∧A.ma[j]? = some a∧s.machines[j]? = some m∧m.working=true∧¬ 1<m.left∧MachOk T A s j m H Q
theorem Jy (T:Prog K mg):FnOk P w K mg base CX0 5 T.bring_out.f T.bring_out.fd ["state","machine"] (Z8 T):=by
 refine T.bring_out.fn.ok vW (fun vs H Q E h=>?_) (fun cdv A outer s H vs Q E hr h=>?_)
 ·obtain ⟨A,s,j,a,m,rfl,_⟩:=h
  rfl
 ·obtain ⟨A,st,j,a,m,rfl,S,I,ha,hm,hw,hlt,k⟩:=h
  obtain ⟨i1,i2,i3⟩:=I.m m (List.mem_of_getElem? hm)
  obtain ⟨r,hrc⟩:∃ r,st.recipes[m.recipe]? = some r:=⟨_,List.getElem?_eq_getElem i3⟩
  have Rr:=I.r.ok r (List.mem_of_getElem? hrc)
  obtain ⟨dx,e1⟩:=S.machAt ha hm
  refine ⟨_,(za (zC (K:=K) rfl (pv 1) zj rfl)
   (za (zt (i:=2) vW.nd rfl (by first | exact Or.inl rfl | exact Or.inr rfl) (zd (K:=K) rfl (zv (zk (K:=K) rfl) (zd (K:=K) rfl (pv 0) rfl) (zd (K:=K) rfl (pv 1) rfl) (fun _ _=>rfl)) rfl))
   (ze (zB (zN (zi (jt T) (hr.mono (by decide)) rfl T.put_if_it_fits.at_ T.put_if_it_fits.fn.kp T.put_if_it_fits.b .nil pass0 (zc (pv 0) (zc (zd (K:=K) rfl (pv 1) rfl) (zc (pv 2) (zc zj zb)))))) (za (zC (K:=K) rfl (pv 1) (zI jf (zd (K:=K) rfl (pv 1) rfl) zj) rfl)
   (ze (zC (K:=K) rfl (pv 1) qU rfl))) zp)))),?_⟩
  refine ⟨_,rfl,a,T.kMachine.C,dx,_,rfl,e1,T.kMachine.cl,T.kMachine.no _ (List.mem_of_getElem? (i:=5) rfl),(by show 7<1000;decide),?_⟩
  have S1:=S.setMach (m':={ m with left:=0 }) ha hm e1
  have f1:Frm [T.kMachine.C] [] H (L2.upd H a (.ins T.kMachine.C dx (putF "left" (.int 0) (fsMach m)))):=jp e1 (by simp)
  have hm1:(st.machines.set j { m with left:=0 })[j]? = some { m with left:=0 }:=List.getElem?_set_self (zT hm)
  have e2:(L2.upd H a (.ins T.kMachine.C dx (putF "left" (.int 0) (fsMach m)))) a=some (.ins T.kMachine.C dx (fsMach { m with left:=0 })):=zf
  have I1:=I.mach (m':={ m with left:=0 }) hm rfl rfl rfl
  obtain ⟨ra,rdx,nl,hra,er,_,_⟩:=S1.reci hrc
  refine ⟨_,rfl,zY S1 ⟨_,rfl,yW T e2 (jb S1.rs hra (qQ T er ?_))⟩⟩
  have emt:Vbwsao.machineTick st.goods st.recipes st.bags m=match Vbwsao.put? st.goods st.bags m.to_ r.makes 1 with
    | some c=>(c,{ m with working:=false,left:=0,made:=m.made+1 })
    | none=>(st.bags,{ m with left:=0 }):=by
   unfold Vbwsao.machineTick
   rw [hrc]
   dsimp only
   rw [if_pos hw,if_neg hlt]
   cases Vbwsao.put? st.goods st.bags m.to_ r.makes 1 <;> rfl
  refine ⟨_,rfl,_,rfl,yb T e2 ⟨_,rfl,A,_,m.to_,r.makes,1,rfl,S1,I1.g,I1.b,i2,Rr.1,fun bs' H2 hq B2 S2 f2=>⟨true,rfl,?_⟩,fun hq H2 s2=>⟨false,rfl,?_⟩⟩⟩
  ·have e3:Vbwsao.machineTick st.goods st.recipes st.bags m=(bs',{ m with working:=false,left:=0,made:=m.made+1 }):=by
    rw [emt]
    have hq':Vbwsao.put? st.goods st.bags m.to_ r.makes 1=some bs':=hq
    rw [hq']
   obtain ⟨dx2,e4⟩:=S2.machAt ha hm1
   have e4':=e4
   have S3:=S2.setMach (m':={ m with left:=0,made:=m.made+1 }) ha hm1 e4
   have f3:Frm [T.kMachine.C] [] H2 (L2.upd H2 a (.ins T.kMachine.C dx2 (putF "made" (.int ((m.made:Int)+1)) (fsMach { m with left:=0 })))):=jp e4 (by simp)
   refine ⟨_,rfl,Jl T e4 ⟨_,_,rfl,rfl,_,rfl,a,T.kMachine.C,dx2,_,rfl,e4,T.kMachine.cl,T.kMachine.no _ (List.mem_of_getElem? (i:=6) rfl),(by show 7<1000;decide),?_⟩⟩
   have e5:(L2.upd H2 a (.ins T.kMachine.C dx2 (putF "made" (.int ((m.made:Int)+1)) (fsMach { m with left:=0 })))) a=some (.ins T.kMachine.C dx2 (fsMach { m with left:=0,made:=m.made+1 })):=zf
   have hm3:((st.machines.set j { m with left:=0 }).set j { m with left:=0,made:=m.made+1 })[j]? = some { m with left:=0,made:=m.made+1 }:=List.getElem?_set_self (by rw [List.length_set];exact zT hm)
   have S4:=S3.setMach (m':={ m with working:=false,left:=0,made:=m.made+1 }) ha hm3 e5
   have f4:Frm [T.kMachine.C] [] (L2.upd H2 a (.ins T.kMachine.C dx2 (putF "made" (.int ((m.made:Int)+1)) (fsMach { m with left:=0 })))) (L2.upd (L2.upd H2 a (.ins T.kMachine.C dx2 (putF "made" (.int ((m.made:Int)+1)) (fsMach { m with left:=0 })))) a (.ins T.kMachine.C dx2 (putF "works" (.bl false) (fsMach { m with left:=0,made:=m.made+1 })))):=jp e5 (by simp)
   refine ⟨_,rfl,a,T.kMachine.C,dx2,_,rfl,e5,T.kMachine.cl,T.kMachine.no _ (List.mem_of_getElem? (i:=4) rfl),(by show 7<1000;decide),?_⟩
   have ets:tickS st j m = { st with bags:=bs',machines:=st.machines.set j { m with working:=false,left:=0,made:=m.made+1 } }:=by
    unfold tickS
    rw [e3]
   refine k _ ?_ ?_ ((((frmM f1).trans (frmB2 f2)).trans (frmM f3)).trans (frmM f4))
   ·rw [ets]
    have S5:StX T _ A { st with bags:=bs',machines:=((st.machines.set j { m with left:=0 }).set j { m with left:=0,made:=m.made+1 }).set j { m with working:=false,left:=0,made:=m.made+1 } } (heldOf st.goods bs'):=S4
    rw [List.set_set,List.set_set] at S5
    exact S5
   ·rw [ets]
    exact (I.bags B2 (Qp hq)).mach (m':={ m with working:=false,left:=0,made:=m.made+1 }) hm rfl rfl rfl
  ·have e3:Vbwsao.machineTick st.goods st.recipes st.bags m=(st.bags,{ m with left:=0 }):=by
    rw [emt]
    have hq':Vbwsao.put? st.goods st.bags m.to_ r.makes 1=none:=hq
    rw [hq']
   have ets:tickS st j m = { st with machines:=st.machines.set j { m with left:=0 } }:=by
    unfold tickS
    rw [e3]
   refine k H2 ?_ ?_ ((frmM f1).trans (zy s2))
   ·rw [ets]
    exact S1.same s2
   ·rw [ets]
    exact I1
theorem wD:FnScope ["state","machine","recipe","stacks","good","many"] ["state","machine"] (defScope Jj):=⟨rfl,rfl,rfl,by decide +kernel,rfl,by decide +kernel,by decide +kernel⟩
def sp_begin (T:Prog K mg):Sp:=fun vs H Q _=>∃ (A:Adr) (s:State) (j:Nat) (a:Addr) (m:Machine),vs=[.ref A.st,.ref a]∧StAt T H A s∧SInv s∧A.ma[j]? = some a∧s.machines[j]? = some m∧m.working=false∧¬ m.queue=0∧MachOk T A s j m H Q
theorem ok_begin (T:Prog K mg):FnOk P w K mg base CX0 5 T.begin.f T.begin.fd ["state","machine"] (sp_begin T):=by
 refine T.begin.fn.ok wD (fun vs H Q E h=>?_) (fun cdv A outer s H vs Q E hr h=>?_)
 ·obtain ⟨A,s,j,a,m,rfl,_⟩:=h
  rfl
 ·obtain ⟨A,st,j,a,m,rfl,S,I,ha,hm,hw,hqu,k⟩:=h
  obtain ⟨i1,i2,i3⟩:=I.m m (List.mem_of_getElem? hm)
  obtain ⟨r,hrc⟩:∃ r,st.recipes[m.recipe]? = some r:=⟨_,List.getElem?_eq_getElem i3⟩
  have Rr:=I.r.ok r (List.mem_of_getElem? hrc)
  obtain ⟨x,hx⟩:∃ x,st.bags[m.from_]? = some x:=⟨_,List.getElem?_eq_getElem i1⟩
  obtain ⟨dx,e1⟩:=S.machAt ha hm
  obtain ⟨ra,rdx,nl,hra,er,hnl,pnl⟩:=S.reci hrc
  obtain ⟨ba,h,hba,_,bdx,sl,eb,_,psl⟩:=S.bag hx
  have hsl:=I.b.stk_len hx
  have emt:Vbwsao.machineTick st.goods st.recipes st.bags m=match Vbwsao.takeAll st.bags m.from_ r.needs with
    | some c=>(c,{ m with working:=true,left:=r.ticks,queue:=m.queue - 1 })
    | none=>(st.bags,m):=by
   unfold Vbwsao.machineTick
   rw [hrc]
   dsimp only
   rw [if_neg (by rw [hw];exact Bool.false_ne_true),if_neg hqu]
   cases Vbwsao.takeAll st.bags m.from_ r.needs <;> rfl
  refine ⟨_,(za (zt (i:=2) wD.nd rfl (by first | exact Or.inl rfl | exact Or.inr rfl) (zv (zk (K:=K) rfl) (zd (K:=K) rfl (pv 0) rfl) (zd (K:=K) rfl (pv 1) rfl) (fun _ _=>rfl)))
   (za (zt (i:=3) wD.nd rfl (by first | exact Or.inl rfl | exact Or.inr rfl) (zd (K:=K) rfl (zv (zk (K:=K) rfl) (zd (K:=K) rfl (pv 0) rfl) (zd (K:=K) rfl (pv 1) rfl) (fun _ _=>rfl)) rfl))
   (ze (zB (zN (zr (JG (K:=K) rfl rfl) (by rfl) T.b_all W3 (zc (qT rfl wD.nd (zL (K:=K) rfl (zd (K:=K) rfl (pv 2) rfl)) (own:=[("good",4),("many",5)]) (zW (by kernel_rfl)) (fun _ _ _ _ _=>(js (K:=K) (n:=2) rfl rfl (zF (zw (i:=4) wD.nd rfl (by first | exact Or.inl rfl | exact Or.inr rfl)) (zF (zw (i:=5) wD.nd rfl (by first | exact Or.inl rfl | exact Or.inr rfl)) jr)))) (fun _ _ _ _ _=>jC) (fun _ _ _ _ _=>(wa kf (zi (jJ T) (hr.mono (by decide)) rfl T.count_in.at_ T.count_in.fn.kp T.count_in.b .nil pass0 (zc (pv 3) (zc (pv 4) zb))) (pv 5) (nomark _)))) zb))) (za (zG (zi (vi T) (hr.mono (by decide)) rfl T.take_needs.at_ T.take_needs.fn.kp T.take_needs.b .nil pass0 (zc (pv 0) (zc (zd (K:=K) rfl (pv 1) rfl) (zc (zd (K:=K) rfl (pv 2) rfl) (zc zj zb))))))
   (za (zC (K:=K) rfl (pv 1) (zI jI (zd (K:=K) rfl (pv 1) rfl) zj) rfl)
   (za (zC (K:=K) rfl (pv 1) qU rfl)
   (ze (zC (K:=K) rfl (pv 1) (zd (K:=K) rfl (pv 2) rfl) rfl))))) zp)))),?_⟩
  refine ⟨_,rfl,zY S ⟨_,rfl,yW T e1 (jb S.rs hra ⟨_,rfl,zP S ⟨_,rfl,qi T e1 (jb S.bs hba (jk T eb ?_))⟩⟩)⟩⟩
  refine ⟨_,rfl,wE T er ⟨nl,rfl,uA (fun y=>V.bl (decide ((y.2:Int)≤(Vbwsao.countIn x.stacks y.1:Int)))) pnl (small (m:=1000) (by omega)) ?_ y3 ?_⟩⟩
  ·rintro y aa H1 N1 hy s1 hpa k1
   exact jY hpa ⟨rfl,_,rfl,_,rfl,sl,x.stacks,y.1,rfl,psl.same s1,(by omega),fun H2 s2=>⟨_,rfl,_,_,rfl,rfl,k1 H2 s2⟩⟩
  ·intro D H1 s1 hD hD1
   refine ⟨D,r.needs.map fun y=>decide ((y.2:Int)≤(Vbwsao.countIn x.stacks y.1:Int)),rfl,SqL.of (by rw [hD1,List.map_map];rfl),_,rfl,?_⟩
   have eall:((r.needs.map fun y=>decide ((y.2:Int)≤(Vbwsao.countIn x.stacks y.1:Int))).all id)=r.needs.all fun y=>decide (y.2≤Vbwsao.countIn x.stacks y.1):=by
    rw [List.all_map]
    congr 1
    funext y
    exact decide_eq_decide.mpr (by omega)
   refine zx eall (fun e=>?_) (fun e=>?_)
   ·have hall:∀ y∈r.needs,y.2≤Vbwsao.countIn x.stacks y.1:=fun y hy=>of_decide_eq_true (List.all_eq_true.mp e y hy)
    obtain ⟨bs',x',ht,_,_⟩:=yq r.needs st.bags x hx Rr.2.2.2.2.2 hall
    have S1:=S.same s1
    have er1:=s1 _ _ er
    have e11:=s1 _ _ e1
    have ht1:Vbwsao.takeAll st.bags m.from_ (r.needs.map fun y=>(y.1,y.2 * 1))=some bs':=by
     rw [show (fun y:Nat × Nat=>(y.1,y.2 * 1))=id by funext y;simp,List.map_id]
     exact ht
    refine ⟨_,rfl,_,rfl,qi T e11 ⟨_,rfl,wE T er1 ⟨A,st,m.from_,1,nl,r.needs,bs',rfl,S1,I.g,I.b,i1,pnl.same s1,fun y hy=>⟨(Rr.2.2.2.2.1 y hy).1,(Rr.2.2.2.2.1 y hy).2.2⟩,ht1,fun H2 B2 S2 f2=>?_⟩⟩⟩
    obtain ⟨dx2,e4⟩:=S2.machAt ha hm
    have S3:=S2.setMach (m':={ m with queue:=m.queue - 1 }) ha hm e4
    have eq1:((m.queue - 1:Nat):Int)=(m.queue:Int) - 1:=by omega
    refine ⟨_,rfl,qR T e4 ⟨_,_,rfl,rfl,_,rfl,a,T.kMachine.C,dx2,_,rfl,e4,T.kMachine.cl,T.kMachine.no _ (List.mem_of_getElem? (i:=3) rfl),(by show 7<1000;decide),?_⟩⟩
    have f3:Frm [T.kMachine.C] [] H2 (L2.upd H2 a (.ins T.kMachine.C dx2 (putF "ordered" (.int ((m.queue:Int) - 1)) (fsMach m)))):=jp e4 (by simp)
    have e5:(L2.upd H2 a (.ins T.kMachine.C dx2 (putF "ordered" (.int ((m.queue:Int) - 1)) (fsMach m)))) a=some (.ins T.kMachine.C dx2 (fsMach { m with queue:=m.queue - 1 })):=by
     rw [zf,← eq1]
     rfl
    have S3':StX T (L2.upd H2 a (.ins T.kMachine.C dx2 (putF "ordered" (.int ((m.queue:Int) - 1)) (fsMach m)))) A { st with bags:=bs',machines:=st.machines.set j { m with queue:=m.queue - 1 } } (heldOf st.goods bs'):=by
     rw [← eq1]
     exact S3
    have hm3:(st.machines.set j { m with queue:=m.queue - 1 })[j]? = some { m with queue:=m.queue - 1 }:=List.getElem?_set_self (zT hm)
    have S4:=S3'.setMach (m':={ m with queue:=m.queue - 1,working:=true }) ha hm3 e5
    refine ⟨_,rfl,a,T.kMachine.C,dx2,_,rfl,e5,T.kMachine.cl,T.kMachine.no _ (List.mem_of_getElem? (i:=4) rfl),(by show 7<1000;decide),?_⟩
    generalize hH3:L2.upd H2 a (.ins T.kMachine.C dx2 (putF "ordered" (.int ((m.queue:Int) - 1)) (fsMach m)))=H3 at f3 e5 S3' S4 ⊢
    have f4:Frm [T.kMachine.C] [] H3 (L2.upd H3 a (.ins T.kMachine.C dx2 (putF "works" (.bl true) (fsMach { m with queue:=m.queue - 1 })))):=jp e5 (by simp)
    have e6:(L2.upd H3 a (.ins T.kMachine.C dx2 (putF "works" (.bl true) (fsMach { m with queue:=m.queue - 1 })))) a=some (.ins T.kMachine.C dx2 (fsMach { m with queue:=m.queue - 1,working:=true })):=zf
    have hm4:((st.machines.set j { m with queue:=m.queue - 1 }).set j { m with queue:=m.queue - 1,working:=true })[j]? = some { m with queue:=m.queue - 1,working:=true }:=List.getElem?_set_self (by rw [List.length_set];exact zT hm)
    have S5:=S4.setMach (m':={ m with queue:=m.queue - 1,working:=true,left:=r.ticks }) ha hm4 e6
    have er4:=f4.ins (f3.ins (f2.ins er1 (by simp;exact nRB)) (by simp;exact nRM)) (by simp;exact nRM)
    refine ⟨_,rfl,rr_ticks T er4 ⟨_,rfl,a,T.kMachine.C,dx2,_,rfl,e6,T.kMachine.cl,T.kMachine.no _ (List.mem_of_getElem? (i:=5) rfl),(by show 7<1000;decide),?_⟩⟩
    have f5:Frm [T.kMachine.C] [] (L2.upd H3 a (.ins T.kMachine.C dx2 (putF "works" (.bl true) (fsMach { m with queue:=m.queue - 1 })))) (L2.upd (L2.upd H3 a (.ins T.kMachine.C dx2 (putF "works" (.bl true) (fsMach { m with queue:=m.queue - 1 })))) a (.ins T.kMachine.C dx2 (putF "left" (.int (r.ticks:Int)) (fsMach { m with queue:=m.queue - 1,working:=true })))):=jp e6 (by simp)
    have ets:tickS st j m = { st with bags:=bs',machines:=st.machines.set j { m with working:=true,left:=r.ticks,queue:=m.queue - 1 } }:=by
     unfold tickS
     rw [emt,ht]
    refine k _ ?_ ?_ ((((((zy s1).trans (frmB2 f2))).trans (frmM f3)).trans (frmM f4)).trans (frmM f5))
    ·rw [ets]
     have S6:StX T _ A { st with bags:=bs',machines:=((st.machines.set j { m with queue:=m.queue - 1 }).set j { m with queue:=m.queue - 1,working:=true }).set j { m with queue:=m.queue - 1,working:=true,left:=r.ticks } } (heldOf st.goods bs'):=S5
     rw [List.set_set,List.set_set] at S6
     exact S6
    ·rw [ets]
     exact (I.bags B2 (yp _ _ _ ht)).mach (m':={ m with working:=true,left:=r.ticks,queue:=m.queue - 1 }) hm rfl rfl rfl
   ·have hnot:¬ ∀ y∈r.needs,y.2≤Vbwsao.countIn x.stacks y.1:=fun q=>by
     have:(r.needs.all fun y=>decide (y.2≤Vbwsao.countIn x.stacks y.1))=true:=List.all_eq_true.mpr fun y hy=>decide_eq_true (q y hy)
     rw [this] at e
     cases e
    have ht:=k8 r.needs st.bags x hx Rr.2.2.2.2.2 hnot
    have ets:tickS st j m=st:=by
     unfold tickS
     rw [emt,ht]
     dsimp only
     rw [jD hm]
    refine k H1 ?_ ?_ (zy s1)
    ·rw [ets]
     exact S.same s1
    ·rw [ets]
     exact I
end
section
variable {P:Program} {w:World} {K:PySem.W.Frag} {mg:Str→Option Value} {base:Heap}
theorem sc_act:FnScope ["state","machine"] ["state","machine"] (defScope s_act):=⟨rfl,rfl,rfl,by decide +kernel,rfl,by decide +kernel,by decide +kernel⟩
def sp_act (T:Prog K mg):Sp:=fun vs H Q _=>∃ (A:Adr) (s:State) (j:Nat) (a:Addr) (m:Machine),vs=[.ref A.st,.ref a]∧StAt T H A s∧SInv s∧A.ma[j]? = some a∧s.machines[j]? = some m∧MachOk T A s j m H Q
theorem ok_act (T:Prog K mg):FnOk P w K mg base CX0 6 T.act.f T.act.fd ["state","machine"] (sp_act T):=by
 refine T.act.fn.ok sc_act (fun vs H Q E h=>?_) (fun cdv A outer s H vs Q E hr h=>?_)
 ·obtain ⟨A,s,j,a,m,rfl,_⟩:=h
  rfl
 ·obtain ⟨A,st,j,a,m,rfl,S,I,ha,hm,k⟩:=h
  obtain ⟨i1,i2,i3⟩:=I.m m (List.mem_of_getElem? hm)
  obtain ⟨r,hrc⟩:∃ r,st.recipes[m.recipe]? = some r:=⟨_,List.getElem?_eq_getElem i3⟩
  obtain ⟨dx,e1⟩:=S.machAt ha hm
  refine ⟨_,(ze (zB (PW.pt (WA (zN (zd (K:=K) rfl (pv 1) rfl)) (Jn (zq qC (zd (K:=K) rfl (pv 1) rfl) zj (nomark _))))) (ze (zC (K:=K) rfl (pv 1) (zI jI (zd (K:=K) rfl (pv 1) rfl) zj) rfl)) (ze (zB (zN (zd (K:=K) rfl (pv 1) rfl)) (ze (zG (zi (Jy T) (hr.mono (by decide)) rfl T.bring_out.at_ T.bring_out.fn.kp T.bring_out.b .nil pass0 (zc (pv 0) (zc (pv 1) zb))))) (ze (zB (zq qC (zd (K:=K) rfl (pv 1) rfl) zj (nomark _)) (ze (zG (zi (ok_begin T) (hr.mono (by decide)) rfl T.begin.at_ T.begin.fn.kp T.begin.b .nil pass0 (zc (pv 0) (zc (pv 1) zb))))) zp)))))),?_⟩
  refine ⟨_,rfl,kd T e1 ⟨_,rfl,zx (p:=m.working) rfl (fun e=>?_) (fun e=>?_)⟩⟩
  ·refine ⟨_,rfl,uw T e1 ⟨_,_,rfl,rfl,_,rfl,zx (p:=decide (1<m.left)) (decide_eq_decide.mpr (by omega)) (fun e2=>?_) (fun e2=>?_)⟩⟩
   ·have e2':=of_decide_eq_true e2
    have emt:Vbwsao.machineTick st.goods st.recipes st.bags m=(st.bags,{ m with left:=m.left - 1 }):=by
     unfold Vbwsao.machineTick
     rw [hrc]
     dsimp only
     rw [if_pos e,if_pos e2']
    have ets:tickS st j m = { st with machines:=st.machines.set j { m with left:=m.left - 1 } }:=by
     unfold tickS
     rw [emt]
    have eq1:((m.left - 1:Nat):Int)=(m.left:Int) - 1:=by omega
    refine ⟨_,rfl,uw T e1 ⟨_,_,rfl,rfl,_,rfl,a,T.kMachine.C,dx,_,rfl,e1,T.kMachine.cl,T.kMachine.no _ (List.mem_of_getElem? (i:=5) rfl),(by show 7<1000;decide),?_⟩⟩
    refine k _ ?_ ?_ (frmM (jp e1 (by simp)))
    ·rw [ets]
     have S1:=S.setMach (m':={ m with left:=m.left - 1 }) ha hm e1
     have e3:fsMach { m with left:=m.left - 1 } = putF "left" (.int ((m.left:Int) - 1)) (fsMach m):=by
      rw [← eq1]
      rfl
     rw [e3] at S1
     exact S1
    ·rw [ets]
     exact I.mach (m':={ m with left:=m.left - 1 }) hm rfl rfl rfl
   ·have e2':=of_decide_eq_false e2
    exact ⟨_,rfl,kd T e1 ⟨_,rfl,zx (p:=true) e (fun _=>⟨_,rfl,_,rfl,A,st,j,a,m,rfl,S,I,ha,hm,e,e2',fun H' S' I' f'=>k H' S' I' f'⟩) (fun q=>by cases q)⟩⟩
  ·refine iteF ⟨_,rfl,kd T e1 ⟨_,rfl,zx (p:=false) e (fun q=>by cases q) (fun _=>?_)⟩⟩
   refine ⟨_,rfl,qR T e1 ⟨_,_,rfl,rfl,_,rfl,zx (p:=decide (0<m.queue)) (decide_eq_decide.mpr (by omega)) (fun e2=>?_) (fun e2=>?_)⟩⟩
   ·have e2':=of_decide_eq_true e2
    exact ⟨_,rfl,_,rfl,A,st,j,a,m,rfl,S,I,ha,hm,e,by omega,fun H' S' I' f'=>k H' S' I' f'⟩
   ·have e2':=of_decide_eq_false e2
    have emt:Vbwsao.machineTick st.goods st.recipes st.bags m=(st.bags,m):=by
     unfold Vbwsao.machineTick
     rw [hrc]
     dsimp only
     rw [if_neg (by rw [e];exact Bool.false_ne_true),if_pos (by omega)]
    have ets:tickS st j m=st:=by
     unfold tickS
     rw [emt]
     dsimp only
     rw [jD hm]
    refine k H ?_ ?_ (Frm.refl _)
    ·rw [ets]
     exact S
    ·rw [ets]
     exact I
def tick1 (s:State):State:={ s with bags:=(Vbwsao.machinesTick s.goods s.recipes s.bags s.machines).1,machines:=(Vbwsao.machinesTick s.goods s.recipes s.bags s.machines).2,ticks:=s.ticks+1 }
theorem Yk {T:Prog K mg} {H H1:Hp} (f:Frm (kBM T) [] H H1):Frm (kap T) [] H H1:=f.mono (fun x hx=>by simp [kBM] at hx;rcases hx with rfl | rfl <;> simp [kap]) (fun _ h=>h)
theorem StX.setTicks {T:Prog K mg} {H:Hp} {A:Adr} {s:State} {hs:List Int} (S:StX T H A s hs) {dx:Addr} {p t:Nat} (e:H A.st=some (.ins T.kState.C dx (fsState A s.paid s.ticks))) :
  StX T (L2.upd H A.st (.ins T.kState.C dx (fsState A p t))) A { s with paid:=p,ticks:=t } hs:=by
 have f:Frm [T.kState.C] [] H (L2.upd H A.st (.ins T.kState.C dx (fsState A p t))):=jp e (by simp)
 exact ⟨⟨dx,zf⟩,S.gs.imp (f.lst S.gs.1 (by simp)) fun b x h=>h.frm f (by simp;exact nGS),S.rs.imp (f.lst S.rs.1 (by simp)) fun b x h=>h.frm f (by simp;exact nRS) (by simp),
  S.bs.imp (f.lst S.bs.1 (by simp)) fun b x h=>h.frm f (by simp;exact Ne.symm nSB) (by simp),S.ms.imp (f.lst S.ms.1 (by simp)) fun b x h=>h.frm f (by simp;exact Ne.symm nSM),S.hl,S.nb,S.nm,S.nt⟩
theorem frmS {T:Prog K mg} {H H1:Hp} (f:Frm [T.kState.C] [] H H1):Frm (kap T) [] H H1:=f.mono (fun x hx=>by simp at hx;subst hx;simp [kap]) (fun _ h=>h)
theorem qB:FnScope ["state","machine"] ["state"] (defScope jT):=⟨rfl,rfl,rfl,by decide +kernel,rfl,by decide +kernel,by decide +kernel⟩
def vc (T:Prog K mg):Sp:=fun vs H Q _=>∃ (A:Adr) (s:State),vs=[.ref A.st]∧StAt T H A s∧SInv s∧∀ H',StAt T H' A (tick1 s)→SInv (tick1 s)→Frm (kap T) [] H H'→Q .non H'
theorem vf (T:Prog K mg):FnOk P w K mg base CX0 7 T.let_a_tick_go_by.f T.let_a_tick_go_by.fd ["state"] (vc T):=by
 refine T.let_a_tick_go_by.fn.ok qB (fun vs H Q E h=>?_) (fun cdv A outer s H vs Q E hr h=>?_)
 ·obtain ⟨A,s,rfl,_⟩:=h
  rfl
 ·obtain ⟨A,st,rfl,S,I,k⟩:=h
  refine ⟨_,(za (jH PassesOwn.never rfl (zL (K:=K) rfl (zd (K:=K) rfl (pv 0) rfl)) (zw (i:=1) qB.nd rfl (by first | exact Or.inl rfl | exact Or.inr rfl)) (ze (zG (zi (ok_act T) (hr.mono (by decide)) rfl T.act.at_ T.act.fn.kp T.act.b .nil pass0 (zc (pv 0) (zc (pv 1) zb))))))
   (ze (zC (K:=K) rfl (pv 0) (zI jf (zd (K:=K) rfl (pv 0) rfl) zj) rfl))),?_⟩
  refine ⟨_,rfl,jz S ⟨A.ml,rfl,⟨_,SqL.of S.ms.1⟩,?_⟩⟩
  refine wO (K:=K) (a:=A.ml) (xs:=A.ma.map V.ref) (fun i σ H'=>Frm (kBM T) [] H H'∧(∃ (bs:List Bag) (dn:List Machine),dn.length=i∧StAt T H' A { st with bags:=bs,machines:=dn++st.machines.drop i }∧SInv { st with bags:=bs,machines:=dn++st.machines.drop i } ∧
    Vbwsao.machinesTick st.goods st.recipes st.bags st.machines=((Vbwsao.machinesTick st.goods st.recipes bs (st.machines.drop i)).1,dn++(Vbwsao.machinesTick st.goods st.recipes bs (st.machines.drop i)).2))∧∃ v1,σ=[some (.ref A.st),v1])
   ⟨Frm.refl _,⟨st.bags,[],rfl,S,I,rfl⟩,_,rfl⟩ (fun i σ H' _ h=>SqL.of (h.1.lst S.ms.1 (by simp))) ?_ ?_
  ·rintro i v σ H1 hv ⟨f1,⟨bs,dn,hdn,S1,I1,ht⟩,v1,rfl⟩
   rw [List.getElem?_map] at hv
   obtain ⟨a,ha,rfl⟩:=Option.map_eq_some_iff.mp hv
   obtain ⟨m,hm⟩:=jo S.ms.2.1 ha
   have e1:st.machines.drop i=m :: st.machines.drop (i+1):=by
    obtain ⟨h1,h2⟩:=List.getElem?_eq_some_iff.mp hm
    rw [List.drop_eq_getElem_cons h1,h2]
   rw [e1] at S1 I1 ht
   have hm1:(dn++m :: st.machines.drop (i+1))[i]? = some m:=by
    rw [List.getElem?_append_right (by omega),hdn,Nat.sub_self]
    rfl
   refine ⟨_,rfl,_,rfl,A,_,i,a,m,rfl,S1,I1,ha,hm1,fun H2 S2 I2 f2=>?_⟩
   have eset:(dn++m :: st.machines.drop (i+1)).set i (Vbwsao.machineTick st.goods st.recipes bs m).2=(dn++[(Vbwsao.machineTick st.goods st.recipes bs m).2])++st.machines.drop (i+1):=by
    rw [List.set_append_right _ _ (by omega),hdn,Nat.sub_self,List.set_cons_zero,List.append_assoc]
    rfl
   have ets:tickS { st with bags:=bs,machines:=dn++m :: st.machines.drop (i+1) } i m = { st with bags:=(Vbwsao.machineTick st.goods st.recipes bs m).1,machines:=(dn++[(Vbwsao.machineTick st.goods st.recipes bs m).2])++st.machines.drop (i+1) }:=by
    unfold tickS
    dsimp only
    rw [eset]
   rw [ets] at S2 I2
   refine ⟨f1.trans f2,⟨_,_,by simp [hdn],S2,I2,?_⟩,_,rfl⟩
   rw [ht]
   show (_,dn++((Vbwsao.machineTick st.goods st.recipes bs m).2 :: _))=_
   rw [List.append_assoc]
   rfl
  ·rintro σ H1 ⟨f1,⟨bs,dn,hdn,S1,I1,ht⟩,v1,rfl⟩
   have el:(A.ma.map V.ref).length=st.machines.length:=by rw [List.length_map,S.ms.2.1]
   rw [el,List.drop_length,List.append_nil] at S1 I1
   rw [el,List.drop_length] at ht
   have ht2:Vbwsao.machinesTick st.goods st.recipes st.bags st.machines=(bs,dn):=by
    rw [ht]
    show (bs,dn++[])=_
    rw [List.append_nil]
   have et:tick1 st = { st with bags:=bs,machines:=dn,ticks:=st.ticks+1 }:=by
    unfold tick1
    rw [ht2]
   obtain ⟨dx,e2⟩:=S1.st
   refine ⟨_,rfl,vY S1 ⟨_,_,rfl,rfl,_,rfl,A.st,T.kState.C,dx,_,rfl,e2,T.kState.cl,T.kState.no _ (List.mem_of_getElem? (i:=5) rfl),(by show 6<1000;decide),?_⟩⟩
   refine k _ ?_ ?_ ((Yk f1).trans (frmS (jp e2 (by simp))))
   ·rw [et]
    exact S1.setTicks (p:=st.paid) (t:=st.ticks+1) e2
   ·rw [et]
    exact ⟨I1.g,I1.r,I1.b,I1.ml,I1.m,I1.em⟩
theorem W6:FnScope ["state","many","turn"] ["state","many"] (defScope Wt):=⟨rfl,rfl,rfl,by decide +kernel,rfl,by decide +kernel,by decide +kernel⟩
def sp_tick (T:Prog K mg):Sp:=fun vs H Q _=>∃ (A:Adr) (s:State) (n:Int),vs=[.ref A.st,.int n]∧StAt T H A s∧SInv s∧s.goods.isEmpty=false∧callIn (.tick n)=true∧CallOk T A s (.tick n) H Q
theorem ok_tick (T:Prog K mg):FnOk P w K mg base CX0 8 T.tick.f T.tick.fd ["state","many"] (sp_tick T):=by
 refine T.tick.fn.ok W6 (fun vs H Q E h=>?_) (fun cdv A outer s H vs Q E hr h=>?_)
 ·obtain ⟨A,s,n,rfl,_⟩:=h
  rfl
 ·obtain ⟨A,st,n,rfl,S,I,hg,hi,k⟩:=h
  have hr1:(1≤n∧n≤100):=by
   simp only [callIn,jc] at hi
   exact hi
  obtain ⟨n,rfl⟩:∃ n':Nat,n=(n':Int):=⟨n.toNat,by omega⟩
  refine ⟨_,(za (zB (zq qC (zI jf (zd (K:=K) rfl (pv 0) rfl) (pv 1)) (zA (v:=.int (10000)) rfl T.c_MOST_TICKS.at_ ⟨_,rfl⟩) (nomark _)) (ze (zm (zu (zc (zA (v:=.int (-10)) rfl T.c_TOO_MANY_TICKS.at_ ⟨_,rfl⟩) zb)))) zp)
   (za (jH PassesOwn.never rfl (kP rfl T.b_range (zc (pv 1) zb)) (zw (i:=2) W6.nd rfl (by first | exact Or.inl rfl | exact Or.inr rfl)) (ze (zG (zi (vf T) (hr.mono (by decide)) rfl T.let_a_tick_go_by.at_ T.let_a_tick_go_by.fn.kp T.let_a_tick_go_by.b .nil pass0 (zc (pv 0) zb)))))
   (ze (zm (zu (zc zj (zc (zd (K:=K) rfl (pv 0) rfl) zb))))))),?_⟩
  refine ⟨_,rfl,vY S ⟨_,rfl,_,_,rfl,rfl,_,_,rfl,rfl,_,rfl,zx (p:=decide (10000<st.ticks+n)) (decide_eq_decide.mpr (by omega)) (fun e=>k.ref (YJ hi hg (by rw [Int.toNat_natCast];exact of_decide_eq_true e)) S I (Same.refl _)) (fun e=>?_)⟩⟩
  have e':=of_decide_eq_false e
  refine ⟨_,rfl,_,rfl,by omega,by omega,?_⟩
  refine Zy (lo:=0) (n:=((n:Int)).toNat) (fun i σ H'=>Frm (kap T) [] H H'∧(∃ (bs:List Bag) (ms:List Machine),StAt T H' A { st with bags:=bs,machines:=ms,ticks:=st.ticks+i }∧SInv { st with bags:=bs,machines:=ms,ticks:=st.ticks+i } ∧
    Vbwsao.machinesTicks st.goods st.recipes n st.bags st.machines=Vbwsao.machinesTicks st.goods st.recipes (n - i) bs ms)∧∃ v2,σ=[some (.ref A.st),some (.int (n:Int)),v2])
   ⟨Frm.refl _,⟨st.bags,st.machines,S,I,rfl⟩,_,rfl⟩ ?_ ?_
  ·rintro i σ H1 hi1 ⟨f1,⟨bs,ms,S1,I1,ht⟩,v2,rfl⟩
   rw [Int.toNat_natCast] at hi1
   refine ⟨_,rfl,A,_,rfl,S1,I1,fun H2 S2 I2 f2=>⟨f1.trans f2,⟨_,_,S2,I2,?_⟩,_,rfl⟩⟩
   rw [ht]
   have:n - i=(n - (i+1))+1:=by omega
   rw [this]
   rfl
  ·rintro σ H1 ⟨f1,⟨bs,ms,S1,I1,ht⟩,v2,rfl⟩
   rw [Int.toNat_natCast,Nat.sub_self] at ht
   rw [Int.toNat_natCast] at S1 I1
   refine ⟨_,rfl,vY S1 ⟨by show 2≤sizeLine;decide,fun p hp=>?_⟩⟩
   have e2:=st_tick hi hg (by rw [Int.toNat_natCast];exact e')
   rw [Int.toNat_natCast,ht] at e2
   exact k.ans e2 S1 I1 (f1.mono (fun _ h=>h) (by simp)) hp
theorem StX.addMach {T:Prog K mg} {H:Hp} {A:Adr} {s:State} {hs:List Int} (S:StX T H A s hs) {a dx:Addr} {y:Machine} (e:H a=some (.ins T.kMachine.C dx (fsMach y))) (na:a∉A.ma) :
  StX T (L2.upd H A.ml (.lst (A.ma.map V.ref++[.ref a]))) { A with ma:=A.ma++[a] } { s with machines:=s.machines++[y] } hs:=by
 have f:Frm [] A.tops H (L2.upd H A.ml (.lst (A.ma.map V.ref++[.ref a]))):=jv S.ms.1 (by simp)
 have nt:=S.nt
 simp only [List.nodup_cons,List.mem_cons,List.mem_nil_iff,or_false,not_or] at nt
 obtain ⟨dx0,e0⟩:=S.st
 have fl:∀ l xs,H l=some (.lst xs)→l≠A.ml→(L2.upd H A.ml (.lst (A.ma.map V.ref++[.ref a]))) l=some (.lst xs):=fun l xs h n=>by rw [zl n];exact h
 exact ⟨⟨dx0,f.ins e0 (by simp)⟩,S.gs.imp (fl _ _ S.gs.1 nt.1.2.2) fun b x h=>h.frm f (by simp),S.rs.imp (fl _ _ S.rs.1 nt.2.1.2) fun b x h=>h.frm f (by simp) (fun _ h=>h),
  S.bs.imp (fl _ _ S.bs.1 nt.2.2.1) fun b x h=>h.frm f (by simp) (fun _ h=>h),y4 S.ms zf (fun b y h=>h.frm f (by simp)) ⟨dx,f.ins e (by simp)⟩,S.hl,S.nb,
  List.nodup_append.mpr ⟨S.nm,by simp,fun x hx y hy=>by simp at hy;subst hy;exact fun q=>na (q ▸ hx)⟩,S.nt⟩
theorem StX.ma_lt {T:Prog K mg} {H:Hp} {A:Adr} {s:State} {hs:List Int} (S:StX T H A s hs) {a:Addr} (h:H a=none):a∉A.ma:=by
 intro hm
 obtain ⟨j,hj,e⟩:=List.getElem_of_mem hm
 have hj1:A.ma[j]? = some a:=by rw [List.getElem?_eq_getElem hj,e]
 obtain ⟨x,hx⟩:=jo S.ms.2.1 hj1
 obtain ⟨dx,e1⟩:=S.ms.2.2 j a x hj1 hx
 rw [h] at e1
 cases e1
theorem u0:FnScope ["state","a","b","recipe"] ["state","a","b","recipe"] (defScope wn):=⟨rfl,rfl,rfl,by decide +kernel,rfl,by decide +kernel,by decide +kernel⟩
def uT (T:Prog K mg):Sp:=fun vs H Q _=>∃ (A:Adr) (s:State) (a b r:Int),vs=[.ref A.st,.int a,.int b,.int r]∧StAt T H A s∧SInv s∧s.goods.isEmpty=false∧callIn (.machine a b r)=true∧CallOk T A s (.machine a b r) H Q
theorem xl (T:Prog K mg):FnOk P w K mg base CX0 3 T.new_machine.f T.new_machine.fd ["state","a","b","recipe"] (uT T):=by
 refine T.new_machine.fn.ok u0 (fun vs H Q E h=>?_) (fun cdv A outer s H vs Q E hr h=>?_)
 ·obtain ⟨A,s,a,b,r,rfl,_⟩:=h
  rfl
 ·obtain ⟨A,st,a,b,r,rfl,S,I,hg,hi,k⟩:=h
  have hr1:(0≤a∧a≤11)∧(0≤b∧b≤11)∧(0≤r∧r≤15):=by
   simp only [callIn,Vbwsao.bagIx,Bool.and_eq_true,jc] at hi
   exact hi
  obtain ⟨a,rfl⟩:∃ b':Nat,a=(b':Int):=⟨a.toNat,by omega⟩
  obtain ⟨b,rfl⟩:∃ b':Nat,b=(b':Int):=⟨b.toNat,by omega⟩
  obtain ⟨r,rfl⟩:∃ g':Nat,r=(g':Int):=⟨r.toNat,by omega⟩
  refine ⟨_,(za (zB (PW.pt (q5 (zN (zi (zR T) (hr.mono (by decide)) rfl T.lacks_bag.at_ T.lacks_bag.fn.kp T.lacks_bag.b .nil pass0 (zc (pv 0) (zc (pv 1) zb)))) (q5 (zN (zi (zR T) (hr.mono (by decide)) rfl T.lacks_bag.at_ T.lacks_bag.fn.kp T.lacks_bag.b .nil pass0 (zc (pv 0) (zc (pv 2) zb)))) (qS (zN (zi (ut T) (hr.mono (by decide)) rfl T.lacks_recipe.at_ T.lacks_recipe.fn.kp T.lacks_recipe.b .nil pass0 (zc (pv 0) (zc (pv 3) zb)))))))) (ze (zm (zu (zc (zA (v:=.int (-3)) rfl T.c_NO_SUCH.at_ ⟨_,rfl⟩) zb)))) zp)
   (za (zB (zq kf (zr (zo (K:=K) rfl) (by rfl) T.b_len zQ (zc (zd (K:=K) rfl (pv 0) rfl) zb)) (zA (v:=.int (6)) rfl T.c_MOST_MACHINES.at_ ⟨_,rfl⟩) (nomark _)) (ze (zm (zu (zc (zA (v:=.int (-4)) rfl T.c_NO_MORE_ALLOWED.at_ ⟨_,rfl⟩) zb)))) zp)
   (za (zG (qb (K:=K) rfl (zd (K:=K) rfl (pv 0) rfl) (yZ T.kMachine.made (xn T) (hr.mono (by decide)) rfl T.kMachine.at_ T.kMachine.b .nil pass0 (zc (pv 1) (zc (pv 2) (zc (pv 3) zb))))))
   (ze (zm (zu (zc zj (zc (zI jI (zr (zo (K:=K) rfl) (by rfl) T.b_len zQ (zc (zd (K:=K) rfl (pv 0) rfl) zb)) zj) zb)))))))),?_⟩
  refine ⟨_,rfl,_,rfl,A,st,_,_,rfl,S,_,rfl,zx rfl (fun e=>iteT (k.ref (yr hi hg (by unfold Vbwsao.nb;rw [e];rfl)) S I (Same.refl _))) (fun e=>?_)⟩
  refine ⟨_,rfl,_,rfl,A,st,_,_,rfl,S,_,rfl,zx rfl (fun e2=>iteT (k.ref (yr hi hg (by unfold Vbwsao.nb;rw [e,e2];rfl)) S I (Same.refl _))) (fun e2=>?_)⟩
  refine ⟨_,rfl,_,rfl,A,st,_,_,rfl,S,_,rfl,zx rfl (fun e3=>k.ref (yr hi hg (by unfold Vbwsao.nb;rw [e,e2,e3];rfl)) S I (Same.refl _)) (fun e3=>?_)⟩
  have e0:(Vbwsao.nb st a||(Vbwsao.nb st b||decide ((st.recipes.length:Int)≤(r:Int))))=false:=ji e (ji e2 e3)
  have e':=of_decide_eq_false e
  have e2':=of_decide_eq_false e2
  have e3':=of_decide_eq_false e3
  refine ⟨_,rfl,jz S ⟨A.ml,_,rfl,.inl (SqL.of S.ms.1),_,_,rfl,rfl,_,rfl,zx (p:=decide (6≤st.machines.length)) ?_ (fun e4=>k.ref (JZ hi hg e0 (of_decide_eq_true e4)) S I (Same.refl _)) (fun e4=>?_)⟩⟩
  ·rw [List.length_map,S.ms.2.1]
   exact decide_eq_decide.mpr (by omega)
  have e4':=of_decide_eq_false e4
  refine ⟨_,rfl,jz S ⟨.inl ⟨rfl,_,SqL.of S.ms.1⟩,_,rfl,_,rfl,_,rfl,fun y dx ny ndy ney=>?_⟩⟩
  refine ⟨y,dx,a,b,r,rfl,zf,fun H6 h6 hbut=>⟨rfl,?_⟩⟩
  have s6:Same H H6:=hbut.same ny ndy
  have S6:=S.same s6
  have S7:=S6.addMach h6 (S.ma_lt ny)
  have f7:Frm (kap T) A.tops H6 (L2.upd H6 A.ml (.lst (A.ma.map V.ref++[.ref y]))):=jv S6.ms.1 (by simp)
  refine ⟨A.ml,_,_,rfl,rfl,S6.ms.1,?_,?_⟩
  ·rw [List.length_map,S.ms.2.1]
   exact small (m:=1000) (by have:=I.ml;omega)
  ·refine ⟨_,rfl,jz (A:={ A with ma:=A.ma++[y] }) S7 ⟨A.ml,_,rfl,.inl (SqL.of S7.ms.1),_,_,rfl,rfl,(by show 2≤sizeLine;decide),fun p hp=>?_⟩⟩
   have ka:=k p (L2.upd (L2.upd H6 A.ml (.lst (A.ma.map V.ref++[.ref y]))) p (.lst ([0,(st.machines.length:Int)].map V.int))) { A with ma:=A.ma++[y] } rfl rfl
   rw [Wi hi hg e0 e4'] at ka
   have I':SInv { st with machines:=st.machines++[⟨(a:Int).toNat,(b:Int).toNat,(r:Int).toNat,0,false,0,0⟩] }:=by
    refine ⟨I.g,I.r,I.b,by show (st.machines++_).length≤6;simp;omega,fun m hm=>?_,I.em⟩
    rcases List.mem_append.mp hm with h | h
    ·exact I.m m h
    ·simp only [List.mem_singleton] at h
     subst h
     exact ⟨by show (a:Int).toNat<st.bags.length;omega,by show (b:Int).toNat<st.bags.length;omega,by show (r:Int).toNat<st.recipes.length;omega⟩
   have kb:=ka (S7.same (zM hp)) I' zf (((zy s6).trans f7).trans (zy (zM hp)))
   have e8:(((A.ma++[y]).map V.ref).length:Int) - 1=(st.machines.length:Int):=by
    rw [List.length_map,List.length_append,S.ms.2.1]
    simp
   have e9:[V.int 0,V.int ((((A.ma++[y]).map V.ref).length:Int) - 1)]=[0,(st.machines.length:Int)].map V.int:=by
    rw [e8]
    rfl
   rw [← e9] at kb
   exact kb
theorem Qi:FnScope ["state","number","many","machine"] ["state","number","many"] (defScope Jh):=⟨rfl,rfl,rfl,by decide +kernel,rfl,by decide +kernel,by decide +kernel⟩
def sp_order (T:Prog K mg):Sp:=fun vs H Q _=>∃ (A:Adr) (s:State) (m n:Int),vs=[.ref A.st,.int m,.int n]∧StAt T H A s∧SInv s∧s.goods.isEmpty=false∧callIn (.order m n)=true∧CallOk T A s (.order m n) H Q
theorem ok_order (T:Prog K mg):FnOk P w K mg base CX0 2 T.order.f T.order.fd ["state","number","many"] (sp_order T):=by
 refine T.order.fn.ok Qi (fun vs H Q E h=>?_) (fun cdv A outer s H vs Q E hr h=>?_)
 ·obtain ⟨A,s,m,n,rfl,_⟩:=h
  rfl
 ·obtain ⟨A,st,m,n,rfl,S,I,hg,hi,k⟩:=h
  have hr1:(0≤m∧m≤5)∧(1≤n∧n≤1000):=by
   simp only [callIn,Bool.and_eq_true,jc] at hi
   exact hi
  obtain ⟨m,rfl⟩:∃ b':Nat,m=(b':Int):=⟨m.toNat,by omega⟩
  obtain ⟨n,rfl⟩:∃ b':Nat,n=(b':Int):=⟨n.toNat,by omega⟩
  refine ⟨_,(za (zB (zN (zi (wK T) (hr.mono (by decide)) rfl T.lacks_machine.at_ T.lacks_machine.fn.kp T.lacks_machine.b .nil pass0 (zc (pv 0) (zc (pv 1) zb)))) (ze (zm (zu (zc (zA (v:=.int (-3)) rfl T.c_NO_SUCH.at_ ⟨_,rfl⟩) zb)))) zp)
   (za (zt (i:=3) Qi.nd rfl (by first | exact Or.inl rfl | exact Or.inr rfl) (zv (zk (K:=K) rfl) (zd (K:=K) rfl (pv 0) rfl) (pv 1) (fun _ _=>rfl)))
   (za (zC (K:=K) rfl (pv 3) (zI jf (zd (K:=K) rfl (pv 3) rfl) (pv 2)) rfl)
   (ze (zm (zu (zc zj zb))))))),?_⟩
  refine ⟨_,rfl,_,rfl,A,st,_,_,rfl,S,_,rfl,zx rfl (fun e=>k.ref (YN hi hg e) S I (Same.refl _)) (fun e=>?_)⟩
  have e':=of_decide_eq_false e
  obtain ⟨x,hx⟩:∃ x,st.machines[m]? = some x:=⟨_,List.getElem?_eq_getElem (by omega)⟩
  obtain ⟨a,dx,ha,e1⟩:=S.mach hx
  refine ⟨_,rfl,jz S ⟨_,rfl,jb S.ms ha ⟨_,rfl,qR T e1 ⟨_,rfl,_,_,rfl,rfl,_,rfl,a,T.kMachine.C,dx,_,rfl,e1,T.kMachine.cl,T.kMachine.no _ (List.mem_of_getElem? (i:=3) rfl),(by show 7<1000;decide),?_⟩⟩⟩⟩
  have S1:=S.setMach (m':={ x with queue:=x.queue+n }) ha hx e1
  have e2:=st_order hi hg e
  rw [Int.toNat_natCast,YX hx] at e2
  exact ⟨by decide,fun p hp=>k.ans e2 S1 (I.mach (m':={ x with queue:=x.queue+n }) hx rfl rfl rfl) ((Yk (frmM (jp e1 (by simp)))).mono (fun _ h=>h) (by simp)) hp⟩
theorem qh:FnScope ["state","number","machine","works","fixed"] ["state","number"] (defScope wW):=⟨rfl,rfl,rfl,by decide +kernel,rfl,by decide +kernel,by decide +kernel⟩
def xQ (T:Prog K mg):Sp:=fun vs H Q _=>∃ (A:Adr) (s:State) (m:Int),vs=[.ref A.st,.int m]∧StAt T H A s∧SInv s∧s.goods.isEmpty=false∧callIn (.state m)=true∧CallOk T A s (.state m) H Q
theorem x6 (T:Prog K mg):FnOk P w K mg base CX0 2 T.tell_state.f T.tell_state.fd ["state","number"] (xQ T):=by
 refine T.tell_state.fn.ok qh (fun vs H Q E h=>?_) (fun cdv A outer s H vs Q E hr h=>?_)
 ·obtain ⟨A,s,m,rfl,_⟩:=h
  rfl
 ·obtain ⟨A,st,m,rfl,S,I,hg,hi,k⟩:=h
  have hr1:(0≤m∧m≤5):=by
   simp only [callIn,jc] at hi
   exact hi
  obtain ⟨m,rfl⟩:∃ b':Nat,m=(b':Int):=⟨m.toNat,by omega⟩
  refine ⟨_,(za (zB (zN (zi (wK T) (hr.mono (by decide)) rfl T.lacks_machine.at_ T.lacks_machine.fn.kp T.lacks_machine.b .nil pass0 (zc (pv 0) (zc (pv 1) zb)))) (ze (zm (zu (zc (zA (v:=.int (-3)) rfl T.c_NO_SUCH.at_ ⟨_,rfl⟩) zb)))) zp)
   (za (zt (i:=2) qh.nd rfl (by first | exact Or.inl rfl | exact Or.inr rfl) (zv (zk (K:=K) rfl) (zd (K:=K) rfl (pv 0) rfl) (pv 1) (fun _ _=>rfl)))
   (za (zt (i:=3) qh.nd rfl (by first | exact Or.inl rfl | exact Or.inr rfl) (pe_ifExp (zN (zd (K:=K) rfl (pv 2) rfl)) zj zj))
   (za (zt (i:=4) qh.nd rfl (by first | exact Or.inl rfl | exact Or.inr rfl) (zu (zc (zd (K:=K) rfl (pv 2) rfl) (zc (zd (K:=K) rfl (pv 2) rfl) (zc (zd (K:=K) rfl (pv 2) rfl) zb)))))
   (ze (zm (zI vH (zI vH (zu (zc zj zb)) (pv 4)) (zu (zc (zd (K:=K) rfl (pv 2) rfl) (zc (pv 3) (zc (zd (K:=K) rfl (pv 2) rfl) (zc (zd (K:=K) rfl (pv 2) rfl) zb)))))))))))),?_⟩
  refine ⟨_,rfl,_,rfl,A,st,_,_,rfl,S,_,rfl,zx rfl (fun e=>k.ref (YK hi hg e) S I (Same.refl _)) (fun e=>?_)⟩
  have e':=of_decide_eq_false e
  obtain ⟨x,hx⟩:∃ x,st.machines[m]? = some x:=⟨_,List.getElem?_eq_getElem (by omega)⟩
  obtain ⟨a,dx,ha,e1⟩:=S.mach hx
  refine ⟨_,rfl,jz S ⟨_,rfl,jb S.ms ha ⟨_,rfl,kd T e1 ⟨_,rfl,?_⟩⟩⟩⟩
  refine zx (p:=x.working) rfl (fun e2=>?_) (fun e2=>?_)
  ·refine ⟨_,rfl,qi T e1 ⟨_,rfl,yb T e1 ⟨_,rfl,yW T e1 ⟨by show 3≤sizeLine;decide,fun p hp=>?_⟩⟩⟩⟩
   have s1:=zM (o:=.lst [V.int (x.from_:Int),V.int (x.to_:Int),V.int (x.recipe:Int)]) hp
   refine ⟨by show 1≤sizeLine;decide,fun p2 hp2=>⟨_,rfl,p2,p,_,_,rfl,rfl,zf,(by rw [zl (zn zf hp2)];exact zf),(by show 4≤sizeLine;decide),fun p3 hp3=>?_⟩⟩
   have s2:=zM (o:=.lst [V.int 0]) hp2
   have s3:=zM (o:=.lst ([V.int 0]++[V.int (x.from_:Int),V.int (x.to_:Int),V.int (x.recipe:Int)])) hp3
   have e13:=s3 _ _ (s2 _ _ (s1 _ _ e1))
   refine ⟨_,rfl,qR T e13 ⟨_,rfl,_,rfl,uw T e13 ⟨_,rfl,Jl T e13 ⟨by show 4≤sizeLine;decide,fun p4 hp4=>?_⟩⟩⟩⟩
   refine ⟨p3,p4,_,_,rfl,rfl,(by rw [zl (zn zf hp4)];exact zf),zf,(by show 8≤sizeLine;decide),fun p5 hp5=>?_⟩
   have s4:=zM (o:=.lst [V.int (x.queue:Int),V.int 1,V.int (x.left:Int),V.int (x.made:Int)]) hp4
   have e3:=JW hi hg e (x:=x) (by rw [Int.toNat_natCast];exact hx)
   rw [if_pos e2] at e3
   exact k.ans e3 (S.same (((s1.trans s2).trans s3).trans s4)) I (zy (((s1.trans s2).trans s3).trans s4)) hp5
  ·refine ⟨_,rfl,qi T e1 ⟨_,rfl,yb T e1 ⟨_,rfl,yW T e1 ⟨by show 3≤sizeLine;decide,fun p hp=>?_⟩⟩⟩⟩
   have s1:=zM (o:=.lst [V.int (x.from_:Int),V.int (x.to_:Int),V.int (x.recipe:Int)]) hp
   refine ⟨by show 1≤sizeLine;decide,fun p2 hp2=>⟨_,rfl,p2,p,_,_,rfl,rfl,zf,(by rw [zl (zn zf hp2)];exact zf),(by show 4≤sizeLine;decide),fun p3 hp3=>?_⟩⟩
   have s2:=zM (o:=.lst [V.int 0]) hp2
   have s3:=zM (o:=.lst ([V.int 0]++[V.int (x.from_:Int),V.int (x.to_:Int),V.int (x.recipe:Int)])) hp3
   have e13:=s3 _ _ (s2 _ _ (s1 _ _ e1))
   refine ⟨_,rfl,qR T e13 ⟨_,rfl,_,rfl,uw T e13 ⟨_,rfl,Jl T e13 ⟨by show 4≤sizeLine;decide,fun p4 hp4=>?_⟩⟩⟩⟩
   refine ⟨p3,p4,_,_,rfl,rfl,(by rw [zl (zn zf hp4)];exact zf),zf,(by show 8≤sizeLine;decide),fun p5 hp5=>?_⟩
   have s4:=zM (o:=.lst [V.int (x.queue:Int),V.int 0,V.int (x.left:Int),V.int (x.made:Int)]) hp4
   have e3:=JW hi hg e (x:=x) (by rw [Int.toNat_natCast];exact hx)
   rw [if_neg (by rw [e2];exact Bool.false_ne_true)] at e3
   exact k.ans e3 (S.same (((s1.trans s2).trans s3).trans s4)) I (zy (((s1.trans s2).trans s3).trans s4)) hp5
end
section
variable {P:Program} {w:World} {K:PySem.W.Frag} {mg:Str→Option Value} {base:Heap}
theorem we:FnScope ["state","good","bag"] ["state","good"] (defScope wY):=⟨rfl,rfl,rfl,by decide +kernel,rfl,by decide +kernel,by decide +kernel⟩
def xS (T:Prog K mg):Sp:=fun vs H Q _=>∃ (A:Adr) (s:State) (g:Int),vs=[.ref A.st,.int g]∧StAt T H A s∧SInv s∧s.goods.isEmpty=false∧callIn (.count g)=true∧CallOk T A s (.count g) H Q
theorem x9 (T:Prog K mg):FnOk P w K mg base CX0 2 T.tell_count.f T.tell_count.fd ["state","good"] (xS T):=by
 refine T.tell_count.fn.ok we (fun vs H Q E h=>?_) (fun cdv A outer s H vs Q E hr h=>?_)
 ·obtain ⟨A,s,g,rfl,_⟩:=h
  rfl
 ·obtain ⟨A,st,g,rfl,S,I,hg,hi,k⟩:=h
  have hr1:(0≤g∧g≤9):=by
   simp only [callIn,Vbwsao.goodIx,jc] at hi
   exact hi
  obtain ⟨g,rfl⟩:∃ g':Nat,g=(g':Int):=⟨g.toNat,by omega⟩
  refine ⟨_,(za (zB (zN (zi (ja T) (hr.mono (by decide)) rfl T.lacks_good.at_ T.lacks_good.fn.kp T.lacks_good.b .nil pass0 (zc (pv 0) (zc (pv 1) zb)))) (ze (zm (zu (zc (zA (v:=.int (-3)) rfl T.c_NO_SUCH.at_ ⟨_,rfl⟩) zb)))) zp)
   (ze (zm (zu (zc zj (zc (zr (km (K:=K) rfl rfl) (by rfl) T.b_sum xK (zc (qT rfl we.nd (zL (K:=K) rfl (zd (K:=K) rfl (pv 0) rfl)) (own:=[("bag",2)]) (zW (by kernel_rfl)) (fun _ _ _ _ _=>(zw (i:=2) we.nd rfl (by first | exact Or.inl rfl | exact Or.inr rfl))) (fun _ _ _ _ _=>jC) (fun _ _ _ _ _=>(zi (jJ T) (hr.mono (by decide)) rfl T.count_in.at_ T.count_in.fn.kp T.count_in.b .nil pass0 (zc (zd (K:=K) rfl (pv 2) rfl) (zc (pv 1) zb))))) zb)) zb)))))),?_⟩
  refine ⟨_,rfl,_,rfl,A,st,_,_,rfl,S,_,rfl,zx rfl (fun e=>k.ref (YQ hi hg e) S I (Same.refl _)) (fun e=>?_)⟩
  have hl:(st.bags.zip (heldOf st.goods st.bags)).length=st.bags.length:=by rw [List.length_zip,jw];omega
  refine ⟨_,rfl,zP S ⟨A.bl,rfl,⟨_,SqL.of S.bs.1⟩,wx (xs:=st.bags.zip (heldOf st.goods st.bags)) (fun H x v=>x.1∈st.bags∧∃ a,v = .ref a∧BagAt T A.tops H a x) (fun x=>V.int (Vbwsao.countIn x.1.stacks g:Int)) (SqL.of S.bs.1) (by rw [List.length_map,S.bs.2.1]) (by rw [hl];exact small (m:=1000) (by have:=I.b.len;omega))
   (fun i v x hv hx=>?_) (fun H1 x v s1 ⟨hm,a,e,h⟩=>⟨hm,a,e,h.frm (κ:=[]) (L:=[]) (zy s1) (by simp) (by simp)⟩) ?_ jN ?_⟩⟩
  ·obtain ⟨a,e1,_,h⟩:=S.bagItem hv hx
   exact ⟨List.mem_of_getElem? (List.getElem?_zip_eq_some.mp hx).1,a,e1,h⟩
  ·rintro x v H1 N1 hx s1 ⟨hm,a,rfl,dx,sl,e1,_,p1⟩ k1
   obtain ⟨j,hj⟩:=List.mem_iff_getElem?.mp hm
   have hlen:=I.b.stk_len hj
   exact ⟨rfl,_,rfl,jk T e1 ⟨_,rfl,sl,x.1.stacks,g,rfl,p1,by omega,fun H2 s2=>k1 H2 s2⟩⟩
  ·intro D H1 s1 hD hD1
   refine ⟨D,(st.bags.zip (heldOf st.goods st.bags)).map fun x=>(Vbwsao.countIn x.1.stacks g:Int),rfl,SqL.of (by rw [hD1,List.map_map];rfl),by show 2≤sizeLine;decide,fun p hp=>?_⟩
   have e2:=st_count hi hg e
   have e3:((st.bags.zip (heldOf st.goods st.bags)).map fun x=>(Vbwsao.countIn x.1.stacks g:Int)).sum=(Vbwsao.countAll st (g:Int).toNat:Int):=by
    unfold Vbwsao.countAll
    rw [vP,Int.toNat_natCast]
    have:st.bags=(st.bags.zip (heldOf st.goods st.bags)).map (·.1):=by rw [List.map_fst_zip (by rw [jw];omega)]
    conv=>rhs;rw [this,List.map_map]
    rfl
   rw [← e3] at e2
   exact k.ans e2 (S.same s1) I (zy s1) hp
theorem uZ:FnScope ["state"] ["state"] (defScope wk):=⟨rfl,rfl,rfl,by decide +kernel,rfl,by decide +kernel,by decide +kernel⟩
def uQ (T:Prog K mg):Sp:=fun vs H Q _=>∃ (A:Adr) (s:State),vs=[.ref A.st]∧StAt T H A s∧SInv s∧CallOk T A s .totals H Q
theorem xi (T:Prog K mg):FnOk P w K mg base CX0 1 T.tell_totals.f T.tell_totals.fd ["state"] (uQ T):=by
 refine T.tell_totals.fn.ok uZ (fun vs H Q E h=>?_) (fun cdv A outer s H vs Q E hr h=>?_)
 ·obtain ⟨A,s,rfl,_⟩:=h
  rfl
 ·obtain ⟨A,st,rfl,S,I,k⟩:=h
  refine ⟨_,(ze (zm (zu (zc zj (zc (zr (zo (K:=K) rfl) (by rfl) T.b_len zQ (zc (zd (K:=K) rfl (pv 0) rfl) zb)) (zc (zr (zo (K:=K) rfl) (by rfl) T.b_len zQ (zc (zd (K:=K) rfl (pv 0) rfl) zb)) (zc (zr (zo (K:=K) rfl) (by rfl) T.b_len zQ (zc (zd (K:=K) rfl (pv 0) rfl) zb)) (zc (zr (zo (K:=K) rfl) (by rfl) T.b_len zQ (zc (zd (K:=K) rfl (pv 0) rfl) zb)) (zc (zd (K:=K) rfl (pv 0) rfl) (zc (zd (K:=K) rfl (pv 0) rfl) zb)))))))))),?_⟩
  refine ⟨_,rfl,zV S ⟨A.gl,_,rfl,.inl (SqL.of S.gs.1),_,rfl,zY S ⟨A.rl,_,rfl,.inl (SqL.of S.rs.1),_,rfl,zP S ⟨A.bl,_,rfl,.inl (SqL.of S.bs.1),_,rfl,jz S ⟨A.ml,_,rfl,.inl (SqL.of S.ms.1),_,rfl,W7 S ⟨_,rfl,vY S ⟨by show 7≤sizeLine;decide,fun p hp=>?_⟩⟩⟩⟩⟩⟩⟩
  have e2:Vbwsao.step st .totals=(st,[0,(((A.ga.map V.ref).length:Nat):Int),(((A.ra.map V.ref).length:Nat):Int),(((A.ba.map V.ref).length:Nat):Int),(((A.ma.map V.ref).length:Nat):Int),(st.paid:Int),(st.ticks:Int)]):=by
   rw [List.length_map,List.length_map,List.length_map,List.length_map,S.gs.2.1,S.rs.2.1,S.blen,S.ms.2.1]
   rfl
  exact k.ans e2 S I (Frm.refl _) hp
theorem qD:FnScope ["state","good","b","bag"] ["state","good"] (defScope yA):=⟨rfl,rfl,rfl,by decide +kernel,rfl,by decide +kernel,by decide +kernel⟩
def Z2 (T:Prog K mg):Sp:=fun vs H Q _=>∃ (A:Adr) (s:State) (g:Int),vs=[.ref A.st,.int g]∧StAt T H A s∧SInv s∧s.goods.isEmpty=false∧callIn (.find g)=true∧CallOk T A s (.find g) H Q
theorem Jt (T:Prog K mg):FnOk P w K mg base CX0 2 T.tell_find.f T.tell_find.fd ["state","good"] (Z2 T):=by
 refine T.tell_find.fn.ok qD (fun vs H Q E h=>?_) (fun cdv A outer s H vs Q E hr h=>?_)
 ·obtain ⟨A,s,g,rfl,_⟩:=h
  rfl
 ·obtain ⟨A,st,g,rfl,S,I,hg,hi,k⟩:=h
  have hr1:(0≤g∧g≤9):=by
   simp only [callIn,Vbwsao.goodIx,jc] at hi
   exact hi
  obtain ⟨g,rfl⟩:∃ g':Nat,g=(g':Int):=⟨g.toNat,by omega⟩
  refine ⟨_,(za (zB (zN (zi (ja T) (hr.mono (by decide)) rfl T.lacks_good.at_ T.lacks_good.fn.kp T.lacks_good.b .nil pass0 (zc (pv 0) (zc (pv 1) zb)))) (ze (zm (zu (zc (zA (v:=.int (-3)) rfl T.c_NO_SUCH.at_ ⟨_,rfl⟩) zb)))) zp)
   (ze (zm (zI vH (zu (zc zj zb)) (qT rfl qD.nd (xf (K:=K) rfl rfl T.b_enumerate (zc (zd (K:=K) rfl (pv 0) rfl) zb)) (own:=[("b",2),("bag",3)]) (zW (by kernel_rfl)) (fun _ _ _ _ _=>(js (K:=K) (n:=2) rfl rfl (zF (zw (i:=2) qD.nd rfl (by first | exact Or.inl rfl | exact Or.inr rfl)) (zF (zw (i:=3) qD.nd rfl (by first | exact Or.inl rfl | exact Or.inr rfl)) jr)))) (fun _ _ _ _ _=>(yY (zq qC (zi (jJ T) (hr.mono (by decide)) rfl T.count_in.at_ T.count_in.fn.kp T.count_in.b .nil pass0 (zc (zd (K:=K) rfl (pv 3) rfl) (zc (pv 1) zb))) zj (nomark _)))) (fun _ _ _ _ _=>(pv 2))))))),?_⟩
  refine ⟨_,rfl,_,rfl,A,st,_,_,rfl,S,_,rfl,zx rfl (fun e=>k.ref (st_find3 hi hg e) S I (Same.refl _)) (fun e=>?_)⟩
  have hl:(st.bags.zip (heldOf st.goods st.bags)).length=st.bags.length:=by rw [List.length_zip,jw];omega
  refine ⟨by show 1≤sizeLine;decide,fun p0 hp0=>?_⟩
  have s0:=zM (o:=.lst [V.int 0]) hp0
  have S0:=S.same s0
  refine ⟨_,rfl,zP S0 ⟨A.bl,_,rfl,SqL.of S0.bs.1,Yi (xs:=st.bags.zip (heldOf st.goods st.bags)) (fun H x v=>x.1∈st.bags∧∃ a,v = .ref a∧BagAt T A.tops H a x) (fun x=>decide (0<Vbwsao.countIn x.1.stacks g)) (fun i=>V.int (i:Int)) (SqL.of S0.bs.1) (by rw [List.length_map,S0.bs.2.1]) (by rw [hl];exact small (m:=1000) (by have:=I.b.len;omega))
   (fun i v x hv hx=>?_) (fun H1 x v s1 ⟨hm,a,e,h⟩=>⟨hm,a,e,h.frm (κ:=[]) (L:=[]) (zy s1) (by simp) (by simp)⟩) ?_ ?_⟩⟩
  ·obtain ⟨a,e1,_,h⟩:=S0.bagItem hv hx
   exact ⟨List.mem_of_getElem? (List.getElem?_zip_eq_some.mp hx).1,a,e1,h⟩
  ·rintro i x v TT H1 N1 N2 hx s1 ⟨hm,a,rfl,dx,sl,e1,_,p1⟩ hT k1 k2
   obtain ⟨j,hj⟩:=List.mem_iff_getElem?.mp hm
   have hlen:=I.b.stk_len hj
   exact jY hT ⟨rfl,_,rfl,jk T e1 ⟨_,rfl,sl,x.1.stacks,g,rfl,p1,by omega,fun H2 s2=>⟨_,_,rfl,rfl,_,rfl,zx (decide_eq_decide.mpr (by omega)) (fun e2=>⟨_,rfl,k1 e2 H2 s2⟩) (fun e2=>k2 e2 H2 s2)⟩⟩⟩
  ·intro D H1 s1 hD hD1
   refine ⟨p0,D,_,_,rfl,rfl,s1 _ _ zf,hD1,?_,fun p hp=>?_⟩
   ·rw [List.length_map]
    have:=List.length_filter_le (fun i=>((st.bags.zip (heldOf st.goods st.bags))[i]?.map fun x=>decide (0<Vbwsao.countIn x.1.stacks g)).getD false) (List.range (st.bags.zip (heldOf st.goods st.bags)).length)
    rw [List.length_range] at this
    refine Nat.le_of_lt (small (m:=1000) ?_)
    show 1+_≤1000
    have:=I.b.len
    omega
   ·have e2:=st_find hi hg e
    have e3:((List.range st.bags.length).filter fun b=>decide (0<Vbwsao.countIn (Vbwsao.bagAt st.bags b).stacks (g:Int).toNat))=(List.range (st.bags.zip (heldOf st.goods st.bags)).length).filter fun i=>((st.bags.zip (heldOf st.goods st.bags))[i]?.map fun x=>decide (0<Vbwsao.countIn x.1.stacks g)).getD false:=by
     rw [hl]
     refine List.filter_congr fun i hi2=>?_
     have hi3:=List.mem_range.mp hi2
     have hb:st.bags[i]? = some st.bags[i]:=List.getElem?_eq_getElem hi3
     rw [ZR hb (z7 st.goods st.bags hi3),z3 hb,Int.toNat_natCast]
     rfl
    rw [e3] at e2
    have q:=k.ans e2 (S0.same s1) I ((zy s0).trans (zy s1)) hp
    rw [List.map_cons,List.map_map] at q
    exact q
end
end BM
end
section
namespace BM
open Vbwsao
def lowB (c:Costs) (v y:Nat):Bool:=match costAt c y with
 | some w=>decide (w<v)
 | none=>false
def rk (c:Costs) (v:Nat):Nat:=sumTo c.length fun y=>if lowB c v y=true then 1 else 0
theorem JS {n:Nat} {f g:Nat→Nat} (h:∀ i,i<n→f i≤g i):sumTo n f≤sumTo n g:=by
 induction n with
 | zero=>exact Nat.le_refl _
 | succ n ih=>
  have:=ih fun i hi=>h i (by omega)
  have:=h n (by omega)
  show sumTo n f+f n≤sumTo n g+g n
  omega
theorem JR {n x:Nat} {f g:Nat→Nat} (hx:x<n) (h:∀ i,i<n→f i≤g i) (hs:f x<g x):sumTo n f<sumTo n g:=by
 induction n with
 | zero=>omega
 | succ n ih=>
  show sumTo n f+f n<sumTo n g+g n
  by_cases e:x=n
  ·subst e
   have:=JS (n:=x) (f:=f) (g:=g) fun i hi=>h i (by omega)
   omega
  ·have:=ih (by omega) fun i hi=>h i (by omega)
   have:=h n (by omega)
   omega
theorem qe {c:Costs} {g v:Nat} (h:costAt c g=some v):g<c.length:=by
 by_cases q:g<c.length
 ·exact q
 ·rw [qd (by omega)] at h
  cases h
theorem W9 {c:Costs} {k v x:Nat} (hx:costAt c x=some k) (h:k<v):rk c k<rk c v:=by
 refine JR (qe hx) (fun i _=>?_) ?_
 ·unfold lowB
  cases costAt c i with
  | none=>exact Nat.le_refl _
  | some w=>
   show (if decide (w<k)=true then 1 else 0)≤(if decide (w<v)=true then 1 else 0)
   by_cases q:w<k
   ·rw [if_pos (decide_eq_true q),if_pos (decide_eq_true (by omega))]
    exact Nat.le_refl _
   ·rw [if_neg (by simpa using q)]
    exact Nat.zero_le _
 ·have e1:lowB c k x=false:=by
   unfold lowB
   rw [hx]
   exact decide_eq_false (by omega)
  have e2:lowB c v x=true:=by
   unfold lowB
   rw [hx]
   exact decide_eq_true h
  rw [if_neg (by rw [e1];exact Bool.false_ne_true),if_pos e2]
  omega
theorem rk_lt {c:Costs} {v g:Nat} (hg:costAt c g=some v):rk c v<c.length:=by
 have h1:sumTo c.length (fun _=>1)=c.length:=by
  generalize c.length=n
  induction n with
  | zero=>rfl
  | succ n ih=>show sumTo n _+1=n+1;rw [ih]
 have h2:rk c v<sumTo c.length (fun _=>1):=by
  refine JR (qe hg) (fun i _=>?_) ?_
  ·split <;> omega
  ·have e1:lowB c v g=false:=by
    unfold lowB
    rw [hg]
    exact decide_eq_false (by omega)
   rw [if_neg (by rw [e1];exact Bool.false_ne_true)]
   omega
 omega
def phi (c:Costs) (v:Nat):Nat:=sumTo c.length fun y=>if lowB c v y=true then 2 ^ rk c ((costAt c y).getD 0) else 0
theorem uI:∀ m:Nat,m+1≤2 ^ m
 | 0=>Nat.le_refl _
 | m+1=>by
  have:=uI m
  rw [Nat.pow_succ]
  omega
theorem phi_le (c:Costs):∀ v,phi c v+1≤2 ^ rk c v
 | 0=>by
  have e1:phi c 0=0:=by
   unfold phi
   rw [zJ (g:=fun _=>0) (fun i _=>?_),jA]
   have:lowB c 0 i=false:=by
    unfold lowB
    cases costAt c i with
    | none=>rfl
    | some w=>exact decide_eq_false (by omega)
   rw [this]
   rfl
  rw [e1]
  exact Nat.one_le_two_pow
 | v+1=>by
  have ih:=phi_le c v
  let m:=sumTo c.length fun y=>if costAt c y=some v then 1 else 0
  have split1:∀ (y:Nat) (A:Nat),(if lowB c (v+1) y=true then A else 0)=(if lowB c v y=true then A else 0)+(if costAt c y=some v then A else 0):=fun y A=>by
   unfold lowB
   cases h:costAt c y with
   | none=>simp
   | some w=>
    show (if decide (w<v+1)=true then A else 0)=(if decide (w<v)=true then A else 0)+_
    by_cases q:w<v
    ·rw [if_pos (decide_eq_true (by omega)),if_pos (decide_eq_true q),if_neg (by intro z;cases z;omega)]
     omega
    ·by_cases q2:w=v
     ·subst q2
      rw [if_pos (decide_eq_true (by omega)),if_neg (by simp),if_pos rfl]
      omega
     ·rw [if_neg (by simp;omega),if_neg (by simpa using q),if_neg (by intro z;cases z;exact q2 rfl)]
  have e1:rk c (v+1)=rk c v+m:=by
   unfold rk
   rw [← j5]
   exact zJ fun y _=>split1 y 1
  have e2:phi c (v+1)=phi c v+m * 2 ^ rk c v:=by
   unfold phi
   rw [← Zk,← j5]
   refine zJ fun y _=>?_
   rw [split1]
   congr 1
   by_cases q:costAt c y=some v
   ·rw [if_pos q,if_pos q,q]
    show 2 ^ rk c v=1 * 2 ^ rk c v
    omega
   ·rw [if_neg q,if_neg q]
    omega
  rw [e1,e2,Nat.pow_add]
  have h1:=Nat.mul_le_mul_left (2 ^ rk c v) (uI m)
  rw [Nat.mul_add,Nat.mul_one,Nat.mul_comm (2 ^ rk c v) m] at h1
  omega
theorem ZU {n:Nat} (h:Nat→Nat):∀ l:List Nat,l.Nodup→(∀ y∈l,y<n)→(l.map h).sum≤sumTo n h:=by
 intro l hn hl
 have key:∀ l:List Nat,(∀ y∈l,y<n)→(l.map h).sum=sumTo n fun y=>h y * l.count y:=by
  intro l
  induction l with
  | nil=>
   intro _
   rw [zJ (g:=fun _=>0) (fun i _=>by simp),jA]
   rfl
  | cons a l ih=>
   intro hl
   rw [List.map_cons,List.sum_cons,ih fun y hy=>hl y (List.mem_cons_of_mem _ hy)]
   have e:sumTo n (fun y=>h y * (a :: l).count y)=sumTo n (fun y=>if y=a then h y else 0)+sumTo n (fun y=>h y * l.count y):=by
    rw [← j5]
    refine zJ fun y _=>?_
    rw [List.count_cons,Nat.mul_add]
    by_cases q:y=a
    ·subst q;simp;omega
    ·have:(a == y)=false:=beq_eq_false_iff_ne.mpr (Ne.symm q)
     rw [this,if_neg q];simp
   rw [e,ku (hl a List.mem_cons_self)]
 rw [key l hl]
 refine JS fun y _=>?_
 rw [yj hn]
 split <;> omega
theorem Zw {c:Costs} {v:Nat} {l:List (Nat × Nat)} (hn:(l.map (·.1)).Nodup) (hl:∀ x∈l,∃ k,costAt c x.1=some k∧k<v):(l.map fun x=>2 ^ rk c ((costAt c x.1).getD 0)).sum+1≤2 ^ rk c v:=by
 have h1:=phi_le c v
 have h2:(l.map fun x=>2 ^ rk c ((costAt c x.1).getD 0)).sum≤phi c v:=by
  have e:(l.map fun x=>2 ^ rk c ((costAt c x.1).getD 0))=(l.map (·.1)).map fun y=>if lowB c v y=true then 2 ^ rk c ((costAt c y).getD 0) else 0:=by
   rw [List.map_map]
   refine List.map_congr_left fun x hx=>?_
   obtain ⟨k,e1,e2⟩:=hl x hx
   have:lowB c v x.1=true:=by
    unfold lowB
    rw [e1]
    exact decide_eq_true e2
   show _=if lowB c v x.1=true then _ else _
   rw [if_pos this]
  rw [e]
  refine ZU _ _ hn fun y hy=>?_
  obtain ⟨x,hx,rfl⟩:=List.mem_map.mp hy
  obtain ⟨k,e1,_⟩:=hl x hx
  exact qe e1
 omega
section
variable {gs:List Good} {rs:List Recipe}
abbrev Acc:=List Nat × List Step × List (Nat × Nat)
def addA (gs:List Good) (rs:List Recipe) (c:Costs) (f m:Nat) (a:Acc) (x:Nat × Nat):Acc:=((meet gs rs c f x.1 (x.2 * m) a.1).1,a.2.1++(meet gs rs c f x.1 (x.2 * m) a.1).2.1,a.2.2++(meet gs rs c f x.1 (x.2 * m) a.1).2.2)
theorem kj (c:Costs) (f g n:Nat) (st:List Nat):meet gs rs c (f+1) g n st =
  if n - min n (st.getD g 0)=0 then (st.set g (st.getD g 0 - min n (st.getD g 0)),[],if min n (st.getD g 0)=0 then [] else [(g,min n (st.getD g 0))])
  else match (best gs rs c g).bind fun i=>rs[i]?.map fun r=>(i,r) with
   | none=>(st.set g (st.getD g 0 - min n (st.getD g 0)),[.buy g (n - min n (st.getD g 0))],if min n (st.getD g 0)=0 then [] else [(g,min n (st.getD g 0))])
   | some (i,r)=>((r.needs.foldl (addA gs rs c f (n - min n (st.getD g 0))) (st.set g (st.getD g 0 - min n (st.getD g 0)),[],[])).1,
     (r.needs.foldl (addA gs rs c f (n - min n (st.getD g 0))) (st.set g (st.getD g 0 - min n (st.getD g 0)),[],[])).2.1++[.run i (n - min n (st.getD g 0))],
     (if min n (st.getD g 0)=0 then [] else [(g,min n (st.getD g 0))])++(r.needs.foldl (addA gs rs c f (n - min n (st.getD g 0))) (st.set g (st.getD g 0 - min n (st.getD g 0)),[],[])).2.2):=rfl
theorem kq (R:RInv gs rs) {g v:Nat} (hv:costAt (costs gs rs) g=some v):(((goodAt gs g).price=v∧(best gs rs (costs gs rs) g).bind (fun i=>rs[i]?.map fun r=>(i,r))=none) ∨
  ((goodAt gs g).price≠v∧∃ i r,best gs rs (costs gs rs) g=some i∧rs[i]? = some r∧r.makes=g∧byRecipe (costs gs rs) r=some v∧(best gs rs (costs gs rs) g).bind (fun i=>rs[i]?.map fun r=>(i,r))=some (i,r))):=by
 have hg:g<gs.length:=by
  have:=qe hv
  rw [jl] at this
  exact this
 have hp:=wQ R g v hv
 by_cases hb:bought (goodAt gs g)=costAt (costs gs rs) g
 ·left
  refine ⟨?_,?_⟩
  ·rw [hv] at hb
   unfold bought at hb
   split at hb
   ·cases hb
   ·exact Option.some.inj hb
  ·unfold best
   rw [if_pos hb]
   rfl
 ·right
  have hne:(goodAt gs g).price≠v:=fun e=>hb (by
   rw [hv]
   unfold bought
   rw [if_neg (by omega),e])
  refine ⟨hne,?_⟩
  have hfix:=ZD R
  rcases v0 (rs:=rs) (costs gs rs) hg with e | ⟨r,hr,hm,e⟩
  ·rw [hfix] at e
   exact absurd e.symm hb
  ·rw [hfix] at e
   unfold best
   rw [if_neg hb]
   obtain ⟨j,hj,ej⟩:=List.getElem_of_mem hr
   have hj1:rs[j]? = some r:=by rw [List.getElem?_eq_getElem hj,ej]
   cases hf:(List.range rs.length).find? (fun i=>match rs[i]? with
    | some r=>r.makes == g&&byRecipe (costs gs rs) r == costAt (costs gs rs) g
    | none=>false) with
   | none=>
    have:=List.find?_eq_none.mp hf j (List.mem_range.mpr hj)
    rw [hj1] at this
    simp [hm,e] at this
   | some i=>
    have h1:=List.find?_some hf
    cases hi:rs[i]? with
    | none=>rw [hi] at h1;cases h1
    | some q=>
     rw [hi] at h1
     have h2:(q.makes == g&&byRecipe (costs gs rs) q == costAt (costs gs rs) g)=true:=h1
     rw [Bool.and_eq_true,beq_iff_eq,beq_iff_eq] at h2
     refine ⟨i,q,rfl,hi,h2.1,h2.2.trans hv,?_⟩
     show rs[i]?.map (fun r=>(i,r))=_
     rw [hi]
     rfl
theorem ye (R:RInv gs rs) {r:Recipe} {i v:Nat} (hr:rs[i]? = some r) (hv:byRecipe (costs gs rs) r=some v):∀ x∈r.needs,∃ k,costAt (costs gs rs) x.1=some k∧k<v:=by
 have Rr:=R.ok r (List.mem_of_getElem? hr)
 exact (ko hv Rr.2.1 fun x hx=>(Rr.2.2.2.2.1 x hx).2.1).2
theorem kl (c:Costs) (f m:Nat):∀ (l:List (Nat × Nat)) (st:List Nat) (p:List Step) (u:List (Nat × Nat)),
  l.foldl (addA gs rs c f m) (st,p,u)=((l.foldl (addA gs rs c f m) (st,[],[])).1,p++(l.foldl (addA gs rs c f m) (st,[],[])).2.1,u++(l.foldl (addA gs rs c f m) (st,[],[])).2.2)
 | [],st,p,u=>by simp
 | x :: l,st,p,u=>by
  have e1:addA gs rs c f m (st,p,u) x=((meet gs rs c f x.1 (x.2 * m) st).1,p++(meet gs rs c f x.1 (x.2 * m) st).2.1,u++(meet gs rs c f x.1 (x.2 * m) st).2.2):=rfl
  have e2:addA gs rs c f m (st,[],[]) x=((meet gs rs c f x.1 (x.2 * m) st).1,(meet gs rs c f x.1 (x.2 * m) st).2.1,(meet gs rs c f x.1 (x.2 * m) st).2.2):=rfl
  rw [List.foldl_cons,List.foldl_cons,e1,e2,kl c f m l _ (p++_) (u++_),kl c f m l _ (meet gs rs c f x.1 (x.2 * m) st).2.1 (meet gs rs c f x.1 (x.2 * m) st).2.2]
  simp only [List.append_assoc]
theorem ki (R:RInv gs rs):∀ (f g n:Nat) (st:List Nat) (v:Nat),costAt (costs gs rs) g=some v→(meet gs rs (costs gs rs) f g n st).2.1.length≤2 ^ rk (costs gs rs) v∧(meet gs rs (costs gs rs) f g n st).2.2.length≤2 ^ rk (costs gs rs) v
 | 0,g,n,st,v,_=>⟨Nat.zero_le _,Nat.zero_le _⟩
 | f+1,g,n,st,v,hv=>by
  have h1:1≤2 ^ rk (costs gs rs) v:=Nat.one_le_two_pow
  rw [kj]
  have hu:(if min n (st.getD g 0)=0 then ([]:List (Nat × Nat)) else [(g,min n (st.getD g 0))]).length≤1:=by split <;> simp
  split
  ·exact ⟨Nat.zero_le _,Nat.le_trans hu h1⟩
  ·rcases kq R hv with ⟨_,hb⟩ | ⟨_,i,r,_,hr,hm,hc,hb⟩
   ·rw [hb]
    exact ⟨h1,Nat.le_trans hu h1⟩
   ·rw [hb]
    have Rr:=R.ok r (List.mem_of_getElem? hr)
    have hnf:=ye R hr hc
    have hpow:=Zw Rr.2.2.2.2.2 hnf
    have key:∀ (l:List (Nat × Nat)),(∀ x∈l,∃ k,costAt (costs gs rs) x.1=some k)→∀ (a:Acc),(l.foldl (addA gs rs (costs gs rs) f (n - min n (st.getD g 0))) a).2.1.length≤a.2.1.length+(l.map fun x=>2 ^ rk (costs gs rs) ((costAt (costs gs rs) x.1).getD 0)).sum∧(l.foldl (addA gs rs (costs gs rs) f (n - min n (st.getD g 0))) a).2.2.length≤a.2.2.length+(l.map fun x=>2 ^ rk (costs gs rs) ((costAt (costs gs rs) x.1).getD 0)).sum:=by
     intro l
     induction l with
     | nil=>intro _ a;exact ⟨Nat.le_refl _,Nat.le_refl _⟩
     | cons x l ih=>
      intro hl a
      rw [List.foldl_cons,List.map_cons,List.sum_cons]
      obtain ⟨k,hk⟩:=hl x List.mem_cons_self
      obtain ⟨q1,q2⟩:=ki R f x.1 (x.2 * (n - min n (st.getD g 0))) a.1 k hk
      obtain ⟨p1,p2⟩:=ih (fun y hy=>hl y (List.mem_cons_of_mem _ hy)) (addA gs rs (costs gs rs) f (n - min n (st.getD g 0)) a x)
      have e1:(addA gs rs (costs gs rs) f (n - min n (st.getD g 0)) a x).2.1.length=a.2.1.length+(meet gs rs (costs gs rs) f x.1 (x.2 * (n - min n (st.getD g 0))) a.1).2.1.length:=List.length_append
      have e2:(addA gs rs (costs gs rs) f (n - min n (st.getD g 0)) a x).2.2.length=a.2.2.length+(meet gs rs (costs gs rs) f x.1 (x.2 * (n - min n (st.getD g 0))) a.1).2.2.length:=List.length_append
      rw [hk]
      show _≤_+(2 ^ rk _ k+_)∧_≤_+(2 ^ rk _ k+_)
      omega
    obtain ⟨k1,k2⟩:=key r.needs (fun x hx=>let ⟨k,h,_⟩:=hnf x hx;⟨k,h⟩) (st.set g (st.getD g 0 - min n (st.getD g 0)),[],[])
    have k1':(r.needs.foldl (addA gs rs (costs gs rs) f (n - min n (st.getD g 0))) (st.set g (st.getD g 0 - min n (st.getD g 0)),[],[])).2.1.length≤0+(r.needs.map fun x=>2 ^ rk (costs gs rs) ((costAt (costs gs rs) x.1).getD 0)).sum:=k1
    have k2':(r.needs.foldl (addA gs rs (costs gs rs) f (n - min n (st.getD g 0))) (st.set g (st.getD g 0 - min n (st.getD g 0)),[],[])).2.2.length≤0+(r.needs.map fun x=>2 ^ rk (costs gs rs) ((costAt (costs gs rs) x.1).getD 0)).sum:=k2
    dsimp only
    rw [List.length_append,List.length_append,List.length_singleton]
    omega
theorem vL (c:Costs):∀ (f g n:Nat) (st:List Nat),(meet gs rs c f g n st).1.length=st.length
 | 0,g,n,st=>rfl
 | f+1,g,n,st=>by
  rw [kj]
  have key:∀ (m:Nat) (l:List (Nat × Nat)) (a:Acc),(l.foldl (addA gs rs c f m) a).1.length=a.1.length:=by
   intro m l
   induction l with
   | nil=>intro a;rfl
   | cons x l ih=>
    intro a
    rw [List.foldl_cons,ih]
    exact vL c f x.1 _ a.1
  split
  ·show (List.set _ _ _).length=_
   rw [List.length_set]
  ·split
   ·show (List.set _ _ _).length=_
    rw [List.length_set]
   ·exact (key _ _ _).trans (List.length_set ..)
end
def Able (gs:List Good) (rs:List Recipe) (b:Nat):List Bag→List Step→Prop
 | _,[]=>True
 | bs,.buy g n :: r=>g<gs.length∧∀ c,put? gs bs b g n=some c→Able gs rs b c r
 | bs,.run i n :: r=>∃ q,rs[i]? = some q∧∃ bs1,takeAll bs b (q.needs.map fun x=>(x.1,x.2 * n))=some bs1∧∀ c,put? gs bs1 b q.makes n=some c→Able gs rs b c r
theorem ux {gs:List Good} {bs c:List Bag} {b g n:Nat} {x:Bag} (hx:bs[b]? = some x) (h:put? gs bs b g n=some c):c=putRaw gs bs b g n∧c[b]? = some { x with stacks:=putStacks (goodAt gs g).stack g n x.stacks }:=by
 unfold put? at h
 dsimp only at h
 split at h
 ·cases h
  refine ⟨rfl,?_⟩
  rw [z6 gs g n hx]
  exact List.getElem?_set_self (List.getElem?_eq_some_iff.mp hx).1
 ·cases h
theorem QO {l:List Nat} {g h v:Nat} (hg:g<l.length):(l.set g v).getD h 0=if h=g then v else l.getD h 0:=by
 by_cases e:h=g
 ·subst e
  rw [if_pos rfl,List.getD_eq_getElem?_getD,List.getElem?_set_self hg]
  rfl
 ·rw [if_neg e,List.getD_eq_getElem?_getD,List.getElem?_set_ne (Ne.symm e),← List.getD_eq_getElem?_getD]
theorem JQ {α:Type} (f g:α→Nat):∀ l:List α,(l.map fun x=>f x+g x).sum=(l.map f).sum+(l.map g).sum
 | []=>rfl
 | x :: l=>by
  rw [List.map_cons,List.sum_cons,List.map_cons,List.sum_cons,List.map_cons,List.sum_cons,JQ f g l]
  omega
theorem uL (m:Nat):∀ (l:List (Nat × Nat)) (y:Nat × Nat),y∈l→y.2 * m≤(l.map fun x=>if x.1=y.1 then x.2 * m else 0).sum
 | x :: l,y,hy=>by
  rw [List.map_cons,List.sum_cons]
  rcases List.mem_cons.mp hy with rfl | hy
  ·rw [if_pos rfl]
   omega
  ·have:=uL m l y hy
   omega
section
variable {gs:List Good} {rs:List Recipe}
theorem ZP (G:GInv gs) (R:RInv gs rs) {b:Nat}:∀ (f g n:Nat) (st:List Nat) (v:Nat) (r:Nat→Nat) (bs:List Bag) (x:Bag) (rest:List Step),
  costAt (costs gs rs) g=some v→rk (costs gs rs) v<f→st.length=gs.length→bs[b]? = some x→(∀ h,countIn x.stacks h=r h+st.getD h 0) →
  (∀ bs' x',bs'[b]? = some x'→(∀ h,countIn x'.stacks h=r h+(meet gs rs (costs gs rs) f g n st).1.getD h 0+if h=g then n else 0)→Able gs rs b bs' rest) →
  Able gs rs b bs ((meet gs rs (costs gs rs) f g n st).2.1++rest)
 | 0,g,n,st,v,r,bs,x,rest,hv,hf,_,_,_,_=>absurd hf (by omega)
 | f+1,g,n,st,v,r,bs,x,rest,hv,hf,hl,hx,hc,k=>by
  have hg:g<gs.length:=by
   have:=qe hv
   rw [jl] at this
   exact this
  have hgl:g<st.length:=by omega
  have hsz:=(G.at hg).2.2.1
  rw [kj] at k ⊢
  have hst1:∀ h,(st.set g (st.getD g 0 - min n (st.getD g 0))).getD h 0=if h=g then st.getD g 0 - min n (st.getD g 0) else st.getD h 0:=fun h=>QO hgl
  split
  ·rename_i hm
   rw [if_pos hm] at k
   refine k bs x hx fun h=>?_
   show countIn x.stacks h=r h+(st.set g (st.getD g 0 - min n (st.getD g 0))).getD h 0+if h=g then n else 0
   rw [hst1,hc h]
   by_cases e:h=g
   ·subst e
    rw [if_pos rfl,if_pos rfl]
    omega
   ·rw [if_neg e,if_neg e]
    omega
  ·rename_i hm
   rw [if_neg hm] at k
   rcases kq R hv with ⟨_,hb⟩ | ⟨_,i,q,_,hr,hmk,hcq,hb⟩
   ·rw [hb] at k ⊢
    refine ⟨hg,fun c hput=>?_⟩
    obtain ⟨_,hx'⟩:=ux hx hput
    refine k c _ hx' fun h=>?_
    show countIn (putStacks (goodAt gs g).stack g (n - min n (st.getD g 0)) x.stacks) h=r h+(st.set g (st.getD g 0 - min n (st.getD g 0))).getD h 0+if h=g then n else 0
    rw [ct_put _ _ _ _ hsz,hst1,hc h]
    by_cases e:h=g
    ·subst e
     rw [if_pos rfl,if_pos rfl,if_pos rfl]
     omega
    ·rw [if_neg e,if_neg e,if_neg e]
   ·rw [hb] at k ⊢
    have Rr:=R.ok q (List.mem_of_getElem? hr)
    have hnf:=ye R hr hcq
    dsimp only at k ⊢
    generalize hmm:n - min n (st.getD g 0)=m at k ⊢ hm
    have key:∀ (l:List (Nat × Nat)) (st':List Nat) (r':Nat→Nat) (bs':List Bag) (x':Bag) (rest':List Step),(∀ y∈l,∃ kk,costAt (costs gs rs) y.1=some kk∧kk<v)→st'.length=gs.length→bs'[b]? = some x'→(∀ h,countIn x'.stacks h=r' h+st'.getD h 0) →
      (∀ bs2 x2,bs2[b]? = some x2→(∀ h,countIn x2.stacks h=r' h+(l.foldl (addA gs rs (costs gs rs) f m) (st',[],[])).1.getD h 0+(l.map fun y=>if y.1=h then y.2 * m else 0).sum)→Able gs rs b bs2 rest') →
      Able gs rs b bs' ((l.foldl (addA gs rs (costs gs rs) f m) (st',[],[])).2.1++rest'):=by
     intro l
     induction l with
     | nil=>
      intro st' r' bs' x' rest' _ _ hx' hc' k'
      exact k' bs' x' hx' fun h=>by
       rw [hc' h]
       rfl
     | cons y l ih=>
      intro st' r' bs' x' rest' hl' hlen hx' hc' k'
      obtain ⟨kk,hk1,hk2⟩:=hl' y List.mem_cons_self
      have hrk:=W9 hk1 hk2
      have e2:addA gs rs (costs gs rs) f m (st',[],[]) y=((meet gs rs (costs gs rs) f y.1 (y.2 * m) st').1,(meet gs rs (costs gs rs) f y.1 (y.2 * m) st').2.1,(meet gs rs (costs gs rs) f y.1 (y.2 * m) st').2.2):=rfl
      rw [List.foldl_cons,e2,kl] at k' ⊢
      dsimp only at k' ⊢
      rw [List.append_assoc]
      refine ZP G R f y.1 (y.2 * m) st' kk r' bs' x' _ hk1 (by omega) hlen hx' hc' fun bs2 x2 hx2 hc2=>?_
      refine ih (meet gs rs (costs gs rs) f y.1 (y.2 * m) st').1 (fun h=>r' h+if h=y.1 then y.2 * m else 0) bs2 x2 rest' (fun z hz=>hl' z (List.mem_cons_of_mem _ hz)) (by rw [vL];exact hlen) hx2 (fun h=>by rw [hc2 h];omega) fun bs3 x3 hx3 hc3=>?_
      refine k' bs3 x3 hx3 fun h=>?_
      rw [hc3 h,List.map_cons,List.sum_cons]
      have:(if h=y.1 then y.2 * m else 0)=if y.1=h then y.2 * m else 0:=by
       by_cases e:h=y.1
       ·rw [if_pos e,if_pos e.symm]
       ·rw [if_neg e,if_neg (fun z=>e z.symm)]
      rw [this]
      omega
    rw [List.append_assoc]
    refine key q.needs (st.set g (st.getD g 0 - min n (st.getD g 0))) (fun h=>r h+if h=g then min n (st.getD g 0) else 0) bs x ([.run i m]++rest) hnf (by rw [List.length_set];exact hl) hx (fun h=>?_) fun bs2 x2 hx2 hc2=>?_
    ·rw [hst1,hc h]
     by_cases e:h=g
     ·subst e
      rw [if_pos rfl,if_pos rfl]
      omega
     ·rw [if_neg e,if_neg e]
      omega
    ·
     refine ⟨q,hr,?_⟩
     have hnd:((q.needs.map fun y=>(y.1,y.2 * m)).map (·.1)).Nodup:=by
      rw [List.map_map]
      exact Rr.2.2.2.2.2
     have hav:∀ y∈q.needs.map (fun y=>(y.1,y.2 * m)),y.2≤countIn x2.stacks y.1:=fun y hy=>by
      obtain ⟨z,hz,rfl⟩:=List.mem_map.mp hy
      show z.2 * m≤countIn x2.stacks z.1
      rw [hc2 z.1]
      have:=uL m q.needs z hz
      omega
     obtain ⟨bs3,x3,ht,hx3,hc3⟩:=yq _ bs2 x2 hx2 hnd hav
     refine ⟨bs3,ht,fun c hput=>?_⟩
     obtain ⟨_,hx4⟩:=ux hx3 hput
     refine k c _ hx4 fun h=>?_
     show countIn (putStacks (goodAt gs q.makes).stack q.makes m x3.stacks) h=_
     rw [hmk,ct_put _ _ _ _ hsz]
     have h1:=hc3 h
     rw [hc2 h,List.map_map] at h1
     have h2:((q.needs.map ((fun y:Nat × Nat=>if y.1=h then y.2 else 0)∘fun y=>(y.1,y.2 * m))).sum)=(q.needs.map fun y=>if y.1=h then y.2 * m else 0).sum:=rfl
     rw [h2] at h1
     by_cases e:h=g
     ·subst e
      rw [if_pos rfl] at h1 ⊢
      rw [if_pos rfl]
      omega
     ·rw [if_neg e] at h1 ⊢
      rw [if_neg e]
      omega
end
section
variable {s:State} {b g n:Int}
theorem JX (hi:callIn (.plan b g n)=true) (hg:s.goods.isEmpty=false) (h:(nb s b||ng s g)=true):step s (.plan b g n)=(s,[-3]):=by
 unfold step;dsimp only
 exact (zg (congrArg not hi)).trans ((zg hg).trans (zU h))
theorem st_plan9 (hi:callIn (.plan b g n)=true) (hg:s.goods.isEmpty=false) (h:(nb s b||ng s g)=false) (h2:costAt (costs s.goods s.recipes) g.toNat=none):step s (.plan b g n)=(s,[-9]):=by
 unfold step;dsimp only
 exact (zg (congrArg not hi)).trans ((zg hg).trans ((zg h).trans (zU (by rw [h2];rfl))))
theorem Zs {gs:List Good} {rs:List Recipe} {l:List (Nat × Nat)} {g n v:Nat} (h:costAt (costs gs rs) g=some v):plan gs rs l g n=some ((meet gs rs (costs gs rs) (gs.length+1) g n ((List.range gs.length).map (countIn l))).2.1,(meet gs rs (costs gs rs) (gs.length+1) g n ((List.range gs.length).map (countIn l))).2.2):=by
 unfold plan
 dsimp only
 rw [if_neg (by rw [h];exact Bool.false_ne_true)]
theorem st_plan (hi:callIn (.plan b g n)=true) (hg:s.goods.isEmpty=false) (h:(nb s b||ng s g)=false) {v:Nat} (h2:costAt (costs s.goods s.recipes) g.toNat=some v) {l:List Step} {u:List (Nat × Nat)} (h3:plan s.goods s.recipes (stock s b) g.toNat n.toNat=some (l,u)) :
  step s (.plan b g n)=(s,[0,(stepsCost s.goods s.recipes l:Int),(worth (costs s.goods s.recipes) u:Int),(l.length:Int)]++(l.flatMap stepNums++u.flatMap fun x=>[(x.1:Int),(x.2:Int)])):=by
 unfold step;dsimp only
 refine (zg (congrArg not hi)).trans ((zg hg).trans ((zg h).trans ((zg (by rw [h2];rfl)).trans (jx.trans ?_))))
 rw [h3]
theorem JY (hi:callIn (.make b g n)=true) (hg:s.goods.isEmpty=false) (h:(nb s b||ng s g)=true):step s (.make b g n)=(s,[-3]):=by
 unfold step;dsimp only
 exact (zg (congrArg not hi)).trans ((zg hg).trans (zU h))
theorem st_make9 (hi:callIn (.make b g n)=true) (hg:s.goods.isEmpty=false) (h:(nb s b||ng s g)=false) (h2:costAt (costs s.goods s.recipes) g.toNat=none):step s (.make b g n)=(s,[-9]):=by
 unfold step;dsimp only
 have h3:plan s.goods s.recipes (stock s b) g.toNat n.toNat=none:=by
  unfold plan
  dsimp only
  rw [if_pos (by rw [h2];rfl)]
 exact (zg (congrArg not hi)).trans ((zg hg).trans ((zg h).trans ((zg (by rw [h3];rfl)).trans (zU (by rw [h2];rfl)))))
theorem st_make6 (hi:callIn (.make b g n)=true) (hg:s.goods.isEmpty=false) (h:(nb s b||ng s g)=false) {l:List Step} {u:List (Nat × Nat)} (h3:plan s.goods s.recipes (stock s b) g.toNat n.toNat=some (l,u)) (h4:doSteps s.goods s.recipes b.toNat s.bags l=none):step s (.make b g n)=(s,[-6]):=by
 unfold step;dsimp only
 refine (zg (congrArg not hi)).trans ((zg hg).trans ((zg h).trans (zU ?_)))
 rw [h3]
 show (doSteps s.goods s.recipes b.toNat s.bags l).isNone=true
 rw [h4]
 rfl
theorem st_make (hi:callIn (.make b g n)=true) (hg:s.goods.isEmpty=false) (h:(nb s b||ng s g)=false) {v:Nat} (h2:costAt (costs s.goods s.recipes) g.toNat=some v) {l:List Step} {u:List (Nat × Nat)} (h3:plan s.goods s.recipes (stock s b) g.toNat n.toNat=some (l,u)) {bs:List Bag} (h4:doSteps s.goods s.recipes b.toNat s.bags l=some bs) :
  step s (.make b g n)=({ s with bags:=bs,paid:=s.paid+stepsCost s.goods s.recipes l },[0,(stepsCost s.goods s.recipes l:Int)]):=by
 unfold step;dsimp only
 refine (zg (congrArg not hi)).trans ((zg hg).trans ((zg h).trans ((zg ?_).trans ((zg (by rw [h2];rfl)).trans (jx.trans ?_)))))
 ·rw [h3]
  show (doSteps s.goods s.recipes b.toNat s.bags l).isNone=false
  rw [h4]
  rfl
 ·rw [h3]
  show ({ s with bags:=(doSteps s.goods s.recipes b.toNat s.bags l).getD s.bags,paid:=s.paid+stepsCost s.goods s.recipes l },_)=_
  rw [h4]
  rfl
end
end BM
end
section
namespace BM
open PySem PySem.Spec L2
open PyProof.Rows hiding St
open Vbwsao (Good Recipe Bag Machine State)
def trV:Vbwsao.Step→List V
 | .buy g n=>[.int 0,.int (g:Int),.int (n:Int)]
 | .run r n=>[.int 1,.int (r:Int),.int (n:Int)]
def TrAt (H:Hp) (a:Addr) (s:Vbwsao.Step):Prop:=H a=some (.tup (trV s))
theorem yU {H0 H H':Hp} {L:List Addr} (s:Same H0 H) (f:Frm [] L H H') (h:∀ l∈L,H0 l=none):Same H0 H':=fun b o e=>
 f b o (s b o e) (fun _ _ hm=>by rw [h b hm] at e;cases e) fun _ _ _ _=>by simp
section
variable {P:Program} {w:World} {K:PySem.W.Frag} {mg:Str→Option Value} {base:Heap}
structure PlAt (T:Prog K mg) (H:Hp) (pa sk sp us:Addr) (st:List Nat) (steps:List Vbwsao.Step) (used:List (Nat × Nat)):Prop where
 ob:∃ dx,H pa=some (.ins T.kPlan.C dx (fsPlan sk sp us))
 hsk:H sk=some (.lst (st.map fun (n:Nat)=>V.int (n:Int)))
 hsp:∃ as,LsAt H sp as steps (TrAt H)
 hus:∃ as,LsAt H us as used (PrAt H)
 n1:sk≠sp
 n2:sk≠us
 n3:sp≠us
theorem Qj:FnScope ["self","stock"] ["self","stock"] (defScope vy):=⟨rfl,rfl,rfl,by decide +kernel,rfl,by decide +kernel,by decide +kernel⟩
def J6 (T:Prog K mg):Sp:=fun vs H Q _=>∃ (p dx sk:Addr) (st:List Nat),vs=[.ref p,.ref sk]∧H p=some (.ins T.kPlan.C dx [])∧H sk=some (.lst (st.map fun (n:Nat)=>V.int (n:Int))) ∧
 ∀ H' sp us,PlAt T H' p sk sp us st [] []→H sp=none→H us=none→But p H H'→Q .non H'
theorem Qw (T:Prog K mg):FnOk P w K mg base CX0 1 T.kPlan.f T.kPlan.fd ["self","stock"] (J6 T):=by
 refine T.kPlan.fn.ok Qj (fun vs H Q E h=>?_) (fun cdv A outer s H vs Q E hr h=>?_)
 ·obtain ⟨p,dx,sk,st,rfl,_⟩:=h
  rfl
 ·obtain ⟨p,dx,sk,st,rfl,hp,hsk,k⟩:=h
  have npk:p≠sk:=ne_of hp hsk (by intro z;cases z)
  refine ⟨_,(za (zC (K:=K) rfl (pv 0) (pv 1) rfl)
   (za (zC (K:=K) rfl (pv 0) (zu zb) rfl)
   (ze (zC (K:=K) rfl (pv 0) (zu zb) rfl)))),?_⟩
  refine ⟨_,rfl,_,rfl,p,_,dx,_,rfl,hp,T.kPlan.cl,T.kPlan.no _ (List.mem_of_getElem? (i:=0) rfl),(by show 0<1000;decide),Nat.zero_le _,fun sp hsp=>?_⟩
  have b1:But p H (L2.upd H p (.ins T.kPlan.C dx (putF "stock" (.ref sk) []))):=(But.refl H).upd
  have np1:p≠sp:=zn zf hsp
  have hsp0:H sp=none:=by rw [zl (Ne.symm np1)] at hsp;exact hsp
  refine ⟨_,rfl,p,_,dx,_,rfl,(by rw [zl np1];exact zf),T.kPlan.cl,T.kPlan.no _ (List.mem_of_getElem? (i:=1) rfl),(by show 1<1000;decide),Nat.zero_le _,fun us hus=>?_⟩
  have b2:=(b1.new hsp (o:=.lst [])).upd (o:=.ins T.kPlan.C dx (putF "steps" (.ref sp) (putF "stock" (.ref sk) [])))
  have np2:p≠us:=zn zf hus
  have nsu:sp≠us:=zn (by rw [zl (Ne.symm np1)];exact zf) hus
  have hus0:H us=none:=by
   rw [zl (Ne.symm np2),zl (Ne.symm nsu),zl (Ne.symm np2)] at hus
   exact hus
  have b3:=(b2.new hus (o:=.lst [])).upd (o:=.ins T.kPlan.C dx (putF "used" (.ref us) (putF "steps" (.ref sp) (putF "stock" (.ref sk) []))))
  refine ⟨_,rfl,p,_,dx,_,rfl,(by rw [zl np2];exact zf),T.kPlan.cl,T.kPlan.no _ (List.mem_of_getElem? (i:=2) rfl),(by show 2<1000;decide),k _ sp us ⟨⟨dx,zf⟩,b3 _ _ hsk (Ne.symm npk),⟨[],?_,rfl,fun j a x h=>by simp at h⟩,⟨[],?_,rfl,fun j a x h=>by simp at h⟩,zn hsk hsp0,zn hsk hus0,nsu⟩ hsp0 hus0 b3⟩
  ·rw [zl (Ne.symm np1),zl nsu,zl (Ne.symm np1),zf]
   rfl
  ·rw [zl (Ne.symm np2),zf]
   rfl
theorem wU:FnScope ["plan","good","many","stock","using"] ["plan","good","many"] (defScope yw):=⟨rfl,rfl,rfl,by decide +kernel,rfl,by decide +kernel,by decide +kernel⟩
def ZY (T:Prog K mg):Sp:=fun vs H Q _=>∃ (pa sk sp us:Addr) (st:List Nat) (steps:List Vbwsao.Step) (used:List (Nat × Nat)) (g n:Nat),vs=[.ref pa,.int (g:Int),.int (n:Int)]∧PlAt T H pa sk sp us st steps used∧g<st.length∧used.length≤100000 ∧
 ∀ H',PlAt T H' pa sk sp us (st.set g (st.getD g 0 - min n (st.getD g 0))) steps (used++if min n (st.getD g 0)=0 then [] else [(g,min n (st.getD g 0))])→Frm [] [sk,us] H H'→Q (.int ((min n (st.getD g 0):Nat):Int)) H'
theorem Jp (T:Prog K mg):FnOk P w K mg base CX0 1 T.use_stock.f T.use_stock.fd ["plan","good","many"] (ZY T):=by
 refine T.use_stock.fn.ok wU (fun vs H Q E h=>?_) (fun cdv A outer s H vs Q E hr h=>?_)
 ·obtain ⟨pa,sk,sp,us,st,steps,used,g,n,rfl,_⟩:=h
  rfl
 ·obtain ⟨pa,sk,sp,us,st,steps,used,g,n,rfl,Pl,hg,hz,k⟩:=h
  obtain ⟨dx,e1⟩:=Pl.ob
  have hgg:st[g]? = some (st.getD g 0):=by rw [jO (List.getElem?_eq_getElem hg)];exact List.getElem?_eq_getElem hg
  have hix:∀ {H1:Hp} {Q1:VK},H1 sk=some (.lst (st.map fun (n:Nat)=>V.int (n:Int)))→Q1 (.int ((st.getD g 0:Nat):Int)) H1→rIxL K (.ref sk) (.int (g:Int)) H1 Q1:=fun h q=>⟨sk,_,_,_,rfl,rfl,SqL.of h,yk (by rw [List.getElem?_map,hgg];rfl),q⟩
  refine ⟨_,(za (zt (i:=3) wU.nd rfl (by first | exact Or.inl rfl | exact Or.inr rfl) (zd (K:=K) rfl (pv 0) rfl))
   (za (zt (i:=4) wU.nd rfl (by first | exact Or.inl rfl | exact Or.inr rfl) (zr (va rfl) (by rfl) T.b_min xL (zc (pv 2) (zc (zv (zk (K:=K) rfl) (pv 3) (pv 1) (fun _ _=>rfl)) zb))))
   (za (zB (zq qC (pv 4) zj (nomark _)) (za (ps_asg (zI jI (zv (zk (K:=K) rfl) (pv 3) (pv 1) (fun _ _=>rfl)) (pv 4)) (pg_sub (pv 3) (pv 1) Qg))
   (ze (zG (qb (K:=K) rfl (zd (K:=K) rfl (pv 0) rfl) (vG (zc (pv 1) (zc (pv 4) zb))))))) zp)
   (ze (zm (pv 4)))))),?_⟩
  refine ⟨_,rfl,rp_stock T e1 ⟨_,rfl,_,rfl,_,rfl,hix Pl.hsk ⟨_,_,rfl,?_⟩⟩⟩
  have e2:(if ((st.getD g 0:Nat):Int)<(n:Int) then ((st.getD g 0:Nat):Int) else (n:Int))=((min n (st.getD g 0):Nat):Int):=by rw [xt];omega
  show gName 4 (.int (if ((st.getD g 0:Nat):Int)<(n:Int) then ((st.getD g 0:Nat):Int) else (n:Int))) _ _ _
  rw [e2]
  refine ⟨_,rfl,_,_,rfl,rfl,_,rfl,zx (p:=decide (0<min n (st.getD g 0))) (decide_eq_decide.mpr (by omega)) (fun e=>?_) (fun e=>?_)⟩
  ·have e':=of_decide_eq_true e
   refine ⟨_,rfl,_,rfl,hix Pl.hsk ⟨_,rfl,_,_,rfl,rfl,_,rfl,_,rfl,sk,_,_,g,rfl,rfl,Pl.hsk,?_,?_⟩⟩
   ·unfold ixN
    rw [if_pos (by omega),if_pos (by rw [List.length_map];omega),Int.toNat_natCast]
   ·have hset:(st.map fun (n:Nat)=>V.int (n:Int)).set g (V.int (((st.getD g 0:Nat):Int) - ((min n (st.getD g 0):Nat):Int)))=(st.set g (st.getD g 0 - min n (st.getD g 0))).map fun (n:Nat)=>V.int (n:Int):=by
     rw [List.map_set]
     congr 2
     omega
    have f1:Frm [] [sk,us] H (L2.upd H sk (.lst ((st.map fun (n:Nat)=>V.int (n:Int)).set g (V.int (((st.getD g 0:Nat):Int) - ((min n (st.getD g 0):Nat):Int)))))):=jv Pl.hsk (by simp)
    have hsk1:(L2.upd H sk (.lst ((st.map fun (n:Nat)=>V.int (n:Int)).set g (V.int (((st.getD g 0:Nat):Int) - ((min n (st.getD g 0):Nat):Int)))))) sk=some (.lst ((st.set g (st.getD g 0 - min n (st.getD g 0))).map fun (n:Nat)=>V.int (n:Int))):=by
     rw [zf,hset]
    have e11:=f1.ins e1 (by simp)
    obtain ⟨as,ha⟩:=Pl.hus
    obtain ⟨as2,ha2⟩:=Pl.hsp
    have ha1:LsAt (L2.upd H sk (.lst ((st.map fun (n:Nat)=>V.int (n:Int)).set g (V.int (((st.getD g 0:Nat):Int) - ((min n (st.getD g 0):Nat):Int)))))) us as used (PrAt (L2.upd H sk (.lst ((st.map fun (n:Nat)=>V.int (n:Int)).set g (V.int (((st.getD g 0:Nat):Int) - ((min n (st.getD g 0):Nat):Int))))))):=ha.imp (by rw [zl (Ne.symm Pl.n2)];exact ha.1) fun a x h=>f1.tup h
    have ha21:LsAt (L2.upd H sk (.lst ((st.map fun (n:Nat)=>V.int (n:Int)).set g (V.int (((st.getD g 0:Nat):Int) - ((min n (st.getD g 0):Nat):Int)))))) sp as2 steps (TrAt (L2.upd H sk (.lst ((st.map fun (n:Nat)=>V.int (n:Int)).set g (V.int (((st.getD g 0:Nat):Int) - ((min n (st.getD g 0):Nat):Int))))))):=ha2.imp (by rw [zl (Ne.symm Pl.n1)];exact ha2.1) fun a x h=>f1.tup h
    generalize hH1:L2.upd H sk (.lst ((st.map fun (n:Nat)=>V.int (n:Int)).set g (V.int (((st.getD g 0:Nat):Int) - ((min n (st.getD g 0):Nat):Int)))))=H1 at f1 hsk1 e11 ha1 ha21 ⊢
    refine ⟨_,rfl,Jk T e11 ⟨.inl ⟨rfl,_,SqL.of ha1.1⟩,_,rfl,_,rfl,by show 2≤sizeLine;decide,fun t ht=>?_⟩⟩
    refine ⟨us,_,_,rfl,rfl,by rw [zl (zn ha1.1 ht)];exact ha1.1,by rw [List.length_map,ha1.2.1];exact small hz,⟨_,rfl,?_⟩⟩
    have hsn:=wJ (x:=(g,min n (st.getD g 0))) ha1 ht
    have f2:Frm [] [sk,us] H1 (L2.upd (L2.upd H1 t (.tup [.int (g:Int),.int ((min n (st.getD g 0):Nat):Int)])) us (.lst (as.map V.ref++[.ref t]))):=(zy (zM ht)).trans (jv (by rw [zl (zn ha1.1 ht)];exact ha1.1) (by simp))
    refine k _ ⟨⟨dx,f2.ins e11 (by simp)⟩,?_,⟨as2,ha21.imp ?_ fun a x h=>f2.tup h⟩,⟨as++[t],?_⟩,Pl.n1,Pl.n2,Pl.n3⟩ (f1.trans f2)
    ·rw [zl Pl.n2,zl (zn hsk1 ht)]
     exact hsk1
    ·rw [zl Pl.n3,zl (zn ha21.1 ht)]
     exact ha21.1
    ·rw [if_neg (by omega)]
     exact hsn
  ·have e':min n (st.getD g 0)=0:=by have:=of_decide_eq_false e;omega
   refine ⟨_,rfl,?_⟩
   have k1:=k H
   rw [if_pos e',List.append_nil,e',Nat.sub_zero,jD hgg] at k1
   have k2:=k1 Pl (Frm.refl _)
   rw [e']
   exact k2
end
theorem JK {c:Vbwsao.Costs} {r:Recipe} (hc:1≤r.cost) {v:Nat} (h:Vbwsao.byRecipe c r=some v):1≤v:=by
 rw [jj] at h
 obtain ⟨u,_,rfl⟩:=Option.map_eq_some_iff.mp h
 omega
theorem enc_inj {a b:Option Nat} (ha:∀ v,a=some v→1≤v) (hb:∀ v,b=some v→1≤v) (h:enc a=enc b):a=b:=by
 cases a with
 | none=>cases b with
  | none=>rfl
  | some w=>
   have:=hb w rfl
   have h2:(0:Int)=(w:Int):=h
   omega
 | some v=>cases b with
  | none=>
   have:=ha v rfl
   have h2:(v:Int)=0:=h
   omega
  | some w=>
   have h2:(v:Int)=(w:Int):=h
   congr 1
   omega
def atCost (rs:List Recipe) (ps:List Int) (g i:Nat):Bool:=match rs[i]? with
 | some r=>decide (cbrI r ps=ps.getD g 0)
 | none=>false
theorem Vj {gs:List Good} {rs:List Recipe} (R:RInv gs rs) {g i:Nat} (h:Vbwsao.best gs rs (Vbwsao.costs gs rs) g=some i) :
  (((List.range rs.length).filter fun i=>(rs[i]?.map fun r=>r.makes == g).getD false).filter (atCost rs (encL (Vbwsao.costs gs rs)) g))[0]? = some i:=by
 unfold Vbwsao.best at h
 split at h
 ·cases h
 ·rw [← List.head?_eq_getElem?,List.filter_filter,List.head?_filter,← h]
  congr 1
  funext j
  unfold atCost
  cases hj:rs[j]? with
  | none=>rfl
  | some r=>
   have Rr:=R.ok r (List.mem_of_getElem? hj)
   show (decide (cbrI r (encL (Vbwsao.costs gs rs))=(encL (Vbwsao.costs gs rs)).getD g 0)&&(r.makes == g))=(r.makes == g&&Vbwsao.byRecipe (Vbwsao.costs gs rs) r == Vbwsao.costAt (Vbwsao.costs gs rs) g)
   rw [Bool.and_comm]
   congr 1
   rw [JI (wQ R),jP]
   rw [Bool.eq_iff_iff,decide_eq_true_iff,beq_iff_eq]
   exact ⟨enc_inj (fun v hv=>JK Rr.2.1 hv) (fun v hv=>wQ R g v hv),fun e=>by rw [e]⟩
section
variable {P:Program} {w:World} {K:PySem.W.Frag} {mg:Str→Option Value} {base:Heap}
theorem zS:FnScope ["recipes","costs","good","makers","k","recipe"] ["recipes","costs","good"] (defScope jB):=⟨rfl,rfl,rfl,by decide +kernel,rfl,by decide +kernel,by decide +kernel⟩
def wB (T:Prog K mg):Sp:=fun vs H Q _=>∃ (rl q:Addr) (ra L:List Addr) (gs:List Good) (rs:List Recipe) (g i:Nat),vs=[.ref rl,.ref q,.int (g:Int)]∧LsAt H rl ra rs (RecAt T L H)∧RInv gs rs∧H q=some (.lst ((encL (Vbwsao.costs gs rs)).map V.int))∧g<gs.length ∧
 Vbwsao.best gs rs (Vbwsao.costs gs rs) g=some i∧∀ H',Same H H'→Q (.int (i:Int)) H'
theorem wL (T:Prog K mg):FnOk P w K mg base CX0 3 T.first_recipe_at_cost.f T.first_recipe_at_cost.fd ["recipes","costs","good"] (wB T):=by
 refine T.first_recipe_at_cost.fn.ok zS (fun vs H Q E h=>?_) (fun cdv A outer s H vs Q E hr h=>?_)
 ·obtain ⟨rl,q,ra,L,gs,rs,g,i,rfl,_⟩:=h
  rfl
 ·obtain ⟨rl,q,ra,L,gs,rs,g,i,rfl,hrs,R,hq,hg,hb,k⟩:=h
  have hlc:(encL (Vbwsao.costs gs rs)).length=gs.length:=by unfold encL;rw [List.length_map,jl]
  have mR:∀ {H1:Hp},Same H H1→LsAt H1 rl ra rs (RecAt T L H1):=fun s1=>hrs.imp (s1 _ _ hrs.1) fun a x h=>h.frm (κ:=[]) (L:=[]) (zy s1) (by simp) (by simp)
  refine ⟨_,(za (wI (i:=3) rfl zS.nd rfl rfl (yT rfl rfl rfl rfl) (xf (K:=K) rfl rfl T.b_enumerate (zc (pv 0) zb)) (own:=[("k",4),("recipe",5)]) (zW (by kernel_rfl)) (fun _ _ _ _ _=>(js (K:=K) (n:=2) rfl rfl (zF (zw (i:=4) zS.nd rfl (by first | exact Or.inl rfl | exact Or.inr rfl)) (zF (zw (i:=5) zS.nd rfl (by first | exact Or.inl rfl | exact Or.inr rfl)) jr)))) (fun _ _ _ _ _=>(yY (zq z8 (zd (K:=K) rfl (pv 5) rfl) (pv 2) (nomark _)))) (fun _ _ _ _ _=>(pv 4)))
   (ze (zm (zv (zk (K:=K) rfl) (qT rfl zS.nd (zL (K:=K) rfl (pv 3)) (own:=[("k",4)]) (zW (by kernel_rfl)) (fun _ _ _ _ _=>(zw (i:=4) zS.nd rfl (by first | exact Or.inl rfl | exact Or.inr rfl))) (fun _ _ _ _ _=>(yY (zq z8 (zi (wb T) (hr.mono (by decide)) rfl T.cost_by_recipe.at_ T.cost_by_recipe.fn.kp T.cost_by_recipe.b .nil pass0 (zc (zv (zk (K:=K) rfl) (pv 0) (pv 4) (fun _ _=>rfl)) (zc (pv 1) zb))) (zv (zk (K:=K) rfl) (pv 1) (pv 2) (fun _ _=>rfl)) (nomark _)))) (fun _ _ _ _ _=>(pv 4))) zj (fun _ _=>rfl))))),?_⟩
  refine ⟨_,rfl,rl,_,rfl,SqL.of hrs.1,Yi (xs:=rs) (fun H x v=>∃ a,v = .ref a∧RecAt T L H a x) (fun r=>r.makes == g) (fun i=>V.int (i:Int)) (SqL.of hrs.1) (by rw [List.length_map,hrs.2.1]) (small (m:=1000) (by have:=R.len;omega)) (fun i v x hv hx=>?_) (fun H1 x v s1 ⟨a,e,h⟩=>⟨a,e,h.frm (κ:=[]) (L:=[]) (zy s1) (by simp) (by simp)⟩) ?_ ?_⟩
  ·rw [List.getElem?_map] at hv
   obtain ⟨a,ha,rfl⟩:=Option.map_eq_some_iff.mp hv
   exact ⟨a,rfl,hrs.2.2 i a x ha hx⟩
  ·rintro j x v TT H1 N1 N2 hx s1 ⟨a,rfl,dx,nl,e1,_,_⟩ hT k1 k2
   exact jY hT ⟨rfl,_,rfl,qQ T e1 ⟨_,rfl,rfl,_,rfl,zx (qJ _ _) (fun e=>⟨_,rfl,k1 e H1 (Same.refl _)⟩) (fun e=>k2 e H1 (Same.refl _))⟩⟩
  ·intro D H1 s1 hD hD1
   have hxl:((List.range rs.length).filter fun i=>(rs[i]?.map fun r=>r.makes == g).getD false).length≤16:=by
    have:=List.length_filter_le (fun i=>(rs[i]?.map fun r=>r.makes == g).getD false) (List.range rs.length)
    rw [List.length_range] at this
    have:=R.len
    omega
   refine ⟨_,rfl,D,rfl,⟨_,SqL.of hD1⟩,JA (xs:=(List.range rs.length).filter fun i=>(rs[i]?.map fun r=>r.makes == g).getD false) (fun H x v=>v=V.int (x:Int)) (atCost rs (encL (Vbwsao.costs gs rs)) g) (fun i=>V.int (i:Int)) (SqL.of hD1) (by rw [List.length_map]) (small (m:=1000) (by omega)) (fun i v x hv hx=>?_) (fun _ _ _ _ h=>h) ?_ ?_⟩
   ·rw [List.getElem?_map,hx] at hv
    cases hv
    rfl
   ·rintro j v H2 N1 N2 hx s2 rfl k1 k2
    have hj:j<rs.length:=List.mem_range.mp (List.mem_filter.mp hx).1
    have hr1:rs[j]? = some rs[j]:=List.getElem?_eq_getElem hj
    have ha1:ra[j]? = some (ra[j]'(by rw [hrs.2.1];exact hj)):=List.getElem?_eq_getElem _
    have hra:=(mR (s1.trans s2)).2.2 j _ _ ha1 hr1
    have Rr:=R.ok _ (List.mem_of_getElem? hr1)
    have hq2:=s2 _ _ (s1 _ _ hq)
    refine ⟨rfl,_,rfl,_,rfl,jb (mR (s1.trans s2)) ha1 ⟨_,rfl,_,q,L,rs[j],encL (Vbwsao.costs gs rs),rfl,hra,hq2,by omega,fun x hx=>⟨by rw [hlc];exact (Rr.2.2.2.2.1 x hx).1,(Rr.2.2.2.2.1 x hx).2.2⟩,fun H3 s3=>?_⟩⟩
    refine ⟨_,rfl,_,rfl,yf (s3 _ _ hq2) (by rw [hlc];exact hg) ⟨rfl,_,rfl,zx (p:=atCost rs (encL (Vbwsao.costs gs rs)) g j) ?_ (fun e=>⟨_,rfl,k1 e H3 s3⟩) (fun e=>k2 e H3 s3)⟩⟩
    unfold atCost
    rw [hr1]
    exact decide_eq_decide.mpr ⟨fun z=>by injection z,fun z=>by rw [z]⟩
   ·intro D2 H2 s2 hD2 hD22
    refine ⟨D2,_,_,_,rfl,rfl,SqL.of hD22,yk (j:=0) (by rw [List.getElem?_map,Vj R hb];rfl),k H2 (s1.trans s2)⟩
end
theorem QQ {gs:List Good} {rs:List Recipe} (R:RInv gs rs) (f m:Nat):∀ (l:List (Nat × Nat)),(∀ x∈l,∃ k,Vbwsao.costAt (Vbwsao.costs gs rs) x.1=some k)→∀ (a:Acc),(l.foldl (addA gs rs (Vbwsao.costs gs rs) f m) a).2.1.length≤a.2.1.length+(l.map fun x=>2 ^ rk (Vbwsao.costs gs rs) ((Vbwsao.costAt (Vbwsao.costs gs rs) x.1).getD 0)).sum∧(l.foldl (addA gs rs (Vbwsao.costs gs rs) f m) a).2.2.length≤a.2.2.length+(l.map fun x=>2 ^ rk (Vbwsao.costs gs rs) ((Vbwsao.costAt (Vbwsao.costs gs rs) x.1).getD 0)).sum:=by
 intro l
 induction l with
 | nil=>intro _ a;exact ⟨Nat.le_refl _,Nat.le_refl _⟩
 | cons x l ih=>
  intro hl a
  rw [List.foldl_cons,List.map_cons,List.sum_cons]
  obtain ⟨k,hk⟩:=hl x List.mem_cons_self
  obtain ⟨q1,q2⟩:=ki R f x.1 (x.2 * m) a.1 k hk
  obtain ⟨p1,p2⟩:=ih (fun y hy=>hl y (List.mem_cons_of_mem _ hy)) (addA gs rs (Vbwsao.costs gs rs) f m a x)
  have e1:(addA gs rs (Vbwsao.costs gs rs) f m a x).2.1.length=a.2.1.length+(Vbwsao.meet gs rs (Vbwsao.costs gs rs) f x.1 (x.2 * m) a.1).2.1.length:=List.length_append
  have e2:(addA gs rs (Vbwsao.costs gs rs) f m a x).2.2.length=a.2.2.length+(Vbwsao.meet gs rs (Vbwsao.costs gs rs) f x.1 (x.2 * m) a.1).2.2.length:=List.length_append
  rw [hk]
  show _≤_+(2 ^ rk _ k+_)∧_≤_+(2 ^ rk _ k+_)
  omega
theorem xD {gs:List Good} {rs:List Recipe} (c:Vbwsao.Costs) (f m:Nat):∀ (l:List (Nat × Nat)) (a:Acc),(l.foldl (addA gs rs c f m) a).1.length=a.1.length
 | [],a=>rfl
 | x :: l,a=>by
  rw [List.foldl_cons,xD c f m l]
  exact vL c f x.1 _ a.1
section
variable {P:Program} {w:World} {K:PySem.W.Frag} {mg:Str→Option Value} {base:Heap}
theorem PlAt.step {T:Prog K mg} {H:Hp} {pa sk sp us:Addr} {st:List Nat} {steps:List Vbwsao.Step} {used:List (Nat × Nat)} (Pl:PlAt T H pa sk sp us st steps used) {as:List Addr} (ha:LsAt H sp as steps (TrAt H)) {t:Addr} (ht:H t=none) (x:Vbwsao.Step) :
  PlAt T (L2.upd (L2.upd H t (.tup (trV x))) sp (.lst (as.map V.ref++[.ref t]))) pa sk sp us st (steps++[x]) used∧Frm [] [sp] H (L2.upd (L2.upd H t (.tup (trV x))) sp (.lst (as.map V.ref++[.ref t]))):=by
 have nt:sp≠t:=zn ha.1 ht
 have f2:Frm [] [sp] H (L2.upd (L2.upd H t (.tup (trV x))) sp (.lst (as.map V.ref++[.ref t]))):=(zy (zM ht)).trans (jv (by rw [zl nt];exact ha.1) (by simp))
 obtain ⟨dx,e1⟩:=Pl.ob
 obtain ⟨us',hu⟩:=Pl.hus
 refine ⟨⟨⟨dx,f2.ins e1 (by simp)⟩,f2.lst Pl.hsk (by simp;exact Pl.n1),⟨as++[t],y4 ha zf (fun b y h=>f2.tup h) ?_⟩,⟨us',hu.imp (f2.lst hu.1 (by simp;exact Ne.symm Pl.n3)) fun a x h=>f2.tup h⟩,Pl.n1,Pl.n2,Pl.n3⟩,f2⟩
 unfold TrAt
 rw [zl (Ne.symm nt),zf]
def uU (T:Prog K mg) (f:Nat):Sp:=fun vs H Q _=>∃ (A:Adr) (s:State) (hs:List Int) (H0:Hp) (q pa sk sp us:Addr) (st:List Nat) (steps:List Vbwsao.Step) (used:List (Nat × Nat)) (g n v:Nat),vs=[.ref A.st,.ref q,.ref pa,.int (g:Int),.int (n:Int)]∧StX T H0 A s hs∧GInv s.goods∧RInv s.goods s.recipes ∧
 H0 q=some (.lst ((encL (Vbwsao.costs s.goods s.recipes)).map V.int))∧(H0 sk=none∧H0 sp=none∧H0 us=none)∧Same H0 H∧PlAt T H pa sk sp us st steps used∧st.length=s.goods.length∧Vbwsao.costAt (Vbwsao.costs s.goods s.recipes) g=some v∧rk (Vbwsao.costs s.goods s.recipes) v<f ∧
 steps.length+2 ^ rk (Vbwsao.costs s.goods s.recipes) v≤100000∧used.length+2 ^ rk (Vbwsao.costs s.goods s.recipes) v≤100000 ∧
 ∀ H',Same H0 H'→PlAt T H' pa sk sp us (Vbwsao.meet s.goods s.recipes (Vbwsao.costs s.goods s.recipes) f g n st).1 (steps++(Vbwsao.meet s.goods s.recipes (Vbwsao.costs s.goods s.recipes) f g n st).2.1) (used++(Vbwsao.meet s.goods s.recipes (Vbwsao.costs s.goods s.recipes) f g n st).2.2)→Q .non H'
theorem yV:FnScope ["state","costs","plan","good","many","lacking","number","needed","each"] ["state","costs","plan","good","many"] (defScope Ww):=⟨rfl,rfl,rfl,by decide +kernel,rfl,by decide +kernel,by decide +kernel⟩
theorem xm (T:Prog K mg):∀ f,FnOk P w K mg base CX0 (4+f) T.meet.f T.meet.fd ["state","costs","plan","good","many"] (uU T f)
 | 0=>by
  refine T.meet.fn.ok yV (fun vs H Q E h=>?_) (fun cdv A outer s H vs Q E hr h=>?_)
  ·obtain ⟨A,s,hs,H0,q,pa,sk,sp,us,st,steps,used,g,n,v,rfl,_⟩:=h
   rfl
  ·obtain ⟨A,s,hs,H0,q,pa,sk,sp,us,st,steps,used,g,n,v,rfl,_,_,_,_,_,_,_,_,_,hf,_⟩:=h
   omega
 | f+1=>by
  have ih:FnOk P w K mg base CX0 (4+f) T.meet.f T.meet.fd ["state","costs","plan","good","many"] (uU T f):=xm T f
  refine T.meet.fn.ok (k:=4+f) yV (fun vs H Q E h=>?_) (fun cdv A outer s H vs Q E hrr h=>?_)
  ·obtain ⟨A,s,hs,H0,q,pa,sk,sp,us,st,steps,used,g,n,v,rfl,_⟩:=h
   rfl
  ·obtain ⟨A,s,hs,H0,q,pa,sk,sp,us,st,steps,used,g,n,v,rfl,S0,G,R,hq0,⟨h0k,h0p,h0u⟩,s0,Pl,hlen,hv,hf,hz1,hz2,k⟩:=h
   have hr:=hrr.mono (Nat.le_add_right 4 f)
   have hg:g<s.goods.length:=by
    have:=qe hv
    rw [jl] at this
    exact this
   have hlc:(encL (Vbwsao.costs s.goods s.recipes)).length=s.goods.length:=by unfold encL;rw [List.length_map,jl]
   have hpow:1≤2 ^ rk (Vbwsao.costs s.goods s.recipes) v:=Nat.one_le_two_pow
   rw [kj] at k
   refine ⟨_,(za (zt (i:=5) yV.nd rfl (by first | exact Or.inl rfl | exact Or.inr rfl) (zI jI (pv 4) (zi (Jp T) (hr.mono (by decide)) rfl T.use_stock.at_ T.use_stock.fn.kp T.use_stock.b .nil pass0 (zc (pv 2) (zc (pv 3) (zc (pv 4) zb))))))
   (za (zB (zq z8 (pv 5) zj (nomark _)) (ze Yc) zp)
   (za (zB (zq z8 (zd (K:=K) rfl (zv (zk (K:=K) rfl) (zd (K:=K) rfl (pv 0) rfl) (pv 3) (fun _ _=>rfl)) rfl) (zv (zk (K:=K) rfl) (pv 1) (pv 3) (fun _ _=>rfl)) (nomark _)) (za (zG (qb (K:=K) rfl (zd (K:=K) rfl (pv 2) rfl) (vG (zc (zA (v:=.int (0)) rfl T.c_BUY.at_ ⟨_,rfl⟩) (zc (pv 3) (zc (pv 5) zb))))))
   (ze Yc)) zp)
   (za (zt (i:=6) yV.nd rfl (by first | exact Or.inl rfl | exact Or.inr rfl) (zi (wL T) (hr.mono (by decide)) rfl T.first_recipe_at_cost.at_ T.first_recipe_at_cost.fn.kp T.first_recipe_at_cost.b .nil pass0 (zc (zd (K:=K) rfl (pv 0) rfl) (zc (pv 1) (zc (pv 3) zb)))))
   (za (jH PassesOwn.never rfl (zL (K:=K) rfl (zd (K:=K) rfl (zv (zk (K:=K) rfl) (zd (K:=K) rfl (pv 0) rfl) (pv 6) (fun _ _=>rfl)) rfl)) (js (K:=K) (n:=2) rfl rfl (zF (zw (i:=7) yV.nd rfl (by first | exact Or.inl rfl | exact Or.inr rfl)) (zF (zw (i:=8) yV.nd rfl (by first | exact Or.inl rfl | exact Or.inr rfl)) jr))) (ze (zG (zi (ih) hrr rfl T.meet.at_ T.meet.fn.kp T.meet.b .nil pass0 (zc (pv 0) (zc (pv 1) (zc (pv 2) (zc (pv 7) (zc (zI yd (pv 5) (pv 8)) zb)))))))))
   (ze (zG (qb (K:=K) rfl (zd (K:=K) rfl (pv 2) rfl) (vG (zc (zA (v:=.int (1)) rfl T.c_DO.at_ ⟨_,rfl⟩) (zc (pv 6) (zc (pv 5) zb)))))))))))),?_⟩
   refine ⟨_,rfl,_,rfl,_,rfl,_,rfl,pa,sk,sp,us,st,steps,used,g,n,rfl,Pl,by omega,by omega,fun H1 Pl1 f1=>⟨_,_,rfl,rfl,?_⟩⟩
   have em:(n:Int) - ((min n (st.getD g 0):Nat):Int)=((n - min n (st.getD g 0):Nat):Int):=by omega
   show gName 5 (.int ((n:Int) - ((min n (st.getD g 0):Nat):Int))) _ _ _
   rw [em]
   have s1:Same H0 H1:=yU s0 f1 (by simp [h0k,h0u])
   have S1:=S0.same s1
   have hul:(if min n (st.getD g 0)=0 then ([]:List (Nat × Nat)) else [(g,min n (st.getD g 0))]).length≤1:=by split <;> simp
   generalize hst1:st.set g (st.getD g 0 - min n (st.getD g 0))=st1 at Pl1 k
   generalize hu1:(if min n (st.getD g 0)=0 then ([]:List (Nat × Nat)) else [(g,min n (st.getD g 0))])=u1 at Pl1 k hul
   generalize hm1:n - min n (st.getD g 0)=m at k
   refine ⟨_,rfl,rfl,_,rfl,zx (qJ m 0) (fun e=>?_) (fun e=>?_)⟩
   ·have e':m=0:=by simpa using e
    rw [if_pos e'] at k
    refine k H1 s1 ?_
    rw [List.append_nil]
    exact Pl1
   ·have e':¬ m=0:=by simpa using e
    rw [if_neg e'] at k
    obtain ⟨ga,gdx,hga,eg⟩:=S1.good hg
    have hq1:=s1 _ _ hq0
    have ec:(encL (Vbwsao.costs s.goods s.recipes)).getD g 0=(v:Int):=by
     rw [jP,hv]
     rfl
    obtain ⟨dx1,eo1⟩:=Pl1.ob
    obtain ⟨as1,ha1⟩:=Pl1.hsp
    refine ⟨_,rfl,zV S1 ⟨_,rfl,jb S1.gs hga (yI T eg ⟨_,rfl,_,rfl,yf hq1 (by rw [hlc];exact hg) ⟨rfl,_,rfl,?_⟩⟩)⟩⟩
    rw [ec]
    refine zx (qJ _ _) (fun e2=>?_) (fun e2=>?_)
    ·have e2':(Vbwsao.goodAt s.goods g).price=v:=by simpa using e2
     rcases kq R hv with ⟨_,hb⟩ | ⟨hne,_⟩
     ·rw [hb] at k
      refine ⟨_,rfl,wF T eo1 ⟨.inl ⟨rfl,_,SqL.of ha1.1⟩,_,rfl,_,rfl,by show 3≤sizeLine;decide,fun t ht=>?_⟩⟩
      obtain ⟨Pl2,f2⟩:=Pl1.step ha1 ht (.buy g m)
      exact ⟨sp,_,_,rfl,rfl,by rw [zl (zn ha1.1 ht)];exact ha1.1,by rw [List.length_map,ha1.2.1];exact small (m:=100000) (by omega),k _ (yU s1 f2 (by simp [h0p])) Pl2⟩
     ·exact absurd e2' hne
    ·have e2':¬ (Vbwsao.goodAt s.goods g).price=v:=by simpa using e2
     rcases kq R hv with ⟨he,_⟩ | ⟨_,i,r,hbi,hri,hmk,hcq,hb⟩
     ·exact absurd he e2'
     ·rw [hb] at k
      dsimp only at k
      have Rr:=R.ok r (List.mem_of_getElem? hri)
      have hnf:=ye R hri hcq
      have hnp:=Zw Rr.2.2.2.2.2 hnf
      refine ⟨_,rfl,zY S1 ⟨_,rfl,_,rfl,A.rl,q,A.ra,A.tops,s.goods,s.recipes,g,i,rfl,S1.rs,R,hq1,hg,hbi,fun H2 t2=>?_⟩⟩
      have s2:=s1.trans t2
      have S2:=S0.same s2
      obtain ⟨a,dx,nl,hra,er,nnl,pnl⟩:=S2.reci hri
      obtain ⟨a0,dx0,nl0,hra0,er0,_,pnl0⟩:=S0.reci hri
      have ea:a0=a:=by
       rw [hra] at hra0
       exact (Option.some.inj hra0).symm
      subst ea
      have enl:nl0=nl:=by
       have h1:=s2 _ _ er0
       rw [er] at h1
       have h2:=congrArg (fun o=>match o with | some (HO.ins _ _ fs)=>fs.lookup ("needs":Str) | _=>none) h1
       have h3:some (V.ref nl)=some (V.ref nl0):=h2
       injection h3 with h3
       injection h3 with h3
       exact h3.symm
      subst enl
      have Pl2:PlAt T H2 pa sk sp us st1 steps (used++u1):=by
       have fz:Frm [] [] H1 H2:=zy t2
       obtain ⟨usx,hux⟩:=Pl1.hus
       exact ⟨⟨dx1,t2 _ _ eo1⟩,t2 _ _ Pl1.hsk,⟨as1,ha1.imp (t2 _ _ ha1.1) fun a x h=>fz.tup h⟩,⟨usx,hux.imp (t2 _ _ hux.1) fun a x h=>fz.tup h⟩,Pl1.n1,Pl1.n2,Pl1.n3⟩
      have hst1l:st1.length=s.goods.length:=by rw [← hst1,List.length_set];exact hlen
      refine ⟨_,rfl,zY S2 ⟨_,rfl,jb S2.rs hra (wE T er ⟨nl0,rfl,uB (fun j σ H'=>Same H0 H'∧PlAt T H' pa sk sp us ((r.needs.take j).foldl (addA s.goods s.recipes (Vbwsao.costs s.goods s.recipes) f m) (st1,steps,used++u1)).1 ((r.needs.take j).foldl (addA s.goods s.recipes (Vbwsao.costs s.goods s.recipes) f m) (st1,steps,used++u1)).2.1 ((r.needs.take j).foldl (addA s.goods s.recipes (Vbwsao.costs s.goods s.recipes) f m) (st1,steps,used++u1)).2.2 ∧
       ∃ v7 v8,σ=[some (.ref A.st),some (.ref q),some (.ref pa),some (.int (g:Int)),some (.int (n:Int)),some (.int (m:Int)),some (.int (i:Int)),v7,v8]) pnl ⟨s2,Pl2,_,_,rfl⟩ (fun j σ' H' hp=>hp.1.prs pnl0 s2) ?_ ?_⟩)⟩⟩
      ·rintro j x aa σ H3 hx hpa ⟨s3,Pl3,v7,v8,rfl⟩
       obtain ⟨kk,hk1,hk2⟩:=hnf x (List.mem_of_getElem? hx)
       have hrk:=W9 hk1 hk2
       have hmul:=(Rr.2.2.2.2.1 x (List.mem_of_getElem? hx)).2.2
       obtain ⟨l1,l2⟩:=QQ R f m (r.needs.take j) (fun y hy=>let ⟨z,h,_⟩:=hnf y (List.mem_of_mem_take hy);⟨z,h⟩) (st1,steps,used++u1)
       have hstl:=xD (gs:=s.goods) (rs:=s.recipes) (Vbwsao.costs s.goods s.recipes) f m (r.needs.take j) (st1,steps,used++u1)
       have hsum:((r.needs.take j).map fun x=>2 ^ rk (Vbwsao.costs s.goods s.recipes) ((Vbwsao.costAt (Vbwsao.costs s.goods s.recipes) x.1).getD 0)).sum+2 ^ rk (Vbwsao.costs s.goods s.recipes) kk≤(r.needs.map fun x=>2 ^ rk (Vbwsao.costs s.goods s.recipes) ((Vbwsao.costAt (Vbwsao.costs s.goods s.recipes) x.1).getD 0)).sum:=by
        have h1:r.needs=r.needs.take (j+1)++r.needs.drop (j+1):=(List.take_append_drop _ _).symm
        conv=>rhs;rw [h1,zZ hx]
        rw [List.map_append,List.sum_append,List.map_append,List.sum_append,List.map_cons,List.map_nil,List.sum_cons,List.sum_nil,hk1]
        show _≤_+(2 ^ rk _ kk+0)+_
        omega
       have hsn:(r.needs.take (j+1)).foldl (addA s.goods s.recipes (Vbwsao.costs s.goods s.recipes) f m) (st1,steps,used++u1)=addA s.goods s.recipes (Vbwsao.costs s.goods s.recipes) f m ((r.needs.take j).foldl (addA s.goods s.recipes (Vbwsao.costs s.goods s.recipes) f m) (st1,steps,used++u1)) x:=by
        rw [zZ hx,List.foldl_append]
        rfl
       generalize hacc:(r.needs.take j).foldl (addA s.goods s.recipes (Vbwsao.costs s.goods s.recipes) f m) (st1,steps,used++u1)=acc at Pl3 l1 l2 hsn hstl
       have l1':acc.2.1.length≤steps.length+((r.needs.take j).map fun x=>2 ^ rk (Vbwsao.costs s.goods s.recipes) ((Vbwsao.costAt (Vbwsao.costs s.goods s.recipes) x.1).getD 0)).sum:=l1
       have l2':acc.2.2.length≤(used++u1).length+((r.needs.take j).map fun x=>2 ^ rk (Vbwsao.costs s.goods s.recipes) ((Vbwsao.costAt (Vbwsao.costs s.goods s.recipes) x.1).getD 0)).sum:=l2
       rw [List.length_append] at l2'
       have hstl':acc.1.length=st1.length:=hstl
       refine jY hpa ?_
       refine ⟨_,rfl,_,rfl,_,rfl,_,rfl,_,rfl,_,rfl,_,_,rfl,rfl,.inr ⟨by omega,by omega⟩,A,s,hs,H0,q,pa,sk,sp,us,acc.1,acc.2.1,acc.2.2,x.1,x.2 * m,kk,?_,S0,G,R,hq0,⟨h0k,h0p,h0u⟩,s3,Pl3,by omega,hk1,by omega,by omega,by omega,fun H4 s4 Pl4=>?_⟩
       ·have e5:(m:Int) * (x.2:Int)=((x.2 * m:Nat):Int):=by rw [Int.mul_comm];omega
        rw [← e5]
        rfl
       ·refine ⟨s4,?_,_,_,rfl⟩
        rw [hsn]
        exact Pl4
      ·rintro σ H3 ⟨s3,Pl3,v7,v8,rfl⟩
       rw [List.take_length,kl] at Pl3
       dsimp only at Pl3
       obtain ⟨dx3,eo3⟩:=Pl3.ob
       obtain ⟨as3,ha3⟩:=Pl3.hsp
       obtain ⟨l1,l2⟩:=QQ R f m r.needs (fun y hy=>let ⟨z,h,_⟩:=hnf y hy;⟨z,h⟩) (st1,[],[])
       have l1':(r.needs.foldl (addA s.goods s.recipes (Vbwsao.costs s.goods s.recipes) f m) (st1,[],[])).2.1.length≤0+(r.needs.map fun x=>2 ^ rk (Vbwsao.costs s.goods s.recipes) ((Vbwsao.costAt (Vbwsao.costs s.goods s.recipes) x.1).getD 0)).sum:=l1
       refine ⟨_,rfl,wF T eo3 ⟨.inl ⟨rfl,_,SqL.of ha3.1⟩,_,rfl,_,rfl,by show 3≤sizeLine;decide,fun t ht=>?_⟩⟩
       obtain ⟨Pl4,f4⟩:=Pl3.step ha3 ht (.run i m)
       rw [List.append_assoc,List.append_assoc] at Pl4
       exact ⟨sp,_,_,rfl,rfl,by rw [zl (zn ha3.1 ht)];exact ha3.1,by rw [List.length_map,ha3.2.1,List.length_append];exact small (m:=200000) (by omega),k _ (yU s3 f4 (by simp [h0p])) Pl4⟩
def sp_meet (T:Prog K mg):Sp:=fun vs H Q E=>∃ f,f≤11∧uU T f vs H Q E
theorem ok_meet (T:Prog K mg):FnOk P w K mg base CX0 15 T.meet.f T.meet.fd ["state","costs","plan","good","many"] (sp_meet T) where
 len:=fun vs H Q E ⟨f,_,h⟩=>(xm (P:=P) (w:=w) (base:=base) T f).len vs H Q E h
 run:=fun A outer s H args us vs Q E hr he hb hv ⟨f,hf,h⟩=>(xm T f).run A outer s H args us vs Q E (hr.mono (by omega)) he hb hv h
end
end BM
end
section
namespace BM
open Vbwsao
theorem QN {l:List Nat} {g v h M:Nat} (hv:v≤M) (hl:∀ y,l.getD y 0≤M):(l.set g v).getD h 0≤M:=by
 by_cases e:h=g
 ·subst e
  by_cases q:h<l.length
  ·rw [QO q,if_pos rfl]
   exact hv
  ·rw [List.getD_eq_getElem?_getD,List.getElem?_eq_none (by simp;omega)]
   exact Nat.zero_le _
 ·rw [List.getD_eq_getElem?_getD,List.getElem?_set_ne (Ne.symm e),← List.getD_eq_getElem?_getD]
  exact hl h
def stIn (gs:List Good) (rs:List Recipe):Step→Prop
 | .buy g _=>g<gs.length
 | .run i _=>i<rs.length
section
variable {gs:List Good} {rs:List Recipe}
theorem Yf (R:RInv gs rs) {M:Nat}:∀ (f g n:Nat) (st:List Nat) (v:Nat),costAt (costs gs rs) g=some v→(∀ y,st.getD y 0≤M) →
  (∀ y,(meet gs rs (costs gs rs) f g n st).1.getD y 0≤M)∧(∀ x∈(meet gs rs (costs gs rs) f g n st).2.1,stIn gs rs x)∧(∀ x∈(meet gs rs (costs gs rs) f g n st).2.2,x.1<gs.length∧x.2≤M)
 | 0,g,n,st,v,_,h=>⟨h,(fun x hx=>(List.not_mem_nil hx).elim),(fun x hx=>(List.not_mem_nil hx).elim)⟩
 | f+1,g,n,st,v,hv,h=>by
  have hg:g<gs.length:=by
   have:=qe hv
   rw [jl] at this
   exact this
  have hsg:=h g
  have h1:∀ y,(st.set g (st.getD g 0 - min n (st.getD g 0))).getD y 0≤M:=fun y=>QN (by omega) h
  have hu:∀ x∈(if min n (st.getD g 0)=0 then ([]:List (Nat × Nat)) else [(g,min n (st.getD g 0))]),x.1<gs.length∧x.2≤M:=fun x hx=>by
   split at hx
   ·cases hx
   ·simp only [List.mem_singleton] at hx
    subst hx
    exact ⟨hg,by show min n (st.getD g 0)≤M;omega⟩
  rw [kj]
  split
  ·exact ⟨h1,(fun x hx=>(List.not_mem_nil hx).elim),hu⟩
  ·rcases kq R hv with ⟨_,hb⟩ | ⟨_,i,r,_,hr,hm,hc,hb⟩
   ·rw [hb]
    refine ⟨h1,fun x hx=>?_,hu⟩
    have hx':x∈[Step.buy g (n - min n (st.getD g 0))]:=hx
    simp only [List.mem_singleton] at hx'
    subst hx'
    exact hg
   ·rw [hb]
    have hnf:=ye R hr hc
    generalize n - min n (st.getD g 0)=m
    have key:∀ (l:List (Nat × Nat)),(∀ x∈l,∃ k,costAt (costs gs rs) x.1=some k)→∀ (a:Acc),(∀ y,a.1.getD y 0≤M)→(∀ x∈a.2.1,stIn gs rs x)→(∀ x∈a.2.2,x.1<gs.length∧x.2≤M) →
      (∀ y,(l.foldl (addA gs rs (costs gs rs) f m) a).1.getD y 0≤M)∧(∀ x∈(l.foldl (addA gs rs (costs gs rs) f m) a).2.1,stIn gs rs x)∧(∀ x∈(l.foldl (addA gs rs (costs gs rs) f m) a).2.2,x.1<gs.length∧x.2≤M):=by
     intro l
     induction l with
     | nil=>intro _ a q1 q2 q3;exact ⟨q1,q2,q3⟩
     | cons x l ih=>
      intro hl a q1 q2 q3
      obtain ⟨k,hk⟩:=hl x List.mem_cons_self
      obtain ⟨p1,p2,p3⟩:=Yf R f x.1 (x.2 * m) a.1 k hk q1
      refine ih (fun y hy=>hl y (List.mem_cons_of_mem _ hy)) _ p1 (fun y hy=>?_) (fun y hy=>?_)
      ·rcases List.mem_append.mp hy with h | h
       ·exact q2 y h
       ·exact p2 y h
      ·rcases List.mem_append.mp hy with h | h
       ·exact q3 y h
       ·exact p3 y h
    obtain ⟨k1,k2,k3⟩:=key r.needs (fun x hx=>let ⟨k,h,_⟩:=hnf x hx;⟨k,h⟩) (st.set g (st.getD g 0 - min n (st.getD g 0)),[],[]) h1 (fun x hx=>by cases hx) (fun x hx=>by cases hx)
    refine ⟨k1,fun x hx=>?_,fun x hx=>?_⟩
    ·rcases List.mem_append.mp hx with h | h
     ·exact k2 x h
     ·simp only [List.mem_singleton] at h
      subst h
      exact (List.getElem?_eq_some_iff.mp hr).1
    ·rcases List.mem_append.mp hx with h | h
     ·exact hu x h
     ·exact k3 x h
theorem yo {b:Nat}:∀ (l:List (Nat × Nat)) (bs bs':List Bag) (x:Bag),bs[b]? = some x→takeAll bs b l=some bs'→∃ ys,bs' = bs.set b { x with stacks:=ys }
 | [],bs,bs',x,hx,h=>by
  have e:bs=bs':=Option.some.inj h
  subst e
  exact ⟨x.stacks,by
   have hb:=(List.getElem?_eq_some_iff.mp hx).1
   apply List.ext_getElem?
   intro i
   by_cases e:b=i
   ·subst e;rw [List.getElem?_set_self hb,hx]
   ·rw [List.getElem?_set_ne e]⟩
 | y :: l,bs,bs',x,hx,h=>by
  have h':(take? bs b y.1 y.2).bind (fun c=>takeAll c b l)=some bs':=h
  unfold take? at h'
  split at h'
  ·cases h'
  ·have h2:takeAll (takeRaw bs b y.1 y.2) b l=some bs':=h'
   have hb:=(List.getElem?_eq_some_iff.mp hx).1
   rw [z4 y.1 y.2 hx] at h2
   obtain ⟨ys,e⟩:=yo l _ bs' _ (List.getElem?_set_self hb) h2
   refine ⟨ys,?_⟩
   rw [e,List.set_set]
theorem count_le (M:Nat):∀ (l:List (Nat × Nat)) (g:Nat),(∀ x∈l,x.2≤M)→countIn l g≤l.length * M:=by
 intro l g
 unfold countIn
 induction l with
 | nil=>intro _;exact Nat.zero_le _
 | cons x l ih=>
  intro h
  have h1:=ih fun y hy=>h y (List.mem_cons_of_mem _ hy)
  have h2:=h x List.mem_cons_self
  rw [List.filter_cons,List.length_cons,Nat.add_mul]
  split
  ·rw [List.map_cons,List.sum_cons]
   omega
  ·omega
theorem Zf (c:Costs):∀ u:List (Nat × Nat),((u.map fun x=>(encL c).getD x.1 0 * (x.2:Int)).sum)=(worth c u:Int)
 | []=>rfl
 | x :: u=>by
  have ih:=Zf c u
  unfold worth at ih ⊢
  rw [List.map_cons,List.sum_cons,List.map_cons,List.sum_cons,ih,jP,Int.natCast_add,Int.natCast_mul,Int.mul_comm]
  cases costAt c x.1 <;> rfl
theorem uN (l:List Step) (x:Step):stepsCost gs rs (l++[x])=stepsCost gs rs l+stepCost gs rs x:=by
 unfold stepsCost
 rw [List.map_append,List.sum_append]
 simp
end
end BM
end
section
namespace BM
open PySem PySem.Spec L2
open PyProof.Rows hiding St
open Vbwsao (Good Recipe Bag Machine State)
theorem WV {α:Type} {K:PySem.W.Frag} {l:Addr} {as:List Addr} {xs:List α} {R:Hp→Addr→α→Prop} {g:TG} {tb:TS} {D:Ends} {σ:St} {H:Hp} (Pv:Nat→St→Hp→Prop) (hl:LsAt H l as xs (R H)) (h0:Pv 0 σ H) (hk:∀ i σ' H',Pv i σ' H'→LsAt H' l as xs (R H'))
  (hs:∀ (i:Nat) x a σ H,xs[i]? = some x→R H a x→Pv i σ H→g (.ref a) σ H fun σ2 H2=>tb { D with nx:=Pv (i+1),ct:=Pv (i+1),bk:=D.nx } σ2 H2) (hd:∀ σ H,Pv xs.length σ H→D.nx σ H) :
  (∃ xs,SqL K H l xs)∧∃ W:Nat→Nat→St→Hp→Prop,(∃ m,W 0 m σ H)∧∀ i m σ H,W i m σ H →
   ((Itl K l).stop i H∧D.nx σ H)∨((Itl K l).go i H∧∃ N:St→Hp→Prop,(∀ σ' H',N σ' H'→∃ m',m' < m∧W (i+1) m' σ' H')∧∀ x H',(Itl K l).yld i H x H'→g x σ H' fun σ2 H2=>tb { D with nx:=N,ct:=N,bk:=D.nx } σ2 H2):=by
 refine ⟨⟨_,SqL.of hl.1⟩,wO (K:=K) (a:=l) (xs:=as.map V.ref) (fun i σ' H'=>Pv i σ' H') h0 (fun i σ' H' _ p=>SqL.of (hk i σ' H' p).1) ?_ ?_⟩
 ·intro i v σ' H' hv p
  rw [List.getElem?_map] at hv
  obtain ⟨a,ha,rfl⟩:=Option.map_eq_some_iff.mp hv
  obtain ⟨x,hx⟩:=jo hl.2.1 ha
  exact hs i x a σ' H' hx ((hk i σ' H' p).2.2 i a x ha hx) p
 ·intro σ' H' p
  rw [List.length_map,hl.2.1] at p
  exact hd σ' H' p
section
variable {P:Program} {w:World} {K:PySem.W.Frag} {mg:Str→Option Value} {base:Heap}
theorem qm:FnScope ["state","costs","b","good","many","stacks","plan","k"] ["state","costs","b","good","many"] (defScope vw):=⟨rfl,rfl,rfl,by decide +kernel,rfl,by decide +kernel,by decide +kernel⟩
def J5 (T:Prog K mg):Sp:=fun vs H Q _=>∃ (A:Adr) (s:State) (hs:List Int) (q:Addr) (b g n v:Nat) (x:Bag),vs=[.ref A.st,.ref q,.int (b:Int),.int (g:Int),.int (n:Int)]∧StX T H A s hs∧GInv s.goods∧RInv s.goods s.recipes∧s.bags[b]? = some x∧x.stacks.length≤1000 ∧
 H q=some (.lst ((encL (Vbwsao.costs s.goods s.recipes)).map V.int))∧Vbwsao.costAt (Vbwsao.costs s.goods s.recipes) g=some v ∧
 ∀ H' pa sk sp us st',Same H H'→PlAt T H' pa sk sp us st' (Vbwsao.meet s.goods s.recipes (Vbwsao.costs s.goods s.recipes) (s.goods.length+1) g n ((List.range s.goods.length).map (Vbwsao.countIn x.stacks))).2.1 (Vbwsao.meet s.goods s.recipes (Vbwsao.costs s.goods s.recipes) (s.goods.length+1) g n ((List.range s.goods.length).map (Vbwsao.countIn x.stacks))).2.2→Q (.ref pa) H'
theorem uf (T:Prog K mg):FnOk P w K mg base CX0 16 T.plan_for.f T.plan_for.fd ["state","costs","b","good","many"] (J5 T):=by
 refine T.plan_for.fn.ok qm (fun vs H Q E h=>?_) (fun cdv A outer s H vs Q E hr h=>?_)
 ·obtain ⟨A,s,hs,q,b,g,n,v,x,rfl,_⟩:=h
  rfl
 ·obtain ⟨A,st,hs,q,b,g,n,v,x,rfl,S,G,R,hx,hxl,hq,hv,k⟩:=h
  obtain ⟨a,h,ha,hh,dx,sl,e1,n1,p1⟩:=S.bag hx
  have hgl:A.ga.length=st.goods.length:=S.gs.2.1
  refine ⟨_,(za (zt (i:=5) qm.nd rfl (by first | exact Or.inl rfl | exact Or.inr rfl) (zd (K:=K) rfl (zv (zk (K:=K) rfl) (zd (K:=K) rfl (pv 0) rfl) (pv 2) (fun _ _=>rfl)) rfl))
   (za (zt (i:=6) qm.nd rfl (by first | exact Or.inl rfl | exact Or.inr rfl) (yZ T.kPlan.made (Qw T) (hr.mono (by decide)) rfl T.kPlan.at_ T.kPlan.b .nil pass0 (zc (qT rfl qm.nd (kP rfl T.b_range (zc (zr (zo (K:=K) rfl) (by rfl) T.b_len zQ (zc (zd (K:=K) rfl (pv 0) rfl) zb)) zb)) (own:=[("k",7)]) (zW (by kernel_rfl)) (fun _ _ _ _ _=>(zw (i:=7) qm.nd rfl (by first | exact Or.inl rfl | exact Or.inr rfl))) (fun _ _ _ _ _=>jC) (fun _ _ _ _ _=>(zi (jJ T) (hr.mono (by decide)) rfl T.count_in.at_ T.count_in.fn.kp T.count_in.b .nil pass0 (zc (pv 5) (zc (pv 7) zb))))) zb)))
   (za (zG (zi (ok_meet T) (hr.mono (by decide)) rfl T.meet.at_ T.meet.fn.kp T.meet.b .nil pass0 (zc (pv 0) (zc (pv 1) (zc (pv 6) (zc (pv 3) (zc (pv 4) zb)))))))
   (ze (zm (pv 6)))))),?_⟩
  refine ⟨_,rfl,zP S ⟨_,rfl,jb S.bs ha (jk T e1 ?_)⟩⟩
  refine ⟨_,rfl,zV S ⟨A.gl,_,rfl,.inl (SqL.of S.gs.1),_,rfl,by omega,by have:=G.len;rw [List.length_map,hgl];omega,fun D hD=>?_⟩⟩
  refine lc_range (fun i H'=>Same H H'∧H' D=some (.lst (((List.range i).map (Vbwsao.countIn x.stacks)).map fun (n:Nat)=>V.int (n:Int)))) ⟨zM hD,zf⟩ ?_ ?_
  ·rintro i H1 hi ⟨s1,hD1⟩
   have ei:(0:Int)+(i:Int)=(i:Int):=by omega
   show gName 7 (.int (0+(i:Int))) _ _ _
   rw [ei]
   have hi':i≤10:=by
    rw [List.length_map,hgl] at hi
    have:=G.len
    omega
   refine ⟨rfl,yes_ ⟨_,rfl,_,rfl,sl,x.stacks,i,rfl,p1.same s1,hxl,fun H2 s2=>⟨_,s2 _ _ hD1,?_,jL (s1.trans s2) hD,?_⟩⟩⟩
   ·rw [List.length_map,List.length_map,List.length_range]
    exact small (m:=1000) (by omega)
   ·rw [zf,List.range_succ,List.map_append,List.map_append]
    rfl
  ·rintro H1 ⟨s1,hD1⟩
   rw [List.length_map,hgl,Int.toNat_natCast] at hD1
   refine fun y dy ny ndy ney=>?_
   have sy:Same H1 (L2.upd (L2.upd H1 dy (.own y)) y (.ins T.kPlan.C dy [])):=by
    have h1:Same H1 (L2.upd H1 dy (.own y)):=zM ndy
    exact jL h1 ny
   refine ⟨y,dy,D,(List.range st.goods.length).map (Vbwsao.countIn x.stacks),rfl,zf,sy _ _ hD1,fun H2 sp us Pl hsp hus but=>⟨rfl,?_⟩⟩
   have s2:Same H1 H2:=but.same ny ndy
   have hs1:H1 sp=none:=by
    have:=hsp
    by_cases e:sp=y
    ·subst e;exact ny
    ·rw [zl e] at this
     by_cases e2:sp=dy
     ·subst e2;exact ndy
     ·rw [zl e2] at this;exact this
   have hu1:H1 us=none:=by
    have:=hus
    by_cases e:us=y
    ·subst e;exact ny
    ·rw [zl e] at this
     by_cases e2:us=dy
     ·subst e2;exact ndy
     ·rw [zl e2] at this;exact this
   have back:∀ {l:Addr},H1 l=none→H l=none:=fun {l} hl=>by
    cases e:H l with
    | none=>rfl
    | some o=>rw [s1 _ _ e] at hl;cases hl
   have h2k:=rk_lt hv
   rw [jl] at h2k
   have hpw:2 ^ rk (Vbwsao.costs st.goods st.recipes) v≤2 ^ 10:=Nat.pow_le_pow_right (by omega) (by have:=G.len;omega)
   refine ⟨_,rfl,_,rfl,_,rfl,_,rfl,_,rfl,st.goods.length+1,by have:=G.len;omega,A,st,hs,H,q,y,D,sp,us,_,[],[],g,n,v,rfl,S,G,R,hq,⟨hD,back hs1,back hu1⟩,s1.trans s2,Pl,by rw [List.length_map,List.length_range],hv,by omega,by simp;omega,by simp;omega,fun H3 s3 Pl3=>?_⟩
   exact ⟨_,rfl,k H3 y D sp us _ s3 Pl3⟩
theorem z5:FnScope ["state","steps","total","deed","which","many"] ["state","steps"] (defScope qy):=⟨rfl,rfl,rfl,by decide +kernel,rfl,by decide +kernel,by decide +kernel⟩
def kD (T:Prog K mg):Sp:=fun vs H Q _=>∃ (A:Adr) (s:State) (hs:List Int) (l:Addr) (as:List Addr) (steps:List Vbwsao.Step),vs=[.ref A.st,.ref l]∧StX T H A s hs∧GInv s.goods∧RInv s.goods s.recipes∧LsAt H l as steps (TrAt H)∧(∀ x∈steps,stIn s.goods s.recipes x)∧Q (.int (Vbwsao.stepsCost s.goods s.recipes steps:Int)) H
theorem wM (T:Prog K mg):FnOk P w K mg base CX0 1 T.cost_of_steps.f T.cost_of_steps.fd ["state","steps"] (kD T):=by
 refine T.cost_of_steps.fn.ok z5 (fun vs H Q E h=>?_) (fun cdv A outer s H vs Q E hr h=>?_)
 ·obtain ⟨A,s,hs,l,as,steps,rfl,_⟩:=h
  rfl
 ·obtain ⟨A,st,hs,l,as,steps,rfl,S,G,R,hl,hin,k⟩:=h
  refine ⟨_,(za (zt (i:=2) z5.nd rfl (by first | exact Or.inl rfl | exact Or.inr rfl) zj)
   (za (jH PassesOwn.never rfl (zL (K:=K) rfl (pv 1)) (js (K:=K) (n:=3) rfl rfl (zF (zw (i:=3) z5.nd rfl (by first | exact Or.inl rfl | exact Or.inr rfl)) (zF (zw (i:=4) z5.nd rfl (by first | exact Or.inl rfl | exact Or.inr rfl)) (zF (zw (i:=5) z5.nd rfl (by first | exact Or.inl rfl | exact Or.inr rfl)) jr)))) (ze (zB (zq z8 (pv 3) (zA (v:=.int (0)) rfl T.c_BUY.at_ ⟨_,rfl⟩) (nomark _)) (ze (zt (i:=2) z5.nd rfl (by first | exact Or.inl rfl | exact Or.inr rfl) (zI jf (pv 2) (zI yd (pv 5) (zd (K:=K) rfl (zv (zk (K:=K) rfl) (zd (K:=K) rfl (pv 0) rfl) (pv 4) (fun _ _=>rfl)) rfl))))) (ze (zt (i:=2) z5.nd rfl (by first | exact Or.inl rfl | exact Or.inr rfl) (zI jf (pv 2) (zI yd (pv 5) (zd (K:=K) rfl (zv (zk (K:=K) rfl) (zd (K:=K) rfl (pv 0) rfl) (pv 4) (fun _ _=>rfl)) rfl))))))))
   (ze (zm (pv 2))))),?_⟩
  refine ⟨_,rfl,l,rfl,WV (R:=TrAt) (xs:=steps) (as:=as) (fun i σ H'=>H' = H∧∃ (z:Int) (v3 v4 v5:Option V),z=(Vbwsao.stepsCost st.goods st.recipes (steps.take i):Int)∧σ=[some (.ref A.st),some (.ref l),some (.int z),v3,v4,v5]) hl ⟨rfl,_,_,_,_,rfl,rfl⟩ (fun i σ' H' h=>by rw [h.1];exact hl) ?_ ?_⟩
  ·rintro i x a σ H1 hx hta ⟨rfl,z,v3,v4,v5,hz,rfl⟩
   have hxi:=hin x (List.mem_of_getElem? hx)
   have hsn:Vbwsao.stepsCost st.goods st.recipes (steps.take (i+1))=Vbwsao.stepsCost st.goods st.recipes (steps.take i)+Vbwsao.stepCost st.goods st.recipes x:=by rw [zZ hx,uN]
   cases x with
   | buy g n=>
    obtain ⟨ga,gdx,hga,eg⟩:=S.good hxi
    have Gg:=G.at hxi
    refine xC hta ⟨_,rfl,rfl,_,rfl,zx (p:=true) rfl (fun _=>?_) (fun e=>by cases e)⟩
    refine ⟨_,rfl,_,rfl,_,rfl,zV S ⟨_,rfl,jb S.gs hga (yI T eg ⟨_,_,rfl,rfl,.inr ⟨by omega,by omega⟩,_,_,rfl,rfl,?_⟩)⟩⟩
    refine ⟨rfl,_,_,_,_,?_,rfl⟩
    rw [hsn,hz,Int.natCast_add]
    show _+(n:Int) * _=_+(((Vbwsao.goodAt st.goods g).price * n:Nat):Int)
    rw [Int.natCast_mul,Int.mul_comm]
   | run r n=>
    obtain ⟨q,hq⟩:∃ q,st.recipes[r]? = some q:=⟨_,List.getElem?_eq_getElem hxi⟩
    obtain ⟨ra,dx,nl,hra,er,_,_⟩:=S.reci hq
    have Rr:=R.ok q (List.mem_of_getElem? hq)
    refine xC hta ⟨_,rfl,rfl,_,rfl,zx (p:=false) rfl (fun e=>by cases e) (fun _=>?_)⟩
    refine ⟨_,rfl,_,rfl,_,rfl,zY S ⟨_,rfl,jb S.rs hra (W8 T er ⟨_,_,rfl,rfl,.inr ⟨by omega,by omega⟩,_,_,rfl,rfl,?_⟩)⟩⟩
    refine ⟨rfl,_,_,_,_,?_,rfl⟩
    rw [hsn,hz,Int.natCast_add]
    show _+(n:Int) * _=_+((((st.recipes[r]?.map fun x=>x.cost).getD 0) * n:Nat):Int)
    rw [hq,Int.natCast_mul,Int.mul_comm]
    rfl
  ·rintro σ H1 ⟨rfl,z,v3,v4,v5,hz,rfl⟩
   rw [List.take_length] at hz
   subst hz
   exact ⟨_,rfl,k⟩
theorem u5:FnScope ["state","b","deed","which","many","recipe"] ["state","b","deed","which","many"] (defScope kL):=⟨rfl,rfl,rfl,by decide +kernel,rfl,by decide +kernel,by decide +kernel⟩
def StepOk (s:State) (b:Nat):Vbwsao.Step→Prop
 | .buy g _=>g<s.goods.length
 | .run i n=>∃ q,s.recipes[i]? = some q∧∃ bs1,Vbwsao.takeAll s.bags b (q.needs.map fun x=>(x.1,x.2 * n))=some bs1
def Wn (T:Prog K mg):Sp:=fun vs H Q _=>∃ (A:Adr) (s:State) (b:Nat) (x:Bag) (y:Vbwsao.Step),vs = .ref A.st :: .int (b:Int) :: trV y∧StAt T H A s∧GInv s.goods∧RInv s.goods s.recipes∧BInv s.goods s.bags∧s.bags[b]? = some x∧StepOk s b y ∧
 (∀ bs' H',Vbwsao.doStep s.goods s.recipes b s.bags y=some bs'→BInv s.goods bs'→StAt T H' A { s with bags:=bs' }→Frm [T.kBag.C] [] H H'→Q (.bl true) H') ∧
 (Vbwsao.doStep s.goods s.recipes b s.bags y=none→∀ ys H',StAt T H' A { s with bags:=s.bags.set b { x with stacks:=ys } }→Frm [T.kBag.C] [] H H'→Q (.bl false) H')
theorem WJ (T:Prog K mg):FnOk P w K mg base CX0 5 T.do_step.f T.do_step.fd ["state","b","deed","which","many"] (Wn T):=by
 refine T.do_step.fn.ok u5 (fun vs H Q E h=>?_) (fun cdv A outer s H vs Q E hr h=>?_)
 ·obtain ⟨A,s,b,x,y,rfl,_⟩:=h
  cases y <;> rfl
 ·obtain ⟨A,st,b,x,y,rfl,S,G,R,B,hx,hok,k1,k2⟩:=h
  have hb:=zT hx
  have hself:StAt T H A { st with bags:=st.bags.set b { x with stacks:=x.stacks } }:=by
   rw [jD hx]
   exact S
  refine ⟨_,(za (zB (zq z8 (pv 2) (zA (v:=.int (0)) rfl T.c_BUY.at_ ⟨_,rfl⟩) (nomark _)) (ze (zm (zi (jt T) (hr.mono (by decide)) rfl T.put_if_it_fits.at_ T.put_if_it_fits.fn.kp T.put_if_it_fits.b .nil pass0 (zc (pv 0) (zc (pv 1) (zc (pv 3) (zc (pv 4) zb))))))) zp)
   (za (zt (i:=5) u5.nd rfl (by first | exact Or.inl rfl | exact Or.inr rfl) (zv (zk (K:=K) rfl) (zd (K:=K) rfl (pv 0) rfl) (pv 3) (fun _ _=>rfl)))
   (za (zG (zi (vi T) (hr.mono (by decide)) rfl T.take_needs.at_ T.take_needs.fn.kp T.take_needs.b .nil pass0 (zc (pv 0) (zc (pv 1) (zc (zd (K:=K) rfl (pv 5) rfl) (zc (pv 4) zb))))))
   (ze (zm (zi (jt T) (hr.mono (by decide)) rfl T.put_if_it_fits.at_ T.put_if_it_fits.fn.kp T.put_if_it_fits.b .nil pass0 (zc (pv 0) (zc (pv 1) (zc (zd (K:=K) rfl (pv 5) rfl) (zc (pv 4) zb)))))))))),?_⟩
  cases y with
  | buy g n=>
   refine ⟨_,rfl,rfl,_,rfl,zx (p:=true) rfl (fun _=>?_) (fun e=>by cases e)⟩
   refine ⟨_,rfl,_,rfl,_,rfl,_,rfl,A,st,b,g,n,rfl,S,G,B,hb,hok,fun bs' H1 hp B1 S1 f1=>k1 bs' H1 hp B1 S1 f1,fun hp H1 s1=>k2 hp x.stacks H1 (hself.same s1) (zy s1)⟩
  | run i n=>
   obtain ⟨q,hq,bs1,ht⟩:=hok
   obtain ⟨ra,dx,nl,hra,er,nnl,pnl⟩:=S.reci hq
   have Rr:=R.ok q (List.mem_of_getElem? hq)
   refine ⟨_,rfl,rfl,_,rfl,zx (p:=false) rfl (fun e=>by cases e) (fun _=>?_)⟩
   refine ⟨_,rfl,zY S ⟨_,rfl,jb S.rs hra ?_⟩⟩
   refine ⟨_,rfl,_,rfl,_,rfl,wE T er ⟨_,rfl,A,st,b,n,nl,q.needs,bs1,rfl,S,G,B,hb,pnl,fun z hz=>⟨(Rr.2.2.2.2.1 z hz).1,(Rr.2.2.2.2.1 z hz).2.2⟩,ht,fun H1 B1 S1 f1=>?_⟩⟩
   have er1:=f1.ins er (by simp;exact nRB)
   have hl1:=yp _ _ _ ht
   have hds:Vbwsao.doStep st.goods st.recipes b st.bags (.run i n)=Vbwsao.put? st.goods bs1 b q.makes n:=by
    show (st.recipes[i]?).bind _=_
    rw [hq]
    show (Vbwsao.takeAll st.bags b (q.needs.map fun x=>(x.1,x.2 * n))).bind _=_
    rw [ht]
    rfl
   refine ⟨_,rfl,_,rfl,_,rfl,qQ T er1 ⟨_,rfl,A,{ st with bags:=bs1 },b,q.makes,n,rfl,S1,G,B1,by show b<bs1.length;omega,Rr.1,fun bs' H2 hp B2 S2 f2=>k1 bs' H2 (hds.trans hp) B2 S2 (f1.trans f2),fun hp H2 s2=>?_⟩⟩
   obtain ⟨ys,e⟩:=yo _ _ _ x hx ht
   have S3:StAt T H2 A { st with bags:=bs1 }:=S1.same s2
   rw [e] at S3
   exact k2 (hds.trans hp) ys H2 S3 (f1.trans (zy s2))
end
def tr0:Vbwsao.Step→Int
 | .buy _ _=>0
 | .run _ _=>1
def tr1:Vbwsao.Step→Int
 | .buy g _=>(g:Int)
 | .run r _=>(r:Int)
def tr2:Vbwsao.Step→Int
 | .buy _ n=>(n:Int)
 | .run _ n=>(n:Int)
theorem trV_eq (y:Vbwsao.Step):trV y=[.int (tr0 y),.int (tr1 y),.int (tr2 y)]:=by cases y <;> rfl
theorem trV_nums (y:Vbwsao.Step):trV y=(Vbwsao.stepNums y).map V.int:=by cases y <;> rfl
theorem doRun {s:State} {b i n:Nat} {q:Recipe} {bs1:List Bag} (hq:s.recipes[i]? = some q) (ht:Vbwsao.takeAll s.bags b (q.needs.map fun x=>(x.1,x.2 * n))=some bs1):Vbwsao.doStep s.goods s.recipes b s.bags (.run i n)=Vbwsao.put? s.goods bs1 b q.makes n:=by
 show (s.recipes[i]?).bind _=_
 rw [hq]
 show (Vbwsao.takeAll s.bags b (q.needs.map fun x=>(x.1,x.2 * n))).bind _=_
 rw [ht]
 rfl
theorem able_ok {s:State} {b:Nat} {y:Vbwsao.Step} {r:List Vbwsao.Step} (h:Able s.goods s.recipes b s.bags (y :: r)):StepOk s b y∧∀ c,Vbwsao.doStep s.goods s.recipes b s.bags y=some c→Able s.goods s.recipes b c r:=by
 cases y with
 | buy g n=>exact ⟨h.1,fun c hc=>h.2 c hc⟩
 | run i n=>
  obtain ⟨q,hq,bs1,ht,k⟩:=h
  refine ⟨⟨q,hq,bs1,ht⟩,fun c hc=>k c ?_⟩
  rw [doRun hq ht] at hc
  exact hc
theorem WZ {s:State} {b:Nat} {y:Vbwsao.Step} {x:Bag} {c:List Bag} (hx:s.bags[b]? = some x) (hok:StepOk s b y) (h:Vbwsao.doStep s.goods s.recipes b s.bags y=some c):∃ ys,c=s.bags.set b { x with stacks:=ys }:=by
 cases y with
 | buy g n=>
  obtain ⟨e,_⟩:=ux hx h
  rw [z6 s.goods g n hx] at e
  exact ⟨_,e⟩
 | run i n=>
  obtain ⟨q,hq,bs1,ht⟩:=hok
  rw [doRun hq ht] at h
  obtain ⟨ys,e⟩:=yo _ _ _ x hx ht
  subst e
  have hx1:(s.bags.set b { x with stacks:=ys })[b]? = some { x with stacks:=ys }:=List.getElem?_set_self (zT hx)
  obtain ⟨e,_⟩:=ux hx1 h
  rw [z6 s.goods q.makes n hx1,List.set_set] at e
  exact ⟨_,e⟩
theorem W1 {N h:Nat} (hh:N≤h):∀ l:List (Nat × Nat),(∀ y∈l,y.1<N)→Vbwsao.countIn l h=0:=by
 intro l hl
 unfold Vbwsao.countIn
 rw [List.filter_eq_nil_iff.mpr]
 ·rfl
 ·intro y hy e
  have:=hl y hy
  have e':y.1=h:=by simpa using e
  omega
section
variable {P:Program} {w:World} {K:PySem.W.Frag} {mg:Str→Option Value} {base:Heap}
theorem jM:FnScope ["state","b","steps","stacks","held","deed","which","many"] ["state","b","steps"] (defScope yF):=⟨rfl,rfl,rfl,by decide +kernel,rfl,by decide +kernel,by decide +kernel⟩
def Z7 (T:Prog K mg):Sp:=fun vs H Q _=>∃ (A:Adr) (s:State) (b:Nat) (x:Bag) (l:Addr) (as:List Addr) (steps:List Vbwsao.Step),vs=[.ref A.st,.int (b:Int),.ref l]∧StAt T H A s∧GInv s.goods∧RInv s.goods s.recipes∧BInv s.goods s.bags∧s.bags[b]? = some x∧LsAt H l as steps (TrAt H)∧Able s.goods s.recipes b s.bags steps ∧
 (∀ bs' H',Vbwsao.doSteps s.goods s.recipes b s.bags steps=some bs'→BInv s.goods bs'→bs'.length=s.bags.length→StAt T H' A { s with bags:=bs' }→Frm [T.kBag.C] [] H H'→Q (.bl true) H') ∧
 (Vbwsao.doSteps s.goods s.recipes b s.bags steps=none→∀ H',StAt T H' A s→Frm [T.kBag.C] [] H H'→Q (.bl false) H')
theorem Jx (T:Prog K mg):FnOk P w K mg base CX0 6 T.carry_out.f T.carry_out.fd ["state","b","steps"] (Z7 T):=by
 refine T.carry_out.fn.ok jM (fun vs H Q E h=>?_) (fun cdv A outer s H vs Q E hr h=>?_)
 ·obtain ⟨A,s,b,x,l,as,steps,rfl,_⟩:=h
  rfl
 ·obtain ⟨A,st,b,x,l,as,steps,rfl,S,G,R,B,hx,hl,hab,k1,k2⟩:=h
  have hbl:=zT hx
  obtain ⟨ch,hch⟩:=B.ac b hbl
  have hll:ch.length≤1000:=by have:=hch.len;have:=B.len;omega
  obtain ⟨a,h,ha,hh,dx,sl,e1,n1,p1⟩:=S.bag hx
  have hh2:h=(Vbwsao.holds st.goods st.bags b:Int):=by
   rw [z7 _ _ hbl] at hh
   cases hh
   rfl
  refine ⟨_,(za (zt (i:=3) jM.nd rfl (by first | exact Or.inl rfl | exact Or.inr rfl) (zd (K:=K) rfl (zv (zk (K:=K) rfl) (zd (K:=K) rfl (pv 0) rfl) (pv 1) (fun _ _=>rfl)) rfl))
   (za (zt (i:=4) jM.nd rfl (by first | exact Or.inl rfl | exact Or.inr rfl) (zd (K:=K) rfl (zv (zk (K:=K) rfl) (zd (K:=K) rfl (pv 0) rfl) (pv 1) (fun _ _=>rfl)) rfl))
   (za (jH PassesOwn.never rfl (zL (K:=K) rfl (pv 2)) (js (K:=K) (n:=3) rfl rfl (zF (zw (i:=5) jM.nd rfl (by first | exact Or.inl rfl | exact Or.inr rfl)) (zF (zw (i:=6) jM.nd rfl (by first | exact Or.inl rfl | exact Or.inr rfl)) (zF (zw (i:=7) jM.nd rfl (by first | exact Or.inl rfl | exact Or.inr rfl)) jr)))) (ze (zB (yJ (zN (zi (WJ T) (hr.mono (by decide)) rfl T.do_step.at_ T.do_step.fn.kp T.do_step.b .nil pass0 (zc (pv 0) (zc (pv 1) (zc (pv 5) (zc (pv 6) (zc (pv 7) zb)))))))) (za (zG (zi (ue T) (hr.mono (by decide)) rfl T.put_back.at_ T.put_back.fn.kp T.put_back.b .nil pass0 (zc (pv 0) (zc (pv 1) (zc (pv 3) (zc (pv 4) zb))))))
   (ze (zm qU))) zp)))
   (ze (zm qU))))),?_⟩
  refine ⟨_,rfl,zP S ⟨_,rfl,jb S.bs ha (jk T e1 ⟨_,rfl,zP S ⟨_,rfl,jb S.bs ha (yc T e1 ?_)⟩⟩)⟩⟩
  refine ⟨_,rfl,l,rfl,WV (R:=TrAt) (xs:=steps) (as:=as) (fun i σ H'=>Frm [T.kBag.C] [] H H'∧(∃ bs1 ys,bs1=st.bags.set b { x with stacks:=ys }∧BInv st.goods bs1∧StAt T H' A { st with bags:=bs1 }∧Able st.goods st.recipes b bs1 (steps.drop i)∧Vbwsao.doSteps st.goods st.recipes b st.bags steps=Vbwsao.doSteps st.goods st.recipes b bs1 (steps.drop i)) ∧
   ∃ v5 v6 v7,σ=[some (.ref A.st),some (.int (b:Int)),some (.ref l),some (.ref sl),some (.int h),v5,v6,v7]) hl ⟨Frm.refl _,⟨st.bags,x.stacks,(jD hx).symm,B,S,hab,rfl⟩,_,_,_,rfl⟩ (fun i σ' H' hp=>hl.imp (hp.1.lst hl.1 (by simp)) fun a y e=>hp.1.tup e) ?_ ?_⟩
  ·rintro i y aa σ H1 hy hta ⟨f1,⟨bs1,ys,ebs,B1,S1,hab1,hd1⟩,v5,v6,v7,rfl⟩
   have ed:steps.drop i=y :: steps.drop (i+1):=by
    obtain ⟨h1,h2⟩:=List.getElem?_eq_some_iff.mp hy
    rw [List.drop_eq_getElem_cons h1,h2]
   rw [ed] at hab1 hd1
   have hx1:bs1[b]? = some { x with stacks:=ys }:=by
    rw [ebs]
    exact List.getElem?_set_self hbl
   obtain ⟨hok,hnx⟩:=able_ok (s:={ st with bags:=bs1 }) hab1
   have hd2:Vbwsao.doSteps st.goods st.recipes b bs1 (y :: steps.drop (i+1))=(Vbwsao.doStep st.goods st.recipes b bs1 y).bind fun c=>Vbwsao.doSteps st.goods st.recipes b c (steps.drop (i+1)):=rfl
   have hta':H1 aa=some (.tup [.int (tr0 y),.int (tr1 y),.int (tr2 y)]):=by
    have h7:H1 aa=some (.tup (trV y)):=hta
    rw [trV_eq] at h7
    exact h7
   refine xC hta' ⟨_,rfl,_,rfl,_,rfl,_,rfl,_,rfl,A,{ st with bags:=bs1 },b,{ x with stacks:=ys },y,?_,S1,G,R,B1,hx1,hok,fun bs' H2 hdo B2 S2 f2=>⟨true,rfl,?_⟩,fun hdo ys' H2 S2 f2=>⟨false,rfl,?_⟩⟩
   ·rw [trV_eq]
    rfl
   ·obtain ⟨ys2,e2⟩:=WZ (s:={ st with bags:=bs1 }) hx1 hok hdo
    have e3:bs' = st.bags.set b { x with stacks:=ys2 }:=by
     rw [e2]
     show bs1.set b _=_
     rw [ebs,List.set_set]
    refine iteF ⟨f1.trans f2,⟨bs',ys2,e3,B2,S2,hnx bs' hdo,?_⟩,_,_,_,rfl⟩
    rw [hd1,hd2]
    have hdo':Vbwsao.doStep st.goods st.recipes b bs1 y=some bs':=hdo
    rw [hdo']
    rfl
   ·have hdo':Vbwsao.doStep st.goods st.recipes b bs1 y=none:=hdo
    have hnone:Vbwsao.doSteps st.goods st.recipes b st.bags steps=none:=by
     rw [hd1,hd2,hdo']
     rfl
    have e3:bs1.set b { ({ x with stacks:=ys }:Bag) with stacks:=ys' } = st.bags.set b { x with stacks:=ys' }:=by
     rw [ebs,List.set_set]
    have S2':StAt T H2 A { st with bags:=st.bags.set b { x with stacks:=ys' } }:=by
     have S3:StAt T H2 A { st with bags:=bs1.set b { ({ x with stacks:=ys }:Bag) with stacks:=ys' } }:=S2
     rw [e3] at S3
     exact S3
    have hx2:(st.bags.set b { x with stacks:=ys' })[b]? = some { x with stacks:=ys' }:=List.getElem?_set_self hbl
    have hch2:ChS (st.bags.set b { x with stacks:=ys' }) (some b) ch:=hch.set (y:={ x with stacks:=ys' }) hx rfl
    have p3:PrsAt H2 sl x.stacks:=(p1.frm f1 (by simp)).frm f2 (by simp)
    refine iteT ⟨_,rfl,_,rfl,_,rfl,_,rfl,A,{ st with bags:=st.bags.set b { x with stacks:=ys' } },heldOf st.goods (st.bags.set b { x with stacks:=ys' }),b,{ x with stacks:=ys' },(Vbwsao.holds st.goods (st.bags.set b { x with stacks:=ys' }) b:Int),h,sl,x.stacks,ch,rfl,S2',hx2,z7 _ _ (by rw [List.length_set];exact hbl),p3,n1,hch2,hll,fun H4 S4 f4=>?_⟩
    rw [hh2,ZL st.goods B.ac hx hch ys'] at S4
    have S5:StAt T H4 A st:=by
     have S6:StX T H4 A { st with bags:=(st.bags.set b { x with stacks:=ys' }).set b { ({ x with stacks:=ys' }:Bag) with stacks:=x.stacks } } (heldOf st.goods st.bags):=S4
     rw [Qh hx] at S6
     exact S6
    exact k2 hnone H4 S5 ((f1.trans f2).trans f4)
  ·rintro σ H1 ⟨f1,⟨bs1,ys,ebs,B1,S1,hab1,hd1⟩,v5,v6,v7,rfl⟩
   rw [List.drop_length] at hd1
   exact k1 bs1 H1 hd1 B1 (by rw [ebs,List.length_set]) S1 f1
theorem xc {s:State} (I:SInv s) {b g n v:Nat} {x:Bag} (hx:s.bags[b]? = some x) (hv:Vbwsao.costAt (Vbwsao.costs s.goods s.recipes) g=some v) {l:List Vbwsao.Step} {u:List (Nat × Nat)}
  (hl:l=(Vbwsao.meet s.goods s.recipes (Vbwsao.costs s.goods s.recipes) (s.goods.length+1) g n ((List.range s.goods.length).map (Vbwsao.countIn x.stacks))).2.1) (hu:u=(Vbwsao.meet s.goods s.recipes (Vbwsao.costs s.goods s.recipes) (s.goods.length+1) g n ((List.range s.goods.length).map (Vbwsao.countIn x.stacks))).2.2) :
  Able s.goods s.recipes b s.bags l∧(∀ y∈l,stIn s.goods s.recipes y)∧(∀ y∈u,y.1<s.goods.length∧y.2≤4000)∧l.length≤1024∧u.length≤1024∧Vbwsao.plan s.goods s.recipes (Vbwsao.stock s (b:Int)) g n=some (l,u):=by
 have h2k:=rk_lt hv
 rw [jl] at h2k
 have hpw:2 ^ rk (Vbwsao.costs s.goods s.recipes) v≤2 ^ 10:=Nat.pow_le_pow_right (by omega) (by have:=I.g.len;omega)
 have hst:=I.b.st x (List.mem_of_getElem? hx)
 have hlen:=I.b.stk_len hx
 have hget:∀ h,h<s.goods.length→((List.range s.goods.length).map (Vbwsao.countIn x.stacks)).getD h 0=Vbwsao.countIn x.stacks h:=fun h hh=>by
  rw [List.getD_eq_getElem?_getD,List.getElem?_map,List.getElem?_range hh]
  rfl
 have hget2:∀ h,s.goods.length≤h→((List.range s.goods.length).map (Vbwsao.countIn x.stacks)).getD h 0=0:=fun h hh=>by
  rw [List.getD_eq_getElem?_getD,List.getElem?_eq_none (by simp;omega)]
  rfl
 have hc:∀ h,Vbwsao.countIn x.stacks h≤4000:=fun h=>by
  have h1:=count_le 100 x.stacks h fun y hy=>by
   have h3:=hst y hy
   have h4:=(I.g.at h3.1).2.2.2.1
   omega
  omega
 have hM:∀ y,((List.range s.goods.length).map (Vbwsao.countIn x.stacks)).getD y 0≤4000:=fun y=>by
  by_cases q:y<s.goods.length
  ·rw [hget y q]
   exact hc y
  ·rw [hget2 y (by omega)]
   exact Nat.zero_le _
 obtain ⟨_,m2,m3⟩:=Yf I.r (s.goods.length+1) g n _ v hv hM
 obtain ⟨l1,l2⟩:=ki I.r (s.goods.length+1) g n ((List.range s.goods.length).map (Vbwsao.countIn x.stacks)) v hv
 have ab:=ZP I.g I.r (b:=b) (s.goods.length+1) g n ((List.range s.goods.length).map (Vbwsao.countIn x.stacks)) v (fun _=>0) s.bags x [] hv (by omega) (by simp) hx (fun h=>?_) (fun _ _ _ _=>trivial)
 ·rw [List.append_nil] at ab
  subst hl hu
  refine ⟨ab,m2,m3,by omega,by omega,?_⟩
  unfold Vbwsao.stock
  rw [Int.toNat_natCast,z3 hx]
  exact Zs hv
 ·by_cases q:h<s.goods.length
  ·rw [hget h q]
   omega
  ·rw [hget2 h (by omega)]
   exact W1 (by omega) _ fun y hy=>(hst y hy).1
theorem uv:FnScope ["state","b","good","many","costs","steps","cost"] ["state","b","good","many"] (defScope Wx):=⟨rfl,rfl,rfl,by decide +kernel,rfl,by decide +kernel,by decide +kernel⟩
def sp_make (T:Prog K mg):Sp:=fun vs H Q _=>∃ (A:Adr) (s:State) (b g n:Int),vs=[.ref A.st,.int b,.int g,.int n]∧StAt T H A s∧SInv s∧s.goods.isEmpty=false∧callIn (.make b g n)=true∧CallOk T A s (.make b g n) H Q
theorem ok_make (T:Prog K mg):FnOk P w K mg base CX0 17 T.make.f T.make.fd ["state","b","good","many"] (sp_make T):=by
 refine T.make.fn.ok uv (fun vs H Q E h=>?_) (fun cdv A outer s H vs Q E hr h=>?_)
 ·obtain ⟨A,s,b,g,n,rfl,_⟩:=h
  rfl
 ·obtain ⟨A,st,b,g,n,rfl,S,I,hg,hi,k⟩:=h
  have hr1:(0≤b∧b≤11)∧(0≤g∧g≤9)∧(1≤n∧n≤100):=by
   simp only [callIn,Vbwsao.bagIx,Vbwsao.goodIx,Bool.and_eq_true,jc] at hi
   exact hi
  obtain ⟨b,rfl⟩:∃ b':Nat,b=(b':Int):=⟨b.toNat,by omega⟩
  obtain ⟨g,rfl⟩:∃ g':Nat,g=(g':Int):=⟨g.toNat,by omega⟩
  obtain ⟨n,rfl⟩:∃ n':Nat,n=(n':Int):=⟨n.toNat,by omega⟩
  refine ⟨_,(za (zB (PW.pt (q5 (zN (zi (zR T) (hr.mono (by decide)) rfl T.lacks_bag.at_ T.lacks_bag.fn.kp T.lacks_bag.b .nil pass0 (zc (pv 0) (zc (pv 1) zb)))) (qS (zN (zi (ja T) (hr.mono (by decide)) rfl T.lacks_good.at_ T.lacks_good.fn.kp T.lacks_good.b .nil pass0 (zc (pv 0) (zc (pv 2) zb))))))) (ze (zm (zu (zc (zA (v:=.int (-3)) rfl T.c_NO_SUCH.at_ ⟨_,rfl⟩) zb)))) zp)
   (za (zt (i:=4) uv.nd rfl (by first | exact Or.inl rfl | exact Or.inr rfl) (zi (qV T) (hr.mono (by decide)) rfl T.least_costs.at_ T.least_costs.fn.kp T.least_costs.b .nil pass0 (zc (zd (K:=K) rfl (pv 0) rfl) (zc (zd (K:=K) rfl (pv 0) rfl) zb))))
   (za (zB (zq z8 (zv (zk (K:=K) rfl) (pv 4) (pv 2) (fun _ _=>rfl)) zj (nomark _)) (ze (zm (zu (zc (zA (v:=.int (-9)) rfl T.c_NO_COST.at_ ⟨_,rfl⟩) zb)))) zp)
   (za (zt (i:=5) uv.nd rfl (by first | exact Or.inl rfl | exact Or.inr rfl) (zd (K:=K) rfl (zi (uf T) (hr.mono (by decide)) rfl T.plan_for.at_ T.plan_for.fn.kp T.plan_for.b .nil pass0 (zc (pv 0) (zc (pv 4) (zc (pv 1) (zc (pv 2) (zc (pv 3) zb)))))) rfl))
   (za (zB (yJ (zN (zi (Jx T) (hr.mono (by decide)) rfl T.carry_out.at_ T.carry_out.fn.kp T.carry_out.b .nil pass0 (zc (pv 0) (zc (pv 1) (zc (pv 5) zb)))))) (ze (zm (zu (zc (zA (v:=.int (-6)) rfl T.c_NO_ROOM.at_ ⟨_,rfl⟩) zb)))) zp)
   (za (zt (i:=6) uv.nd rfl (by first | exact Or.inl rfl | exact Or.inr rfl) (zi (wM T) (hr.mono (by decide)) rfl T.cost_of_steps.at_ T.cost_of_steps.fn.kp T.cost_of_steps.b .nil pass0 (zc (pv 0) (zc (pv 5) zb))))
   (za (zC (K:=K) rfl (pv 0) (zI jf (zd (K:=K) rfl (pv 0) rfl) (pv 6)) rfl)
   (ze (zm (zu (zc zj (zc (pv 6) zb)))))))))))),?_⟩
  refine ⟨_,rfl,_,rfl,A,st,_,_,rfl,S,_,rfl,zx rfl (fun e=>iteT (k.ref (JY hi hg (by unfold Vbwsao.nb;rw [e];rfl)) S I (Same.refl _))) (fun e=>?_)⟩
  refine ⟨_,rfl,_,rfl,A,st,_,_,rfl,S,_,rfl,zx rfl (fun e2=>k.ref (JY hi hg (by unfold Vbwsao.nb Vbwsao.ng;rw [e,e2];rfl)) S I (Same.refl _)) (fun e2=>?_)⟩
  have e0:(Vbwsao.nb st b||Vbwsao.ng st g)=false:=ji e e2
  have hbl:b<st.bags.length:=by have:=of_decide_eq_false e;omega
  have hgl:g<st.goods.length:=by have:=of_decide_eq_false e2;omega
  obtain ⟨x,hx⟩:∃ x,st.bags[b]? = some x:=⟨_,List.getElem?_eq_getElem hbl⟩
  have hlen:=I.b.stk_len hx
  have hlc:(encL (Vbwsao.costs st.goods st.recipes)).length=st.goods.length:=by unfold encL;rw [List.length_map,jl]
  refine ⟨_,rfl,zV S ⟨_,rfl,zY S ⟨A.gl,A.rl,A.ga,A.ra,A.tops,st.goods,st.recipes,rfl,S.gs,S.rs,I.g,I.r,fun q H1 s1 hq hq1=>?_⟩⟩⟩
  refine ⟨_,rfl,_,rfl,yf hq1 (by rw [hlc];exact hgl) ⟨rfl,_,rfl,zx (p:=(Vbwsao.costAt (Vbwsao.costs st.goods st.recipes) g).isNone) ?_ (fun e3=>k.ref (st_make9 hi hg e0 ?_) S I s1) (fun e3=>?_)⟩⟩
  ·rw [jP]
   have h1:=QS (wQ I.r) g
   rw [Bool.eq_iff_iff,decide_eq_true_iff,Option.isNone_iff_eq_none,← h1]
   exact ⟨fun z=>by injection z,fun z=>by rw [z]⟩
  ·rw [Int.toNat_natCast]
   exact Option.isNone_iff_eq_none.mp e3
  ·obtain ⟨v,hv⟩:∃ v,Vbwsao.costAt (Vbwsao.costs st.goods st.recipes) g=some v:=by
    cases h9:Vbwsao.costAt (Vbwsao.costs st.goods st.recipes) g with
    | none=>rw [h9] at e3;cases e3
    | some v=>exact ⟨v,rfl⟩
   have S1:=S.same s1
   refine ⟨_,rfl,_,rfl,_,rfl,_,rfl,_,rfl,A,st,_,q,b,g,n,v,x,rfl,S1,I.g,I.r,hx,by omega,hq1,hv,fun H2 pa sk sp us st' s2 Pl=>?_⟩
   obtain ⟨hab,hin,hui,hl1,hu1,hpl⟩:=xc I (n:=n) hx hv rfl rfl
   generalize (Vbwsao.meet st.goods st.recipes (Vbwsao.costs st.goods st.recipes) (st.goods.length+1) g n ((List.range st.goods.length).map (Vbwsao.countIn x.stacks))).2.1=l at Pl hab hin hl1 hpl
   generalize (Vbwsao.meet st.goods st.recipes (Vbwsao.costs st.goods st.recipes) (st.goods.length+1) g n ((List.range st.goods.length).map (Vbwsao.countIn x.stacks))).2.2=u at Pl hui hu1 hpl
   obtain ⟨dxo,eo⟩:=Pl.ob
   obtain ⟨as,hsp⟩:=Pl.hsp
   have S2:=S1.same s2
   refine wF T eo ⟨_,rfl,_,rfl,_,rfl,A,st,b,x,sp,as,l,rfl,S2,I.g,I.r,I.b,hx,hsp,hab,fun bs' H3 hdo B3 hl3 S3 f3=>⟨true,rfl,?_⟩,fun hdo H3 S3 f3=>⟨false,rfl,?_⟩⟩
   ·have I3:=I.bags B3 hl3
    have hsp3:LsAt H3 sp as l (TrAt H3):=hsp.imp (f3.lst hsp.1 (by simp)) fun a y e=>f3.tup e
    obtain ⟨dx,e5⟩:=S3.st
    refine iteF ⟨_,rfl,_,rfl,A,{ st with bags:=bs' },_,sp,as,l,rfl,S3,I.g,I.r,hsp3,hin,?_⟩
    refine ⟨_,rfl,W7 S3 ⟨_,rfl,_,_,rfl,rfl,_,rfl,A.st,T.kState.C,dx,_,rfl,e5,T.kState.cl,T.kState.no _ (List.mem_of_getElem? (i:=4) rfl),(by show 6<1000;decide),?_⟩⟩
    have S4:=S3.setTicks (p:=st.paid+Vbwsao.stepsCost st.goods st.recipes l) (t:=st.ticks) e5
    have I4:SInv { st with bags:=bs',paid:=st.paid+Vbwsao.stepsCost st.goods st.recipes l }:=⟨I3.g,I3.r,I3.b,I3.ml,I3.m,I3.em⟩
    have f4:Frm (kap T) A.tops H3 (L2.upd H3 A.st (.ins T.kState.C dx (fsState A (st.paid+Vbwsao.stepsCost st.goods st.recipes l) st.ticks))):=(frmS (jp e5 (by simp))).mono (fun _ h=>h) (by simp)
    have est:=st_make hi hg e0 (v:=v) (by rw [Int.toNat_natCast];exact hv) (l:=l) (u:=u) hpl (bs:=bs') hdo
    refine ⟨_,rfl,(by show 2≤sizeLine;decide),fun p hp=>?_⟩
    exact k.ans est S4 I4 (((zy (s1.trans s2)).trans (frmB f3)).trans f4) hp
   ·exact iteT ⟨by decide,fun p hp=>k.ans (st_make6 hi hg e0 (l:=l) (u:=u) hpl hdo) S3 I ((zy (s1.trans s2)).trans (frmB f3)) hp⟩
end
theorem ls_cat {H:Hp} {l m:Addr} {as bs:List Addr} {α β:Type} {xs:List α} {ys:List β} {R:Addr→α→Prop} {R':Addr→β→Prop} {N:List (List Int)} {f:α→List Int} {f':β→List Int} (h:LsAt H l as xs R) (h':LsAt H m bs ys R')
  (hR:∀ a x,R a x→H a=some (.tup ((f x).map V.int))) (hR':∀ a x,R' a x→H a=some (.tup ((f' x).map V.int))) (hN:N=xs.map f++ys.map f'):(as++bs).length=N.length∧∀ (j:Nat) a z,(as++bs)[j]? = some a→N[j]? = some z→H a=some (.tup (z.map V.int)):=by
 subst hN
 refine ⟨by simp [h.2.1,h'.2.1],fun j a z ha hz=>?_⟩
 by_cases hj:j<as.length
 ·rw [List.getElem?_append_left hj] at ha
  rw [List.getElem?_append_left (by rw [List.length_map,← h.2.1];exact hj),List.getElem?_map] at hz
  obtain ⟨x,hx,rfl⟩:=Option.map_eq_some_iff.mp hz
  exact hR _ _ (h.2.2 j a x ha hx)
 ·rw [List.getElem?_append_right (by omega)] at ha
  rw [List.getElem?_append_right (by rw [List.length_map,← h.2.1];omega),List.length_map,← h.2.1,List.getElem?_map] at hz
  obtain ⟨x,hx,rfl⟩:=Option.map_eq_some_iff.mp hz
  exact hR' _ _ (h'.2.2 _ a x ha hx)
theorem flat_len {N:List (List Int)} (h:∀ z∈N,z.length≤3):∀ i,(N.take i).flatten.length≤3 * N.length:=by
 intro i
 have h1:∀ M:List (List Int),(∀ z∈M,z.length≤3)→M.flatten.length≤3 * M.length:=by
  intro M
  induction M with
  | nil=>intro _;exact Nat.zero_le _
  | cons a M ih=>
   intro hM
   have:=ih fun z hz=>hM z (List.mem_cons_of_mem _ hz)
   have:=hM a List.mem_cons_self
   rw [List.flatten_cons,List.length_append,List.length_cons]
   omega
 have h2:=h1 (N.take i) fun z hz=>h z (List.mem_of_mem_take hz)
 rw [List.length_take] at h2
 omega
section
variable {P:Program} {w:World} {K:PySem.W.Frag} {mg:Str→Option Value} {base:Heap}
theorem je:FnScope ["state","b","good","many","costs","plan","worth","answer","part","kept","using"] ["state","b","good","many"] (defScope yx):=⟨rfl,rfl,rfl,by decide +kernel,rfl,by decide +kernel,by decide +kernel⟩
def ZZ (T:Prog K mg):Sp:=fun vs H Q _=>∃ (A:Adr) (s:State) (b g n:Int),vs=[.ref A.st,.int b,.int g,.int n]∧StAt T H A s∧SInv s∧s.goods.isEmpty=false∧callIn (.plan b g n)=true∧CallOk T A s (.plan b g n) H Q
theorem Jq (T:Prog K mg):FnOk P w K mg base CX0 17 T.tell_plan.f T.tell_plan.fd ["state","b","good","many"] (ZZ T):=by
 refine T.tell_plan.fn.ok je (fun vs H Q E h=>?_) (fun cdv A outer s H vs Q E hr h=>?_)
 ·obtain ⟨A,s,b,g,n,rfl,_⟩:=h
  rfl
 ·obtain ⟨A,st,b,g,n,rfl,S,I,hg,hi,k⟩:=h
  have hr1:(0≤b∧b≤11)∧(0≤g∧g≤9)∧(1≤n∧n≤100):=by
   simp only [callIn,Vbwsao.bagIx,Vbwsao.goodIx,Bool.and_eq_true,jc] at hi
   exact hi
  obtain ⟨b,rfl⟩:∃ b':Nat,b=(b':Int):=⟨b.toNat,by omega⟩
  obtain ⟨g,rfl⟩:∃ g':Nat,g=(g':Int):=⟨g.toNat,by omega⟩
  obtain ⟨n,rfl⟩:∃ n':Nat,n=(n':Int):=⟨n.toNat,by omega⟩
  refine ⟨_,(za (zB (PW.pt (q5 (zN (zi (zR T) (hr.mono (by decide)) rfl T.lacks_bag.at_ T.lacks_bag.fn.kp T.lacks_bag.b .nil pass0 (zc (pv 0) (zc (pv 1) zb)))) (qS (zN (zi (ja T) (hr.mono (by decide)) rfl T.lacks_good.at_ T.lacks_good.fn.kp T.lacks_good.b .nil pass0 (zc (pv 0) (zc (pv 2) zb))))))) (ze (zm (zu (zc (zA (v:=.int (-3)) rfl T.c_NO_SUCH.at_ ⟨_,rfl⟩) zb)))) zp)
   (za (zt (i:=4) je.nd rfl (by first | exact Or.inl rfl | exact Or.inr rfl) (zi (qV T) (hr.mono (by decide)) rfl T.least_costs.at_ T.least_costs.fn.kp T.least_costs.b .nil pass0 (zc (zd (K:=K) rfl (pv 0) rfl) (zc (zd (K:=K) rfl (pv 0) rfl) zb))))
   (za (zB (zq z8 (zv (zk (K:=K) rfl) (pv 4) (pv 2) (fun _ _=>rfl)) zj (nomark _)) (ze (zm (zu (zc (zA (v:=.int (-9)) rfl T.c_NO_COST.at_ ⟨_,rfl⟩) zb)))) zp)
   (za (zt (i:=5) je.nd rfl (by first | exact Or.inl rfl | exact Or.inr rfl) (zi (uf T) (hr.mono (by decide)) rfl T.plan_for.at_ T.plan_for.fn.kp T.plan_for.b .nil pass0 (zc (pv 0) (zc (pv 4) (zc (pv 1) (zc (pv 2) (zc (pv 3) zb)))))))
   (za (zt (i:=6) je.nd rfl (by first | exact Or.inl rfl | exact Or.inr rfl) (zr (km (K:=K) rfl rfl) (by rfl) T.b_sum xK (zc (qT rfl je.nd (zL (K:=K) rfl (zd (K:=K) rfl (pv 5) rfl)) (own:=[("kept",9),("using",10)]) (zW (by kernel_rfl)) (fun _ _ _ _ _=>(js (K:=K) (n:=2) rfl rfl (zF (zw (i:=9) je.nd rfl (by first | exact Or.inl rfl | exact Or.inr rfl)) (zF (zw (i:=10) je.nd rfl (by first | exact Or.inl rfl | exact Or.inr rfl)) jr)))) (fun _ _ _ _ _=>jC) (fun _ _ _ _ _=>(zI yd (zv (zk (K:=K) rfl) (pv 4) (pv 9) (fun _ _=>rfl)) (pv 10)))) zb)))
   (za (zt (i:=7) je.nd rfl (by first | exact Or.inl rfl | exact Or.inr rfl) (zu (zc zj (zc (zi (wM T) (hr.mono (by decide)) rfl T.cost_of_steps.at_ T.cost_of_steps.fn.kp T.cost_of_steps.b .nil pass0 (zc (pv 0) (zc (zd (K:=K) rfl (pv 5) rfl) zb))) (zc (pv 6) (zc (zr (zo (K:=K) rfl) (by rfl) T.b_len zQ (zc (zd (K:=K) rfl (pv 5) rfl) zb)) zb))))))
   (za (jH PassesOwn.never rfl (zL (K:=K) rfl (zI vH (zd (K:=K) rfl (pv 5) rfl) (zd (K:=K) rfl (pv 5) rfl))) (zw (i:=8) je.nd rfl (by first | exact Or.inl rfl | exact Or.inr rfl)) (ze (zG (WD (K:=K) rfl (pv 7) (pv 8)))))
   (ze (zm (pv 7)))))))))),?_⟩
  refine ⟨_,rfl,_,rfl,A,st,_,_,rfl,S,_,rfl,zx rfl (fun e=>iteT (k.ref (JX hi hg (by unfold Vbwsao.nb;rw [e];rfl)) S I (Same.refl _))) (fun e=>?_)⟩
  refine ⟨_,rfl,_,rfl,A,st,_,_,rfl,S,_,rfl,zx rfl (fun e2=>k.ref (JX hi hg (by unfold Vbwsao.nb Vbwsao.ng;rw [e,e2];rfl)) S I (Same.refl _)) (fun e2=>?_)⟩
  have e0:(Vbwsao.nb st b||Vbwsao.ng st g)=false:=ji e e2
  have hbl:b<st.bags.length:=by have:=of_decide_eq_false e;omega
  have hgl:g<st.goods.length:=by have:=of_decide_eq_false e2;omega
  obtain ⟨x,hx⟩:∃ x,st.bags[b]? = some x:=⟨_,List.getElem?_eq_getElem hbl⟩
  have hlen:=I.b.stk_len hx
  have hlc:(encL (Vbwsao.costs st.goods st.recipes)).length=st.goods.length:=by unfold encL;rw [List.length_map,jl]
  refine ⟨_,rfl,zV S ⟨_,rfl,zY S ⟨A.gl,A.rl,A.ga,A.ra,A.tops,st.goods,st.recipes,rfl,S.gs,S.rs,I.g,I.r,fun q H1 s1 hq hq1=>?_⟩⟩⟩
  refine ⟨_,rfl,_,rfl,yf hq1 (by rw [hlc];exact hgl) ⟨rfl,_,rfl,zx (p:=(Vbwsao.costAt (Vbwsao.costs st.goods st.recipes) g).isNone) ?_ (fun e3=>k.ref (st_plan9 hi hg e0 ?_) S I s1) (fun e3=>?_)⟩⟩
  ·rw [jP]
   have h1:=QS (wQ I.r) g
   rw [Bool.eq_iff_iff,decide_eq_true_iff,Option.isNone_iff_eq_none,← h1]
   exact ⟨fun z=>by injection z,fun z=>by rw [z]⟩
  ·rw [Int.toNat_natCast]
   exact Option.isNone_iff_eq_none.mp e3
  ·obtain ⟨v,hv⟩:∃ v,Vbwsao.costAt (Vbwsao.costs st.goods st.recipes) g=some v:=by
    cases h9:Vbwsao.costAt (Vbwsao.costs st.goods st.recipes) g with
    | none=>rw [h9] at e3;cases e3
    | some v=>exact ⟨v,rfl⟩
   have S1:=S.same s1
   refine ⟨_,rfl,_,rfl,_,rfl,_,rfl,_,rfl,A,st,_,q,b,g,n,v,x,rfl,S1,I.g,I.r,hx,by omega,hq1,hv,fun H2 pa sk sp us st' s2 Pl=>?_⟩
   obtain ⟨hab,hin,hui,hl1,hu1,hpl⟩:=xc I (n:=n) hx hv rfl rfl
   generalize (Vbwsao.meet st.goods st.recipes (Vbwsao.costs st.goods st.recipes) (st.goods.length+1) g n ((List.range st.goods.length).map (Vbwsao.countIn x.stacks))).2.1=l at Pl hab hin hl1 hpl
   generalize (Vbwsao.meet st.goods st.recipes (Vbwsao.costs st.goods st.recipes) (st.goods.length+1) g n ((List.range st.goods.length).map (Vbwsao.countIn x.stacks))).2.2=u at Pl hui hu1 hpl
   obtain ⟨dxo,eo⟩:=Pl.ob
   obtain ⟨as,hsp⟩:=Pl.hsp
   obtain ⟨bs,hus⟩:=Pl.hus
   have S2:=S1.same s2
   have hq2:=s2 _ _ hq1
   refine ⟨_,rfl,Jk T eo ⟨us,rfl,uA (fun y=>V.int ((encL (Vbwsao.costs st.goods st.recipes)).getD y.1 0 * (y.2:Int))) ⟨bs,hus⟩ (small (m:=2000) (by omega)) ?_ y3 ?_⟩⟩
   ·rintro y aa H3 N1 hy s3 h k1
    have hyu:=hui y hy
    exact jY h ⟨rfl,_,rfl,_,rfl,yf (s3 _ _ hq2) (by rw [hlc];exact hyu.1) ⟨_,rfl,_,_,rfl,rfl,.inr ⟨by omega,by omega⟩,k1 H3 (Same.refl _)⟩⟩
   ·intro D H3 s3 hD hD3
    refine ⟨D,u.map fun y=>(encL (Vbwsao.costs st.goods st.recipes)).getD y.1 0 * (y.2:Int),rfl,SqL.of (by rw [hD3,List.map_map];rfl),?_⟩
    rw [Zf]
    have S3:=S2.same s3
    have eo3:=s3 _ _ eo
    have fz3:Frm [] [] H2 H3:=zy s3
    have hsp3:LsAt H3 sp as l (TrAt H3):=hsp.imp (s3 _ _ hsp.1) fun a y e=>fz3.tup e
    have hus3:LsAt H3 us bs u (PrAt H3):=hus.imp (s3 _ _ hus.1) fun a y e=>fz3.tup e
    refine ⟨_,rfl,_,rfl,wF T eo3 ⟨A,st,_,sp,as,l,rfl,S3,I.g,I.r,hsp3,hin,?_⟩⟩
    refine ⟨_,rfl,_,rfl,wF T eo3 ⟨sp,_,rfl,.inl (SqL.of hsp3.1),(by show 4≤sizeLine;decide),fun p hp=>?_⟩⟩
    have el:((as.map V.ref).length:Int)=(l.length:Int):=by rw [List.length_map,hsp3.2.1]
    rw [el]
    generalize hL4:([V.int 0,V.int (Vbwsao.stepsCost st.goods st.recipes l:Int),V.int (Vbwsao.worth (Vbwsao.costs st.goods st.recipes) u:Int),V.int (l.length:Int)]:List V)=L4
    have s4:=zM (o:=.lst L4) hp
    have hp4:(L2.upd H3 p (.lst L4)) p=some (.lst L4):=zf
    generalize hH4:L2.upd H3 p (.lst L4)=H4 at s4 hp4
    have eo4:=s4 _ _ eo3
    have fz4:Frm [] [] H3 H4:=zy s4
    have hsp4:LsAt H4 sp as l (TrAt H4):=hsp3.imp (s4 _ _ hsp3.1) fun a y e=>fz4.tup e
    have hus4:LsAt H4 us bs u (PrAt H4):=hus3.imp (s4 _ _ hus3.1) fun a y e=>fz4.tup e
    refine ⟨_,rfl,wF T eo4 ⟨_,rfl,Jk T eo4 ⟨sp,us,_,_,rfl,rfl,hsp4.1,hus4.1,?_,fun p2 hp2=>?_⟩⟩⟩
    ·rw [List.length_map,List.length_map,hsp4.2.1,hus4.2.1]
     exact Nat.le_of_lt (small (m:=10000) (by omega))
    have s5:=zM (o:=.lst (as.map V.ref++bs.map V.ref)) hp2
    have hp25:(L2.upd H4 p2 (.lst (as.map V.ref++bs.map V.ref))) p2=some (.lst ((as++bs).map V.ref)):=by
     rw [zf,List.map_append]
    have hp5:=s5 _ _ hp4
    have npp:p≠p2:=zn hp4 hp2
    generalize hH5:L2.upd H4 p2 (.lst (as.map V.ref++bs.map V.ref))=H5 at s5 hp25 hp5
    have fz5:Frm [] [] H4 H5:=zy s5
    have hcat:=ls_cat (H:=H5) (N:=l.map Vbwsao.stepNums++u.map fun (y:Nat × Nat)=>[(y.1:Int),(y.2:Int)]) (f:=Vbwsao.stepNums) (f':=fun (y:Nat × Nat)=>[(y.1:Int),(y.2:Int)]) (hsp4.imp (H':=H5) (R':=TrAt H5) (s5 _ _ hsp4.1) fun a y e=>fz5.tup e) (hus4.imp (H':=H5) (R':=PrAt H5) (s5 _ _ hus4.1) fun a y e=>fz5.tup e)
     (fun a y h=>by have h7:H5 a=some (.tup (trV y)):=h;rw [trV_nums] at h7;exact h7) (fun a y h=>h) rfl
    have hN3:∀ z∈l.map Vbwsao.stepNums++u.map fun (y:Nat × Nat)=>[(y.1:Int),(y.2:Int)],z.length≤3:=fun z hz=>by
     rcases List.mem_append.mp hz with h | h
     ·obtain ⟨y,_,rfl⟩:=List.mem_map.mp h
      cases y <;> exact Nat.le_refl 3
     ·obtain ⟨y,_,rfl⟩:=List.mem_map.mp h
      exact Nat.le_succ 2
    have hNl:(l.map Vbwsao.stepNums++u.map fun (y:Nat × Nat)=>[(y.1:Int),(y.2:Int)]).length≤2048:=by simp;omega
    have hNf:(l.map Vbwsao.stepNums++u.map fun (y:Nat × Nat)=>[(y.1:Int),(y.2:Int)]).flatten=l.flatMap Vbwsao.stepNums++u.flatMap fun (y:Nat × Nat)=>[(y.1:Int),(y.2:Int)]:=by
     rw [List.flatten_append]
     rfl
    generalize (l.map Vbwsao.stepNums++u.map fun (y:Nat × Nat)=>[(y.1:Int),(y.2:Int)])=N at hcat hN3 hNl hNf
    refine ⟨p2,rfl,⟨_,SqL.of hp25⟩,wO (K:=K) (a:=p2) (xs:=(as++bs).map V.ref) (fun i σ H'=>Frm [] [p] H5 H'∧H' p=some (.lst (L4++(N.take i).flatten.map V.int))∧∃ v8 v9 v10,σ=[some (.ref A.st),some (.int (b:Int)),some (.int (g:Int)),some (.int (n:Int)),some (.ref q),some (.ref pa),some (.int (Vbwsao.worth (Vbwsao.costs st.goods st.recipes) u:Int)),some (.ref p),v8,v9,v10]) ⟨Frm.refl _,by rw [hp5];simp,_,_,_,rfl⟩ (fun i σ H' _ h=>SqL.of (h.1.lst hp25 (by simp;exact Ne.symm npp))) ?_ ?_⟩
    ·rintro i vv σ H6 hvv ⟨f6,h6,v8,v9,v10,rfl⟩
     rw [List.getElem?_map] at hvv
     obtain ⟨aa,haa,rfl⟩:=Option.map_eq_some_iff.mp hvv
     obtain ⟨z,hz⟩:=jo hcat.1 haa
     have htup:=f6.tup (hcat.2 i aa z haa hz)
     have hzl:=hN3 z (List.mem_of_getElem? hz)
     have hfl:=flat_len hN3 i
     refine ⟨_,rfl,.inl ⟨rfl,_,SqL.of h6⟩,_,rfl,p,aa,_,_,rfl,rfl,h6,.inr htup,?_,f6.trans (jv h6 (by simp)),?_,_,_,_,rfl⟩
     ·rw [List.length_append,List.length_map,List.length_map,← hL4]
      show 4+_+_≤sizeLine
      exact Nat.le_of_lt (small (m:=20000) (by omega))
     ·rw [zf,zZ hz,List.flatten_append,List.map_append,List.append_assoc]
      simp
    ·rintro σ H6 ⟨f6,h6,v8,v9,v10,rfl⟩
     rw [List.length_map,hcat.1,List.take_length,hNf,← hL4] at h6
     refine ⟨_,rfl,?_⟩
     have ka:=k p H6 A rfl rfl
     rw [st_plan hi hg e0 (v:=v) (by rw [Int.toNat_natCast];exact hv) (l:=l) (u:=u) hpl] at ka
     have hp0:H p=none:=by
      cases e9:H p with
      | none=>rfl
      | some o=>rw [s3 _ _ (s2 _ _ (s1 _ _ e9))] at hp;cases hp
     have s6:Same H H6:=yU ((((s1.trans s2).trans s3).trans s4).trans s5) f6 (by simp [hp0])
     exact ka (S.same s6) I (by rw [h6];simp) (zy s6)
end
end BM
end
section
namespace BM
open Vbwsao
def eachW (ns:List Int) (rs:List (Int × Int)):Bool:=(List.range ns.length).all fun k=>inr (ns.getD k 0) (rs.getD (k % rs.length) (0,0)).1 (rs.getD (k % rs.length) (0,0)).2
def rowOk (row:List Int) (x:Int × Int × List (Int × Int)):Bool:=(!decide ((row.length:Int)<x.1)&&(!decide (x.2.1<(row.length:Int))&&decide (row.length % x.2.2.length=0)))&&eachW row x.2.2
def rngOk (p:Int) (plain row:List Int):Bool:=eachW plain ((plainR.lookup p).getD [])&&match rowR.lookup p with
 | none=>true
 | some x=>rowOk row x
theorem kZ {g r:List Int} {rs:List (Int × Int)} (h:g.length=rs.length):eachW (g++r) rs=(eachW g rs&&eachW r rs):=by
 unfold eachW
 rw [List.length_append,List.range_add,List.all_append,List.all_map]
 have e1:((List.range g.length).all fun k=>inr ((g++r).getD k 0) (rs.getD (k % rs.length) (0,0)).1 (rs.getD (k % rs.length) (0,0)).2)=(List.range g.length).all fun k=>inr (g.getD k 0) (rs.getD (k % rs.length) (0,0)).1 (rs.getD (k % rs.length) (0,0)).2:=by
  rw [Bool.eq_iff_iff,List.all_eq_true,List.all_eq_true]
  have hk:∀ k,k∈List.range g.length→(g++r).getD k 0=g.getD k 0:=fun k hk=>by
   rw [List.getD_eq_getElem?_getD,List.getElem?_append_left (List.mem_range.mp hk),← List.getD_eq_getElem?_getD]
  exact ⟨fun h2 k hk2=>by have:=h2 k hk2;rw [hk k hk2] at this;exact this,fun h2 k hk2=>by rw [hk k hk2];exact h2 k hk2⟩
 have e2:((List.range r.length).all ((fun k=>inr ((g++r).getD k 0) (rs.getD (k % rs.length) (0,0)).1 (rs.getD (k % rs.length) (0,0)).2)∘fun x=>g.length+x))=(List.range r.length).all fun k=>inr (r.getD k 0) (rs.getD (k % rs.length) (0,0)).1 (rs.getD (k % rs.length) (0,0)).2:=by
  congr 1
  funext k
  show inr ((g++r).getD (g.length+k) 0) (rs.getD ((g.length+k) % rs.length) (0,0)).1 (rs.getD ((g.length+k) % rs.length) (0,0)).2=_
  rw [List.getD_eq_getElem?_getD,List.getElem?_append_right (by omega),h,Nat.add_mod_left,show rs.length+k - rs.length=k by omega,← List.getD_eq_getElem?_getD]
 rw [e1,e2]
theorem each3 (a b c:Int):eachW [a,b,c] [(1,1000),(1,100),(0,1000)]=(inr a 1 1000&&(inr b 1 100&&inr c 0 1000)):=by
 show (inr a 1 1000&&(inr b 1 100&&(inr c 0 1000&&true)))=_
 rw [Bool.and_true]
theorem uJ:∀ l:List Int,(decide (l.length % 3=0)&&eachW l [(1,1000),(1,100),(0,1000)])=triplesFine l
 | a :: b :: c :: r=>by
  have ih:=uJ r
  have e1:eachW (a :: b :: c :: r) [(1,1000),(1,100),(0,1000)]=(eachW [a,b,c] [(1,1000),(1,100),(0,1000)]&&eachW r [(1,1000),(1,100),(0,1000)]):=kZ (g:=[a,b,c]) rfl
  have e2:decide ((a :: b :: c :: r).length % 3=0)=decide (r.length % 3=0):=decide_eq_decide.mpr (by simp only [List.length_cons];omega)
  rw [e1,e2,each3]
  show _=(inr a 1 1000&&(inr b 1 100&&(inr c 0 1000&&triplesFine r)))
  rw [← ih]
  cases inr a 1 1000 <;> cases inr b 1 100 <;> cases inr c 0 1000 <;> cases decide (r.length % 3=0) <;> rfl
 | []=>rfl
 | [_]=>rfl
 | [_,_]=>rfl
theorem each2 (a b:Int):eachW [a,b] [(0,9),(1,9)]=(inr a 0 9&&inr b 1 9):=by
 show (inr a 0 9&&(inr b 1 9&&true))=_
 rw [Bool.and_true]
theorem QC:∀ l:List Int,(decide (l.length % 2=0)&&eachW l [(0,9),(1,9)])=needsFine l
 | a :: b :: r=>by
  have ih:=QC r
  have e1:eachW (a :: b :: r) [(0,9),(1,9)]=(eachW [a,b] [(0,9),(1,9)]&&eachW r [(0,9),(1,9)]):=kZ (g:=[a,b]) rfl
  have e2:decide ((a :: b :: r).length % 2=0)=decide (r.length % 2=0):=decide_eq_decide.mpr (by simp only [List.length_cons];omega)
  rw [e1,e2,each2]
  show _=(inr a 0 9&&(inr b 1 9&&needsFine r))
  rw [← ih]
  cases inr a 0 9 <;> cases inr b 1 9 <;> cases decide (r.length % 2=0) <;> rfl
 | []=>rfl
 | [_]=>rfl
theorem all_eq:∀ l:List Int,eachW l [(0,1000000000000000000)]=l.all fun n=>inr n 0 1000000000000000000
 | []=>rfl
 | a :: r=>by
  have ih:=all_eq r
  have e1:eachW (a :: r) [(0,1000000000000000000)]=(eachW [a] [(0,1000000000000000000)]&&eachW r [(0,1000000000000000000)]):=kZ (g:=[a]) rfl
  rw [e1,ih,List.all_cons]
  congr 1
  show (inr a 0 1000000000000000000&&true)=_
  rw [Bool.and_true]
def mkC (p:Int) (plain row:List Int):List (List Int):=match rowR.lookup p with
 | none=>[p :: plain]
 | some _=>[p :: plain,row]
def invC:Call→Int→List Int→List Int→Prop
 | .goods l,p,a,r=>p=0∧a=[]∧r=l
 | .recipe g c t l,p,a,r=>p=1∧a=[g,c,t]∧r=l
 | .bag b o w s,p,a,_=>p=2∧a=[b,o,w,s]
 | .put b g n,p,a,_=>p=3∧a=[b,g,n]
 | .take b g n,p,a,_=>p=4∧a=[b,g,n]
 | .move x b g n,p,a,_=>p=5∧a=[x,b,g,n]
 | .carry x b,p,a,_=>p=6∧a=[x,b]
 | .stacks b,p,a,_=>p=7∧a=[b]
 | .load b,p,a,_=>p=8∧a=[b]
 | .fits b g,p,a,_=>p=9∧a=[b,g]
 | .costs,p,_,_=>p=10
 | .fair l,p,_,r=>p=11∧r=l
 | .plan b g n,p,a,_=>p=12∧a=[b,g,n]
 | .make b g n,p,a,_=>p=13∧a=[b,g,n]
 | .machine x b r,p,a,_=>p=14∧a=[x,b,r]
 | .order m n,p,a,_=>p=15∧a=[m,n]
 | .tick n,p,a,_=>p=16∧a=[n]
 | .state m,p,a,_=>p=17∧a=[m]
 | .count g,p,a,_=>p=18∧a=[g]
 | .totals,p,_,_=>p=19
 | .find g,p,a,_=>p=20∧a=[g]
structure CIs (c:List (List Int)) (p:Int) (plain row:List Int) (d:Call):Prop where
 e:c=mkC p plain row
 hd:VbwsaoNeutral.callOf c=some d
 ok:rngOk p plain row=callIn d
 rs:∃ rs,plainR.lookup p=some rs∧plain.length=rs.length
 nr:rowR.lookup p=none→row=[]
 rl:row.length≤40
 inv:invC d p plain row
theorem Wy {l:List Int} {P:Int→Bool} (h:(decide (l.length≤40)&&l.all P)=true):l.length≤40:=by
 rw [Bool.and_eq_true] at h
 exact of_decide_eq_true h.1
theorem decle (a b:Int):(!decide (a<b))=decide (b≤a):=by
 by_cases h:a<b
 ·rw [decide_eq_true h,decide_eq_false (by omega)];rfl
 ·rw [decide_eq_false h,decide_eq_true (by omega)];rfl
theorem decN (a b:Nat):decide ((a:Int)≤(b:Int))=decide (a≤b):=decide_eq_decide.mpr (by omega)
theorem sh00 {P:List (List Int)→Prop} {p:Int} {a:List Int} {b:List (List Int)} (h:P [[p]]) (e:some (0,0)=some (a.length,b.length)):P ((p :: a) :: b):=by
 have e:=Option.some.inj e
 have e1:a.length=0:=(congrArg Prod.fst e).symm
 have e2:b.length=0:=(congrArg Prod.snd e).symm
 match a,b,e1,e2 with
 | [],[],_,_=>exact h
theorem sh01 {P:List (List Int)→Prop} {p:Int} {a:List Int} {b:List (List Int)} (h:∀ (l:List Int) ,P [[p],l]) (e:some (0,1)=some (a.length,b.length)):P ((p :: a) :: b):=by
 have e:=Option.some.inj e
 have e1:a.length=0:=(congrArg Prod.fst e).symm
 have e2:b.length=1:=(congrArg Prod.snd e).symm
 match a,b,e1,e2 with
 | [],[l],_,_=>exact h l
theorem sh10 {P:List (List Int)→Prop} {p:Int} {a:List Int} {b:List (List Int)} (h:∀ (x:Int) ,P [[p,x]]) (e:some (1,0)=some (a.length,b.length)):P ((p :: a) :: b):=by
 have e:=Option.some.inj e
 have e1:a.length=1:=(congrArg Prod.fst e).symm
 have e2:b.length=0:=(congrArg Prod.snd e).symm
 match a,b,e1,e2 with
 | [x],[],_,_=>exact h x
theorem sh20 {P:List (List Int)→Prop} {p:Int} {a:List Int} {b:List (List Int)} (h:∀ (x y:Int) ,P [[p,x,y]]) (e:some (2,0)=some (a.length,b.length)):P ((p :: a) :: b):=by
 have e:=Option.some.inj e
 have e1:a.length=2:=(congrArg Prod.fst e).symm
 have e2:b.length=0:=(congrArg Prod.snd e).symm
 match a,b,e1,e2 with
 | [x,y],[],_,_=>exact h x y
theorem sh30 {P:List (List Int)→Prop} {p:Int} {a:List Int} {b:List (List Int)} (h:∀ (x y z:Int) ,P [[p,x,y,z]]) (e:some (3,0)=some (a.length,b.length)):P ((p :: a) :: b):=by
 have e:=Option.some.inj e
 have e1:a.length=3:=(congrArg Prod.fst e).symm
 have e2:b.length=0:=(congrArg Prod.snd e).symm
 match a,b,e1,e2 with
 | [x,y,z],[],_,_=>exact h x y z
theorem sh31 {P:List (List Int)→Prop} {p:Int} {a:List Int} {b:List (List Int)} (h:∀ (x y z:Int) (l:List Int) ,P [[p,x,y,z],l]) (e:some (3,1)=some (a.length,b.length)):P ((p :: a) :: b):=by
 have e:=Option.some.inj e
 have e1:a.length=3:=(congrArg Prod.fst e).symm
 have e2:b.length=1:=(congrArg Prod.snd e).symm
 match a,b,e1,e2 with
 | [x,y,z],[l],_,_=>exact h x y z l
theorem sh40 {P:List (List Int)→Prop} {p:Int} {a:List Int} {b:List (List Int)} (h:∀ (x y z u:Int) ,P [[p,x,y,z,u]]) (e:some (4,0)=some (a.length,b.length)):P ((p :: a) :: b):=by
 have e:=Option.some.inj e
 have e1:a.length=4:=(congrArg Prod.fst e).symm
 have e2:b.length=0:=(congrArg Prod.snd e).symm
 match a,b,e1,e2 with
 | [x,y,z,u],[],_,_=>exact h x y z u
theorem shp {P:List (List Int)→Prop} (h0:∀ (l:List Int) ,P [[0],l]) (h1:∀ (x y z:Int) (l:List Int) ,P [[1,x,y,z],l]) (h2:∀ (x y z u:Int) ,P [[2,x,y,z,u]]) (h3:∀ (x y z:Int) ,P [[3,x,y,z]]) (h4:∀ (x y z:Int) ,P [[4,x,y,z]]) (h5:∀ (x y z u:Int) ,P [[5,x,y,z,u]]) (h6:∀ (x y:Int) ,P [[6,x,y]]) (h7:∀ (x:Int) ,P [[7,x]]) (h8:∀ (x:Int) ,P [[8,x]]) (h9:∀ (x y:Int) ,P [[9,x,y]]) (h10:P [[10]]) (h11:∀ (l:List Int) ,P [[11],l]) (h12:∀ (x y z:Int) ,P [[12,x,y,z]]) (h13:∀ (x y z:Int) ,P [[13,x,y,z]]) (h14:∀ (x y z:Int) ,P [[14,x,y,z]]) (h15:∀ (x y:Int) ,P [[15,x,y]]) (h16:∀ (x:Int) ,P [[16,x]]) (h17:∀ (x:Int) ,P [[17,x]]) (h18:∀ (x:Int) ,P [[18,x]]) (h19:P [[19]]) (h20:∀ (x:Int) ,P [[20,x]]) {c:List (List Int)} (h:PyFlat.okCall PyVbwsao.shape c):P c:=by
 obtain ⟨p,a,b,e,h⟩:=h
 subst e
 unfold PyVbwsao.shape at h
 by_cases e:p=0
 ·rw [if_pos e] at h;subst e;exact sh01 h0 h
 rw [if_neg e] at h;clear e
 by_cases e:p=1
 ·rw [if_pos e] at h;subst e;exact sh31 h1 h
 rw [if_neg e] at h;clear e
 by_cases e:p=2
 ·rw [if_pos e] at h;subst e;exact sh40 h2 h
 rw [if_neg e] at h;clear e
 by_cases e:p=3
 ·rw [if_pos e] at h;subst e;exact sh30 h3 h
 rw [if_neg e] at h;clear e
 by_cases e:p=4
 ·rw [if_pos e] at h;subst e;exact sh30 h4 h
 rw [if_neg e] at h;clear e
 by_cases e:p=5
 ·rw [if_pos e] at h;subst e;exact sh40 h5 h
 rw [if_neg e] at h;clear e
 by_cases e:p=6
 ·rw [if_pos e] at h;subst e;exact sh20 h6 h
 rw [if_neg e] at h;clear e
 by_cases e:p=7
 ·rw [if_pos e] at h;subst e;exact sh10 h7 h
 rw [if_neg e] at h;clear e
 by_cases e:p=8
 ·rw [if_pos e] at h;subst e;exact sh10 h8 h
 rw [if_neg e] at h;clear e
 by_cases e:p=9
 ·rw [if_pos e] at h;subst e;exact sh20 h9 h
 rw [if_neg e] at h;clear e
 by_cases e:p=10
 ·rw [if_pos e] at h;subst e;exact sh00 h10 h
 rw [if_neg e] at h;clear e
 by_cases e:p=11
 ·rw [if_pos e] at h;subst e;exact sh01 h11 h
 rw [if_neg e] at h;clear e
 by_cases e:p=12
 ·rw [if_pos e] at h;subst e;exact sh30 h12 h
 rw [if_neg e] at h;clear e
 by_cases e:p=13
 ·rw [if_pos e] at h;subst e;exact sh30 h13 h
 rw [if_neg e] at h;clear e
 by_cases e:p=14
 ·rw [if_pos e] at h;subst e;exact sh30 h14 h
 rw [if_neg e] at h;clear e
 by_cases e:p=15
 ·rw [if_pos e] at h;subst e;exact sh20 h15 h
 rw [if_neg e] at h;clear e
 by_cases e:p=16
 ·rw [if_pos e] at h;subst e;exact sh10 h16 h
 rw [if_neg e] at h;clear e
 by_cases e:p=17
 ·rw [if_pos e] at h;subst e;exact sh10 h17 h
 rw [if_neg e] at h;clear e
 by_cases e:p=18
 ·rw [if_pos e] at h;subst e;exact sh10 h18 h
 rw [if_neg e] at h;clear e
 by_cases e:p=19
 ·rw [if_pos e] at h;subst e;exact sh00 h19 h
 rw [if_neg e] at h;clear e
 by_cases e:p=20
 ·rw [if_pos e] at h;subst e;exact sh10 h20 h
 rw [if_neg e] at h;clear e
 cases h
theorem cis_of {c:List (List Int)}:PyFlat.okCall PyVbwsao.shape c→VbwsaoNeutral.asked1 c=true→∃ p plain row d,CIs c p plain row d:=by
 refine shp (P:=fun c=>VbwsaoNeutral.asked1 c=true→∃ p plain row d,CIs c p plain row d) ?_ ?_ ?_ ?_ ?_ ?_ ?_ ?_ ?_ ?_ ?_ ?_ ?_ ?_ ?_ ?_ ?_ ?_ ?_ ?_ ?_
 ·intro l h
  refine ⟨0,[],l,.goods l,rfl,rfl,?_,⟨_,rfl,rfl⟩,(fun h=>by cases h),Wy (P:=VbwsaoNeutral.whole60) h,rfl,rfl,rfl⟩
  show (true&&((!decide ((l.length:Int)<3)&&(!decide (30<(l.length:Int))&&decide (l.length % 3=0)))&&eachW l [(1,1000),(1,100),(0,1000)]))=(decide (3≤l.length)&&(decide (l.length≤30)&&triplesFine l))
  rw [decle,decle,show decide ((3:Int)≤(l.length:Int))=decide (3≤l.length) from decN 3 _,show decide ((l.length:Int)≤30)=decide (l.length≤30) from decN _ 30,← uJ]
  cases decide (3≤l.length) <;> cases decide (l.length≤30) <;> cases decide (l.length % 3=0) <;> rfl
 ·intro g c t l h
  refine ⟨1,[g,c,t],l,.recipe g c t l,rfl,rfl,?_,⟨_,rfl,rfl⟩,(fun h=>by cases h),?_,rfl,rfl,rfl⟩
  ·show ((inr g 0 9&&(inr c 1 1000&&(inr t 1 50&&true)))&&((!decide ((l.length:Int)<0)&&(!decide (8<(l.length:Int))&&decide (l.length % 2=0)))&&eachW l [(0,9),(1,9)]))=(inr g 0 9&&(inr c 1 1000&&(inr t 1 50&&(decide (l.length≤8)&&needsFine l))))
   rw [decle,decle,show decide ((0:Int)≤(l.length:Int))=true from decide_eq_true (by omega),show decide ((l.length:Int)≤8)=decide (l.length≤8) from decN _ 8,← QC]
   cases inr g 0 9 <;> cases inr c 1 1000 <;> cases inr t 1 50 <;> cases decide (l.length≤8) <;> cases decide (l.length % 2=0) <;> rfl
  ·have h:(VbwsaoNeutral.whole60 g&&(VbwsaoNeutral.whole60 c&&(VbwsaoNeutral.whole60 t&&(decide (l.length≤40)&&l.all VbwsaoNeutral.whole60))))=true:=h
   rw [Bool.and_eq_true,Bool.and_eq_true,Bool.and_eq_true] at h
   exact Wy h.2.2.2
 ·intro b r w s h
  refine ⟨2,[b,r,w,s],[],.bag b r w s,rfl,rfl,?_,⟨_,rfl,rfl⟩,(fun _=>rfl),Nat.zero_le _,rfl,rfl⟩
  show ((inr b (-1) 11&&(inr r 0 1000000&&(inr w 0 1000&&(inr s 0 40&&true))))&&true)=_
  rw [Bool.and_true,Bool.and_true]
  rfl
 ·intro b g n h
  refine ⟨3,[b,g,n],[],.put b g n,rfl,rfl,?_,⟨_,rfl,rfl⟩,(fun _=>rfl),Nat.zero_le _,rfl,rfl⟩
  show ((inr b 0 11&&(inr g 0 9&&(inr n 1 10000&&true)))&&true)=_
  rw [Bool.and_true,Bool.and_true]
  rfl
 ·intro b g n h
  refine ⟨4,[b,g,n],[],.take b g n,rfl,rfl,?_,⟨_,rfl,rfl⟩,(fun _=>rfl),Nat.zero_le _,rfl,rfl⟩
  show ((inr b 0 11&&(inr g 0 9&&(inr n 1 10000&&true)))&&true)=_
  rw [Bool.and_true,Bool.and_true]
  rfl
 ·intro a b g n h
  refine ⟨5,[a,b,g,n],[],.move a b g n,rfl,rfl,?_,⟨_,rfl,rfl⟩,(fun _=>rfl),Nat.zero_le _,rfl,rfl⟩
  show ((inr a 0 11&&(inr b 0 11&&(inr g 0 9&&(inr n 1 10000&&true))))&&true)=_
  rw [Bool.and_true,Bool.and_true]
  rfl
 ·intro a b h
  refine ⟨6,[a,b],[],.carry a b,rfl,rfl,?_,⟨_,rfl,rfl⟩,(fun _=>rfl),Nat.zero_le _,rfl,rfl⟩
  show ((inr a 0 11&&(inr b (-1) 11&&true))&&true)=_
  rw [Bool.and_true,Bool.and_true]
  rfl
 ·intro b h
  refine ⟨7,[b],[],.stacks b,rfl,rfl,?_,⟨_,rfl,rfl⟩,(fun _=>rfl),Nat.zero_le _,rfl,rfl⟩
  show ((inr b 0 11&&true)&&true)=_
  rw [Bool.and_true,Bool.and_true]
  rfl
 ·intro b h
  refine ⟨8,[b],[],.load b,rfl,rfl,?_,⟨_,rfl,rfl⟩,(fun _=>rfl),Nat.zero_le _,rfl,rfl⟩
  show ((inr b 0 11&&true)&&true)=_
  rw [Bool.and_true,Bool.and_true]
  rfl
 ·intro b g h
  refine ⟨9,[b,g],[],.fits b g,rfl,rfl,?_,⟨_,rfl,rfl⟩,(fun _=>rfl),Nat.zero_le _,rfl,rfl⟩
  show ((inr b 0 11&&(inr g 0 9&&true))&&true)=_
  rw [Bool.and_true,Bool.and_true]
  rfl
 ·intro h
  exact ⟨10,[],[],.costs,rfl,rfl,rfl,⟨_,rfl,rfl⟩,(fun _=>rfl),Nat.zero_le _,rfl⟩
 ·intro l h
  refine ⟨11,[],l,.fair l,rfl,rfl,?_,⟨_,rfl,rfl⟩,(fun h=>by cases h),Wy (P:=VbwsaoNeutral.whole60) h,rfl,rfl⟩
  show (true&&((!decide ((l.length:Int)<0)&&(!decide (10<(l.length:Int))&&decide (l.length % 1=0)))&&eachW l [(0,1000000000000000000)]))=(decide (l.length≤10)&&l.all fun n=>inr n 0 1000000000000000000)
  rw [decle,decle,show decide ((0:Int)≤(l.length:Int))=true from decide_eq_true (by omega),show decide ((l.length:Int)≤10)=decide (l.length≤10) from decN _ 10,← all_eq,decide_eq_true (Nat.mod_one l.length),Bool.true_and,Bool.true_and,Bool.and_true]
 ·intro b g n h
  refine ⟨12,[b,g,n],[],.plan b g n,rfl,rfl,?_,⟨_,rfl,rfl⟩,(fun _=>rfl),Nat.zero_le _,rfl,rfl⟩
  show ((inr b 0 11&&(inr g 0 9&&(inr n 1 100&&true)))&&true)=_
  rw [Bool.and_true,Bool.and_true]
  rfl
 ·intro b g n h
  refine ⟨13,[b,g,n],[],.make b g n,rfl,rfl,?_,⟨_,rfl,rfl⟩,(fun _=>rfl),Nat.zero_le _,rfl,rfl⟩
  show ((inr b 0 11&&(inr g 0 9&&(inr n 1 100&&true)))&&true)=_
  rw [Bool.and_true,Bool.and_true]
  rfl
 ·intro a b r h
  refine ⟨14,[a,b,r],[],.machine a b r,rfl,rfl,?_,⟨_,rfl,rfl⟩,(fun _=>rfl),Nat.zero_le _,rfl,rfl⟩
  show ((inr a 0 11&&(inr b 0 11&&(inr r 0 15&&true)))&&true)=_
  rw [Bool.and_true,Bool.and_true]
  rfl
 ·intro m n h
  refine ⟨15,[m,n],[],.order m n,rfl,rfl,?_,⟨_,rfl,rfl⟩,(fun _=>rfl),Nat.zero_le _,rfl,rfl⟩
  show ((inr m 0 5&&(inr n 1 1000&&true))&&true)=_
  rw [Bool.and_true,Bool.and_true]
  rfl
 ·intro n h
  refine ⟨16,[n],[],.tick n,rfl,rfl,?_,⟨_,rfl,rfl⟩,(fun _=>rfl),Nat.zero_le _,rfl,rfl⟩
  show ((inr n 1 100&&true)&&true)=_
  rw [Bool.and_true,Bool.and_true]
  rfl
 ·intro m h
  refine ⟨17,[m],[],.state m,rfl,rfl,?_,⟨_,rfl,rfl⟩,(fun _=>rfl),Nat.zero_le _,rfl,rfl⟩
  show ((inr m 0 5&&true)&&true)=_
  rw [Bool.and_true,Bool.and_true]
  rfl
 ·intro g h
  refine ⟨18,[g],[],.count g,rfl,rfl,?_,⟨_,rfl,rfl⟩,(fun _=>rfl),Nat.zero_le _,rfl,rfl⟩
  show ((inr g 0 9&&true)&&true)=_
  rw [Bool.and_true,Bool.and_true]
  rfl
 ·intro h
  exact ⟨19,[],[],.totals,rfl,rfl,rfl,⟨_,rfl,rfl⟩,(fun _=>rfl),Nat.zero_le _,rfl⟩
 ·intro g h
  refine ⟨20,[g],[],.find g,rfl,rfl,?_,⟨_,rfl,rfl⟩,(fun _=>rfl),Nat.zero_le _,rfl,rfl⟩
  show ((inr g 0 9&&true)&&true)=_
  rw [Bool.and_true,Bool.and_true]
  rfl
theorem whole_id {c:List (List Int)}:PyFlat.okCall PyVbwsao.shape c→PyVbwsao.whole c=c:=
 shp (P:=fun c=>PyVbwsao.whole c=c) (fun _=>rfl) (fun _ _ _ _=>rfl) (fun _ _ _ _=>rfl) (fun _ _ _=>rfl) (fun _ _ _=>rfl) (fun _ _ _ _=>rfl) (fun _ _=>rfl) (fun _=>rfl) (fun _=>rfl) (fun _ _=>rfl) rfl (fun _=>rfl) (fun _ _ _=>rfl) (fun _ _ _=>rfl) (fun _ _ _=>rfl) (fun _ _=>rfl) (fun _=>rfl) (fun _=>rfl) (fun _=>rfl) rfl (fun _=>rfl)
theorem Q3 {l:List Int} (h:PyVbwsao.answers_asked l=true):∃ cs,l=PyFlat.put cs∧(∀ c∈cs,∃ p plain row d,CIs c p plain row d)∧cs.length≤200∧PyVbwsao.answers l=PyFlat.told (PyFlat.played VbwsaoNeutral.step VbwsaoNeutral.start cs):=by
 unfold PyVbwsao.answers_asked at h
 cases hc:PyVbwsao.calls l with
 | none=>rw [hc] at h;cases h
 | some cs=>
  rw [hc] at h
  have h':(PyFlat.atMost 200 cs&&VbwsaoNeutral.asked cs)=true:=h
  rw [Bool.and_eq_true] at h'
  have hl:cs.length≤200:=of_decide_eq_true h'.1
  have ha:=h'.2
  unfold VbwsaoNeutral.asked at ha
  rw [Bool.and_eq_true,List.all_eq_true] at ha
  have hq:l=PyFlat.put cs∧∀ c∈cs,PyFlat.okCall PyVbwsao.shape c:=by
   unfold PyVbwsao.calls at hc
   cases hp:PyFlat.calls PyVbwsao.shape l.length l with
   | none=>rw [hp] at hc;cases hc
   | some ds=>
    rw [hp] at hc
    have e:ds.map PyVbwsao.whole=cs:=Option.some.inj hc
    have hx:=PyFlat.put_calls _ _ _ hp
    have e2:ds.map PyVbwsao.whole=ds:=(List.map_congr_left fun c h=>whole_id (hx.2 c h)).trans (List.map_id' ds)
    rw [e2] at e
    subst e
    exact hx
  refine ⟨cs,hq.1,fun c hc2=>cis_of (hq.2 c hc2) (ha.1 c hc2),hl,?_⟩
  ·unfold PyVbwsao.answers
   rw [hc]
end BM
end
section
namespace BM
open PySem PySem.Spec L2
open PyProof.Rows hiding St
open Vbwsao (Good Recipe Bag Machine State)
section
variable {K:PySem.W.Frag}
theorem vM {v:Value} {vs:List Value} (h:kTup K v=some vs):∃ a,v = .ref a∧∀ (H:Hp) (xs:List V),Vals xs vs→SqT K H a xs:=by
 unfold kTup at h
 split at h
 ·rename_i a
  split at h
  ·rename_i c od its n sl hlk
   split at h
   ·rename_i hc
    rw [Bool.and_eq_true,beq_iff_eq] at hc
    obtain ⟨hc1,hc2⟩:=hc
    have hc2':=of_decide_eq_true hc2
    cases h
    subst hc1
    refine ⟨a,rfl,fun H xs r=>.inr ⟨_,its,n,hlk,rfl,rfl,?_,r⟩⟩
    exact Nat.le_of_lt (small (m:=1000) (by omega))
   ·cases h
  ·cases h
 ·cases h
theorem qL {i:Int} {v:Value} (h:vInt i v=true):∃ t,v = .int i t:=by
 unfold vInt at h
 split at h
 ·rename_i j t
  have e:=of_decide_eq_true h
  subst e
  exact ⟨t,rfl⟩
 ·cases h
theorem QJ {p:Int × Int} {v:Value} (h:kPair K p v=true):∃ a,v = .ref a∧∀ H:Hp,SqT K H a [.int p.1,.int p.2]:=by
 unfold kPair at h
 split at h
 ·rename_i x y hk
  rw [Bool.and_eq_true] at h
  obtain ⟨t1,rfl⟩:=qL h.1
  obtain ⟨t2,rfl⟩:=qL h.2
  obtain ⟨a,rfl,k⟩:=vM hk
  exact ⟨a,rfl,fun H=>k H _ (.cons ⟨t1,rfl⟩ (.cons ⟨t2,rfl⟩ .nil))⟩
 ·cases h
def RngAt (K:PySem.W.Frag) (a:Addr) (rs:List (Int × Int)):Prop:=∃ bs:List Addr,bs.length=rs.length∧(∀ H:Hp,SqT K H a (bs.map V.ref))∧∀ (k:Nat) b p,bs[k]? = some b→rs[k]? = some p→∀ H:Hp,SqT K H b [.int p.1,.int p.2]
theorem xA:∀ (l:List (Int × Int)) (vs:List Value),kAll (kPair K) l vs=true→∃ bs:List Addr,bs.length=l.length∧Vals (bs.map V.ref) vs∧∀ (k:Nat) b p,bs[k]? = some b→l[k]? = some p→∀ H:Hp,SqT K H b [.int p.1,.int p.2]
 | [],[],_=>⟨[],rfl,.nil,fun k b p h=>by simp at h⟩
 | x :: l,v :: vs,h=>by
  have h':(kPair K x v&&kAll (kPair K) l vs)=true:=h
  rw [Bool.and_eq_true] at h'
  obtain ⟨a,rfl,ka⟩:=QJ h'.1
  obtain ⟨bs,e1,e2,e3⟩:=xA l vs h'.2
  refine ⟨a :: bs,by simp [e1],.cons rfl e2,fun k b p hb hp=>?_⟩
  cases k with
  | zero=>
   have e4:a=b:=Option.some.inj hb
   have e5:x=p:=Option.some.inj hp
   subst e4 e5
   exact ka
  | succ k=>exact e3 k b p hb hp
 | [],_ :: _,h=>by cases h
 | _ :: _,[],h=>by cases h
theorem xz {l:List (Int × Int)} {v:Value} (h:kRng K l v=true):∃ u,RelV u v∧∃ a,u = .ref a∧RngAt K a l:=by
 unfold kRng at h
 split at h
 ·rename_i vs hk
  obtain ⟨a,rfl,k⟩:=vM hk
  obtain ⟨bs,e1,e2,e3⟩:=xA l vs h
  exact ⟨.ref a,rfl,a,rfl,bs,e1,fun H=>k H _ e2,e3⟩
 ·cases h
def RowAt (K:PySem.W.Frag) (a:Addr) (x:Int × Int × List (Int × Int)):Prop:=∃ c,(∀ H:Hp,SqT K H a [.int x.1,.int x.2.1,.ref c])∧RngAt K c x.2.2
theorem WS {x:Int × Int × List (Int × Int)} {v:Value} (h:kRow K x v=true):∃ u,RelV u v∧∃ a,u = .ref a∧RowAt K a x:=by
 unfold kRow at h
 split at h
 ·rename_i y z w hk
  rw [Bool.and_eq_true,Bool.and_eq_true] at h
  obtain ⟨t1,rfl⟩:=qL h.1
  obtain ⟨t2,rfl⟩:=qL h.2.1
  obtain ⟨u,ru,c,rfl,rc⟩:=xz h.2.2
  obtain ⟨a,rfl,k⟩:=vM hk
  exact ⟨.ref a,rfl,a,rfl,c,fun H=>k H _ (.cons ⟨t1,rfl⟩ (.cons ⟨t2,rfl⟩ (.cons ru .nil))),rc⟩
 ·cases h
theorem uj {α:Type} {f:α→Value→Bool} {Pf:α→V→Prop} (hf:∀ x v,f x v=true→∃ u,RelV u v∧Pf x u):∀ (l:List (Int × α)) (es:List DictEntry),kEnts f l es=true→∃ m:List (Int × V),
  Paired (fun (p:Int × V) (e:DictEntry)=>(∃ t,e.key = .int p.1 t)∧e.hash=hashInt p.1∧RelV p.2 e.val) m es∧m.map (·.1)=l.map (·.1)∧(∀ p,l.lookup p=none→m.lookup p=none)∧∀ p x,l.lookup p=some x→∃ u,m.lookup p=some u∧Pf x u
 | [],[],_=>⟨[],.nil,rfl,fun _ _=>rfl,fun p x h=>by cases h⟩
 | x :: l,e :: es,h=>by
  have h':(vInt x.1 e.key&&(decide (e.hash=hashInt x.1)&&(f x.2 e.val&&kEnts f l es)))=true:=h
  rw [Bool.and_eq_true,Bool.and_eq_true,Bool.and_eq_true] at h'
  obtain ⟨t,ht⟩:=qL h'.1
  have hh:=of_decide_eq_true h'.2.1
  obtain ⟨u,ru,pu⟩:=hf _ _ h'.2.2.1
  obtain ⟨m,m1,m2,m3,m4⟩:=uj hf l es h'.2.2.2
  refine ⟨(x.1,u) :: m,.cons ⟨⟨t,ht⟩,hh,ru⟩ m1,by simp [m2],fun p hp=>?_,fun p y hp=>?_⟩
  ·have hp':List.lookup p ((x.1,x.2) :: l)=none:=hp
   rw [List.lookup_cons] at hp' ⊢
   cases e9:(p == x.1) with
   | true=>rw [e9] at hp';cases hp'
   | false=>
    rw [e9] at hp'
    exact m3 p hp'
  ·have hp':List.lookup p ((x.1,x.2) :: l)=some y:=hp
   rw [List.lookup_cons] at hp' ⊢
   cases e9:(p == x.1) with
   | true=>
    rw [e9] at hp'
    have e8:x.2=y:=Option.some.inj hp'
    subst e8
    exact ⟨u,rfl,pu⟩
   | false=>
    rw [e9] at hp'
    exact m4 p y hp'
 | [],_ :: _,h=>by cases h
 | _ :: _,[],h=>by cases h
theorem uk {α:Type} {f:α→Value→Bool} {Pf:α→V→Prop} (hf:∀ x v,f x v=true→∃ u,RelV u v∧Pf x u) {l:List (Int × α)} {d:Addr} (nd:(l.map (·.1)).Nodup) (hd:(d == sysModules)=false) (h:kDict K f l d=true) :
  ∃ m:List (Int × V),MD K d m∧(∀ p,l.lookup p=none→m.lookup p=none)∧∀ p x,l.lookup p=some x→∃ u,m.lookup p=some u∧Pf x u:=by
 unfold kDict at h
 split at h
 ·rename_i c es ep sl hlk
  rw [Bool.and_eq_true,Bool.and_eq_true,beq_iff_eq] at h
  obtain ⟨hc,hsl,hes⟩:=h
  have esl:sl = #[]:=by
   rw [Array.isEmpty_iff] at hsl
   exact hsl
  subst hc esl
  obtain ⟨m,m1,m2,m3,m4⟩:=uj hf l _ hes
  exact ⟨m,⟨hd,by rw [m2];exact nd,es,ep,hlk,m1⟩,m3,m4⟩
 ·cases h
end
theorem YV:(plainR.map (·.1)).Nodup:=by decide +kernel
theorem rowR_nd:(rowR.map (·.1)).Nodup:=by decide +kernel
section
variable {P:Program} {w:World} {K:PySem.W.Frag} {mg:Str→Option Value} {base:Heap}
theorem Qq (T:Prog K mg):∃ m:List (Int × V),MD K T.PLAIN_RANGES.d m∧∀ p rs,plainR.lookup p=some rs→∃ a,m.lookup p=some (.ref a)∧RngAt K a rs:=by
 obtain ⟨m,h1,_,h3⟩:=uk (Pf:=fun (x:List (Int × Int)) u=>∃ a,u = .ref a∧RngAt K a x) (fun x v h=>xz h) YV T.PLAIN_RANGES.ns T.PLAIN_RANGES.ck
 refine ⟨m,h1,fun p rs h=>?_⟩
 obtain ⟨u,hu,a,rfl,ha⟩:=h3 p rs h
 exact ⟨a,hu,ha⟩
theorem row_md (T:Prog K mg):∃ m:List (Int × V),MD K T.ROW_RANGES.d m∧(∀ p,rowR.lookup p=none→m.lookup p=none)∧∀ p x,rowR.lookup p=some x→∃ a,m.lookup p=some (.ref a)∧RowAt K a x:=by
 obtain ⟨m,h1,h2,h3⟩:=uk (Pf:=fun (x:Int × Int × List (Int × Int)) u=>∃ a,u = .ref a∧RowAt K a x) (fun x v h=>WS h) rowR_nd T.ROW_RANGES.ns T.ROW_RANGES.ck
 refine ⟨m,h1,h2,fun p rs h=>?_⟩
 obtain ⟨u,hu,a,rfl,ha⟩:=h3 p rs h
 exact ⟨a,hu,ha⟩
theorem j2:FnScope ["numbers","ranges","k","number","limits"] ["numbers","ranges"] (defScope wq):=⟨rfl,rfl,rfl,by decide +kernel,rfl,by decide +kernel,by decide +kernel⟩
def uX:Sp:=fun vs H Q _=>∃ (l a:Addr) (ns:List Int) (rs:List (Int × Int)),vs=[.ref l,.ref a]∧H l=some (.lst (ns.map V.int))∧RngAt K a rs∧(rs=[]→ns=[])∧∀ H',Same H H'→Q (.bl (eachW ns rs)) H'
theorem yN (T:Prog K mg):FnOk P w K mg base CX0 1 T.each_within.f T.each_within.fd ["numbers","ranges"] (uX (K:=K)):=by
 refine T.each_within.fn.ok j2 (fun vs H Q E h=>?_) (fun cdv A outer s H vs Q E hr h=>?_)
 ·obtain ⟨l,a,ns,rs,rfl,_⟩:=h
  rfl
 ·obtain ⟨l,a,ns,rs,rfl,hl,⟨bs,hbl,hbs,hbp⟩,hne,k⟩:=h
  refine ⟨_,(za (jH PassesOwn.never rfl (xf (K:=K) rfl rfl T.b_enumerate (zc (pv 0) zb)) (js (K:=K) (n:=2) rfl rfl (zF (zw (i:=2) j2.nd rfl (by first | exact Or.inl rfl | exact Or.inr rfl)) (zF (zw (i:=3) j2.nd rfl (by first | exact Or.inl rfl | exact Or.inr rfl)) jr))) (za (zt (i:=4) j2.nd rfl (by first | exact Or.inl rfl | exact Or.inr rfl) (zv (yh (K:=K) rfl) (pv 1) (zI op_mod (pv 2) (zr (zo (K:=K) rfl) (by rfl) T.b_len zQ (zc (pv 1) zb))) (fun _ _=>rfl)))
   (ze (zB (PW.pt (q5 (zq Zv (pv 3) (zv (yh (K:=K) rfl) (pv 4) zj (fun _ _=>rfl)) (nomark _)) (qS (zq qC (pv 3) (zv (yh (K:=K) rfl) (pv 4) zj (fun _ _=>rfl)) (nomark _))))) (ze (zm qU)) zp))))
   (ze (zm qU))),?_⟩
  refine ⟨_,rfl,l,_,rfl,SqL.of hl,?_⟩
  refine for_enum (K:=K) (a:=l) (xs:=ns.map V.int) (fun i σ H'=>Same H H'∧(∀ j,j<i→Vbwsao.inr (ns.getD j 0) (rs.getD (j % rs.length) (0,0)).1 (rs.getD (j % rs.length) (0,0)).2=true)∧∃ v2 v3 v4,σ=[some (.ref l),some (.ref a),v2,v3,v4]) ⟨Same.refl _,(fun j hj=>absurd hj (by omega)),_,_,_,rfl⟩ (fun i σ H' _ h=>SqL.of (h.1 _ _ hl)) ?_ ?_
  ·rintro i vv TT σ H1 hvv hT ⟨s1,hin,v2,v3,v4,rfl⟩
   rw [List.getElem?_map] at hvv
   obtain ⟨z,hz,rfl⟩:=Option.map_eq_some_iff.mp hvv
   have hil:=zT hz
   have hpos:0<rs.length:=by
    cases rs with
    | nil=>rw [hne rfl] at hil;simp at hil
    | cons=>simp
   have hmod:i % rs.length<rs.length:=Nat.mod_lt _ hpos
   have hrp:rs[i % rs.length]? = some rs[i % rs.length]:=List.getElem?_eq_getElem hmod
   have hbk:bs[i % rs.length]? = some (bs[i % rs.length]'(by omega)):=List.getElem?_eq_getElem _
   have hpair:=hbp _ _ _ hbk hrp
   have erp:rs.getD (i % rs.length) (0,0)=rs[i % rs.length]:=by rw [List.getD_eq_getElem?_getD,hrp];rfl
   have ezp:ns.getD i 0=z:=by rw [List.getD_eq_getElem?_getD,hz];rfl
   generalize rs[i % rs.length]=pr at hrp hpair erp
   generalize bs[i % rs.length]'(by omega)=bb at hbk hpair
   have s2:Same H (L2.upd H1 TT (.tup [.int (i:Int),.int z])):=jR s1 hT
   have hlen:((bs.map V.ref).length:Int)=(rs.length:Int):=by rw [List.length_map,hbl]
   have bad:(Vbwsao.inr z pr.1 pr.2)=false→eachW ns rs=false:=fun h=>by
    unfold eachW
    rw [List.all_eq_false]
    refine ⟨i,List.mem_range.mpr hil,?_⟩
    rw [ezp,erp,h]
    exact Bool.false_ne_true
   refine jY zf ?_
   refine ⟨_,rfl,_,rfl,_,rfl,a,_,rfl,.inr (hbs _),_,_,rfl,rfl,?_,?_⟩
   ·rw [hlen]
    omega
   rw [hlen]
   have em:((i:Int) % (rs.length:Int))=((i % rs.length:Nat):Int):=by omega
   show rIxT K (.ref a) (.int ((i:Int) % (rs.length:Int))) _ _
   rw [em]
   refine ⟨a,_,_,_,rfl,rfl,hbs _,yk (by rw [List.getElem?_map,hbk];rfl),?_⟩
   refine ⟨_,rfl,_,rfl,bb,_,_,_,rfl,rfl,hpair _,rfl,_,_,rfl,rfl,_,rfl,zx (p:=decide (z<pr.1)) rfl (fun e=>iteT ?_) (fun e=>?_)⟩
   ·have k1:=k _ s2
    rw [bad (by unfold Vbwsao.inr;rw [decide_eq_false (by have:=of_decide_eq_true e;omega)];rfl)] at k1
    exact k1
   ·refine ⟨_,rfl,_,rfl,bb,_,_,_,rfl,rfl,hpair _,rfl,_,_,rfl,rfl,_,rfl,zx (p:=decide (pr.2<z)) rfl (fun e2=>?_) (fun e2=>?_)⟩
    ·have k1:=k _ s2
     rw [bad (by unfold Vbwsao.inr;rw [Bool.and_comm,decide_eq_false (by have:=of_decide_eq_true e2;omega)];rfl)] at k1
     exact k1
    ·refine ⟨s2,fun j hj=>?_,_,_,_,rfl⟩
     by_cases q:j=i
     ·subst q
      rw [ezp,erp]
      have h1:=of_decide_eq_false e
      have h2:=of_decide_eq_false e2
      unfold Vbwsao.inr
      rw [decide_eq_true (by omega),decide_eq_true (by omega)]
      rfl
     ·exact hin j (by omega)
  ·rintro σ H1 ⟨s1,hin,v2,v3,v4,rfl⟩
   rw [List.length_map] at hin
   have k1:=k _ s1
   have e:eachW ns rs=true:=by
    unfold eachW
    rw [List.all_eq_true]
    exact fun j hj=>hin j (List.mem_range.mp hj)
   rw [e] at k1
   exact k1
end
section
variable {P:Program} {w:World} {K:PySem.W.Frag} {mg:Str→Option Value} {base:Heap}
theorem j6:FnScope ["call","shape","group"] ["call"] (defScope qv):=⟨rfl,rfl,rfl,by decide +kernel,rfl,by decide +kernel,by decide +kernel⟩
def kx (T:Prog K mg):Sp:=fun vs H Q _=>∃ (a dx pl rw:Addr) (p:Int) (plain row:List Int) (rs:List (Int × Int)),vs=[.ref a]∧H a=some (.ins T.kCall.C dx (fsCall p pl rw))∧H pl=some (.lst (plain.map V.int))∧H rw=some (.lst (row.map V.int))∧plainR.lookup p=some rs∧plain.length=rs.length ∧
 ∀ H',Same H H'→Q (.bl (rngOk p plain row)) H'
theorem rowR_pos {p:Int} {x:Int × Int × List (Int × Int)} (h:rowR.lookup p=some x):0<x.2.2.length:=by
 have key:∀ y∈rowR,0<y.2.2.2.length:=by decide +kernel
 have:∀ (l:List (Int × Int × Int × List (Int × Int))),(∀ y∈l,0<y.2.2.2.length)→l.lookup p=some x→0<x.2.2.length:=by
  intro l
  induction l with
  | nil=>intro _ h;cases h
  | cons y l ih=>
   intro hl h
   have h':List.lookup p ((y.1,y.2) :: l)=some x:=h
   rw [List.lookup_cons] at h'
   cases e:(p == y.1) with
   | true=>
    rw [e] at h'
    have e2:y.2=x:=Option.some.inj h'
    subst e2
    exact hl y List.mem_cons_self
   | false=>
    rw [e] at h'
    exact ih (fun z hz=>hl z (List.mem_cons_of_mem _ hz)) h'
 exact this rowR key h
theorem rng_out {p:Int} {plain row:List Int} {rs:List (Int × Int)} (h:plainR.lookup p=some rs) (e:eachW plain rs=false):rngOk p plain row=false:=by
 unfold rngOk
 rw [h]
 show (eachW plain rs&&_)=false
 rw [e]
 rfl
theorem rng_none {p:Int} {plain row:List Int} {rs:List (Int × Int)} (h:plainR.lookup p=some rs) (hr:rowR.lookup p=none):rngOk p plain row=eachW plain rs:=by
 unfold rngOk
 rw [h,hr]
 show (eachW plain rs&&true)=_
 rw [Bool.and_true]
theorem rng_some {p:Int} {plain row:List Int} {rs:List (Int × Int)} {x:Int × Int × List (Int × Int)} (h:plainR.lookup p=some rs) (hr:rowR.lookup p=some x):rngOk p plain row=(eachW plain rs&&rowOk row x):=by
 unfold rngOk
 rw [h,hr]
 rfl
theorem kQ (T:Prog K mg):FnOk P w K mg base CX0 2 T.within_ranges.f T.within_ranges.fd ["call"] (kx T):=by
 refine T.within_ranges.fn.ok j6 (fun vs H Q E h=>?_) (fun cdv A outer s H vs Q E hr h=>?_)
 ·obtain ⟨a,dx,pl,rw,p,plain,row,rs,rfl,_⟩:=h
  rfl
 ·obtain ⟨a,dx,pl,rw,p,plain,row,rs,rfl,e1,hpl,hrw,hrs,hlen,k⟩:=h
  have hu:=hu_of hr
  obtain ⟨m1,md1,k1⟩:=Qq T
  obtain ⟨m2,md2,k2n,k2⟩:=row_md T
  obtain ⟨ra,hra,rra⟩:=k1 p rs hrs
  refine ⟨_,(za (zB (yJ (zN (zi (yN T) (hr.mono (by decide)) rfl T.each_within.at_ T.each_within.fn.kp T.each_within.b .nil pass0 (zc (zd (K:=K) rfl (pv 0) rfl) (zc (xg (K:=K) rfl hu (zA (v:=.ref T.PLAIN_RANGES.d) rfl T.PLAIN_RANGES.at_ rfl) (zd (K:=K) rfl (pv 0) rfl) (fun _ _=>rfl)) zb))))) (ze (zm qU)) zp)
   (za (zB (pt_cmp (WE (K:=K) rfl hu (zd (K:=K) rfl (pv 0) rfl) (zA (v:=.ref T.ROW_RANGES.d) rfl T.ROW_RANGES.at_ rfl))) (ze (zm qU)) zp)
   (za (zt (i:=1) j6.nd rfl (by first | exact Or.inl rfl | exact Or.inr rfl) (xg (K:=K) rfl hu (zA (v:=.ref T.ROW_RANGES.d) rfl T.ROW_RANGES.at_ rfl) (zd (K:=K) rfl (pv 0) rfl) (fun _ _=>rfl)))
   (za (zt (i:=2) j6.nd rfl (by first | exact Or.inl rfl | exact Or.inr rfl) (zv (yh (K:=K) rfl) (pv 1) zj (fun _ _=>rfl)))
   (za (zB (PW.pt (q5 (zq Zv (zr (zo (K:=K) rfl) (by rfl) T.b_len zQ (zc (zd (K:=K) rfl (pv 0) rfl) zb)) (zv (yh (K:=K) rfl) (pv 1) zj (fun _ _=>rfl)) (nomark _)) (q5 (zq qC (zr (zo (K:=K) rfl) (by rfl) T.b_len zQ (zc (zd (K:=K) rfl (pv 0) rfl) zb)) (zv (yh (K:=K) rfl) (pv 1) zj (fun _ _=>rfl)) (nomark _)) (qS (zq op_ne (zI op_mod (zr (zo (K:=K) rfl) (by rfl) T.b_len zQ (zc (zd (K:=K) rfl (pv 0) rfl) zb)) (zr (zo (K:=K) rfl) (by rfl) T.b_len zQ (zc (pv 2) zb))) zj (nomark _)))))) (ze (zm qU)) zp)
   (ze (zm (zi (yN T) (hr.mono (by decide)) rfl T.each_within.at_ T.each_within.fn.kp T.each_within.b .nil pass0 (zc (zd (K:=K) rfl (pv 0) rfl) (zc (pv 2) zb)))))))))),?_⟩
  refine ⟨_,rfl,wG T e1 ⟨_,rfl,zD T e1 ⟨_,m1,p,_,rfl,rfl,md1,hra,pl,ra,plain,rs,rfl,hpl,rra,fun h=>by rw [h] at hlen;exact List.eq_nil_of_length_eq_zero hlen,fun H1 s1=>⟨_,rfl,zx (p:=!eachW plain rs) rfl (fun e=>?_) (fun e=>?_)⟩⟩⟩⟩
  ·have q:=k H1 s1
   rw [rng_out hrs (by simpa using e)] at q
   exact q
  ·have e':eachW plain rs=true:=by simpa using e
   have e11:=s1 _ _ e1
   have hrw1:=s1 _ _ hrw
   cases hrow:rowR.lookup p with
   | none=>
    rw [rng_none hrs hrow] at k
    refine ⟨_,rfl,zD T e11 ⟨_,m2,p,rfl,rfl,md2,_,rfl,?_⟩⟩
    rw [k2n p hrow]
    refine iteT ?_
    have q:=k H1 s1
    rw [e'] at q
    exact q
   | some x=>
    rw [rng_some hrs hrow,e',Bool.true_and] at k
    obtain ⟨sa,hsa,c,hsc,rgc⟩:=k2 p x hrow
    have hpos:=rowR_pos hrow
    obtain ⟨bs,hbl,hbs,hbp⟩:=id rgc
    have hR:∀ b:Bool,rowOk row x=b→∀ H',Same H H'→Q (.bl b) H':=fun b hb H' s'=>by
     have q:=k H' s'
     rw [hb] at q
     exact q
    refine ⟨_,rfl,zD T e11 ⟨_,m2,p,rfl,rfl,md2,_,rfl,?_⟩⟩
    rw [hsa]
    refine iteF ?_
    refine ⟨_,rfl,zD T e11 ⟨_,m2,p,_,rfl,rfl,md2,hsa,?_⟩⟩
    refine ⟨_,rfl,sa,_,_,_,rfl,rfl,hsc _,rfl,?_⟩
    have el:((row.map V.int).length:Int)=(row.length:Int):=by rw [List.length_map]
    have eg:((bs.map V.ref).length:Int)=(x.2.2.length:Int):=by rw [List.length_map,hbl]
    refine ⟨_,rfl,vF T e11 ⟨rw,_,rfl,.inl (SqL.of hrw1),_,rfl,sa,_,_,_,rfl,rfl,hsc _,rfl,_,_,rfl,rfl,_,rfl,zx (p:=decide ((row.length:Int)<x.1)) (by rw [el]) (fun e2=>iteT (hR false ?_ H1 s1)) (fun e2=>?_)⟩⟩
    ·unfold rowOk
     rw [e2]
     rfl
    refine ⟨_,rfl,vF T e11 ⟨rw,_,rfl,.inl (SqL.of hrw1),_,rfl,sa,_,_,_,rfl,rfl,hsc _,rfl,_,_,rfl,rfl,_,rfl,zx (p:=decide (x.2.1<(row.length:Int))) (by rw [el]) (fun e3=>iteT (hR false ?_ H1 s1)) (fun e3=>?_)⟩⟩
    ·unfold rowOk
     rw [e2,e3]
     rfl
    refine ⟨_,rfl,vF T e11 ⟨rw,_,rfl,.inl (SqL.of hrw1),_,rfl,c,_,rfl,.inr (hbs _),_,_,rfl,rfl,?_,?_⟩⟩
    ·rw [eg]
     omega
    refine ⟨rfl,_,rfl,zx (p:=!decide (row.length % x.2.2.length=0)) ?_ (fun e4=>hR false ?_ H1 s1) (fun e4=>?_)⟩
    ·rw [el,eg]
     congr 1
     refine decide_eq_decide.mpr ⟨fun z=>?_,fun z=>?_⟩
     ·injection z with z
      omega
     ·show V.int ((row.length:Int) % (x.2.2.length:Int))=V.int 0
      rw [← Int.natCast_emod,z]
      rfl
    ·unfold rowOk
     rw [e2,e3]
     have e4':decide (row.length % x.2.2.length=0)=false:=by
      cases h9:decide (row.length % x.2.2.length=0) with
      | true=>rw [h9] at e4;cases e4
      | false=>rfl
     rw [e4']
     rfl
    ·have e4':decide (row.length % x.2.2.length=0)=true:=by
      cases h9:decide (row.length % x.2.2.length=0) with
      | true=>rfl
      | false=>rw [h9] at e4;cases e4
     refine ⟨_,rfl,vF T e11 ⟨_,rfl,rw,c,row,x.2.2,rfl,hrw1,rgc,(fun h=>by rw [h] at hpos;cases hpos),fun H2 s2=>hR _ ?_ H2 (s1.trans s2)⟩⟩
     unfold rowOk
     rw [e2,e3,e4']
     rfl
theorem Jf:FnScope ["self"] ["self"] (defScope yD):=⟨rfl,rfl,rfl,by decide +kernel,rfl,by decide +kernel,by decide +kernel⟩
def Z5 (T:Prog K mg):Sp:=fun vs H Q _=>∃ (p dx:Addr),vs=[.ref p]∧H p=some (.ins T.kState.C dx [])∧∀ H' A,A.st=p→StAt T H' A Vbwsao.start→But p H H'→Q .non H'
theorem Jv (T:Prog K mg):FnOk P w K mg base CX0 1 T.kState.f T.kState.fd ["self"] (Z5 T):=by
 refine T.kState.fn.ok Jf (fun vs H Q E h=>?_) (fun cdv A outer s H vs Q E hr h=>?_)
 ·obtain ⟨p,dx,rfl,_⟩:=h
  rfl
 ·obtain ⟨p,dx,rfl,hp,k⟩:=h
  refine ⟨_,(za (zC (K:=K) rfl (pv 0) (zu zb) rfl)
   (za (zC (K:=K) rfl (pv 0) (zu zb) rfl)
   (za (zC (K:=K) rfl (pv 0) (zu zb) rfl)
   (za (zC (K:=K) rfl (pv 0) (zu zb) rfl)
   (za (zC (K:=K) rfl (pv 0) zj rfl)
   (ze (zC (K:=K) rfl (pv 0) zj rfl))))))),?_⟩
  refine ⟨Nat.zero_le _,fun gl hgl=>?_⟩
  have n1:p≠gl:=zn hp hgl
  refine ⟨_,rfl,p,_,dx,_,rfl,(by rw [zl n1];exact hp),T.kState.cl,T.kState.no _ (List.mem_of_getElem? (i:=0) rfl),(by show 0<1000;decide),Nat.zero_le _,fun rl hrl=>?_⟩
  have b1:=((But.refl (p:=p) H).new hgl (o:=.lst [])).upd (o:=.ins T.kState.C dx (putF "goods" (.ref gl) []))
  have n2:p≠rl:=zn zf hrl
  have g1:(L2.upd (L2.upd H gl (.lst [])) p (.ins T.kState.C dx (putF "goods" (.ref gl) []))) gl=some (.lst []):=by rw [zl (Ne.symm n1),zf]
  generalize hH1:L2.upd (L2.upd H gl (.lst [])) p (.ins T.kState.C dx (putF "goods" (.ref gl) []))=H1 at hrl b1 g1
  have p1:H1 p=some (.ins T.kState.C dx (putF "goods" (.ref gl) [])):=by rw [← hH1,zf]
  refine ⟨_,rfl,p,_,dx,_,rfl,(by rw [zl n2];exact p1),T.kState.cl,T.kState.no _ (List.mem_of_getElem? (i:=1) rfl),(by show 1<1000;decide),Nat.zero_le _,fun bl hbl=>?_⟩
  have b2:=(b1.new hrl (o:=.lst [])).upd (o:=.ins T.kState.C dx (putF "recipes" (.ref rl) (putF "goods" (.ref gl) [])))
  have m12:gl≠rl:=zn g1 hrl
  have n3:p≠bl:=zn zf hbl
  have g2:(L2.upd (L2.upd H1 rl (.lst [])) p (.ins T.kState.C dx (putF "recipes" (.ref rl) (putF "goods" (.ref gl) [])))) gl=some (.lst []):=by rw [zl (Ne.symm n1),zl m12,g1]
  have r2:(L2.upd (L2.upd H1 rl (.lst [])) p (.ins T.kState.C dx (putF "recipes" (.ref rl) (putF "goods" (.ref gl) [])))) rl=some (.lst []):=by rw [zl (Ne.symm n2),zf]
  generalize hH2:L2.upd (L2.upd H1 rl (.lst [])) p (.ins T.kState.C dx (putF "recipes" (.ref rl) (putF "goods" (.ref gl) [])))=H2 at hbl b2 g2 r2
  have p2:H2 p=some (.ins T.kState.C dx (putF "recipes" (.ref rl) (putF "goods" (.ref gl) []))):=by rw [← hH2,zf]
  refine ⟨_,rfl,p,_,dx,_,rfl,(by rw [zl n3];exact p2),T.kState.cl,T.kState.no _ (List.mem_of_getElem? (i:=2) rfl),(by show 2<1000;decide),Nat.zero_le _,fun ml hml=>?_⟩
  have b3:=(b2.new hbl (o:=.lst [])).upd (o:=.ins T.kState.C dx (putF "bags" (.ref bl) (putF "recipes" (.ref rl) (putF "goods" (.ref gl) []))))
  have m13:gl≠bl:=zn g2 hbl
  have m23:rl≠bl:=zn r2 hbl
  have n4:p≠ml:=zn zf hml
  have g3:(L2.upd (L2.upd H2 bl (.lst [])) p (.ins T.kState.C dx (putF "bags" (.ref bl) (putF "recipes" (.ref rl) (putF "goods" (.ref gl) []))))) gl=some (.lst []):=by rw [zl (Ne.symm n1),zl m13,g2]
  have r3:(L2.upd (L2.upd H2 bl (.lst [])) p (.ins T.kState.C dx (putF "bags" (.ref bl) (putF "recipes" (.ref rl) (putF "goods" (.ref gl) []))))) rl=some (.lst []):=by rw [zl (Ne.symm n2),zl m23,r2]
  have c3:(L2.upd (L2.upd H2 bl (.lst [])) p (.ins T.kState.C dx (putF "bags" (.ref bl) (putF "recipes" (.ref rl) (putF "goods" (.ref gl) []))))) bl=some (.lst []):=by rw [zl (Ne.symm n3),zf]
  generalize hH3:L2.upd (L2.upd H2 bl (.lst [])) p (.ins T.kState.C dx (putF "bags" (.ref bl) (putF "recipes" (.ref rl) (putF "goods" (.ref gl) []))))=H3 at hml b3 g3 r3 c3
  have p3:H3 p=some (.ins T.kState.C dx (putF "bags" (.ref bl) (putF "recipes" (.ref rl) (putF "goods" (.ref gl) [])))):=by rw [← hH3,zf]
  have m14:gl≠ml:=zn g3 hml
  have m24:rl≠ml:=zn r3 hml
  have m34:bl≠ml:=zn c3 hml
  have b4:=(((b3.new hml (o:=.lst [])).upd (o:=.ins T.kState.C dx (putF "machines" (.ref ml) (putF "bags" (.ref bl) (putF "recipes" (.ref rl) (putF "goods" (.ref gl) [])))))).upd (o:=.ins T.kState.C dx (putF "paid" (.int 0) (putF "machines" (.ref ml) (putF "bags" (.ref bl) (putF "recipes" (.ref rl) (putF "goods" (.ref gl) []))))))).upd (o:=.ins T.kState.C dx (putF "ticks" (.int 0) (putF "paid" (.int 0) (putF "machines" (.ref ml) (putF "bags" (.ref bl) (putF "recipes" (.ref rl) (putF "goods" (.ref gl) [])))))))
  refine ⟨_,rfl,p,_,dx,_,rfl,(by rw [zl n4];exact p3),T.kState.cl,T.kState.no _ (List.mem_of_getElem? (i:=3) rfl),(by show 3<1000;decide),
   _,rfl,p,_,dx,_,rfl,zf,T.kState.cl,T.kState.no _ (List.mem_of_getElem? (i:=4) rfl),(by show 4<1000;decide),
   _,rfl,p,_,dx,_,rfl,zf,T.kState.cl,T.kState.no _ (List.mem_of_getElem? (i:=5) rfl),(by show 5<1000;decide),
   k _ ⟨p,gl,rl,bl,ml,[],[],[],[]⟩ rfl ⟨⟨dx,zf⟩,⟨?_,rfl,fun j a x h=>by simp at h⟩,⟨?_,rfl,fun j a x h=>by simp at h⟩,⟨?_,rfl,fun j a x h=>by simp at h⟩,⟨?_,rfl,fun j a x h=>by simp at h⟩,rfl,List.nodup_nil,List.nodup_nil,?_⟩ b4⟩
  ·show (L2.upd _ p _) gl=some (.lst [])
   rw [zl (Ne.symm n1),zl (Ne.symm n1),zl (Ne.symm n1),zl m14]
   exact g3
  ·show (L2.upd _ p _) rl=some (.lst [])
   rw [zl (Ne.symm n2),zl (Ne.symm n2),zl (Ne.symm n2),zl m24]
   exact r3
  ·show (L2.upd _ p _) bl=some (.lst [])
   rw [zl (Ne.symm n3),zl (Ne.symm n3),zl (Ne.symm n3),zl m34]
   exact c3
  ·show (L2.upd _ p _) ml=some (.lst [])
   rw [zl (Ne.symm n4),zl (Ne.symm n4),zl (Ne.symm n4),zf]
  ·show [gl,rl,bl,ml].Nodup
   simp [m12,m13,m14,m23,m24,m34]
end
theorem Yx {a b c:List V} {lo hi:Int} (hlo:lo=((a.length:Nat):Int)) (hhi:hi=((a.length+b.length:Nat):Int)):cutV (a++(b++c)) (some lo) (some hi)=b:=by
 subst hlo hhi
 unfold cutV
 rw [HT.sIx_nat,HT.sIx_nat,List.length_append,List.length_append,Nat.min_eq_left (by omega),Nat.min_eq_left (by omega),List.drop_left,show a.length+b.length - a.length=b.length by omega,List.take_left]
theorem u9:∀ (cs:List (List (List Int))) (i:Nat) (c:List (List Int)),cs[i]? = some c→PyFlat.put cs=PyFlat.put (cs.take i)++(PyFlat.put1 c++PyFlat.put (cs.drop (i+1)))∧PyFlat.put (cs.take (i+1))=PyFlat.put (cs.take i)++PyFlat.put1 c
 | [],i,c,h=>by simp at h
 | d :: cs,0,c,h=>by
  have e:d=c:=Option.some.inj h
  subst e
  refine ⟨rfl,?_⟩
  show PyFlat.put1 d++PyFlat.put (List.take 0 cs)=[]++PyFlat.put1 d
  rw [List.take_zero]
  show PyFlat.put1 d++[]=_
  rw [List.append_nil]
  rfl
 | d :: cs,i+1,c,h=>by
  obtain ⟨h1,h2⟩:=u9 cs i c h
  refine ⟨?_,?_⟩
  ·show PyFlat.put1 d++PyFlat.put cs=(PyFlat.put1 d++PyFlat.put (cs.take i))++_
   rw [h1,List.append_assoc]
   rfl
  ·show PyFlat.put1 d++PyFlat.put (cs.take (i+1))=(PyFlat.put1 d++PyFlat.put (cs.take i))++_
   rw [h2,List.append_assoc]
section
variable {P:Program} {w:World} {K:PySem.W.Frag} {mg:Str→Option Value} {base:Heap}
def CallAt (T:Prog K mg) (L:List Addr) (H:Hp) (a:Addr) (c:List (List Int)):Prop:=∃ p plain row d dx pl rw,CIs c p plain row d∧H a=some (.ins T.kCall.C dx (fsCall p pl rw))∧pl∉L∧rw∉L∧H pl=some (.lst (plain.map V.int))∧H rw=some (.lst (row.map V.int))
theorem CallAt.frm {T:Prog K mg} {L κ M:List Addr} {H H':Hp} {a:Addr} {c:List (List Int)} (h:CallAt T L H a c) (f:Frm κ M H H') (n:T.kCall.C∉κ) (hM:∀ x∈M,x∈L):CallAt T L H' a c:=by
 obtain ⟨p,plain,row,d,dx,pl,rw,C,e1,n1,n2,e2,e3⟩:=h
 exact ⟨p,plain,row,d,dx,pl,rw,C,f.ins e1 n,n1,n2,f.lst e2 (fun m=>n1 (hM _ m)),f.lst e3 (fun m=>n2 (hM _ m))⟩
theorem zO:FnScope ["numbers","found","at","number","behind","plain","row"] ["numbers"] (defScope j8):=⟨rfl,rfl,rfl,by decide +kernel,rfl,by decide +kernel,by decide +kernel⟩
def vR (T:Prog K mg):Sp:=fun vs H Q _=>∃ (l:Addr) (cs:List (List (List Int))) (L:List Addr),vs=[.ref l]∧SqL K H l ((PyFlat.put cs).map V.int)∧(∀ c∈cs,∃ p plain row d,CIs c p plain row d)∧cs.length≤200∧(∀ x∈L,∃ o,H x=some o) ∧
 ∀ q as H',Same H H'→H q=none→LsAt H' q as cs (CallAt T L H')→Q (.ref q) H'
theorem kg (T:Prog K mg):FnOk P w K mg base CX0 3 T.cut_into_calls.f T.cut_into_calls.fd ["numbers"] (vR T):=by
 refine T.cut_into_calls.fn.ok zO (fun vs H Q E h=>?_) (fun cdv A outer s H vs Q E hr h=>?_)
 ·obtain ⟨l,cs,L,rfl,_⟩:=h
  rfl
 ·obtain ⟨l,cs,L,rfl,hl,hcs,hcl,hL,k⟩:=h
  have hu:=hu_of hr
  obtain ⟨m1,md1,k1⟩:=Qq T
  obtain ⟨m2,md2,k2n,k2⟩:=row_md T
  have fresh:∀ {H1:Hp} {x:Addr},Same H H1→H1 x=none→x∉L:=fun {H1 x} s1 hx hm=>by
   obtain ⟨o,ho⟩:=hL x hm
   rw [s1 _ _ ho] at hx
   cases hx
  refine ⟨_,(za (zt (i:=1) zO.nd rfl (by first | exact Or.inl rfl | exact Or.inr rfl) (zu zb))
   (za (zt (i:=2) zO.nd rfl (by first | exact Or.inl rfl | exact Or.inr rfl) zj)
   (za (xb PassesOwn.never (zq Zv (pv 2) (zr (zo (K:=K) rfl) (by rfl) T.b_len zQ (zc (pv 0) zb)) (nomark _)) (za (zt (i:=3) zO.nd rfl (by first | exact Or.inl rfl | exact Or.inr rfl) (zv (zk (K:=K) rfl) (pv 0) (pv 2) (fun _ _=>rfl)))
   (za (zt (i:=4) zO.nd rfl (by first | exact Or.inl rfl | exact Or.inr rfl) (zI jf (zI jf (pv 2) zj) (zr (zo (K:=K) rfl) (by rfl) T.b_len zQ (zc (xg (K:=K) rfl hu (zA (v:=.ref T.PLAIN_RANGES.d) rfl T.PLAIN_RANGES.at_ rfl) (pv 3) (fun _ _=>rfl)) zb))))
   (za (zt (i:=5) zO.nd rfl (by first | exact Or.inl rfl | exact Or.inr rfl) (Qt (Qe (K:=K) rfl) (pv 0) (uy (zI jf (pv 2) zj)) (uy (pv 4))))
   (za (zt (i:=6) zO.nd rfl (by first | exact Or.inl rfl | exact Or.inr rfl) (zu zb))
   (za (zB (pt_cmp (pc_mdin (K:=K) rfl hu (pv 3) (zA (v:=.ref T.ROW_RANGES.d) rfl T.ROW_RANGES.at_ rfl))) (za (zt (i:=6) zO.nd rfl (by first | exact Or.inl rfl | exact Or.inr rfl) (Qt (Qe (K:=K) rfl) (pv 0) (uy (zI jf (pv 4) zj)) (uy (zI jf (zI jf (pv 4) zj) (zv (zk (K:=K) rfl) (pv 0) (pv 4) (fun _ _=>rfl))))))
   (ze (zt (i:=4) zO.nd rfl (by first | exact Or.inl rfl | exact Or.inr rfl) (zI jf (zI jf (pv 4) zj) (zr (zo (K:=K) rfl) (by rfl) T.b_len zQ (zc (pv 6) zb)))))) zp)
   (za (zG (qb (K:=K) rfl (pv 1) (yZ T.kCall.made (Qy T) (hr.mono (by decide)) rfl T.kCall.at_ T.kCall.b .nil pass0 (zc (pv 3) (zc (pv 5) (zc (pv 6) zb))))))
   (ze (zt (i:=2) zO.nd rfl (by first | exact Or.inl rfl | exact Or.inr rfl) (pv 4))))))))))
   (ze (zm (pv 1)))))),?_⟩
  refine ⟨Nat.zero_le _,fun q hq=>?_⟩
  have hqL:q∉L:=fresh (Same.refl _) hq
  have s0:Same H (L2.upd H q (.lst [])):=zM hq
  refine JM (fun σ H'=>Same H H'∧∃ (i:Nat) (as:List Addr),i≤cs.length∧LsAt H' q as (cs.take i) (CallAt T (q :: L) H')∧∃ v3 v4 v5 v6,σ=[some (.ref l),some (.ref q),some (.int ((PyFlat.put (cs.take i)).length:Int)),v3,v4,v5,v6])
   (fun (σ:St) (_:Hp)=>match σ[2]? with | some (some (V.int z))=>(PyFlat.put cs).length - z.toNat | _=>0) ⟨s0,0,[],Nat.zero_le _,⟨zf,rfl,fun j a x h=>by simp at h⟩,_,_,_,_,rfl⟩ ?_ ?_
  ·rintro σ H1 ⟨s1,i,as,hi,hls,v3,v4,v5,v6,rfl⟩
   have hl1:=s1.seq hl
   have hlen:(((PyFlat.put cs).map V.int).length:Int)=((PyFlat.put cs).length:Int):=by rw [List.length_map]
   refine ⟨_,rfl,_,rfl,l,_,rfl,.inl hl1,_,_,rfl,rfl,_,rfl,zx (p:=decide (i<cs.length)) ?_ (fun e=>?_) (fun e=>?_)⟩
   ·rw [hlen]
    refine decide_eq_decide.mpr ⟨fun h=>?_,fun h=>?_⟩
    ·by_cases q2:i<cs.length
     ·exact q2
     ·rw [List.take_of_length_le (by omega)] at h
      omega
    ·obtain ⟨e1,_⟩:=u9 cs i cs[i] (List.getElem?_eq_getElem h)
     obtain ⟨p,plain,row,d,C⟩:=hcs cs[i] (List.getElem_mem h)
     have e2:=congrArg List.length e1
     rw [List.length_append,List.length_append] at e2
     have e3:1≤(PyFlat.put1 cs[i]).length:=by
      rw [C.e]
      unfold mkC
      split
      ·show 1≤((p :: plain)++_).length
       simp
      ·show 1≤((p :: plain)++_).length
       simp
     omega
   ·have hic:=of_decide_eq_true e
    obtain ⟨c,hc⟩:∃ c,cs[i]? = some c:=⟨_,List.getElem?_eq_getElem hic⟩
    obtain ⟨e1,e2⟩:=u9 cs i c hc
    obtain ⟨p,plain,row,d,C⟩:=hcs c (List.mem_of_getElem? hc)
    obtain ⟨rs,hrs,hpl⟩:=C.rs
    obtain ⟨ra,hra,bs,hbl,hbs,hbp⟩:=k1 p rs hrs
    have eb:((bs.map V.ref).length:Int)=(plain.length:Int):=by rw [List.length_map,hbl,hpl]
    generalize hpre:PyFlat.put (cs.take i)=pre at e1 e2
    generalize hpost:PyFlat.put (cs.drop (i+1))=post at e1
    obtain ⟨rows,ec1⟩:∃ rows,PyFlat.put1 c=(p :: plain)++rows:=by
     rw [C.e]
     unfold mkC
     split
     ·exact ⟨_,rfl⟩
     ·exact ⟨_,rfl⟩
    have eL:(PyFlat.put cs).map V.int=(pre++[p]).map V.int++(plain.map V.int++(rows++post).map V.int):=by
     rw [e1,ec1]
     simp
    have eL0:((PyFlat.put cs).map V.int)[pre.length]? = some (V.int p):=by
     rw [eL]
     simp
    have hl1':=hl1
    rw [eL] at hl1'
    refine ⟨_,rfl,_,rfl,l,_,_,_,rfl,rfl,hl1,yk eL0,?_⟩
    refine ⟨_,rfl,_,_,rfl,rfl,_,rfl,_,m1,p,_,rfl,rfl,md1,hra,ra,_,rfl,.inr (hbs _),_,_,rfl,rfl,?_⟩
    rw [eb]
    have ebh:(pre.length:Int)+1+(plain.length:Int)=((pre.length+1+plain.length:Nat):Int):=by omega
    show gName 4 (.int ((pre.length:Int)+1+(plain.length:Int))) _ _ _
    rw [ebh]
    refine ⟨_,rfl,_,rfl,_,_,rfl,rfl,_,rfl,_,rfl,_,rfl,l,_,rfl,hl1',fun pl hpl1=>?_⟩
    rw [Yx (by simp) (by simp)]
    have s2:=zM (o:=.lst (plain.map V.int)) hpl1
    have hpl2:(L2.upd H1 pl (.lst (plain.map V.int))) pl=some (.lst (plain.map V.int)):=zf
    have hplL:pl∉q :: L:=fun hm=>by
     rcases List.mem_cons.mp hm with rfl | hm
     ·rw [hls.1] at hpl1;cases hpl1
     ·exact fresh s1 hpl1 hm
    generalize hH2:L2.upd H1 pl (.lst (plain.map V.int))=H2 at s2 hpl2
    have callsSame:∀ {Ha Hb:Hp},LsAt Ha q as (cs.take i) (CallAt T (q :: L) Ha)→Same Ha Hb→LsAt Hb q as (cs.take i) (CallAt T (q :: L) Hb):=fun {Ha Hb} h sab=>h.imp (sab _ _ h.1) fun a x hx=>hx.frm (κ:=[]) (M:=[]) (zy sab) (by simp) (by simp)
    refine ⟨Nat.zero_le _,fun rw0 hrw0=>?_⟩
    have s3:=zM (o:=.lst []) hrw0
    have hrw3:(L2.upd H2 rw0 (.lst [])) rw0=some (.lst []):=zf
    have s13:=(s1.trans s2).trans s3
    have hls3:=callsSame (callsSame hls s2) s3
    have hpl3:=s3 _ _ hpl2
    have hrw0L:rw0∉q :: L:=fun hm=>by
     rcases List.mem_cons.mp hm with rfl | hm
     ·rw [s2 _ _ hls.1] at hrw0;cases hrw0
     ·exact fresh (s1.trans s2) hrw0 hm
    generalize hH3:L2.upd H2 rw0 (.lst [])=H3 at s3 hrw3 s13 hls3 hpl3
    have npq:pl≠q:=fun z=>hplL (by rw [z];exact List.mem_cons_self)
    have mono:∀ (zz:Nat),pre.length<zz→zz≤(PyFlat.put cs).length→(PyFlat.put cs).length - ((zz:Nat):Int).toNat<(PyFlat.put cs).length - ((pre.length:Nat):Int).toNat:=fun zz h1 h2=>by omega
    cases hrow:rowR.lookup p with
    | none=>
     have erow:row=[]:=C.nr hrow
     have ec2:PyFlat.put1 c=p :: plain:=by
      rw [C.e]
      unfold mkC
      rw [hrow]
      show (p :: plain)++[]=_
      rw [List.append_nil]
     refine ⟨_,rfl,_,m2,p,rfl,rfl,md2,_,rfl,?_⟩
     rw [k2n p hrow]
     refine iteF ?_
     refine ⟨_,rfl,.inl ⟨rfl,_,SqL.of hls3.1⟩,_,rfl,_,rfl,_,rfl,fun y dy ny ndy ney=>⟨y,dy,p,pl,rw0,rfl,zf,fun H6 h6 but=>⟨rfl,?_⟩⟩⟩
     have s6:=but.same ny ndy
     have hq6:=callsSame hls3 s6
     have nrq:rw0≠q:=fun z=>hrw0L (by rw [z];exact List.mem_cons_self)
     refine ⟨q,_,_,rfl,rfl,hq6.1,by rw [List.length_map,hq6.2.1,List.length_take];exact small (m:=1000) (by omega),?_⟩
     have f7:Frm [] [q] H6 (L2.upd H6 q (.lst (as.map V.ref++[.ref y]))):=jv hq6.1 (by simp)
     have hlen2:(PyFlat.put (cs.take (i+1))).length=pre.length+1+plain.length:=by
      rw [e2,ec2]
      simp
      omega
     have hlen3:(PyFlat.put (cs.take (i+1))).length≤(PyFlat.put cs).length:=by
      rw [e2,e1]
      simp
     refine ⟨_,rfl,⟨yU (s13.trans s6) f7 (by simp [hq]),i+1,as++[y],by omega,?_,some (V.int p),some (V.int ((pre.length+1+plain.length:Nat):Int)),some (V.ref pl),some (V.ref rw0),?_⟩,?_⟩
     ·rw [zZ hc]
      exact y4 hq6 zf (fun b z h=>h.frm f7 (by simp) (by simp)) ⟨p,plain,row,d,dy,pl,rw0,C,f7.ins h6 (by simp),hplL,hrw0L,f7.lst (s6 _ _ hpl3) (by simp;exact npq),by rw [erow];exact f7.lst (s6 _ _ hrw3) (by simp;exact nrq)⟩
     ·rw [hlen2]
      rfl
     ·rw [← hlen2]
      exact mono _ (by rw [hlen2];omega) hlen3
    | some x=>
     obtain ⟨sa,hsa,c3,hsc,rgc⟩:=k2 p x hrow
     have ec2:PyFlat.put1 c=(p :: plain)++((row.length:Int) :: row):=by
      rw [C.e]
      unfold mkC
      rw [hrow]
      show (p :: plain)++(((row.length:Int) :: row)++[])=_
      rw [List.append_nil]
     have hl3:=s13.seq hl
     have eR:(PyFlat.put cs).map V.int=(pre++(p :: plain)++[(row.length:Int)]).map V.int++(row.map V.int++post.map V.int):=by
      rw [e1,ec2]
      simp
     have eR0:((PyFlat.put cs).map V.int)[pre.length+1+plain.length]? = some (V.int (row.length:Int)):=by
      have e9:(PyFlat.put cs).map V.int=(pre++(p :: plain)).map V.int++(V.int (row.length:Int) :: (row.map V.int++post.map V.int)):=by
       rw [e1,ec2]
       simp
      rw [e9,List.getElem?_append_right (by simp;omega)]
      rw [show pre.length+1+plain.length - ((pre++(p :: plain)).map V.int).length=0 by simp;omega]
      rfl
     have hl3':=hl3
     rw [eR] at hl3'
     refine ⟨_,rfl,_,m2,p,rfl,rfl,md2,_,rfl,?_⟩
     rw [hsa]
     refine iteT ?_
     refine ⟨_,rfl,_,rfl,_,_,rfl,rfl,_,rfl,_,rfl,_,_,rfl,rfl,_,rfl,_,rfl,l,_,_,_,rfl,rfl,hl3,yk eR0,_,_,rfl,rfl,_,rfl,l,_,rfl,hl3',fun rw1 hrw1=>?_⟩
     rw [Yx (by simp;omega) (by simp;omega)]
     have s4:=zM (o:=.lst (row.map V.int)) hrw1
     have hrw4:(L2.upd H3 rw1 (.lst (row.map V.int))) rw1=some (.lst (row.map V.int)):=zf
     have s14:=s13.trans s4
     have hls4:=callsSame hls3 s4
     have hpl4:=s4 _ _ hpl3
     have hrw1L:rw1∉q :: L:=fun hm=>by
      rcases List.mem_cons.mp hm with rfl | hm
      ·rw [hls3.1] at hrw1;cases hrw1
      ·exact fresh s13 hrw1 hm
     generalize hH4:L2.upd H3 rw1 (.lst (row.map V.int))=H4 at s4 hrw4 s14 hls4 hpl4
     refine ⟨_,rfl,_,_,rfl,rfl,_,rfl,rw1,_,rfl,.inl (SqL.of hrw4),_,_,rfl,rfl,?_⟩
     have er4:((row.map V.int).length:Int)=(row.length:Int):=by rw [List.length_map]
     rw [er4]
     have ebz:((pre.length+1+plain.length:Nat):Int)+1+(row.length:Int)=((pre.length+1+plain.length+1+row.length:Nat):Int):=by omega
     show gName 4 (.int (((pre.length+1+plain.length:Nat):Int)+1+(row.length:Int))) _ _ _
     rw [ebz]
     refine ⟨_,rfl,.inl ⟨rfl,_,SqL.of hls4.1⟩,_,rfl,_,rfl,_,rfl,fun y dy ny ndy ney=>⟨y,dy,p,pl,rw1,rfl,zf,fun H6 h6 but=>⟨rfl,?_⟩⟩⟩
     have s6:=but.same ny ndy
     have hq6:=callsSame hls4 s6
     have nrq:rw1≠q:=fun z=>hrw1L (by rw [z];exact List.mem_cons_self)
     refine ⟨q,_,_,rfl,rfl,hq6.1,by rw [List.length_map,hq6.2.1,List.length_take];exact small (m:=1000) (by omega),?_⟩
     have f7:Frm [] [q] H6 (L2.upd H6 q (.lst (as.map V.ref++[.ref y]))):=jv hq6.1 (by simp)
     have hlen2:(PyFlat.put (cs.take (i+1))).length=pre.length+1+plain.length+1+row.length:=by
      rw [e2,ec2]
      simp
      omega
     have hlen3:(PyFlat.put (cs.take (i+1))).length≤(PyFlat.put cs).length:=by
      rw [e2,e1]
      simp
     refine ⟨_,rfl,⟨yU (s14.trans s6) f7 (by simp [hq]),i+1,as++[y],by omega,?_,some (V.int p),some (V.int ((pre.length+1+plain.length+1+row.length:Nat):Int)),some (V.ref pl),some (V.ref rw1),?_⟩,?_⟩
     ·rw [zZ hc]
      exact y4 hq6 zf (fun b z h=>h.frm f7 (by simp) (by simp)) ⟨p,plain,row,d,dy,pl,rw1,C,f7.ins h6 (by simp),hplL,hrw1L,f7.lst (s6 _ _ hpl4) (by simp;exact npq),by rw [show row.map V.int=row.map V.int from rfl];exact f7.lst (s6 _ _ hrw4) (by simp;exact nrq)⟩
     ·rw [hlen2]
      rfl
     ·rw [← hlen2]
      exact mono _ (by rw [hlen2];omega) hlen3
   ·have hic:=of_decide_eq_false e
    rw [List.take_of_length_le (by omega)] at hls
    exact ⟨_,rfl,k q as H1 s1 hq (hls.imp hls.1 fun a x ⟨p,plain,row,d,dx,pl,rw,C,e1,n1,n2,e2,e3⟩=>⟨p,plain,row,d,dx,pl,rw,C,e1,fun m=>n1 (List.mem_cons_of_mem _ m),fun m=>n2 (List.mem_cons_of_mem _ m),e2,e3⟩)⟩
  ·rintro σ H2 Q1 Q2 hq2 ⟨v,h1,v2,h2,pp,ys,h3,h4,i,j,h5,h6,bb,h7,h8⟩
   exact ⟨v,h1,v2,h2,pp,ys,h3,h4,i,j,h5,h6,bb,h7,hq2 _ _ h8⟩
end
end BM
end
section
namespace BM
open Vbwsao
theorem jX (s:State) (l:List (Int × Bool)) (k:Unit→State × List Int):guarded s l k=k ()∨∃ x,guarded s l k=(s,[x]):=by
 unfold guarded
 split
 ·exact .inr ⟨_,rfl⟩
 ·exact .inl rfl
theorem ZB (l:List (Nat × Nat)):(l.flatMap fun x=>[(x.1:Int),(x.2:Int)]).length=2 * l.length:=by
 induction l with
 | nil=>rfl
 | cons c m ih=>rw [List.flatMap_cons,List.length_append,ih];simp;omega
theorem Vh (l:List Step):(l.flatMap stepNums).length=3 * l.length:=by
 induction l with
 | nil=>rfl
 | cons c m ih=>
  rw [List.flatMap_cons,List.length_append,ih,List.length_cons]
  cases c <;> (show 3+_=_;omega)
theorem Vk {s:State} (I:SInv s) (b:Nat):(bagAt s.bags b).stacks.length≤40:=by
 by_cases h:b<s.bags.length
 ·have hx:s.bags[b]? = some s.bags[b]:=List.getElem?_eq_getElem h
  rw [zK hx]
  exact I.b.stk_len hx
 ·unfold bagAt
  rw [List.getD_eq_getElem?_getD,List.getElem?_eq_none (by omega)]
  exact Nat.zero_le _
theorem plan_len {s:State} (I:SInv s) {x:List (Nat × Nat)} {g n:Nat} {l:List Step} {u:List (Nat × Nat)} (h:plan s.goods s.recipes x g n=some (l,u)):l.length≤1024∧u.length≤1024:=by
 cases hv:costAt (costs s.goods s.recipes) g with
 | none=>
  unfold plan at h
  dsimp only at h
  rw [if_pos (by rw [hv];rfl)] at h
  cases h
 | some v=>
  rw [Zs hv] at h
  have h':=Option.some.inj h
  have h2k:=rk_lt hv
  rw [jl] at h2k
  have hpw:2 ^ rk (costs s.goods s.recipes) v≤2 ^ 10:=Nat.pow_le_pow_right (by omega) (by have:=I.g.len;omega)
  obtain ⟨l1,l2⟩:=ki I.r (s.goods.length+1) g n ((List.range s.goods.length).map (countIn x)) v hv
  have e1:=congrArg Prod.fst h'
  have e2:=congrArg Prod.snd h'
  dsimp only at e1 e2
  rw [e1] at l1
  rw [e2] at l2
  omega
theorem step_len {s:State} (I:SInv s) (d:Call):(step s d).2.length≤6000:=by
 have one:∀ {y:State × List Int} {z:Int},y=(s,[z])→y.2.length≤6000:=fun {y z} h=>by
  rw [h]
  show 1≤6000
  decide
 cases d with
 | plan b g n=>
  unfold step
  dsimp only
  rcases jX s _ _ with h | ⟨x,h⟩
  ·rw [h]
   cases hp:plan s.goods s.recipes (stock s b) g.toNat n.toNat with
   | none=>show 1≤6000;decide
   | some lu=>
    obtain ⟨l,u⟩:=lu
    obtain ⟨h1,h2⟩:=plan_len I hp
    show ([_,_,_,_]++(l.flatMap stepNums++u.flatMap fun (x:Nat × Nat)=>[(x.1:Int),(x.2:Int)])).length≤6000
    rw [List.length_append,List.length_append,Vh,ZB]
    show 4+_≤6000
    omega
  ·exact one h
 | make b g n=>
  unfold step
  dsimp only
  rcases jX s _ _ with h | ⟨x,h⟩
  ·rw [h]
   cases hp:plan s.goods s.recipes (stock s b) g.toNat n.toNat with
   | none=>show 1≤6000;decide
   | some lu=>show 2≤6000;decide
  ·exact one h
 | stacks b=>
  unfold step
  dsimp only
  rcases jX s _ _ with h | ⟨x,h⟩
  ·rw [h]
   show (_ :: (stock s b).flatMap fun (x:Nat × Nat)=>[(x.1:Int),(x.2:Int)]).length≤6000
   have:=Vk I b.toNat
   rw [List.length_cons,ZB]
   unfold stock
   omega
  ·exact one h
 | find g=>
  unfold step
  dsimp only
  rcases jX s _ _ with h | ⟨x,h⟩
  ·rw [h]
   show (_ :: ((List.range s.bags.length).filter fun b=>decide (0<countIn (bagAt s.bags b).stacks g.toNat)).map fun (b:Nat)=>(b:Int)).length≤6000
   have:=List.length_filter_le (fun b=>decide (0<countIn (bagAt s.bags b).stacks g.toNat)) (List.range s.bags.length)
   rw [List.length_range] at this
   have:=I.b.len
   rw [List.length_cons,List.length_map]
   omega
  ·exact one h
 | costs=>
  unfold step
  dsimp only
  rcases jX s _ _ with h | ⟨x,h⟩
  ·rw [h]
   dsimp only
   have h1:(costs s.goods s.recipes).length≤10:=by rw [jl];exact I.g.len
   simp
   omega
  ·exact one h
 | state m=>
  unfold step
  dsimp only
  rcases jX s _ _ with h | ⟨x,h⟩
  ·rw [h]
   split
   ·show 8≤6000;decide
   ·show 1≤6000;decide
  ·exact one h
 | totals=>show 7≤6000;decide
 | _=>
  unfold step
  dsimp only
  rcases jX s _ _ with h | ⟨x,h⟩
  ·rw [h]
   first | (show 1≤6000;decide) | (show 2≤6000;decide) | (show 3≤6000;decide) | (show 4≤6000;decide) | (show 5≤6000;decide)
  ·exact one h
theorem ud {S:Type} (step:S→List (List Int)→S × List Int):∀ (cs:List (List (List Int))) (s:S) (c:List (List Int)),PyFlat.played step s (cs++[c])=PyFlat.played step s cs++[(step (cs.foldl (fun s c=>(step s c).1) s) c).2]
 | [],s,c=>rfl
 | d :: cs,s,c=>by
  show (step s d).2 :: PyFlat.played step (step s d).1 (cs++[c])=_
  rw [ud step cs]
  rfl
theorem YF (l:List (List Int)) (a:List Int):PyFlat.told (l++[a])=PyFlat.told l++((a.length:Int) :: a):=by
 unfold PyFlat.told
 rw [List.flatMap_append]
 simp
def stAfter (cs:List (List (List Int))):State:=cs.foldl (fun s c=>(VbwsaoNeutral.step s c).1) VbwsaoNeutral.start
def toldOf (cs:List (List (List Int))):List Int:=PyFlat.told (PyFlat.played VbwsaoNeutral.step VbwsaoNeutral.start cs)
theorem nstep {s:State} {c:List (List Int)} {d:Call} (h:VbwsaoNeutral.callOf c=some d):VbwsaoNeutral.step s c=step s d:=by
 unfold VbwsaoNeutral.step
 rw [h]
theorem ZX {cs:List (List (List Int))} {c:List (List Int)} {d:Call} (h:VbwsaoNeutral.callOf c=some d):stAfter (cs++[c])=(step (stAfter cs) d).1:=by
 unfold stAfter
 rw [List.foldl_append]
 show (VbwsaoNeutral.step _ c).1=_
 rw [nstep h]
theorem JO {cs:List (List (List Int))} {c:List (List Int)} {d:Call} (h:VbwsaoNeutral.callOf c=some d):toldOf (cs++[c])=toldOf cs++(((step (stAfter cs) d).2.length:Int) :: (step (stAfter cs) d).2):=by
 unfold toldOf
 rw [ud,YF]
 rw [nstep h]
 rfl
def isBag:Call→Bool
 | .bag ..=>true
 | .put ..=>true
 | .take ..=>true
 | .move ..=>true
 | .carry ..=>true
 | .stacks ..=>true
 | .load ..=>true
 | .fits ..=>true
 | _=>false
def isMk:Call→Bool
 | .plan ..=>true
 | .make ..=>true
 | .machine ..=>true
 | .order ..=>true
 | .tick ..=>true
 | .state ..=>true
 | .count ..=>true
 | .find ..=>true
 | _=>false
theorem cis_inv {c:List (List Int)} {p:Int} {plain row:List Int} {d:Call} (C:CIs c p plain row d):invC d p plain row:=C.inv
end BM
end
section
namespace BM
open Vbwsao
def HeadOk (l:List Int):Prop:=∃ z r,l=z :: r∧z≤0
theorem qG {s:State} {l:List (Int × Bool)} {k:Unit→State × List Int} (h:(l.all fun y=>decide (y.1≤0))=true) (hk:HeadOk (k ()).2):HeadOk (guarded s l k).2:=by
 unfold guarded
 split
 ·rename_i x hx
  have h1:=List.mem_of_find?_eq_some hx
  have h2:=of_decide_eq_true (List.all_eq_true.mp h x h1)
  exact ⟨x.1,[],rfl,h2⟩
 ·exact hk
theorem Zm {s:State} (d:Call):HeadOk (step s d).2:=by
 cases d with
 | plan b g n=>
  unfold step
  dsimp only
  refine qG rfl ?_
  cases hp:plan s.goods s.recipes (stock s b) g.toNat n.toNat with
  | none=>exact ⟨0,_,rfl,Int.le_refl 0⟩
  | some lu=>exact ⟨0,_,rfl,Int.le_refl 0⟩
 | make b g n=>
  unfold step
  dsimp only
  refine qG rfl ?_
  cases hp:plan s.goods s.recipes (stock s b) g.toNat n.toNat with
  | none=>exact ⟨0,_,rfl,Int.le_refl 0⟩
  | some lu=>exact ⟨0,_,rfl,Int.le_refl 0⟩
 | state m=>
  unfold step
  dsimp only
  refine qG rfl ?_
  cases hp:s.machines[m.toNat]? with
  | none=>exact ⟨0,_,rfl,Int.le_refl 0⟩
  | some lu=>exact ⟨0,_,rfl,Int.le_refl 0⟩
 | totals=>exact ⟨0,_,rfl,Int.le_refl 0⟩
 | _=>
  unfold step
  dsimp only
  exact qG rfl ⟨0,_,rfl,Int.le_refl 0⟩
theorem Zi (cs:List (List (List Int))) (h:∀ c∈cs,∃ d,VbwsaoNeutral.callOf c=some d):cs=[]∧toldOf cs=[]∨∃ z r,toldOf cs=z :: r∧1≤z:=by
 cases cs with
 | nil=>exact .inl ⟨rfl,rfl⟩
 | cons c cs=>
  right
  obtain ⟨d,hd⟩:=h c List.mem_cons_self
  obtain ⟨z,r,e,_⟩:=Zm (s:=VbwsaoNeutral.start) d
  refine ⟨((VbwsaoNeutral.step VbwsaoNeutral.start c).2.length:Int),(VbwsaoNeutral.step VbwsaoNeutral.start c).2++PyFlat.told (PyFlat.played VbwsaoNeutral.step (VbwsaoNeutral.step VbwsaoNeutral.start c).1 cs),rfl,?_⟩
  rw [nstep hd,e,List.length_cons]
  omega
theorem YI:SInv start:=⟨⟨by decide,fun x hx=>(List.not_mem_nil hx).elim⟩,⟨by decide,fun x hx=>(List.not_mem_nil hx).elim⟩,⟨by decide,fun b hb=>absurd hb (Nat.not_lt_zero _),fun b hb=>(List.not_mem_nil hb).elim,fun b hb=>(List.not_mem_nil hb).elim,rfl⟩,by decide,fun x hx=>(List.not_mem_nil hx).elim,fun _=>⟨rfl,rfl⟩⟩
theorem WW (d:Call):(step start d).1.recipes=[]∧(step start d).1.bags=[]:=by
 cases h:callIn d with
 | false=>rw [JU h];exact ⟨rfl,rfl⟩
 | true=>
  cases hg:isGoods d with
  | false=>rw [qK h rfl hg];exact ⟨rfl,rfl⟩
  | true=>
   cases d with
   | goods l=>rw [J0 h rfl];exact ⟨rfl,rfl⟩
   | totals=>exact ⟨rfl,rfl⟩
   | _=>cases hg
end BM
end
section
namespace BM
open PySem PySem.Spec L2
open PyProof.Rows hiding St
open Vbwsao (Good Recipe Bag Machine State)
theorem j0 {c:Bool} {A B:Prop} (e:c=true) (h:A):if c=true then A else B:=by rw [if_pos e];exact h
theorem zE {c:Bool} {A B:Prop} (e:c=false) (h:B):if c=true then A else B:=by rw [if_neg (by rw [e];exact Bool.false_ne_true)];exact h
section
variable {P:Program} {w:World} {K:PySem.W.Frag} {mg:Str→Option Value} {base:Heap}
theorem CallOk.mono {T:Prog K mg} {A:Adr} {s:State} {c:Vbwsao.Call} {H H1:Hp} {Q:VK} (k:CallOk T A s c H Q) (s1:Same H H1):CallOk T A s c H1 Q:=fun p H' A' h1 h2 S I hp f=>k p H' A' h1 h2 S I hp ((zy s1).trans f)
theorem vX:FnScope ["state","number","plain"] ["state","number","plain"] (defScope qa):=⟨rfl,rfl,rfl,by decide +kernel,rfl,by decide +kernel,by decide +kernel⟩
def vT (T:Prog K mg):Sp:=fun vs H Q _=>∃ (A:Adr) (s:State) (p:Int) (pl:Addr) (plain row:List Int) (d:Vbwsao.Call),vs=[.ref A.st,.int p,.ref pl]∧StAt T H A s∧SInv s∧s.goods.isEmpty=false∧H pl=some (.lst (plain.map V.int))∧invC d p plain row∧isBag d=true∧callIn d=true∧CallOk T A s d H Q
theorem kh (T:Prog K mg):FnOk P w K mg base CX0 6 T.answer_of_bags.f T.answer_of_bags.fd ["state","number","plain"] (vT T):=by
 refine T.answer_of_bags.fn.ok vX (fun vs H Q E h=>?_) (fun cdv A outer s H vs Q E hr h=>?_)
 ·obtain ⟨A,s,p,pl,plain,row,d,rfl,_⟩:=h
  rfl
 ·obtain ⟨A,st,p,pl,plain,row,d,rfl,S,I,hg,hpl,hinv,hb,hi,k⟩:=h
  refine ⟨_,(za (zB (zq z8 (pv 1) zj (nomark _)) (ze (zm (zi (WG T) (hr.mono (by decide)) rfl T.new_bag.at_ T.new_bag.fn.kp T.new_bag.b .nil pass0 (zc (pv 0) (zc (zv (zk (K:=K) rfl) (pv 2) zj (fun _ _=>rfl)) (zc (zv (zk (K:=K) rfl) (pv 2) zj (fun _ _=>rfl)) (zc (zv (zk (K:=K) rfl) (pv 2) zj (fun _ _=>rfl)) (zc (zv (zk (K:=K) rfl) (pv 2) zj (fun _ _=>rfl)) zb)))))))) zp)
   (za (zB (zq z8 (pv 1) zj (nomark _)) (ze (zm (zi (ok_put T) (hr.mono (by decide)) rfl T.put.at_ T.put.fn.kp T.put.b .nil pass0 (zc (pv 0) (zc (zv (zk (K:=K) rfl) (pv 2) zj (fun _ _=>rfl)) (zc (zv (zk (K:=K) rfl) (pv 2) zj (fun _ _=>rfl)) (zc (zv (zk (K:=K) rfl) (pv 2) zj (fun _ _=>rfl)) zb))))))) zp)
   (za (zB (zq z8 (pv 1) zj (nomark _)) (ze (zm (zi (ok_take T) (hr.mono (by decide)) rfl T.take.at_ T.take.fn.kp T.take.b .nil pass0 (zc (pv 0) (zc (zv (zk (K:=K) rfl) (pv 2) zj (fun _ _=>rfl)) (zc (zv (zk (K:=K) rfl) (pv 2) zj (fun _ _=>rfl)) (zc (zv (zk (K:=K) rfl) (pv 2) zj (fun _ _=>rfl)) zb))))))) zp)
   (za (zB (zq z8 (pv 1) zj (nomark _)) (ze (zm (zi (ok_move T) (hr.mono (by decide)) rfl T.move.at_ T.move.fn.kp T.move.b .nil pass0 (zc (pv 0) (zc (zv (zk (K:=K) rfl) (pv 2) zj (fun _ _=>rfl)) (zc (zv (zk (K:=K) rfl) (pv 2) zj (fun _ _=>rfl)) (zc (zv (zk (K:=K) rfl) (pv 2) zj (fun _ _=>rfl)) (zc (zv (zk (K:=K) rfl) (pv 2) zj (fun _ _=>rfl)) zb)))))))) zp)
   (za (zB (zq z8 (pv 1) zj (nomark _)) (ze (zm (zi (ok_carry T) (hr.mono (by decide)) rfl T.carry.at_ T.carry.fn.kp T.carry.b .nil pass0 (zc (pv 0) (zc (zv (zk (K:=K) rfl) (pv 2) zj (fun _ _=>rfl)) (zc (zv (zk (K:=K) rfl) (pv 2) zj (fun _ _=>rfl)) zb)))))) zp)
   (za (zB (zq z8 (pv 1) zj (nomark _)) (ze (zm (zi (xj T) (hr.mono (by decide)) rfl T.tell_stacks.at_ T.tell_stacks.fn.kp T.tell_stacks.b .nil pass0 (zc (pv 0) (zc (zv (zk (K:=K) rfl) (pv 2) zj (fun _ _=>rfl)) zb))))) zp)
   (za (zB (zq z8 (pv 1) zj (nomark _)) (ze (zm (zi (Jr T) (hr.mono (by decide)) rfl T.tell_load.at_ T.tell_load.fn.kp T.tell_load.b .nil pass0 (zc (pv 0) (zc (zv (zk (K:=K) rfl) (pv 2) zj (fun _ _=>rfl)) zb))))) zp)
   (ze (zm (zi (Js T) (hr.mono (by decide)) rfl T.tell_fits.at_ T.tell_fits.fn.kp T.tell_fits.b .nil pass0 (zc (pv 0) (zc (zv (zk (K:=K) rfl) (pv 2) zj (fun _ _=>rfl)) (zc (zv (zk (K:=K) rfl) (pv 2) zj (fun _ _=>rfl)) zb))))))))))))),?_⟩
  cases d with
  | bag b o w2 s2=>
   obtain ⟨rfl,rfl⟩:=hinv
   exact ⟨_,rfl,rfl,_,rfl,j0 rfl ⟨_,rfl,_,rfl,pl,_,_,_,rfl,rfl,SqL.of hpl,rfl,_,rfl,pl,_,_,_,rfl,rfl,SqL.of hpl,rfl,_,rfl,pl,_,_,_,rfl,rfl,SqL.of hpl,rfl,_,rfl,pl,_,_,_,rfl,rfl,SqL.of hpl,rfl,A,st,b,o,w2,s2,rfl,S,I,hg,hi,k⟩⟩
  | put b g n=>
   obtain ⟨rfl,rfl⟩:=hinv
   exact ⟨_,rfl,rfl,_,rfl,zE rfl ⟨_,rfl,rfl,_,rfl,j0 rfl ⟨_,rfl,_,rfl,pl,_,_,_,rfl,rfl,SqL.of hpl,rfl,_,rfl,pl,_,_,_,rfl,rfl,SqL.of hpl,rfl,_,rfl,pl,_,_,_,rfl,rfl,SqL.of hpl,rfl,A,st,b,g,n,rfl,S,I,hg,hi,k⟩⟩⟩
  | take b g n=>
   obtain ⟨rfl,rfl⟩:=hinv
   exact ⟨_,rfl,rfl,_,rfl,zE rfl ⟨_,rfl,rfl,_,rfl,zE rfl ⟨_,rfl,rfl,_,rfl,j0 rfl ⟨_,rfl,_,rfl,pl,_,_,_,rfl,rfl,SqL.of hpl,rfl,_,rfl,pl,_,_,_,rfl,rfl,SqL.of hpl,rfl,_,rfl,pl,_,_,_,rfl,rfl,SqL.of hpl,rfl,A,st,b,g,n,rfl,S,I,hg,hi,k⟩⟩⟩⟩
  | move x b g n=>
   obtain ⟨rfl,rfl⟩:=hinv
   exact ⟨_,rfl,rfl,_,rfl,zE rfl ⟨_,rfl,rfl,_,rfl,zE rfl ⟨_,rfl,rfl,_,rfl,zE rfl ⟨_,rfl,rfl,_,rfl,j0 rfl ⟨_,rfl,_,rfl,pl,_,_,_,rfl,rfl,SqL.of hpl,rfl,_,rfl,pl,_,_,_,rfl,rfl,SqL.of hpl,rfl,_,rfl,pl,_,_,_,rfl,rfl,SqL.of hpl,rfl,_,rfl,pl,_,_,_,rfl,rfl,SqL.of hpl,rfl,A,st,x,b,g,n,rfl,S,I,hg,hi,k⟩⟩⟩⟩⟩
  | carry x b=>
   obtain ⟨rfl,rfl⟩:=hinv
   exact ⟨_,rfl,rfl,_,rfl,zE rfl ⟨_,rfl,rfl,_,rfl,zE rfl ⟨_,rfl,rfl,_,rfl,zE rfl ⟨_,rfl,rfl,_,rfl,zE rfl ⟨_,rfl,rfl,_,rfl,j0 rfl ⟨_,rfl,_,rfl,pl,_,_,_,rfl,rfl,SqL.of hpl,rfl,_,rfl,pl,_,_,_,rfl,rfl,SqL.of hpl,rfl,A,st,x,b,rfl,S,I,hg,hi,k⟩⟩⟩⟩⟩⟩
  | stacks b=>
   obtain ⟨rfl,rfl⟩:=hinv
   exact ⟨_,rfl,rfl,_,rfl,zE rfl ⟨_,rfl,rfl,_,rfl,zE rfl ⟨_,rfl,rfl,_,rfl,zE rfl ⟨_,rfl,rfl,_,rfl,zE rfl ⟨_,rfl,rfl,_,rfl,zE rfl ⟨_,rfl,rfl,_,rfl,j0 rfl ⟨_,rfl,_,rfl,pl,_,_,_,rfl,rfl,SqL.of hpl,rfl,A,st,b,rfl,S,I,hg,hi,k⟩⟩⟩⟩⟩⟩⟩
  | load b=>
   obtain ⟨rfl,rfl⟩:=hinv
   exact ⟨_,rfl,rfl,_,rfl,zE rfl ⟨_,rfl,rfl,_,rfl,zE rfl ⟨_,rfl,rfl,_,rfl,zE rfl ⟨_,rfl,rfl,_,rfl,zE rfl ⟨_,rfl,rfl,_,rfl,zE rfl ⟨_,rfl,rfl,_,rfl,zE rfl ⟨_,rfl,rfl,_,rfl,j0 rfl ⟨_,rfl,_,rfl,pl,_,_,_,rfl,rfl,SqL.of hpl,rfl,A,st,b,rfl,S,I,hg,hi,k⟩⟩⟩⟩⟩⟩⟩⟩
  | fits b g=>
   obtain ⟨rfl,rfl⟩:=hinv
   exact ⟨_,rfl,rfl,_,rfl,zE rfl ⟨_,rfl,rfl,_,rfl,zE rfl ⟨_,rfl,rfl,_,rfl,zE rfl ⟨_,rfl,rfl,_,rfl,zE rfl ⟨_,rfl,rfl,_,rfl,zE rfl ⟨_,rfl,rfl,_,rfl,zE rfl ⟨_,rfl,rfl,_,rfl,zE rfl ⟨_,rfl,_,rfl,pl,_,_,_,rfl,rfl,SqL.of hpl,rfl,_,rfl,pl,_,_,_,rfl,rfl,SqL.of hpl,rfl,A,st,b,g,rfl,S,I,hg,hi,k⟩⟩⟩⟩⟩⟩⟩⟩
  | _=>cases hb
theorem ve:FnScope ["state","number","plain"] ["state","number","plain"] (defScope jU):=⟨rfl,rfl,rfl,by decide +kernel,rfl,by decide +kernel,by decide +kernel⟩
def vd (T:Prog K mg):Sp:=fun vs H Q _=>∃ (A:Adr) (s:State) (p:Int) (pl:Addr) (plain row:List Int) (d:Vbwsao.Call),vs=[.ref A.st,.int p,.ref pl]∧StAt T H A s∧SInv s∧s.goods.isEmpty=false∧H pl=some (.lst (plain.map V.int))∧invC d p plain row∧isMk d=true∧callIn d=true∧CallOk T A s d H Q
theorem vg (T:Prog K mg):FnOk P w K mg base CX0 18 T.answer_of_making.f T.answer_of_making.fd ["state","number","plain"] (vd T):=by
 refine T.answer_of_making.fn.ok ve (fun vs H Q E h=>?_) (fun cdv A outer s H vs Q E hr h=>?_)
 ·obtain ⟨A,s,p,pl,plain,row,d,rfl,_⟩:=h
  rfl
 ·obtain ⟨A,st,p,pl,plain,row,d,rfl,S,I,hg,hpl,hinv,hb,hi,k⟩:=h
  refine ⟨_,(za (zB (zq z8 (pv 1) zj (nomark _)) (ze (zm (zi (Jq T) (hr.mono (by decide)) rfl T.tell_plan.at_ T.tell_plan.fn.kp T.tell_plan.b .nil pass0 (zc (pv 0) (zc (zv (zk (K:=K) rfl) (pv 2) zj (fun _ _=>rfl)) (zc (zv (zk (K:=K) rfl) (pv 2) zj (fun _ _=>rfl)) (zc (zv (zk (K:=K) rfl) (pv 2) zj (fun _ _=>rfl)) zb))))))) zp)
   (za (zB (zq z8 (pv 1) zj (nomark _)) (ze (zm (zi (ok_make T) (hr.mono (by decide)) rfl T.make.at_ T.make.fn.kp T.make.b .nil pass0 (zc (pv 0) (zc (zv (zk (K:=K) rfl) (pv 2) zj (fun _ _=>rfl)) (zc (zv (zk (K:=K) rfl) (pv 2) zj (fun _ _=>rfl)) (zc (zv (zk (K:=K) rfl) (pv 2) zj (fun _ _=>rfl)) zb))))))) zp)
   (za (zB (zq z8 (pv 1) zj (nomark _)) (ze (zm (zi (xl T) (hr.mono (by decide)) rfl T.new_machine.at_ T.new_machine.fn.kp T.new_machine.b .nil pass0 (zc (pv 0) (zc (zv (zk (K:=K) rfl) (pv 2) zj (fun _ _=>rfl)) (zc (zv (zk (K:=K) rfl) (pv 2) zj (fun _ _=>rfl)) (zc (zv (zk (K:=K) rfl) (pv 2) zj (fun _ _=>rfl)) zb))))))) zp)
   (za (zB (zq z8 (pv 1) zj (nomark _)) (ze (zm (zi (ok_order T) (hr.mono (by decide)) rfl T.order.at_ T.order.fn.kp T.order.b .nil pass0 (zc (pv 0) (zc (zv (zk (K:=K) rfl) (pv 2) zj (fun _ _=>rfl)) (zc (zv (zk (K:=K) rfl) (pv 2) zj (fun _ _=>rfl)) zb)))))) zp)
   (za (zB (zq z8 (pv 1) zj (nomark _)) (ze (zm (zi (ok_tick T) (hr.mono (by decide)) rfl T.tick.at_ T.tick.fn.kp T.tick.b .nil pass0 (zc (pv 0) (zc (zv (zk (K:=K) rfl) (pv 2) zj (fun _ _=>rfl)) zb))))) zp)
   (za (zB (zq z8 (pv 1) zj (nomark _)) (ze (zm (zi (x6 T) (hr.mono (by decide)) rfl T.tell_state.at_ T.tell_state.fn.kp T.tell_state.b .nil pass0 (zc (pv 0) (zc (zv (zk (K:=K) rfl) (pv 2) zj (fun _ _=>rfl)) zb))))) zp)
   (za (zB (zq z8 (pv 1) zj (nomark _)) (ze (zm (zi (x9 T) (hr.mono (by decide)) rfl T.tell_count.at_ T.tell_count.fn.kp T.tell_count.b .nil pass0 (zc (pv 0) (zc (zv (zk (K:=K) rfl) (pv 2) zj (fun _ _=>rfl)) zb))))) zp)
   (ze (zm (zi (Jt T) (hr.mono (by decide)) rfl T.tell_find.at_ T.tell_find.fn.kp T.tell_find.b .nil pass0 (zc (pv 0) (zc (zv (zk (K:=K) rfl) (pv 2) zj (fun _ _=>rfl)) zb)))))))))))),?_⟩
  cases d with
  | plan b g n=>
   obtain ⟨rfl,rfl⟩:=hinv
   exact ⟨_,rfl,rfl,_,rfl,j0 rfl ⟨_,rfl,_,rfl,pl,_,_,_,rfl,rfl,SqL.of hpl,rfl,_,rfl,pl,_,_,_,rfl,rfl,SqL.of hpl,rfl,_,rfl,pl,_,_,_,rfl,rfl,SqL.of hpl,rfl,A,st,b,g,n,rfl,S,I,hg,hi,k⟩⟩
  | make b g n=>
   obtain ⟨rfl,rfl⟩:=hinv
   exact ⟨_,rfl,rfl,_,rfl,zE rfl ⟨_,rfl,rfl,_,rfl,j0 rfl ⟨_,rfl,_,rfl,pl,_,_,_,rfl,rfl,SqL.of hpl,rfl,_,rfl,pl,_,_,_,rfl,rfl,SqL.of hpl,rfl,_,rfl,pl,_,_,_,rfl,rfl,SqL.of hpl,rfl,A,st,b,g,n,rfl,S,I,hg,hi,k⟩⟩⟩
  | machine x b r=>
   obtain ⟨rfl,rfl⟩:=hinv
   exact ⟨_,rfl,rfl,_,rfl,zE rfl ⟨_,rfl,rfl,_,rfl,zE rfl ⟨_,rfl,rfl,_,rfl,j0 rfl ⟨_,rfl,_,rfl,pl,_,_,_,rfl,rfl,SqL.of hpl,rfl,_,rfl,pl,_,_,_,rfl,rfl,SqL.of hpl,rfl,_,rfl,pl,_,_,_,rfl,rfl,SqL.of hpl,rfl,A,st,x,b,r,rfl,S,I,hg,hi,k⟩⟩⟩⟩
  | order m n=>
   obtain ⟨rfl,rfl⟩:=hinv
   exact ⟨_,rfl,rfl,_,rfl,zE rfl ⟨_,rfl,rfl,_,rfl,zE rfl ⟨_,rfl,rfl,_,rfl,zE rfl ⟨_,rfl,rfl,_,rfl,j0 rfl ⟨_,rfl,_,rfl,pl,_,_,_,rfl,rfl,SqL.of hpl,rfl,_,rfl,pl,_,_,_,rfl,rfl,SqL.of hpl,rfl,A,st,m,n,rfl,S,I,hg,hi,k⟩⟩⟩⟩⟩
  | tick n=>
   obtain ⟨rfl,rfl⟩:=hinv
   exact ⟨_,rfl,rfl,_,rfl,zE rfl ⟨_,rfl,rfl,_,rfl,zE rfl ⟨_,rfl,rfl,_,rfl,zE rfl ⟨_,rfl,rfl,_,rfl,zE rfl ⟨_,rfl,rfl,_,rfl,j0 rfl ⟨_,rfl,_,rfl,pl,_,_,_,rfl,rfl,SqL.of hpl,rfl,A,st,n,rfl,S,I,hg,hi,k⟩⟩⟩⟩⟩⟩
  | state m=>
   obtain ⟨rfl,rfl⟩:=hinv
   exact ⟨_,rfl,rfl,_,rfl,zE rfl ⟨_,rfl,rfl,_,rfl,zE rfl ⟨_,rfl,rfl,_,rfl,zE rfl ⟨_,rfl,rfl,_,rfl,zE rfl ⟨_,rfl,rfl,_,rfl,zE rfl ⟨_,rfl,rfl,_,rfl,j0 rfl ⟨_,rfl,_,rfl,pl,_,_,_,rfl,rfl,SqL.of hpl,rfl,A,st,m,rfl,S,I,hg,hi,k⟩⟩⟩⟩⟩⟩⟩
  | count g=>
   obtain ⟨rfl,rfl⟩:=hinv
   exact ⟨_,rfl,rfl,_,rfl,zE rfl ⟨_,rfl,rfl,_,rfl,zE rfl ⟨_,rfl,rfl,_,rfl,zE rfl ⟨_,rfl,rfl,_,rfl,zE rfl ⟨_,rfl,rfl,_,rfl,zE rfl ⟨_,rfl,rfl,_,rfl,zE rfl ⟨_,rfl,rfl,_,rfl,j0 rfl ⟨_,rfl,_,rfl,pl,_,_,_,rfl,rfl,SqL.of hpl,rfl,A,st,g,rfl,S,I,hg,hi,k⟩⟩⟩⟩⟩⟩⟩⟩
  | find g=>
   obtain ⟨rfl,rfl⟩:=hinv
   exact ⟨_,rfl,rfl,_,rfl,zE rfl ⟨_,rfl,rfl,_,rfl,zE rfl ⟨_,rfl,rfl,_,rfl,zE rfl ⟨_,rfl,rfl,_,rfl,zE rfl ⟨_,rfl,rfl,_,rfl,zE rfl ⟨_,rfl,rfl,_,rfl,zE rfl ⟨_,rfl,rfl,_,rfl,zE rfl ⟨_,rfl,_,rfl,pl,_,_,_,rfl,rfl,SqL.of hpl,rfl,A,st,g,rfl,S,I,hg,hi,k⟩⟩⟩⟩⟩⟩⟩⟩
  | _=>cases hb
theorem bag_num {d:Vbwsao.Call} {p:Int} {plain row:List Int} (h:invC d p plain row) (hb:isBag d=true):2≤p∧p≤9:=by
 cases d <;> first | (cases hb;done) | (obtain ⟨rfl,_⟩:=h;decide)
theorem mk_num {d:Vbwsao.Call} {p:Int} {plain row:List Int} (h:invC d p plain row) (hb:isMk d=true):12≤p∧p≠19:=by
 cases d <;> first | (cases hb;done) | (obtain ⟨rfl,_⟩:=h;decide)
theorem vne {p i:Int} (h:p≠i):decide (V.int p=V.int i)=false:=decide_eq_false fun z=>h (by injection z)
theorem Jg:FnScope ["state","call"] ["state","call"] (defScope yH):=⟨rfl,rfl,rfl,by decide +kernel,rfl,by decide +kernel,by decide +kernel⟩
def Z9 (T:Prog K mg):Sp:=fun vs H Q _=>∃ (A:Adr) (s:State) (a:Addr) (c:List (List Int)),vs=[.ref A.st,.ref a]∧StAt T H A s∧SInv s∧CallAt T A.tops H a c∧∀ d,VbwsaoNeutral.callOf c=some d→CallOk T A s d H Q
theorem Jz (T:Prog K mg):FnOk P w K mg base CX0 19 T.answer_to.f T.answer_to.fd ["state","call"] (Z9 T):=by
 refine T.answer_to.fn.ok Jg (fun vs H Q E h=>?_) (fun cdv A outer s H vs Q E hr h=>?_)
 ·obtain ⟨A,s,a,c,rfl,_⟩:=h
  rfl
 ·obtain ⟨A,st,a,c,rfl,S,I,⟨p,plain,row,d,dx,pl,rw,C,e1,n1,n2,hpl,hrw⟩,k⟩:=h
  have k:=k d C.hd
  obtain ⟨rs,hrs,hlen⟩:=C.rs
  have hinv:=cis_inv C
  refine ⟨_,(za (zB (yJ (zN (zi (kQ T) (hr.mono (by decide)) rfl T.within_ranges.at_ T.within_ranges.fn.kp T.within_ranges.b .nil pass0 (zc (pv 1) zb)))) (ze (zm (zu (zc (zA (v:=.int (-1)) rfl T.c_OUT_OF_RANGE.at_ ⟨_,rfl⟩) zb)))) zp)
   (za (zB (zq z8 (zd (K:=K) rfl (pv 1) rfl) zj (nomark _)) (ze (zm (zi (x8 T) (hr.mono (by decide)) rfl T.tell_goods.at_ T.tell_goods.fn.kp T.tell_goods.b .nil pass0 (zc (pv 0) (zc (zd (K:=K) rfl (pv 1) rfl) zb))))) zp)
   (za (zB (zq z8 (zd (K:=K) rfl (pv 1) rfl) zj (nomark _)) (ze (zm (zi (xi T) (hr.mono (by decide)) rfl T.tell_totals.at_ T.tell_totals.fn.kp T.tell_totals.b .nil pass0 (zc (pv 0) zb)))) zp)
   (za (zB (zq z8 (zr (zo (K:=K) rfl) (by rfl) T.b_len zQ (zc (zd (K:=K) rfl (pv 0) rfl) zb)) zj (nomark _)) (ze (zm (zu (zc (zA (v:=.int (-2)) rfl T.c_NO_GOODS.at_ ⟨_,rfl⟩) zb)))) zp)
   (za (zB (zq z8 (zd (K:=K) rfl (pv 1) rfl) zj (nomark _)) (ze (zm (zi (xk T) (hr.mono (by decide)) rfl T.tell_recipe.at_ T.tell_recipe.fn.kp T.tell_recipe.b .nil pass0 (zc (pv 0) (zc (zv (zk (K:=K) rfl) (zd (K:=K) rfl (pv 1) rfl) zj (fun _ _=>rfl)) (zc (zv (zk (K:=K) rfl) (zd (K:=K) rfl (pv 1) rfl) zj (fun _ _=>rfl)) (zc (zv (zk (K:=K) rfl) (zd (K:=K) rfl (pv 1) rfl) zj (fun _ _=>rfl)) (zc (zd (K:=K) rfl (pv 1) rfl) zb)))))))) zp)
   (za (zB (zq z8 (zd (K:=K) rfl (pv 1) rfl) zj (nomark _)) (ze (zm (zi (Za T) (hr.mono (by decide)) rfl T.tell_costs.at_ T.tell_costs.fn.kp T.tell_costs.b .nil pass0 (zc (pv 0) zb)))) zp)
   (za (zB (zq z8 (zd (K:=K) rfl (pv 1) rfl) zj (nomark _)) (ze (zm (zi (Ju T) (hr.mono (by decide)) rfl T.tell_fair.at_ T.tell_fair.fn.kp T.tell_fair.b .nil pass0 (zc (pv 0) (zc (zd (K:=K) rfl (pv 1) rfl) zb))))) zp)
   (za (zB (zq Zv (zd (K:=K) rfl (pv 1) rfl) zj (nomark _)) (ze (zm (zi (kh T) (hr.mono (by decide)) rfl T.answer_of_bags.at_ T.answer_of_bags.fn.kp T.answer_of_bags.b .nil pass0 (zc (pv 0) (zc (zd (K:=K) rfl (pv 1) rfl) (zc (zd (K:=K) rfl (pv 1) rfl) zb)))))) zp)
   (ze (zm (zi (vg T) (hr.mono (by decide)) rfl T.answer_of_making.at_ T.answer_of_making.fn.kp T.answer_of_making.b .nil pass0 (zc (pv 0) (zc (zd (K:=K) rfl (pv 1) rfl) (zc (zd (K:=K) rfl (pv 1) rfl) zb)))))))))))))),?_⟩
  refine ⟨_,rfl,a,dx,pl,rw,p,plain,row,rs,rfl,e1,hpl,hrw,hrs,hlen,fun H1 s1=>⟨_,rfl,zx (p:=!callIn d) (by rw [C.ok]) (fun e=>k.ref (JU (by simpa using e)) S I s1) (fun e=>?_)⟩⟩
  have hi:callIn d=true:=by simpa using e
  have k1:=k.mono s1
  have S1:=S.same s1
  have e11:=s1 _ _ e1
  have hpl1:=s1 _ _ hpl
  have hrw1:=s1 _ _ hrw
  clear hlen hrs C e hpl hrw e1 k
  have elen:((A.ga.map V.ref).length:Int)=(st.goods.length:Int):=by rw [List.length_map,S.gs.2.1]
  have egs:decide (V.int ((A.ga.map V.ref).length:Int)=V.int 0)=st.goods.isEmpty:=by
   rw [elen]
   cases st.goods with
   | nil=>rfl
   | cons x l=>exact vne (by simp;omega)
  have egn:∀ {b:Bool},st.goods.isEmpty=true→st.goods=[]:=fun h=>List.isEmpty_iff.mp h
  by_cases hb:isBag d=true
  ·obtain ⟨p1,p2⟩:=bag_num hinv hb
   refine ⟨_,rfl,zD T e11 ⟨rfl,_,rfl,zE (vne (by omega)) ⟨_,rfl,zD T e11 ⟨rfl,_,rfl,zE (vne (by omega)) ⟨_,rfl,zV S1 ⟨A.gl,_,rfl,.inl (SqL.of S1.gs.1),rfl,_,rfl,zx egs (fun e2=>k1.ref (qK hi (List.isEmpty_iff.mp e2) (by cases d <;> first | rfl | cases hb)) S1 I (Same.refl _)) (fun e2=>?_)⟩⟩⟩⟩⟩⟩
   exact ⟨_,rfl,zD T e11 ⟨rfl,_,rfl,zE (vne (by omega)) ⟨_,rfl,zD T e11 ⟨rfl,_,rfl,zE (vne (by omega)) ⟨_,rfl,zD T e11 ⟨rfl,_,rfl,zE (vne (by omega)) ⟨_,rfl,zD T e11 ⟨_,_,rfl,rfl,_,rfl,j0 (decide_eq_true (by omega)) ⟨_,rfl,_,rfl,zD T e11 ⟨_,rfl,wG T e11 ⟨A,st,p,pl,plain,row,d,rfl,S1,I,e2,hpl1,hinv,hb,hi,k1⟩⟩⟩⟩⟩⟩⟩⟩⟩⟩⟩
  ·by_cases hm:isMk d=true
   ·obtain ⟨p1,p2⟩:=mk_num hinv hm
    refine ⟨_,rfl,zD T e11 ⟨rfl,_,rfl,zE (vne (by omega)) ⟨_,rfl,zD T e11 ⟨rfl,_,rfl,zE (vne p2) ⟨_,rfl,zV S1 ⟨A.gl,_,rfl,.inl (SqL.of S1.gs.1),rfl,_,rfl,zx egs (fun e2=>k1.ref (qK hi (List.isEmpty_iff.mp e2) (by cases d <;> first | rfl | cases hm)) S1 I (Same.refl _)) (fun e2=>?_)⟩⟩⟩⟩⟩⟩
    exact ⟨_,rfl,zD T e11 ⟨rfl,_,rfl,zE (vne (by omega)) ⟨_,rfl,zD T e11 ⟨rfl,_,rfl,zE (vne (by omega)) ⟨_,rfl,zD T e11 ⟨rfl,_,rfl,zE (vne (by omega)) ⟨_,rfl,zD T e11 ⟨_,_,rfl,rfl,_,rfl,zE (decide_eq_false (by omega)) ⟨_,rfl,_,rfl,zD T e11 ⟨_,rfl,wG T e11 ⟨A,st,p,pl,plain,row,d,rfl,S1,I,e2,hpl1,hinv,hm,hi,k1⟩⟩⟩⟩⟩⟩⟩⟩⟩⟩⟩
   ·cases d with
    | goods l=>
     obtain ⟨rfl,rfl,rfl⟩:=hinv
     exact ⟨_,rfl,zD T e11 ⟨rfl,_,rfl,j0 rfl ⟨_,rfl,_,rfl,vF T e11 ⟨A,st,rw,_,rfl,S1,I,hi,hrw1,n2,k1⟩⟩⟩⟩
    | totals=>
     cases hinv
     exact ⟨_,rfl,zD T e11 ⟨rfl,_,rfl,zE rfl ⟨_,rfl,zD T e11 ⟨rfl,_,rfl,j0 rfl ⟨_,rfl,A,st,rfl,S1,I,k1⟩⟩⟩⟩⟩
    | recipe g c t l=>
     obtain ⟨rfl,rfl,rfl⟩:=hinv
     refine ⟨_,rfl,zD T e11 ⟨rfl,_,rfl,zE rfl ⟨_,rfl,zD T e11 ⟨rfl,_,rfl,zE rfl ⟨_,rfl,zV S1 ⟨A.gl,_,rfl,.inl (SqL.of S1.gs.1),rfl,_,rfl,zx egs (fun e2=>k1.ref (qK hi (List.isEmpty_iff.mp e2) rfl) S1 I (Same.refl _)) (fun e2=>?_)⟩⟩⟩⟩⟩⟩
     exact ⟨_,rfl,zD T e11 ⟨rfl,_,rfl,j0 rfl ⟨_,rfl,_,rfl,wG T e11 ⟨pl,_,_,_,rfl,rfl,SqL.of hpl1,rfl,_,rfl,wG T e11 ⟨pl,_,_,_,rfl,rfl,SqL.of hpl1,rfl,_,rfl,wG T e11 ⟨pl,_,_,_,rfl,rfl,SqL.of hpl1,rfl,_,rfl,vF T e11 ⟨A,st,g,c,t,rw,_,rfl,S1,I,e2,hi,hrw1,k1⟩⟩⟩⟩⟩⟩⟩
    | costs=>
     cases hinv
     refine ⟨_,rfl,zD T e11 ⟨rfl,_,rfl,zE rfl ⟨_,rfl,zD T e11 ⟨rfl,_,rfl,zE rfl ⟨_,rfl,zV S1 ⟨A.gl,_,rfl,.inl (SqL.of S1.gs.1),rfl,_,rfl,zx egs (fun e2=>k1.ref (qK hi (List.isEmpty_iff.mp e2) rfl) S1 I (Same.refl _)) (fun e2=>?_)⟩⟩⟩⟩⟩⟩
     exact ⟨_,rfl,zD T e11 ⟨rfl,_,rfl,zE rfl ⟨_,rfl,zD T e11 ⟨rfl,_,rfl,j0 rfl ⟨_,rfl,A,st,rfl,S1,I,e2,k1⟩⟩⟩⟩⟩
    | fair l=>
     obtain ⟨rfl,rfl⟩:=hinv
     refine ⟨_,rfl,zD T e11 ⟨rfl,_,rfl,zE rfl ⟨_,rfl,zD T e11 ⟨rfl,_,rfl,zE rfl ⟨_,rfl,zV S1 ⟨A.gl,_,rfl,.inl (SqL.of S1.gs.1),rfl,_,rfl,zx egs (fun e2=>k1.ref (qK hi (List.isEmpty_iff.mp e2) rfl) S1 I (Same.refl _)) (fun e2=>?_)⟩⟩⟩⟩⟩⟩
     exact ⟨_,rfl,zD T e11 ⟨rfl,_,rfl,zE rfl ⟨_,rfl,zD T e11 ⟨rfl,_,rfl,zE rfl ⟨_,rfl,zD T e11 ⟨rfl,_,rfl,j0 rfl ⟨_,rfl,_,rfl,vF T e11 ⟨A,st,rw,_,rfl,S1,I,e2,hi,hrw1,k1⟩⟩⟩⟩⟩⟩⟩⟩
    | _=>first | exact absurd rfl hb | exact absurd rfl hm
theorem StX.told {T:Prog K mg} {H:Hp} {A:Adr} {s:State} {hs:List Int} (S:StX T H A s hs) {t:Addr} {ns:List Int} {ys:List V} (ht:H t=some (.lst (ns.map V.int))) (htt:t∉A.tops) (hn:ns≠[]∨(s.recipes=[]∧s.bags=[])):StX T (L2.upd H t (.lst ys)) A s hs:=by
 have f:Frm [] [t] H (L2.upd H t (.lst ys)):=jv ht (by simp)
 simp only [List.mem_cons,List.mem_nil_iff,or_false,not_or] at htt
 obtain ⟨t1,t2,t3,t4⟩:=htt
 have ne:ns≠[]→∀ (nl:Addr) (xs:List (Nat × Nat)),PrsAt H nl xs→PrsAt (L2.upd H t (.lst ys)) nl xs:=fun hne nl xs h=>by
  refine h.frm f ?_
  simp only [List.mem_singleton]
  rintro rfl
  obtain ⟨as,h1,_⟩:=h
  rw [ht] at h1
  have h2:ns.map V.int=as.map V.ref:=by
   have h3:=congrArg (fun o=>match o with | some (HO.lst z)=>z | _=>[]) h1
   exact h3
  cases ns with
  | nil=>exact hne rfl
  | cons a ns=>cases as with
   | nil=>cases h2
   | cons b as=>cases h2
 obtain ⟨dx,e⟩:=S.st
 have nG:∀ {l:Addr} {xs:List V},H l=some (.lst xs)→t≠l→(L2.upd H t (.lst ys)) l=some (.lst xs):=fun h n=>f.lst h (by simp;exact Ne.symm n)
 rcases hn with hne | ⟨h1,h2⟩
 ·exact ⟨⟨dx,f.ins e (by simp)⟩,S.gs.imp (nG S.gs.1 t1) fun a x h=>h.frm f (by simp),S.rs.imp (nG S.rs.1 t2) fun a x ⟨dx,nl,q1,q2,q3⟩=>⟨dx,nl,f.ins q1 (by simp),q2,ne hne _ _ q3⟩,
   S.bs.imp (nG S.bs.1 t3) fun a x ⟨dx,nl,q1,q2,q3⟩=>⟨dx,nl,f.ins q1 (by simp),q2,ne hne _ _ q3⟩,S.ms.imp (nG S.ms.1 t4) fun a x h=>h.frm f (by simp),S.hl,S.nb,S.nm,S.nt⟩
 ·exact ⟨⟨dx,f.ins e (by simp)⟩,S.gs.imp (nG S.gs.1 t1) fun a x h=>h.frm f (by simp),⟨nG S.rs.1 t2,S.rs.2.1,fun j a x _ q=>by rw [h1] at q;simp at q⟩,
   ⟨nG S.bs.1 t3,S.bs.2.1,fun j a x _ q=>by rw [h2] at q;simp at q⟩,S.ms.imp (nG S.ms.1 t4) fun a x h=>h.frm f (by simp),S.hl,S.nb,S.nm,S.nt⟩
theorem qM:FnScope ["calls","state","told","call","answer"] ["calls"] (defScope kN):=⟨rfl,rfl,rfl,by decide +kernel,rfl,by decide +kernel,by decide +kernel⟩
def Wp (T:Prog K mg):Sp:=fun vs H Q _=>∃ (l:Addr) (ns:List Int),vs=[.ref l]∧SqL K H l (ns.map V.int)∧PyVbwsao.answers_asked ns=true∧∀ p H',H' p=some (.lst ((PyVbwsao.answers ns).map V.int))→Q (.ref p) H'
theorem WK (T:Prog K mg):FnOk P w K mg base CX0 20 T.answers.f T.answers.fd ["calls"] (Wp T):=by
 refine T.answers.fn.ok qM (fun vs H Q E h=>?_) (fun cdv A outer s H vs Q E hr h=>?_)
 ·obtain ⟨l,ns,rfl,_⟩:=h
  rfl
 ·obtain ⟨l,ns,rfl,hl,hask,k⟩:=h
  obtain ⟨cs,rfl,hcs,hcl,hans⟩:=Q3 hask
  have hans':PyVbwsao.answers (PyFlat.put cs)=toldOf cs:=hans
  refine ⟨_,(za (zt (i:=1) qM.nd rfl (by first | exact Or.inl rfl | exact Or.inr rfl) (pe_make0 T.kState.made (Jv T) (hr.mono (by decide)) rfl T.kState.at_ T.kState.b .nil pass0))
   (za (zt (i:=2) qM.nd rfl (by first | exact Or.inl rfl | exact Or.inr rfl) (zu zb))
   (za (jH PassesOwn.never rfl (zL (K:=K) rfl (zi (kg T) (hr.mono (by decide)) rfl T.cut_into_calls.at_ T.cut_into_calls.fn.kp T.cut_into_calls.b .nil pass0 (zc (pv 0) zb))) (zw (i:=3) qM.nd rfl (by first | exact Or.inl rfl | exact Or.inr rfl)) (za (zt (i:=4) qM.nd rfl (by first | exact Or.inl rfl | exact Or.inr rfl) (zi (Jz T) (hr.mono (by decide)) rfl T.answer_to.at_ T.answer_to.fn.kp T.answer_to.b .nil pass0 (zc (pv 1) (zc (pv 3) zb))))
   (za (zG (qb (K:=K) rfl (pv 2) (zr (zo (K:=K) rfl) (by rfl) T.b_len zQ (zc (pv 4) zb))))
   (ze (zG (WD (K:=K) rfl (pv 2) (pv 4)))))))
   (ze (zm (pv 2)))))),?_⟩
  refine fun x dx nx ndx nex=>⟨x,dx,rfl,zf,fun H1 A hA S1 but=>⟨rfl,?_⟩⟩
  subst hA
  have s1:Same H H1:=but.same nx ndx
  refine ⟨Nat.zero_le _,fun t ht=>?_⟩
  have s2:=zM (o:=.lst []) ht
  have ht2:(L2.upd H1 t (.lst [])) t=some (.lst []):=zf
  generalize hH2:L2.upd H1 t (.lst [])=H2 at s2 ht2
  have S2:=S1.same s2
  have hl2:=(s1.trans s2).seq hl
  have htt:t∉A.tops:=S1.fresh ht
  refine ⟨_,rfl,l,cs,t :: A.tops,rfl,hl2,hcs,hcl,fun y hy=>?_,fun q as H3 s3 hq hls=>?_⟩
  ·rcases List.mem_cons.mp hy with rfl | hy
   ·exact ⟨_,ht2⟩
   ·simp only [List.mem_cons,List.mem_nil_iff,or_false] at hy
    rcases hy with rfl | rfl | rfl | rfl
    ·exact ⟨_,S2.gs.1⟩
    ·exact ⟨_,S2.rs.1⟩
    ·exact ⟨_,S2.bs.1⟩
    ·exact ⟨_,S2.ms.1⟩
  ·have hqt:q∉A.tops:=S2.fresh hq
   have nqt:q≠t:=fun z=>by rw [z,ht2] at hq;cases hq
   have S3:=S2.same s3
   have I0:SInv Vbwsao.start:=YI
   refine ⟨q,rfl,WV (R:=CallAt T (t :: A.tops)) (xs:=cs) (as:=as) (fun i σ H'=>(∃ A':Adr,A'.st=A.st∧A'.tops=A.tops∧StAt T H' A' (stAfter (cs.take i)))∧SInv (stAfter (cs.take i))∧LsAt H' q as cs (CallAt T (t :: A.tops) H')∧H' t=some (.lst ((toldOf (cs.take i)).map V.int))∧(toldOf (cs.take i)).length≤6001 * i ∧
    ∃ v3 v4,σ=[some (.ref l),some (.ref A.st),some (.ref t),v3,v4]) hls ⟨⟨A,rfl,rfl,S3⟩,I0,hls,s3 _ _ ht2,Nat.zero_le _,_,_,rfl⟩ (fun i σ' H' h=>h.2.2.1) ?_ ?_⟩
   ·rintro i c a σ H4 hc hca ⟨⟨A',hA1,hA2,S4⟩,I4,hls4,ht4,hlen4,v3,v4,rfl⟩
    have hil:=zT hc
    obtain ⟨p,plain,row,d,dx4,pl,rw,C,e4,n1,n2,hpl4,hrw4⟩:=id hca
    have eS:=ZX (cs:=cs.take i) C.hd
    have eT:=JO (cs:=cs.take i) C.hd
    rw [← zZ hc] at eS eT
    have hsl:=step_len I4 d
    refine ⟨_,rfl,_,rfl,A',stAfter (cs.take i),a,c,by rw [hA1];rfl,S4,I4,⟨p,plain,row,d,dx4,pl,rw,C,e4,by rw [hA2];exact fun m=>n1 (List.mem_cons_of_mem _ m),by rw [hA2];exact fun m=>n2 (List.mem_cons_of_mem _ m),hpl4,hrw4⟩,fun d' hd'=>?_⟩
    have edd:d' = d:=by
     rw [C.hd] at hd'
     exact (Option.some.inj hd').symm
    subst edd
    intro pa H5 A5 hA5 hA6 S5 I5 hpa f5
    rw [hA2] at f5 hA6
    have ht5:=f5.lst ht4 htt
    obtain ⟨zh,rh,eh,hz0⟩:=Zm (s:=stAfter (cs.take i)) d'
    have npt:pa≠t:=fun z=>by
     have h9:=hpa
     rw [z,ht5] at h9
     have h10:(toldOf (cs.take i)).map V.int=(Vbwsao.step (stAfter (cs.take i)) d').2.map V.int:=by
      have h3:=congrArg (fun o=>match o with | some (HO.lst z)=>z | _=>[]) h9
      exact h3
     rw [eh] at h10
     rcases Zi (cs.take i) (fun c hc=>let ⟨p,pl,ro,dd,CC⟩:=hcs c (List.mem_of_mem_take hc);⟨dd,CC.hd⟩) with h11 | ⟨z1,r1,h11,h12⟩
     ·rw [h11.2] at h10
      cases h10
     ·rw [h11] at h10
      have h13:V.int z1=V.int zh:=(List.cons.inj h10).1
      injection h13 with h13
      omega
    have hls5:LsAt H5 q as cs (CallAt T (t :: A.tops) H5):=hls4.imp (f5.lst hls4.1 hqt) fun b z h=>h.frm f5 (by simp [kap];exact ⟨nCB,nCM,nCS⟩) (fun x hx=>List.mem_cons_of_mem _ hx)
    refine ⟨_,rfl,.inl ⟨rfl,_,SqL.of ht5⟩,_,rfl,pa,_,rfl,.inl (SqL.of hpa),t,_,_,rfl,rfl,ht5,?_,?_⟩
    ·rw [List.length_map]
     exact Nat.lt_of_le_of_lt hlen4 (Nat.lt_of_le_of_lt (Nat.mul_le_mul_left 6001 (show i≤200 by omega)) (by decide))
    rw [List.length_map]
    generalize hans5:(Vbwsao.step (stAfter (cs.take i)) d').2=an at hpa hsl eT eh
    have f6:Frm [] [t] H5 (L2.upd H5 t (.lst ((toldOf (cs.take i)).map V.int++[V.int (an.length:Int)]))):=jv ht5 (by simp)
    have htt5:t∉A5.tops:=by rw [hA6];exact htt
    have hz5:toldOf (cs.take i)≠[]∨((Vbwsao.step (stAfter (cs.take i)) d').1.recipes=[]∧(Vbwsao.step (stAfter (cs.take i)) d').1.bags=[]):=by
     cases i with
     | zero=>exact .inr (WW d')
     | succ i=>
      left
      intro z
      rcases Zi (cs.take (i+1)) (fun c hc=>let ⟨p,pl,ro,dd,CC⟩:=hcs c (List.mem_of_mem_take hc);⟨dd,CC.hd⟩) with h11 | ⟨z1,r1,h11,h12⟩
      ·have h14:=congrArg List.length h11.1
       rw [List.length_take,List.length_nil] at h14
       omega
      ·rw [h11] at z
       cases z
    have S6:=S5.told (ys:=(toldOf (cs.take i)).map V.int++[V.int (an.length:Int)]) ht5 htt5 hz5
    have hls6:LsAt (L2.upd H5 t (.lst ((toldOf (cs.take i)).map V.int++[V.int (an.length:Int)]))) q as cs (CallAt T (t :: A.tops) (L2.upd H5 t (.lst ((toldOf (cs.take i)).map V.int++[V.int (an.length:Int)])))):=hls5.imp (f6.lst hls5.1 (by simp;exact nqt)) fun b z h=>h.frm f6 (by simp) (by simp)
    have hpa6:=f6.lst hpa (by simp;exact npt)
    have ht6:(L2.upd H5 t (.lst ((toldOf (cs.take i)).map V.int++[V.int (an.length:Int)]))) t=some (.lst ((toldOf (cs.take i)++[(an.length:Int)]).map V.int)):=by
     rw [zf,List.map_append]
     rfl
    generalize hH6:L2.upd H5 t (.lst ((toldOf (cs.take i)).map V.int++[V.int (an.length:Int)]))=H6 at f6 S6 hls6 hpa6 ht6
    have f7:Frm [] [t] H6 (L2.upd H6 t (.lst ((toldOf (cs.take i)++[(an.length:Int)]).map V.int++an.map V.int))):=jv ht6 (by simp)
    have hlt:6001 * i+6001≤6001 * 200:=by
     have:=Nat.mul_le_mul_left 6001 (show i+1≤200 by omega)
     omega
    refine ⟨_,rfl,.inl ⟨rfl,_,SqL.of ht6⟩,_,rfl,t,pa,_,_,rfl,rfl,ht6,.inl hpa6,?_,⟨A5,hA5.trans hA1,hA6,?_⟩,?_,hls6.imp (f7.lst hls6.1 (by simp;exact nqt)) (fun b z h=>h.frm f7 (by simp) (by simp)),?_,?_,_,_,rfl⟩
    ·rw [List.length_map,List.length_map,List.length_append]
     show (toldOf (cs.take i)).length+1+an.length≤sizeLine
     refine Nat.le_trans (show _≤6001 * 200 by omega) (by decide)
    ·rw [eS]
     exact S6.told ht6 htt5 (.inl (by simp))
    ·rw [eS]
     exact I5
    ·rw [zf,eT,← List.map_append,List.append_assoc]
     rfl
    ·rw [eT,List.length_append,List.length_cons]
     omega
   ·rintro σ H4 ⟨⟨A',hA1,hA2,S4⟩,I4,hls4,ht4,hlen4,v3,v4,rfl⟩
    rw [List.take_length,← hans'] at ht4
    exact ⟨_,rfl,k t H4 ht4⟩
end
end BM
end
section
namespace BM
open PySem PySem.Spec L2
open PyProof.Rows hiding St
def spE (K:PySem.W.Frag):Sp:=fun vs H Q _=>∃ (l:Addr) (ns:List Int),vs=[.ref l]∧SqL K H l (ns.map V.int)∧PyVbwsao.answers_asked ns=true∧∀ p H',H' p=some (.lst ((PyVbwsao.answers ns).map V.int))→Q (.ref p) H'
section
variable {P:Program} {w:World} {K:PySem.W.Frag} {mg:Str→Option Value} {base:Heap}
theorem ok_end (T:Prog K mg):FnOk P w K mg base CX0 40 T.answers.f T.answers.fd ["calls"] (spE K):=FnOk.mono (WK T) (by decide)
theorem bind_end (T:Prog K mg) (s:Shared) (us:List Value) (hu:us.length=(["calls"]:List Str).length):BindsTo s T.answers.fd ⟨us,[]⟩ ((["calls"]:List Str).zip us):=by
 obtain ⟨oc,od,kV,doc,pm,an,cdv,ct,osl,hfd,_,_⟩:=T.answers.fn.ex
 rw [hfd]
 match us,hu with
 | [u],_=>exact .of_eq rfl
end
end BM
end
section
namespace PySem.W.Fast
theorem tw2274169047069465055:True:=⟨⟩
theorem tw18117295448808512716:True:=⟨⟩
theorem tw8239305178456620791:True:=⟨⟩
theorem tw1206434283882982459:True:=⟨⟩
theorem tw17132098868185441639:True:=⟨⟩
theorem tw3833774487927226774:True:=⟨⟩
theorem tw4072847209089326716:True:=⟨⟩
theorem tw5508577176375229737:True:=⟨⟩
theorem tw17035222887907456309:True:=⟨⟩
theorem tw9784125792046397073:True:=⟨⟩
theorem tw10883578436111118362:True:=⟨⟩
theorem tw1386897336622559217:True:=⟨⟩
theorem tw10454106949739445321:True:=⟨⟩
theorem tw15549561136915345885:True:=⟨⟩
theorem tw7724277282779740999:True:=⟨⟩
theorem tw3623125741588694156:True:=⟨⟩
theorem tw11715264909988539518:True:=⟨⟩
theorem tw7618041121352534956:True:=⟨⟩
theorem tw17046244412440369619:True:=⟨⟩
theorem tw5806713927106753626:True:=⟨⟩
theorem tw22342456857494980:True:=⟨⟩
theorem tw9791372931616787743:True:=⟨⟩
theorem tw13228385087399401178:True:=⟨⟩
theorem tw10048489649122567518:True:=⟨⟩
theorem tw11054773425638114940:True:=⟨⟩
theorem tw13992260415938896201:True:=⟨⟩
theorem tw14878342730678696470:True:=⟨⟩
theorem tw807618622377428367:True:=⟨⟩
theorem tw17974889417810904658:True:=⟨⟩
theorem tw2092345983397169836:True:=⟨⟩
theorem tw9548545177086713564:True:=⟨⟩
theorem tw3477344550652308814:True:=⟨⟩
theorem tw3059680515157963777:True:=⟨⟩
theorem tw17178243519224108723:True:=⟨⟩
theorem tw11629143563258470055:True:=⟨⟩
theorem tw14561203432301302154:True:=⟨⟩
theorem tw12040176077713184463:True:=⟨⟩
theorem tw15941618001504929018:True:=⟨⟩
theorem tw3710700879358955460:True:=⟨⟩
theorem tw5061854134966929010:True:=⟨⟩
theorem tw13869502376734578204:True:=⟨⟩
theorem tw4145931285495614562:True:=⟨⟩
theorem tw13896706340540094744:True:=⟨⟩
theorem tw13158207867315639521:True:=⟨⟩
theorem tw11446984762907330476:True:=⟨⟩
theorem tw1707476452224889460:True:=⟨⟩
theorem tw11078700739590201538:True:=⟨⟩
theorem tw10766218145084486328:True:=⟨⟩
theorem tw12779304858177984189:True:=⟨⟩
theorem tw3737730709367778420:True:=⟨⟩
theorem tw7845683838835105794:True:=⟨⟩
theorem tw14639950847403148013:True:=⟨⟩
theorem tw5781071212133545178:True:=⟨⟩
theorem tw3934472008114221600:True:=⟨⟩
theorem tw3637953851545575252:True:=⟨⟩
theorem tw16060171374242131438:True:=⟨⟩
theorem tw16489628679240333152:True:=⟨⟩
theorem tw17192477240054985248:True:=⟨⟩
theorem tw16302895005448334410:True:=⟨⟩
theorem tw10333566898342958291:True:=⟨⟩
theorem tw12017870391069245399:True:=⟨⟩
theorem tw5360477811631070539:True:=⟨⟩
theorem tw8828648238628470204:True:=⟨⟩
theorem tw17429266219817043719:True:=⟨⟩
theorem tw2353974548366543506:True:=⟨⟩
theorem tw15681703516098980501:True:=⟨⟩
theorem tw7395249730376696787:True:=⟨⟩
theorem tw18285918276229909889:True:=⟨⟩
theorem tw1027153829608197886:True:=⟨⟩
theorem tw6235216212658106176:True:=⟨⟩
theorem tw9311675050859448668:True:=⟨⟩
theorem tw2305717948585797937:True:=⟨⟩
theorem tw10285953409602348623:True:=⟨⟩
theorem tw1691348977746808616:True:=⟨⟩
theorem tw3103896702681864104:True:=⟨⟩
theorem tw13848905319333268853:True:=⟨⟩
theorem tw10438470396297284470:True:=⟨⟩
theorem tw9077215782790699177:True:=⟨⟩
theorem tw7929090159441894153:True:=⟨⟩
theorem tw13139844959591721852:True:=⟨⟩
theorem tw9298376931357716396:True:=⟨⟩
theorem tw17337090470963343379:True:=⟨⟩
theorem tw11748782323634975465:True:=⟨⟩
theorem tw17755297453674264673:True:=⟨⟩
theorem tw262040505813122472:True:=⟨⟩
theorem tw17633173860199808609:True:=⟨⟩
theorem tw9242481528328430379:True:=⟨⟩
theorem tw11061463369647498048:True:=⟨⟩
theorem tw11205595820425110410:True:=⟨⟩
theorem tw666078774978570654:True:=⟨⟩
theorem tw4730483294340395011:True:=⟨⟩
theorem tw16093995384931493361:True:=⟨⟩
theorem tw6830950491836474012:True:=⟨⟩
theorem tw2676140316778434621:True:=⟨⟩
theorem tw1134810176183230892:True:=⟨⟩
theorem tw920031434952876987:True:=⟨⟩
theorem tw7258826955457866501:True:=⟨⟩
theorem tw17224793623116881093:True:=⟨⟩
theorem tw2092349728078860318:True:=⟨⟩
theorem tw7111184503306878887:True:=⟨⟩
theorem tw13020631303534337984:True:=⟨⟩
theorem tw8940656121773860548:True:=⟨⟩
theorem tw14746131832988035515:True:=⟨⟩
theorem tw887760256980173967:True:=⟨⟩
theorem tw1369135335650715502:True:=⟨⟩
theorem tw12711427233877437720:True:=⟨⟩
theorem tw7813519782390892393:True:=⟨⟩
theorem tw3273610108239063097:True:=⟨⟩
theorem tw7421809463084292824:True:=⟨⟩
theorem tw10793089786152421018:True:=⟨⟩
theorem tw16516672981335651406:True:=⟨⟩
theorem tw5535352868985351074:True:=⟨⟩
theorem tw2314085145655618941:True:=⟨⟩
theorem tw95519053188068541:True:=⟨⟩
theorem tw4003319487989592298:True:=⟨⟩
theorem tw6730942759202039479:True:=⟨⟩
theorem tw9391002540731617305:True:=⟨⟩
theorem tw16967998780719687338:True:=⟨⟩
theorem tw11418539977506356780:True:=⟨⟩
theorem tw16463268160955947561:True:=⟨⟩
theorem tw1415398349904894808:True:=⟨⟩
theorem tw14546929710455354561:True:=⟨⟩
theorem tw11282115544443739161:True:=⟨⟩
theorem tw17375426823612540582:True:=⟨⟩
theorem tw14506000510264805071:True:=⟨⟩
theorem tw4076061333470167760:True:=⟨⟩
theorem tw4084529093186472328:True:=⟨⟩
theorem tw3596337750253151621:True:=⟨⟩
theorem tw14413894154967976161:True:=⟨⟩
theorem tw11122953028829404828:True:=⟨⟩
theorem tw15534207939001286040:True:=⟨⟩
theorem tw16831616629710604167:True:=⟨⟩
theorem tw807571358197239278:True:=⟨⟩
theorem tw1539443017090510742:True:=⟨⟩
theorem tw1721116233614469776:True:=⟨⟩
theorem tw5484934967625521835:True:=⟨⟩
theorem tw16431230796686609365:True:=⟨⟩
theorem tw15588700439908825534:True:=⟨⟩
theorem tw9624213156897626969:True:=⟨⟩
theorem tw9830929274707609008:True:=⟨⟩
theorem tw10968097592325191479:True:=⟨⟩
theorem tw11452293492270494523:True:=⟨⟩
theorem tw1466284042347505873:True:=⟨⟩
theorem tw5604044835185500116:True:=⟨⟩
theorem tw3661611278096185473:True:=⟨⟩
theorem tw9995697523420822258:True:=⟨⟩
theorem tw12848173429790205915:True:=⟨⟩
theorem tw16400888930865831453:True:=⟨⟩
theorem tw17940742840153194887:True:=⟨⟩
theorem tw9074198447245691651:True:=⟨⟩
theorem tw4121801619661682432:True:=⟨⟩
theorem tw11846893897627724643:True:=⟨⟩
theorem tw6701119490867335819:True:=⟨⟩
theorem tw5084761163344994052:True:=⟨⟩
theorem tw8753863479063327859:True:=⟨⟩
theorem tw3052289922598666300:True:=⟨⟩
theorem tw12074786008100034811:True:=⟨⟩
theorem tw17778674436331090038:True:=⟨⟩
theorem tw5536128631113116290:True:=⟨⟩
theorem tw12696835118247251184:True:=⟨⟩
theorem tw14924013575291951679:True:=⟨⟩
theorem tw15117329867750859024:True:=⟨⟩
theorem tw17602348261143604912:True:=⟨⟩
theorem tw4484127696756161741:True:=⟨⟩
theorem tw5883426072436401381:True:=⟨⟩
theorem tw13372625120223560259:True:=⟨⟩
theorem tw8340025984809608332:True:=⟨⟩
theorem tw10950736754126897003:True:=⟨⟩
theorem tw7835536188628689763:True:=⟨⟩
theorem tw653574159619304409:True:=⟨⟩
theorem tw4947675332799692891:True:=⟨⟩
theorem tw4904830053034156116:True:=⟨⟩
theorem tw6494022128724087528:True:=⟨⟩
theorem tw3463652415151222160:True:=⟨⟩
theorem tw8607799838870364860:True:=⟨⟩
theorem tw15363518392925772023:True:=⟨⟩
theorem tw1086139788738163603:True:=⟨⟩
theorem tw2291926749211849732:True:=⟨⟩
theorem tw9348821105301184491:True:=⟨⟩
theorem tw2468722384683775063:True:=⟨⟩
theorem tw10977528290632943061:True:=⟨⟩
theorem tw925680929880931519:True:=⟨⟩
theorem tw3736666415433533007:True:=⟨⟩
theorem tw16543444219442439267:True:=⟨⟩
theorem tw12738409072761604766:True:=⟨⟩
theorem tw11140922519159342492:True:=⟨⟩
theorem tw10602051223855683776:True:=⟨⟩
theorem tw10054549077371887935:True:=⟨⟩
theorem tw8938412391713056663:True:=⟨⟩
theorem tw16966509761067243633:True:=⟨⟩
theorem tw613104467948776195:True:=⟨⟩
theorem tw3926241492619872285:True:=⟨⟩
theorem tw8697797635104294882:True:=⟨⟩
theorem tw16359853462280540506:True:=⟨⟩
theorem tw6734189919186270125:True:=⟨⟩
theorem tw13567676248625756830:True:=⟨⟩
theorem tw16488111585473176423:True:=⟨⟩
theorem tw12588270296369372812:True:=⟨⟩
theorem tw10423481792311383285:True:=⟨⟩
theorem tw4166314007653071473:True:=⟨⟩
theorem tw11595491380093413185:True:=⟨⟩
theorem tw12977268178001730274:True:=⟨⟩
theorem tw2528614332441093799:True:=⟨⟩
theorem tw14004707806266301803:True:=⟨⟩
theorem tw7993208987741752954:True:=⟨⟩
theorem tw13258281450023758863:True:=⟨⟩
theorem tw14528466759088589356:True:=⟨⟩
theorem tw12175037112464512803:True:=⟨⟩
theorem tw17636823250999256769:True:=⟨⟩
theorem tw2096702223789069699:True:=⟨⟩
theorem tw7800612992514545075:True:=⟨⟩
theorem tw10020021628855959124:True:=⟨⟩
theorem tw5824279461670867017:True:=⟨⟩
theorem tw15740406072973182874:True:=⟨⟩
theorem tw11902591556032280466:True:=⟨⟩
theorem tw2910243576141179046:True:=⟨⟩
theorem tw2644690088630669411:True:=⟨⟩
theorem tw213375029657403643:True:=⟨⟩
theorem tw14431701718249825438:True:=⟨⟩
theorem tw12171090230434092786:True:=⟨⟩
theorem tw16587711814129954881:True:=⟨⟩
theorem tw16393499423712859929:True:=⟨⟩
theorem tw11227151552664134247:True:=⟨⟩
theorem tw4959009566433025747:True:=⟨⟩
theorem tw9722925171456925500:True:=⟨⟩
theorem tw6666971841807658160:True:=⟨⟩
theorem tw12853740023467493608:True:=⟨⟩
theorem tw14011978691644520124:True:=⟨⟩
theorem tw10050409080131955510:True:=⟨⟩
theorem tw8016080471265940190:True:=⟨⟩
theorem tw15786722639337320292:True:=⟨⟩
theorem tw9577650210790141935:True:=⟨⟩
theorem tw14373577910316264515:True:=⟨⟩
theorem tw15469004008189442715:True:=⟨⟩
theorem tw12415087066709982024:True:=⟨⟩
theorem tw16365653799058596210:True:=⟨⟩
theorem tw17418702147118830783:True:=⟨⟩
theorem tw18133546001520776362:True:=⟨⟩
theorem tw15483866549103345127:True:=⟨⟩
theorem tw7601959338454572733:True:=⟨⟩
theorem tw7081883214625935697:True:=⟨⟩
theorem tw997418168018864773:True:=⟨⟩
theorem tw16816073864464992311:True:=⟨⟩
theorem tw5339552351908661327:True:=⟨⟩
theorem tw8566169950512585511:True:=⟨⟩
theorem tw13224872762074023006:True:=⟨⟩
theorem tw2108337148476697023:True:=⟨⟩
theorem tw8451796483686793489:True:=⟨⟩
theorem tw14838538168382254584:True:=⟨⟩
theorem tw8308497086533553833:True:=⟨⟩
theorem tw14921519656760677513:True:=⟨⟩
theorem tw1518892693808438828:True:=⟨⟩
theorem tw8931326747008791246:True:=⟨⟩
theorem tw7508859381589976412:True:=⟨⟩
theorem tw2373303904962963614:True:=⟨⟩
theorem tw18059342039977193162:True:=⟨⟩
theorem tw2657616473393297081:True:=⟨⟩
theorem tw7409574038831769876:True:=⟨⟩
theorem tw16216270337174882698:True:=⟨⟩
theorem tw18094755270529611262:True:=⟨⟩
theorem tw14992750516926058607:True:=⟨⟩
theorem tw1107402291672209790:True:=⟨⟩
theorem tw7741820283223993393:True:=⟨⟩
theorem tw8915897369284677471:True:=⟨⟩
theorem tw8653730543268556561:True:=⟨⟩
theorem tw9145932052568372007:True:=⟨⟩
theorem tw9983659752040919373:True:=⟨⟩
theorem tw5300012172654451945:True:=⟨⟩
theorem tw5031448050317579956:True:=⟨⟩
theorem tw8937152608028892570:True:=⟨⟩
theorem tw11856553600872489413:True:=⟨⟩
theorem tw16931480304835854619:True:=⟨⟩
theorem tw8254266618029841827:True:=⟨⟩
theorem tw2690657807471754234:True:=⟨⟩
theorem tw9692587252417592230:True:=⟨⟩
theorem tw762387980686039312:True:=⟨⟩
theorem tw5881105642341025642:True:=⟨⟩
theorem tw13256754029870281407:True:=⟨⟩
theorem tw10526455427807282614:True:=⟨⟩
theorem tw15623115920403668558:True:=⟨⟩
theorem tw6249094733234956708:True:=⟨⟩
theorem tw7292193848259549996:True:=⟨⟩
theorem tw11004873128641411230:True:=⟨⟩
theorem tw4978188223253159563:True:=⟨⟩
theorem tw15106844950638701311:True:=⟨⟩
theorem tw16403980175364630224:True:=⟨⟩
theorem tw17526051178903045741:True:=⟨⟩
theorem tw18310096142661356733:True:=⟨⟩
theorem tw8195456349478197872:True:=⟨⟩
theorem tw5282663962473577375:True:=⟨⟩
theorem tw8422144577209520686:True:=⟨⟩
theorem tw7785023334359567782:True:=⟨⟩
end PySem.W.Fast
open PySem PySem.W PyProof.Rows
set_option Elab.async false
set_option maxRecDepth 100000 in
set_option maxHeartbeats 0 in
theorem PySem.Challenge.cw_bagsmade_s01_answers_holds : PySem.Challenge.rw_bagsmade_s01_answers.Holds := by
 w_on;k_headS;(case hw=>exact ⟨[.list [.int 19]],by decide +kernel,by decide +kernel⟩)
 k_fillS
 refine L2.Q7 (r:=PySem.Challenge.rw_bagsmade_s01_answers) (k:=40) (CX:=L2.CX0) (ps:=["calls"]) (sp:=BM.spE) (by decide +kernel) rfl rfl ⟨rfl,by decide,by decide⟩ (fun w h Y=>PySem.W.kIn_of Y) ?F ?S (fun _ _ _ _ z=>z)
 case F=>
  intro w mg fa h Y KX G hmg
  have L_count_in:Nonempty (BM.Lk (PySem.Challenge.cw_bagsmade_s01_answers_holds.heap_1 w.params) mg "count_in" BM.vB ["stacks","good"]):=by
   refine' BM.zH KX G ?a ?l ?c ?k ?b
   (case a=>k_is);(case l=>k_is);(case c=>k_is);(case k=>k_is)
   case b=>exact fun _ _ _ _ _ _ us hl=>match us,hl with | [_,_],_=>rfl
  have L_space_in:Nonempty (BM.Lk (PySem.Challenge.cw_bagsmade_s01_answers_holds.heap_1 w.params) mg "space_in" BM.vq ["stacks","good","size"]):=by
   refine' BM.zH KX G ?a ?l ?c ?k ?b
   (case a=>k_is);(case l=>k_is);(case c=>k_is);(case k=>k_is)
   case b=>exact fun _ _ _ _ _ _ us hl=>match us,hl with | [_,_,_],_=>rfl
  have L_filled_up:Nonempty (BM.Lk (PySem.Challenge.cw_bagsmade_s01_answers_holds.heap_1 w.params) mg "filled_up" BM.yE ["stacks","good","size","many"]):=by
   refine' BM.zH KX G ?a ?l ?c ?k ?b
   (case a=>k_is);(case l=>k_is);(case c=>k_is);(case k=>k_is)
   case b=>exact fun _ _ _ _ _ _ us hl=>match us,hl with | [_,_,_,_],_=>rfl
  have L_emptied:Nonempty (BM.Lk (PySem.Challenge.cw_bagsmade_s01_answers_holds.heap_1 w.params) mg "emptied" BM.kK ["stacks","good","many"]):=by
   refine' BM.zH KX G ?a ?l ?c ?k ?b
   (case a=>k_is);(case l=>k_is);(case c=>k_is);(case k=>k_is)
   case b=>exact fun _ _ _ _ _ _ us hl=>match us,hl with | [_,_,_],_=>rfl
  have L_lacks_good:Nonempty (BM.Lk (PySem.Challenge.cw_bagsmade_s01_answers_holds.heap_1 w.params) mg "lacks_good" BM.w6 ["state","good"]):=by
   refine' BM.zH KX G ?a ?l ?c ?k ?b
   (case a=>k_is);(case l=>k_is);(case c=>k_is);(case k=>k_is)
   case b=>exact fun _ _ _ _ _ _ us hl=>match us,hl with | [_,_],_=>rfl
  have L_lacks_bag:Nonempty (BM.Lk (PySem.Challenge.cw_bagsmade_s01_answers_holds.heap_1 w.params) mg "lacks_bag" BM.yC ["state","b"]):=by
   refine' BM.zH KX G ?a ?l ?c ?k ?b
   (case a=>k_is);(case l=>k_is);(case c=>k_is);(case k=>k_is)
   case b=>exact fun _ _ _ _ _ _ us hl=>match us,hl with | [_,_],_=>rfl
  have L_lacks_recipe:Nonempty (BM.Lk (PySem.Challenge.cw_bagsmade_s01_answers_holds.heap_1 w.params) mg "lacks_recipe" BM.qO ["state","recipe"]):=by
   refine' BM.zH KX G ?a ?l ?c ?k ?b
   (case a=>k_is);(case l=>k_is);(case c=>k_is);(case k=>k_is)
   case b=>exact fun _ _ _ _ _ _ us hl=>match us,hl with | [_,_],_=>rfl
  have L_lacks_machine:Nonempty (BM.Lk (PySem.Challenge.cw_bagsmade_s01_answers_holds.heap_1 w.params) mg "lacks_machine" BM.qx ["state","machine"]):=by
   refine' BM.zH KX G ?a ?l ?c ?k ?b
   (case a=>k_is);(case l=>k_is);(case c=>k_is);(case k=>k_is)
   case b=>exact fun _ _ _ _ _ _ us hl=>match us,hl with | [_,_],_=>rfl
  have L_bags_around:Nonempty (BM.Lk (PySem.Challenge.cw_bagsmade_s01_answers_holds.heap_1 w.params) mg "bags_around" BM.wu ["state","b"]):=by
   refine' BM.zH KX G ?a ?l ?c ?k ?b
   (case a=>k_is);(case l=>k_is);(case c=>k_is);(case k=>k_is)
   case b=>exact fun _ _ _ _ _ _ us hl=>match us,hl with | [_,_],_=>rfl
  have L_weight_of_bag:Nonempty (BM.Lk (PySem.Challenge.cw_bagsmade_s01_answers_holds.heap_1 w.params) mg "weight_of_bag" BM.qw ["state","b"]):=by
   refine' BM.zH KX G ?a ?l ?c ?k ?b
   (case a=>k_is);(case l=>k_is);(case c=>k_is);(case k=>k_is)
   case b=>exact fun _ _ _ _ _ _ us hl=>match us,hl with | [_,_],_=>rfl
  have L_places_taken:Nonempty (BM.Lk (PySem.Challenge.cw_bagsmade_s01_answers_holds.heap_1 w.params) mg "places_taken" BM.qN ["state","b"]):=by
   refine' BM.zH KX G ?a ?l ?c ?k ?b
   (case a=>k_is);(case l=>k_is);(case c=>k_is);(case k=>k_is)
   case b=>exact fun _ _ _ _ _ _ us hl=>match us,hl with | [_,_],_=>rfl
  have L_weight_left:Nonempty (BM.Lk (PySem.Challenge.cw_bagsmade_s01_answers_holds.heap_1 w.params) mg "weight_left" BM.wj ["state","b"]):=by
   refine' BM.zH KX G ?a ?l ?c ?k ?b
   (case a=>k_is);(case l=>k_is);(case c=>k_is);(case k=>k_is)
   case b=>exact fun _ _ _ _ _ _ us hl=>match us,hl with | [_,_],_=>rfl
  have L_how_many_fit:Nonempty (BM.Lk (PySem.Challenge.cw_bagsmade_s01_answers_holds.heap_1 w.params) mg "how_many_fit" BM.qP ["state","b","good"]):=by
   refine' BM.zH KX G ?a ?l ?c ?k ?b
   (case a=>k_is);(case l=>k_is);(case c=>k_is);(case k=>k_is)
   case b=>exact fun _ _ _ _ _ _ us hl=>match us,hl with | [_,_,_],_=>rfl
  have L_bag_fits:Nonempty (BM.Lk (PySem.Challenge.cw_bagsmade_s01_answers_holds.heap_1 w.params) mg "bag_fits" BM.vC ["state","b","weight"]):=by
   refine' BM.zH KX G ?a ?l ?c ?k ?b
   (case a=>k_is);(case l=>k_is);(case c=>k_is);(case k=>k_is)
   case b=>exact fun _ _ _ _ _ _ us hl=>match us,hl with | [_,_,_],_=>rfl
  have L_add_load:Nonempty (BM.Lk (PySem.Challenge.cw_bagsmade_s01_answers_holds.heap_1 w.params) mg "add_load" BM.vE ["state","b","weight"]):=by
   refine' BM.zH KX G ?a ?l ?c ?k ?b
   (case a=>k_is);(case l=>k_is);(case c=>k_is);(case k=>k_is)
   case b=>exact fun _ _ _ _ _ _ us hl=>match us,hl with | [_,_,_],_=>rfl
  have L_put_in:Nonempty (BM.Lk (PySem.Challenge.cw_bagsmade_s01_answers_holds.heap_1 w.params) mg "put_in" BM.u6 ["state","b","good","many"]):=by
   refine' BM.zH KX G ?a ?l ?c ?k ?b
   (case a=>k_is);(case l=>k_is);(case c=>k_is);(case k=>k_is)
   case b=>exact fun _ _ _ _ _ _ us hl=>match us,hl with | [_,_,_,_],_=>rfl
  have L_take_out:Nonempty (BM.Lk (PySem.Challenge.cw_bagsmade_s01_answers_holds.heap_1 w.params) mg "take_out" BM.vp ["state","b","good","many"]):=by
   refine' BM.zH KX G ?a ?l ?c ?k ?b
   (case a=>k_is);(case l=>k_is);(case c=>k_is);(case k=>k_is)
   case b=>exact fun _ _ _ _ _ _ us hl=>match us,hl with | [_,_,_,_],_=>rfl
  have L_put_if_it_fits:Nonempty (BM.Lk (PySem.Challenge.cw_bagsmade_s01_answers_holds.heap_1 w.params) mg "put_if_it_fits" BM.j7 ["state","b","good","many"]):=by
   refine' BM.zH KX G ?a ?l ?c ?k ?b
   (case a=>k_is);(case l=>k_is);(case c=>k_is);(case k=>k_is)
   case b=>exact fun _ _ _ _ _ _ us hl=>match us,hl with | [_,_,_,_],_=>rfl
  have L_take_needs:Nonempty (BM.Lk (PySem.Challenge.cw_bagsmade_s01_answers_holds.heap_1 w.params) mg "take_needs" BM.w4 ["state","b","needs","times"]):=by
   refine' BM.zH KX G ?a ?l ?c ?k ?b
   (case a=>k_is);(case l=>k_is);(case c=>k_is);(case k=>k_is)
   case b=>exact fun _ _ _ _ _ _ us hl=>match us,hl with | [_,_,_,_],_=>rfl
  have L_put_back:Nonempty (BM.Lk (PySem.Challenge.cw_bagsmade_s01_answers_holds.heap_1 w.params) mg "put_back" BM.vt ["state","b","stacks","held"]):=by
   refine' BM.zH KX G ?a ?l ?c ?k ?b
   (case a=>k_is);(case l=>k_is);(case c=>k_is);(case k=>k_is)
   case b=>exact fun _ _ _ _ _ _ us hl=>match us,hl with | [_,_,_,_],_=>rfl
  have L_lay_bag:Nonempty (BM.Lk (PySem.Challenge.cw_bagsmade_s01_answers_holds.heap_1 w.params) mg "lay_bag" BM.kI ["state","a","b"]):=by
   refine' BM.zH KX G ?a ?l ?c ?k ?b
   (case a=>k_is);(case l=>k_is);(case c=>k_is);(case k=>k_is)
   case b=>exact fun _ _ _ _ _ _ us hl=>match us,hl with | [_,_,_],_=>rfl
  have L_new_bag:Nonempty (BM.Lk (PySem.Challenge.cw_bagsmade_s01_answers_holds.heap_1 w.params) mg "new_bag" BM.kH ["state","b","room","own_weight","places"]):=by
   refine' BM.zH KX G ?a ?l ?c ?k ?b
   (case a=>k_is);(case l=>k_is);(case c=>k_is);(case k=>k_is)
   case b=>exact fun _ _ _ _ _ _ us hl=>match us,hl with | [_,_,_,_,_],_=>rfl
  have L_put:Nonempty (BM.Lk (PySem.Challenge.cw_bagsmade_s01_answers_holds.heap_1 w.params) mg "put" BM.s_put ["state","b","good","many"]):=by
   refine' BM.zH KX G ?a ?l ?c ?k ?b
   (case a=>k_is);(case l=>k_is);(case c=>k_is);(case k=>k_is)
   case b=>exact fun _ _ _ _ _ _ us hl=>match us,hl with | [_,_,_,_],_=>rfl
  have L_take:Nonempty (BM.Lk (PySem.Challenge.cw_bagsmade_s01_answers_holds.heap_1 w.params) mg "take" BM.Wu ["state","b","good","many"]):=by
   refine' BM.zH KX G ?a ?l ?c ?k ?b
   (case a=>k_is);(case l=>k_is);(case c=>k_is);(case k=>k_is)
   case b=>exact fun _ _ _ _ _ _ us hl=>match us,hl with | [_,_,_,_],_=>rfl
  have L_move:Nonempty (BM.Lk (PySem.Challenge.cw_bagsmade_s01_answers_holds.heap_1 w.params) mg "move" BM.Wv ["state","a","b","good","many"]):=by
   refine' BM.zH KX G ?a ?l ?c ?k ?b
   (case a=>k_is);(case l=>k_is);(case c=>k_is);(case k=>k_is)
   case b=>exact fun _ _ _ _ _ _ us hl=>match us,hl with | [_,_,_,_,_],_=>rfl
  have L_carry:Nonempty (BM.Lk (PySem.Challenge.cw_bagsmade_s01_answers_holds.heap_1 w.params) mg "carry" BM.Ji ["state","a","b"]):=by
   refine' BM.zH KX G ?a ?l ?c ?k ?b
   (case a=>k_is);(case l=>k_is);(case c=>k_is);(case k=>k_is)
   case b=>exact fun _ _ _ _ _ _ us hl=>match us,hl with | [_,_,_],_=>rfl
  have L_tell_stacks:Nonempty (BM.Lk (PySem.Challenge.cw_bagsmade_s01_answers_holds.heap_1 w.params) mg "tell_stacks" BM.wl ["state","b"]):=by
   refine' BM.zH KX G ?a ?l ?c ?k ?b
   (case a=>k_is);(case l=>k_is);(case c=>k_is);(case k=>k_is)
   case b=>exact fun _ _ _ _ _ _ us hl=>match us,hl with | [_,_],_=>rfl
  have L_tell_load:Nonempty (BM.Lk (PySem.Challenge.cw_bagsmade_s01_answers_holds.heap_1 w.params) mg "tell_load" BM.yy ["state","b"]):=by
   refine' BM.zH KX G ?a ?l ?c ?k ?b
   (case a=>k_is);(case l=>k_is);(case c=>k_is);(case k=>k_is)
   case b=>exact fun _ _ _ _ _ _ us hl=>match us,hl with | [_,_],_=>rfl
  have L_tell_fits:Nonempty (BM.Lk (PySem.Challenge.cw_bagsmade_s01_answers_holds.heap_1 w.params) mg "tell_fits" BM.yz ["state","b","good"]):=by
   refine' BM.zH KX G ?a ?l ?c ?k ?b
   (case a=>k_is);(case l=>k_is);(case c=>k_is);(case k=>k_is)
   case b=>exact fun _ _ _ _ _ _ us hl=>match us,hl with | [_,_,_],_=>rfl
  have L_cost_at:Nonempty (BM.Lk (PySem.Challenge.cw_bagsmade_s01_answers_holds.heap_1 w.params) mg "cost_at" BM.kM ["recipe","prices"]):=by
   refine' BM.zH KX G ?a ?l ?c ?k ?b
   (case a=>k_is);(case l=>k_is);(case c=>k_is);(case k=>k_is)
   case b=>exact fun _ _ _ _ _ _ us hl=>match us,hl with | [_,_],_=>rfl
  have L_cost_by_recipe:Nonempty (BM.Lk (PySem.Challenge.cw_bagsmade_s01_answers_holds.heap_1 w.params) mg "cost_by_recipe" BM.j9 ["recipe","costs"]):=by
   refine' BM.zH KX G ?a ?l ?c ?k ?b
   (case a=>k_is);(case l=>k_is);(case c=>k_is);(case k=>k_is)
   case b=>exact fun _ _ _ _ _ _ us hl=>match us,hl with | [_,_],_=>rfl
  have L_least_costs:Nonempty (BM.Lk (PySem.Challenge.cw_bagsmade_s01_answers_holds.heap_1 w.params) mg "least_costs" BM.wo ["goods","recipes"]):=by
   refine' BM.zH KX G ?a ?l ?c ?k ?b
   (case a=>k_is);(case l=>k_is);(case c=>k_is);(case k=>k_is)
   case b=>exact fun _ _ _ _ _ _ us hl=>match us,hl with | [_,_],_=>rfl
  have L_are_fair:Nonempty (BM.Lk (PySem.Challenge.cw_bagsmade_s01_answers_holds.heap_1 w.params) mg "are_fair" BM.vD ["goods","recipes","prices"]):=by
   refine' BM.zH KX G ?a ?l ?c ?k ?b
   (case a=>k_is);(case l=>k_is);(case c=>k_is);(case k=>k_is)
   case b=>exact fun _ _ _ _ _ _ us hl=>match us,hl with | [_,_,_],_=>rfl
  have L_tell_goods:Nonempty (BM.Lk (PySem.Challenge.cw_bagsmade_s01_answers_holds.heap_1 w.params) mg "tell_goods" BM.wX ["state","told"]):=by
   refine' BM.zH KX G ?a ?l ?c ?k ?b
   (case a=>k_is);(case l=>k_is);(case c=>k_is);(case k=>k_is)
   case b=>exact fun _ _ _ _ _ _ us hl=>match us,hl with | [_,_],_=>rfl
  have L_tell_recipe:Nonempty (BM.Lk (PySem.Challenge.cw_bagsmade_s01_answers_holds.heap_1 w.params) mg "tell_recipe" BM.wm ["state","good","cost","ticks","told"]):=by
   refine' BM.zH KX G ?a ?l ?c ?k ?b
   (case a=>k_is);(case l=>k_is);(case c=>k_is);(case k=>k_is)
   case b=>exact fun _ _ _ _ _ _ us hl=>match us,hl with | [_,_,_,_,_],_=>rfl
  have L_tell_costs:Nonempty (BM.Lk (PySem.Challenge.cw_bagsmade_s01_answers_holds.heap_1 w.params) mg "tell_costs" BM.wZ ["state"]):=by
   refine' BM.zH KX G ?a ?l ?c ?k ?b
   (case a=>k_is);(case l=>k_is);(case c=>k_is);(case k=>k_is)
   case b=>exact fun _ _ _ _ _ _ us hl=>match us,hl with | [_],_=>rfl
  have L_tell_fair:Nonempty (BM.Lk (PySem.Challenge.cw_bagsmade_s01_answers_holds.heap_1 w.params) mg "tell_fair" BM.yB ["state","prices"]):=by
   refine' BM.zH KX G ?a ?l ?c ?k ?b
   (case a=>k_is);(case l=>k_is);(case c=>k_is);(case k=>k_is)
   case b=>exact fun _ _ _ _ _ _ us hl=>match us,hl with | [_,_],_=>rfl
  have L_let_a_tick_go_by:Nonempty (BM.Lk (PySem.Challenge.cw_bagsmade_s01_answers_holds.heap_1 w.params) mg "let_a_tick_go_by" BM.jT ["state"]):=by
   refine' BM.zH KX G ?a ?l ?c ?k ?b
   (case a=>k_is);(case l=>k_is);(case c=>k_is);(case k=>k_is)
   case b=>exact fun _ _ _ _ _ _ us hl=>match us,hl with | [_],_=>rfl
  have L_act:Nonempty (BM.Lk (PySem.Challenge.cw_bagsmade_s01_answers_holds.heap_1 w.params) mg "act" BM.s_act ["state","machine"]):=by
   refine' BM.zH KX G ?a ?l ?c ?k ?b
   (case a=>k_is);(case l=>k_is);(case c=>k_is);(case k=>k_is)
   case b=>exact fun _ _ _ _ _ _ us hl=>match us,hl with | [_,_],_=>rfl
  have L_bring_out:Nonempty (BM.Lk (PySem.Challenge.cw_bagsmade_s01_answers_holds.heap_1 w.params) mg "bring_out" BM.yG ["state","machine"]):=by
   refine' BM.zH KX G ?a ?l ?c ?k ?b
   (case a=>k_is);(case l=>k_is);(case c=>k_is);(case k=>k_is)
   case b=>exact fun _ _ _ _ _ _ us hl=>match us,hl with | [_,_],_=>rfl
  have L_begin:Nonempty (BM.Lk (PySem.Challenge.cw_bagsmade_s01_answers_holds.heap_1 w.params) mg "begin" BM.Jj ["state","machine"]):=by
   refine' BM.zH KX G ?a ?l ?c ?k ?b
   (case a=>k_is);(case l=>k_is);(case c=>k_is);(case k=>k_is)
   case b=>exact fun _ _ _ _ _ _ us hl=>match us,hl with | [_,_],_=>rfl
  have L_new_machine:Nonempty (BM.Lk (PySem.Challenge.cw_bagsmade_s01_answers_holds.heap_1 w.params) mg "new_machine" BM.wn ["state","a","b","recipe"]):=by
   refine' BM.zH KX G ?a ?l ?c ?k ?b
   (case a=>k_is);(case l=>k_is);(case c=>k_is);(case k=>k_is)
   case b=>exact fun _ _ _ _ _ _ us hl=>match us,hl with | [_,_,_,_],_=>rfl
  have L_order:Nonempty (BM.Lk (PySem.Challenge.cw_bagsmade_s01_answers_holds.heap_1 w.params) mg "order" BM.Jh ["state","number","many"]):=by
   refine' BM.zH KX G ?a ?l ?c ?k ?b
   (case a=>k_is);(case l=>k_is);(case c=>k_is);(case k=>k_is)
   case b=>exact fun _ _ _ _ _ _ us hl=>match us,hl with | [_,_,_],_=>rfl
  have L_tick:Nonempty (BM.Lk (PySem.Challenge.cw_bagsmade_s01_answers_holds.heap_1 w.params) mg "tick" BM.Wt ["state","many"]):=by
   refine' BM.zH KX G ?a ?l ?c ?k ?b
   (case a=>k_is);(case l=>k_is);(case c=>k_is);(case k=>k_is)
   case b=>exact fun _ _ _ _ _ _ us hl=>match us,hl with | [_,_],_=>rfl
  have L_tell_state:Nonempty (BM.Lk (PySem.Challenge.cw_bagsmade_s01_answers_holds.heap_1 w.params) mg "tell_state" BM.wW ["state","number"]):=by
   refine' BM.zH KX G ?a ?l ?c ?k ?b
   (case a=>k_is);(case l=>k_is);(case c=>k_is);(case k=>k_is)
   case b=>exact fun _ _ _ _ _ _ us hl=>match us,hl with | [_,_],_=>rfl
  have L_plan_for:Nonempty (BM.Lk (PySem.Challenge.cw_bagsmade_s01_answers_holds.heap_1 w.params) mg "plan_for" BM.vw ["state","costs","b","good","many"]):=by
   refine' BM.zH KX G ?a ?l ?c ?k ?b
   (case a=>k_is);(case l=>k_is);(case c=>k_is);(case k=>k_is)
   case b=>exact fun _ _ _ _ _ _ us hl=>match us,hl with | [_,_,_,_,_],_=>rfl
  have L_meet:Nonempty (BM.Lk (PySem.Challenge.cw_bagsmade_s01_answers_holds.heap_1 w.params) mg "meet" BM.Ww ["state","costs","plan","good","many"]):=by
   refine' BM.zH KX G ?a ?l ?c ?k ?b
   (case a=>k_is);(case l=>k_is);(case c=>k_is);(case k=>k_is)
   case b=>exact fun _ _ _ _ _ _ us hl=>match us,hl with | [_,_,_,_,_],_=>rfl
  have L_use_stock:Nonempty (BM.Lk (PySem.Challenge.cw_bagsmade_s01_answers_holds.heap_1 w.params) mg "use_stock" BM.yw ["plan","good","many"]):=by
   refine' BM.zH KX G ?a ?l ?c ?k ?b
   (case a=>k_is);(case l=>k_is);(case c=>k_is);(case k=>k_is)
   case b=>exact fun _ _ _ _ _ _ us hl=>match us,hl with | [_,_,_],_=>rfl
  have L_first_recipe_at_cost:Nonempty (BM.Lk (PySem.Challenge.cw_bagsmade_s01_answers_holds.heap_1 w.params) mg "first_recipe_at_cost" BM.jB ["recipes","costs","good"]):=by
   refine' BM.zH KX G ?a ?l ?c ?k ?b
   (case a=>k_is);(case l=>k_is);(case c=>k_is);(case k=>k_is)
   case b=>exact fun _ _ _ _ _ _ us hl=>match us,hl with | [_,_,_],_=>rfl
  have L_cost_of_steps:Nonempty (BM.Lk (PySem.Challenge.cw_bagsmade_s01_answers_holds.heap_1 w.params) mg "cost_of_steps" BM.qy ["state","steps"]):=by
   refine' BM.zH KX G ?a ?l ?c ?k ?b
   (case a=>k_is);(case l=>k_is);(case c=>k_is);(case k=>k_is)
   case b=>exact fun _ _ _ _ _ _ us hl=>match us,hl with | [_,_],_=>rfl
  have L_carry_out:Nonempty (BM.Lk (PySem.Challenge.cw_bagsmade_s01_answers_holds.heap_1 w.params) mg "carry_out" BM.yF ["state","b","steps"]):=by
   refine' BM.zH KX G ?a ?l ?c ?k ?b
   (case a=>k_is);(case l=>k_is);(case c=>k_is);(case k=>k_is)
   case b=>exact fun _ _ _ _ _ _ us hl=>match us,hl with | [_,_,_],_=>rfl
  have L_do_step:Nonempty (BM.Lk (PySem.Challenge.cw_bagsmade_s01_answers_holds.heap_1 w.params) mg "do_step" BM.kL ["state","b","deed","which","many"]):=by
   refine' BM.zH KX G ?a ?l ?c ?k ?b
   (case a=>k_is);(case l=>k_is);(case c=>k_is);(case k=>k_is)
   case b=>exact fun _ _ _ _ _ _ us hl=>match us,hl with | [_,_,_,_,_],_=>rfl
  have L_tell_plan:Nonempty (BM.Lk (PySem.Challenge.cw_bagsmade_s01_answers_holds.heap_1 w.params) mg "tell_plan" BM.yx ["state","b","good","many"]):=by
   refine' BM.zH KX G ?a ?l ?c ?k ?b
   (case a=>k_is);(case l=>k_is);(case c=>k_is);(case k=>k_is)
   case b=>exact fun _ _ _ _ _ _ us hl=>match us,hl with | [_,_,_,_],_=>rfl
  have L_make:Nonempty (BM.Lk (PySem.Challenge.cw_bagsmade_s01_answers_holds.heap_1 w.params) mg "make" BM.Wx ["state","b","good","many"]):=by
   refine' BM.zH KX G ?a ?l ?c ?k ?b
   (case a=>k_is);(case l=>k_is);(case c=>k_is);(case k=>k_is)
   case b=>exact fun _ _ _ _ _ _ us hl=>match us,hl with | [_,_,_,_],_=>rfl
  have L_cut_into_calls:Nonempty (BM.Lk (PySem.Challenge.cw_bagsmade_s01_answers_holds.heap_1 w.params) mg "cut_into_calls" BM.j8 ["numbers"]):=by
   refine' BM.zH KX G ?a ?l ?c ?k ?b
   (case a=>k_is);(case l=>k_is);(case c=>k_is);(case k=>k_is)
   case b=>exact fun _ _ _ _ _ _ us hl=>match us,hl with | [_],_=>rfl
  have L_within_ranges:Nonempty (BM.Lk (PySem.Challenge.cw_bagsmade_s01_answers_holds.heap_1 w.params) mg "within_ranges" BM.qv ["call"]):=by
   refine' BM.zH KX G ?a ?l ?c ?k ?b
   (case a=>k_is);(case l=>k_is);(case c=>k_is);(case k=>k_is)
   case b=>exact fun _ _ _ _ _ _ us hl=>match us,hl with | [_],_=>rfl
  have L_each_within:Nonempty (BM.Lk (PySem.Challenge.cw_bagsmade_s01_answers_holds.heap_1 w.params) mg "each_within" BM.wq ["numbers","ranges"]):=by
   refine' BM.zH KX G ?a ?l ?c ?k ?b
   (case a=>k_is);(case l=>k_is);(case c=>k_is);(case k=>k_is)
   case b=>exact fun _ _ _ _ _ _ us hl=>match us,hl with | [_,_],_=>rfl
  have L_tell_count:Nonempty (BM.Lk (PySem.Challenge.cw_bagsmade_s01_answers_holds.heap_1 w.params) mg "tell_count" BM.wY ["state","good"]):=by
   refine' BM.zH KX G ?a ?l ?c ?k ?b
   (case a=>k_is);(case l=>k_is);(case c=>k_is);(case k=>k_is)
   case b=>exact fun _ _ _ _ _ _ us hl=>match us,hl with | [_,_],_=>rfl
  have L_tell_totals:Nonempty (BM.Lk (PySem.Challenge.cw_bagsmade_s01_answers_holds.heap_1 w.params) mg "tell_totals" BM.wk ["state"]):=by
   refine' BM.zH KX G ?a ?l ?c ?k ?b
   (case a=>k_is);(case l=>k_is);(case c=>k_is);(case k=>k_is)
   case b=>exact fun _ _ _ _ _ _ us hl=>match us,hl with | [_],_=>rfl
  have L_tell_find:Nonempty (BM.Lk (PySem.Challenge.cw_bagsmade_s01_answers_holds.heap_1 w.params) mg "tell_find" BM.yA ["state","good"]):=by
   refine' BM.zH KX G ?a ?l ?c ?k ?b
   (case a=>k_is);(case l=>k_is);(case c=>k_is);(case k=>k_is)
   case b=>exact fun _ _ _ _ _ _ us hl=>match us,hl with | [_,_],_=>rfl
  have L_answers:Nonempty (BM.Lk (PySem.Challenge.cw_bagsmade_s01_answers_holds.heap_1 w.params) mg "answers" BM.kN ["calls"]):=by
   refine' BM.zH KX G ?a ?l ?c ?k ?b
   (case a=>k_is);(case l=>k_is);(case c=>k_is);(case k=>k_is)
   case b=>exact fun _ _ _ _ _ _ us hl=>match us,hl with | [_],_=>rfl
  have L_answer_to:Nonempty (BM.Lk (PySem.Challenge.cw_bagsmade_s01_answers_holds.heap_1 w.params) mg "answer_to" BM.yH ["state","call"]):=by
   refine' BM.zH KX G ?a ?l ?c ?k ?b
   (case a=>k_is);(case l=>k_is);(case c=>k_is);(case k=>k_is)
   case b=>exact fun _ _ _ _ _ _ us hl=>match us,hl with | [_,_],_=>rfl
  have L_answer_of_bags:Nonempty (BM.Lk (PySem.Challenge.cw_bagsmade_s01_answers_holds.heap_1 w.params) mg "answer_of_bags" BM.qa ["state","number","plain"]):=by
   refine' BM.zH KX G ?a ?l ?c ?k ?b
   (case a=>k_is);(case l=>k_is);(case c=>k_is);(case k=>k_is)
   case b=>exact fun _ _ _ _ _ _ us hl=>match us,hl with | [_,_,_],_=>rfl
  have L_answer_of_making:Nonempty (BM.Lk (PySem.Challenge.cw_bagsmade_s01_answers_holds.heap_1 w.params) mg "answer_of_making" BM.jU ["state","number","plain"]):=by
   refine' BM.zH KX G ?a ?l ?c ?k ?b
   (case a=>k_is);(case l=>k_is);(case c=>k_is);(case k=>k_is)
   case b=>exact fun _ _ _ _ _ _ us hl=>match us,hl with | [_,_,_],_=>rfl
  have L_kGood:Nonempty (BM.Ck (PySem.Challenge.cw_bagsmade_s01_answers_holds.heap_1 w.params) mg "Good" "Good.__init__" BM.vz ["self","weight","size","price"] ["weight","size","price"]):=by
   refine' BM.xG KX G ?aC ?a1 ?i1 ?l ?c ?k ?pg ?hd ?po ?sa ?mk ?kc ?no ?b
   (case aC=>k_is);(case a1=>k_is);(case i1=>k_is);(case l=>k_is);(case c=>k_is);(case k=>k_is);(case pg=>k_is);(case hd=>k_is);(case po=>k_is);(case sa=>k_is);(case mk=>k_is);(case kc=>k_is)
   case no=>
    intro a ha
    simp only [List.mem_cons,List.mem_nil_iff,or_false] at ha
    rcases ha with rfl | rfl | rfl <;> (unfold L2.NoAttr;k_is)
   case b=>exact fun _ _ _ _ _ _ us hl=>match us,hl with | [_,_,_,_],_=>rfl
  have L_kRecipe:Nonempty (BM.Ck (PySem.Challenge.cw_bagsmade_s01_answers_holds.heap_1 w.params) mg "Recipe" "Recipe.__init__" BM.w8 ["self","makes","cost","ticks","needs"] ["makes","cost","ticks","needs"]):=by
   refine' BM.xG KX G ?aC ?a1 ?i1 ?l ?c ?k ?pg ?hd ?po ?sa ?mk ?kc ?no ?b
   (case aC=>k_is);(case a1=>k_is);(case i1=>k_is);(case l=>k_is);(case c=>k_is);(case k=>k_is);(case pg=>k_is);(case hd=>k_is);(case po=>k_is);(case sa=>k_is);(case mk=>k_is);(case kc=>k_is)
   case no=>
    intro a ha
    simp only [List.mem_cons,List.mem_nil_iff,or_false] at ha
    rcases ha with rfl | rfl | rfl | rfl <;> (unfold L2.NoAttr;k_is)
   case b=>exact fun _ _ _ _ _ _ us hl=>match us,hl with | [_,_,_,_,_],_=>rfl
  have L_kBag:Nonempty (BM.Ck (PySem.Challenge.cw_bagsmade_s01_answers_holds.heap_1 w.params) mg "Bag" "Bag.__init__" BM.kJ ["self","inside","room","own_weight","places"] ["inside","room","own_weight","places","stacks","held"]):=by
   refine' BM.xG KX G ?aC ?a1 ?i1 ?l ?c ?k ?pg ?hd ?po ?sa ?mk ?kc ?no ?b
   (case aC=>k_is);(case a1=>k_is);(case i1=>k_is);(case l=>k_is);(case c=>k_is);(case k=>k_is);(case pg=>k_is);(case hd=>k_is);(case po=>k_is);(case sa=>k_is);(case mk=>k_is);(case kc=>k_is)
   case no=>
    intro a ha
    simp only [List.mem_cons,List.mem_nil_iff,or_false] at ha
    rcases ha with rfl | rfl | rfl | rfl | rfl | rfl <;> (unfold L2.NoAttr;k_is)
   case b=>exact fun _ _ _ _ _ _ us hl=>match us,hl with | [_,_,_,_,_],_=>rfl
  have L_kMachine:Nonempty (BM.Ck (PySem.Challenge.cw_bagsmade_s01_answers_holds.heap_1 w.params) mg "Machine" "Machine.__init__" BM.wp ["self","takes_from","puts_into","recipe"] ["takes_from","puts_into","recipe","ordered","works","left","made"]):=by
   refine' BM.xG KX G ?aC ?a1 ?i1 ?l ?c ?k ?pg ?hd ?po ?sa ?mk ?kc ?no ?b
   (case aC=>k_is);(case a1=>k_is);(case i1=>k_is);(case l=>k_is);(case c=>k_is);(case k=>k_is);(case pg=>k_is);(case hd=>k_is);(case po=>k_is);(case sa=>k_is);(case mk=>k_is);(case kc=>k_is)
   case no=>
    intro a ha
    simp only [List.mem_cons,List.mem_nil_iff,or_false] at ha
    rcases ha with rfl | rfl | rfl | rfl | rfl | rfl | rfl <;> (unfold L2.NoAttr;k_is)
   case b=>exact fun _ _ _ _ _ _ us hl=>match us,hl with | [_,_,_,_],_=>rfl
  have L_kState:Nonempty (BM.Ck (PySem.Challenge.cw_bagsmade_s01_answers_holds.heap_1 w.params) mg "State" "State.__init__" BM.yD ["self"] ["goods","recipes","bags","machines","paid","ticks"]):=by
   refine' BM.xG KX G ?aC ?a1 ?i1 ?l ?c ?k ?pg ?hd ?po ?sa ?mk ?kc ?no ?b
   (case aC=>k_is);(case a1=>k_is);(case i1=>k_is);(case l=>k_is);(case c=>k_is);(case k=>k_is);(case pg=>k_is);(case hd=>k_is);(case po=>k_is);(case sa=>k_is);(case mk=>k_is);(case kc=>k_is)
   case no=>
    intro a ha
    simp only [List.mem_cons,List.mem_nil_iff,or_false] at ha
    rcases ha with rfl | rfl | rfl | rfl | rfl | rfl <;> (unfold L2.NoAttr;k_is)
   case b=>exact fun _ _ _ _ _ _ us hl=>match us,hl with | [_],_=>rfl
  have L_kPlan:Nonempty (BM.Ck (PySem.Challenge.cw_bagsmade_s01_answers_holds.heap_1 w.params) mg "Plan" "Plan.__init__" BM.vy ["self","stock"] ["stock","steps","used"]):=by
   refine' BM.xG KX G ?aC ?a1 ?i1 ?l ?c ?k ?pg ?hd ?po ?sa ?mk ?kc ?no ?b
   (case aC=>k_is);(case a1=>k_is);(case i1=>k_is);(case l=>k_is);(case c=>k_is);(case k=>k_is);(case pg=>k_is);(case hd=>k_is);(case po=>k_is);(case sa=>k_is);(case mk=>k_is);(case kc=>k_is)
   case no=>
    intro a ha
    simp only [List.mem_cons,List.mem_nil_iff,or_false] at ha
    rcases ha with rfl | rfl | rfl <;> (unfold L2.NoAttr;k_is)
   case b=>exact fun _ _ _ _ _ _ us hl=>match us,hl with | [_,_],_=>rfl
  have L_kCall:Nonempty (BM.Ck (PySem.Challenge.cw_bagsmade_s01_answers_holds.heap_1 w.params) mg "Call" "Call.__init__" BM.vA ["self","number","plain","row"] ["number","plain","row"]):=by
   refine' BM.xG KX G ?aC ?a1 ?i1 ?l ?c ?k ?pg ?hd ?po ?sa ?mk ?kc ?no ?b
   (case aC=>k_is);(case a1=>k_is);(case i1=>k_is);(case l=>k_is);(case c=>k_is);(case k=>k_is);(case pg=>k_is);(case hd=>k_is);(case po=>k_is);(case sa=>k_is);(case mk=>k_is);(case kc=>k_is)
   case no=>
    intro a ha
    simp only [List.mem_cons,List.mem_nil_iff,or_false] at ha
    rcases ha with rfl | rfl | rfl <;> (unfold L2.NoAttr;k_is)
   case b=>exact fun _ _ _ _ _ _ us hl=>match us,hl with | [_,_,_,_],_=>rfl
  have L_cGROUND:Nonempty (BM.Ik mg "GROUND" (-1)):=by
   refine' BM.qt KX G ?a
   (case a=>k_is)
  have L_cOUT_OF_RANGE:Nonempty (BM.Ik mg "OUT_OF_RANGE" (-1)):=by
   refine' BM.qt KX G ?a
   (case a=>k_is)
  have L_cNO_GOODS:Nonempty (BM.Ik mg "NO_GOODS" (-2)):=by
   refine' BM.qt KX G ?a
   (case a=>k_is)
  have L_cNO_SUCH:Nonempty (BM.Ik mg "NO_SUCH" (-3)):=by
   refine' BM.qt KX G ?a
   (case a=>k_is)
  have L_cNO_MORE_ALLOWED:Nonempty (BM.Ik mg "NO_MORE_ALLOWED" (-4)):=by
   refine' BM.qt KX G ?a
   (case a=>k_is)
  have L_cGOODS_ALREADY:Nonempty (BM.Ik mg "GOODS_ALREADY" (-5)):=by
   refine' BM.qt KX G ?a
   (case a=>k_is)
  have L_cNO_ROOM:Nonempty (BM.Ik mg "NO_ROOM" (-6)):=by
   refine' BM.qt KX G ?a
   (case a=>k_is)
  have L_cNEEDED_TWICE:Nonempty (BM.Ik mg "NEEDED_TWICE" (-7)):=by
   refine' BM.qt KX G ?a
   (case a=>k_is)
  have L_cTOO_FEW:Nonempty (BM.Ik mg "TOO_FEW" (-8)):=by
   refine' BM.qt KX G ?a
   (case a=>k_is)
  have L_cNO_COST:Nonempty (BM.Ik mg "NO_COST" (-9)):=by
   refine' BM.qt KX G ?a
   (case a=>k_is)
  have L_cTOO_MANY_TICKS:Nonempty (BM.Ik mg "TOO_MANY_TICKS" (-10)):=by
   refine' BM.qt KX G ?a
   (case a=>k_is)
  have L_cMOST_BAGS:Nonempty (BM.Ik mg "MOST_BAGS" (12)):=by
   refine' BM.qt KX G ?a
   (case a=>k_is)
  have L_cMOST_RECIPES:Nonempty (BM.Ik mg "MOST_RECIPES" (16)):=by
   refine' BM.qt KX G ?a
   (case a=>k_is)
  have L_cMOST_MACHINES:Nonempty (BM.Ik mg "MOST_MACHINES" (6)):=by
   refine' BM.qt KX G ?a
   (case a=>k_is)
  have L_cMOST_TICKS:Nonempty (BM.Ik mg "MOST_TICKS" (10000)):=by
   refine' BM.qt KX G ?a
   (case a=>k_is)
  have L_cBUY:Nonempty (BM.Ik mg "BUY" (0)):=by
   refine' BM.qt KX G ?a
   (case a=>k_is)
  have L_cDO:Nonempty (BM.Ik mg "DO" (1)):=by
   refine' BM.qt KX G ?a
   (case a=>k_is)
  have L_PLAIN_RANGES:Nonempty (BM.Dk mg "PLAIN_RANGES" (BM.kDict (PySem.Challenge.cw_bagsmade_s01_answers_holds.heap_1 w.params) (BM.kRng (PySem.Challenge.cw_bagsmade_s01_answers_holds.heap_1 w.params)) BM.plainR)):=by
   refine' BM.dk_mk (K:=(PySem.Challenge.cw_bagsmade_s01_answers_holds.heap_1 w.params)) KX G ?a ?n ?c
   (case a=>k_is);(case n=>exact Eq.refl false);(case c=>exact Eq.refl true)
  have L_ROW_RANGES:Nonempty (BM.Dk mg "ROW_RANGES" (BM.kDict (PySem.Challenge.cw_bagsmade_s01_answers_holds.heap_1 w.params) (BM.kRow (PySem.Challenge.cw_bagsmade_s01_answers_holds.heap_1 w.params)) BM.rowR)):=by
   refine' BM.dk_mk (K:=(PySem.Challenge.cw_bagsmade_s01_answers_holds.heap_1 w.params)) KX G ?a ?n ?c
   (case a=>k_is);(case n=>exact Eq.refl false);(case c=>exact Eq.refl true)
  obtain ⟨L_count_in⟩:=L_count_in
  obtain ⟨L_space_in⟩:=L_space_in
  obtain ⟨L_filled_up⟩:=L_filled_up
  obtain ⟨L_emptied⟩:=L_emptied
  obtain ⟨L_lacks_good⟩:=L_lacks_good
  obtain ⟨L_lacks_bag⟩:=L_lacks_bag
  obtain ⟨L_lacks_recipe⟩:=L_lacks_recipe
  obtain ⟨L_lacks_machine⟩:=L_lacks_machine
  obtain ⟨L_bags_around⟩:=L_bags_around
  obtain ⟨L_weight_of_bag⟩:=L_weight_of_bag
  obtain ⟨L_places_taken⟩:=L_places_taken
  obtain ⟨L_weight_left⟩:=L_weight_left
  obtain ⟨L_how_many_fit⟩:=L_how_many_fit
  obtain ⟨L_bag_fits⟩:=L_bag_fits
  obtain ⟨L_add_load⟩:=L_add_load
  obtain ⟨L_put_in⟩:=L_put_in
  obtain ⟨L_take_out⟩:=L_take_out
  obtain ⟨L_put_if_it_fits⟩:=L_put_if_it_fits
  obtain ⟨L_take_needs⟩:=L_take_needs
  obtain ⟨L_put_back⟩:=L_put_back
  obtain ⟨L_lay_bag⟩:=L_lay_bag
  obtain ⟨L_new_bag⟩:=L_new_bag
  obtain ⟨L_put⟩:=L_put
  obtain ⟨L_take⟩:=L_take
  obtain ⟨L_move⟩:=L_move
  obtain ⟨L_carry⟩:=L_carry
  obtain ⟨L_tell_stacks⟩:=L_tell_stacks
  obtain ⟨L_tell_load⟩:=L_tell_load
  obtain ⟨L_tell_fits⟩:=L_tell_fits
  obtain ⟨L_cost_at⟩:=L_cost_at
  obtain ⟨L_cost_by_recipe⟩:=L_cost_by_recipe
  obtain ⟨L_least_costs⟩:=L_least_costs
  obtain ⟨L_are_fair⟩:=L_are_fair
  obtain ⟨L_tell_goods⟩:=L_tell_goods
  obtain ⟨L_tell_recipe⟩:=L_tell_recipe
  obtain ⟨L_tell_costs⟩:=L_tell_costs
  obtain ⟨L_tell_fair⟩:=L_tell_fair
  obtain ⟨L_let_a_tick_go_by⟩:=L_let_a_tick_go_by
  obtain ⟨L_act⟩:=L_act
  obtain ⟨L_bring_out⟩:=L_bring_out
  obtain ⟨L_begin⟩:=L_begin
  obtain ⟨L_new_machine⟩:=L_new_machine
  obtain ⟨L_order⟩:=L_order
  obtain ⟨L_tick⟩:=L_tick
  obtain ⟨L_tell_state⟩:=L_tell_state
  obtain ⟨L_plan_for⟩:=L_plan_for
  obtain ⟨L_meet⟩:=L_meet
  obtain ⟨L_use_stock⟩:=L_use_stock
  obtain ⟨L_first_recipe_at_cost⟩:=L_first_recipe_at_cost
  obtain ⟨L_cost_of_steps⟩:=L_cost_of_steps
  obtain ⟨L_carry_out⟩:=L_carry_out
  obtain ⟨L_do_step⟩:=L_do_step
  obtain ⟨L_tell_plan⟩:=L_tell_plan
  obtain ⟨L_make⟩:=L_make
  obtain ⟨L_cut_into_calls⟩:=L_cut_into_calls
  obtain ⟨L_within_ranges⟩:=L_within_ranges
  obtain ⟨L_each_within⟩:=L_each_within
  obtain ⟨L_tell_count⟩:=L_tell_count
  obtain ⟨L_tell_totals⟩:=L_tell_totals
  obtain ⟨L_tell_find⟩:=L_tell_find
  obtain ⟨L_answers⟩:=L_answers
  obtain ⟨L_answer_to⟩:=L_answer_to
  obtain ⟨L_answer_of_bags⟩:=L_answer_of_bags
  obtain ⟨L_answer_of_making⟩:=L_answer_of_making
  obtain ⟨L_kGood⟩:=L_kGood
  obtain ⟨L_kRecipe⟩:=L_kRecipe
  obtain ⟨L_kBag⟩:=L_kBag
  obtain ⟨L_kMachine⟩:=L_kMachine
  obtain ⟨L_kState⟩:=L_kState
  obtain ⟨L_kPlan⟩:=L_kPlan
  obtain ⟨L_kCall⟩:=L_kCall
  obtain ⟨L_cGROUND⟩:=L_cGROUND
  obtain ⟨L_cOUT_OF_RANGE⟩:=L_cOUT_OF_RANGE
  obtain ⟨L_cNO_GOODS⟩:=L_cNO_GOODS
  obtain ⟨L_cNO_SUCH⟩:=L_cNO_SUCH
  obtain ⟨L_cNO_MORE_ALLOWED⟩:=L_cNO_MORE_ALLOWED
  obtain ⟨L_cGOODS_ALREADY⟩:=L_cGOODS_ALREADY
  obtain ⟨L_cNO_ROOM⟩:=L_cNO_ROOM
  obtain ⟨L_cNEEDED_TWICE⟩:=L_cNEEDED_TWICE
  obtain ⟨L_cTOO_FEW⟩:=L_cTOO_FEW
  obtain ⟨L_cNO_COST⟩:=L_cNO_COST
  obtain ⟨L_cTOO_MANY_TICKS⟩:=L_cTOO_MANY_TICKS
  obtain ⟨L_cMOST_BAGS⟩:=L_cMOST_BAGS
  obtain ⟨L_cMOST_RECIPES⟩:=L_cMOST_RECIPES
  obtain ⟨L_cMOST_MACHINES⟩:=L_cMOST_MACHINES
  obtain ⟨L_cMOST_TICKS⟩:=L_cMOST_TICKS
  obtain ⟨L_cBUY⟩:=L_cBUY
  obtain ⟨L_cDO⟩:=L_cDO
  obtain ⟨L_PLAIN_RANGES⟩:=L_PLAIN_RANGES
  obtain ⟨L_ROW_RANGES⟩:=L_ROW_RANGES
  have B_sum:mg "sum" = none:=PySem.W.mg_none_of (K:=(PySem.Challenge.cw_bagsmade_s01_answers_holds.heap_1 w.params)) KX G (by k_is)
  have B_min:mg "min" = none:=PySem.W.mg_none_of (K:=(PySem.Challenge.cw_bagsmade_s01_answers_holds.heap_1 w.params)) KX G (by k_is)
  have B_any:mg "any" = none:=PySem.W.mg_none_of (K:=(PySem.Challenge.cw_bagsmade_s01_answers_holds.heap_1 w.params)) KX G (by k_is)
  have B_all:mg "all" = none:=PySem.W.mg_none_of (K:=(PySem.Challenge.cw_bagsmade_s01_answers_holds.heap_1 w.params)) KX G (by k_is)
  have B_len:mg "len" = none:=PySem.W.mg_none_of (K:=(PySem.Challenge.cw_bagsmade_s01_answers_holds.heap_1 w.params)) KX G (by k_is)
  have B_list:mg "list" = none:=PySem.W.mg_none_of (K:=(PySem.Challenge.cw_bagsmade_s01_answers_holds.heap_1 w.params)) KX G (by k_is)
  have B_set:mg "set" = none:=PySem.W.mg_none_of (K:=(PySem.Challenge.cw_bagsmade_s01_answers_holds.heap_1 w.params)) KX G (by k_is)
  have B_range:mg "range" = none:=PySem.W.mg_none_of (K:=(PySem.Challenge.cw_bagsmade_s01_answers_holds.heap_1 w.params)) KX G (by k_is)
  have B_enumerate:mg "enumerate" = none:=PySem.W.mg_none_of (K:=(PySem.Challenge.cw_bagsmade_s01_answers_holds.heap_1 w.params)) KX G (by k_is)
  have B_zip:mg "zip" = none:=PySem.W.mg_none_of (K:=(PySem.Challenge.cw_bagsmade_s01_answers_holds.heap_1 w.params)) KX G (by k_is)
  have B_reversed:mg "reversed" = none:=PySem.W.mg_none_of (K:=(PySem.Challenge.cw_bagsmade_s01_answers_holds.heap_1 w.params)) KX G (by k_is)
  let T:BM.Prog (PySem.Challenge.cw_bagsmade_s01_answers_holds.heap_1 w.params) mg:=⟨L_count_in,L_space_in,L_filled_up,L_emptied,L_lacks_good,L_lacks_bag,L_lacks_recipe,L_lacks_machine,L_bags_around,L_weight_of_bag,L_places_taken,L_weight_left,L_how_many_fit,L_bag_fits,L_add_load,L_put_in,L_take_out,L_put_if_it_fits,L_take_needs,L_put_back,L_lay_bag,L_new_bag,L_put,L_take,L_move,L_carry,L_tell_stacks,L_tell_load,L_tell_fits,L_cost_at,L_cost_by_recipe,L_least_costs,L_are_fair,L_tell_goods,L_tell_recipe,L_tell_costs,L_tell_fair,L_let_a_tick_go_by,L_act,L_bring_out,L_begin,L_new_machine,L_order,L_tick,L_tell_state,L_plan_for,L_meet,L_use_stock,L_first_recipe_at_cost,L_cost_of_steps,L_carry_out,L_do_step,L_tell_plan,L_make,L_cut_into_calls,L_within_ranges,L_each_within,L_tell_count,L_tell_totals,L_tell_find,L_answers,L_answer_to,L_answer_of_bags,L_answer_of_making,L_kGood,L_kRecipe,L_kBag,L_kMachine,L_kState,L_kPlan,L_kCall,L_cGROUND,L_cOUT_OF_RANGE,L_cNO_GOODS,L_cNO_SUCH,L_cNO_MORE_ALLOWED,L_cGOODS_ALREADY,L_cNO_ROOM,L_cNEEDED_TWICE,L_cTOO_FEW,L_cNO_COST,L_cTOO_MANY_TICKS,L_cMOST_BAGS,L_cMOST_RECIPES,L_cMOST_MACHINES,L_cMOST_TICKS,L_cBUY,L_cDO,L_PLAIN_RANGES,L_ROW_RANGES,B_sum,B_min,B_any,B_all,B_len,B_list,B_set,B_range,B_enumerate,B_zip,B_reversed⟩
  have e:=hmg.symm.trans T.answers.at_
  cases e
  exact ⟨T.answers.fd,fun s us hu=>BM.bind_end T s us hu,fun base _ _=>BM.ok_end T⟩
 case S=>
  intro K H xs a hO hwi hask hx
  cases hx with
  | cons h1 h2=>
   cases h2
   cases h1 with
   | lst hs ha=>
    have e:=L2.Ym a.1 _ ha
    subst e
    exact ⟨_,a.1,rfl,hs,hask,fun p H' hp=>.lst (L2.SqL.of hp) (L2.Yt _)⟩
end
