import PyProof.Rows.All
import Wide.All
import OpenK.AllK
import Wide.FinOn
import Lean
import PyProof.EqAt
import PyProof.EqKinds
import PyProof.TupleCall
import KE.LcSums
import PySem.Challenge.RW_fewways_k54_pairs_and_marks_looked_at
set_option bootstrap.genMatcherCode false
set_option compiler.extract_closed false
set_option Elab.async false
set_option linter.all false
set_option genSizeOfSpec false
set_option maxRecDepth 100000
namespace L2
open PySem PySem.Spec PyProof.Rows
noncomputable abbrev Key:=Sum Int Str
noncomputable def keyIs:Key->Value->Bool
 | .inl k,v=>Value.isInt k v
 | .inr x,v=>Value.isStrOf x v
noncomputable def keyH (w:World):Key->Int
 | .inl k=>hashInt k
 | .inr x=>hashStr w x
theorem keyIs_shape:∀ {k:Key} {v:Value},keyIs k v=true->(∃ i t,k=Sum.inl i/\v=Value.int i t)\/(∃ x t,k=Sum.inr x/\v=Value.str x t)
 | .inl i,v,h=>by
  obtain ⟨t,e⟩:=Value.isInt_shape (k:=i) (v:=v) h
  exact .inl ⟨i,t,rfl,e⟩
 | .inr x,v,h=>by
  obtain ⟨t,e⟩:=Value.isStrOf_shape (x:=x) (v:=v) h
  exact .inr ⟨x,t,rfl,e⟩
theorem key_ll (a b:Int):decide ((Sum.inl a:Key)=Sum.inl b)=(a == b):=by
 by_cases e:a=b
 ·subst e; simp
 ·have h:¬ (Sum.inl a:Key)=Sum.inl b:=fun q=>e (Sum.inl.inj q)
  rw [decide_eq_false h]
  exact (beq_eq_false_iff_ne.mpr e).symm
theorem key_rr (a b:Str):decide ((Sum.inr a:Key)=Sum.inr b)=decide (a=b):=by
 by_cases e:a=b
 ·subst e; simp
 ·have h:¬ (Sum.inr a:Key)=Sum.inr b:=fun q=>e (Sum.inr.inj q)
  rw [decide_eq_false h,decide_eq_false e]
theorem key_lr (a:Int) (b:Str):decide ((Sum.inl a:Key)=Sum.inr b)=false:=decide_eq_false (fun q=>nomatch q)
theorem key_rl (a:Str) (b:Int):decide ((Sum.inr a:Key)=Sum.inl b)=false:=decide_eq_false (fun q=>nomatch q)
noncomputable def mixKind (prog:Program) (w:World):PySem.KeyKind prog w Key where
 is:=keyIs
 hash:=keyH w
 inj:=fun v a b ha hb=>by
  rcases keyIs_shape ha with ⟨i,t,rfl,rfl⟩ | ⟨x,t,rfl,rfl⟩
  ·rcases keyIs_shape hb with ⟨j,u,rfl,e⟩ | ⟨y,u,rfl,e⟩
   ·injection e with e1 _; rw [e1]
   ·exact nomatch e
  ·rcases keyIs_shape hb with ⟨j,u,rfl,e⟩ | ⟨y,u,rfl,e⟩
   ·exact nomatch e
   ·injection e with e1 _; rw [e1]
 byValue:=fun k v h=>by
  rcases keyIs_shape h with ⟨i,t,rfl,rfl⟩ | ⟨x,t,rfl,rfl⟩ <;> rfl
 pyHash:=fun hv h=>by
  rcases keyIs_shape hv with ⟨i,t,rfl,rfl⟩ | ⟨x,t,rfl,rfl⟩
  ·exact wpAny_pyHash_int h
  ·exact wpAny_pyHash_str h
 eqBool:=fun hu hv h=>by
  rcases keyIs_shape hu with ⟨i,t,rfl,rfl⟩ | ⟨x,t,rfl,rfl⟩
  ·rcases keyIs_shape hv with ⟨j,u,rfl,rfl⟩ | ⟨y,u,rfl,rfl⟩
   ·rw [key_ll] at h; exact wpAny_eqBool_int h
   ·rw [key_lr] at h; exact SeqAt.EqAt.int_str i t y u _ _ _ _ h
  ·rcases keyIs_shape hv with ⟨j,u,rfl,rfl⟩ | ⟨y,u,rfl,rfl⟩
   ·rw [key_rl] at h; exact SeqAt.EqAt.str_int x t j u _ _ _ _ h
   ·rw [key_rr] at h; exact wpAny_eqBool_str h
 «strs»:=fun k x t v h=>by
  rcases keyIs_shape h with ⟨i,u,rfl,e⟩ | ⟨y,u,rfl,e⟩
  ·exact nomatch e
  ·injection e with e1 _
   subst e1
   cases v <;> rfl
end L2
namespace L2
open PySem PySem.Spec PyProof.Rows
inductive V where
 | non | bl (b:Bool) | int (i:Int) | str (x:Str) | byt (b:Array UInt8) | flt (b:UInt64) | ref (a:Addr) | ty (n:String)
 deriving DecidableEq
noncomputable def RelV:V->Value->Prop
 | .non,u=>u=Value.none
 | .bl b,u=>u=Value.bool b
 | .int i,u=>∃ t,u=Value.int i t
 | .str x,u=>∃ t,u=Value.str x t
 | .byt b,u=>∃ t,u=Value.bytes b t
 | .flt b,u=>∃ t,u=Value.float b t
 | .ref a,u=>u=Value.ref a
 | .ty n,u=>u=Value.type n
noncomputable abbrev Vals:List V->List Value->Prop:=Paired RelV
theorem Vals.length {xs:List V} {us:List Value} (r:Vals xs us):xs.length=us.length:=Paired.length r
theorem Vals.get:∀ {xs:List V} {us:List Value} {i:Nat} {x:V},Vals xs us->xs[i]? = some x->∃ u,us[i]? = some u/\RelV x u
 | _,_,_,_,.nil,e=>by simp at e
 | _,_,0,_,.cons r _,e=>by simp at e; subst e; exact ⟨_,rfl,r⟩
 | _,_,i + 1,x,.cons _ t,e=>by
  obtain ⟨u,h1,h2⟩:=Vals.get (i:=i) (x:=x) t (by simpa using e)
  exact ⟨u,by simpa using h1,h2⟩
theorem Vals.append:∀ {xs ys:List V} {us ws:List Value},Vals xs us->Vals ys ws->Vals (xs ++ ys) (us ++ ws)
 | _,_,_,_,.nil,s=>s
 | _,_,_,_,.cons r t,s=>.cons r (Vals.append t s)
theorem Vals.take:∀ {xs:List V} {us:List Value} (n:Nat),Vals xs us->Vals (xs.take n) (us.take n)
 | _,_,0,_=>.nil
 | _,_,_ + 1,.nil=>.nil
 | _,_,n + 1,.cons r t=>.cons r (Vals.take n t)
theorem Vals.drop:∀ {xs:List V} {us:List Value} (n:Nat),Vals xs us->Vals (xs.drop n) (us.drop n)
 | _,_,0,r=>r
 | _,_,_ + 1,.nil=>.nil
 | _,_,n + 1,.cons _ t=>Vals.drop n t
noncomputable def RelO:Option V->Option Value->Prop
 | some v,some u=>RelV v u
 | none,none=>True
 | _,_=>False
noncomputable def KV {κ:Type}:List (κ × V)->List (κ × Value)->Prop:=Paired fun (p:κ × V) (q:κ × Value)=>p.1=q.1/\RelV p.2 q.2
noncomputable def kV:Key->V
 | .inl i=>.int i
 | .inr x=>.str x
inductive HO where
 | lst (xs:List V)
 | tup (xs:List V)
 | dK (kvs:List (Key × V)) | dT (kvs:List (List Key × V))
 | set (S:Int->Bool) (n:Nat)
 | ins (C dx:Addr) (fs:List (Str × V))
 | own (x:Addr)
 | xd (fs:List (Str × V))
 | met (f x:Addr)
 | rng (lo hi:Int)
 | frz (o:Obj) (u:HO)
 | tbl (ps:Array Value)
 | ext (φ:Heap->Prop)
noncomputable abbrev Hp:=Addr->Option HO
noncomputable def upd (H:Hp) (a:Addr) (o:HO):Hp:=fun b=>if b=a then some o else H b
theorem upd_same {H:Hp} {a:Addr} {o:HO}:upd H a o a=some o:=by unfold upd; rw [if_pos rfl]
theorem upd_ne {H:Hp} {a b:Addr} {o:HO} (h:b ≠ a):upd H a o b=H b:=by unfold upd; rw [if_neg h]
theorem ne_of_none {H:Hp} {a b:Addr} {o:HO} (h:H a=some o) (h':H b=none):a ≠ b:=by
 intro e; subst e; rw [h] at h'; cases h'
section
variable (P:Program) (w:World)
noncomputable def ObjOk (H:Hp) (h:Heap) (a:Addr):HO->Prop
 | .lst xs=>xs.length <= sizeLine/\∃ (its:List Value) (n:Nat),Vals xs its/\h.get? a=some { cls:=.type "list",data:=.seq its.toArray n }
 | .tup xs=>xs.length <= sizeLine/\∃ its:List Value,Vals xs its/\IsTup h a its.toArray
 | .dK kvs=>kvs.length <= sizeLine/\(a == sysModules)=false/\∃ vs,KV kvs vs/\h.DictOf (mixKind P w) a vs
 | .dT kvs=>kvs.length <= sizeLine/\(a == sysModules)=false/\∃ xs:List (List Key × Addr × Value),
   Paired (fun (p:List Key × V) (q:List Key × Addr × Value)=>p.1=q.1/\H q.2.1=some (.tup (p.1.map kV))/\RelV p.2 q.2.2) kvs xs /\
   ∃ o es ep,h.get? a=some o/\o.ExactDict/\o.data = .dict es ep/\es.toList=xs.map (entryOfKey (tupleKind (mixKind P w)))/\(xs.map (·.1)).Nodup
 | .set S n=>h.SetOf (intKind P w) a S n
 | .ins C dx fs=>H dx=some (.own a)/\fs.length <= 1000/\dx ≠ a/\h.get? a=some (PySem.W.instObj C dx) /\
   ∃ mA,h.Ns1 dx mA/\(∀ f,RelO (fs.lookup f) (mA f))/\PySem.Within mA (fs.map (·.1))
 | .own _=>∃ o,h.get? a=some o
 | .xd fs=>∃ mA,h.Ns1 a mA/\∀ f,RelO (fs.lookup f) (mA f)
 | .rng lo hi=>∃ t u v,h.get? a=some { cls:=.type "range",data:=.fields #[.int lo t,.int hi u,.int 1 v] }
 | .frz o u=>h.get? a=some o/\ObjOk H h a u
 | .tbl ps=>h.get? a=some { cls:=.none,data:=.fields ps }
 | .met f x=>h.get? a=some (PySem.W.methodObj (.ref f) (.ref x))
 | .ext φ=>φ h/\(∃ o,h.get? a=some o)/\∀ h1 h2:Heap,φ h1->(∀ o,h1.get? a=some o->h2.get? a=some o)->φ h2
noncomputable def HOk (H:Hp) (h:Heap):Prop:=∀ a o,H a=some o->ObjOk P w H h a o
end
section
variable {P:Program} {w:World} {H H':Hp} {h h':Heap} {a:Addr} {o:HO}
theorem ObjOk.lt (x:ObjOk P w H h a o):a < h.objs.size:=by
 cases o with
 | lst xs=>obtain ⟨_,_,_,_,e⟩:=x; exact Heap.lt_size e
 | tup xs=>obtain ⟨_,_,_,p⟩:=x; exact p.lt
 | dK kvs=>obtain ⟨_,_,_,_,o,_,_,e,_⟩:=x; exact Heap.lt_size e
 | dT kvs=>obtain ⟨_,_,_,_,o,_,_,e,_⟩:=x; exact Heap.lt_size e
 | set S n=>obtain ⟨o,_,_,_,e,_⟩:=x; exact Heap.lt_size e
 | ins C dx fs=>obtain ⟨_,_,_,e,_⟩:=x; exact Heap.lt_size e
 | own y=>obtain ⟨_,e⟩:=x; exact Heap.lt_size e
 | xd fs=>obtain ⟨_,⟨_,_,_,e,_⟩,_⟩:=x; exact Heap.lt_size e
 | rng lo hi=>obtain ⟨_,_,_,e⟩:=x; exact Heap.lt_size e
 | frz ob u=>obtain ⟨e,_⟩:=x; exact Heap.lt_size e
 | tbl ps=>exact Heap.lt_size (show h.get? a=some _ from x)
 | met f y=>exact Heap.lt_size (show h.get? a=some _ from x)
 | ext φ=>obtain ⟨_,⟨_,e⟩,_⟩:=x; exact Heap.lt_size e
theorem Paired.mapP {α β:Type} {F G:α->β->Prop}:∀ {l₁:List α} {l₂:List β},Paired F l₁ l₂->(∀ a b,F a b->G a b)->Paired G l₁ l₂
 | _,_,.nil,_=>.nil
 | _,_,.cons r t,f=>.cons (f _ _ r) (Paired.mapP t f)
theorem ObjOk.stay (x:ObjOk P w H h a o) (k:∀ b u,(b=a\/H b=some (.own a))->h.get? b=some u->h'.get? b=some u)
  (ho:∀ b,H b=some (.own a)->H' b=some (.own a)) (ht:∀ b xs,H b=some (.tup xs)->H' b=some (.tup xs)):ObjOk P w H' h' a o:=by
 induction o with
 | lst xs=>obtain ⟨z,its,n,r,e⟩:=x; exact ⟨z,its,n,r,k _ _ (.inl rfl) e⟩
 | tup xs=>obtain ⟨z,its,r,ob,e,c⟩:=x; exact ⟨z,its,r,ob,k _ _ (.inl rfl) e,c⟩
 | dK kvs=>obtain ⟨z,y,vs,r,ob,es,ep,e,c⟩:=x; exact ⟨z,y,vs,r,ob,es,ep,k _ _ (.inl rfl) e,c⟩
 | dT kvs =>
  obtain ⟨z,y,xs,r,ob,es,ep,e,c⟩:=x
  exact ⟨z,y,xs,Paired.mapP r fun p q z=>⟨z.1,ht _ _ z.2.1,z.2.2⟩,ob,es,ep,k _ _ (.inl rfl) e,c⟩
 | set S n=>obtain ⟨ob,es,ep,t,e,c⟩:=x; exact ⟨ob,es,ep,t,k _ _ (.inl rfl) e,c⟩
 | ins C dx fs =>
  obtain ⟨d,z,ne,e,mA,⟨od,es,ep,e2,c⟩,r⟩:=x
  exact ⟨ho _ d,z,ne,k _ _ (.inl rfl) e,mA,⟨od,es,ep,k _ _ (.inr d) e2,c⟩,r⟩
 | own y=>obtain ⟨ob,e⟩:=x; exact ⟨ob,k _ _ (.inl rfl) e⟩
 | xd fs=>obtain ⟨mA,⟨od,es,ep,e,c⟩,r⟩:=x; exact ⟨mA,⟨od,es,ep,k _ _ (.inl rfl) e,c⟩,r⟩
 | rng lo hi=>obtain ⟨t,u,v,e⟩:=x; exact ⟨t,u,v,k _ _ (.inl rfl) e⟩
 | frz ob u ih=>obtain ⟨e,q⟩:=x; exact ⟨k _ _ (.inl rfl) e,ih q⟩
 | tbl ps =>
  have e:h.get? a=some { cls:=.none,data:=.fields ps }:=x
  show h'.get? a=some { cls:=.none,data:=.fields ps }
  exact k a _ (.inl rfl) e
 | met f y =>
  have e:h.get? a=some (PySem.W.methodObj (.ref f) (.ref y)):=x
  show h'.get? a=some (PySem.W.methodObj (.ref f) (.ref y))
  exact k a _ (.inl rfl) e
 | ext φ=>obtain ⟨p,⟨o,e⟩,st⟩:=x; exact ⟨st _ _ p fun o q=>k _ _ (.inl rfl) q,⟨o,k _ _ (.inl rfl) e⟩,st⟩
theorem HOk.lt (x:HOk P w H h) (e:H a=some o):a < h.objs.size:=(x a o e).lt
theorem HOk.fresh (x:HOk P w H h) (e:h.objs.size <= a):H a=none:=by
 cases q:H a with
 | none=>rfl
 | some u=>exact absurd (Nat.lt_of_lt_of_le (x.lt q) e) (Nat.lt_irrefl _)
theorem HOk.kept (x:HOk P w H h) (k:∀ b u,h.get? b=some u->h'.get? b=some u):HOk P w H h':=fun a o e =>
 (x a o e).stay (fun b u _ q=>k b u q) (fun _ q=>q) fun _ _ q=>q
theorem HOk.laid (x:HOk P w H h) (k:∀ b u,h.get? b=some u->h'.get? b=some u) (hp:h.objs.size <= a) (new:ObjOk P w (upd H a o) h' a o):HOk P w (upd H a o) h':=fun b u e=>by
 have hn:=x.fresh hp
 by_cases hb:b=a
 ·subst hb; rw [upd_same] at e; cases e; exact new
 ·rw [upd_ne hb] at e
  exact (x b u e).stay (fun c v _ q=>k c v q) (fun c q=>by rw [upd_ne (ne_of_none q hn)]; exact q) fun c xs q=>by rw [upd_ne (ne_of_none q hn)]; exact q
end
noncomputable def Rd (H:Hp) (a:Addr) (u:HO):Prop:=H a=some u\/∃ o,H a=some (.frz o u)
theorem Rd.ok {P:Program} {w:World} {H:Hp} {h:Heap} {a:Addr} {u:HO} (r:Rd H a u) (x:HOk P w H h):ObjOk P w H h a u:=by
 rcases r with r | ⟨o,r⟩
 ·exact x a u r
 ·obtain ⟨_,q⟩:=x a _ r
  exact q
noncomputable def Mut:Option HO->Prop
 | some (.lst _)=>True
 | some (.dK _)=>True
 | some (.dT _)=>True
 | some (.set _ _)=>True
 | some (.ins _ _ _)=>True
 | some (.ext _)=>True
 | _=>False
section
variable {P:Program} {w:World} {H:Hp} {h h':Heap} {x e:Addr} {o':HO}
theorem HOk.write (ok:HOk P w H h) (mu:Mut (H x)) (he:e=x\/H e=some (.own x)) (k:∀ b u,b ≠ e->h.get? b=some u->h'.get? b=some u) (heo:∃ u,h'.get? e=some u)
  (new:ObjOk P w (upd H x o') h' x o'):HOk P w (upd H x o') h':=fun b u q=>by
 have nown:∀ c y,H c=some (.own y)->c ≠ x:=fun c y r z=>by subst z; rw [r] at mu; exact mu
 have ntup:∀ c xs,H c=some (.tup xs)->c ≠ x:=fun c xs r z=>by subst z; rw [r] at mu; exact mu
 by_cases hb:b=x
 ·subst hb; rw [upd_same] at q; cases q; exact new
 ·rw [upd_ne hb] at q
  by_cases hbe:b=e
  ·have q':H b=some (.own x):=by
    rcases he with z | z
    ·exact absurd (hbe.trans z) hb
    ·rw [hbe]; exact z
   rw [q] at q'; cases q'
   obtain ⟨v,hv⟩:=heo
   exact ⟨v,by rw [hbe]; exact hv⟩
  ·refine (ok b u q).stay (fun c v hc r=>k c v ?_ r) (fun c r=>by rw [upd_ne (nown c b r)]; exact r) fun c xs r=>by rw [upd_ne (ntup c xs r)]; exact r
   rcases hc with rfl | hc
   ·exact hbe
   ·rintro rfl
    rcases he with z | z
    ·exact nown c b hc z
    ·rw [hc] at z; cases z; exact hb rfl
end
structure Un (fs ex:List Addr) (H H':Hp) (h h':Heap):Prop where
 keep:∀ b o,h.get? b=some o->H b=none->b ∉ fs->b ∉ ex->h'.get? b=some o
 slot:∀ b o,h.get? b=some o->H b=none->b ∈ fs->b ∉ ex->∃ sl,h'.get? b=some { o with slots:=sl }
 free:∀ b o,h.get? b=some o->H b=none->b ∉ ex->H' b=none
 there:∀ b o,h.get? b=some o->b ∉ ex->∃ o',h'.get? b=some o'
 tups:∀ b xs,H b=some (.tup xs)->H' b=some (.tup xs)
 frzs:∀ b o u,H b=some (.frz o u)->H' b=some (.frz o u)
 tbls:∀ b ps,H b=some (.tbl ps)->∃ more,H' b=some (.tbl (ps ++ more))
section
variable {fs fs' ex ex':List Addr} {H H1 H2:Hp} {h h1 h2 h':Heap} {a x e:Addr} {o:HO}
theorem Un.any (u:Un fs ex H H1 h h1) {b:Addr} {ob:Obj} (q:h.get? b=some ob) (n:H b=none) (hx:b ∉ ex):∃ sl,h1.get? b=some { ob with slots:=sl }:=by
 by_cases hb:b ∈ fs
 ·exact u.slot b ob q n hb hx
 ·exact ⟨ob.slots,u.keep b ob q n hb hx⟩
theorem Un.kept (k:∀ b u,h.get? b=some u->h'.get? b=some u):Un fs ex H H h h' :=
 ⟨fun b ob q _ _ _=>k b ob q,fun b ob q _ _ _=>⟨ob.slots,k b ob q⟩,fun _ _ _ n _=>n,fun b ob q _=>⟨ob,k b ob q⟩,fun _ _ q=>q,fun _ _ _ q=>q,fun _ ps q=>⟨#[],by rw [q]; simp⟩⟩
theorem Un.refl:Un fs ex H H h h:=Un.kept fun _ _ q=>q
theorem Un.laid (k:∀ b u,h.get? b=some u->h'.get? b=some u) (hp:h.objs.size <= a) (hn:H a=none):Un fs ex H (upd H a o) h h' where
 keep:=fun b u q _ _ _=>k b u q
 slot:=fun b u q _ _ _=>⟨u.slots,k b u q⟩
 free:=fun b u q n _=>by rw [upd_ne (Nat.ne_of_lt (Nat.lt_of_lt_of_le (Heap.lt_size q) hp))]; exact n
 there:=fun b u q _=>⟨u,k b u q⟩
 tups:=fun b xs q=>by rw [upd_ne (ne_of_none q hn)]; exact q
 frzs:=fun b u xs q=>by rw [upd_ne (ne_of_none q hn)]; exact q
 tbls:=fun b ps q=>⟨#[],by rw [upd_ne (ne_of_none q hn),q]; simp⟩
theorem Un.write (mu:Mut (H x)) (he:e=x\/H e=some (.own x)) (k:∀ b u,b ≠ e->h.get? b=some u->h'.get? b=some u) (heo:∃ u,h'.get? e=some u):Un fs ex H (upd H x o) h h':=by
 have hx:∀ b,H b=none->b ≠ x:=fun b n z=>by subst z; rw [n] at mu; exact mu
 have hb:∀ b,H b=none->b ≠ e:=fun b n z=>by
  subst z
  rcases he with r | r
  ·exact hx b n r
  ·rw [n] at r; cases r
 have hm:∀ b u,H b=some u->¬ Mut (some u)->b ≠ x:=fun b u q nm z=>by subst z; rw [q] at mu; exact nm mu
 refine ⟨fun b u q n _ _=>k b u (hb b n) q,fun b u q n _ _=>⟨u.slots,k b u (hb b n) q⟩,fun b u q n _=>by rw [upd_ne (hx b n)]; exact n,fun b u q _=>?_,
  fun b xs q=>by rw [upd_ne (hm b _ q fun z=>z)]; exact q,fun b u xs q=>by rw [upd_ne (hm b _ q fun z=>z)]; exact q,fun b ps q=>⟨#[],by rw [upd_ne (hm b _ q fun z=>z),q]; simp⟩⟩
 by_cases hbe:b=e
 ·subst hbe; exact heo
 ·exact ⟨u,k b u hbe q⟩
end
noncomputable def trk (h:Heap) (H:Hp):List Addr:=(List.range h.objs.size).filter fun a=>(H a).isSome
noncomputable def hidT (h:Heap) (H:Hp):Heap:=PySem.W.hideAll h (trk h H)
theorem hidT_size (h:Heap) (H:Hp):(hidT h H).objs.size=h.objs.size:=PySem.W.hideAll_size _ _
theorem hidT_get {h:Heap} {H:Hp} {b:Addr} {o:Obj} (e:h.get? b=some o) (n:H b=none):(hidT h H).get? b=some o :=
 PySem.W.hideAll_get _ e fun hm=>by
  have q:(H b).isSome=true:=(List.mem_filter.mp hm).2
  rw [n] at q; simp at q
theorem of_hidT {h:Heap} {H:Hp} {b:Addr} {o:Obj} (e:(hidT h H).get? b=some o):h.get? b=some o/\H b=none:=by
 have e':h.get? b=some o:=PySem.W.of_hideAll (trk h H) e
 refine ⟨e',?_⟩
 cases q:H b with
 | none=>rfl
 | some x =>
  have hm:b ∈ trk h H:=List.mem_filter.mpr ⟨List.mem_range.mpr (Heap.lt_size e'),by simp [q]⟩
  have z:(hidT h H).get? b=none:=PySem.W.hideAll_none (trk h H) hm
  rw [z] at e; cases e
noncomputable def allNews (g h:Heap) (L:Addr):List (Addr × Obj):=(List.range h.objs.size).filterMap fun a=>if a=L\/(g.get? a).isSome=true then none else (h.get? a).map fun o=>(a,o)
noncomputable def rest (g h:Heap) (L d:Addr):List (Addr × Obj):=(allNews g h L).filter fun p=>decide (p.1 ≠ d)
end L2
namespace L2
open PySem PySem.Spec PyProof.Rows
structure Mod (K:PySem.W.Frag) (mg:Str->Option Value) (base:Heap):Prop where
 kin:K.In base
 glob:base.Ns mainGlobals mg
 blt:∃ mb,base.Ns builtinsNs mb/\∀ x:Str,x ≠ "__name__"->mb x=bootBuiltins x
 nolimit:base.NoLimit
set_option genInjectivity false in
structure Cx where
 prog:Program
 w:World
 K:PySem.W.Frag
 mg:Str->Option Value
 base:Heap
 A:Around
 N:List Str
 s₀:Shared
 H₀:Hp
 env:Env
 outer:List Env
 stack:List Env
 ex:List Addr
 fn:Str->Bool
 calm:Bool
 pn:List (Addr × Obj)
 xe:Value->Shared->Prop
noncomputable def frs (l:List Env):List Addr:=l.filterMap (·.frame)
noncomputable abbrev Cx.fs (X:Cx):List Addr:=frs X.outer
noncomputable def Vis (sc:Scope) (x:Str):Prop:=sc.names.lookup x=some .local\/sc.names.lookup x=some .cell\/sc.names.lookup x=some .free
noncomputable def Loc (sc:Scope) (x:Str):Prop:=sc.names.lookup x=some .local\/sc.names.lookup x=some .cell
noncomputable def Look (env:Env) (h:Heap) (m:Str->Option Value) (x:Str) (u:Value):Prop :=
 (env.kindOf x=some .local/\m x=some u)\/((env.kindOf x=some .cell\/env.kindOf x=some .free)/\∃ c,env.cells.lookup x=some c/\h.IsCell c (some u))
structure Cx.Ok (X:Cx):Prop where
 mod:Mod X.K X.mg X.base
 kind:X.env.scope.kind = .function
 glob:X.env.globals=mainGlobals
 blt:X.env.builtins=builtinsNs
 above:X.s₀.heap.objs.size <= X.env.locals
 inj:∀ x y c,X.env.cells.lookup x=some c->X.env.cells.lookup y=some c->x=y
 has:∀ x,(X.env.kindOf x=some .cell\/X.env.kindOf x=some .free)->∃ c,X.env.cells.lookup x=some c
 cab:∀ x c,X.fn x=true->X.env.cells.lookup x=some c->X.s₀.heap.objs.size <= c
 hd:X.calm=true->X.A.handled=none
 frames:X.A.frames=some X.stack
 stk:X.stack=X.outer\/(X.stack=X.env :: X.outer/\X.env.frame=some X.env.locals)
 exf:∀ b ∈ X.ex,b ≠ X.env.locals/\∀ x c,X.env.cells.lookup x=some c->c ≠ b
 bs:∀ b o,X.base.get? b=some o->X.s₀.heap.get? b=some o/\X.H₀ b=none
 bsz:X.base.objs.size <= X.s₀.heap.objs.size
 noex:∀ b o,X.base.get? b=some o->b ∉ X.ex
 exfs:∀ b ∈ X.ex,b ∉ X.fs
 funs:X.s₀.heap.FunFrames X.base X.outer
 frf:∀ b ∈ X.fs,X.H₀ b=none
structure Inv (X:Cx) (pins:List (Addr × Obj)) (σ:List (Option V)) (H:Hp) (s:Shared):Prop where
 ok:X.Ok
 os:s.os=X.s₀.os
 bare:AllBare s.gens
 base:Un X.fs X.ex X.H₀ H X.s₀.heap s.heap
 loc:∃ m,s.heap.Ns X.env.locals m/\∀ (i:Nat) (x:Str) (v:V),X.N[i]? = some x->σ[i]? = some (some v)->Vis X.env.scope x->∃ u,RelV v u/\Look X.env s.heap m x u
 cell:∀ x c,X.env.cells.lookup x=some c->∃ v,s.heap.IsCell c v
 free:H X.env.locals=none
 freeC:∀ x c,X.env.cells.lookup x=some c->H c=none
 pin:∀ p ∈ X.pn ++ pins,s.heap.get? p.1=some p.2/\H p.1=none/\p.1 ≠ X.env.locals/\p.1 ∉ X.fs/\∀ v,p.2.data ≠ .cell v
 hok:HOk X.prog X.w H s.heap
 len:σ.length=X.N.length
section
variable {X:Cx} {pins:List (Addr × Obj)} {σ:List (Option V)} {H H':Hp} {s:Shared} {h':Heap}
theorem Cx.Ok.nofr (ok:X.Ok) {b:Addr} {o:Obj} (e:X.base.get? b=some o):b ∉ X.fs:=fun hb=>by
 have:=(ok.funs.mem hb).1
 rw [e] at this; cases this
theorem Inv.bs (I:Inv X pins σ H s):∀ b o,X.base.get? b=some o->s.heap.get? b=some o/\H b=none:=fun b o e =>
 ⟨I.base.keep b o (I.ok.bs b o e).1 (I.ok.bs b o e).2 (I.ok.nofr e) (I.ok.noex b o e),I.base.free b o (I.ok.bs b o e).1 (I.ok.bs b o e).2 (I.ok.noex b o e)⟩
theorem Inv.bk (I:Inv X pins σ H s):∀ b o,X.base.get? b=some o->s.heap.get? b=some o:=fun b o e=>(I.bs b o e).1
theorem Inv.mod (I:Inv X pins σ H s):Mod X.K X.mg X.base:=I.ok.mod
theorem Inv.kIn (I:Inv X pins σ H s):X.K.In s.heap:=I.ok.mod.kin.keeps I.bk
theorem Inv.fr (I:Inv X pins σ H s):∃ m,Fr X.base X.env.locals s.heap m :=
 let ⟨m,hn,_⟩:=I.loc
 ⟨m,hn,I.bk,Nat.le_trans I.ok.bsz I.ok.above⟩
theorem Inv.lt (I:Inv X pins σ H s):X.env.locals < s.heap.objs.size:=let ⟨_,hn,_⟩:=I.loc; hn.lt
theorem Inv.sz (I:Inv X pins σ H s):X.s₀.heap.objs.size <= s.heap.objs.size:=Nat.le_trans I.ok.above (Nat.le_of_lt I.lt)
theorem Inv.nofs (I:Inv X pins σ H s) {a:Addr} (h:s.heap.objs.size <= a):a ∉ X.fs:=fun hb=>by
 obtain ⟨_,o,ho,_⟩:=I.ok.funs.mem hb
 exact absurd (Nat.lt_of_lt_of_le (Heap.lt_size ho) (Nat.le_trans I.sz h)) (Nat.lt_irrefl _)
theorem Inv.cne (I:Inv X pins σ H s):∀ x c,X.env.cells.lookup x=some c->c ≠ X.env.locals:=fun x c e z=>by
 obtain ⟨v,o,ho,hd⟩:=I.cell x c e
 obtain ⟨m,⟨o',es,ep,ho',hd',_⟩,_⟩:=I.loc
 rw [z,ho'] at ho; cases ho; rw [hd'] at hd; cases hd
theorem Inv.funs (I:Inv X pins σ H s):s.heap.FunFrames X.base X.outer:=by
 have all:∀ (l:List Env),(∀ b ∈ frs l,b ∈ X.fs)->X.s₀.heap.FunFrames X.base l->s.heap.FunFrames X.base l:=by
  intro l
  induction l with
  | nil=>intro _ _; trivial
  | cons env r ih =>
   intro hs hl
   obtain ⟨hk,⟨L,o,hf,hn,ho,hd⟩,hr⟩:=hl
   have hL:L ∈ X.fs:=hs L (by unfold frs; rw [List.filterMap_cons,hf]; exact List.mem_cons_self)
   obtain ⟨sl,e⟩:=I.base.slot L o ho (I.ok.frf L hL) hL fun z=>I.ok.exfs L z hL
   exact ⟨hk,⟨L,_,hf,hn,e,hd⟩,ih (fun b hb=>hs b (by unfold frs; rw [List.filterMap_cons,hf]; exact List.mem_cons_of_mem _ hb)) hr⟩
 exact all X.outer (fun _ hb=>hb) I.ok.funs
theorem Inv.stack (I:Inv X pins σ H s):s.heap.FunFrames X.base X.stack:=by
 rcases I.ok.stk with e | ⟨e,hf⟩
 ·rw [e]; exact I.funs
 ·rw [e]
  obtain ⟨m,hn,_⟩:=I.loc
  refine .cons (by rw [I.ok.kind]; decide) hf hn ?_ I.funs
  exact Heap.get?_none_of_le (Nat.le_trans I.ok.bsz I.ok.above)
theorem Inv.stkSub (I:Inv X pins σ H s):∀ b ∈ frs X.stack,b ∈ X.env.locals :: X.fs:=fun b hb=>by
 rcases I.ok.stk with e | ⟨e,hf⟩
 ·rw [e] at hb; exact List.mem_cons_of_mem _ hb
 ·rw [e] at hb
  unfold frs at hb
  rw [List.filterMap_cons,hf] at hb
  exact hb
theorem Inv.stkFree (I:Inv X pins σ H s):∀ b ∈ frs X.stack,H b=none:=fun b hb=>by
 rcases List.mem_cons.mp (I.stkSub b hb) with e | hb
 ·rw [e]; exact I.free
 ·obtain ⟨_,o,ho,_⟩:=I.ok.funs.mem hb
  exact I.base.free b o ho (I.ok.frf b hb) fun z=>I.ok.exfs b z hb
theorem Inv.step {g':Array GenState} {t':Nat} {d':Drawn} {ch:List Addr} (I:Inv X pins σ H s)
  (hch:∀ b ∈ ch,(b ∈ X.ex\/X.s₀.heap.objs.size <= b)/\b ≠ X.env.locals/\(∀ x c,X.env.cells.lookup x=some c->c ≠ b)/\∀ p ∈ X.pn ++ pins,p.1 ≠ b)
  (keep:∀ b o,b ≠ X.env.locals->b ∉ X.fs->b ∉ ch->s.heap.get? b=some o->H b=none->h'.get? b=some o)
  (slot:∀ b o,b ≠ X.env.locals->b ∈ X.fs->b ∉ ch->s.heap.get? b=some o->H b=none->∃ sl,h'.get? b=some { o with slots:=sl }) (free:∀ b o,b ∉ ch->s.heap.get? b=some o->H b=none->H' b=none)
  (there:∀ b o,b ∉ ch->s.heap.get? b=some o->∃ o',h'.get? b=some o')
  (tups:∀ b xs,H b=some (.tup xs)->H' b=some (.tup xs)) (frzs:∀ b o u,H b=some (.frz o u)->H' b=some (.frz o u)) (tbls:∀ b ps,H b=some (.tbl ps)->∃ more,H' b=some (.tbl (ps ++ more)))
  (ns:∀ m,s.heap.Ns X.env.locals m->h'.Ns X.env.locals m) (hok:HOk X.prog X.w H' h') (hg:AllBare g') :
  Inv X pins σ H' { s with heap:=h',gens:=g',drawn:=d',toks:=t' }:=by
 have neL:∀ b o,X.s₀.heap.get? b=some o->b ≠ X.env.locals:=fun b o e=>Nat.ne_of_lt (Nat.lt_of_lt_of_le (Heap.lt_size e) I.ok.above)
 have neC:∀ b o,X.s₀.heap.get? b=some o->b ∉ X.ex->b ∉ ch:=fun b o e hx hb=>by
  rcases (hch b hb).1 with z | z
  ·exact hx z
  ·exact absurd (Nat.lt_of_lt_of_le (Heap.lt_size e) z) (Nat.lt_irrefl _)
 have cellK:∀ x c,X.env.cells.lookup x=some c->∀ v,s.heap.IsCell c v->h'.IsCell c v:=fun x c e v ⟨o,ho,hd⟩=>by
  have nch:c ∉ ch:=fun z=>(hch c z).2.2.1 x c e rfl
  by_cases hc:c ∈ X.fs
  ·obtain ⟨sl,q⟩:=slot c o (I.cne x c e) hc nch ho (I.freeC x c e)
   exact ⟨_,q,hd⟩
  ·exact ⟨o,keep c o (I.cne x c e) hc nch ho (I.freeC x c e),hd⟩
 refine ⟨I.ok,I.os,hg,⟨fun b o e n hb hx=>?_,fun b o e n hb hx=>?_,fun b o e n hx=>?_,fun b o e hx=>?_,fun b xs e=>tups b xs (I.base.tups b xs e),fun b o xs e=>frzs b o xs (I.base.frzs b o xs e),fun b ps e=>?_⟩,?_,fun x c e=>?_,?_,fun x c e=>?_,fun p hp=>?_,hok,I.len⟩
 ·exact keep b o (neL b o e) hb (neC b o e hx) (I.base.keep b o e n hb hx) (I.base.free b o e n hx)
 ·obtain ⟨sl,e1⟩:=I.base.slot b o e n hb hx
  obtain ⟨sl',e2⟩:=slot b _ (neL b o e) hb (neC b o e hx) e1 (I.base.free b o e n hx)
  exact ⟨sl',e2⟩
 ·obtain ⟨o',e1⟩:=I.base.there b o e hx
  exact free b o' (neC b o e hx) e1 (I.base.free b o e n hx)
 ·obtain ⟨o',e1⟩:=I.base.there b o e hx
  exact there b o' (neC b o e hx) e1
 ·obtain ⟨m1,e1⟩:=I.base.tbls b ps e
  obtain ⟨m2,e2⟩:=tbls b _ e1
  exact ⟨m1 ++ m2,by rw [e2,Array.append_assoc]⟩
 ·obtain ⟨m,hn,hl⟩:=I.loc
  refine ⟨m,ns m hn,fun i x v e1 e2 e3=>?_⟩
  obtain ⟨u,r,l⟩:=hl i x v e1 e2 e3
  refine ⟨u,r,?_⟩
  rcases l with l | ⟨k,c,e,z⟩
  ·exact .inl l
  ·exact .inr ⟨k,c,e,cellK x c e _ z⟩
 ·obtain ⟨v,z⟩:=I.cell x c e
  exact ⟨v,cellK x c e v z⟩
 ·obtain ⟨m,⟨o,_,_,ho,_⟩,_⟩:=I.loc
  exact free _ o (fun z=>(hch _ z).2.1 rfl) ho I.free
 ·obtain ⟨v,o,ho,hd⟩:=I.cell x c e
  exact free c o (fun z=>(hch c z).2.2.1 x c e rfl) ho (I.freeC x c e)
 ·obtain ⟨e,n,ne,nf,d⟩:=I.pin p hp
  have nch:p.1 ∉ ch:=fun z=>(hch p.1 z).2.2.2 p hp rfl
  exact ⟨keep p.1 p.2 ne nf nch e n,free p.1 p.2 nch e n,ne,nf,d⟩
theorem Inv.un {t':Nat} (I:Inv X pins σ H s) (u:Un X.fs [] H H' s.heap h') (hok:HOk X.prog X.w H' h'):Inv X pins σ H' { s with heap:=h',toks:=t' }:=by
 obtain ⟨m,⟨o,es,ep,ho,r⟩,_⟩:=id I.loc
 obtain ⟨sl,hL⟩:=u.any ho I.free (by simp)
 exact I.step (g':=s.gens) (d':=s.drawn) (ch:=[]) (fun _ z=>nomatch z) (fun b o _ hb _ e n=>u.keep b o e n hb (by simp)) (fun b o _ hb _ e n=>u.slot b o e n hb (by simp)) (fun b o _ e n=>u.free b o e n (by simp)) (fun b o _ e=>u.there b o e (by simp)) u.tups u.frzs u.tbls (fun m' hm=>by
  obtain ⟨o',es',ep',ho',r'⟩:=hm
  rw [ho] at ho'; cases ho'
  exact ⟨_,es',ep',hL,r'⟩) hok I.bare
theorem Inv.call {g':Array GenState} {t':Nat} {d':Drawn} {ch:List Addr} (I:Inv X pins σ H s) (u:Un (frs X.stack) ch H H' s.heap h') (hok:HOk X.prog X.w H' h') (hg:AllBare g')
  (hch:∀ b ∈ ch,(b ∈ X.ex\/X.s₀.heap.objs.size <= b)/\b ≠ X.env.locals/\(∀ x c,X.env.cells.lookup x=some c->c ≠ b)/\∀ p ∈ X.pn ++ pins,p.1 ≠ b) :
  Inv X pins σ H' { s with heap:=h',gens:=g',drawn:=d',toks:=t' }:=by
 obtain ⟨m,⟨o,es,ep,ho,r⟩,_⟩:=id I.loc
 obtain ⟨sl,hL⟩:=u.any ho I.free fun z=>(hch _ z).2.1 rfl
 exact I.step (ch:=ch) hch (fun b o hL hb hc e n=>u.keep b o e n (fun z=>(List.mem_cons.mp (I.stkSub b z)).elim hL hb) hc) (fun b o _ _ hc e n=>u.any e n hc) (fun b o hc e n=>u.free b o e n hc) (fun b o hc e=>u.there b o e hc) u.tups u.frzs u.tbls (fun m' hm=>by
  obtain ⟨o',es',ep',ho',r'⟩:=hm
  rw [ho] at ho'; cases ho'
  exact ⟨_,es',ep',hL,r'⟩) hok hg
theorem Inv.turned {t':Nat} {it:Addr} (I:Inv X pins σ H s) (k:∀ b o,b ≠ it->s.heap.get? b=some o->h'.get? b=some o) (hn:H it=none) (hL:it ≠ X.env.locals)
  (h1:it ∈ X.ex\/X.s₀.heap.objs.size <= it) (h2:∀ x c,X.env.cells.lookup x=some c->c ≠ it) (h3:∀ p ∈ X.pn ++ pins,p.1 ≠ it):Inv X pins σ H { s with heap:=h',toks:=t' }:=by
 have nit:∀ b u,H b=some u->b ≠ it:=fun b u e z=>by rw [z,hn] at e; cases e
 refine I.step (g':=s.gens) (d':=s.drawn) (ch:=[it]) (fun b hb=>?_) (fun b o _ _ hc e _=>k b o (fun z=>hc (by simp [z])) e) (fun b o _ _ hc e _=>⟨o.slots,k b o (fun z=>hc (by simp [z])) e⟩) (fun _ _ _ _ n=>n)
  (fun b o hc e=>⟨o,k b o (fun z=>hc (by simp [z])) e⟩) (fun _ _ e=>e) (fun _ _ _ e=>e) (fun b ps e=>⟨#[],by rw [e]; simp⟩) (fun m hm=>?_) (fun b u e=>?_) I.bare
 ·have e:b=it:=by simpa using hb
  subst e
  exact ⟨h1,hL,h2,h3⟩
 ·obtain ⟨o,es,ep,ho,r⟩:=hm
  exact ⟨o,es,ep,k _ o (Ne.symm hL) ho,r⟩
 ·refine (I.hok b u e).stay (fun c v hc q=>k c v ?_ q) (fun _ q=>q) fun _ _ q=>q
  rcases hc with z | z
  ·rw [z]; exact nit b u e
  ·exact nit c _ z
theorem Inv.tok (I:Inv X pins σ H s) (t:Nat):Inv X pins σ H { s with toks:=t }:=I.un (h':=s.heap) (t':=t) Un.refl I.hok
theorem Inv.kept {t':Nat} (I:Inv X pins σ H s) (k:∀ b u,s.heap.get? b=some u->h'.get? b=some u):Inv X pins σ H { s with heap:=h',toks:=t' }:=I.un (Un.kept k) (I.hok.kept k)
theorem Inv.laid {a:Addr} {o:HO} {t':Nat} (I:Inv X pins σ H s) (k:∀ b u,s.heap.get? b=some u->h'.get? b=some u) (hp:s.heap.objs.size <= a) (new:ObjOk X.prog X.w (upd H a o) h' a o) :
  Inv X pins σ (upd H a o) { s with heap:=h',toks:=t' }:=I.un (Un.laid k hp (I.hok.fresh hp)) (I.hok.laid k hp new)
theorem Inv.write {x e:Addr} {o:HO} {t':Nat} (I:Inv X pins σ H s) (mu:Mut (H x)) (he:e=x\/H e=some (.own x)) (k:∀ b u,b ≠ e->s.heap.get? b=some u->h'.get? b=some u) (heo:∃ u,h'.get? e=some u)
  (new:ObjOk X.prog X.w (upd H x o) h' x o):Inv X pins σ (upd H x o) { s with heap:=h',toks:=t' }:=I.un (Un.write mu he k heo) (I.hok.write mu he k heo new)
theorem Inv.weak {σ':List (Option V)} (I:Inv X pins σ H s) (hl:σ'.length=σ.length) (w:∀ (i:Nat) v,σ'[i]? = some (some v)->σ[i]? = some (some v)):Inv X pins σ' H s :=
 ⟨I.ok,I.os,I.bare,I.base,let ⟨m,hn,hl'⟩:=I.loc; ⟨m,hn,fun i x v e1 e2 e3=>hl' i x v e1 (w i v e2) e3⟩,I.cell,I.free,I.freeC,I.pin,I.hok,hl.trans I.len⟩
theorem Inv.pins_of {pins':List (Addr × Obj)} (I:Inv X pins σ H s) (h:∀ p ∈ pins',s.heap.get? p.1=some p.2/\H p.1=none/\p.1 ≠ X.env.locals/\p.1 ∉ X.fs/\∀ v,p.2.data ≠ .cell v):Inv X pins' σ H s :=
 ⟨I.ok,I.os,I.bare,I.base,I.loc,I.cell,I.free,I.freeC,fun p hp=>(List.mem_append.mp hp).elim (fun z=>I.pin p (List.mem_append_left _ z)) (h p),I.hok,I.len⟩
theorem nodup_ix {N:List Str} (hN:N.Nodup) {i j:Nat} {x:Str} (a:N[i]? = some x) (b:N[j]? = some x):i=j:=by
 obtain ⟨h1,e1⟩:=List.getElem?_eq_some_iff.mp a
 obtain ⟨h2,e2⟩:=List.getElem?_eq_some_iff.mp b
 exact (List.getElem_inj hN).mp (e1.trans e2.symm)
theorem store_ok2 {M:Model} {A:Around} {E:Value->Shared->Prop} {i:Nat} {x:Str} {v:V} {u:Value} {Q:Unit->Shared->Prop} (I:Inv X pins σ H s) (hN:X.N.Nodup) (hi:X.N[i]? = some x) (hx:Loc X.env.scope x) (r:RelV v u)
  (h:∀ s',Inv X pins (σ.set i (some v)) H s'->(∃ a,Heap.SameBut a s.heap s'.heap/\(a=X.env.locals\/X.env.cells.lookup x=some a))->Q () s') (hf:X.fn x=true\/X.env.scope.names.lookup x=some .local:=by first | exact .inl rfl | exact .inr rfl | assumption):wpAny M A (storeName X.env x u) Q E s:=by
 obtain ⟨m,hn,hl⟩:=id I.loc
 have hcls:(X.env.scope.kind == .class || (X.env.scope.kind == .module && X.env.locals != X.env.globals))=false:=by rw [I.ok.kind]; rfl
 have hiσ:i < σ.length:=by rw [I.len]; exact (List.getElem?_eq_some_iff.mp hi).1
 have cne:=I.cne
 have tracked:∀ {a:Addr} {h':Heap},(∃ o,s.heap.get? a=some o/\H a=none)->Heap.SameBut a s.heap h'->HOk X.prog X.w H h':=fun {a h'} ha hs b ob e=>by
  obtain ⟨_,_,hfree⟩:=ha
  refine (I.hok b ob e).stay (fun c w' hc q=>(hs.2 c ?_).trans q) (fun _ q=>q) fun _ _ q=>q
  rintro rfl
  rcases hc with rfl | hc
  ·rw [hfree] at e; cases e
  ·rw [hfree] at hc; cases hc
 rcases hx with hk | hk
 ·refine wpAny_storeName_local hk hn (fun h' hn' hs=>?_) hcls
  obtain ⟨oL,_,_,hoL,_⟩:=id hn
  refine h _ ⟨I.ok,I.os,I.bare,⟨fun b o e n hb hx=>?_,fun b o e n hb hx=>?_,I.base.free,fun b o e hx=>?_,I.base.tups,I.base.frzs,I.base.tbls⟩,⟨_,hn',fun j y v' e1 e2 e3=>?_⟩,fun y c e=>?_,I.free,I.freeC,fun p hp=>?_,tracked ⟨oL,hoL,I.free⟩ hs,by simpa using I.len⟩ ⟨_,hs,.inl rfl⟩
  ·exact (hs.2 b (Nat.ne_of_lt (Nat.lt_of_lt_of_le (Heap.lt_size e) I.ok.above))).trans (I.base.keep b o e n hb hx)
  ·obtain ⟨sl,e1⟩:=I.base.slot b o e n hb hx
   exact ⟨sl,(hs.2 b (Nat.ne_of_lt (Nat.lt_of_lt_of_le (Heap.lt_size e) I.ok.above))).trans e1⟩
  ·obtain ⟨o',e1⟩:=I.base.there b o e hx
   exact ⟨o',(hs.2 b (Nat.ne_of_lt (Nat.lt_of_lt_of_le (Heap.lt_size e) I.ok.above))).trans e1⟩
  ·by_cases hj:j=i
   ·subst hj
    rw [hi] at e1; cases e1
    rw [List.getElem?_set_self hiσ] at e2
    cases e2
    exact ⟨u,r,.inl ⟨hk,by simp⟩⟩
   ·rw [List.getElem?_set_ne (Ne.symm hj)] at e2
    obtain ⟨u',r',q⟩:=hl j y v' e1 e2 e3
    refine ⟨u',r',?_⟩
    rcases q with ⟨k,e⟩ | ⟨k,c,e,z⟩
    ·refine .inl ⟨k,?_⟩
     have:y ≠ x:=fun e=>hj (nodup_ix hN e1 (e ▸ hi))
     simp [this,e]
    ·exact .inr ⟨k,c,e,z.sameBut hs (cne y c e)⟩
  ·obtain ⟨w',z⟩:=I.cell y c e
   exact ⟨w',z.sameBut hs (cne y c e)⟩
  ·obtain ⟨e,n,ne,nf,d⟩:=I.pin p hp
   exact ⟨(hs.2 p.1 ne).trans e,n,ne,nf,d⟩
 ·have hfn:X.fn x=true:=by
   rcases hf with z | z
   ·exact z
   ·rw [z] at hk; cases hk
  obtain ⟨c,hc⟩:=I.ok.has x (.inl hk)
  obtain ⟨w',z⟩:=I.cell x c hc
  refine wpAny_storeName_cell I.ok.kind hk hc z (fun h' hc' hs=>?_)
  obtain ⟨oc,hoc,hocd⟩:=id z
  refine h { s with heap:=h' } ⟨I.ok,I.os,I.bare,⟨fun b o e n hb hx=>?_,fun b o e n hb hx=>?_,I.base.free,fun b o e hx=>?_,I.base.tups,I.base.frzs,I.base.tbls⟩,⟨m,hn.sameBut hs (Ne.symm (cne x c hc)),fun j y v' e1 e2 e3=>?_⟩,fun y c' e=>?_,I.free,I.freeC,fun p hp=>?_,tracked ⟨oc,hoc,I.freeC x c hc⟩ hs,by simpa using I.len⟩ ⟨c,hs,.inr hc⟩
  ·exact (hs.2 b (Nat.ne_of_lt (Nat.lt_of_lt_of_le (Heap.lt_size e) (I.ok.cab x c hfn hc)))).trans (I.base.keep b o e n hb hx)
  ·obtain ⟨sl,e1⟩:=I.base.slot b o e n hb hx
   exact ⟨sl,(hs.2 b (Nat.ne_of_lt (Nat.lt_of_lt_of_le (Heap.lt_size e) (I.ok.cab x c hfn hc)))).trans e1⟩
  ·obtain ⟨o',e1⟩:=I.base.there b o e hx
   exact ⟨o',(hs.2 b (Nat.ne_of_lt (Nat.lt_of_lt_of_le (Heap.lt_size e) (I.ok.cab x c hfn hc)))).trans e1⟩
  ·by_cases hj:j=i
   ·subst hj
    rw [hi] at e1; cases e1
    rw [List.getElem?_set_self hiσ] at e2
    cases e2
    exact ⟨u,r,.inr ⟨.inl hk,c,hc,hc'⟩⟩
   ·rw [List.getElem?_set_ne (Ne.symm hj)] at e2
    obtain ⟨u',r',q⟩:=hl j y v' e1 e2 e3
    refine ⟨u',r',?_⟩
    rcases q with q | ⟨k,c',e,z'⟩
    ·exact .inl q
    ·refine .inr ⟨k,c',e,z'.sameBut hs ?_⟩
     rintro rfl
     exact hj (nodup_ix hN e1 (I.ok.inj _ _ _ e hc ▸ hi))
  ·by_cases hcc:c'=c
   ·subst hcc; exact ⟨_,hc'⟩
   ·obtain ⟨w2,z2⟩:=I.cell y c' e
    exact ⟨w2,z2.sameBut hs hcc⟩
  ·obtain ⟨e,n,ne,nf,d⟩:=I.pin p hp
   refine ⟨(hs.2 p.1 ?_).trans e,n,ne,nf,d⟩
   intro q
   rw [q,hoc] at e
   have q':oc=p.2:=Option.some.inj e
   exact d w' (by rw [<- q']; exact hocd)
theorem store_ok {M:Model} {A:Around} {E:Value->Shared->Prop} {i:Nat} {x:Str} {v:V} {u:Value} {Q:Unit->Shared->Prop} (I:Inv X pins σ H s) (hN:X.N.Nodup) (hi:X.N[i]? = some x) (hx:Loc X.env.scope x) (r:RelV v u)
  (h:∀ s',Inv X pins (σ.set i (some v)) H s'->Q () s') (hf:X.fn x=true\/X.env.scope.names.lookup x=some .local:=by first | exact .inl rfl | exact .inr rfl | assumption):wpAny M A (storeName X.env x u) Q E s :=
 store_ok2 I hN hi hx r (fun s' I' _=>h s' I') hf
theorem Inv.call' {s':Shared} {ch:List Addr} (I:Inv X pins σ H s) (ho:s'.os=s.os) (u:Un (frs X.stack) ch H H' s.heap s'.heap) (hok:HOk X.prog X.w H' s'.heap) (hg:AllBare s'.gens)
  (hch:∀ b ∈ ch,(b ∈ X.ex\/X.s₀.heap.objs.size <= b)/\b ≠ X.env.locals/\(∀ x c,X.env.cells.lookup x=some c->c ≠ b)/\∀ p ∈ X.pn ++ pins,p.1 ≠ b):Inv X pins σ H' s':=by
 obtain ⟨h',g',d',t',o'⟩:=s'
 have e:o'=s.os:=ho
 subst e
 exact I.call (g':=g') (t':=t') (d':=d') u hok hg hch
end
noncomputable abbrev XK:=Value->Option Addr->Hp->Prop
noncomputable abbrev St:=List (Option V)
noncomputable abbrev VK:=V->Hp->Prop
noncomputable abbrev TE:=St->Hp->VK->Prop
noncomputable abbrev TT:=St->Hp->(Bool->Hp->Prop)->Prop
noncomputable abbrev TA:=St->Hp->(List V->Hp->Prop)->Prop
structure Ends where
 nx:St->Hp->Prop
 rt:VK
 bk:St->Hp->Prop:=fun _ _=>False
 ct:St->Hp->Prop:=fun _ _=>False
noncomputable abbrev TS:=Ends->St->Hp->Prop
noncomputable def EP (X:Cx) (pins:List (Addr × Obj)) (σ:St) (Q:VK) (u:Value) (s':Shared):Prop:=∃ v H',Inv X pins σ H' s'/\RelV v u/\Q v H'
noncomputable def TP (X:Cx) (pins:List (Addr × Obj)) (σ:St) (Q:Bool->Hp->Prop) (b:Bool) (s':Shared):Prop:=∃ H',Inv X pins σ H' s'/\Q b H'
noncomputable def AP (X:Cx) (pins:List (Addr × Obj)) (σ:St) (Q:List V->Hp->Prop) (us:List Value) (s':Shared):Prop:=∃ vs H',Inv X pins σ H' s'/\Vals vs us/\Q vs H'
noncomputable def SP (X:Cx) (pins:List (Addr × Obj)) (D:Ends) (f:Flow) (s':Shared):Prop :=
 match f with
 | .next=>∃ σ' H',Inv X pins σ' H' s'/\D.nx σ' H'
 | .brk=>∃ σ' H',Inv X pins σ' H' s'/\D.bk σ' H'
 | .cont=>∃ σ' H',Inv X pins σ' H' s'/\D.ct σ' H'
 | .ret u=>∃ v σ' H',Inv X pins σ' H' s'/\RelV v u/\D.rt v H'
noncomputable def PE (X:Cx) (e:Expr) (t:TE):Prop :=
 ∀ (pins:List (Addr × Obj)) (s:Shared) (σ:St) (H:Hp) (Q:VK),Inv X pins σ H s->t σ H Q->wpAny (model X.prog X.w) X.A (eval e X.env) (EP X pins σ Q) X.xe s
noncomputable def PT (X:Cx) (e:Expr) (t:TT):Prop :=
 ∀ (pins:List (Addr × Obj)) (s:Shared) (σ:St) (H:Hp) (Q:Bool->Hp->Prop),Inv X pins σ H s->t σ H Q->wpAny (model X.prog X.w) X.A (isTrue e X.env (eval e X.env)) (TP X pins σ Q) X.xe s
noncomputable def PW (X:Cx) (e:Expr) (t:TT):Prop :=
 ∀ (whole:Sem Value) (pins:List (Addr × Obj)) (s:Shared) (σ:St) (H:Hp) (Q:Bool->Hp->Prop),Inv X pins σ H s->t σ H Q->wpAny (model X.prog X.w) X.A (isTrue e X.env whole) (TP X pins σ Q) X.xe s
theorem PW.pt {X:Cx} {e:Expr} {t:TT} (h:PW X e t):PT X e t:=h _
noncomputable def PA (X:Cx) (es:List Expr) (t:TA):Prop :=
 ∀ (pos:Pos) (pins:List (Addr × Obj)) (s:Shared) (σ:St) (H:Hp) (Q:List V->Hp->Prop),Inv X pins σ H s->t σ H Q->wpAny (model X.prog X.w) X.A (spliced (backTo pos (starEach es X.env))) (AP X pins σ Q) X.xe s
noncomputable def PS (X:Cx) (st:Stmt) (t:TS):Prop :=
 ∀ (pins:List (Addr × Obj)) (s:Shared) (σ:St) (H:Hp) (D:Ends),Inv X pins σ H s->t D σ H->wpAny (model X.prog X.w) X.A (exec st X.env) (SP X pins D) X.xe s
noncomputable def PSs (X:Cx) (st:List Stmt) (t:TS):Prop :=
 ∀ (pins:List (Addr × Obj)) (s:Shared) (σ:St) (H:Hp) (D:Ends),Inv X pins σ H s->t D σ H->wpAny (model X.prog X.w) X.A (execs st X.env) (SP X pins D) X.xe s
theorem thn {α:Type} {t:Sem α} {Q Q':α->Shared->Prop} {M:Model} {A:Around} {E:Value->Shared->Prop} {s:Shared} (h:wpAny M A t Q E s) (hQ:∀ a s,Q a s->Q' a s):wpAny M A t Q' E s:=wpAny_mono h hQ fun _ _ x=>x
end L2
namespace L2
open PySem PySem.Spec PyProof.Rows
section
variable {X:Cx}
noncomputable def tVar (i:Nat):TE:=fun σ H Q=>∃ v,σ[i]? = some (some v)/\Q v H
noncomputable def tC (v:V):TE:=fun _ H Q=>Q v H
theorem pe_var {i:Nat} {x:Str} {pos:Pos} (hN:X.N[i]? = some x) (hv:Vis X.env.scope x) (hd:(x == ("__debug__" : Str))=false:=by decide) (hcd:(x == ("__classdict__" : Str))=false:=by decide):PE X (.Name x pos) (tVar i):=by
 intro pins s σ H Q I h
 obtain ⟨v,e,h⟩:=h
 obtain ⟨m,hn,hl⟩:=I.loc
 obtain ⟨u,r,l⟩:=hl i x v hN e hv
 have fin:EP X pins σ Q u s:=⟨v,H,I,r,h⟩
 rcases l with ⟨hk,hm⟩ | ⟨hk,c,hc,hcell⟩
 ·exact wpAny_Name (wpAny_loadName_local I.ok.kind hk hn hm fin) hd
 ·rcases hk with hk | hk
  ·exact wpAny_Name (wpAny_loadName_cell I.ok.kind hk hc hcell fin) hd
  ·exact wpAny_Name (wpAny_loadName_free I.ok.kind hk hc hcell fin hcd) hd
theorem pe_int {i j pos}:PE X (.Constant (.int i) j pos) (tC (.int i)):=fun _ _ _ H _ I h=>wpAny_Constant_int ⟨.int i,H,I.tok _,⟨_,rfl⟩,h⟩
theorem pe_bl {b j pos}:PE X (.Constant (.bool b) j pos) (tC (.bl b)):=fun _ _ _ H _ I h=>Constant_bool ⟨.bl b,H,I,rfl,h⟩
theorem pe_non {j pos}:PE X (.Constant .none j pos) (tC .non):=fun _ _ _ H _ I h=>Constant_none ⟨.non,H,I,rfl,h⟩
theorem pe_str {x j pos}:PE X (.Constant (.str x) j pos) (tC (.str x)):=fun _ _ _ H _ I h=>Calls.Constant_str ⟨.str x,H,I.tok _,⟨_,rfl⟩,h⟩
noncomputable def Gl (X:Cx) (x:Str):Prop:=X.env.kindOf x=some .globalImplicit
theorem ld_glob {E:Value->Shared->Prop} {pins:List (Addr × Obj)} {s:Shared} {σ:St} {H:Hp} {x:Str} {u:Value} {pos:Pos} {Q:Value->Shared->Prop} (I:Inv X pins σ H s) (hg:Gl X x) (hm:X.mg x=some u) (h:Q u s)
  (hd:(x == ("__debug__" : Str))=false:=by decide):wpAny (model X.prog X.w) X.A (eval (.Name x pos) X.env) Q E s :=
 Calls.Name_function_global I.ok.kind hg (Calls.loadGlobal_global (by rw [I.ok.glob]; exact I.mod.glob.keeps I.bk) hm h) hd
theorem ld_blt {E:Value->Shared->Prop} {pins:List (Addr × Obj)} {s:Shared} {σ:St} {H:Hp} {x:Str} {u:Value} {pos:Pos} {Q:Value->Shared->Prop} (I:Inv X pins σ H s) (hg:Gl X x) (hm:X.mg x=none) (hv:bootBuiltins x=some u) (h:Q u s)
  (hn:x ≠ "__name__":=by decide) (hd:(x == ("__debug__" : Str))=false:=by decide):wpAny (model X.prog X.w) X.A (eval (.Name x pos) X.env) Q E s:=by
 obtain ⟨mb,h1,h2⟩:=I.mod.blt
 exact Calls.Name_function_global I.ok.kind hg (Calls.loadGlobal_builtin (by rw [I.ok.glob]; exact I.mod.glob.keeps I.bk) hm (by rw [I.ok.blt]; exact h1.keeps I.bk) ((h2 x hn).trans hv) h) hd
theorem pe_glob {x:Str} {v:V} {u:Value} {pos:Pos} (hg:Gl X x) (hm:X.mg x=some u) (r:RelV v u) (hd:(x == ("__debug__" : Str))=false:=by decide):PE X (.Name x pos) (tC v) :=
 fun _ _ _ H _ I h=>ld_glob I hg hm ⟨v,H,I,r,h⟩ hd
theorem pe_bltn {x:Str} {v:V} {u:Value} {pos:Pos} (hg:Gl X x) (hm:X.mg x=none) (hv:bootBuiltins x=some u) (r:RelV v u) (hn:x ≠ "__name__":=by decide) (hd:(x == ("__debug__" : Str))=false:=by decide):PE X (.Name x pos) (tC v) :=
 fun _ _ _ H _ I h=>ld_blt I hg hm hv ⟨v,H,I,r,h⟩ hn hd
variable {a b:Expr} {ta tb:TE} {pos:Pos}
variable {tA tB':TT} {rest:List Expr}
noncomputable def tAnd (t u:TT):TT:=fun σ H Q=>t σ H fun c H1=>if c=true then u σ H1 Q else Q false H1
noncomputable def tOr (t u:TT):TT:=fun σ H Q=>t σ H fun c H1=>if c=true then Q true H1 else u σ H1 Q
noncomputable def tNot (t:TT):TT:=fun σ H Q=>t σ H fun c H1=>Q (!c) H1
theorem pw_and1 (ha:PT X a tA):PW X (.BoolOp .And [a] pos) tA:=by
 intro wh pins s σ H Q I h
 refine isTrue_and (thn (ha pins s σ H Q I h) fun c s1 e=>?_)
 cases c with
 | true=>exact isTrue_and_nil e
 | false=>exact e
theorem pw_or1 (ha:PT X a tA):PW X (.BoolOp .Or [a] pos) tA:=by
 intro wh pins s σ H Q I h
 refine isTrue_or (thn (ha pins s σ H Q I h) fun c s1 e=>?_)
 cases c with
 | false=>exact isTrue_or_nil e
 | true=>exact e
theorem pw_and (ha:PT X a tA) (hb:PW X (.BoolOp .And (b :: rest) pos) tB'):PW X (.BoolOp .And (a :: b :: rest) pos) (tAnd tA tB'):=by
 intro wh pins s σ H Q I h
 refine isTrue_and (thn (ha pins s σ H _ I h) fun c s1 ⟨H1,I1,q1⟩=>?_)
 cases c with
 | true=>exact hb wh pins s1 σ H1 Q I1 q1
 | false=>exact ⟨H1,I1,q1⟩
theorem pw_or (ha:PT X a tA) (hb:PW X (.BoolOp .Or (b :: rest) pos) tB'):PW X (.BoolOp .Or (a :: b :: rest) pos) (tOr tA tB'):=by
 intro wh pins s σ H Q I h
 refine isTrue_or (thn (ha pins s σ H _ I h) fun c s1 ⟨H1,I1,q1⟩=>?_)
 cases c with
 | true=>exact ⟨H1,I1,q1⟩
 | false=>exact hb wh pins s1 σ H1 Q I1 q1
theorem pt_not (ha:PT X a tA):PT X (.UnaryOp .Not a pos) (tNot tA):=by
 intro pins s σ H Q I h
 exact isTrue_not (ha pins s σ H (fun c H1=>Q (!c) H1) I h)
noncomputable def tAndV (ta tb:TE):TE:=fun σ H Q=>ta σ H fun x H1=>∃ c,x = .bl c/\if c=true then tb σ H1 Q else Q (.bl false) H1
noncomputable def tOrV (ta tb:TE):TE:=fun σ H Q=>ta σ H fun x H1=>∃ c,x = .bl c/\if c=true then Q (.bl true) H1 else tb σ H1 Q
noncomputable def tNotV (ta:TE):TE:=fun σ H Q=>ta σ H fun x H1=>∃ c,x = .bl c/\Q (.bl (!c)) H1
theorem pe_one {op} {t:TE} (h:PE X a t):PE X (.BoolOp op [a] pos) t:=fun pins s σ H Q I hw=>BoolOp_one (h pins s σ H Q I hw)
theorem pe_and (ha:PE X a ta) (hb:PE X (.BoolOp .And (b :: rest) pos) tb):PE X (.BoolOp .And (a :: b :: rest) pos) (tAndV ta tb):=by
 intro pins s σ H Q I h
 refine BoolOp_and (thn (ha pins s σ H _ I h) fun v s1 ⟨x,H1,I1,r1,q1⟩=>?_)
 obtain ⟨c,rfl,q1⟩:=q1
 cases r1
 refine wpAny_truthy_bool ?_
 cases c with
 | true=>exact hb pins s1 σ H1 Q I1 q1
 | false=>exact ⟨.bl false,H1,I1,rfl,q1⟩
theorem pe_or (ha:PE X a ta) (hb:PE X (.BoolOp .Or (b :: rest) pos) tb):PE X (.BoolOp .Or (a :: b :: rest) pos) (tOrV ta tb):=by
 intro pins s σ H Q I h
 refine BoolOp_or (thn (ha pins s σ H _ I h) fun v s1 ⟨x,H1,I1,r1,q1⟩=>?_)
 obtain ⟨c,rfl,q1⟩:=q1
 cases r1
 refine wpAny_truthy_bool ?_
 cases c with
 | false=>exact hb pins s1 σ H1 Q I1 q1
 | true=>exact ⟨.bl true,H1,I1,rfl,q1⟩
theorem pe_not (ha:PE X a ta):PE X (.UnaryOp .Not a pos) (tNotV ta):=by
 intro pins s σ H Q I h
 refine UnaryOp_ (thn (ha pins s σ H _ I h) fun v s1 ⟨x,H1,I1,r1,q1⟩=>?_)
 obtain ⟨c,rfl,q1⟩:=q1
 cases r1
 exact not_of (wpAny_truthy_bool ⟨.bl (!c),H1,I1,rfl,q1⟩)
end
end L2
namespace L2
open PySem PySem.Spec PyProof.Rows
noncomputable def SqL (K:PySem.W.Frag) (H:Hp) (a:Addr) (xs:List V):Prop :=
 Rd H a (.lst xs) \/
  ∃ (o:Obj) (its:Array Value) (n:Nat),K.lookup a=some o/\o.cls = .type "list"/\o.dict=none/\o.data = .seq its n/\its.size <= sizeLine/\Vals xs its.toList
noncomputable def SqT (K:PySem.W.Frag) (H:Hp) (a:Addr) (xs:List V):Prop :=
 Rd H a (.tup xs) \/
  ∃ (o:Obj) (its:Array Value) (n:Nat),K.lookup a=some o/\o.cls = .type "tuple"/\o.data = .seq its n/\its.size <= sizeLine/\Vals xs its.toList
noncomputable def absV:Value->Option V
 | .none=>some .non
 | .bool b=>some (.bl b)
 | .int i _=>some (.int i)
 | .str x _=>some (.str x)
 | .bytes b _=>some (.byt b)
 | .float b _=>some (.flt b)
 | .ref a=>some (.ref a)
 | .type n=>some (.ty n)
 | _=>none
theorem RelV.abs {x:V} {u:Value} (r:RelV x u):absV u=some x:=by
 cases x with
 | non=>cases r; rfl
 | bl _=>cases r; rfl
 | int _=>obtain ⟨t,rfl⟩:=r; rfl
 | str _=>obtain ⟨t,rfl⟩:=r; rfl
 | byt _=>obtain ⟨t,rfl⟩:=r; rfl
 | flt _=>obtain ⟨t,rfl⟩:=r; rfl
 | ref _=>cases r; rfl
 | ty _=>cases r; rfl
theorem RelV.inj {x y:V} {u:Value} (r:RelV x u) (q:RelV y u):x=y:=Option.some.inj (r.abs.symm.trans q.abs)
theorem Vals.inj:∀ {xs ys:List V} {us:List Value},Vals xs us->Vals ys us->xs=ys
 | _,_,_,.nil,.nil=>rfl
 | _,_,_,.cons r t,.cons r' t'=>by rw [r.inj r',Vals.inj t t']
section
variable {X:Cx} {pins:List (Addr × Obj)} {σ:St} {H:Hp} {s:Shared} {a:Addr} {xs ys:List V}
theorem SqL.of {K:PySem.W.Frag} (h:H a=some (.lst xs)):SqL K H a xs:=.inl (.inl h)
theorem SqT.of {K:PySem.W.Frag} (h:H a=some (.tup xs)):SqT K H a xs:=.inl (.inl h)
theorem Inv.list (I:Inv X pins σ H s) (h:SqL X.K H a xs):∃ its:List Value,Vals xs its/\PlainL s.heap a its.toArray/\xs.length <= sizeLine:=by
 rcases h with h | ⟨o,its,n,hk,hc,hd,hs,hz,r⟩
 ·obtain ⟨z,its,n,r,e⟩:=h.ok I.hok
  exact ⟨its,r,⟨_,n,e,rfl,rfl,rfl⟩,z⟩
 ·refine ⟨its.toList,r,⟨o,n,I.kIn a o hk,hc,hd,by simpa using hs⟩,?_⟩
  have e:=r.length
  simp only [Array.length_toList] at e
  omega
theorem Inv.tuple (I:Inv X pins σ H s) (h:SqT X.K H a xs):∃ its:List Value,Vals xs its/\IsTup s.heap a its.toArray/\xs.length <= sizeLine:=by
 rcases h with h | ⟨o,its,n,hk,hc,hs,hz,r⟩
 ·obtain ⟨z,its,r,p⟩:=h.ok I.hok
  exact ⟨its,r,p,z⟩
 ·refine ⟨its.toList,r,⟨o,I.kIn a o hk,hc,n,by simpa using hs⟩,?_⟩
  have e:=r.length
  simp only [Array.length_toList] at e
  omega
theorem Inv.list_inj (I:Inv X pins σ H s) (h:SqL X.K H a xs) (h':SqL X.K H a ys):xs=ys:=by
 obtain ⟨its,r,⟨o,n,e,_,_,d⟩,_⟩:=I.list h
 obtain ⟨its',r',⟨o',n',e',_,_,d'⟩,_⟩:=I.list h'
 rw [e] at e'; cases e'
 rw [d] at d'
 injection d' with d1 _
 have:its=its':=by simpa using congrArg Array.toList d1
 subst this
 exact r.inj r'
theorem Inv.tuple_inj (I:Inv X pins σ H s) (h:SqT X.K H a xs) (h':SqT X.K H a ys):xs=ys:=by
 obtain ⟨its,r,⟨o,e,_,n,d⟩,_⟩:=I.tuple h
 obtain ⟨its',r',⟨o',e',_,n',d'⟩,_⟩:=I.tuple h'
 rw [e] at e'; cases e'
 rw [d] at d'
 injection d' with d1 _
 have:its=its':=by simpa using congrArg Array.toList d1
 subst this
 exact r.inj r'
end
section
variable {X:Cx} {pins:List (Addr × Obj)} {σ:St} {H:Hp} {s:Shared} {E:Value->Shared->Prop}
end
section
variable {X:Cx} {st:Stmt} {rest:List Stmt} {t u:TS} {e:Expr} {te:TE} {pos:Pos}
noncomputable def tNext:TS:=fun D σ H=>D.nx σ H
noncomputable def tSeq (t u:TS):TS:=fun D σ H=>t { D with nx:=u D } σ H
theorem pss_nil:PSs X [] tNext:=fun _ _ σ H _ I h=>wpAny_execs_nil ⟨σ,H,I,h⟩
theorem pss_cons (h1:PS X st t) (h2:PSs X rest u):PSs X (st :: rest) (tSeq t u):=by
 intro pins s σ H D I h
 refine wpAny_execs_cons (thn (h1 pins s σ H { D with nx:=u D } I h) fun f s1 q=>?_)
 cases f with
 | next =>
  obtain ⟨σ',H',I',q⟩:=q
  exact h2 pins s1 σ' H' D I' q
 | ret v=>exact q
 | brk=>exact q
 | cont=>exact q
theorem pss_one (h1:PS X st t):PSs X [st] t:=by
 intro pins s σ H D I h
 refine wpAny_execs_cons (thn (h1 pins s σ H D I h) fun f s1 q=>?_)
 cases f with
 | next=>exact wpAny_execs_nil q
 | ret v=>exact q
 | brk=>exact q
 | cont=>exact q
theorem Inv.quiet {pins:List (Addr × Obj)} {σ:St} {H:Hp} {s:Shared} (I:Inv X pins σ H s):interactive X.env=false:=by simp [interactive,I.ok.kind]
noncomputable def tDrop (te:TE):TS:=fun D σ H=>te σ H fun _ H1=>D.nx σ H1
theorem ps_expr (he:PE X e te) (hs:swapsWith e none pos.line X.env=pure false:=by rfl):PS X (.Expr e pos) (tDrop te):=by
 intro pins s σ H D I h
 exact wpAny_Expr_any (thn (he pins s σ H _ I h) fun v s1 ⟨x,H1,I1,r1,q1⟩=>⟨σ,H1,I1,q1⟩) I.quiet hs
noncomputable def tRet (te:TE):TS:=fun D σ H=>te σ H D.rt
theorem ps_ret (he:PE X e te):PS X (.Return (some e) pos) (tRet te):=by
 intro pins s σ H D I h
 exact wpAny_Return_some (thn (he pins s σ H _ I h) fun v s1 ⟨x,H1,I1,r1,q1⟩=>⟨x,σ,H1,I1,r1,q1⟩)
noncomputable def tIfS (c:TT) (t u:TS):TS:=fun D σ H=>c σ H fun b H1=>if b=true then t D σ H1 else u D σ H1
theorem ps_if {c:Expr} {a b:List Stmt} {tc:TT} (hc:PT X c tc) (ha:PSs X a t) (hb:PSs X b u):PS X (.If c a b pos) (tIfS tc t u):=by
 intro pins s σ H D I h
 refine wpAny_If (thn (hc pins s σ H _ I h) fun d s1 ⟨H1,I1,q1⟩=>?_)
 cases d with
 | true=>exact ha pins s1 σ H1 D I1 q1
 | false=>exact hb pins s1 σ H1 D I1 q1
end
noncomputable abbrev TG:=V->St->Hp->(St->Hp->Prop)->Prop
noncomputable abbrev TGs:=List V->St->Hp->(St->Hp->Prop)->Prop
noncomputable def PG (X:Cx) (target:Expr) (t:TG):Prop :=
 ∀ (pins:List (Addr × Obj)) (s:Shared) (σ:St) (H:Hp) (v:V) (u:Value) (Q:St->Hp->Prop),Inv X pins σ H s->RelV v u->t v σ H Q ->
  wpAny (model X.prog X.w) X.A (assign target X.env u) (fun _ s'=>∃ σ' H',Inv X pins σ' H' s'/\Q σ' H') X.xe s
noncomputable def PGs (X:Cx) (ts:List Expr) (t:TGs):Prop :=
 ∀ (pins:List (Addr × Obj)) (s:Shared) (σ:St) (H:Hp) (vs:List V) (us:List Value) (Q:St->Hp->Prop),Inv X pins σ H s->Vals vs us->t vs σ H Q ->
  wpAny (model X.prog X.w) X.A (assignInOrder ((assignEach ts X.env).map (·.2)) us) (fun _ s'=>∃ σ' H',Inv X pins σ' H' s'/\Q σ' H') X.xe s
section
variable {X:Cx} {pos:Pos}
noncomputable def gName (i:Nat):TG:=fun v σ H Q=>Q (σ.set i (some v)) H
theorem pg_name {i:Nat} {x:Str} (hN:X.N.Nodup) (hi:X.N[i]? = some x) (hx:Loc X.env.scope x) (hf:X.fn x=true\/X.env.scope.names.lookup x=some .local:=by first | exact .inl rfl | exact .inr rfl | assumption):PG X (.Name x pos) (gName i):=by
 intro pins s σ H v u Q I r h
 exact wpAny_assign_Name (store_ok I hN hi hx r (fun s' I'=>⟨_,H,I',h⟩) hf)
noncomputable def gNil:TGs:=fun vs σ H Q=>vs=[]/\Q σ H
noncomputable def gCons (t:TG) (u:TGs):TGs:=fun vs σ H Q=>∃ v r,vs=v :: r/\t v σ H fun σ' H'=>u r σ' H' Q
theorem pgs_nil:PGs X [] gNil:=by
 intro pins s σ H vs us Q I r h
 obtain ⟨e,h⟩:=h
 subst e
 cases r
 exact assignInOrder_nil ⟨σ,H,I,h⟩
theorem pgs_cons {e:Expr} {es:List Expr} {t:TG} {u:TGs} (h1:PG X e t) (h2:PGs X es u)
  (hs:(assignEach (e :: es) X.env).map (·.2)=assign e X.env :: (assignEach es X.env).map (·.2):=by rfl):PGs X (e :: es) (gCons t u):=by
 intro pins s σ H vs us Q I r h
 obtain ⟨v,vr,e1,h⟩:=h
 subst e1
 cases r with
 | cons r rr =>
  rw [hs]
  refine assignInOrder_cons (thn (h1 pins s σ H _ _ _ I r h) fun _ s1 ⟨σ1,H1,I1,q1⟩=>?_)
  exact h2 pins s1 σ1 H1 _ _ Q I1 rr q1
noncomputable def gTup (K:PySem.W.Frag) (n:Nat) (t:TGs):TG:=fun v σ H Q=>∃ a xs,v = .ref a/\SqT K H a xs/\xs.length=n/\t xs σ H Q
theorem pg_tup {es:List Expr} {k:Nat} {t:TGs} {n:Nat} (hc:X.calm=true) (h:PGs X es t)
  (hn:(assignEach es X.env).length=n:=by rfl) (hst:(assignEach es X.env).findIdx? (·.1)=none:=by rfl):PG X (.Tuple es k pos) (gTup X.K n t):=by
 intro pins s σ H v u Q I r hw
 obtain ⟨a,xs,e1,hq,hl,hw⟩:=hw
 subst e1
 cases r
 obtain ⟨its,rv,ht,hz⟩:=I.tuple hq
 refine assign_Tuple_tuple (I.ok.hd hc) ht (by simp [hn,<- hl,rv.length]) hst fun h' hx=>?_
 have I1:Inv X pins σ H { s with heap:=h' }:=I.kept (t':=s.toks) fun b o e=>hx b o (Nat.ne_of_lt (Heap.lt_size e)) e
 exact h pins _ σ H xs _ Q I1 (by simpa using rv) hw
noncomputable def tAsg (te:TE) (g:TG):TS:=fun D σ H=>te σ H fun x H1=>g x σ H1 D.nx
theorem ps_asg {tg e:Expr} {te:TE} {g:TG} (he:PE X e te) (hg:PG X tg g) (hs:swapsWithSole [tg] e pos.line X.env=pure false:=by rfl) (hw:swappedStores [tg] e X.env=pure none:=by rfl)
  (h1:(assignEach [tg] X.env).map (·.2)=[assign tg X.env]:=by rfl):PS X (.Assign [tg] e pos) (tAsg te g):=by
 intro pins s σ H D I h
 refine wpAny_Assign_stores (thn (he pins s σ H _ I h) fun v s1 ⟨x,H1,I1,r1,q1⟩=>?_) hs hw
 rw [h1]
 exact thn (hg pins s1 σ H1 x v _ I1 r1 q1) fun _ s2 q=>q
theorem ps_set {i:Nat} {x:Str} {e:Expr} {te:TE} {pos':Pos} (hN:X.N.Nodup) (hi:X.N[i]? = some x) (hx:Loc X.env.scope x) (he:PE X e te) (hs:swapsWith e (some (.Name x pos')) pos.line X.env=pure false:=by rfl) (hf:X.fn x=true\/X.env.scope.names.lookup x=some .local:=by first | exact .inl rfl | exact .inr rfl | assumption) :
  PS X (.Assign [.Name x pos'] e pos) (tAsg te (gName i)):=by
 intro pins s σ H D I h
 refine wpAny_Assign_Name (thn (he pins s σ H _ I h) fun v s1 ⟨y,H1,I1,r1,q1⟩=>?_) hs
 exact store_ok I1 hN hi hx r1 (fun s2 I2=>⟨_,H1,I2,q1⟩) hf
end
section
variable {X:Cx} {pos:Pos}
end
structure It where
 go:Nat->Hp->Prop
 yld:Nat->Hp->V->Hp->Prop
 stop:Nat->Hp->Prop
noncomputable def FpOk (X:Cx) (pins:List (Addr × Obj)) (H:Hp) (b:Addr):Prop :=
 H b=none/\b ≠ X.env.locals/\b ∉ X.fs/\(b ∈ X.ex\/X.s₀.heap.objs.size <= b)/\(∀ x c,X.env.cells.lookup x=some c->c ≠ b)/\∀ p ∈ X.pn ++ pins,p.1 ≠ b
theorem Inv.fpOk {X:Cx} {pins:List (Addr × Obj)} {σ:St} {H H':Hp} {s:Shared} {b:Addr} (I:Inv X pins σ H s) (hb:s.heap.objs.size <= b) (hn:H' b=none):FpOk X pins H' b:=by
 refine ⟨hn,Nat.ne_of_gt (Nat.lt_of_lt_of_le I.lt hb),I.nofs hb,.inr (Nat.le_trans I.sz hb),fun x c e z=>?_,fun p hp z=>?_⟩
 ·obtain ⟨v,q⟩:=I.cell x c e
  exact absurd (Nat.lt_of_lt_of_le q.lt (by rw [z]; exact hb)) (Nat.lt_irrefl _)
 ·exact absurd (Nat.lt_of_lt_of_le (Heap.lt_size (I.pin p hp).1) (by rw [z]; exact hb)) (Nat.lt_irrefl _)
structure Turn (P:Program) (w:World) (K:PySem.W.Frag) (tg:Expr) (J:It) (fp:List Addr) (it:Addr) (tn:Nat->Heap->Prop):Prop where
 mem:it ∈ fp
 obj:∀ i h,tn i h->∀ b ∈ fp,∃ o,h.get? b=some o/\∀ v,o.data ≠ .cell v
 keep:∀ i h h',tn i h->(∀ b ∈ fp,∀ o,h.get? b=some o->h'.get? b=some o)->tn i h'
 item:∀ (X:Cx),X.prog=P->X.w=w->X.K=K->X.calm=true->∀ (i:Nat) (pins:List (Addr × Obj)) (s:Shared) (σ:St) (H:Hp) (E:Value->Shared->Prop),Inv X pins σ H s->(∀ b ∈ fp,FpOk X pins H b)->tn i s.heap->J.go i H ->
  wpAny (model P w) X.A (pyNext (.ref it)) (fun r s1=>∃ u,r=some u /\
   wpAny (model P w) X.A (letOwnedTupleGo tg (.ref it) u) (fun _ s2=>∃ x H',Inv X pins σ H' s2/\RelV x u/\J.yld i H x H'/\tn (i + 1) s2.heap/\∀ b ∈ fp,H' b=none) E s1) E s
 done:∀ (X:Cx),X.prog=P->X.w=w->X.K=K->X.calm=true->∀ (i:Nat) (pins:List (Addr × Obj)) (s:Shared) (σ:St) (H:Hp) (E:Value->Shared->Prop),Inv X pins σ H s->(∀ b ∈ fp,FpOk X pins H b)->tn i s.heap->J.stop i H ->
  wpAny (model P w) X.A (pyNext (.ref it)) (fun r s1=>r=none/\Inv X pins σ H s1) E s
 self:∀ (A:Around) (i:Nat) (s:Shared) (Q:Value->Shared->Prop) (E:Value->Shared->Prop),tn i s.heap->Q (.ref it) s->wpAny (model P w) A (pyIter (.ref it)) Q E s
noncomputable abbrev TI:=St->Hp->(It->Hp->Prop)->Prop
noncomputable def PIE (X:Cx) (pins:List (Addr × Obj)) (σ:St) (tg:Expr) (R:It->Hp->Prop) (itv:Value) (s2:Shared):Prop :=
 ∃ (it:Addr) (fp:List Addr) (tn:Nat->Heap->Prop) (J:It) (H':Hp),itv = .ref it/\Inv X pins σ H' s2/\Turn X.prog X.w X.K tg J fp it tn/\tn 0 s2.heap/\(∀ b ∈ fp,FpOk X pins H' b)/\R J H'
noncomputable def PI (X:Cx) (tg iter:Expr) (wi:TI):Prop :=
 ∀ (pins:List (Addr × Obj)) (s:Shared) (σ:St) (H:Hp) (R:It->Hp->Prop),Inv X pins σ H s->wi σ H R ->
  wpAny (model X.prog X.w) X.A (eval iter X.env) (fun v s1=>wpAny (model X.prog X.w) X.A (pyIter v) (PIE X pins σ tg R) X.xe s1) X.xe s
theorem go_of {M:Model} {A:Around} {E:Value->Shared->Prop} {s:Shared} {tg:Expr} {it:Addr} {u:Value} {o:Obj} {n:String} {vs:Array Value} {Q:Unit->Shared->Prop} (ho:s.heap.get? it=some o) (hc:o.cls = .type n) (hd:o.data = .fields vs)
    (hn:["enumerate","zip","dict_itemiterator","dict_reverseitemiterator","odict_iterator","itertools.zip_longest","itertools.pairwise"].contains n=false) (hQ:Q () s):wpAny M A (letOwnedTupleGo tg (.ref it) u) Q E s:=by
  unfold letOwnedTupleGo
  cases tg <;> first
    | exact wpAny_pure hQ
    | (cases u <;> first
        | exact wpAny_pure hQ
        | (refine wpAny_bind (wpAny_load ho ?_)
           rw [hc,hd]
           show wpAny M A (if (["enumerate","zip","dict_itemiterator","dict_reverseitemiterator","odict_iterator","itertools.zip_longest","itertools.pairwise"].contains n && vs[0]? == some (rawInt _))=true then _ else _) Q E s
           rw [if_neg (by intro h; rw [hn,Bool.false_and] at h; cases h)]
           exact wpAny_pure hQ))
noncomputable def Itl (K:PySem.W.Frag) (a:Addr):It :=
 ⟨fun i H=>∃ xs x,SqL K H a xs/\xs[i]? = some x,fun i H x H'=>H'=H/\∀ xs,SqL K H a xs->xs[i]? = some x,fun i H=>∃ xs,SqL K H a xs/\xs.length <= i⟩
noncomputable def Itt (K:PySem.W.Frag) (a:Addr):It :=
 ⟨fun i H=>∃ xs x,SqT K H a xs/\xs[i]? = some x,fun i H x H'=>H'=H/\∀ xs,SqT K H a xs->xs[i]? = some x,fun i H=>∃ xs,SqT K H a xs/\xs.length <= i⟩
noncomputable def Itr (lo:Int) (n:Nat):It:=⟨fun i _=>i < n,fun i H x H'=>H'=H/\x = .int (lo + i),fun i _=>n <= i⟩
theorem turn_list {P:Program} {w:World} {K:PySem.W.Frag} {tg:Expr} (a it:Addr):Turn P w K tg (Itl K a) [it] it (fun i h=>h.IsListIter it a i) where
 mem:=by simp
 obj:=fun i h st b hb=>by
  have e:b=it:=by simpa using hb
  subst e
  obtain ⟨o,e,c,d⟩:=st
  exact ⟨o,e,fun v z=>by rw [d] at z; cases z⟩
 keep:=fun i h h' st k=>st.at fun o e=>k it (by simp) o e
 item:=by
  intro X hP hw hK hc i pins s σ H E I hf st hg
  subst hP hw hK
  obtain ⟨xs,x,hq,hx⟩:=hg
  obtain ⟨its,rv,p,hz⟩:=I.list hq
  obtain ⟨u,hu,ru⟩:=rv.get hx
  obtain ⟨f0,f1,f2,f3,f4,f5⟩:=hf it (by simp)
  refine wpAny_pyNext_list_item st p.isList (x:=u) (by simpa using hu) fun h' st' sb=>?_
  have I1:Inv X pins σ H { s with heap:=h' }:=I.turned (t':=s.toks) (fun b o hb e=>(sb.2 b hb).trans e) f0 f1 f3 f4 f5
  obtain ⟨o,e,c,d⟩:=id st'
  exact ⟨u,rfl,go_of (s:={ s with heap:=h' }) e c d (by decide) ⟨x,H,I1,ru,⟨rfl,fun ys hy=>by rw [I.list_inj hy hq]; exact hx⟩,st',fun b hb=>(hf b hb).1⟩⟩
 done:=by
  intro X hP hw hK hc i pins s σ H E I hf st hg
  subst hP hw hK
  obtain ⟨xs,hq,hx⟩:=hg
  obtain ⟨its,rv,p,hz⟩:=I.list hq
  obtain ⟨f0,f1,f2,f3,f4,f5⟩:=hf it (by simp)
  have hl:=rv.length
  exact wpAny_pyNext_list_end (I.ok.hd hc) st p.isList (by simp; omega) fun h' eb=>⟨rfl,I.turned (t':=s.toks) (fun b o hb e=>eb b o hb e) f0 f1 f3 f4 f5⟩
 self:=fun _ _ _ _ _ st h=>wpAny_pyIter_listiter st h
theorem turn_tuple {P:Program} {w:World} {K:PySem.W.Frag} {tg:Expr} (a it:Addr):Turn P w K tg (Itt K a) [it] it (fun i h=>h.IsTupleIter it a i) where
 mem:=by simp
 obj:=fun i h st b hb=>by
  have e:b=it:=by simpa using hb
  subst e
  obtain ⟨o,e,c,d⟩:=st
  exact ⟨o,e,fun v z=>by rw [d] at z; cases z⟩
 keep:=fun i h h' st k=>st.at fun o e=>k it (by simp) o e
 item:=by
  intro X hP hw hK hc i pins s σ H E I hf st hg
  subst hP hw hK
  obtain ⟨xs,x,hq,hx⟩:=hg
  obtain ⟨its,rv,p,hz⟩:=I.tuple hq
  obtain ⟨u,hu,ru⟩:=rv.get hx
  obtain ⟨f0,f1,f2,f3,f4,f5⟩:=hf it (by simp)
  refine wpAny_pyNext_tuple_item st (show s.heap.IsTuple a its.toArray from p) (x:=u) (by simpa using hu) fun h' st' sb=>?_
  have I1:Inv X pins σ H { s with heap:=h' }:=I.turned (t':=s.toks) (fun b o hb e=>(sb.2 b hb).trans e) f0 f1 f3 f4 f5
  obtain ⟨o,e,c,d⟩:=id st'
  exact ⟨u,rfl,go_of (s:={ s with heap:=h' }) e c d (by decide) ⟨x,H,I1,ru,⟨rfl,fun ys hy=>by rw [I.tuple_inj hy hq]; exact hx⟩,st',fun b hb=>(hf b hb).1⟩⟩
 done:=by
  intro X hP hw hK hc i pins s σ H E I hf st hg
  subst hP hw hK
  obtain ⟨xs,hq,hx⟩:=hg
  obtain ⟨its,rv,p,hz⟩:=I.tuple hq
  obtain ⟨f0,f1,f2,f3,f4,f5⟩:=hf it (by simp)
  have hl:=rv.length
  exact wpAny_pyNext_tuple_end (I.ok.hd hc) st (show s.heap.IsTuple a its.toArray from p) (by simp; omega) fun h' eb=>⟨rfl,I.turned (t':=s.toks) (fun b o hb e=>eb b o hb e) f0 f1 f3 f4 f5⟩
 self:=fun _ _ _ _ _ st h=>wpAny_pyIter_tupleiter st h
theorem turn_range {P:Program} {w:World} {K:PySem.W.Frag} {tg:Expr} (it:Addr) (lo:Int) (n:Nat):Turn P w K tg (Itr lo n) [it] it (fun i h=>IsRangeIter h it (lo + (i:Nat) * 1) ((n:Int) - (i:Nat)) 1) where
 mem:=by simp
 obj:=fun i h st b hb=>by
  have e:b=it:=by simpa using hb
  subst e
  exact ⟨_,st,fun v z=>by
   have z':Data.fields _=Data.cell v:=z
   cases z'⟩
 keep:=fun i h h' st k=>k it (by simp) _ st
 item:=by
  intro X hP hw hK hc i pins s σ H E I hf st hg
  subst hP hw hK
  obtain ⟨f0,f1,f2,f3,f4,f5⟩:=hf it (by simp)
  have W:=Walks.range (prog:=X.prog) (w:=X.w) (I.ok.hd hc) it lo 1 n
  refine W.item i s _ _ hg st fun v h' tk hv st' kk=>?_
  obtain ⟨t,rfl⟩:=hv
  have I1:Inv X pins σ H { s with heap:=h',toks:=tk }:=I.turned (fun b o hb e=>kk b o (by simpa using hb) e) f0 f1 f3 f4 f5
  refine ⟨_,rfl,go_of (s:={ s with heap:=h',toks:=tk }) (n:="range_iterator") st' rfl rfl (by decide) ⟨.int (lo + i),H,I1,⟨t,?_⟩,⟨rfl,rfl⟩,st',fun b hb=>(hf b hb).1⟩⟩
  rw [Int.mul_one]
 done:=by
  intro X hP hw hK hc i pins s σ H E I hf st hg
  subst hP hw hK
  obtain ⟨f0,f1,f2,f3,f4,f5⟩:=hf it (by simp)
  exact wpAny_pyNext_range_end (I.ok.hd hc) st (by have:n <= i:=hg; omega) fun h' eb=>⟨rfl,I.turned (t':=s.toks) (fun b o hb e=>eb b o hb e) f0 f1 f3 f4 f5⟩
 self:=fun _ _ _ _ _ st h=>wpAny_pyIter_rangeiter st h
end L2
namespace L2
open PySem PySem.Spec PyProof.Rows
section
variable {X:Cx} {tg:Expr}
theorem range_it {pins:List (Addr × Obj)} {σ:St} {H:Hp} {s:Shared} {R:It->Hp->Prop} {E:Value->Shared->Prop} {lo hi:Int} {t u v:Tok} {tk:Nat} (I:Inv X pins σ H s) (h1 : -(2 ^ 62) <= lo) (h2:lo < 2 ^ 62) (h3 : -(2 ^ 62) <= hi) (h4:hi < 2 ^ 62)
  (q:R (Itr lo (hi - lo).toNat) H):wpAny (model X.prog X.w) X.A (pyIter (.ref s.heap.objs.size)) (PIE X pins σ tg R) E { s with heap:=s.heap.push { cls:=.type "range",data:=.fields #[.int lo t,.int hi u,.int 1 v] },toks:=tk }:=by
 refine wpAny_pyIter_range (IsRange.new ..) (small_one h1 h2 h3 h4) ?_
 have I1:Inv X pins σ H { s with heap:=s.heap.push { cls:=.type "range",data:=.fields #[.int lo t,.int hi u,.int 1 v] },toks:=tk }:=I.kept fun b o e=>Heap.get?_push_of_some _ e
 refine ⟨(s.heap.push { cls:=.type "range",data:=.fields #[.int lo t,.int hi u,.int 1 v] }).objs.size,[(s.heap.push { cls:=.type "range",data:=.fields #[.int lo t,.int hi u,.int 1 v] }).objs.size],_,_,H,rfl,
  I1.kept (t':=tk) fun b o e=>Heap.get?_push_of_some _ e,turn_range _ lo (hi - lo).toNat,?_,fun b hb=>?_,q⟩
 ·have e1:lo + ((0:Nat):Int) * 1=lo:=by simp
  have e2:(((hi - lo).toNat:Nat):Int) - ((0:Nat):Int)=Builtin.Range.rangeSize lo hi 1:=by rw [rangeSize_one]; split <;> omega
  show IsRangeIter _ _ (lo + ((0:Nat):Int) * 1) ((((hi - lo).toNat:Nat):Int) - ((0:Nat):Int)) 1
  rw [e1,e2]
  exact Heap.get?_push_size _ rfl
 ·have e:b=(s.heap.push { cls:=.type "range",data:=.fields #[.int lo t,.int hi u,.int 1 v] }).objs.size:=by simpa using hb
  subst e
  exact I1.fpOk (Nat.le_refl _) (I1.hok.fresh (Nat.le_refl _))
noncomputable def iRng1 (ta:TA):TI:=fun σ H R=>ta σ H fun vs H1=>∃ j:Int,vs=[.int j]/\-(2 ^ 62) <= j/\j < 2 ^ 62/\R (Itr 0 j.toNat) H1
noncomputable def iRng2 (ta:TA):TI:=fun σ H R=>ta σ H fun vs H1=>∃ i j:Int,vs=[.int i,.int j]/\(-(2 ^ 62) <= i/\i < 2 ^ 62/\-(2 ^ 62) <= j/\j < 2 ^ 62)/\R (Itr i (j - i).toNat) H1
theorem pi_range1 {a:Expr} {ta:TA} {p pos:Pos} (hg:Gl X "range") (hm:X.mg "range" = none) (ha:PA X [a] ta) (hs:starEach [a] X.env=[(false,eval a X.env)]:=by rfl):PI X tg (.Call (.Name "range" p) [a] [] pos) (iRng1 ta):=by
 intro pins s σ H R I h
 refine Call_ (ld_blt I hg hm boot_range (PyProof.Rows.callWith_type1 (thn (ha pos pins s σ H _ I h) fun us s1 ⟨vs,H1,I1,r1,q1⟩=>?_) hs rfl))
 obtain ⟨j,e,q1,q2,q⟩:=q1
 subst e
 cases r1 with
 | cons r rr =>
  cases rr
  obtain ⟨t,rfl⟩:=r
  exact call_range_1 (range_it I1 (by omega) (by omega) q1 q2 (by simpa using q))
theorem pi_range2 {a b:Expr} {ta:TA} {p pos:Pos} (hg:Gl X "range") (hm:X.mg "range" = none) (ha:PA X [a,b] ta) (hs:starEach [a,b] X.env=[(false,eval a X.env),(false,eval b X.env)]:=by rfl) (hs2:starEach [b] X.env=[(false,eval b X.env)]:=by rfl) :
  PI X tg (.Call (.Name "range" p) [a,b] [] pos) (iRng2 ta):=by
 intro pins s σ H R I h
 refine Call_ (ld_blt I hg hm boot_range (PyProof.Rows.callWith_type1 (thn (ha pos pins s σ H _ I h) fun us s1 ⟨vs,H1,I1,r1,q1⟩=>?_) (by rw [hs,hs2]) (by rw [hs2]; rfl)))
 obtain ⟨i,j,e,⟨q1,q2,q3,q4⟩,q⟩:=q1
 subst e
 cases r1 with
 | cons r rr =>
  cases rr with
  | cons r' rr =>
   cases rr
   obtain ⟨t,rfl⟩:=r
   obtain ⟨t',rfl⟩:=r'
   exact call_range_2 (range_it I1 q1 q2 q3 q4 q)
noncomputable def tFor (wi:TI) (g:TG) (tb:TS):TS:=fun D σ H=>wi σ H fun J H1=>∃ W:Nat->Nat->St->Hp->Prop,(∃ m,W 0 m σ H1)/\∀ i m σ H,W i m σ H ->
 (J.stop i H/\D.nx σ H)\/(J.go i H/\∃ N:St->Hp->Prop,(∀ σ' H',N σ' H'->∃ m',m' < m/\W (i + 1) m' σ' H')/\∀ x H',J.yld i H x H'->g x σ H' fun σ2 H2=>tb { D with nx:=N,ct:=N,bk:=D.nx } σ2 H2)
noncomputable def pinsAt (fp:List Addr) (h:Heap):List (Addr × Obj):=fp.filterMap fun b=>(h.get? b).map fun o=>(b,o)
theorem mem_pinsAt {fp:List Addr} {h:Heap} {b:Addr} {o:Obj} (hb:b ∈ fp) (e:h.get? b=some o):(b,o) ∈ pinsAt fp h:=List.mem_filterMap.mpr ⟨b,hb,by rw [e]; rfl⟩
theorem of_pinsAt {fp:List Addr} {h:Heap} {p:Addr × Obj} (hp:p ∈ pinsAt fp h):p.1 ∈ fp/\h.get? p.1=some p.2:=by
 obtain ⟨b,hb,e⟩:=List.mem_filterMap.mp hp
 cases q:h.get? b with
 | none=>rw [q] at e; cases e
 | some o =>
  rw [q] at e
  have e':(b,o)=p:=Option.some.inj e
  subst e'
  exact ⟨hb,q⟩
theorem Inv.pinned {pins:List (Addr × Obj)} {σ:St} {H:Hp} {s:Shared} {fp:List Addr} (I:Inv X pins σ H s) (hf:∀ b ∈ fp,FpOk X pins H b) (ho:∀ b ∈ fp,∃ o,s.heap.get? b=some o/\∀ v,o.data ≠ .cell v):Inv X (pins ++ pinsAt fp s.heap) σ H s :=
 I.pins_of fun p hp=>(List.mem_append.mp hp).elim (fun z=>I.pin p (List.mem_append_right _ z)) fun z=>by
  obtain ⟨hb,e⟩:=of_pinsAt z
  obtain ⟨f0,f1,f2,_⟩:=hf p.1 hb
  obtain ⟨o,e',d⟩:=ho p.1 hb
  rw [e] at e'; cases e'
  exact ⟨e,f0,f1,f2,d⟩
theorem Inv.unpinned {pins pl:List (Addr × Obj)} {σ:St} {H:Hp} {s:Shared} (I:Inv X (pins ++ pl) σ H s):Inv X pins σ H s:=I.pins_of fun p hp=>I.pin p (List.mem_append_right _ (List.mem_append_left _ hp))
theorem ps_for {iter:Expr} {body:List Stmt} {wi:TI} {g:TG} {tb:TS} {pos:Pos} (hp:PassesOwn (model X.prog X.w) X.A X.env X.xe) (hc:X.calm=true) (hi:PI X tg iter wi) (hg:PG X tg g) (hb:PSs X body tb)
  (hs:∀ x,foldedSetIterable iter X.env x=pure x:=by intro _; rfl):PS X (.For tg iter body [] pos) (tFor wi g tb):=by
 intro pins s σ H D I h
 refine wpAny_For (thn (hi pins s σ H _ I h) fun v s1 h1=>thn h1 fun itv s2 h2=>?_) hs
 obtain ⟨it,fp,tn,J,H2,e,I2,T,st2,f2,W,⟨m0,w0⟩,turn⟩:=h2
 subst e
 have stat:∀ {H':Hp},(∀ b ∈ fp,H' b=none)->∀ b ∈ fp,FpOk X pins H' b:=fun hn b hb=>⟨hn b hb,(f2 b hb).2⟩
 refine codeAny_forLoop_any (fun n s'=>∃ i σ' H',Inv X pins σ' H' s'/\tn i s'.heap/\(∀ b ∈ fp,H' b=none)/\W i n σ' H') ?_ m0 ⟨0,σ,H2,I2,st2,fun b hb=>(f2 b hb).1,w0⟩
 rintro n s3 ⟨i,σ3,H3,I3,st3,fr3,w3⟩
 rcases turn i n σ3 H3 w3 with ⟨stop,qn⟩ | ⟨go,N,hN,step⟩
 ·refine wpAny_passesOwn hp (thn (T.done X rfl rfl rfl hc i pins s3 σ3 H3 X.xe I3 (stat fr3) st3 stop) fun r s4 ⟨hr,I4⟩=>?_)
  subst hr
  exact wpAny_execs_nil ⟨σ3,H3,I4,qn⟩
 ·refine wpAny_passesOwn hp (thn (T.item X rfl rfl rfl hc i pins s3 σ3 H3 X.xe I3 (stat fr3) st3 go) fun r s4 ⟨u,hr,h4⟩=>?_)
  subst hr
  refine wpAny_passesOwn hp (thn h4 fun _ s5 ⟨x,H5,I5,r5,y5,st5,fr5⟩=>?_)
  have I5':=I5.pinned (stat fr5) (T.obj _ _ st5)
  refine wpAny_passesOwn hp (thn (hg _ s5 σ3 H5 x u _ I5' r5 (step x H5 y5)) fun _ s6 ⟨σ6,H6,I6,q6⟩=>?_)
  refine wpAny_passesOwn hp (thn (hb _ s6 σ6 H6 _ I6 q6) fun f s7 q7=>?_)
  have again:∀ {σ7:St} {H7:Hp},Inv X (pins ++ pinsAt fp s5.heap) σ7 H7 s7->N σ7 H7->∃ m,m < n/\∃ i σ' H',Inv X pins σ' H' s7/\tn i s7.heap/\(∀ b ∈ fp,H' b=none)/\W i m σ' H':=fun {σ7 H7} I7 n7=>by
   obtain ⟨m',hm,w7⟩:=hN σ7 H7 n7
   refine ⟨m',hm,i + 1,σ7,H7,I7.unpinned,T.keep _ _ _ st5 fun b hb o e=>(I7.pin (b,o) (List.mem_append_right _ (List.mem_append_right _ (mem_pinsAt hb e)))).1,fun b hb=>?_,w7⟩
   obtain ⟨o,e,d⟩:=T.obj _ _ st5 b hb
   exact (I7.pin (b,o) (List.mem_append_right _ (List.mem_append_right _ (mem_pinsAt hb e)))).2.1
  cases f with
  | next=>obtain ⟨σ7,H7,I7,n7⟩:=q7; exact again I7 n7
  | cont=>obtain ⟨σ7,H7,I7,n7⟩:=q7; exact again I7 n7
  | brk=>obtain ⟨σ7,H7,I7,q7⟩:=q7; exact ⟨σ7,H7,I7.unpinned,q7⟩
  | ret v=>obtain ⟨x7,σ7,H7,I7,r7,q7⟩:=q7; exact ⟨x7,σ7,H7,I7.unpinned,r7,q7⟩
end
end L2
namespace L2
open PySem PySem.Spec PyProof.Rows
noncomputable abbrev R2:=V->V->Hp->VK->Prop
noncomputable def OpR (X:Cx) (f:Value->Value->Sem Value) (r:R2):Prop :=
 ∀ (pins:List (Addr × Obj)) (s:Shared) (σ:St) (H:Hp) (x y:V) (v u:Value) (Q:VK),Inv X pins σ H s->RelV x v->RelV y u->r x y H Q ->
  wpAny (model X.prog X.w) X.A (f v u) (EP X pins σ Q) X.xe s
noncomputable def UnR (X:Cx) (f:Value->Sem Value) (r:V->Hp->VK->Prop):Prop :=
 ∀ (pins:List (Addr × Obj)) (s:Shared) (σ:St) (H:Hp) (x:V) (v:Value) (Q:VK),Inv X pins σ H s->RelV x v->r x H Q ->
  wpAny (model X.prog X.w) X.A (f v) (EP X pins σ Q) X.xe s
noncomputable def CallR (X:Cx) (f:Value) (r:List V->Hp->VK->Prop):Prop :=
 ∀ (pins:List (Addr × Obj)) (s:Shared) (σ:St) (H:Hp) (xs:List V) (us:List Value) (Q:VK),Inv X pins σ H s->Vals xs us->r xs H Q ->
  wpAny (model X.prog X.w) X.A (call f us) (EP X pins σ Q) X.xe s
noncomputable def TruR (X:Cx) (r:V->Hp->(Bool->Hp->Prop)->Prop):Prop :=
 ∀ (pins:List (Addr × Obj)) (s:Shared) (σ:St) (H:Hp) (x:V) (v:Value) (Q:Bool->Hp->Prop),Inv X pins σ H s->RelV x v->r x H Q ->
  wpAny (model X.prog X.w) X.A (truthy v) (TP X pins σ Q) X.xe s
noncomputable def tOp (r:R2) (ta tb:TE):TE:=fun σ H Q=>ta σ H fun x H1=>tb σ H1 fun y H2=>r x y H2 Q
noncomputable def tUn (r:V->Hp->VK->Prop) (ta:TE):TE:=fun σ H Q=>ta σ H fun x H1=>r x H1 Q
noncomputable def rI (C:Int->Int->Prop) (g:Int->Int->V):R2:=fun x y H Q=>∃ i j,x = .int i/\y = .int j/\C i j/\Q (g i j) H
noncomputable def rI0 (g:Int->Int->V):R2:=fun x y H Q=>∃ i j,x = .int i/\y = .int j/\Q (g i j) H
noncomputable def rU (g:Int->V):V->Hp->VK->Prop:=fun x H Q=>∃ i,x = .int i/\Q (g i) H
section
variable {X:Cx} {a b c:Expr} {ta tb tc:TE} {pos:Pos}
theorem binT (ha:PE X a ta) (hb:PE X b tb) {pins:List (Addr × Obj)} {s:Shared} {σ:St} {H:Hp} {R:V->V->Hp->Prop} (I:Inv X pins σ H s)
  (h:ta σ H fun x H1=>tb σ H1 fun y H2=>R x y H2) {Q:Value->Shared->Prop} {f:Value->Value->Sem Value}
  (hf:∀ v u s2 x y H2,Inv X pins σ H2 s2->RelV x v->RelV y u->R x y H2->wpAny (model X.prog X.w) X.A (f v u) Q X.xe s2) :
  wpAny (model X.prog X.w) X.A (eval a X.env) (fun v s₁=>wpAny (model X.prog X.w) X.A (eval b X.env) (fun u s₂=>wpAny (model X.prog X.w) X.A (f v u) Q X.xe s₂) X.xe s₁) X.xe s:=by
 refine thn (ha pins s σ H _ I h) fun v s1 ⟨x,H1,I1,r1,q1⟩=>?_
 refine thn (hb pins s1 σ H1 _ I1 q1) fun u s2 ⟨y,H2,I2,r2,q2⟩=>?_
 exact hf v u s2 x y H2 I2 r1 r2 q2
theorem pe_op {op:Operator} {r:R2} (ho:OpR X (binaryOp op) r) (ha:PE X a ta) (hb:PE X b tb):PE X (.BinOp a op b pos) (tOp r ta tb):=by
 intro pins s σ H Q I h
 exact wpAny_BinOp (binT ha hb I h fun v u s2 x y H2 I2 rx ry q=>ho pins s2 σ H2 x y v u Q I2 rx ry q)
theorem pe_un {op:UnaryOp} {r:V->Hp->VK->Prop} (ho:UnR X (unaryOp op) r) (ha:PE X a ta):PE X (.UnaryOp op a pos) (tUn r ta):=by
 intro pins s σ H Q I h
 exact UnaryOp_ (thn (ha pins s σ H _ I h) fun v s1 ⟨x,H1,I1,r1,q1⟩=>ho pins s1 σ H1 x v Q I1 r1 q1)
theorem opI {f:Value->Value->Sem Value} {C:Int->Int->Prop} {g:Int->Int->Int}
  (rule:∀ (i j:Int) (t u:Tok) (s:Shared) (Q:Value->Shared->Prop) (E:Value->Shared->Prop),C i j->Q (.int (g i j) s.toks) { s with toks:=s.toks + 1 }->wpAny (model X.prog X.w) X.A (f (.int i t) (.int j u)) Q E s) :
  OpR X f (rI C fun i j=>.int (g i j)):=by
 intro pins s σ H x y v u Q I rx ry h
 obtain ⟨i,j,rfl,rfl,hc,q⟩:=h
 obtain ⟨t,rfl⟩:=rx
 obtain ⟨t',rfl⟩:=ry
 exact rule i j t t' s _ _ hc ⟨.int (g i j),H,I.tok _,⟨_,rfl⟩,q⟩
theorem opI0 {f:Value->Value->Sem Value} {g:Int->Int->Int}
  (rule:∀ (i j:Int) (t u:Tok) (s:Shared) (Q:Value->Shared->Prop) (E:Value->Shared->Prop),Q (.int (g i j) s.toks) { s with toks:=s.toks + 1 }->wpAny (model X.prog X.w) X.A (f (.int i t) (.int j u)) Q E s) :
  OpR X f (rI0 fun i j=>.int (g i j)):=by
 intro pins s σ H x y v u Q I rx ry h
 obtain ⟨i,j,rfl,rfl,q⟩:=h
 obtain ⟨t,rfl⟩:=rx
 obtain ⟨t',rfl⟩:=ry
 exact rule i j t t' s _ _ ⟨.int (g i j),H,I.tok _,⟨_,rfl⟩,q⟩
theorem opB0 {f:Value->Value->Sem Value} {g:Int->Int->Bool}
  (rule:∀ (i j:Int) (t u:Tok) (s:Shared) (Q:Value->Shared->Prop) (E:Value->Shared->Prop),Q (.bool (g i j)) s->wpAny (model X.prog X.w) X.A (f (.int i t) (.int j u)) Q E s) :
  OpR X f (rI0 fun i j=>.bl (g i j)):=by
 intro pins s σ H x y v u Q I rx ry h
 obtain ⟨i,j,rfl,rfl,q⟩:=h
 obtain ⟨t,rfl⟩:=rx
 obtain ⟨t',rfl⟩:=ry
 exact rule i j t t' s _ _ ⟨.bl (g i j),H,I,rfl,q⟩
noncomputable def CDiv (i j:Int):Prop:=0 < j/\j < 1073741824
noncomputable def CPow (i j:Int):Prop:=0 <= j/\j <= 1000000/\i.natAbs < 2 ^ 64
noncomputable def CMul (i j:Int):Prop:=(-(2 ^ 64) < i/\i < 2 ^ 64)\/(-(2 ^ 64) < j/\j < 2 ^ 64)
theorem CMul.ok {i j:Int} (h:CMul i j):IntMulOk i j:=by
 rcases h with ⟨h1,h2⟩ | ⟨h1,h2⟩
 ·exact .of_left (intBits_le_64 h1 h2)
 ·exact .of_right (intBits_le_64 h1 h2)
theorem op_add:OpR X (binaryOp .Add) (rI0 fun i j=>.int (i + j)):=opI0 fun _ _ _ _ _ _ _ q=>add_int q
theorem op_sub:OpR X (binaryOp .Sub) (rI0 fun i j=>.int (i - j)):=opI0 fun _ _ _ _ _ _ _ q=>sub_int q
theorem op_mul:OpR X (binaryOp .Mult) (rI CMul fun i j=>.int (i * j)):=opI fun _ _ _ _ _ _ _ hc q=>mul_int q hc.ok
theorem op_fdiv:OpR X (binaryOp .FloorDiv) (rI CDiv fun i j=>.int (i / j)):=opI fun i j _ _ _ _ _ hc q=>by
 have h1:(0:Int) < j:=hc.1
 have h2:j < 1073741824:=hc.2
 exact floordiv_int (by omega) (by rw [Int.fdiv_eq_ediv_of_nonneg i (by omega)]; exact q) (.inl (PyProof.noPylong_small (by omega)))
theorem op_mod:OpR X (binaryOp .Mod) (rI (fun _ j=>0 < j) fun i j=>.int (i % j)):=opI fun i j _ _ _ _ _ hc q=>by
 have h1:(0:Int) < j:=hc
 exact mod_int' (by omega) (by rw [Int.fmod_eq_emod_of_nonneg i (by omega)]; exact q)
theorem op_pow:OpR X (binaryOp .Pow) (rI CPow fun i j=>.int (i ^ j.toNat)):=opI fun _ _ _ _ _ _ _ hc q=>pow_int_small hc.1 hc.2.1 hc.2.2 q
theorem unI {f:Value->Sem Value} {g:Int->Int}
  (rule:∀ (i:Int) (t:Tok) (s:Shared) (Q:Value->Shared->Prop) (E:Value->Shared->Prop),Q (.int (g i) s.toks) { s with toks:=s.toks + 1 }->wpAny (model X.prog X.w) X.A (f (.int i t)) Q E s) :
  UnR X f (rU fun i=>.int (g i)):=by
 intro pins s σ H x v Q I rx h
 obtain ⟨i,rfl,q⟩:=h
 obtain ⟨t,rfl⟩:=rx
 exact rule i t s _ _ ⟨.int (g i),H,I.tok _,⟨_,rfl⟩,q⟩
theorem un_neg:UnR X (unaryOp .USub) (rU fun i=>.int (-i)):=unI fun _ _ _ _ _ q=>neg_int q
end
section
variable {X:Cx} {a b c:Expr} {ta tb tc:TE} {pos:Pos}
theorem fin_bl {pins:List (Addr × Obj)} {σ:St} {H:Hp} {s:Shared} {Q:VK} {k k':Bool} (I:Inv X pins σ H s) (q:Q (.bl k) H) (e:k=k'):EP X pins σ Q (.bool k') s:=by
 subst e
 exact ⟨.bl k,H,I,rfl,q⟩
theorem op_lt:OpR X (compareOp .Lt) (rI0 fun i j=>.bl (decide (i < j))):=opB0 fun _ _ _ _ _ _ _ q=>lt_int q
theorem op_le:OpR X (compareOp .LtE) (rI0 fun i j=>.bl (decide (i <= j))):=opB0 fun _ _ _ _ _ _ _ q=>le_int q
theorem op_gt:OpR X (compareOp .Gt) (rI0 fun i j=>.bl (decide (j < i))):=opB0 fun _ _ _ _ _ _ _ q=>gt_int q
theorem op_ge:OpR X (compareOp .GtE) (rI0 fun i j=>.bl (decide (j <= i))):=opB0 fun _ _ _ _ _ _ _ q=>ge_int q
theorem op_isN:OpR X (compareOp .Is) (fun x y H Q=>y = .non/\Q (.bl (decide (x = .non))) H):=by
 intro pins s σ H x y v u Q I rx ry h
 obtain ⟨rfl,q⟩:=h
 cases ry
 refine is_none_gen (fin_bl I q ?_)
 cases x <;> first
  | (cases rx; rfl)
  | (obtain ⟨t,rfl⟩:=rx; rfl)
noncomputable def isObj:HO->Bool
 | .lst _=>true
 | .ins _ _ _=>true
 | _=>false
theorem OpR.or {f:Value->Value->Sem Value} {r r':R2} (h:OpR X f r) (h':OpR X f r'):OpR X f (fun x y H Q=>r x y H Q\/r' x y H Q):=by
 intro pins s σ H x y v u Q I rx ry q
 rcases q with q | q
 ·exact h pins s σ H x y v u Q I rx ry q
 ·exact h' pins s σ H x y v u Q I rx ry q
theorem nomark (b:Expr) {op:CmpOp} (h:op ≠ .In:=by decide) (h2:op ≠ .NotIn:=by decide):behindInMarks op b=false:=by
 have e1:(op == CmpOp.In)=false:=by cases op <;> first | rfl | exact absurd rfl h
 have e2:(op == CmpOp.NotIn)=false:=by cases op <;> first | rfl | exact absurd rfl h2
 cases b <;> simp [behindInMarks,e1,e2]
theorem pe_cmpR {op:CmpOp} {r:R2} (ho:OpR X (compareOp op) r) (ha:PE X a ta) (hb:PE X b tb) (hm:behindInMarks op b=false):PE X (.Compare a [op] [b] pos) (tOp r ta tb):=by
 intro pins s σ H Q I h
 exact wpAny_Compare1 (binT ha hb I h fun v u s2 x y H2 I2 rx ry q=>ho pins s2 σ H2 x y v u Q I2 rx ry q) hm
noncomputable def tTest (t:TE):TT:=fun σ H Q=>t σ H fun x H'=>∃ k,x = .bl k/\Q k H'
theorem pt_cmpR {op:CmpOp} {r:R2} (ho:OpR X (compareOp op) r) (ha:PE X a ta) (hb:PE X b tb) (hm:behindInMarks op b=false):PT X (.Compare a [op] [b] pos) (tTest (tOp r ta tb)):=by
 intro pins s σ H Q I h
 refine wpAny_isTrue_Compare1 (thn (ha pins s σ H _ I h) fun v s1 ⟨x,H1,I1,r1,q1⟩=>thn (hb pins s1 σ H1 _ I1 q1) fun u s2 ⟨y,H2,I2,r2,q2⟩ =>
  thn (ho pins s2 σ H2 x y v u _ I2 r1 r2 q2) fun c s3 ⟨z,H3,I3,r3,k,e,q3⟩=>?_) hm
 subst e
 cases r3
 exact wpAny_truthy_bool ⟨H3,I3,q3⟩
noncomputable def tChain (r r':R2) (ta tb tc:TE):TE:=fun σ H Q=>ta σ H fun x H1=>tb σ H1 fun y H2=>r x y H2 fun z H3=>∃ k,z = .bl k /\
 (if k=true then tc σ H3 fun w' H4=>r' y w' H4 Q else Q (.bl false) H3)
theorem pe_chain {op op':CmpOp} {r r':R2} (ho:OpR X (compareOp op) r) (ho':OpR X (compareOp op') r') (ha:PE X a ta) (hb:PE X b tb) (hc:PE X c tc)
  (hm:lastMarks [op,op'] [b,c]=false:=by with_unfolding_all rfl):PE X (.Compare a [op,op'] [b,c] pos) (tChain r r' ta tb tc):=by
 intro pins s σ H Q I h
 refine Compare_chain (thn (ha pins s σ H _ I h) fun v s1 ⟨x,H1,I1,r1,q1⟩=>chain_link (thn (hb pins s1 σ H1 _ I1 q1) fun u s2 ⟨y,H2,I2,r2,q2⟩ =>
  thn (ho pins s2 σ H2 x y v u _ I2 r1 r2 q2) fun d s3 ⟨z,H3,I3,r3,k,e,q3⟩=>?_)) hm
 subst e
 cases r3
 refine wpAny_truthy_bool ?_
 cases k with
 | false=>exact ite_ff ⟨.bl false,H3,I3,rfl,q3⟩
 | true=>exact ite_tt (chain_last (thn (hc pins s3 σ H3 _ I3 q3) fun w' s4 ⟨z',H4,I4,r4,q4⟩=>ho' pins s4 σ H4 y z' u w' Q I4 r2 r4 q4))
noncomputable def TruV (K:PySem.W.Frag) (x:V) (H:Hp) (k:Bool):Prop :=
 match x with
 | .non=>k=false
 | .bl b=>k=b
 | .int i=>k=(i != 0)
 | .str y=>y.length <= sizeLine/\k=((y.length:Int) != 0)
 | .byt y=>y.size <= sizeLine/\k=((y.size:Int) != 0)
 | .ref p=>(∃ xs,SqL K H p xs/\k = !xs.isEmpty)\/(∃ xs,SqT K H p xs/\k = !xs.isEmpty)\/∃ kvs,H p=some (.dK kvs)/\k = !kvs.isEmpty
 | _=>False
theorem isEmpty_kv {κ:Type} {kvs:List (κ × V)} {vs:List (κ × Value)} (r:KV kvs vs):(!vs.isEmpty) = !kvs.isEmpty:=by
 cases r <;> rfl
theorem isEmpty_of {xs:List V} {its:List Value} (r:Vals xs its):(!its.toArray.isEmpty) = !xs.isEmpty:=by
 cases r <;> simp
theorem line63:(sizeLine:Nat) < 2 ^ 63:=by rw [sizeLine_eq]; decide
theorem tru_ok:TruR X (fun x H Q=>∃ k,TruV X.K x H k/\Q k H):=by
 intro pins s σ H x v Q I rx h
 obtain ⟨k,e,q⟩:=h
 have hl:=line63
 have hs:sizeLine=16777216:=sizeLine_eq
 cases x with
 | non =>
  cases rx
  have e':k=false:=e
  subst e'
  exact truthy_none ⟨H,I,q⟩
 | bl b =>
  cases rx
  have e':k=b:=e
  subst e'
  exact wpAny_truthy_bool ⟨H,I,q⟩
 | int i =>
  obtain ⟨t,rfl⟩:=rx
  have e':k=(i != 0):=e
  subst e'
  exact PySem.P.truthy_int ⟨H,I,q⟩
 | str y =>
  obtain ⟨t,rfl⟩:=rx
  obtain ⟨hy,e'⟩:y.length <= sizeLine/\k=((y.length:Int) != 0):=e
  subst e'
  exact PySem.P.truthy_str (by omega) ⟨H,I.tok _,q⟩
 | byt y =>
  obtain ⟨t,rfl⟩:=rx
  obtain ⟨hy,e'⟩:y.size <= sizeLine/\k=((y.size:Int) != 0):=e
  subst e'
  exact PySem.W.truthy_bytes (by omega) ⟨H,I.tok _,q⟩
 | ref p =>
  cases rx
  have e':(∃ xs,SqL X.K H p xs/\k = !xs.isEmpty)\/(∃ xs,SqT X.K H p xs/\k = !xs.isEmpty)\/∃ kvs,H p=some (.dK kvs)/\k = !kvs.isEmpty:=e
  rcases e' with ⟨xs,hx,e'⟩ | ⟨xs,hx,e'⟩ | ⟨kvs,hx,e'⟩
  ·subst e'
   obtain ⟨its,r,pl,hz⟩:=I.list hx
   have hlen:=r.length
   exact wpAny_truthy_list pl.isList (by simp only [List.size_toArray]; omega) ⟨H,I.tok _,by rw [isEmpty_of r]; exact q⟩
  ·subst e'
   obtain ⟨its,r,pl,hz⟩:=I.tuple hx
   have hlen:=r.length
   exact truthy_tuple pl (by simp only [List.size_toArray]; omega) ⟨H,I.tok _,by rw [isEmpty_of r]; exact q⟩
  ·subst e'
   obtain ⟨hz,hS,vs,r,m⟩:kvs.length <= sizeLine/\(p == sysModules)=false/\∃ vs,KV kvs vs/\s.heap.DictOf (mixKind X.prog X.w) p vs:=I.hok p _ hx
   have hlen:kvs.length=vs.length:=Paired.length r
   exact wpAny_truthy_dict hS m (by omega) ⟨H,I.tok _,by rw [isEmpty_kv r]; exact q⟩
 | _=>exact (show False from e).elim
theorem pt_truth (ha:PE X a ta) (he:∀ whole,isTrue a X.env whole=(do let v <- whole; standAt a.pos; holding [v] (truthy v))) :
  PT X a (fun σ H Q=>ta σ H fun x H'=>∃ k,TruV X.K x H' k/\Q k H'):=by
 intro pins s σ H Q I h
 exact isTrue_plain (thn (ha pins s σ H _ I h) fun v s1 ⟨x,H1,I1,r1,q1⟩=>tru_ok pins s1 σ H1 x v Q I1 r1 q1) (he _)
theorem vals1 {x:V} {us:List Value} (r:Vals [x] us):∃ u,us=[u]/\RelV x u:=by
 cases r with
 | cons r1 r2=>cases r2; exact ⟨_,rfl,r1⟩
theorem vals2 {x y:V} {us:List Value} (r:Vals [x,y] us):∃ u w',us=[u,w']/\RelV x u/\RelV y w':=by
 cases r with
 | cons r1 r2 =>
  cases r2 with
  | cons r3 r4=>cases r4; exact ⟨_,_,rfl,r1,r3⟩
theorem call_max2 (hc:X.calm=true):CallR X (.builtin "max") (fun xs H Q=>∃ i j,xs=[.int i,.int j]/\Q (.int (if j > i then j else i)) H):=by
 intro pins s σ H xs us Q I r h
 obtain ⟨i,j,rfl,q⟩:=h
 obtain ⟨u,w',rfl,⟨t,rfl⟩,⟨t',rfl⟩⟩:=vals2 r
 refine max_two_ints (I.ok.hd hc) fun h' tk k=>⟨_,H,I.kept k,?_,q⟩
 by_cases hj:j > i
 ·rw [if_pos hj,if_pos hj]; exact ⟨_,rfl⟩
 ·rw [if_neg hj,if_neg hj]; exact ⟨_,rfl⟩
theorem call_min2 (hc:X.calm=true):CallR X (.builtin "min") (fun xs H Q=>∃ i j,xs=[.int i,.int j]/\Q (.int (if j < i then j else i)) H):=by
 intro pins s σ H xs us Q I r h
 obtain ⟨i,j,rfl,q⟩:=h
 obtain ⟨u,w',rfl,⟨t,rfl⟩,⟨t',rfl⟩⟩:=vals2 r
 refine min_two_ints (I.ok.hd hc) fun h' tk k=>⟨_,H,I.kept k,?_,q⟩
 by_cases hj:j < i
 ·rw [if_pos hj,if_pos hj]; exact ⟨_,rfl⟩
 ·rw [if_neg hj,if_neg hj]; exact ⟨_,rfl⟩
end
end L2
namespace L2
open PySem PySem.Spec PyProof.Rows
structure ObjM (h:Heap) (x dx C:Addr) (mA:Str->Option Value):Prop where
 obj:h.get? x=some (PySem.W.instObj C dx)
 ns:h.Ns1 dx mA
 ne:dx ≠ x
theorem lookIn_ns {h:Heap} {dx:Addr} {mA:Str->Option Value} (n:h.Ns1 dx mA):∃ od,h.get? dx=some od/\∀ name,PySem.W.lookIn name od=some (mA name):=by
 obtain ⟨o,es,ep,ho,hd,hk,_,hm⟩:=n
 refine ⟨o,ho,fun name=>?_⟩
 have e:=hm name
 unfold nsFind findBy at e
 rw [<- Array.find?_toList] at e
 unfold PySem.W.lookIn
 rw [hd]
 dsimp only
 split
 ·rename_i y q
  rw [q] at e
  exact congrArg some e
 ·rename_i q
  rw [q] at e
  have a:es.toList.any (·.refKey)=false:=by
   rw [List.any_eq_false]
   intro y hy
   obtain ⟨z,t,hkey⟩:=hk y (Array.mem_toList_iff.mp hy)
   simp [DictEntry.refKey,hkey]
  have a':¬ es.toList.any (·.refKey)=true:=by rw [a]; exact Bool.false_ne_true
  rw [if_neg a']
  exact congrArg some e
theorem ObjM.look {h:Heap} {x dx C:Addr} {mA:Str->Option Value} (I:ObjM h x dx C mA):∃ od,PySem.W.InstAt h x (PySem.W.instObj C dx) C (some od)/\∀ name,PySem.W.lookIn name od=some (mA name) :=
 let ⟨od,ho,hl⟩:=lookIn_ns I.ns
 ⟨od,⟨I.obj,rfl,rfl,ho⟩,hl⟩
section
variable {prog:Program} {w:World} {A:Around} {E:Value->Shared->Prop} {s:Shared} {K:PySem.W.Frag} {x dx C f:Addr} {mA:Str->Option Value} {name:Str} {v:Value}
end
theorem RelO.none_of {o:Option Value} (r:RelO none o):o=none:=by
 cases o with
 | none=>rfl
 | some u=>exact (show False from r).elim
section
variable {P:Program} {w:World} {H H':Hp} {h h':Heap} {a C dx:Addr} {fs fs':List (Str × V)}
theorem ins_get (hok:HOk P w H h) (e:H a=some (.ins C dx fs)):∃ mA,ObjM h a dx C mA/\(∀ f,RelO (fs.lookup f) (mA f))/\PySem.Within mA (fs.map (·.1))/\fs.length <= 1000/\H dx=some (.own a):=by
 obtain ⟨d,z,ne,ob,mA,n,r,q⟩:=(show ObjOk P w H h a (.ins C dx fs) from hok a _ e)
 exact ⟨mA,⟨ob,n,ne⟩,r,q,z,d⟩
end
structure Cls (K:PySem.W.Frag) (C:Addr):Prop where
 pg:PySem.W.plainGet K C Str.empty=true
 hd:PySem.W.hasDictIn K C=true
 po:PySem.W.plainOver K C=true
 sa:PySem.W.findIn K (.ref C) "__setattr__" = some (some (.builtin "object.__setattr__"))
theorem Cls.get {K:PySem.W.Frag} {C:Addr} (c:Cls K C) (f:Str):PySem.W.plainGet K C f=true:=c.pg
noncomputable def NoAttr (K:PySem.W.Frag) (C:Addr) (f:Str):Prop:=PySem.W.findIn K (.ref C) f=some none
structure Meth (K:PySem.W.Frag) (C:Addr) (m:Str) (f:Addr):Prop where
 at_:PySem.W.findIn K (.ref C) m=some (some (.ref f))
 fn:PySem.W.isFn K (.ref f)=true
 kp:PySem.W.keepIn K (.ref f)=true
section
variable {X:Cx} {pins:List (Addr × Obj)} {σ:St} {H:Hp} {s:Shared} {a C dx:Addr} {fs:List (Str × V)} {f:Str} {v:V} {A:Around} {E:Value->Shared->Prop}
end
noncomputable def tFld (K:PySem.W.Frag) (ta:TE) (f:Str):TE:=fun σ H Q=>ta σ H fun x H1=>∃ a C dx fs v,x = .ref a/\H1 a=some (.ins C dx fs)/\Cls K C/\NoAttr K C f/\fs.lookup f=some v/\Q v H1
section
variable {X:Cx} {o e value:Expr} {f:Str} {pos pos' tpos:Pos} {ta tv:TE}
end
section
variable {X:Cx} {pins:List (Addr × Obj)} {σ:St} {H:Hp} {s:Shared} {A:Around} {E:Value->Shared->Prop} {Q:Value->Shared->Prop} {c:Value} {b:Bool}
inductive TyOf (K:PySem.W.Frag) (H:Hp):V->Value->Prop where
 | non:TyOf K H .non (.type "NoneType")
 | bl (x:Bool):TyOf K H (.bl x) (.type "bool")
 | int (i:Int):TyOf K H (.int i) (.type "int")
 | str (x:Str):TyOf K H (.str x) (.type "str")
 | flt (x:UInt64):TyOf K H (.flt x) (.type "float")
 | lst {a:Addr} {xs:List V} (e:H a=some (.lst xs)):TyOf K H (.ref a) (.type "list")
 | frz {a:Addr} {o:Obj} {xs:List V} (e:H a=some (.frz o (.lst xs))):TyOf K H (.ref a) (.type "list")
 | tup {a:Addr} {xs:List V} (e:H a=some (.tup xs)):TyOf K H (.ref a) (.type "tuple")
 | dK {a:Addr} {kvs:List (Key × V)} (e:H a=some (.dK kvs)):TyOf K H (.ref a) (.type "dict")
 | dT {a:Addr} {kvs:List (List Key × V)} (e:H a=some (.dT kvs)):TyOf K H (.ref a) (.type "dict")
 | ins {a C dx:Addr} {fs:List (Str × V)} (e:H a=some (.ins C dx fs)) (cl:Cls K C) (ha:PySem.W.findIn K (.ref C) "__class__" = some (some (.builtin "object.__class__")))
   (hn:PySem.W.specialIn K (.builtin "object.__class__") "__get__" = some (some (.builtin "getset_descriptor.__get__"))) (htk:PySem.W.takesIn K (.builtin "object.__class__")=some true)
   (hm:PySem.W.mroIn K C (.type "object")=some true):TyOf K H (.ref a) (.ref C)
theorem isinst_ok {x:V} {u t:Value} (I:Inv X pins σ H s) (rx:RelV x u) (ty:TyOf X.K H x t) (e:PySem.W.kitOne X.K t c=some b) (h:∀ tk,Q (.bool b) { s with toks:=tk }) :
  wpAny (model X.prog X.w) A (call (.builtin "isinstance") [u,c]) Q E s:=by
 cases ty with
 | non=>cases (show u=Value.none from rx); exact PySem.W.kia_one PySem.W.kitx_none I.kIn True.intro e (fun z=>nomatch z) h
 | bl y=>cases (show u=Value.bool y from rx); exact PySem.W.kia_one PySem.W.kitx_bool I.kIn True.intro e (fun z=>nomatch z) h
 | int i=>obtain ⟨t,q⟩:=(show ∃ t,u=Value.int i t from rx); cases q; exact PySem.W.kia_one PySem.W.kitx_int I.kIn True.intro e (fun z=>nomatch z) h
 | str y=>obtain ⟨t,q⟩:=(show ∃ t,u=Value.str y t from rx); cases q; exact PySem.W.kia_one PySem.W.kitx_str I.kIn True.intro e (fun z=>nomatch z) h
 | flt y=>obtain ⟨t,q⟩:=(show ∃ t,u=Value.float y t from rx); cases q; exact PySem.W.kia_one PySem.W.kitx_float I.kIn True.intro e (fun z=>nomatch z) h
 | @lst a xs ea =>
  cases (show u=Value.ref a from rx)
  obtain ⟨_,_,n,_,h1⟩:=(show ObjOk X.prog X.w H s.heap a (.lst xs) from I.hok a _ ea)
  exact PySem.W.kia_one PySem.W.kitx_list I.kIn ⟨_,h1,rfl⟩ e (fun z=>nomatch z) h
 | @frz a ob xs ea =>
  cases (show u=Value.ref a from rx)
  obtain ⟨_,_,_,n,_,h1⟩:=(show ObjOk X.prog X.w H s.heap a (.frz ob (.lst xs)) from I.hok a _ ea)
  exact PySem.W.kia_one PySem.W.kitx_list I.kIn ⟨_,h1,rfl⟩ e (fun z=>nomatch z) h
 | @tup a xs ea =>
  cases (show u=Value.ref a from rx)
  obtain ⟨_,_,_,p⟩:=(show ObjOk X.prog X.w H s.heap a (.tup xs) from I.hok a _ ea)
  obtain ⟨o,h1,h2,_⟩:=p
  exact PySem.W.kia_one PySem.W.kitx_tuple I.kIn ⟨o,h1,h2⟩ e (fun z=>nomatch z) h
 | @dK a kvs ea =>
  cases (show u=Value.ref a from rx)
  obtain ⟨_,_,vs,_,p⟩:=(show ObjOk X.prog X.w H s.heap a (.dK kvs) from I.hok a _ ea)
  obtain ⟨o,es,ep,h1,h2,_⟩:=p
  exact PySem.W.kia_one PySem.W.kitx_dict I.kIn ⟨o,h1,h2.1⟩ e (fun z=>nomatch z) h
 | @dT a kvs ea =>
  cases (show u=Value.ref a from rx)
  obtain ⟨_,_,xs,_,o,es,ep,h1,h2,_⟩:=(show ObjOk X.prog X.w H s.heap a (.dT kvs) from I.hok a _ ea)
  exact PySem.W.kia_one PySem.W.kitx_dict I.kIn ⟨o,h1,h2.1⟩ e (fun z=>nomatch z) h
 | @ins a C dx fs ea cl ha hn htk hm =>
  cases (show u=Value.ref a from rx)
  obtain ⟨mA,O,_⟩:=ins_get I.hok ea
  obtain ⟨od,J,_⟩:=O.look
  exact PySem.W.kia_one (PySem.W.kitx_own (cl.get _) cl.hd ha hn htk hm) I.kIn J e (fun z=>nomatch z) h
end
end L2
namespace L2
open PySem PySem.Spec PyProof.Rows
structure Room (k:Nat) (A:Around):Prop where
 hd:A.handled=none
 dp:A.depth + 3 * k + 5 < recursionLimit
 un:A.units + 16 * k + 200 < cLine
theorem Room.mono {j k:Nat} {A:Around} (r:Room k A) (h:j <= k):Room j A:=⟨r.hd,by have:=r.dp; omega,by have:=r.un; omega⟩
theorem Room.deeper {k:Nat} {A:Around} (r:Room (k + 1) A) (env:Env):Room k (A.deeper env) :=
 ⟨r.hd,by have:=r.dp; show A.depth + 1 + 3 * k + 5 < _; omega,by have:=r.un; show A.units + 3 + 16 * k + 200 < _; omega⟩
theorem Room.depth {k:Nat} {A:Around} (r:Room k A):A.depth < recursionLimit:=by have:=r.dp; omega
theorem Room.units {k:Nat} {A:Around} (r:Room k A):A.units + 64 < cLine:=by have:=r.un; omega
theorem Room.units0 {k:Nat} {A:Around} (r:Room k A):A.units < cLine:=by have:=r.un; omega
noncomputable def tNil:TA:=fun _ H Q=>Q [] H
noncomputable def tCons (ta:TE) (tr:TA):TA:=fun σ H Q=>ta σ H fun x H1=>tr σ H1 fun xs H2=>Q (x :: xs) H2
section
variable {X:Cx} {e:Expr} {es:List Expr} {te:TE} {t:TA} {pos:Pos}
theorem pa_nil:PA X [] tNil:=fun _ _ _ _ H Q I h=>Calls.spliced_nil ⟨[],H,I,.nil,h⟩
theorem pa_cons (ha:PE X e te) (hr:PA X es t) (hs:starEach (e :: es) X.env=(false,eval e X.env) :: starEach es X.env:=by rfl):PA X (e :: es) (tCons te t):=by
 intro pos pins s σ H Q I h
 rw [hs]
 show wpAny _ _ (spliced ((false,eval e X.env) :: backTo pos (starEach es X.env))) _ _ s
 refine Calls.spliced_cons (thn (ha pins s σ H _ I h) fun u s1 ⟨x,H1,I1,r1,q1⟩=>?_)
 exact thn (hr pos pins s1 σ H1 _ I1 q1) fun us s2 ⟨xs,H2,I2,r2,q2⟩=>⟨x :: xs,H2,I2,.cons r1 r2,q2⟩
noncomputable def tTup (t:TA):TE:=fun σ H Q=>t σ H fun xs H1=>xs.length <= sizeLine/\∀ p,H1 p=none->Q (.ref p) (upd H1 p (.tup xs))
noncomputable def tLst (t:TA):TE:=fun σ H Q=>t σ H fun xs H1=>xs.length <= sizeLine/\∀ p,H1 p=none->Q (.ref p) (upd H1 p (.lst xs))
theorem pe_tup {x1} (h:PA X es t):PE X (.Tuple es x1 pos) (tTup t):=by
 intro pins s σ H Q I hq
 refine wpAny_Tuple_spliced (thn (h pos pins s σ H _ I hq) fun us s1 ⟨xs,H1,I1,r,z,q⟩=>⟨by rw [<- r.length]; exact z,?_⟩)
 have hf:H1 s1.heap.objs.size=none:=I1.hok.fresh (Nat.le_refl _)
 refine ⟨.ref s1.heap.objs.size,upd H1 s1.heap.objs.size (.tup xs),I1.laid (t':=s1.toks) (fun b u e=>Heap.get?_push_of_some _ e) (Nat.le_refl _) ?_,rfl,q _ hf⟩
 exact ⟨z,us,r,⟨_,Heap.get?_push_size _ rfl,rfl,_,rfl⟩⟩
theorem pe_lst (h:PA X es t):PE X (.List es pos) (tLst t):=by
 intro pins s σ H Q I hq
 refine wpAny_List_spliced (thn (h pos pins s σ H _ I hq) fun us s1 ⟨xs,H1,I1,r,z,q⟩=>⟨by rw [<- r.length]; exact z,?_⟩)
 have hf:H1 s1.heap.objs.size=none:=I1.hok.fresh (Nat.le_refl _)
 refine ⟨.ref s1.heap.objs.size,upd H1 s1.heap.objs.size (.lst xs),I1.laid (t':=s1.toks) (fun b u e=>Heap.get?_push_of_some _ e) (Nat.le_refl _) ?_,rfl,q _ hf⟩
 exact ⟨z,us,0,r,Heap.get?_push_size _ rfl⟩
end
noncomputable abbrev Sp:=List V->Hp->VK->XK->Prop
noncomputable abbrev CXT:=List Env->Hp->Shared->XK->Value->Shared->Prop
structure Env0 (P:Program) (w:World) (K:PySem.W.Frag) (mg:Str->Option Value) (base:Heap) (A:Around) (outer:List Env) (s:Shared) (H:Hp):Prop where
 frames:A.frames=some outer
 mod:Mod K mg base
 bs:∀ b o,base.get? b=some o->s.heap.get? b=some o/\H b=none
 bsz:base.objs.size <= s.heap.objs.size
 funs:s.heap.FunFrames base outer
 frf:∀ b ∈ frs outer,H b=none
 hok:HOk P w H s.heap
 bare:AllBare s.gens
noncomputable def CE (outer:List Env) (P:Program) (w:World) (H:Hp) (s:Shared) (Q:VK) (u:Value) (s':Shared):Prop :=
 ∃ v H',s'.os=s.os/\AllBare s'.gens/\Un (frs outer) [] H H' s.heap s'.heap/\HOk P w H' s'.heap/\RelV v u/\Q v H'
noncomputable def CR (CX:CXT) (outer:List Env) (P:Program) (w:World) (H:Hp) (s:Shared) (Q:VK) (E:XK) (r:Result) (s':Shared):Prop :=
 match r with
 | .ok (.ret u)=>CE outer P w H s Q u s'
 | .ok _=>False
 | .error e=>CX outer H s E e s'
structure FnOk (P:Program) (w:World) (K:PySem.W.Frag) (mg:Str->Option Value) (base:Heap) (CX:CXT) (k:Nat) (f:Addr) (fd:FuncData) (ps:List Str) (sp:Sp):Prop where
 len:∀ vs H Q E,sp vs H Q E->vs.length=ps.length
 run:∀ (A:Around) (outer:List Env) (s:Shared) (H:Hp) (args:Args) (us:List Value) (vs:List V) (Q:VK) (E:XK),Room k A->Env0 P w K mg base A outer s H->BindsTo s fd args (ps.zip us)->Vals vs us->sp vs H Q E ->
  codeAny (model P w) A (.call (.ref f) args) (CR CX outer P w H s Q E) s
theorem FnOk.imp {P:Program} {w:World} {K:PySem.W.Frag} {mg:Str->Option Value} {base:Heap} {CX:CXT} {k:Nat} {f:Addr} {fd:FuncData} {ps:List Str} {sp sp':Sp} (F:FnOk P w K mg base CX k f fd ps sp)
  (h:∀ vs H Q E,sp' vs H Q E->sp vs H Q E):FnOk P w K mg base CX k f fd ps sp' :=
 ⟨fun vs H Q E q=>F.len vs H Q E (h _ _ _ _ q),fun A outer s H args us vs Q E hr he hb hv hs=>F.run A outer s H args us vs Q E hr he hb hv (h _ _ _ _ hs)⟩
section
variable {X:Cx} {pins:List (Addr × Obj)} {σ:St} {H:Hp} {s s':Shared}
theorem Inv.env0 (I:Inv X pins σ H s):Env0 X.prog X.w X.K X.mg X.base X.A X.stack s H :=
 ⟨I.ok.frames,I.ok.mod,I.bs,Nat.le_trans I.ok.bsz I.sz,I.stack,I.stkFree,I.hok,I.bare⟩
theorem Inv.after {Q:VK} {u:Value} (I:Inv X pins σ H s) (h:CE X.stack X.prog X.w H s Q u s'):EP X pins σ Q u s':=by
 obtain ⟨v,H',os,bare,un,hok,r,q⟩:=h
 obtain ⟨hh,g,d,t,os'⟩:=s'
 obtain rfl:os'=s.os:=os
 exact ⟨v,H',I.call (h':=hh) (g':=g) (d':=d) (t':=t) (ch:=[]) un hok bare (fun b z=>absurd z (by simp)),r,q⟩
end
noncomputable def tCall (sp:Sp) (dvs:List V) (E:XK) (t:TA):TE:=fun σ H Q=>t σ H fun vs H1=>sp (vs ++ dvs) H1 Q E
noncomputable def tMeth (C:Addr) (m:Str) (sp:Sp) (dvs:List V) (E:XK) (ta:TE) (t:TA):TE:=fun σ H Q=>ta σ H fun x H1=>∃ a dx fs,x = .ref a/\H1 a=some (.ins C dx fs)/\fs.lookup m=none /\
 t σ H1 fun vs H2=>sp (x :: (vs ++ dvs)) H2 Q E
noncomputable def tMake (C:Addr) (sp:Sp) (dvs:List V) (E:XK) (t:TA):TE:=fun σ H Q=>t σ H fun vs H1=>∀ x dx,H1 x=none->H1 dx=none->dx ≠ x ->
 sp (.ref x :: (vs ++ dvs)) (upd (upd H1 dx (.own x)) x (.ins C dx [])) (fun v H2=>v = .non/\Q (.ref x) H2) E
noncomputable def Binds (K:PySem.W.Frag) (fd:FuncData) (ps:List Str) (ds:List Value):Prop :=
 ∀ (s:Shared) (us:List Value),K.In s.heap->(us ++ ds).length=ps.length->BindsTo s fd ⟨us,[]⟩ (ps.zip (us ++ ds))
theorem Binds.all {K:PySem.W.Frag} {fd:FuncData} {ps:List Str} (h:∀ us:List Value,us.length=ps.length->bindArgs fd ⟨us,[]⟩=pure (ps.zip us)):Binds K fd ps []:=fun s us _ hl=>by
 rw [List.append_nil] at hl ⊢
 exact .of_eq (h us hl)
noncomputable def Passes (CX:CXT) (X:Cx) (E:XK):Prop:=∀ (pins:List (Addr × Obj)) (σ:St) (H:Hp) (s:Shared) (e:Value) (s':Shared),Inv X pins σ H s->CX X.stack H s E e s'->X.xe e s'
section
variable {X:Cx} {CX:CXT} {k:Nat} {f C:Addr} {fd:FuncData} {ps:List Str} {sp:Sp} {dvs:List V} {ds:List Value} {E:XK} {x m:Str} {p pos apos:Pos} {e o:Expr} {es:List Expr} {ta:TE} {t:TA}
theorem run_fn {pins:List (Addr × Obj)} {σ:St} {H:Hp} {s:Shared} {Q:VK} {us:List Value} {vs:List V} (F:FnOk X.prog X.w X.K X.mg X.base CX k f fd ps sp) (hr:Room k X.A) (hb:Binds X.K fd ps ds) (hd:Vals dvs ds) (hx:Passes CX X E)
  (I:Inv X pins σ H s) (r:Vals vs us) (h:sp (vs ++ dvs) H Q E):wpAny (model X.prog X.w) X.A (call (.ref f) us) (EP X pins σ Q) X.xe s:=by
 have r2:Vals (vs ++ dvs) (us ++ ds):=r.append hd
 have hl:(us ++ ds).length=ps.length:=by rw [<- r2.length]; exact F.len _ _ _ _ h
 refine wpAny_call (codeAny_mono (F.run X.A X.stack s H ⟨us,[]⟩ (us ++ ds) (vs ++ dvs) Q E hr I.env0 (hb s us I.kIn hl) r2 h) fun r s' hq=>?_)
 cases r with
 | error e=>exact hx pins σ H s e s' I hq
 | ok fl =>
  cases fl with
  | ret u=>exact I.after hq
  | next=>exact False.elim hq
  | brk=>exact False.elim hq
  | cont=>exact False.elim hq
theorem pe_call (F:FnOk X.prog X.w X.K X.mg X.base CX k f fd ps sp) (hr:Room k X.A) (hg:Gl X x) (hm:X.mg x=some (.ref f)) (hk:PySem.W.keepIn X.K (.ref f)=true) (hb:Binds X.K fd ps ds) (hd:Vals dvs ds) (hx:Passes CX X E)
  (ha:PA X (e :: es) t) (hdb:(x == ("__debug__" : Str))=false:=by decide) (he:starEach (e :: es) X.env=(false,eval e X.env) :: starEach es X.env:=by rfl) (hpl:(backTo pos (starEach es X.env)).any (·.1)=false:=by rfl) :
  PE X (.Call (.Name x p) (e :: es) [] pos) (tCall sp dvs E t):=by
 intro pins s σ H Q I h
 refine wpAny_Call_Name_kw (ld_glob I hg hm ?_ hdb)
 refine PySem.W.callWith_K (h₀:=X.base) I.ok.mod.kin hk (thn (ha pos pins s σ H _ I h) fun us s1 ⟨vs,H1,I1,r,q⟩=>⟨I1.kIn,?_⟩) he hpl
 exact run_fn F hr hb hd hx I1 r q
end
section
variable {X:Cx} {CX:CXT} {k:Nat} {f C:Addr} {fd:FuncData} {ps ks:List Str} {sp:Sp} {E:XK} {x m:Str} {p pos apos kpos:Pos} {e o:Expr} {es:List Expr} {kws:List Keyword} {te ta:TE} {t tk:TA} {nm:Option Str}
variable {g:List Value->List Value->List Value} {gV:List V->List V->List V}
end
structure FnScope (N P:List Str) (sc:Scope):Prop where
 kind:sc.kind = .function
 co:sc.isCoroutine=false
 gen:sc.isGenerator=false
 nd:N.Nodup
 pre:N.take P.length=P
 par:∀ x ∈ P,sc.names.lookup x=some .local\/sc.names.lookup x=some .cell
 nofree:∀ y ∈ sc.names,y.2 ≠ .free
theorem bindL_out {kindOf:Str->Option NameKind} {x:Str}:∀ {binds:List (Str × Value)} {m:Str->Option Value},(∀ v,(x,v) ∉ binds)->bindL kindOf binds m x=m x
 | [],_,_=>rfl
 | (n,v) :: r,m,h=>by
  unfold bindL
  rw [bindL_out fun w hw=>h w (List.mem_cons_of_mem _ hw)]
  split
  ·have:x ≠ n:=by rintro rfl; exact h v List.mem_cons_self
   simp [this]
  ·rfl
theorem bindC_out {kindOf:Str->Option NameKind} {x:Str}:∀ {binds:List (Str × Value)} {m:Str->Option Value},(∀ v,(x,v) ∉ binds)->bindC kindOf binds m x=m x
 | [],_,_=>rfl
 | (n,v) :: r,m,h=>by
  unfold bindC
  rw [bindC_out fun w hw=>h w (List.mem_cons_of_mem _ hw)]
  split
  ·rfl
  ·have:x ≠ n:=by rintro rfl; exact h v List.mem_cons_self
   simp [this]
theorem bindL_get {kindOf:Str->Option NameKind} {x:Str} {v:Value}:∀ {P:List Str} {vs:List Value} {i:Nat} {m:Str->Option Value},P.Nodup->P[i]? = some x->vs[i]? = some v->kindOf x=some .local ->
  bindL kindOf (P.zip vs) m x=some v
 | [],_,_,_,_,h,_,_=>by simp at h
 | _ :: _,[],_,_,_,_,h,_=>by simp at h
 | p :: P,w :: vs,0,m,nd,h1,h2,hk=>by
  simp at h1 h2; subst h1; subst h2
  show bindL kindOf ((p,w) :: P.zip vs) m p=_
  unfold bindL
  rw [bindL_out fun v hv=>(List.nodup_cons.mp nd).1 (List.of_mem_zip hv).1,if_pos hk]
  simp
 | p :: P,w :: vs,i + 1,m,nd,h1,h2,hk=>by
  show bindL kindOf ((p,w) :: P.zip vs) m x=_
  unfold bindL
  exact bindL_get (i:=i) (List.nodup_cons.mp nd).2 (by simpa using h1) (by simpa using h2) hk
theorem bindC_get {kindOf:Str->Option NameKind} {x:Str} {v:Value}:∀ {P:List Str} {vs:List Value} {i:Nat} {m:Str->Option Value},P.Nodup->P[i]? = some x->vs[i]? = some v->kindOf x ≠ some .local ->
  bindC kindOf (P.zip vs) m x=some v
 | [],_,_,_,_,h,_,_=>by simp at h
 | _ :: _,[],_,_,_,_,h,_=>by simp at h
 | p :: P,w :: vs,0,m,nd,h1,h2,hk=>by
  simp at h1 h2; subst h1; subst h2
  show bindC kindOf ((p,w) :: P.zip vs) m p=_
  unfold bindC
  rw [bindC_out fun v hv=>(List.nodup_cons.mp nd).1 (List.of_mem_zip hv).1,if_neg hk]
  simp
 | p :: P,w :: vs,i + 1,m,nd,h1,h2,hk=>by
  show bindC kindOf ((p,w) :: P.zip vs) m x=_
  unfold bindC
  exact bindC_get (i:=i) (List.nodup_cons.mp nd).2 (by simpa using h1) (by simpa using h2) hk
noncomputable def start (N:List Str) (vs:List V):St:=vs.map some ++ List.replicate (N.length - vs.length) none
noncomputable def cxOf (CX:CXT) (P:Program) (w:World) (K:PySem.W.Frag) (mg:Str->Option Value) (base:Heap) (N:List Str) (qual:Str) (scope:Scope) (f:Addr) (cd:Value) (A:Around) (outer:List Env) (s:Shared) (H:Hp) (E:XK):Cx where
 prog:=P
 w:=w
 K:=K
 mg:=mg
 base:=base
 A:=A.deeper (envOfC qual scope s.heap.objs.size f cd)
 N:=N
 s₀:=s
 H₀:=H
 env:=envOfC qual scope s.heap.objs.size f cd
 outer:=outer
 stack:=envOfC qual scope s.heap.objs.size f cd :: outer
 ex:=[]
 calm:=true
 fn:=fun _=>true
 pn:=[]
 xe:=fun e s'=>wpAny (model P w) (A.deeper (envOfC qual scope s.heap.objs.size f cd)) (leaving (envOfC qual scope s.heap.objs.size f cd) e) (fun _ s''=>CX outer H s E e s'') (fun e' s''=>CX outer H s E e' s'') s'
theorem cell_has {sc:Scope} {n:Nat} {x:Str} (h:sc.names.lookup x=some .cell):∃ c,(cellsFrom n sc.names []).lookup x=some c:=by
 have q:=PySem.W.cellsFrom_some sc.names n [] (.inl h)
 exact Option.isSome_iff_exists.mp q
theorem inv_start {CX:CXT} {P:Program} {w:World} {K:PySem.W.Frag} {mg:Str->Option Value} {base:Heap} {N ps:List Str} {qual:Str} {scope:Scope} {f:Addr} {cd:Value} {A:Around} {outer:List Env} {s s1:Shared} {H:Hp} {E:XK} {us:List Value} {vs:List V}
  (S:FnScope N ps scope) (hd:A.handled=none) (e0:Env0 P w K mg base A outer s H) (hl:vs.length=ps.length) (r:Vals vs us)
  (x:InCallC s s.heap.objs.size (bindL (envOfC qual scope s.heap.objs.size f cd).kindOf (ps.zip us) fun _=>none) (cellsFrom (s.heap.objs.size + 1) scope.names []) (bindC (envOfC qual scope s.heap.objs.size f cd).kindOf (ps.zip us) fun _=>none) s1) :
  Inv (cxOf CX P w K mg base N qual scope f cd A outer s H E) [] (start N vs) H s1:=by
 have hpl:ps.length <= N.length:=by have:=congrArg List.length S.pre; rw [List.length_take] at this; omega
 obtain ⟨h1,tk,rfl,hk⟩:=x.done
 have noA:∀ b:Addr,b ∉ (cxOf CX P w K mg base N qual scope f cd A outer s H E).ex:=fun b z=>absurd (show b ∈ ([]:List Addr) from z) (by simp)
 refine ⟨⟨e0.mod,S.kind,rfl,rfl,Nat.le_refl _,fun y z c h1 h2=>?_,fun y hy=>?_,fun y c _ h=>?_,fun _=>hd,Around.frames_deeper e0.frames,.inr ⟨rfl,rfl⟩,fun b z=>absurd z (noA b),e0.bs,e0.bsz,fun b _ _=>noA b,fun b z=>absurd z (noA b),e0.funs,e0.frf⟩,
  rfl,e0.bare,Un.kept hk,⟨_,x.toInCall.ns,fun i y v h1 h2 h3=>?_⟩,fun y c h=>⟨_,x.cell y c h⟩,e0.hok.fresh (Nat.le_refl _),fun y c h=>?_,fun p hp=>absurd (show p ∈ ([]:List (Addr × Obj)) from hp) (by simp),e0.hok.kept hk,?_⟩
 ·exact name_of_addr x.apart (PySem.mem_of_lookup h1) (PySem.mem_of_lookup h2)
 ·have hy:scope.names.lookup y=some .cell\/scope.names.lookup y=some .free:=hy
  rcases hy with hy | hy
  ·exact cell_has hy
  ·exact absurd rfl (S.nofree _ (PySem.mem_of_lookup hy))
 ·exact Nat.le_of_lt (x.above y c (PySem.mem_of_lookup h))
 ·have hi:i < vs.length:=by
   unfold start at h2
   by_cases hi:i < vs.length
   ·exact hi
   ·rw [List.getElem?_append_right (by simpa using hi)] at h2
    rw [List.getElem?_replicate] at h2
    split at h2 <;> cases h2
  have ha:vs[i]? = some v:=by
   unfold start at h2
   rw [List.getElem?_append_left (by simpa using hi),List.getElem?_map] at h2
   cases e:vs[i]? with
   | none=>rw [e] at h2; cases h2
   | some a=>rw [e] at h2; cases h2; rfl
  obtain ⟨u,hu,rv⟩:=r.get ha
  have hp:ps[i]? = some y:=by
   rw [<- S.pre,List.getElem?_take_of_lt (by omega)]; exact h1
  have ndP:ps.Nodup:=by rw [<- S.pre]; exact S.nd.sublist (List.take_sublist _ _)
  refine ⟨u,rv,?_⟩
  rcases S.par y (List.mem_of_getElem? hp) with k | k
  ·exact .inl ⟨k,bindL_get ndP hp hu k⟩
  ·obtain ⟨c,e⟩:=cell_has (n:=s.heap.objs.size + 1) k
   refine .inr ⟨.inl k,c,e,?_⟩
   have q:=x.cell y c e
   rw [bindC_get ndP hp hu (by show scope.names.lookup y ≠ _; rw [k]; decide)] at q
   exact q
 ·exact e0.hok.fresh (Nat.le_of_lt (x.above y c (PySem.mem_of_lookup h)))
 ·unfold start
  show _=N.length
  rw [List.length_append,List.length_map,List.length_replicate]
  omega
theorem fn_of {CX:CXT} {P:Program} {w:World} {K:PySem.W.Frag} {mg:Str->Option Value} {base:Heap} {k:Nat} {f:Addr} {name qual:Str} {params:Arguments} {body:List Stmt} {scope:Scope} {dV kV doc pm cdv ct oc:Value} {an od:Option Addr}
  {osl:Array (Option Value)} {N ps:List Str} {sp:Sp} (lk:K.lookup f=some ⟨oc,od,.func (PySem.W.fnOf name qual params body scope dV kV doc pm an cdv ct),osl⟩) (hcd:PySem.W.codeIn K cdv qual=true) (S:FnScope N ps scope)
  (len:∀ vs H Q E,sp vs H Q E->vs.length=ps.length)
  (hbody:∀ (A:Around) (outer:List Env) (s:Shared) (H:Hp) (vs:List V) (Q:VK) (E:XK),Room k (A.deeper (envOfC qual scope s.heap.objs.size f cdv))->sp vs H Q E ->
   ∃ t,PSs (cxOf CX P w K mg base N qual scope f cdv A outer s H E) body t/\t { nx:=fun _ H'=>Q .non H',rt:=Q } (start N vs) H) :
  FnOk P w K mg base CX (k + 1) f (PySem.W.fnOf name qual params body scope dV kV doc pm an cdv ct) ps sp:=by
 refine ⟨len,fun A outer s H args us vs Q E hr e0 hb r hsp=>?_⟩
 have hl:=len _ _ _ _ hsp
 have KX:K.In s.heap:=e0.mod.kin.keeps fun b o e=>(e0.bs b o e).1
 have lim:s.heap.NoLimit:=e0.mod.nolimit.keeps fun b o e=>(e0.bs b o e).1
 have hkind:∀ y ∈ ps.zip us,scope.names.lookup y.1=some .local\/(scope.names.lookup y.1=some .cell/\((cellsFrom (s.heap.objs.size + 1) scope.names []).lookup y.1).isSome=true):=fun ⟨n,v⟩ hy=>by
  rcases S.par n (List.of_mem_zip hy).1 with q | q
  ·exact .inl q
  ·exact .inr ⟨q,PySem.W.cellsFrom_some _ _ _ (.inl q)⟩
 refine codeAny_call_function hr.depth (KX _ _ lk) rfl S.co S.gen rfl (PySem.W.codeRec_of KX hcd) (hb _ _ _ _ ?_)
 refine wpAny_newFunctionEnv_cells S.kind hkind fun env he s1 x=>?_
 subst he
 refine ⟨lim.keeps x.toInCall.keep,codeAny_func ?_⟩
 obtain ⟨t,ht,hq⟩:=hbody A outer s H vs Q E (hr.deeper _) hsp
 have I:Inv (cxOf CX P w K mg base N qual scope f cdv A outer s H E) [] (start N vs) H s1:=inv_start S hr.hd e0 hl r x
 refine wpAny_mono (ht [] s1 (start N vs) H _ I hq) (fun fl s' hs=>?_) fun e s' hs=>hs
 have fin:∀ {σ':St} {H':Hp} {v:V} {u:Value},Inv (cxOf CX P w K mg base N qual scope f cdv A outer s H E) [] σ' H' s'->RelV v u->Q v H'->CE outer P w H s Q u s' :=
  fun {σ' H' v u} J rv q=>⟨v,H',J.os,J.bare,J.base,J.hok,rv,q⟩
 cases fl with
 | ret u =>
  obtain ⟨v,σ',H',J,rv,q⟩:=hs
  exact fin J rv q
 | next =>
  obtain ⟨σ',H',J,q⟩:=hs
  exact fin (v:=V.non) (u:=Value.none) J rfl q
 | brk =>
  obtain ⟨_,_,_,q⟩:=hs
  exact False.elim q
 | cont =>
  obtain ⟨_,_,_,q⟩:=hs
  exact False.elim q
end L2
namespace L2
open PySem PySem.Spec PyProof.Rows
section
variable {X:Cx} {x:Str} {p pos:Pos} {e:Expr} {es:List Expr} {t:TA} {id T:String} {r:List V->Hp->VK->Prop}
noncomputable def tCB (r:List V->Hp->VK->Prop) (t:TA):TE:=fun σ H Q=>t σ H fun vs H1=>r vs H1 Q
theorem pe_callB (hc:CallR X (.builtin id) r) (hg:Gl X x) (hm:X.mg x=none) (hv:bootBuiltins x=some (.builtin id)) (ha:PA X (e :: es) t) (hn:x ≠ "__name__":=by decide) (hdb:(x == ("__debug__" : Str))=false:=by decide)
  (he:starEach (e :: es) X.env=(false,eval e X.env) :: starEach es X.env:=by rfl) (hpl:(backTo pos (starEach es X.env)).any (·.1)=false:=by rfl):PE X (.Call (.Name x p) (e :: es) [] pos) (tCB r t):=by
 intro pins s σ H Q I h
 refine wpAny_Call_Name_kw (ld_blt I hg hm hv ?_ hn hdb)
 exact PyProof.Rows.callWith_builtin1 (thn (ha pos pins s σ H _ I h) fun us s1 ⟨vs,H1,I1,r1,q1⟩=>hc pins s1 σ H1 vs us Q I1 r1 q1) he hpl
theorem pe_callTy (hc:CallR X (.type T) r) (hg:Gl X x) (hm:X.mg x=none) (hv:bootBuiltins x=some (.type T)) (ha:PA X (e :: es) t) (hn:x ≠ "__name__":=by decide) (hdb:(x == ("__debug__" : Str))=false:=by decide)
  (he:starEach (e :: es) X.env=(false,eval e X.env) :: starEach es X.env:=by rfl) (hpl:(backTo pos (starEach es X.env)).any (·.1)=false:=by rfl):PE X (.Call (.Name x p) (e :: es) [] pos) (tCB r t):=by
 intro pins s σ H Q I h
 refine wpAny_Call_Name_kw (ld_blt I hg hm hv ?_ hn hdb)
 exact PyProof.Rows.callWith_type1 (thn (ha pos pins s σ H _ I h) fun us s1 ⟨vs,H1,I1,r1,q1⟩=>hc pins s1 σ H1 vs us Q I1 r1 q1) he hpl
end
end L2
namespace HT
open PySem PyProof.Rows
noncomputable def lexLt:List Int->List Int->Bool
 | [],[]=>false
 | [],_ :: _=>true
 | _ :: _,[]=>false
 | x :: xs,y :: ys=>if x=y then lexLt xs ys else decide (x < y)
theorem lexLt_cons (x y:Int) (xs ys:List Int):lexLt (x :: xs) (y :: ys)=if x=y then lexLt xs ys else decide (x < y):=rfl
theorem lexLt_nil_nil:lexLt [] []=false:=rfl
theorem lexLt_nil_cons (y:Int) (ys:List Int):lexLt [] (y :: ys)=true:=rfl
theorem lexLt_cons_nil (x:Int) (xs:List Int):lexLt (x :: xs) []=false:=rfl
theorem eqAt_int (A:Around) (s:Shared) (a:Int) (t:Tok) (c:Int) (u:Tok):∃ e,SeqAt.EqAt A s (.int a t) (.int c u) e/\(e=true ↔ a=c) :=
 ⟨(a == c),SeqAt.EqAt.int_int a t c u,by simp⟩
theorem rcLt_int (A:Around) (s:Shared) (a:Int) (t:Tok) (c:Int) (u:Tok) (prog:Program) (w:World) (E:Value->Shared->Prop) (Q:Value->Shared->Prop) (h:Q (.bool (decide (a < c))) s) :
  wpAny (model prog w) A (richCompare .Lt (.int a t) (.int c u)) Q E s :=
 (PyProof.Rows.lt_int h:wpAny (model prog w) A (compareOp .Lt (.int a t) (.int c u)) Q E s)
section
open PySem.SeqAt
open PySem.AutoSeq1 (wpAny_loadPart')
open PySem.MeetsSeq PySem.MeetsSeq2 PySem.MeetsSeq3
theorem tuple_lt_ints (l b:Addr) (items items2:Array Value) (n n2:Nat) (dd dd2:Option Addr) (sl sl2:Array (Option Value)) (ns ms:List Int) (hi:IntsAre items.toList ns) (hj:IntsAre items2.toList ms) :
  Meets (Builtin.«tuple.__lt__» ⟨[.ref l,.ref b],[]⟩)
   (fun _ R s=>s.heap.get? l=some { cls:=.type "tuple",dict:=dd,data:=.seq items n,slots:=sl }/\s.heap.get? b=some { cls:=.type "tuple",dict:=dd2,data:=.seq items2 n2,slots:=sl2 } /\
    R (.ok (.ret (.bool (lexLt ns ms)))) s) :=
 .of_wp fun prog w A R s h=>by
  obtain ⟨hp,g,d,tk,os⟩:=s; obtain ⟨hl,hb,h⟩:=h
  have f2:=AutoSeq1.sub_tuple_tuple
  have z1:items.size=ns.length:=by rw [<- hi.length]; simp
  have z2:items2.size=ms.length:=by rw [<- hj.length]; simp
  wp_walk using wpAny_loadPart' hl,wpAny_loadPart' hb,wpAny_forIn_list _ (fun rest b s'=>b.1=none/\s'=⟨hp,g,d,tk,os⟩/\∃ (vs ws:List Value) (ns' ms':List Int),rest=vs.zip ws /\
   IntsAre vs ns'/\IntsAre ws ms'/\ns'.length + items2.size=ms'.length + items.size/\R (.ok (.ret (.bool (lexLt ns' ms')))) ⟨hp,g,d,tk,os⟩) _
  case turn =>
   rintro ⟨y,x⟩ rest b s' ⟨hb',rfl,vs,ws,ns',ms',hz,hvi,hwi,hlen,hR⟩
   cases hvi with
   | nil=>rw [List.zip_nil_left] at hz; cases hz
   | cons a t hvi' =>
    cases hwi with
    | nil=>rw [List.zip_nil_right] at hz; cases hz
    | cons c u hwi' =>
     rw [List.zip_cons_cons] at hz
     injection hz with hyx hrest
     injection hyx with hy hx
     subst hy hx
     rw [lexLt_cons] at hR
     simp only [List.length_cons] at hlen
     obtain ⟨e,he,hiff⟩:=eqAt_int A.in1 ⟨hp,g,d,tk,os⟩ a t c u
     refine wpAny_bind (he prog w _ _ ?_)
     cases e with
     | true =>
      rw [if_pos (hiff.mp rfl)] at hR
      wp_walk
      exact ⟨rfl,rfl,_,_,_,_,hrest,hvi',hwi',by omega,hR⟩
     | false =>
      rw [if_neg (fun q=>absurd (hiff.mpr q) Bool.false_ne_true)] at hR
      have hri:=rcLt_int A.in1 ⟨hp,g,d,tk,os⟩ a t c u prog w
      wp_walk using hri
      exact ⟨_,rfl,by simpa using hR⟩
  case fin =>
   rintro ⟨b1,b2⟩ s' ⟨hb',rfl,vs,ws,ns',ms',hz,hvi,hwi,hlen,hR⟩
   simp only at hb'
   subst hb'
   have hv:lexLt ns' ms'=decide (items.size < items2.size):=by
    cases hvi with
    | nil =>
     cases hwi with
     | nil =>
      simp only [List.length_nil] at hlen
      rw [lexLt_nil_nil]
      exact (decide_eq_false (by omega)).symm
     | cons c u hw =>
      simp only [List.length_nil,List.length_cons] at hlen
      rw [lexLt_nil_cons]
      exact (decide_eq_true (by omega)).symm
    | cons a t hv =>
     cases hwi with
     | nil =>
      simp only [List.length_nil,List.length_cons] at hlen
      rw [lexLt_cons_nil]
      exact (decide_eq_false (by omega)).symm
     | cons c u hw =>
      rw [List.zip_cons_cons] at hz
      cases hz
   rw [hv] at hR
   wp_walk
   exact ⟨_,rfl,by simpa [Builtin.Tuple.tupleCompareSizes] using hR⟩
  case h =>
   exact ⟨rfl,rfl,items.toList,items2.toList,ns,ms,rfl,hi,hj,by omega,h⟩
end
section
variable {prog:Program} {w:World} {A:Around} {E:Value->Shared->Prop} {s:Shared}
theorem lt_tupInts {l b:Addr} {items items2:Array Value} {ns ms:List Int} {Q:Value->Shared->Prop} (hl:IsTup s.heap l items) (hb:IsTup s.heap b items2) (hi:IntsAre items.toList ns) (hj:IntsAre items2.toList ms)
  (hu:A.units < cLine) (h:Q (.bool (lexLt ns ms)) s):wpAny (model prog w) A (compareOp .Lt (.ref l) (.ref b)) Q E s:=by
 obtain ⟨⟨cls,dd,data,sl⟩,ho,hc,n,hd⟩:=id hl
 obtain ⟨⟨cls2,dd2,data2,sl2⟩,ho2,hc2,n2,hd2⟩:=id hb
 simp only at hc hd hc2 hd2
 subst hc hd hc2 hd2
 exact richCompare_meets_room (op:=.Lt) ⟨_,ho,rfl⟩ ⟨_,ho2,rfl⟩ PySem.F.slot_tuple_lt PySem.F.entry_tuple_lt (PySem.F.args_tuple_lt_2 _ _) (tuple_lt_ints l b items items2 n n2 dd dd2 sl sl2 ns ms hi hj)
  ⟨ho,ho2,show Value.bool (lexLt ns ms) ≠ Value.notImplemented/\Q (.bool (lexLt ns ms)) s from ⟨(fun x=>nomatch x),h⟩⟩ hu
theorem cat_tup {t b:Addr} {vs ws:List Value} {Q:Value->Shared->Prop} (ht:IsTup s.heap t vs.toArray) (hb:IsTup s.heap b ws.toArray) (hv:vs ≠ [])
  (h1:ws=[]->Q (.ref t) s) (h2:ws ≠ []->Q (.ref s.heap.objs.size) { s with heap:=s.heap.push { cls:=.type "tuple",data:=.seq (vs ++ ws).toArray } })
  (hsz:vs.length + ws.length <= sizeLine):wpAny (model prog w) A (binaryOp .Add (.ref t) (.ref b)) Q E s:=by
 obtain ⟨⟨cls,dd,data,sl⟩,ho,hc,n,hd⟩:=id ht
 obtain ⟨⟨cls2,dd2,data2,sl2⟩,ho2,hc2,n2,hd2⟩:=id hb
 simp only at hc hd hc2 hd2
 subst hc hd hc2 hd2
 have e:vs.toArray ++ ws.toArray=(vs ++ ws).toArray:=by simp
 by_cases hw:ws=[]
 ·exact concat_meets ⟨_,ho,rfl⟩ ⟨_,ho2,rfl⟩ noFill_tuple_add seq_tuple_add PySem.F.slot_tuple_add PySem.F.entry_tuple_add (PySem.F.args_tuple_add_2 _ _)
   (tuple_addW1 t b vs.toArray ws.toArray n n2 dd dd2 sl sl2 (by simpa using hv) (by simp [hw])) ⟨ho,ho2,h1 hw⟩
 ·refine concat_meets ⟨_,ho,rfl⟩ ⟨_,ho2,rfl⟩ noFill_tuple_add seq_tuple_add PySem.F.slot_tuple_add PySem.F.entry_tuple_add (PySem.F.args_tuple_add_2 _ _)
   (tuple_addW2 t b vs.toArray ws.toArray n n2 dd dd2 sl sl2 (by simpa using hv) (by simpa using hw) (by rw [List.size_toArray,List.size_toArray]; exact hsz)) ⟨ho,ho2,?_⟩
  rw [e]
  exact h2 hw
noncomputable def sIx (n d:Nat):Option Int->Nat
 | none=>d
 | some v=>if v < 0 then (v + (n:Int)).toNat else min v.toNat n
theorem sIx_le (n d:Nat) (hd:d <= n) (o:Option Int):sIx n d o <= n:=by
 cases o with
 | none=>exact hd
 | some v =>
  show (if v < 0 then (v + (n:Int)).toNat else min v.toNat n) <= n
  by_cases hv:v < 0
  ·rw [if_pos hv]; omega
  ·rw [if_neg hv]; exact Nat.min_le_right _ _
theorem clip_eq (v:Int) (n d:Nat):(if v < 0 then max (v + (n:Int)) 0 else min v (n:Int))=((sIx n d (some v):Nat):Int):=by
 show (if v < 0 then max (v + (n:Int)) 0 else min v (n:Int))=(((if v < 0 then (v + (n:Int)).toNat else min v.toNat n):Nat):Int)
 by_cases hv:v < 0
 ·simp only [if_pos hv]; omega
 ·simp only [if_neg hv]; omega
theorem adjust_gen (lo hi:Option Int) (n:Nat):Builtin.Slice.sliceAdjust lo hi 1 (n:Int)=(((sIx n 0 lo:Nat):Int),((sIx n n hi:Nat):Int)):=by
 have h1:¬ ((1:Int) < 0):=by omega
 unfold Builtin.Slice.sliceAdjust
 simp only [h1,if_false]
 refine Prod.ext ?_ ?_
 ·cases lo with
  | none=>rfl
  | some v=>exact clip_eq v n 0
 ·cases hi with
  | none=>rfl
  | some v=>exact clip_eq v n n
theorem places_gen (i j:Nat):Builtin.Slice.slicePlaces (i:Int) (j:Int) 1=j - i:=by
 unfold Builtin.Slice.slicePlaces
 have h1:(1:Int) > 0:=by omega
 simp only [h1,if_true,Int.ediv_one]
 split <;> omega
theorem slicePart_ {v:Value} {o:Option Int} {Q:Option Int->Shared->Prop} (p:IsPart v o) (h:Q o s):wpAny (model prog w) A (Builtin.Slice.slicePartIndex v) Q E s:=by
 cases p with
 | none=>exact slicePart_none h
 | int i t=>exact slicePart_int h
theorem sliceApplied_gen {sl:Addr} {vl vu:Value} {lo hi:Option Int} {n:Nat} {Q:Int × Int × Nat->Shared->Prop} (hs:s.heap.IsSliceOf sl vl vu .none) (pl:IsPart vl lo) (pu:IsPart vu hi)
  (h:Q (((sIx n 0 lo:Nat):Int),1,sIx n n hi - sIx n 0 lo) s):wpAny (model prog w) A (Builtin.Slice.sliceApplied (.ref sl) (pure (n:Int))) Q E s:=by
 obtain ⟨os,hos,hcs,hds⟩:=id hs
 unfold Builtin.Slice.sliceApplied Builtin.Slice.sliceFields
 refine wpAny_bind (wpAny_bind (wpAny_field hos hds (x:=vl) rfl (wpAny_bind (wpAny_field hos hds (x:=vu) rfl (wpAny_bind (wpAny_field hos hds (x:=.none) rfl (wpAny_pure ?_)))))))
 refine wpAny_bind (slicePart_none ?_)
 show wpAny _ _ (if ((1:Int) == 0)=true then _ else _) _ _ s
 rw [if_neg (by decide)]
 refine wpAny_bind (slicePart_ pl (wpAny_bind (slicePart_ pu (wpAny_bind (wpAny_pure ?_)))))
 show wpAny _ _ (match Builtin.Slice.sliceAdjust lo hi 1 (n:Int) with | (lo,hi)=>pure (lo,(1:Int),Builtin.Slice.slicePlaces lo hi 1)) _ _ s
 rw [adjust_gen lo hi n]
 show wpAny _ _ (pure (((sIx n 0 lo:Nat):Int),(1:Int),Builtin.Slice.slicePlaces ((sIx n 0 lo:Nat):Int) ((sIx n n hi:Nat):Int) 1)) _ _ s
 rw [places_gen]
 exact wpAny_pure h
theorem pick_gen (xs:Array Value) (i k:Nat):((List.range k).filterMap fun (m:Nat)=>xs[((i:Int) + (m:Int) * 1).toNat]?).toArray=((xs.toList.drop i).take k).toArray:=by
 have e:(fun (m:Nat)=>xs[((i:Int) + (m:Int) * 1).toNat]?)=fun m=>xs[i + m]?:=by
  funext m
  have:((i:Int) + (m:Int) * 1).toNat=i + m:=by omega
  rw [this]
 rw [e]
 have:=pick_run xs i k
 rw [List.filterMap_map] at this
 have e2:((fun x=>xs[x]?) ∘ fun x=>i + x)=fun m=>xs[i + m]?:=rfl
 rw [e2] at this
 rw [this]
theorem getItem_tuple_cut {t sl:Addr} {items:Array Value} {vl vu:Value} {lo hi:Option Int} {Q:Value->Shared->Prop} (ht:IsTup s.heap t items) (hs:s.heap.IsSliceOf sl vl vu .none) (pl:IsPart vl lo) (pu:IsPart vu hi)
  (hw:¬ (sIx items.size 0 lo=0/\sIx items.size items.size hi=items.size))
  (h:Q (.ref s.heap.objs.size) { s with heap:=s.heap.push { cls:=.type "tuple",data:=.seq ((items.toList.drop (sIx items.size 0 lo)).take (sIx items.size items.size hi - sIx items.size 0 lo)).toArray } })
  (hsz:items.size <= sizeLine):wpAny (model prog w) A (getItem (.ref t) (.ref sl)) Q E s:=by
 have htake:sizeOk (.seq ((items.toList.drop (sIx items.size 0 lo)).take (sIx items.size items.size hi - sIx items.size 0 lo)).toArray):=by
  show ((items.toList.drop (sIx items.size 0 lo)).take (sIx items.size items.size hi - sIx items.size 0 lo)).toArray.size <= sizeLine
  rw [List.size_toArray,List.length_take,List.length_drop,Array.length_toList]
  omega
 have hj:sIx items.size items.size hi <= items.size:=sIx_le _ _ (Nat.le_refl _) hi
 obtain ⟨os,hos,hcs,hds⟩:=id hs
 have hTs:s.TypeIs (.ref sl) "slice":=⟨os,hos,hcs⟩
 unfold getItem
 try with_reducible refine wpAny_holding ?_
 first | refine wpAny_bind (wpAny_pure ?_) | skip
 refine wpAny_bind (wpAny_sequenceKey ht.typeIs (by decide) ?_)
 refine wpAny_bind (wpAny_callSpecial?_slot (name:=Str.ofString "__getitem__") ht.typeIs PyProof.Rows.slot_tuple_getitem
  (wpAny_call_entry PyProof.Rows.slot_tuple_getitem ht.typeIs entry_tuple_getitem ?_ (args_tuple_getitem _ _)))
 show wpAny _ _ (Builtin.Tuple.tupleItemsOf (.ref t) >>= _) _ _ s
 refine wpAny_bind (tupleItemsOf_ ht ?_)
 refine wpAny_bind (wpAny_typeOf hTs ?_)
 rw [if_pos (by decide)]
 refine wpAny_bind (sliceApplied_gen hs pl pu ?_)
 have hno:¬ ((((sIx items.size 0 lo:Nat):Int) == 0 && (1:Int) == 1 && (sIx items.size items.size hi - sIx items.size 0 lo) == items.size)=true):=by
  intro q
  rw [Bool.and_eq_true,Bool.and_eq_true] at q
  have q1:((sIx items.size 0 lo:Nat):Int)=0:=eq_of_beq q.1.1
  have q2:sIx items.size items.size hi - sIx items.size 0 lo=items.size:=eq_of_beq q.2
  exact hw ⟨by omega,by omega⟩
 show wpAny _ _ (if (((sIx items.size 0 lo:Nat):Int) == 0 && (1:Int) == 1 && (sIx items.size items.size hi - sIx items.size 0 lo) == items.size)=true then _ else _) _ _ s
 rw [if_neg hno,pick_gen]
 first
  | exact wpAny_bind (m:=Builtin.Tuple.tupleExact _) (wpAny_newObj_type (wpAny_pure ⟨_,rfl,wpAny_pure h⟩) htake)
  | exact wpAny_bind (m:=Builtin.Tuple.tupleExact _) (wpAny_newObj_type (wpAny_bind (wpAny_pure (wpAny_pure ⟨_,rfl,wpAny_pure h⟩))) htake)
  | exact wpAny_bind (wpAny_bind (m:=Builtin.Tuple.tupleExact _) (wpAny_newObj_type (wpAny_pure (wpAny_pure ⟨_,rfl,wpAny_pure h⟩)) htake))
  | exact wpAny_bind (wpAny_bind (m:=Builtin.Tuple.tupleExact _) (wpAny_newObj_type (wpAny_pure ⟨_,rfl,wpAny_pure h⟩) htake))
end
end HT
namespace L2
open PySem PySem.Spec PyProof.Rows
noncomputable abbrev TO:=St->Hp->(Option Int->Hp->Prop)->Prop
noncomputable def PO (X:Cx) (e:Option Expr) (t:TO):Prop :=
 ∀ (pins:List (Addr × Obj)) (s:Shared) (σ:St) (H:Hp) (Q:Option Int->Hp->Prop),Inv X pins σ H s->t σ H Q ->
  wpAny (model X.prog X.w) X.A (evalPart e X.env) (fun u s'=>∃ o H',Inv X pins σ H' s'/\IsPart u o/\Q o H') X.xe s
noncomputable def tNoPart:TO:=fun _ H Q=>Q none H
noncomputable def tPart (t:TE):TO:=fun σ H Q=>t σ H fun x H1=>∃ i,x = .int i/\Q (some i) H1
theorem intsAre_of {ns:List Int}:∀ {us:List Value},Vals (ns.map V.int) us->IntsAre us ns:=by
 induction ns with
 | nil=>intro us r; rw [List.map_nil] at r; cases r; exact .nil
 | cons n ns ih =>
  intro us r
  rw [List.map_cons] at r
  cases r with
  | cons r1 r2 =>
   obtain ⟨t,e⟩:=r1
   subst e
   exact .cons n t (ih r2)
section
variable {X:Cx} {e:Expr} {te:TE} {lo hi:Option Expr} {tl th:TO} {pos p2:Pos}
theorem po_none:PO X none tNoPart:=by
 intro pins s σ H Q I h
 rw [evalPart_none]
 exact wpAny_pure ⟨none,H,I,.none,h⟩
theorem po_some (h:PE X e te):PO X (some e) (tPart te):=by
 intro pins s σ H Q I hw
 rw [evalPart_some]
 refine thn (h pins s σ H _ I hw) fun u s1 ⟨x,H1,I1,r1,q1⟩=>?_
 obtain ⟨i,rfl,q⟩:=q1
 obtain ⟨t,rfl⟩:=r1
 exact ⟨some i,H1,I1,.int i t,q⟩
noncomputable def SlR (X:Cx) (r:V->Option Int->Option Int->Hp->VK->Prop):Prop :=
 ∀ (pins:List (Addr × Obj)) (s:Shared) (σ:St) (H:Hp) (x:V) (v vl vu:Value) (lo hi:Option Int) (sl:Addr) (Q:VK),Inv X pins σ H s->RelV x v->s.heap.IsSliceOf sl vl vu .none->IsPart vl lo->IsPart vu hi->r x lo hi H Q ->
  ∃ T id,typeLookup (.type T) "__getitem__" = pure (some (.builtin id))/\s.TypeIs v T/\wpAny (model X.prog X.w) X.A (getItem v (.ref sl)) (EP X pins σ Q) X.xe s
theorem SlR.or {r r':V->Option Int->Option Int->Hp->VK->Prop} (h:SlR X r) (h':SlR X r'):SlR X (fun x lo hi H Q=>r x lo hi H Q\/r' x lo hi H Q):=by
 intro pins s σ H x v vl vu lo hi sl Q I rx hs pl pu q
 rcases q with q | q
 ·exact h pins s σ H x v vl vu lo hi sl Q I rx hs pl pu q
 ·exact h' pins s σ H x v vl vu lo hi sl Q I rx hs pl pu q
noncomputable def tSl (r:V->Option Int->Option Int->Hp->VK->Prop) (te:TE) (tl th:TO):TE:=fun σ H Q=>te σ H fun x H1=>tl σ H1 fun l H2=>th σ H2 fun u H3=>r x l u H3 Q
theorem pe_slice {r:V->Option Int->Option Int->Hp->VK->Prop} (hr:SlR X r) (he:PE X e te) (hl:PO X lo tl) (hu:PO X hi th):PE X (.Subscript e (.Slice lo hi none p2) pos) (tSl r te tl th):=by
 intro pins s σ H Q I h
 refine Subscript_ (thn (he pins s σ H _ I h) fun v s1 ⟨x,H1,I1,r1,q1⟩=>?_)
 refine wpAny_Slice (thn (hl pins s1 σ H1 _ I1 q1) fun vl s2 ⟨l,H2,I2,pl,q2⟩=>thn (hu pins s2 σ H2 _ I2 q2) fun vu s3 ⟨u,H3,I3,pu,q3⟩=>?_)
 rw [evalPart_none]
 refine wpAny_pure ?_
 have I4:Inv X pins σ H3 { s3 with heap:=s3.heap.push { cls:=.type "slice",data:=.fields #[vl,vu,.none] } }:=I3.kept (t':=s3.toks) fun b ob q=>Heap.get?_push_of_some _ q
 obtain ⟨T,id,hT,ht,hg⟩:=hr pins { s3 with heap:=s3.heap.push { cls:=.type "slice",data:=.fields #[vl,vu,.none] } } σ H3 x v vl vu l u s3.heap.objs.size Q I4 r1 (Heap.IsSliceOf.new ..) pl pu q3
 show wpAny (model X.prog X.w) X.A (subscriptTail e (.Slice lo hi none p2) v (.ref s3.heap.objs.size)) (EP X pins σ Q) X.xe { s3 with heap:=s3.heap.push { cls:=.type "slice",data:=.fields #[vl,vu,.none] } }
 exact tail_any (ops:=[.ref s3.heap.objs.size,v]) ht hT hg (by with_unfolding_all rfl)
noncomputable def cutV (xs:List V) (lo hi:Option Int):List V:=(xs.drop (HT.sIx xs.length 0 lo)).take (HT.sIx xs.length xs.length hi - HT.sIx xs.length 0 lo)
theorem cutV_length (xs:List V) (lo hi:Option Int):(cutV xs lo hi).length <= xs.length:=by
 unfold cutV
 rw [List.length_take,List.length_drop]
 omega
noncomputable def rLtT (K:PySem.W.Frag):R2:=fun x y H Q=>∃ a b ns ms,x = .ref a/\y = .ref b/\SqT K H a (ns.map V.int)/\SqT K H b (ms.map V.int)/\Q (.bl (HT.lexLt ns ms)) H
theorem op_ltT (hu:X.A.units < cLine):OpR X (compareOp .Lt) (rLtT X.K):=by
 intro pins s σ H x y v u Q I rx ry h
 obtain ⟨a,b,ns,ms,rfl,rfl,ha,hb,q⟩:=h
 cases rx
 cases ry
 obtain ⟨its,r1,p1,_⟩:=I.tuple ha
 obtain ⟨its2,r2,p2,_⟩:=I.tuple hb
 have i1:IntsAre its.toArray.toList ns:=intsAre_of r1
 have i2:IntsAre its2.toArray.toList ms:=intsAre_of r2
 exact HT.lt_tupInts p1 p2 i1 i2 hu ⟨.bl (HT.lexLt ns ms),H,I,rfl,q⟩
noncomputable def rCatT (K:PySem.W.Frag):R2:=fun x y H Q=>∃ a b xs ys,x = .ref a/\y = .ref b/\SqT K H a xs/\SqT K H b ys/\xs ≠ []/\xs.length + ys.length <= sizeLine /\
 (ys=[]->Q (.ref a) H)/\(ys ≠ []->∀ p,H p=none->Q (.ref p) (upd H p (.tup (xs ++ ys))))
theorem Vals.nil_iff {xs:List V} {us:List Value} (r:Vals xs us):us=[] ↔ xs=[]:=by
 cases r with
 | nil=>simp
 | cons _ _=>simp
theorem op_catT:OpR X (binaryOp .Add) (rCatT X.K):=by
 intro pins s σ H x y v u Q I rx ry h
 obtain ⟨a,b,xs,ys,rfl,rfl,ha,hb,hx,hz,q1,q2⟩:=h
 cases rx
 cases ry
 obtain ⟨its,r1,p1,_⟩:=I.tuple ha
 obtain ⟨its2,r2,p2,_⟩:=I.tuple hb
 refine HT.cat_tup p1 p2 (fun z=>hx (r1.nil_iff.mp z)) (fun z=>⟨.ref a,H,I,rfl,q1 (r2.nil_iff.mp z)⟩) (fun z=>?_) (by rw [<- r1.length,<- r2.length]; exact hz)
 refine ⟨.ref s.heap.objs.size,_,I.laid (t':=s.toks) (o:=.tup (xs ++ ys)) (fun b ob q=>Heap.get?_push_of_some _ q) (Nat.le_refl _) ?_,rfl,q2 (fun w=>z (r2.nil_iff.mpr w)) _ (I.hok.fresh (Nat.le_refl _))⟩
 exact ⟨by rw [List.length_append]; exact hz,_,r1.append r2,IsTup.new _ _⟩
end
end L2
namespace L2
open PySem PySem.Spec PyProof.Rows
noncomputable def ixN (n:Nat) (i:Int):Option Nat:=if 0 <= i then (if i < n then some i.toNat else none) else if -(n:Int) <= i then some (i + n).toNat else none
noncomputable def atI {α:Type} (xs:List α) (i:Int):Option α:=(ixN xs.length i).bind fun j=>xs[j]?
theorem ixN_seq {n:Nat} {i:Int} {j:Nat} (h:ixN n i=some j):seqIndex? i n=some j/\j < n/\-(n:Int) <= i/\i < n:=by
 unfold ixN at h
 by_cases h0:0 <= i
 ·rw [if_pos h0] at h
  by_cases h1:i < n
  ·rw [if_pos h1] at h
   have e:i.toNat=j:=Option.some.inj h
   exact ⟨by rw [seqIndex_of h0 h1,e],by omega,by omega,h1⟩
  ·rw [if_neg h1] at h; cases h
 ·rw [if_neg h0] at h
  by_cases h1 : -(n:Int) <= i
  ·rw [if_pos h1] at h
   have e:(i + n).toNat=j:=Option.some.inj h
   exact ⟨by rw [seqIndex_neg (by omega) h1,e],by omega,h1,by omega⟩
  ·rw [if_neg h1] at h; cases h
theorem atI_get {α:Type} {xs:List α} {i:Int} {v:α} (h:atI xs i=some v):∃ j,seqIndex? i xs.length=some j/\xs[j]? = some v/\j < xs.length/\-(xs.length:Int) <= i/\i < xs.length:=by
 unfold atI at h
 cases e:ixN xs.length i with
 | none=>rw [e] at h; cases h
 | some j =>
  rw [e] at h
  obtain ⟨h1,h2,h3,h4⟩:=ixN_seq e
  exact ⟨j,h1,h,h2,h3,h4⟩
noncomputable def PlainIx (b:Expr):Prop:=∀ o i,subscripted b false o i=operate [o,i] (getItem o i)
noncomputable def IxR (X:Cx) (r:R2):Prop :=
 ∀ (value slice:Expr) (pins:List (Addr × Obj)) (s:Shared) (σ:St) (H:Hp) (x y:V) (v u:Value) (Q:VK),Inv X pins σ H s->RelV x v->RelV y u->r x y H Q ->
  subscripted slice false v u=operate [v,u] (getItem v u)->wpAny (model X.prog X.w) X.A (subscriptTail value slice v u) (EP X pins σ Q) X.xe s
noncomputable def MtR (X:Cx) (id:String) (r:V->List V->Hp->VK->Prop):Prop :=
 ∀ (pins:List (Addr × Obj)) (s:Shared) (σ:St) (H:Hp) (x:V) (xs:List V) (v:Value) (us:List Value) (Q:VK),Inv X pins σ H s->RelV x v->Vals xs us->r x xs H Q ->
  wpAny (model X.prog X.w) X.A (call (.builtin id) (v :: us)) (EP X pins σ Q) X.xe s
section
variable {X:Cx} {a b:Expr} {ta tb:TE} {pos:Pos}
theorem IxR.or {r r':R2} (h:IxR X r) (h':IxR X r'):IxR X (fun x y H Q=>r x y H Q\/r' x y H Q):=by
 intro value slice pins s σ H x y v u Q I rx ry q hs
 rcases q with q | q
 ·exact h value slice pins s σ H x y v u Q I rx ry q hs
 ·exact h' value slice pins s σ H x y v u Q I rx ry q hs
theorem pe_ix {r:R2} (hr:IxR X r) (ha:PE X a ta) (hb:PE X b tb) (hs:PlainIx b):PE X (.Subscript a b pos) (tOp r ta tb):=by
 intro pins s σ H Q I h
 exact Subscript_ (binT ha hb I h fun v u s2 x y H2 I2 rx ry q=>hr a b pins s2 σ H2 x y v u Q I2 rx ry q (hs _ _))
noncomputable def rIxL (K:PySem.W.Frag):R2:=fun x y H Q=>∃ p xs i v,x = .ref p/\y = .int i/\SqL K H p xs/\atI xs i=some v/\Q v H
noncomputable def rIxT (K:PySem.W.Frag):R2:=fun x y H Q=>∃ p xs i v,x = .ref p/\y = .int i/\SqT K H p xs/\atI xs i=some v/\Q v H
noncomputable def rIxS:R2:=fun x y H Q=>∃ z i c,x = .str z/\y = .int i/\z.length <= sizeLine/\atI z.cps.toList i=some c/\Q (.str ⟨#[c]⟩) H
theorem ix_list:IxR X (rIxL X.K):=by
 intro value slice pins s σ H x y v u Q I rx ry h hs
 obtain ⟨p,xs,i,z,rfl,rfl,hq,he,q⟩:=h
 cases rx
 obtain ⟨t,rfl⟩:=ry
 obtain ⟨its,r,pl,hz⟩:=I.list hq
 obtain ⟨j,h1,h2,h3,h4,h5⟩:=atI_get he
 obtain ⟨w,ew,rw'⟩:=r.get h2
 have hl:=r.length
 have hn:=line63
 have fin:EP X pins σ Q w s:=⟨z,H,I,rw',q⟩
 by_cases h0:0 <= i
 ·have hj:i.toNat=j:=by
   rw [seqIndex_of h0 h5] at h1
   exact Option.some.inj h1
  exact item_listR pl.isList h0 (by omega) (by rw [hj]; simpa using ew) fin hs
 ·have hj:(i + (its.toArray.size:Int)).toNat=j:=by
   rw [seqIndex_neg (by omega) h4] at h1
   rw [List.size_toArray,<- hl]
   exact Option.some.inj h1
  exact subscriptTail_builtinR (x:=w) pl.isList.typeIs slot_list_getitem.lookup
   (wpAny_getItem_list_neg (Q:=fun r s'=>r=w/\EP X pins σ Q r s') pl.isList (by omega) (by rw [List.size_toArray] <;> omega) (by omega) (by rw [hj]; simpa using ew) ⟨rfl,fin⟩) hs
theorem ix_tup:IxR X (rIxT X.K):=by
 intro value slice pins s σ H x y v u Q I rx ry h hs
 obtain ⟨p,xs,i,z,rfl,rfl,hq,he,q⟩:=h
 cases rx
 obtain ⟨t,rfl⟩:=ry
 obtain ⟨its,r,pl,hz⟩:=I.tuple hq
 obtain ⟨j,h1,h2,h3,h4,h5⟩:=atI_get he
 obtain ⟨w,ew,rw'⟩:=r.get h2
 have hl:=r.length
 have hn:=line63
 have fin:EP X pins σ Q w s:=⟨z,H,I,rw',q⟩
 exact subscriptTail_builtinR (x:=w) pl.typeIs slot_tuple_getitem.lookup
  (getItem_tuple (j:=j) (Q:=fun r s'=>r=w/\EP X pins σ Q r s') pl (by omega) (by omega) (by rw [List.size_toArray,<- hl]; exact h1) (by simpa using ew) ⟨rfl,fin⟩) hs
theorem ix_str:IxR X rIxS:=by
 intro value slice pins s σ H x y v u Q I rx ry h hs
 obtain ⟨z,i,c,rfl,rfl,hz,he,q⟩:=h
 obtain ⟨t,rfl⟩:=rx
 obtain ⟨t',rfl⟩:=ry
 obtain ⟨j,h1,h2,h3,h4,h5⟩:=atI_get he
 have hl:z.cps.toList.length=z.length:=by simp [Str.length]
 rw [hl] at h1 h4 h5
 have hn:=line63
 exact tail_any (typeIs_str s z t) slot_str_getitem.lookup (getItem_str (c:=c) (by
  have e1:decide (i < -(2 ^ 63:Int))=false:=decide_eq_false (by omega)
  have e2:decide (i ≥ 2 ^ 63)=false:=decide_eq_false (by omega)
  rw [e1,e2,Bool.or_false]) (by rw [h1]; simpa using h2) ⟨.str ⟨#[c]⟩,H,I.tok _,⟨_,rfl⟩,q⟩) hs
noncomputable def rIx (K:PySem.W.Frag):R2:=fun x y H Q=>rIxL K x y H Q\/rIxT K x y H Q\/rIxS x y H Q
theorem ix_seq:IxR X (rIx X.K):=ix_list.or (ix_tup.or ix_str)
theorem slice_bounds (lo hi:Option Int) (n:Nat):(sliceBounds lo hi none n).1=((HT.sIx n 0 lo:Nat):Int)/\(sliceBounds lo hi none n).2.1=((HT.sIx n n hi:Nat):Int)/\(sliceBounds lo hi none n).2.2=1:=by
 refine ⟨?_,?_,rfl⟩
 ·cases lo with
  | none=>simp [sliceBounds,HT.sIx]
  | some i =>
   simp only [sliceBounds,HT.sIx,Option.getD_none,show (1:Int) > 0 by decide,if_true]
   by_cases h:i < 0
   ·simp only [h,if_true] <;> omega
   ·simp only [h,if_false] <;> omega
 ·cases hi with
  | none=>simp [sliceBounds,HT.sIx]
  | some i =>
   simp only [sliceBounds,HT.sIx,Option.getD_none,show (1:Int) > 0 by decide,if_true]
   by_cases h:i < 0
   ·simp only [h,if_true] <;> omega
   ·simp only [h,if_false] <;> omega
theorem slicePick_cut (its:List Value) (lo hi:Option Int):slicePick its.toArray lo hi none=((its.drop (HT.sIx its.length 0 lo)).take (HT.sIx its.length its.length hi - HT.sIx its.length 0 lo)).toArray:=by
 obtain ⟨h1,h2,h3⟩:=slice_bounds lo hi its.toArray.size
 unfold slicePick
 rw [h1,h2,h3]
 simp only [sliceRange_one,pick_run,List.size_toArray] <;> rfl
noncomputable def rSlL (K:PySem.W.Frag):V->Option Int->Option Int->Hp->VK->Prop:=fun x lo hi H Q=>∃ a xs,x = .ref a/\SqL K H a xs/\∀ p,H p=none->Q (.ref p) (upd H p (.lst (cutV xs lo hi)))
theorem sl_list:SlR X (rSlL X.K):=by
 intro pins s σ H x v vl vu lo hi sl Q I rx hs pl pu h
 obtain ⟨a,xs,rfl,hx,q⟩:=h
 cases rx
 obtain ⟨its,r,ht,hz⟩:=I.list hx
 have hlen:=r.length
 refine ⟨"list",_,slot_list_getitem.lookup,ht.isList.typeIs,?_⟩
 refine wpAny_getItem_list_slice ht.isList hs pl pu .none (by simp) ?_ (by rw [List.size_toArray] <;> omega)
 rw [slicePick_cut,<- hlen]
 refine ⟨.ref s.heap.objs.size,_,I.laid (t':=s.toks) (o:=.lst (cutV xs lo hi)) (fun b ob q=>Heap.get?_push_of_some _ q) (Nat.le_refl _) ?_,rfl,q _ (I.hok.fresh (Nat.le_refl _))⟩
 exact ⟨Nat.le_trans (cutV_length xs lo hi) hz,_,0,(r.drop (HT.sIx xs.length 0 lo)).take (HT.sIx xs.length xs.length hi - HT.sIx xs.length 0 lo),Heap.get?_push_size _ rfl⟩
theorem call_len_seq:CallR X (.builtin "len") (fun xs H Q=>∃ p ys,xs=[.ref p]/\(SqL X.K H p ys\/SqT X.K H p ys)/\Q (.int ys.length) H):=by
 intro pins s σ H xs us Q I r h
 obtain ⟨p,ys,rfl,hq,q⟩:=h
 obtain ⟨u,rfl,rx⟩:=vals1 r
 cases rx
 have hn:=line63
 rcases hq with hq | hq
 ·obtain ⟨its,r',pl,hz⟩:=I.list hq
  have hlen:=r'.length
  exact Calls.call_len_list pl.isList (by simp only [List.size_toArray] <;> omega) ⟨.int ys.length,H,I.tok _,⟨s.toks + 1,by rw [List.size_toArray,hlen]⟩,q⟩
 ·obtain ⟨its,r',pl,hz⟩:=I.tuple hq
  have hlen:=r'.length
  exact len_tuple pl (by simp only [List.size_toArray] <;> omega) ⟨.int ys.length,H,I.tok _,⟨s.toks + 1,by rw [List.size_toArray,hlen]⟩,q⟩
theorem CallR.or {f:Value} {r r':List V->Hp->VK->Prop} (h:CallR X f r) (h':CallR X f r'):CallR X f (fun xs H Q=>r xs H Q\/r' xs H Q):=by
 intro pins s σ H xs us Q I rs q
 rcases q with q | q
 ·exact h pins s σ H xs us Q I rs q
 ·exact h' pins s σ H xs us Q I rs q
theorem call_list_of:CallR X (.type "list") (fun xs H Q=>∃ p ys,xs=[.ref p]/\(SqL X.K H p ys\/SqT X.K H p ys)/\∀ l,H l=none->Q (.ref l) (upd H l (.lst ys))):=by
 intro pins s σ H xs us Q I r h
 obtain ⟨p,ys,rfl,hq,q⟩:=h
 obtain ⟨u,rfl,rx⟩:=vals1 r
 cases rx
 have fin:∀ (its:List Value),Vals ys its->ys.length <= sizeLine->∀ (h':Heap) (c':Nat),(∀ b o',s.heap.get? b=some o'->h'.get? b=some o') ->
   h'.get? s.heap.objs.size=some { cls:=.type "list",dict:=none,data:=.seq its.toArray c',slots:=#[] }->EP X pins σ Q (.ref s.heap.objs.size) { s with heap:=h' }:=fun its r' hz h' c' kp e =>
  ⟨.ref s.heap.objs.size,_,I.laid (t':=s.toks) kp (Nat.le_refl _) (show ObjOk X.prog X.w _ h' _ (.lst ys) from ⟨hz,its,c',r',e⟩),rfl,q _ (I.hok.fresh (Nat.le_refl _))⟩
 rcases hq with hq | hq
 ·obtain ⟨its,r',pl,hz⟩:=I.list hq
  have hlen:=r'.length
  obtain ⟨o,ho,hc,n,hd⟩:=pl.isList
  exact call_list_seq p (.inl rfl) ho hc hd (fun h' c' kp e=>fin its r' hz h' c' kp e) (by simp only [List.size_toArray] <;> omega)
 ·obtain ⟨its,r',pl,hz⟩:=I.tuple hq
  have hlen:=r'.length
  obtain ⟨o,ho,hc,n,hd⟩:=pl
  exact call_list_seq p (.inr rfl) ho hc hd (fun h' c' kp e=>fin its r' hz h' c' kp e) (by simp only [List.size_toArray] <;> omega)
theorem call_tuple_of:CallR X (.type "tuple") (fun xs H Q=>∃ p ys,xs=[.ref p]/\((SqL X.K H p ys/\∀ l,H l=none->Q (.ref l) (upd H l (.tup ys)))\/(SqT X.K H p ys/\Q (.ref p) H))):=by
 intro pins s σ H xs us Q I r h
 obtain ⟨p,ys,rfl,h⟩:=h
 obtain ⟨u,rfl,rx⟩:=vals1 r
 cases rx
 rcases h with ⟨hq,q⟩ | ⟨hq,q⟩
 ·obtain ⟨its,r',pl,hz⟩:=I.list hq
  have hlen:=r'.length
  refine call_tuple_list pl.isList (fun h' kp=>?_) (by simp only [List.size_toArray] <;> omega)
  have I1:Inv X pins σ H { s with heap:=h' }:=I.kept (t':=s.toks) kp
  have I2:Inv X pins σ (upd H h'.objs.size (.tup ys)) { s with heap:=h'.push { cls:=.type "tuple",data:=.seq its.toArray } } :=
   I1.laid (t':=s.toks) (fun b o e=>Heap.get?_push_of_some _ e) (Nat.le_refl _) (show ObjOk X.prog X.w _ _ _ (.tup ys) from ⟨hz,its,r',IsTup.new _ _⟩)
  exact ⟨.ref h'.objs.size,_,I2,rfl,q _ (I1.hok.fresh (Nat.le_refl _))⟩
 ·obtain ⟨its,r',pl,hz⟩:=I.tuple hq
  exact call_tuple_same pl ⟨.ref p,H,I,rfl,q⟩
noncomputable def tyV (K:PySem.W.Frag) (T:String) (x:V) (H:Hp):Prop:=match x with
 | .str _=>T = "str"
 | .int _=>T = "int"
 | .ref p=>(T = "list"/\∃ xs,SqL K H p xs)\/(T = "tuple"/\∃ o,K.lookup p=some o/\o.cls = .type "tuple"/\o.dict=none) \/
   (T = "dict"/\((∃ kvs,H p=some (.dK kvs))\/∃ kvs,H p=some (.dT kvs)))\/(T = "set"/\∃ S n,H p=some (.set S n))
 | _=>False
theorem tyV_is {pins:List (Addr × Obj)} {σ:St} {H:Hp} {s:Shared} {T:String} {x:V} {v:Value} (I:Inv X pins σ H s) (r:RelV x v) (ty:tyV X.K T x H) :
  s.TypeIs v T/\∀ a,v = .ref a->∃ ob,s.heap.get? a=some ob/\ob.dict=none:=by
 cases x with
 | str z =>
  obtain ⟨t,rfl⟩:=r
  cases (show T = "str" from ty)
  exact ⟨typeIs_str s z t,fun _ e=>nomatch e⟩
 | int i =>
  obtain ⟨t,rfl⟩:=r
  cases (show T = "int" from ty)
  exact ⟨typeIs_int s i t,fun _ e=>nomatch e⟩
 | ref p =>
  cases r
  rcases ty with ⟨rfl,xs,hq⟩ | ⟨rfl,o,hk,hc,hd⟩ | ⟨rfl,hk⟩ | ⟨rfl,S,n,hk⟩
  ·obtain ⟨its,_,pl,_⟩:=I.list hq
   refine ⟨pl.isList.typeIs,fun a e=>?_⟩
   cases e
   obtain ⟨o,n,e,c,hd,_⟩:=pl
   exact ⟨o,e,hd⟩
  ·refine ⟨⟨o,I.kIn p o hk,hc⟩,fun a e=>?_⟩
   cases e
   exact ⟨o,I.kIn _ o hk,hd⟩
  ·have z:∃ o,s.heap.get? p=some o/\o.ExactDict:=by
    rcases hk with ⟨kvs,hk⟩ | ⟨kvs,hk⟩
    ·obtain ⟨_,_,_,_,o,_,_,e,ex,_⟩:=I.hok p _ hk
     exact ⟨o,e,ex⟩
    ·obtain ⟨_,_,_,_,o,_,_,e,ex,_⟩:=I.hok p _ hk
     exact ⟨o,e,ex⟩
   obtain ⟨o,e,ex⟩:=z
   refine ⟨⟨o,e,ex.1⟩,fun a e2=>?_⟩
   cases e2
   exact ⟨o,e,ex.2.1⟩
  ·obtain ⟨o,_,_,_,e,ex,_⟩:=I.hok p _ hk
   refine ⟨⟨o,e,ex.1⟩,fun a e2=>?_⟩
   cases e2
   exact ⟨o,e,ex.2.1⟩
 | _=>exact False.elim ty
noncomputable def tBM (K:PySem.W.Frag) (T:String) (r:V->List V->Hp->VK->Prop) (to:TE) (t:TA):TE:=fun σ H Q=>to σ H fun x H1=>tyV K T x H1/\t σ H1 fun xs H2=>r x xs H2 Q
variable {o e:Expr} {es:List Expr} {to:TE} {t:TA} {name:Str} {apos cpos:Pos} {T id:String} {r:V->List V->Hp->VK->Prop}
theorem pe_bm (pa:PlainAttrs T) (slot:Slot T name id) (hty:typeOf (.builtin id)=pure (.type "method_descriptor")) (hm:MtR X id r) (ho:PE X o to) (ha:PA X (e :: es) t)
  (hbase:attributeBase o name X.env (eval o X.env)=eval o X.env:=by rfl)
  (hfew:((backTo cpos (starEach (e :: es) X.env)).all (fun x=>!x.1) && (backToKw cpos (keywordEach [] X.env)).all (fun x=>x.1.isSome)
   && decide ((e :: es).length + ([]:List Keyword).length + (if ([]:List Keyword).isEmpty then 0 else 1) < 30))=true:=by rfl)
  (hline:(apos.endLine == cpos.line)=true:=by rfl) (hs:starEach (e :: es) X.env=(false,eval e X.env) :: starEach es X.env:=by rfl) (hplain:(backTo cpos (starEach es X.env)).any (·.1)=false:=by rfl) :
  PE X (.Call (.Attribute o name apos) (e :: es) [] cpos) (tBM X.K T r to t):=by
 intro pins s σ H Q I h
 refine wpAny_Call_method_late hbase hfew hline rfl (thn (ho pins s σ H _ I h) fun v s1 ⟨x,H1,I1,r1,ty,q1⟩=>?_)
 obtain ⟨h1,h2⟩:=tyV_is I1 r1 ty
 refine ⟨T,id,pa,slot,hty,h1,h2,?_⟩
 have hA:=ha cpos pins s1 σ H1 _ I1 q1
 rw [hs] at hA ⊢
 refine Calls.callWith_builtin (by show (false || (backTo cpos (starEach es X.env)).any (·.1))=false; rw [hplain] <;> rfl) (Calls.evalArgs_plain ?_)
 exact thn hA fun us s2 ⟨vs,H2,I2,r2,q2⟩=>hm pins s2 σ H2 x vs v us Q I2 r1 r2 q2
end
end L2
namespace L2
open PySem PySem.Spec PyProof.Rows
noncomputable def MtM (X:Cx) (id:String) (r:V->List V->Hp->VK->Prop):Prop :=
 ∀ (pins:List (Addr × Obj)) (s:Shared) (σ:St) (H:Hp) (x:V) (xs:List V) (v:Value) (us:List Value) (Q:VK),Inv X pins σ H s->RelV x v->Vals xs us->r x xs H Q ->
  wpAny (model X.prog X.w) X.A (call (.builtin id) (v :: us)) (EP X pins σ Q) X.xe s
theorem Vals.one:∀ {x:V} {us:List Value},Vals [x] us->∃ u,us=[u]/\RelV x u
 | _,_,.cons r .nil=>⟨_,rfl,r⟩
theorem Vals.reverse {xs:List V} {us:List Value} (h:Vals xs us):Vals xs.reverse us.reverse:=by
 induction h with
 | nil=>exact .nil
 | cons r t ih=>rw [List.reverse_cons,List.reverse_cons]; exact Vals.append ih (.cons r .nil)
theorem Vals.rep {xs:List V} {us:List Value} (h:Vals xs us):∀ k:Nat,Vals (List.replicate k xs).flatten (List.replicate k us).flatten
 | 0=>.nil
 | k + 1=>by
  rw [List.replicate_succ,List.replicate_succ,List.flatten_cons,List.flatten_cons]
  exact Vals.append h (Vals.rep h k)
theorem foldl_rep (its:List Value):∀ (k:Nat) (acc:List Value),
  List.foldl (fun x1 x2=>x1 ++ x2) acc.toArray (List.replicate k its.toArray)=(acc ++ (List.replicate k its).flatten).toArray
 | 0,acc=>by simp
 | k + 1,acc=>by
  have e:acc.toArray ++ its.toArray=(acc ++ its).toArray:=by simp
  have e2:(acc ++ its) ++ (List.replicate k its).flatten=acc ++ (List.replicate (k + 1) its).flatten:=by
   rw [List.replicate_succ,List.flatten_cons,List.append_assoc]
  rw [<- e2,<- foldl_rep its k (acc ++ its),<- e,List.replicate_succ,List.foldl_cons]
section
variable {X:Cx} {pins:List (Addr × Obj)} {σ:St} {H:Hp} {s:Shared} {l b:Addr} {xs ys zs:List V}
theorem Inv.lset {its its':List Value} {n:Nat} {f:Array Value->Array Value} {t':Nat} (I:Inv X pins σ H s) (hH:H l=some (.lst xs))
  (e:s.heap.get? l=some { cls:=.type "list",data:=.seq its.toArray n }) (hf:f its.toArray=its'.toArray) (hv:Vals ys its') (hz:ys.length <= sizeLine) :
  Inv X pins σ (upd H l (.lst ys)) { s with heap:=s.heap.update l (Obj.mapSeq f),toks:=t' }:=by
 have q:=PySem.IsL.update e f
 rw [hf] at q
 refine I.write (x:=l) (e:=l) (by rw [hH]; exact trivial) (.inl rfl) (fun b' u hb hu=>(Heap.get?_update_other s.heap (Obj.mapSeq f) (Ne.symm hb)).trans hu) ⟨_,q⟩ ?_
 exact ⟨hz,its',_,hv,q⟩
theorem Inv.lnew {its:List Value} {t':Nat} (I:Inv X pins σ H s) (hv:Vals ys its) (hz:ys.length <= sizeLine) :
  Inv X pins σ (upd H s.heap.objs.size (.lst ys)) { s with heap:=s.heap.push { cls:=.type "list",data:=.seq its.toArray },toks:=t' } :=
 I.laid (fun _ _ q=>Heap.get?_push_of_some _ q) (Nat.le_refl _) ⟨hz,its,0,hv,Heap.get?_push_size _ rfl⟩
theorem Inv.fresh (I:Inv X pins σ H s):H s.heap.objs.size=none:=I.hok.fresh (Nat.le_refl _)
theorem Inv.lstM (I:Inv X pins σ H s) (hH:H l=some (.lst xs)):xs.length <= sizeLine/\∃ (its:List Value) (n:Nat),Vals xs its/\xs.length=its.length/\s.heap.get? l=some { cls:=.type "list",data:=.seq its.toArray n }:=by
 obtain ⟨z,its,n,r,e⟩:=I.hok l _ hH
 exact ⟨z,its,n,r,r.length,e⟩
theorem notLongL {n:Nat} (h:n <= sizeLine):Builtin.List.listTooLong n=false:=by
 unfold Builtin.List.listTooLong
 exact decide_eq_false (by omega)
end
section
variable {X:Cx}
noncomputable def rAppend:V->List V->Hp->VK->Prop:=fun x vs H Q=>∃ l xs y,x = .ref l/\vs=[y]/\H l=some (.lst xs)/\xs.length < sizeLine/\Q .non (upd H l (.lst (xs ++ [y])))
theorem mt_append:MtM X "list.append" rAppend:=by
 intro pins s σ H x vs v us Q I rx rv h
 obtain ⟨l,xs,y,rfl,rfl,hH,hz,q⟩:=h
 cases rx
 obtain ⟨u,rfl,ru⟩:=rv.one
 obtain ⟨z,its,n,r,hl,e⟩:=I.lstM hH
 refine call_meets F.slot_list_append ⟨_,e,rfl⟩ F.entry_list_append (F.args_list_append_2 _ _) (PySem.list_append l its.toArray n u (by rw [List.size_toArray]; omega)) ⟨e,?_⟩
 refine ⟨.non,_,I.lset (its':=its ++ [u]) hH e (by simp) (r.append (.cons ru .nil)) ?_,rfl,q⟩
 rw [List.length_append,List.length_singleton]
 omega
noncomputable def rCat:R2:=fun x y H Q=>∃ l b xs zs,x = .ref l/\y = .ref b/\H l=some (.lst xs)/\H b=some (.lst zs)/\xs.length + zs.length <= sizeLine/\∀ p,H p=none->Q (.ref p) (upd H p (.lst (xs ++ zs)))
theorem op_cat:OpR X (binaryOp .Add) rCat:=by
 intro pins s σ H x y v u Q I rx ry h
 obtain ⟨l,b,xs,zs,rfl,rfl,hH,hB,hz,q⟩:=h
 cases rx
 cases ry
 obtain ⟨z,its,n,r,hl,e⟩:=I.lstM hH
 obtain ⟨z2,its2,n2,r2,hl2,e2⟩:=I.lstM hB
 refine PySem.P.add_list e e2 ?_ (by rw [List.size_toArray,List.size_toArray]; omega)
 have ea:its.toArray ++ its2.toArray=(its ++ its2).toArray:=by simp
 rw [ea]
 exact ⟨.ref _,_,I.lnew (t':=s.toks) (r.append r2) (by rw [List.length_append]; omega),rfl,q _ I.fresh⟩
noncomputable def rRep:R2:=fun x y H Q=>∃ l k xs,x = .ref l/\y = .int k/\H l=some (.lst xs)/\-(2 ^ 63) <= k/\k < 2 ^ 63/\xs.length * k.toNat <= sizeLine /\
 ∀ p,H p=none->Q (.ref p) (upd H p (.lst (List.replicate k.toNat xs).flatten))
theorem len_rep {α:Type} (xs:List α) (k:Nat):(List.replicate k xs).flatten.length=k * xs.length:=by
 induction k with
 | zero=>simp
 | succ k ih=>rw [List.replicate_succ,List.flatten_cons,List.length_append,ih,Nat.succ_mul,Nat.add_comm]
theorem op_rep:OpR X (binaryOp .Mult) rRep:=by
 intro pins s σ H x y v u Q I rx ry h
 obtain ⟨l,k,xs,rfl,rfl,hH,h1,h2,hz,q⟩:=h
 cases rx
 obtain ⟨t,rfl⟩:=ry
 obtain ⟨z,its,n,r,hl,e⟩:=I.lstM hH
 have hlen:its.toArray.size * k.toNat <= sizeLine:=by rw [List.size_toArray,<- hl]; exact hz
 have hcap:¬ its.toArray.size * k.toNat > (2 ^ 63 - 1) / 8:=by
  have:(sizeLine:Nat) <= (2 ^ 63 - 1) / 8:=by decide
  omega
 have hfit:¬ (!Builtin.List.listFitsIndex k)=true:=by
  rw [fitsIndex_both h1 h2]
  exact Bool.false_ne_true
 have hlong:¬ Builtin.List.listTooLong (its.toArray.size * k.toNat)=true:=by
  rw [notLongL hlen]
  exact Bool.false_ne_true
 have hnew:List.foldl (fun x1 x2=>x1 ++ x2) #[] (List.replicate (if its.toArray.isEmpty=true then 0 else k.toNat) its.toArray)=(List.replicate k.toNat its).flatten.toArray:=by
  have f0:∀ m:Nat,List.foldl (fun x1 x2=>x1 ++ x2) #[] (List.replicate m its.toArray)=(List.replicate m its).flatten.toArray:=fun m=>by
   have:=foldl_rep its m []
   rw [List.nil_append] at this
   exact this
  rw [f0]
  cases its with
  | nil=>simp
  | cons a r'=>rw [if_neg (by simp)]
 refine wpAny_binaryOp_repeat_ref (T:="list") (U:="int") (by decide) ⟨_,e,rfl⟩ (fun s'=>typeIs_int s' k t) noFill_list_mul F.fills_int_mul F.slot_int_rmul repeat_list F.slot_int_index.lookup
  (call_meets F.slot_int_rmul (typeIs_int s k t) F.entry_int_rmul (F.args_int_rmul_2 _ _) (int___rmul___int_list k t l its.toArray n)
   ⟨e,rfl,⟨_,e,rfl⟩,call_meets F.slot_list_mul ⟨_,e,rfl⟩ F.entry_list_mul (F.args_list_mul_2 _ _) (AutoListH.list___mul___list_int_3 l its.toArray n k t hfit hcap hlong) ⟨e,?_⟩⟩)
 rw [hnew]
 exact ⟨.ref _,_,I.lnew (t':=s.toks) (r.rep k.toNat) (by rw [len_rep,Nat.mul_comm]; exact hz),rfl,q _ I.fresh⟩
end
section
variable {prog:Program} {w:World} {A:Around} {E:Value->Shared->Prop} {s:Shared}
end
section
variable {X:Cx}
end
end L2
namespace Att
open PySem PySem.W PySem.Calls PyProof.Rows
theorem ints_of_wellAll {P:Params} {h:Heap}:∀ (ns:List Int) (vs:List Value),WellAll P h vs (ns.map WData.int)->IntsAre vs ns:=by
 intro ns
 induction ns with
 | nil =>
  intro vs w
  rw [List.map_nil] at w
  cases w
  exact .nil
 | cons n ns ih =>
  intro vs w
  rw [List.map_cons] at w
  cases w with
  | cons a b =>
   cases a
   exact .cons _ _ (ih _ b)
theorem script_of {l:OpenLaw} {n:Nat} (hn:l.most=some n) {P:Params} {h:Heap} {args:List WData} {vals:List Value}
  (hpre:l.row.toRowW.claim.pre args=true) (hwl:WellAll P h vals args) :
  ∃ a vs ns,vals=[Value.ref a]/\args=[WData.list (ns.map WData.int)]/\h.get? a=some { cls:=.type "list",data:=.seq vs.toArray }/\IntsAre vs ns/\ns.length <= n:=by
 have hsh:WShape.hasAll [] args [.list .int]=true:=(pre_splitW hpre).1
 have hc:l.pre.holds [] { args:=args }=true:=(pre_splitW hpre).2
 obtain ⟨d,r,rfl,h1,h2⟩:=hasAllW_cons hsh
 obtain rfl:=hasAllW_nil h2
 obtain ⟨xs,rfl,h3⟩:=hasW_list h1
 obtain ⟨ns,rfl⟩:=items_int h3
 have hlen:ns.length <= n:=by
  unfold OpenLaw.pre at hc
  have h4:(WTm.not (.lt (.lit (.int (n:Int))) (.len (.arg 0)))).holds [] { args:=[.list (ns.map .int)] }=true:=by
   have h4:=(holds_andW hc).1
   rw [hn] at h4
   exact h4
  have h5:=condW_of h4 (w_not (w_lt w_lit (w_len_list (w_arg rfl))))
  rw [List.length_map] at h5
  refine Nat.le_of_not_lt fun q=>?_
  have q':(n:Int) < ((ns.length:Nat):Int):=by omega
  first
   | (rw [decide_eq_true q'] at h5; exact absurd h5 (by decide))
   | (simp at h5; omega)
 cases hwl with
 | cons w1 w2 =>
  cases w2
  cases w1 with
  | list ho hall=>exact ⟨_,_,ns,rfl,rfl,ho,ints_of_wellAll ns _ hall,hlen⟩
theorem post_true (l:OpenLaw) (args:List WData):l.row.toRowW.claim.post args (.bool true) args=true :=
 postW_of (r:=l.row.toRowW) (X:=(true == true))
  (show WShape.has [] (.bool true) .bool=true by first | rfl | decide | simp [WShape.has,WShape.arms,WShape.armsAll])
  (show (WTm.eq .res (.lit (.bool true))).value [] { args:=args,res:=some (.bool true),after:=args }=some (.bool (true == true)) from w_eq_bool (w_res rfl) w_lit) rfl
theorem attach_call {l:OpenLaw} {n:Nat} {q:Program} {loose:List Str} {XP:(Str->Option Value)->Heap->Prop} {YP:World->Heap->Prop} {d:DefRec}
  (hn:l.most=some n) (hdf:d.params.defaults=[])
  (call:∀ (w:World) (s₀ s₁:Shared) (mg mb:Str->Option Value) (fa:Addr) (o:Obj) (pm cd doc:Value) (a:Addr) (vs:List Value) (ns:List Int),
   Ground q loose [] XP w s₀ mg mb s₁.heap->YP w s₁.heap ->
   s₁.heap.get? fa=some o->o.data = .func (docDef d.name d.params d.body d.scope pm cd doc)->s₁.heap.CodeRec cd d.name->mg d.name=some (.ref fa) ->
   s₁.heap.get? a=some { cls:=.type "list",data:=.seq vs.toArray }->IntsAre vs ns->ns.length <= n->s₁.gens = #[] ->
   codeAny (model l.prog w) callerA (.call (.ref fa) ⟨[.ref a],[]⟩) (fun r s'=>r = .ok (.ret (.bool true))/\OldK s₁.heap s'.heap/\s'.os=s₁.os/\AllBare s'.gens) s₁) :
  WalkO q loose XP YP l.row.toRowW d [] (fun f vs=>PySem.call f vs):=by
 intro w s₀ s₁ mg mb G Y fa o pm cd doc dV kV ho hd hcd hD hmg hg args vals as hpre hlay hrd hwl hlo
 obtain rfl:dV = .none:=Dflts.none hD hdf
 obtain rfl:kV = .none:=Dflts.noKw hD
 obtain ⟨a,vs,ns,rfl,rfl,hobj,hints,hlen⟩:=script_of hn hpre hwl
 refine enter_call (codeAny_mono (call w s₀ s₁ mg mb fa o pm cd doc a vs ns G Y ho (fd_plain hd) hcd hmg hobj hints hlen hg) fun r s' hq=>?_)
 obtain ⟨rfl,h2,h3,h4⟩:=hq
 exact ⟨.inl ⟨.bool true,.bool true,[],rfl,fun _=>rfl,.bool true,post_true l _,fun _=>⟨List.Pairwise.nil,fun _ hm=>(nomatch hm)⟩⟩,h2,h3,h4⟩
section
variable {prog:Program} {w:World} {A:Around} {E:Value->Shared->Prop} {s:Shared} {K:Frag}
noncomputable def ledger (h:Heap) (L d:Addr):List (Addr × Obj):=(List.range h.objs.size).filterMap fun a=>if a=L\/a=d then none else (h.get? a).map fun o=>(a,o)
end
end Att
namespace L2
open PySem PySem.Spec PyProof.Rows
theorem vals_ints:∀ {vs:List Value} {ns:List Int},IntsAre vs ns->Vals (ns.map V.int) vs
 | _,_,.nil=>.nil
 | _,_,.cons n t h=>.cons ⟨t,rfl⟩ (vals_ints h)
noncomputable def Only (H:Hp):Prop:=∀ b,H b=none\/∃ o xs,H b=some (.frz o (.lst xs))
theorem law_call {P:Program} {w:World} {K:PySem.W.Frag} {mg mb:Str->Option Value} {CX:CXT} {k:Nat} {fa a:Addr} {fd:FuncData} {x:Str} {sp:Sp} {s₁:Shared} {vs:List Value} {ns:List Int}
  (KX:K.In s₁.heap) (hns:s₁.heap.Ns mainGlobals mg) (hb:s₁.heap.Ns builtinsNs mb) (hbb:∀ x:Str,x ≠ "__name__"->mb x=bootBuiltins x) (hlim:s₁.heap.NoLimit) (hg:s₁.gens = #[])
  (ha:s₁.heap.get? a=some { cls:=.type "list",data:=.seq vs.toArray }) (hi:IntsAre vs ns) (hl:ns.length <= sizeLine) (hr:Room k callerA)
  (F:∀ base:Heap,K.In base->base.Ns mainGlobals mg->FnOk P w K mg base CX k fa fd [x] sp) (hbind:∀ (s:Shared) (u:Value),BindsTo s fd ⟨[u],[]⟩ [(x,u)])
  (hsp:∀ H:Hp,Only H->SqL K H a (ns.map V.int)->sp [.ref a] H (fun v _=>v = .bl true) fun _ _ _=>False)
  (hCX:∀ H e s',CX [] H s₁ (fun _ _ _=>False) e s'->False) :
  codeAny (model P w) callerA (.call (.ref fa) ⟨[.ref a],[]⟩) (fun r s'=>r = .ok (.ret (.bool true))/\OldK s₁.heap s'.heap/\s'.os=s₁.os/\AllBare s'.gens) s₁:=by
 have rv:=vals_ints hi
 have lenV:=hi.length
 have core:∀ H:Hp,Only H->SqL K H a (ns.map V.int)->HOk P w H s₁.heap->(∀ b,H b ≠ none->b=a)->(H a ≠ none->K.lookup a=none) ->
   codeAny (model P w) callerA (.call (.ref fa) ⟨[.ref a],[]⟩) (fun r s'=>r = .ok (.ret (.bool true))/\OldK s₁.heap s'.heap/\s'.os=s₁.os/\AllBare s'.gens) s₁:=by
  intro H hO hS hok hA hK
  have base_of:∀ {b:Addr} {o:Obj},s₁.heap.get? b=some o->H b=none->(hidT s₁.heap H).get? b=some o:=fun e n=>hidT_get e n
  have noA:∀ {b:Addr} {o:Obj} {es:Array DictEntry} {ep:Nat},s₁.heap.get? b=some o->o.data = .dict es ep->H b=none:=fun {b o es ep} e d=>by
   cases q:H b with
   | none=>rfl
   | some u =>
    have e':b=a:=hA b (by rw [q]; simp)
    subst e'
    rw [ha] at e; cases e
    have d':Data.seq vs.toArray _=Data.dict es ep:=d
    cases d'
  have nsK:∀ {b:Addr} {m:Str->Option Value},s₁.heap.Ns b m->(hidT s₁.heap H).Ns b m:=fun {b m} ⟨o,es,ep,e,d,r⟩=>⟨o,es,ep,base_of e (noA e d),d,r⟩
  have hKb:K.In (hidT s₁.heap H):=fun b o e=>base_of (KX b o e) (by
   cases q:H b with
   | none=>rfl
   | some u =>
    have e':b=a:=hA b (by rw [q]; simp)
    subst e'
    rw [hK (by rw [q]; simp)] at e; cases e)
  have hM:Mod K mg (hidT s₁.heap H):=⟨hKb,nsK hns,⟨mb,nsK hb,hbb⟩,let ⟨mc,h1,h2⟩:=hlim; ⟨mc,nsK h1,h2⟩⟩
  have e0:Env0 P w K mg (hidT s₁.heap H) callerA [] s₁ H:=⟨rfl,hM,fun b o e=>of_hidT e,Nat.le_of_eq (hidT_size _ _),trivial,fun b hb=>absurd (show b ∈ ([]:List Addr) from hb) (by simp),hok,.of_eq hg⟩
  refine codeAny_mono ((F _ hKb (nsK hns)).run callerA [] s₁ H ⟨[.ref a],[]⟩ [.ref a] [.ref a] _ _ hr e0 (hbind s₁ (.ref a)) (.cons rfl .nil) (hsp H hO hS)) fun r s' h=>?_
  cases r with
  | error e=>exact (hCX H e s' h).elim
  | ok fl =>
   cases fl with
   | next=>exact False.elim h
   | brk=>exact False.elim h
   | cont=>exact False.elim h
   | ret u =>
    obtain ⟨v,H',os,bare,un,hok',r',q⟩:=h
    have q':v = .bl true:=q
    subst q'
    obtain rfl:u=Value.bool true:=r'
    refine ⟨rfl,OldK.of_keep fun b o e=>?_,os,bare⟩
    cases q:H b with
    | none=>exact un.keep b o e q (by intro z; exact absurd (show b ∈ ([]:List Addr) from z) (by simp)) (by simp)
    | some u =>
     rcases hO b with z | ⟨ob,xs,z⟩
     ·rw [q] at z; cases z
     ·have z2:=un.frzs b ob _ z
      obtain ⟨e1,_⟩:=hok b _ z
      obtain ⟨e2,_⟩:=hok' b _ z2
      rw [e] at e1; cases e1
      exact e2
 cases hk:K.lookup a with
 | some o =>
  have e:=KX a o hk
  rw [ha] at e
  cases e
  refine core (fun _=>none) (fun _=>.inl rfl) (.inr ⟨_,vs.toArray,_,hk,rfl,rfl,rfl,by rw [List.size_toArray,lenV]; exact hl,by simpa using rv⟩) (fun b u z=>by have z':(none:Option HO)=some u:=z; cases z') (fun b z=>absurd rfl z) fun z=>absurd rfl z
 | none =>
  refine core (fun b=>if b=a then some (.frz { cls:=.type "list",data:=.seq vs.toArray } (.lst (ns.map V.int))) else none) (fun b=>?_) (.inl (.inr ⟨{ cls:=.type "list",data:=.seq vs.toArray },if_pos rfl⟩)) (fun b u z=>?_) (fun b z=>?_) fun _=>hk
  ·by_cases hb:b=a
   ·exact .inr ⟨_,_,if_pos hb⟩
   ·exact .inl (if_neg hb)
  ·by_cases hb:b=a
   ·have z':=(if_pos hb).symm.trans z
    cases z'
    subst hb
    exact ⟨ha,by rw [List.length_map]; exact hl,vs,_,rv,ha⟩
   ·have z':=(if_neg hb).symm.trans z
    cases z'
  ·by_cases hb:b=a
   ·exact hb
   ·exact absurd (if_neg hb) z
end L2
namespace L2
open PySem PySem.Spec PyProof.Rows
theorem walk_of {l:PySem.W.OpenLaw} {n k:Nat} {q:Program} {loose:List Str} {XP:(Str->Option Value)->Heap->Prop} {YP:World->Heap->Prop} {d:DefRec} {K:Params->PySem.W.Frag} {CX:World->CXT} {sp:World->Sp} {x:Str}
  (hn:l.most=some n) (hn2:n <= sizeLine) (hdf:d.params.defaults=[]) (hr:Room k callerA)
  (hY:∀ (w:World) (h:Heap),YP w h->(K w.params).In h)
  (F:∀ (w:World) (mg:Str->Option Value) (fa:Addr) (h:Heap),(K w.params).In h->h.Ns mainGlobals mg->mg d.name=some (.ref fa) ->
   ∃ fd:FuncData,(∀ (s:Shared) (u:Value),BindsTo s fd ⟨[u],[]⟩ [(x,u)]) /\
    ∀ base:Heap,(K w.params).In base->base.Ns mainGlobals mg->FnOk l.prog w (K w.params) mg base (CX w) k fa fd [x] (sp w))
  (hsp:∀ (w:World) (H:Hp) (a:Addr) (ns:List Int),ns.length <= n->Only H->SqL (K w.params) H a (ns.map V.int)->sp w [.ref a] H (fun v _=>v = .bl true) fun _ _ _=>False)
  (hCX:∀ (w:World) (H:Hp) (s:Shared) (e:Value) (s':Shared),CX w [] H s (fun _ _ _=>False) e s'->False) :
  PySem.W.WalkO q loose XP YP l.row.toRowW d [] (fun f vs=>PySem.call f vs):=by
 refine Att.attach_call hn hdf fun w s₀ s₁ mg mb fa o pm cd doc a vs ns G Y ho hd hcd hmg hobj hints hlen hg=>?_
 have KX:=hY w _ Y
 obtain ⟨fd,hb,hF⟩:=F w mg fa _ KX G.T.g hmg
 exact law_call KX G.T.g G.T.b G.T.builtins G.T.nolimit hg hobj hints (Nat.le_trans hlen hn2) hr hF hb (fun H hO hS=>hsp w H a ns hlen hO hS) fun H e s'=>hCX w H s₁ e s'
end L2
namespace L2
open PySem PySem.Spec PyProof.Rows
noncomputable def defArgs (s:Stmt):Arguments:=match s with
 | .FunctionDef _ a _ _ _ _ _ _ _ _=>a
 | _=>{ posonlyargs:=[],args:=[],vararg:=none,kwonlyargs:=[],kw_defaults:=[],kwarg:=none,defaults:=[] }
noncomputable def defBody (s:Stmt):List Stmt:=match s with
 | .FunctionDef _ _ b _ _ _ _ _ _ _=>b
 | _=>[]
noncomputable def defScope (s:Stmt):Scope:=match s with
 | .FunctionDef _ _ _ _ _ _ sc _ _ _=>sc
 | _=>{ kind:=.function,names:=[],isGenerator:=false,isCoroutine:=false }
structure Fun (K:PySem.W.Frag) (x qual:Str) (st:Stmt) (f:Addr) (fd:FuncData):Prop where
 ex:∃ (oc:Value) (od:Option Addr) (kV doc pm:Value) (an:Option Addr) (cdv ct:Value) (osl:Array (Option Value)),
  fd=PySem.W.fnOf x qual (defArgs st) (defBody st) (defScope st) .none kV doc pm an cdv ct/\K.lookup f=some ⟨oc,od,.func fd,osl⟩/\PySem.W.codeIn K cdv qual=true
 kp:PySem.W.keepIn K (.ref f)=true
section
variable {P:Program} {w:World} {K:PySem.W.Frag} {mg:Str->Option Value} {base:Heap}
theorem Fun.binds {x qual:Str} {st:Stmt} {f:Addr} {fd:FuncData} {ps:List Str} (F:Fun K x qual st f fd)
  (h:∀ (kV doc pm:Value) (an:Option Addr) (cdv ct:Value) (us:List Value),us.length=ps.length->bindArgs (PySem.W.fnOf x qual (defArgs st) (defBody st) (defScope st) .none kV doc pm an cdv ct) ⟨us,[]⟩=pure (ps.zip us)):Binds K fd ps []:=by
 obtain ⟨oc,od,kV,doc,pm,an,cdv,ct,osl,rfl,lk,hcd⟩:=F.ex
 exact .all (h kV doc pm an cdv ct)
theorem fun_mk {x qual:Str} {st:Stmt} {f:Addr} {oc:Value} {od an:Option Addr} {osl:Array (Option Value)} {kV doc pm cdv ct:Value} (l:K.lookup f=some ⟨oc,od,.func (PySem.W.fnOf x qual (defArgs st) (defBody st) (defScope st) .none kV doc pm an cdv ct),osl⟩)
  (c:PySem.W.codeIn K cdv qual=true) (k:PySem.W.keepIn K (.ref f)=true):Fun K x qual st f (PySem.W.fnOf x qual (defArgs st) (defBody st) (defScope st) .none kV doc pm an cdv ct):=⟨⟨oc,od,kV,doc,pm,an,cdv,ct,osl,rfl,l,c⟩,k⟩
end
section
variable {X:Cx}
end
noncomputable def Same (H H':Hp):Prop:=∀ b o,H b=some o->H' b=some o
theorem Same.refl (H:Hp):Same H H:=fun _ _ h=>h
theorem Same.trans {H H1 H2:Hp} (a:Same H H1) (b:Same H1 H2):Same H H2:=fun c o h=>b c o (a c o h)
theorem Same.free {H H':Hp} (e:Same H H') {l:Addr} (h:H' l=Option.none):H l=Option.none:=by
 cases q:H l with
 | none=>rfl
 | some o =>
  rw [e l o q] at h
  cases h
end L2
set_option maxHeartbeats 4000000
namespace HT
open PySem PyProof.Rows
noncomputable def lexLe:List Int->List Int->Bool
 | [],_=>true
 | _ :: _,[]=>false
 | x :: xs,y :: ys=>if x=y then lexLe xs ys else decide (x <= y)
theorem lexLe_cons (x y:Int) (xs ys:List Int):lexLe (x :: xs) (y :: ys)=if x=y then lexLe xs ys else decide (x <= y):=rfl
theorem rcLe_int (A:Around) (s:Shared) (a:Int) (t:Tok) (c:Int) (u:Tok) (prog:Program) (w:World) (E:Value->Shared->Prop) (Q:Value->Shared->Prop) (h:Q (.bool (decide (a <= c))) s) :
  wpAny (model prog w) A (richCompare .LtE (.int a t) (.int c u)) Q E s :=
 (PyProof.Rows.le_int h:wpAny (model prog w) A (compareOp .LtE (.int a t) (.int c u)) Q E s)
section
open PySem.SeqAt
open PySem.AutoSeq1 (wpAny_loadPart')
open PySem.MeetsSeq PySem.MeetsSeq2 PySem.MeetsSeq3
theorem tuple_le_ints (l b:Addr) (items items2:Array Value) (n n2:Nat) (dd dd2:Option Addr) (sl sl2:Array (Option Value)) (ns ms:List Int) (hi:IntsAre items.toList ns) (hj:IntsAre items2.toList ms) :
  Meets (Builtin.«tuple.__le__» ⟨[.ref l,.ref b],[]⟩)
   (fun _ R s=>s.heap.get? l=some { cls:=.type "tuple",dict:=dd,data:=.seq items n,slots:=sl }/\s.heap.get? b=some { cls:=.type "tuple",dict:=dd2,data:=.seq items2 n2,slots:=sl2 } /\
    R (.ok (.ret (.bool (lexLe ns ms)))) s) :=
 .of_wp fun prog w A R s h=>by
  obtain ⟨hp,g,d,tk,os⟩:=s; obtain ⟨hl,hb,h⟩:=h
  have f2:=AutoSeq1.sub_tuple_tuple
  have z1:items.size=ns.length:=by rw [<- hi.length]; simp
  have z2:items2.size=ms.length:=by rw [<- hj.length]; simp
  wp_walk using wpAny_loadPart' hl,wpAny_loadPart' hb,wpAny_forIn_list _ (fun rest b s'=>b.1=none/\s'=⟨hp,g,d,tk,os⟩/\∃ (vs ws:List Value) (ns' ms':List Int),rest=vs.zip ws /\
   IntsAre vs ns'/\IntsAre ws ms'/\ns'.length + items2.size=ms'.length + items.size/\R (.ok (.ret (.bool (lexLe ns' ms')))) ⟨hp,g,d,tk,os⟩) _
  case turn =>
   rintro ⟨y,x⟩ rest b s' ⟨hb',rfl,vs,ws,ns',ms',hz,hvi,hwi,hlen,hR⟩
   cases hvi with
   | nil=>rw [List.zip_nil_left] at hz; cases hz
   | cons a t hvi' =>
    cases hwi with
    | nil=>rw [List.zip_nil_right] at hz; cases hz
    | cons c u hwi' =>
     rw [List.zip_cons_cons] at hz
     injection hz with hyx hrest
     injection hyx with hy hx
     subst hy hx
     rw [lexLe_cons] at hR
     simp only [List.length_cons] at hlen
     obtain ⟨e,he,hiff⟩:=eqAt_int A.in1 ⟨hp,g,d,tk,os⟩ a t c u
     refine wpAny_bind (he prog w _ _ ?_)
     cases e with
     | true =>
      rw [if_pos (hiff.mp rfl)] at hR
      wp_walk
      exact ⟨rfl,rfl,_,_,_,_,hrest,hvi',hwi',by omega,hR⟩
     | false =>
      rw [if_neg (fun q=>absurd (hiff.mpr q) Bool.false_ne_true)] at hR
      have hri:=rcLe_int A.in1 ⟨hp,g,d,tk,os⟩ a t c u prog w
      wp_walk using hri
      exact ⟨_,rfl,by simpa using hR⟩
  case fin =>
   rintro ⟨b1,b2⟩ s' ⟨hb',rfl,vs,ws,ns',ms',hz,hvi,hwi,hlen,hR⟩
   simp only at hb'
   subst hb'
   have hv:lexLe ns' ms'=decide (items.size <= items2.size):=by
    cases hvi with
    | nil =>
     simp only [List.length_nil] at hlen
     have e:lexLe [] ms'=true:=by cases ms' <;> rfl
     rw [e]
     exact (decide_eq_true (by omega)).symm
    | cons a t hv =>
     cases hwi with
     | nil =>
      simp only [List.length_nil,List.length_cons] at hlen
      show false=_
      exact (decide_eq_false (by omega)).symm
     | cons c u hw =>
      rw [List.zip_cons_cons] at hz
      cases hz
   rw [hv] at hR
   wp_walk
   exact ⟨_,rfl,by simpa [Builtin.Tuple.tupleCompareSizes] using hR⟩
  case h =>
   exact ⟨rfl,rfl,items.toList,items2.toList,ns,ms,rfl,hi,hj,by omega,h⟩
end
section
variable {prog:Program} {w:World} {A:Around} {E:Value->Shared->Prop} {s:Shared}
theorem le_tupInts {l b:Addr} {items items2:Array Value} {ns ms:List Int} {Q:Value->Shared->Prop} (hl:IsTup s.heap l items) (hb:IsTup s.heap b items2) (hi:IntsAre items.toList ns) (hj:IntsAre items2.toList ms)
  (hu:A.units < cLine) (h:Q (.bool (lexLe ns ms)) s):wpAny (model prog w) A (compareOp .LtE (.ref l) (.ref b)) Q E s:=by
 obtain ⟨⟨cls,dd,data,sl⟩,ho,hc,n,hd⟩:=id hl
 obtain ⟨⟨cls2,dd2,data2,sl2⟩,ho2,hc2,n2,hd2⟩:=id hb
 simp only at hc hd hc2 hd2
 subst hc hd hc2 hd2
 exact richCompare_meets_room (op:=.LtE) ⟨_,ho,rfl⟩ ⟨_,ho2,rfl⟩ PySem.F.slot_tuple_le PySem.F.entry_tuple_le (PySem.F.args_tuple_le_2 _ _) (tuple_le_ints l b items items2 n n2 dd dd2 sl sl2 ns ms hi hj)
  ⟨ho,ho2,show Value.bool (lexLe ns ms) ≠ Value.notImplemented/\Q (.bool (lexLe ns ms)) s from ⟨(fun x=>nomatch x),h⟩⟩ hu
theorem cat_tup0 {t b:Addr} {ws:List Value} {Q:Value->Shared->Prop} (ht:IsTup s.heap t #[]) (hb:IsTup s.heap b ws.toArray) (h1:Q (.ref b) s):wpAny (model prog w) A (binaryOp .Add (.ref t) (.ref b)) Q E s:=by
 obtain ⟨⟨cls,dd,data,sl⟩,ho,hc,n,hd⟩:=id ht
 obtain ⟨⟨cls2,dd2,data2,sl2⟩,ho2,hc2,n2,hd2⟩:=id hb
 simp only at hc hd hc2 hd2
 subst hc hd hc2 hd2
 exact concat_meets ⟨_,ho,rfl⟩ ⟨_,ho2,rfl⟩ noFill_tuple_add seq_tuple_add PySem.F.slot_tuple_add PySem.F.entry_tuple_add (PySem.F.args_tuple_add_2 _ _)
   (tuple_addW0 t b #[] ws.toArray n n2 dd dd2 sl sl2 (by simp)) ⟨ho,ho2,h1⟩
theorem getItem_tuple_all {t sl:Addr} {items:Array Value} {vl vu:Value} {lo hi:Option Int} {Q:Value->Shared->Prop} (ht:IsTup s.heap t items) (hs:s.heap.IsSliceOf sl vl vu .none) (pl:IsPart vl lo) (pu:IsPart vu hi)
  (h1:sIx items.size 0 lo=0) (h2:sIx items.size items.size hi=items.size)
  (h:Q (.ref t) s):wpAny (model prog w) A (getItem (.ref t) (.ref sl)) Q E s:=by
 obtain ⟨os,hos,hcs,hds⟩:=id hs
 have hTs:s.TypeIs (.ref sl) "slice":=⟨os,hos,hcs⟩
 obtain ⟨ot,hot,hct,hdt⟩:=id ht
 unfold getItem
 try with_reducible refine wpAny_holding ?_
 first | refine wpAny_bind (wpAny_pure ?_) | skip
 refine wpAny_bind (wpAny_sequenceKey ht.typeIs (by decide) ?_)
 refine wpAny_bind (wpAny_callSpecial?_slot (name:=Str.ofString "__getitem__") ht.typeIs PyProof.Rows.slot_tuple_getitem
  (wpAny_call_entry PyProof.Rows.slot_tuple_getitem ht.typeIs entry_tuple_getitem ?_ (args_tuple_getitem _ _)))
 show wpAny _ _ (Builtin.Tuple.tupleItemsOf (.ref t) >>= _) _ _ s
 refine wpAny_bind (tupleItemsOf_ ht ?_)
 refine wpAny_bind (wpAny_typeOf hTs ?_)
 rw [if_pos (by decide)]
 refine wpAny_bind (sliceApplied_gen hs pl pu ?_)
 have hyes:(((sIx items.size 0 lo:Nat):Int) == 0 && (1:Int) == 1 && (sIx items.size items.size hi - sIx items.size 0 lo) == items.size)=true:=by
  rw [h1,h2]; simp
 show wpAny _ _ (if (((sIx items.size 0 lo:Nat):Int) == 0 && (1:Int) == 1 && (sIx items.size items.size hi - sIx items.size 0 lo) == items.size)=true then _ else _) _ _ s
 rw [if_pos hyes]
 unfold Builtin.Tuple.tupleIsExact
 refine wpAny_bind (wpAny_bind (wpAny_typeOf ht.typeIs (wpAny_pure ?_)))
 rw [if_pos (by decide)]
 exact wpAny_bind (wpAny_rule (wpAny_pure ⟨_,rfl,wpAny_pure h⟩))
theorem rev_adjust (n:Nat):Builtin.Slice.sliceAdjust none none (-1) (n:Int)=((n:Int) - 1,-1):=by
 unfold Builtin.Slice.sliceAdjust
 rfl
theorem rev_places (n:Nat):Builtin.Slice.slicePlaces ((n:Int) - 1) (-1) (-1)=n:=by
 unfold Builtin.Slice.slicePlaces
 rw [if_neg (by decide)]
 by_cases h:n=0
 ·subst h; rfl
 ·rw [if_pos (by omega)]
  have e:((n:Int) - 1 - -1 - 1) / (- -1) + 1=n:=by
   rw [show (- -1:Int)=1 by decide,Int.ediv_one]; omega
  rw [e]; simp
theorem rev_pick (xs:Array Value):((List.range xs.size).filterMap fun (m:Nat)=>xs[(((xs.size:Int) - 1) + (m:Int) * (-1)).toNat]?)=xs.toList.reverse:=by
 apply List.ext_getElem?
 intro i
 have key:∀ n,n <= xs.size->((List.range n).filterMap fun (m:Nat)=>xs[(((xs.size:Int) - 1) + (m:Int) * (-1)).toNat]?)=xs.toList.reverse.take n:=by
  intro n
  induction n with
  | zero=>intro _; simp
  | succ n ih =>
   intro hn
   rw [List.range_succ,List.filterMap_append,ih (by omega),List.take_add_one]
   congr 1
   have e:(((xs.size:Int) - 1) + (n:Int) * (-1)).toNat=xs.size - 1 - n:=by omega
   simp only [List.filterMap_cons,List.filterMap_nil,e]
   rw [List.getElem?_reverse (by rw [Array.length_toList]; omega)]
   have e2:xs.toList.length - 1 - n=xs.size - 1 - n:=by simp
   rw [e2,Array.getElem?_toList]
   have hlt:xs.size - 1 - n < xs.size:=by omega
   rw [Array.getElem?_eq_getElem hlt]
   rfl
 rw [key xs.size (Nat.le_refl _),List.take_of_length_le (by simp)]
theorem sliceApplied_rev {sl:Addr} {u:Tok} {n:Nat} {Q:Int × Int × Nat->Shared->Prop} (hs:s.heap.IsSliceOf sl .none .none (.int (-1) u))
  (h:Q ((n:Int) - 1,-1,n) s):wpAny (model prog w) A (Builtin.Slice.sliceApplied (.ref sl) (pure (n:Int))) Q E s:=by
 obtain ⟨os,hos,hcs,hds⟩:=id hs
 unfold Builtin.Slice.sliceApplied Builtin.Slice.sliceFields
 refine wpAny_bind (wpAny_bind (wpAny_field hos hds (x:=.none) rfl (wpAny_bind (wpAny_field hos hds (x:=.none) rfl (wpAny_bind (wpAny_field hos hds (x:=.int (-1) u) rfl (wpAny_pure ?_)))))))
 refine wpAny_bind (slicePart_int ?_)
 show wpAny _ _ (if ((-1:Int) == 0)=true then _ else _) _ _ s
 rw [if_neg (by decide)]
 refine wpAny_bind (slicePart_none (wpAny_bind (slicePart_none (wpAny_bind (wpAny_pure ?_)))))
 show wpAny _ _ (match Builtin.Slice.sliceAdjust none none (-1) (n:Int) with | (lo,hi)=>pure (lo,(-1:Int),Builtin.Slice.slicePlaces lo hi (-1))) _ _ s
 rw [rev_adjust n]
 show wpAny _ _ (pure ((n:Int) - 1,(-1:Int),Builtin.Slice.slicePlaces ((n:Int) - 1) (-1) (-1))) _ _ s
 rw [rev_places]
 exact wpAny_pure h
theorem getItem_tuple_rev {t sl:Addr} {items:Array Value} {u:Tok} {Q:Value->Shared->Prop} (ht:IsTup s.heap t items) (hs:s.heap.IsSliceOf sl .none .none (.int (-1) u))
  (h:Q (.ref s.heap.objs.size) { s with heap:=s.heap.push { cls:=.type "tuple",data:=.seq items.toList.reverse.toArray } })
  (hsz:items.size <= sizeLine):wpAny (model prog w) A (getItem (.ref t) (.ref sl)) Q E s:=by
 have htake:sizeOk (.seq items.toList.reverse.toArray):=by
  show items.toList.reverse.toArray.size <= sizeLine
  rw [List.size_toArray,List.length_reverse,Array.length_toList]
  omega
 obtain ⟨os,hos,hcs,hds⟩:=id hs
 have hTs:s.TypeIs (.ref sl) "slice":=⟨os,hos,hcs⟩
 unfold getItem
 try with_reducible refine wpAny_holding ?_
 first | refine wpAny_bind (wpAny_pure ?_) | skip
 refine wpAny_bind (wpAny_sequenceKey ht.typeIs (by decide) ?_)
 refine wpAny_bind (wpAny_callSpecial?_slot (name:=Str.ofString "__getitem__") ht.typeIs PyProof.Rows.slot_tuple_getitem
  (wpAny_call_entry PyProof.Rows.slot_tuple_getitem ht.typeIs entry_tuple_getitem ?_ (args_tuple_getitem _ _)))
 show wpAny _ _ (Builtin.Tuple.tupleItemsOf (.ref t) >>= _) _ _ s
 refine wpAny_bind (tupleItemsOf_ ht ?_)
 refine wpAny_bind (wpAny_typeOf hTs ?_)
 rw [if_pos (by decide)]
 refine wpAny_bind (sliceApplied_rev hs ?_)
 show wpAny _ _ (if (((items.size:Int) - 1 == 0 && (-1:Int) == 1 && items.size == items.size))=true then _ else _) _ _ s
 rw [if_neg (by simp)]
 rw [show ((List.range items.size).filterMap fun (k:Nat)=>items[(((items.size:Int) - 1) + (k:Int) * (-1)).toNat]?)=items.toList.reverse from rev_pick items]
 first
  | exact wpAny_bind (m:=Builtin.Tuple.tupleExact _) (wpAny_newObj_type (wpAny_pure ⟨_,rfl,wpAny_pure h⟩) htake)
  | exact wpAny_bind (m:=Builtin.Tuple.tupleExact _) (wpAny_newObj_type (wpAny_bind (wpAny_pure (wpAny_pure ⟨_,rfl,wpAny_pure h⟩))) htake)
  | exact wpAny_bind (wpAny_bind (m:=Builtin.Tuple.tupleExact _) (wpAny_newObj_type (wpAny_pure (wpAny_pure ⟨_,rfl,wpAny_pure h⟩)) htake))
  | exact wpAny_bind (wpAny_bind (m:=Builtin.Tuple.tupleExact _) (wpAny_newObj_type (wpAny_pure ⟨_,rfl,wpAny_pure h⟩) htake))
end
end HT
namespace L2
open PySem PySem.Spec PyProof.Rows
noncomputable def isiT (t T:String):Bool:=decide (t=T) || (decide (t = "bool") && decide (T = "int"))
theorem kit_tab {K:PySem.W.Frag} {t T:String} (ht:t ∈ ["NoneType","bool","int","str","list","tuple","dict"]) (hT:T ∈ ["bool","int","str","list","tuple","dict"]) :
  PySem.W.kitOne K (.type t) (.type T)=some (isiT t T):=by
 simp only [List.mem_cons,List.not_mem_nil,or_false] at ht hT
 rcases ht with rfl | rfl | rfl | rfl | rfl | rfl | rfl <;> rcases hT with rfl | rfl | rfl | rfl | rfl | rfl <;> kernel_rfl
noncomputable def isiOk (t T:String) (b:Bool):Bool:=decide (t ∈ ["NoneType","bool","int","str","list","tuple","dict"]) && decide (T ∈ ["bool","int","str","list","tuple","dict"]) && (isiT t T == b)
theorem kit_ok {K:PySem.W.Frag} {t T:String} {b:Bool} (h:isiOk t T b=true):PySem.W.kitOne K (.type t) (.type T)=some b:=by
 unfold isiOk at h
 rw [Bool.and_eq_true,Bool.and_eq_true] at h
 rw [kit_tab (of_decide_eq_true h.1.1) (of_decide_eq_true h.1.2),eq_of_beq h.2]
theorem same_new {H:Hp} {p:Addr} (h:H p=none) (o:HO):Same H (upd H p o):=fun b u q=>by rw [upd_ne (ne_of_none q h)]; exact q
section
variable {X:Cx}
noncomputable def rIsi (K:PySem.W.Frag):List V->Hp->VK->Prop:=fun xs H Q=>∃ x T t b,xs=[x,.ty T]/\TyOf K H x (.type t)/\isiOk t T b=true/\Q (.bl b) H
theorem call_isi:CallR X (.builtin "isinstance") (rIsi X.K):=by
 intro pins s σ H xs us Q I r h
 obtain ⟨x,T,t,b,rfl,ty,ok,q⟩:=h
 obtain ⟨u,w',rfl,r1,r2⟩:=vals2 r
 obtain rfl:w'=Value.type T:=r2
 exact isinst_ok I r1 ty (kit_ok ok) fun tk=>⟨.bl b,H,I.tok tk,rfl,q⟩
noncomputable def rLeT (K:PySem.W.Frag):R2:=fun x y H Q=>∃ a b ns ms,x = .ref a/\y = .ref b/\SqT K H a (ns.map V.int)/\SqT K H b (ms.map V.int)/\Q (.bl (HT.lexLe ns ms)) H
theorem op_leT (hu:X.A.units < cLine):OpR X (compareOp .LtE) (rLeT X.K):=by
 intro pins s σ H x y v u Q I rx ry h
 obtain ⟨a,b,ns,ms,rfl,rfl,ha,hb,q⟩:=h
 cases rx
 cases ry
 obtain ⟨its,r1,p1,_⟩:=I.tuple ha
 obtain ⟨its2,r2,p2,_⟩:=I.tuple hb
 have i1:IntsAre its.toArray.toList ns:=intsAre_of r1
 have i2:IntsAre its2.toArray.toList ms:=intsAre_of r2
 exact HT.le_tupInts p1 p2 i1 i2 hu ⟨.bl (HT.lexLe ns ms),H,I,rfl,q⟩
theorem op_is_bl:OpR X (compareOp .Is) (fun x y H Q=>∃ b c,x = .bl b/\y = .bl c/\Q (.bl (b == c)) H):=by
 intro pins s σ H x y v u Q I rx ry h
 obtain ⟨b,c,rfl,rfl,q⟩:=h
 cases rx
 cases ry
 exact is_bool (fin_bl I q rfl)
theorem Inv.big' {pins:List (Addr × Obj)} {σ:St} {H:Hp} {s:Shared} (I:Inv X pins σ H s):sysModules < s.heap.objs.size:=by
 have h:mainGlobals < s.heap.objs.size:=(I.mod.glob.keeps I.bk).lt
 exact Nat.lt_trans (by decide) h
noncomputable def tDNew:TE:=fun _ H Q=>∀ p,H p=none->Q (.ref p) (upd H p (.dK []))
theorem pe_dnew {pos:Pos}:PE X (.Dict [] [] pos) tDNew:=fun pins s σ H Q I h =>
 wpAny_Dict_empty ⟨.ref s.heap.objs.size,_,I.laid (a:=s.heap.objs.size) (o:=.dK []) (t':=s.toks) (fun _ _ q=>Heap.get?_push_of_some _ q) (Nat.le_refl _)
  ⟨Nat.zero_le _,beq_eq_false_iff_ne.mpr (Ne.symm (Nat.ne_of_lt I.big')),[],.nil,Heap.DictOf.new s.heap⟩,rfl,h _ (I.hok.fresh (Nat.le_refl _))⟩
end
end L2
namespace L2
open PySem PySem.Spec PyProof.Rows
noncomputable def Butl (l:Addr) (H H':Hp):Prop:=∀ b o,b ≠ l->H b=some o->H' b=some o
theorem Same.sqt {K:PySem.W.Frag} {H H':Hp} {a:Addr} {xs:List V} (e:Same H H') (h:SqT K H a xs):SqT K H' a xs:=by
 rcases h with (h | ⟨o,h⟩) | h
 ·exact .inl (.inl (e _ _ h))
 ·exact .inl (.inr ⟨o,e _ _ h⟩)
 ·exact .inr h
inductive D where
 | non | bl (b:Bool) | int (i:Int) | str (x:Str) | tup (l:List D) | lst (l:List D) | dct
mutual
inductive Rep (H:Hp):V->D->Prop where
 | non:Rep H .non .non
 | bl (b:Bool):Rep H (.bl b) (.bl b)
 | int (i:Int):Rep H (.int i) (.int i)
 | str (x:Str):Rep H (.str x) (.str x)
 | tup {a:Addr} {xs:List V} {ds:List D} (h:H a=some (.tup xs)) (r:Reps H xs ds):Rep H (.ref a) (.tup ds)
 | lst {a:Addr} {xs:List V} {ds:List D} (h:H a=some (.lst xs)) (r:Reps H xs ds):Rep H (.ref a) (.lst ds)
 | dct {a:Addr} (h:H a=some (.dK [])):Rep H (.ref a) .dct
inductive Reps (H:Hp):List V->List D->Prop where
 | nil:Reps H [] []
 | cons {x:V} {d:D} {xs:List V} {ds:List D} (h:Rep H x d) (r:Reps H xs ds):Reps H (x :: xs) (d :: ds)
end
theorem Reps.ints {H:Hp}:∀ {ns:List Int},Reps H (ns.map V.int) (ns.map D.int)
 | []=>.nil
 | n :: ns=>.cons (.int n) Reps.ints
noncomputable def tyD:D->String
 | .non=>"NoneType" | .bl _=>"bool" | .int _=>"int" | .str _=>"str" | .tup _=>"tuple" | .lst _=>"list" | .dct=>"dict"
theorem PE.weaken {X:Cx} {e:Expr} {t t':TE} (h:PE X e t) (imp:∀ σ H Q,t' σ H Q->t σ H Q):PE X e t':=fun pins s σ H Q I q=>h pins s σ H Q I (imp σ H Q q)
theorem OpR.weaken {X:Cx} {f:Value->Value->Sem Value} {r r':R2} (h:OpR X f r) (imp:∀ x y H Q,r' x y H Q->r x y H Q):OpR X f r':=fun pins s σ H x y v u Q I rx ry q=>h pins s σ H x y v u Q I rx ry (imp x y H Q q)
noncomputable def New (H:Hp) (o:HO) (Q:VK):Prop:=∀ p H',Same H H'->H' p=some o->H p=none->Q (.ref p) H'
theorem New.at {H:Hp} {o:HO} {Q:VK} (n:New H o Q) {p:Addr} (hp:H p=none):Q (.ref p) (upd H p o):=n p _ (same_new hp o) upd_same hp
section
variable {X:Cx} {e:Expr} {es:List Expr} {te:TE} {t:TA} {pos:Pos}
noncomputable def tTupA (t:TA):TE:=fun σ H Q=>t σ H fun xs H1=>xs.length <= sizeLine/\New H1 (.tup xs) Q
noncomputable def tLstA (t:TA):TE:=fun σ H Q=>t σ H fun xs H1=>xs.length <= sizeLine/\New H1 (.lst xs) Q
theorem pe_tupA {x1} (h:PA X es t):PE X (.Tuple es x1 pos) (tTupA t):=by
 have h':PA X es (fun σ H Q=>∃ R:List V->Hp->Prop,t σ H R/\∀ xs H',R xs H'->Q xs H'):=by
  intro pos pins s σ H Q I ⟨R,q,imp⟩
  exact thn (h pos pins s σ H R I q) fun us s' ⟨vs,H',I',r,q'⟩=>⟨vs,H',I',r,imp _ _ q'⟩
 exact (pe_tup h').weaken fun σ H Q q=>⟨_,q,fun xs H' ⟨z,n⟩=>⟨z,fun p hp=>n.at hp⟩⟩
theorem pe_lstA (h:PA X es t):PE X (.List es pos) (tLstA t):=by
 have h':PA X es (fun σ H Q=>∃ R:List V->Hp->Prop,t σ H R/\∀ xs H',R xs H'->Q xs H'):=by
  intro pos pins s σ H Q I ⟨R,q,imp⟩
  exact thn (h pos pins s σ H R I q) fun us s' ⟨vs,H',I',r,q'⟩=>⟨vs,H',I',r,imp _ _ q'⟩
 exact (pe_lst h').weaken fun σ H Q q=>⟨_,q,fun xs H' ⟨z,n⟩=>⟨z,fun p hp=>n.at hp⟩⟩
noncomputable def tDNewA:TE:=fun _ H Q=>New H (.dK []) Q
theorem pe_dnewA:PE X (.Dict [] [] pos) tDNewA:=pe_dnew.weaken fun σ H Q n p hp=>n.at hp
noncomputable def rCatL:R2:=fun x y H Q=>∃ l b xs zs,x = .ref l/\y = .ref b/\H l=some (.lst xs)/\H b=some (.lst zs)/\xs.length + zs.length <= sizeLine/\New H (.lst (xs ++ zs)) Q
theorem op_catL:OpR X (binaryOp .Add) rCatL:=op_cat.weaken fun x y H Q ⟨l,b,xs,zs,e1,e2,h1,h2,z,n⟩=>⟨l,b,xs,zs,e1,e2,h1,h2,z,fun p hp=>n.at hp⟩
noncomputable def rAppendA:V->List V->Hp->VK->Prop:=fun x vs H Q=>∃ l xs y,x = .ref l/\vs=[y]/\H l=some (.lst xs)/\xs.length < sizeLine/\∀ H',Butl l H H'->H' l=some (.lst (xs ++ [y]))->Q .non H'
theorem mt_appendA:MtM X "list.append" rAppendA:=fun pins s σ H x xs v us Q I rx rv ⟨l,ys,y,e1,e2,h,z,n⟩ =>
 mt_append pins s σ H x xs v us Q I rx rv ⟨l,ys,y,e1,e2,h,z,n _ (fun b o ne hb=>by rw [upd_ne ne]; exact hb) upd_same⟩
end
end L2
namespace L2
open PySem PySem.Spec PyProof.Rows
section
variable {X:Cx} {a b c:Expr} {ta tb:TE} {tt:TT} {pos:Pos}
end
end L2
namespace L2
open PySem PySem.Spec PyProof.Rows
noncomputable def clOf (scope:Scope) (env:Env):List (Str × Addr):=(scope.names.filterMap fun y=>if y.2 == .free then (env.cells.lookup y.1).map fun c=>(y.1,c) else none).reverse
theorem closure_go (env:Env):∀ (names:List (Str × NameKind)) (acc:List (Str × Addr)),(∀ y ∈ names,y.2 = .free->∃ c,env.cells.lookup y.1=some c) ->
  (forIn names acc fun (x:Str × NameKind) r=>if (x.2 == .free)=true then do let c <- cellOf env x.1; pure (ForInStep.yield ((x.1,c) :: r)) else pure (ForInStep.yield r):Sem (List (Str × Addr))) =
   pure ((names.filterMap fun y=>if y.2 == .free then (env.cells.lookup y.1).map fun c=>(y.1,c) else none).reverse ++ acc)
 | [],acc,_=>rfl
 | (n,k) :: r,acc,h=>by
  rw [List.forIn_cons]
  have ih:=fun acc'=>closure_go env r acc' fun y hy=>h y (List.mem_cons_of_mem _ hy)
  by_cases hk:k = .free
  ·subst hk
   obtain ⟨c,hc⟩:=h (n,.free) List.mem_cons_self rfl
   have hc':env.cells.lookup n=some c:=hc
   simp only [beq_self_eq_true,if_true,cellOf,hc',List.filterMap_cons,Option.map_some,List.reverse_cons,List.append_assoc,List.singleton_append]
   exact ih _
  ·have hb:(k == NameKind.free)=false:=by simpa using hk
   simp only [hb,Bool.false_eq_true,if_false,List.filterMap_cons]
   exact ih _
theorem closureFor_eq {scope:Scope} {env:Env} (h:∀ y ∈ scope.names,y.2 = .free->∃ c,env.cells.lookup y.1=some c):closureFor scope env=pure (clOf scope env):=by
 have e:=closure_go env scope.names [] h
 rw [List.append_nil] at e
 have e2:closureFor scope env=((forIn scope.names ([]:List (Str × Addr)) fun (x:Str × NameKind) r=>if (x.2 == .free)=true then do let c <- cellOf env x.1; pure (ForInStep.yield ((x.1,c) :: r)) else pure (ForInStep.yield r):Sem (List (Str × Addr))) >>= fun r=>pure r):=rfl
 rw [e2,e]
 rfl
theorem clOf_lookup {scope:Scope} {env:Env} {x:Str} {c:Addr} (h:(clOf scope env).lookup x=some c):env.cells.lookup x=some c:=by
 have hm:=PySem.mem_of_lookup h
 unfold clOf at hm
 rw [List.mem_reverse,List.mem_filterMap] at hm
 obtain ⟨y,hy,e⟩:=hm
 split at e
 ·cases q:env.cells.lookup y.1 with
  | none=>rw [q] at e; cases e
  | some c' =>
   rw [q] at e
   have e':=Option.some.inj e
   injection e' with e1 e2
   subst e1 e2
   exact q
 ·cases e
theorem clOf_has {scope:Scope} {env:Env} {x:Str} {c:Addr} (hx:scope.names.lookup x=some .free) (h:env.cells.lookup x=some c):(clOf scope env).lookup x=some c:=by
 have hm:(x,NameKind.free) ∈ scope.names:=PySem.mem_of_lookup hx
 have:(x,c) ∈ clOf scope env:=by
  unfold clOf
  rw [List.mem_reverse,List.mem_filterMap]
  exact ⟨_,hm,by simp [h]⟩
 cases q:(clOf scope env).lookup x with
 | none =>
  exact absurd this (by
   intro hm'
   have:=List.lookup_eq_none_iff.mp q _ hm'
   simp at this)
 | some c' =>
  have:=clOf_lookup q
  rw [h] at this
  exact this.symm ▸ rfl
noncomputable def Cx.block (X:Cx) (scope:Scope) (C:Addr) (N:List Str) (fp:List Addr) (s₀:Shared) (H₀:Hp):Cx :=
  { prog:=X.prog,w:=X.w,K:=X.K,mg:=X.mg,base:=X.base,A:=X.A,N:=N,s₀:=s₀,H₀:=H₀,env:=compEnvC scope (clOf scope X.env) C X.env,outer:=X.stack,stack:=X.stack,ex:=fp,
    fn:=fun _=>false,calm:=X.calm,pn:=[],xe:=fun _ _=>False }
structure BlkNames (X:Cx) (scope:Scope) (N:List Str) (st:St->St) (ks:List Nat):Prop where
 kind:scope.kind = .function
 cell:∀ y ∈ scope.names,y.2 ≠ .cell
 loc:∀ y ∈ scope.names,y.2 = .local->scope.names.lookup y.1=some .local
 free:∀ y ∈ scope.names,y.2 = .free->X.env.kindOf y.1=some .cell\/X.env.kindOf y.1=some .free
 len:∀ σ,(st σ).length=N.length
 val:∀ σ (i:Nat) x v,N[i]? = some x->(st σ)[i]? = some (some v)->scope.names.lookup x=some .free/\i ∉ ks/\∃ j:Nat,X.N[j]? = some x/\σ[j]? = some (some v)
theorem relabel_kind {scope:Scope} {env:Env} {x:Str} (h:(relabel scope env).names.lookup x=some .cell\/(relabel scope env).names.lookup x=some .free) (hc:∀ y ∈ scope.names,y.2 ≠ .cell):scope.names.lookup x=some .free:=by
 have go:∀ names:List (Str × NameKind),(∀ y ∈ names,y.2 ≠ .cell)->((names.map fun (n,k)=>if (k == NameKind.free && env.scope.kind == .function && env.kindOf n == some .cell) then (n,NameKind.cell) else (n,k)).lookup x=some .cell \/
   (names.map fun (n,k)=>if (k == NameKind.free && env.scope.kind == .function && env.kindOf n == some .cell) then (n,NameKind.cell) else (n,k)).lookup x=some .free)->names.lookup x=some .free:=by
  intro names
  induction names with
  | nil=>intro _ h; simp at h
  | cons y r ih =>
   obtain ⟨n,k⟩:=y
   intro hc h
   have hr:=ih fun y hy=>hc y (List.mem_cons_of_mem _ hy)
   have hk:k ≠ .cell:=hc (n,k) List.mem_cons_self
   rw [List.map_cons] at h
   by_cases hx:x == n
   ·rw [List.lookup_cons,hx]
    show some k=some .free
    by_cases hcc:(k == NameKind.free && env.scope.kind == .function && env.kindOf n == some .cell)=true
    ·rw [Bool.and_eq_true,Bool.and_eq_true] at hcc
     rw [eq_of_beq hcc.1.1]
    ·simp only [if_neg hcc,List.lookup_cons,hx] at h
     rcases h with h | h
     ·exact absurd (Option.some.inj h) hk
     ·exact h
   ·have hx':(x == n)=false:=by simpa using hx
    rw [List.lookup_cons,hx']
    refine hr ?_
    by_cases hcc:(k == NameKind.free && env.scope.kind == .function && env.kindOf n == some .cell)=true
    ·simp only [if_pos hcc,List.lookup_cons,hx'] at h
     exact h
    ·simp only [if_neg hcc,List.lookup_cons,hx'] at h
     exact h
 exact go scope.names hc h
theorem relabel_free {scope:Scope} {env:Env} {x:Str} (h:scope.names.lookup x=some .free):(relabel scope env).names.lookup x=some .cell\/(relabel scope env).names.lookup x=some .free:=by
 have go:∀ names:List (Str × NameKind),names.lookup x=some .free->((names.map fun (n,k)=>if (k == NameKind.free && env.scope.kind == .function && env.kindOf n == some .cell) then (n,NameKind.cell) else (n,k)).lookup x=some .cell \/
   (names.map fun (n,k)=>if (k == NameKind.free && env.scope.kind == .function && env.kindOf n == some .cell) then (n,NameKind.cell) else (n,k)).lookup x=some .free):=by
  intro names
  induction names with
  | nil=>intro h; simp at h
  | cons y r ih =>
   obtain ⟨n,k⟩:=y
   intro h
   rw [List.map_cons]
   by_cases hx:x == n
   ·rw [List.lookup_cons,hx] at h
    have hk:k = .free:=Option.some.inj h
    by_cases hcc:(k == NameKind.free && env.scope.kind == .function && env.kindOf n == some .cell)=true
    ·simp only [if_pos hcc,List.lookup_cons,hx]
     exact .inl trivial
    ·simp only [if_neg hcc,List.lookup_cons,hx]
     exact .inr (by rw [hk])
   ·have hx':(x == n)=false:=by simpa using hx
    rw [List.lookup_cons,hx'] at h
    by_cases hcc:(k == NameKind.free && env.scope.kind == .function && env.kindOf n == some .cell)=true
    ·simp only [if_pos hcc,List.lookup_cons,hx']
     exact ih h
    ·simp only [if_neg hcc,List.lookup_cons,hx']
     exact ih h
 exact go scope.names h
section
variable {X:Cx} {pins:List (Addr × Obj)} {σ:St} {H H':Hp} {s:Shared}
theorem Inv.block {scope:Scope} {N:List Str} {st:St->St} {ks:List Nat} {fp:List Addr} {D C:Addr} {o:HO} {h':Heap} {tk:Nat} (I:Inv X pins σ H s) (B:BlkNames X scope N st ks)
  (hfp:∀ b ∈ fp,FpOk X pins H b) (hob:∀ b ∈ fp,∃ ob,s.heap.get? b=some ob)
  (hD:s.heap.objs.size <= D) (hC:s.heap.objs.size <= C) (hDC:D ≠ C) (keep:∀ b u,s.heap.get? b=some u->h'.get? b=some u) (hns:h'.Ns C fun _=>none) (hacc:ObjOk X.prog X.w (upd H D o) h' D o) :
  Inv (X.block scope C N fp s H) [] (st σ) (upd H D o) { s with heap:=h',toks:=tk }:=by
 have hHD:H D=none:=I.hok.fresh hD
 have hcl:∀ x c,(clOf scope X.env).lookup x=some c->X.env.cells.lookup x=some c:=fun x c e=>clOf_lookup e
 have hfresh:∀ b ∈ fp,b < s.heap.objs.size:=fun b hb=>by
  obtain ⟨ob,e⟩:=hob b hb
  exact Heap.lt_size e
 refine ⟨⟨I.mod,?_,I.ok.glob,I.ok.blt,hC,fun x y c e1 e2=>I.ok.inj x y c (hcl x c e1) (hcl y c e2),fun x hx=>?_,fun x c hf=>absurd (show false=true from hf) Bool.false_ne_true,I.ok.hd,I.ok.frames,.inl rfl,fun b hb=>⟨?_,fun x c e z=>?_⟩,
  I.bs,?_,fun b ob e hb=>?_,fun b hb hs=>?_,I.stack,I.stkFree⟩,rfl,I.bare,Un.laid keep hD hHD,⟨_,hns,fun i x v e1 e2 hv=>?_⟩,fun x c e=>?_,?_,fun x c e=>?_,fun p hp=>absurd (show p ∈ ([]:List (Addr × Obj)) from hp) (by simp),I.hok.laid keep hD hacc,B.len σ⟩
 ·show (relabel scope X.env).kind = .function
  exact B.kind
 ·have hfree:=relabel_kind hx B.cell
  obtain ⟨c,hc⟩:=I.ok.has x (B.free (x,.free) (PySem.mem_of_lookup hfree) rfl)
  exact ⟨c,clOf_has hfree hc⟩
 ·exact Nat.ne_of_lt (Nat.lt_of_lt_of_le (hfresh b hb) hC)
 ·exact (hfp b hb).2.2.2.2.1 x c (hcl x c e) z
 ·exact Nat.le_trans I.ok.bsz I.sz
 ·rcases (hfp b hb).2.2.2.1 with z | z
  ·exact I.ok.noex b ob e z
  ·exact absurd (Nat.lt_of_lt_of_le (Heap.lt_size (I.ok.bs b ob e).1) z) (Nat.lt_irrefl _)
 ·rcases List.mem_cons.mp (I.stkSub b hs) with z | z
  ·exact (hfp b hb).2.1 z
  ·exact (hfp b hb).2.2.1 z
 ·obtain ⟨hfree,_,j,f1,f2⟩:=B.val σ i x v e1 e2
  obtain ⟨m,hn,hl⟩:=I.loc
  have hk:=B.free (x,.free) (PySem.mem_of_lookup hfree) rfl
  obtain ⟨u,ru,hu⟩:=hl j x v f1 f2 (hk.elim (fun z=>.inr (.inl z)) fun z=>.inr (.inr z))
  rcases hu with ⟨k,_⟩ | ⟨_,c,ec,ic⟩
  ·rcases hk with z | z
   ·exact absurd (k.symm.trans z) (by decide)
   ·exact absurd (k.symm.trans z) (by decide)
  ·refine ⟨u,ru,.inr ⟨?_,c,clOf_has hfree ec,ic.keeps keep⟩⟩
   rcases hv with z | z | z
   ·have z':(relabel scope X.env).names.lookup x=some .local:=z
    rcases relabel_free (env:=X.env) hfree with y | y
    ·exact absurd (z'.symm.trans y) (by decide)
    ·exact absurd (z'.symm.trans y) (by decide)
   ·exact .inl z
   ·exact .inr z
 ·obtain ⟨v,ic⟩:=I.cell x c (hcl x c e)
  exact ⟨v,ic.keeps keep⟩
 ·show upd H D o C=none
  rw [upd_ne (Ne.symm hDC)]
  exact I.hok.fresh hC
 ·show upd H D o c=none
  obtain ⟨v,ic⟩:=I.cell x c (hcl x c e)
  rw [upd_ne (Nat.ne_of_lt (Nat.lt_of_lt_of_le ic.lt hD))]
  exact I.freeC x c (hcl x c e)
end
section
variable {prog:Program} {w:World} {A:Around} {R:Result->Shared->Prop} {s:Shared}
theorem compLoop_own {elt target iter:Expr} {ifs:List Expr} {scope:Scope} {pos:Pos} {it acc:Value} {env:Env} (I:Nat->Shared->Prop)
  (turn:∀ n s,I n s->wpAny (model prog w) A (pyNext it) (fun r s₁=>match r with
   | none=>R (.ok .next) s₁
   | some v=>wpAny (model prog w) A (letOwnedTupleGo target it v) (fun _ s₁=>wpAny (model prog w) A (assign target env v) (fun _ s₂ =>
     wpAny (model prog w) A (forIn ifs true fun c r=>if r=true then do let ok <- isTrue c env (eval c env); pure (ForInStep.yield ok) else pure (ForInStep.yield r)) (fun ok s₃ =>
      if ok=true then wpAny (model prog w) A (eval elt env) (fun x s₄ =>
       wpAny (model prog w) A (call (.builtin "list.append") [acc,x]) (fun _ s₅=>∃ m,m < n/\I m s₅) (fun _ _=>False) s₄) (fun _ _=>False) s₃
      else ∃ m,m < n/\I m s₃) (fun _ _=>False) s₂) (fun _ _=>False) s₁) (fun _ _=>False) s₁) (fun _ _=>False) s)
  (n:Nat) (h:I n s):codeAny (model prog w) A (.compLoop (.ListComp elt [⟨target,iter,ifs,0⟩] scope pos) 0 it acc env) R s:=by
 refine codeAny_loop rfl I (fun n s hI=>?_) n h
 show wpAny _ A ((compTurn (.ListComp elt [⟨target,iter,ifs,0⟩] scope pos) 0 it acc env).onRaise (fun x=>do noteFrame x env; theTreesLotGoes x)) _ _ s
 refine wpAny_noted ?_
 rw [compTurn_list]
 refine wpAny_bind (wpAny_standAt (wpAny_bind (wpAny_mono (turn n s hI) (fun r s₁ h₁=>?_) fun _ _ h'=>h'.elim)))
 cases r with
 | none=>exact wpAny_pure h₁
 | some v =>
  refine wpAny_bind (wpAny_mono h₁ (fun _ s₁ h₁=>?_) fun _ _ h'=>h'.elim)
  refine wpAny_bind (wpAny_mono h₁ (fun _ s₂ h₂=>wpAny_bind (wpAny_mono h₂ (fun ok s₃ h₃=>?_) fun _ _ h'=>h'.elim)) fun _ _ h'=>h'.elim)
  cases ok with
  | false=>exact wpAny_pure ⟨rfl,h₃⟩
  | true =>
   exact wpAny_bind (wpAny_bind (wpAny_mono h₃ (fun x s₄ h₄=>wpAny_bind (wpAny_mono h₄ (fun _ s₅ h₅=>wpAny_pure (wpAny_pure ⟨rfl,h₅⟩)) fun _ _ h'=>h'.elim)) fun _ _ h'=>h'.elim))
end
noncomputable def GOnly (g:TG) (ks:List Nat):Prop:=∀ v σ H (Q:St->Hp->Prop),g v σ H Q->g v σ H (fun σ' H'=>Q σ' H'/\σ'.length=σ.length/\∀ k,k ∉ ks->σ'[k]? = σ[k]?)
noncomputable def GOnlys (g:TGs) (ks:List Nat):Prop:=∀ vs σ H (Q:St->Hp->Prop),g vs σ H Q->g vs σ H (fun σ' H'=>Q σ' H'/\σ'.length=σ.length/\∀ k,k ∉ ks->σ'[k]? = σ[k]?)
theorem go_name {i:Nat} {ks:List Nat} (h:i ∈ ks):GOnly (gName i) ks:=fun v σ H Q q=>⟨q,List.length_set,fun k hk=>List.getElem?_set_ne (fun (e:i=k)=>hk (e ▸ h))⟩
theorem gos_nil {ks:List Nat}:GOnlys gNil ks:=fun vs σ H Q ⟨e,q⟩=>⟨e,q,rfl,fun _ _=>rfl⟩
noncomputable def GMono (g:TG):Prop:=∀ v σ H (Q Q':St->Hp->Prop),(∀ σ' H',Q σ' H'->Q' σ' H')->g v σ H Q->g v σ H Q'
noncomputable def GMonos (g:TGs):Prop:=∀ v σ H (Q Q':St->Hp->Prop),(∀ σ' H',Q σ' H'->Q' σ' H')->g v σ H Q->g v σ H Q'
theorem gm_name {i:Nat}:GMono (gName i):=fun v σ H Q Q' imp q=>imp _ _ q
theorem gms_nil:GMonos gNil:=fun v σ H Q Q' imp ⟨e,q⟩=>⟨e,imp _ _ q⟩
theorem gms_cons {t:TG} {u:TGs} (h1:GMono t) (h2:GMonos u):GMonos (gCons t u):=fun vs σ H Q Q' imp ⟨v,r,e,q⟩=>⟨v,r,e,h1 _ _ _ _ _ (fun σ' H' q'=>h2 _ _ _ _ _ imp q') q⟩
theorem gos_cons {t:TG} {u:TGs} {ks:List Nat} (h1:GOnly t ks) (m1:GMono t) (h2:GOnlys u ks) (m2:GMonos u):GOnlys (gCons t u) ks:=fun vs σ H Q ⟨v,r,e,q⟩ =>
 ⟨v,r,e,m1 _ _ _ _ _ (fun σ' H' ⟨q',l',k'⟩=>m2 _ _ _ _ _ (fun σ2 H2 ⟨q2,l2,k2⟩=>⟨q2,l2.trans l',fun k hk=>(k2 k hk).trans (k' k hk)⟩) (h2 _ _ _ _ q')) (h1 _ _ _ _ q)⟩
theorem go_tup {K:PySem.W.Frag} {n:Nat} {t:TGs} {ks:List Nat} (h:GOnlys t ks):GOnly (gTup K n t) ks:=fun v σ H Q ⟨a,xs,e1,e2,e3,q⟩=>⟨a,xs,e1,e2,e3,h _ _ _ _ q⟩
theorem gm_tup {K:PySem.W.Frag} {n:Nat} {t:TGs} (h:GMonos t):GMono (gTup K n t):=fun v σ H Q Q' imp ⟨a,xs,e1,e2,e3,q⟩=>⟨a,xs,e1,e2,e3,h _ _ _ _ _ imp q⟩
noncomputable def PIfs (X:Cx) (ifs:List Expr) (t:TT):Prop :=
 ∀ (pins:List (Addr × Obj)) (s:Shared) (σ:St) (H:Hp) (Q:Bool->Hp->Prop),Inv X pins σ H s->t σ H Q ->
  wpAny (model X.prog X.w) X.A (forIn ifs true fun c r=>if r=true then do let ok <- isTrue c X.env (eval c X.env); pure (ForInStep.yield ok) else pure (ForInStep.yield r)) (TP X pins σ Q) X.xe s
noncomputable def tYes:TT:=fun _ H Q=>Q true H
theorem pf_nil {X:Cx}:PIfs X [] tYes:=fun _ _ _ H _ I h=>wpAny_tests_nil ⟨H,I,h⟩
theorem pf_one {X:Cx} {c:Expr} {t:TT} (h:PT X c t):PIfs X [c] t:=fun pins s σ H Q I q=>wpAny_tests_one (h pins s σ H Q I q)
noncomputable def tLC (wi:TI) (st:St->St) (g:TG) (tt:TT) (te:TE):TE:=fun σ H Q=>wi σ H fun J H1=>∀ l,H1 l=none->∃ W:Nat->Nat->List V->Hp->Prop,(∃ m,W 0 m [] (upd H1 l (.lst []))) /\
 ∀ i m acc H2,W i m acc H2->H2 l=some (.lst acc)/\acc.length < sizeLine/\((J.stop i H2/\Q (.ref l) H2)\/(J.go i H2/\∀ x H3,J.yld i H2 x H3->g x (st σ) H3 fun σ4 H4=>tt σ4 H4 fun ok H5 =>
  if ok=true then te σ4 H5 fun y H6=>H6 l=some (.lst acc)/\∃ m',m' < m/\W (i + 1) m' (acc ++ [y]) (upd H6 l (.lst (acc ++ [y]))) else ∃ m',m' < m/\W (i + 1) m' acc H5))
section
variable {X:Cx} {elt tg iter:Expr} {ifs:List Expr} {scope:Scope} {pos:Pos} {N:List Str} {st:St->St} {ks:List Nat} {wi:TI} {g:TG} {tt:TT} {te:TE}
theorem lc_block (B:BlkNames X scope N st ks) (hc:X.calm=true) (hg:∀ C fp s₀ H₀,PG (X.block scope C N fp s₀ H₀) tg g) (hgo:GOnly g ks) (ht:∀ C fp s₀ H₀,PIfs (X.block scope C N fp s₀ H₀) ifs tt)
  (he:∀ C fp s₀ H₀,PE (X.block scope C N fp s₀ H₀) elt te) {pins:List (Addr × Obj)} {σ:St} {H1:Hp} {s₂:Shared} {it:Addr} {fp:List Addr} {tn:Nat->Heap->Prop} {J:It} {Q:VK} {RR:Value->Addr->Result->Shared->Prop} {E:Value->Shared->Prop}
  (I:Inv X pins σ H1 s₂) (T:Turn X.prog X.w X.K tg J fp it tn) (h0:tn 0 s₂.heap) (hfp:∀ b ∈ fp,FpOk X pins H1 b)
  (h:∀ l,H1 l=none->∃ W:Nat->Nat->List V->Hp->Prop,(∃ m,W 0 m [] (upd H1 l (.lst []))) /\
   ∀ i m acc H2,W i m acc H2->H2 l=some (.lst acc)/\acc.length < sizeLine/\((J.stop i H2/\Q (.ref l) H2)\/(J.go i H2/\∀ x H3,J.yld i H2 x H3->g x (st σ) H3 fun σ4 H4=>tt σ4 H4 fun ok H5 =>
    if ok=true then te σ4 H5 fun y H6=>H6 l=some (.lst acc)/\∃ m',m' < m/\W (i + 1) m' (acc ++ [y]) (upd H6 l (.lst (acc ++ [y]))) else ∃ m',m' < m/\W (i + 1) m' acc H5)))
  (hRR:∀ D C H' s',(∃ σ',Inv (X.block scope C N fp s₂ H1) [] σ' H' s')->s₂.heap.objs.size <= C->Q (.ref D) H'->RR (.ref D) C (.ok .next) s') :
  wpAny (model X.prog X.w) X.A (newList []) (fun acc s₃=>wpAny (model X.prog X.w) X.A (newFunctionEnv scope X.env.globals (clOf scope X.env) [] X.env.qual none .none (some X.env)) (fun cenv s₄ =>
   codeAny (model X.prog X.w) X.A (.compStart (.ListComp elt [⟨tg,iter,ifs,0⟩] scope pos) 0 (.ref it) acc { cenv with scope:=relabel scope X.env }) (RR acc cenv.locals) s₄) E s₃) E s₂:=by
 refine wpAny_newObj_type (wpAny_newFunctionEnv B.cell (by intro y hy; simp at hy) (fun h₁ hns₁ hsb₁=>?_) B.kind)
 dsimp only at hns₁ hsb₁ ⊢
 generalize hH2:s₂.heap.push { cls:=.type "list",dict:=none,data:=.seq ([]:List Value).toArray }=P2 at hns₁ hsb₁ ⊢
 have hC:P2.objs.size=s₂.heap.objs.size + 1:=by rw [<- hH2,Heap.size_push]
 have hDC:s₂.heap.objs.size ≠ P2.objs.size:=by rw [hC]; exact Nat.ne_of_lt (Nat.lt_succ_self _)
 have hCle:s₂.heap.objs.size <= P2.objs.size:=by rw [hC]; exact Nat.le_succ _
 have old:∀ b o,s₂.heap.get? b=some o->h₁.get? b=some o:=fun b o e =>
  hsb₁.extBut b o (by rw [hC]; exact Nat.ne_of_lt (Nat.lt_succ_of_lt (Heap.lt_size e))) (Heap.get?_push_of_some _ (hH2 ▸ Heap.get?_push_of_some _ e))
 have hacc:h₁.get? s₂.heap.objs.size=some { cls:=.type "list",dict:=none,data:=.seq ([]:List Value).toArray }:=hsb₁.extBut _ _ hDC (Heap.get?_push_of_some _ (hH2 ▸ Heap.get?_push_size _ rfl))
 generalize hCe:P2.objs.size=C at hns₁ hsb₁ hDC hCle ⊢
 have hHD:H1 s₂.heap.objs.size=none:=I.hok.fresh (Nat.le_refl _)
 have I0:Inv (X.block scope C N fp s₂ H1) [] (st σ) (upd H1 s₂.heap.objs.size (.lst [])) { s₂ with heap:=h₁,toks:=s₂.toks + ([]:List (Str × Value)).length } :=
  I.block B hfp (fun b hb=>by obtain ⟨o,e,_⟩:=T.obj 0 _ h0 b hb; exact ⟨o,e⟩) (Nat.le_refl _) hCle hDC old (by simpa using hns₁) ⟨Nat.zero_le _,[],0,.nil,hacc⟩
 obtain ⟨W,⟨m0,w0⟩,step⟩:=h _ hHD
 have h01:tn 0 h₁:=T.keep 0 _ _ h0 fun b _ o e=>old b o e
 have stat:∀ {H':Hp},(∀ b ∈ fp,H' b=none)->∀ b ∈ fp,FpOk (X.block scope C N fp s₂ H1) [] H' b:=fun {H'} hn b hb =>
  ⟨hn b hb,(I0.ok.exf b hb).1,I0.ok.exfs b hb,.inl hb,fun x c e=>(I0.ok.exf b hb).2 x c e,fun p hp=>absurd (show p ∈ ([]:List (Addr × Obj)) from hp) (by simp)⟩
 have fr0:∀ b ∈ fp,upd H1 s₂.heap.objs.size (.lst []) b=none:=fun b hb=>by
  obtain ⟨o,e,_⟩:=T.obj 0 _ h0 b hb
  rw [upd_ne (Nat.ne_of_lt (Heap.lt_size e))]
  exact (hfp b hb).1
 have loop:∀ s₃:Shared,s₃={ s₂ with heap:=h₁,toks:=s₂.toks + ([]:List (Str × Value)).length } ->
   codeAny (model X.prog X.w) X.A (.compLoop (.ListComp elt [⟨tg,iter,ifs,0⟩] scope pos) 0 (.ref it) (.ref s₂.heap.objs.size) (X.block scope C N fp s₂ H1).env) (RR (.ref s₂.heap.objs.size) C) s₃:=by
  rintro s₃ rfl
  refine compLoop_own (fun n s'=>∃ i acc H2,Inv (X.block scope C N fp s₂ H1) [] (st σ) H2 s'/\tn i s'.heap/\(∀ b ∈ fp,H2 b=none)/\W i n acc H2) ?_ m0 ⟨0,[],_,I0,h01,fr0,w0⟩
  rintro n s3 ⟨i,acc,H2,I2,st2,fr2,w2⟩
  obtain ⟨hl,hz,alt⟩:=step i n acc H2 w2
  rcases alt with ⟨stop,q⟩ | ⟨go,nxt⟩
  ·refine thn (T.done (X.block scope C N fp s₂ H1) rfl rfl rfl hc i [] s3 (st σ) H2 _ I2 (stat fr2) st2 stop) fun r s4 ⟨hr,I4⟩=>?_
   subst hr
   exact hRR _ C H2 s4 ⟨_,I4⟩ hCle q
  ·refine thn (T.item (X.block scope C N fp s₂ H1) rfl rfl rfl hc i [] s3 (st σ) H2 _ I2 (stat fr2) st2 go) fun r s4 ⟨u,hr,h4⟩=>?_
   subst hr
   refine thn h4 fun _ s5 ⟨x,H5,I5,r5,y5,st5,fr5⟩=>?_
   have I5':=I5.pinned (stat fr5) (T.obj _ _ st5)
   refine thn (hg C fp s₂ H1 _ s5 (st σ) H5 x u _ I5' r5 (hgo _ _ _ _ (nxt x H5 y5))) fun _ s6 ⟨σ6,H6,I6,q6,len6,ag6⟩=>?_
   refine thn (ht C fp s₂ H1 _ s6 σ6 H6 _ I6 q6) fun ok s7 ⟨H7,I7,q7⟩=>?_
   have again:∀ {H9:Hp} {s9:Shared} {acc':List V},Inv (X.block scope C N fp s₂ H1) ([] ++ pinsAt fp s5.heap) σ6 H9 s9->(∃ m',m' < n/\W (i + 1) m' acc' H9) ->
     ∃ m,m < n/\∃ i acc H2,Inv (X.block scope C N fp s₂ H1) [] (st σ) H2 s9/\tn i s9.heap/\(∀ b ∈ fp,H2 b=none)/\W i m acc H2:=fun {H9 s9 acc'} I9 ⟨m',hm,w9⟩=>by
    have pin9:∀ b ∈ fp,∀ o,s5.heap.get? b=some o->s9.heap.get? b=some o/\H9 b=none:=fun b hb o e=>by
     have z:=I9.pin (b,o) (List.mem_append_right _ (List.mem_append_right _ (mem_pinsAt hb e)))
     exact ⟨z.1,z.2.1⟩
    refine ⟨m',hm,i + 1,acc',H9,I9.unpinned.weak (by rw [len6]) (fun k v e=>?_),T.keep _ _ _ st5 fun b hb o e=>(pin9 b hb o e).1,fun b hb=>?_,w9⟩
    ·have hk:k < (st σ).length:=(List.getElem?_eq_some_iff.mp e).1
     have hkN:k < N.length:=by rw [<- B.len σ]; exact hk
     obtain ⟨_,hks,_⟩:=B.val σ k _ v (List.getElem?_eq_getElem hkN) e
     rw [ag6 k hks]
     exact e
    ·obtain ⟨o,e,_⟩:=T.obj _ _ st5 b hb
     exact (pin9 b hb o e).2
   cases ok with
   | false =>
    rw [if_neg Bool.false_ne_true] at q7 ⊢
    exact again I7 q7
   | true =>
    rw [if_pos rfl] at q7 ⊢
    refine thn (he C fp s₂ H1 _ s7 σ6 H7 _ I7 q7) fun u8 s8 ⟨y,H8,I8,r8,hl8,q8⟩=>?_
    refine thn (mt_append _ s8 σ6 H8 (.ref s₂.heap.objs.size) [y] (.ref s₂.heap.objs.size) [u8] (fun _ H9=>H9=upd H8 s₂.heap.objs.size (.lst (acc ++ [y]))) I8 rfl (.cons r8 .nil) ⟨_,acc,y,rfl,rfl,hl8,hz,rfl⟩) fun _ s9 ⟨_,H9,I9,_,e9⟩=>?_
    subst e9
    exact again I9 q8
 exact codeAny_compStart_list (loop _ rfl) (T.self X.A 0 _ _ _ h01 (loop _ rfl))
theorem back_of {pins:List (Addr × Obj)} {σ:St} {H1 H':Hp} {s₂ s':Shared} {fp:List Addr} {C:Addr} (I:Inv X pins σ H1 s₂) (hfp:∀ b ∈ fp,FpOk X pins H1 b) (h:∃ σ',Inv (X.block scope C N fp s₂ H1) [] σ' H' s'):Inv X pins σ H' s':=by
 obtain ⟨σ',J⟩:=h
 exact I.call' (ch:=fp) J.os J.base J.hok J.bare fun b hb=>⟨(hfp b hb).2.2.2.1,(hfp b hb).2.1,(hfp b hb).2.2.2.2.1,(hfp b hb).2.2.2.2.2⟩
theorem pe_lc (B:BlkNames X scope N st ks) (hc:X.calm=true) (hi:PI X tg iter wi) (hg:∀ C fp s₀ H₀,PG (X.block scope C N fp s₀ H₀) tg g) (hgo:GOnly g ks) (ht:∀ C fp s₀ H₀,PIfs (X.block scope C N fp s₀ H₀) ifs tt)
  (he:∀ C fp s₀ H₀,PE (X.block scope C N fp s₀ H₀) elt te) (hs:∀ x,foldedSetIterable iter X.env x=pure x:=by intro _; rfl):PE X (.ListComp elt [⟨tg,iter,ifs,0⟩] scope pos) (tLC wi st g tt te):=by
 intro pins s σ H Q I h
 have hcl:closureFor scope X.env=pure (clOf scope X.env):=closureFor_eq fun y hy hk=>I.ok.has _ (B.free y hy hk)
 rw [eval_ListComp]
 refine wpAny_comprehension_free (use:=none) rfl hs hcl B.kind B.loc (thn (hi pins s σ H _ I h) fun v s1 h1=>thn h1 fun itv s2 h2=>?_)
 obtain ⟨it,fp,tn,J,H2,e,I2,T,st2,f2,hq⟩:=h2
 subst e
 refine lc_block (RR:=fun acc C=>compPost (model X.prog X.w) X.A X.xe none (EP X pins σ Q) acc C) B hc hg hgo ht he I2 T st2 f2 hq ?_
 intro D C H' s' hJ hCle q
 have I3:=back_of I2 f2 hJ
 obtain ⟨σ',J'⟩:=hJ
 obtain ⟨m,hn,_⟩:=id J'.loc
 have hHC:H' C=none:=J'.free
 refine ⟨m,hn,fun h'' hs''=>⟨.ref D,H',?_,rfl,q⟩⟩
 exact I3.turned (t':=s'.toks) (fun b o ne e=>(hs''.2 b ne).trans e) hHC (Nat.ne_of_gt (Nat.lt_of_lt_of_le I2.lt hCle)) (.inr (Nat.le_trans I2.sz hCle))
  (fun x c e z=>by obtain ⟨v,ic⟩:=I2.cell x c e; exact absurd (Nat.lt_of_lt_of_le ic.lt (by rw [z]; exact hCle)) (Nat.lt_irrefl _))
  (fun p hp z=>absurd (Nat.lt_of_lt_of_le (Heap.lt_size (I2.pin p hp).1) (by rw [z]; exact hCle)) (Nat.lt_irrefl _))
end
end L2
namespace L2
open PySem PySem.Spec PyProof.Rows
noncomputable def CX1 (P:Program) (w:World):CXT:=fun outer H s E e s'=>∃ (ea:Addr) (cls a0:Value) (B:Heap) (H':Hp),e = .ref ea/\s'.os=s.os/\AllBare s'.gens/\Un (frs outer) [] H H' s.heap s'.heap/\HOk P w H' B/\Heap.FlyingW B outer ea cls a0 s'.heap /\
 (∀ b o,s.heap.get? b=some o->H b=none->b ∉ frs outer->B.get? b=some o)/\(∀ b o,s.heap.get? b=some o->b ∉ frs outer->∃ o',B.get? b=some o')/\E cls none H'
structure DefCx (X:Cx) (E:XK):Prop where
 stk:X.stack=X.env :: X.outer
 fr:X.env.frame=some X.env.locals
 ex:X.ex=[]
 xe:X.xe=fun e s'=>wpAny (model X.prog X.w) X.A (leaving X.env e) (fun _ s''=>CX1 X.prog X.w X.outer X.H₀ X.s₀ E e s'') (fun e' s''=>CX1 X.prog X.w X.outer X.H₀ X.s₀ E e' s'') s'
theorem DefCx.of {P:Program} {w:World} {K:PySem.W.Frag} {mg:Str->Option Value} {base:Heap} {N:List Str} {qual:Str} {scope:Scope} {f:Addr} {cd:Value} {A:Around} {outer:List Env} {s₀:Shared} {H₀:Hp} {E:XK} :
  DefCx (cxOf (CX1 P w) P w K mg base N qual scope f cd A outer s₀ H₀ E) E:=⟨rfl,rfl,rfl,rfl⟩
section
variable {X:Cx} {E:XK}
theorem fly_un {pins:List (Addr × Obj)} {σ:St} {H H':Hp} {s:Shared} {B h':Heap} (hX:X.ex=[]) (I:Inv X pins σ H s)
  (a1:∀ b o,s.heap.get? b=some o->H b=none->b ∉ frs X.stack->B.get? b=some o) (a2:∀ b o,s.heap.get? b=some o->b ∉ frs X.stack->∃ o',B.get? b=some o')
  (a3:B.StaysIn h') (a4:∀ b o,b ∈ frs X.outer->s.heap.get? b=some o->H b=none->(∀ vs,o.data ≠ .fields vs)->∃ sl,h'.get? b=some { o with slots:=sl })
  (a5:∀ b o,s.heap.get? b=some o->H b=none->H' b=none) (a6:∀ b xs,H b=some (.tup xs)->H' b=some (.tup xs)) (a7:∀ b o u,H b=some (.frz o u)->H' b=some (.frz o u)) (a8:∀ b ps,H b=some (.tbl ps)->∃ more,H' b=some (.tbl (ps ++ more))) :
  Un (frs X.outer) [] X.H₀ H' X.s₀.heap h'/\(∀ b o,X.s₀.heap.get? b=some o->X.H₀ b=none->b ∉ frs X.outer->B.get? b=some o)/\(∀ b o,X.s₀.heap.get? b=some o->b ∉ frs X.outer->∃ o',B.get? b=some o'):=by
 have nx:∀ b,b ∉ X.ex:=fun b z=>by rw [hX] at z; cases z
 have noS:∀ b o,X.s₀.heap.get? b=some o->b ∉ frs X.outer->b ∉ frs X.stack:=fun b o e nf hb=>by
  rcases List.mem_cons.mp (I.stkSub b hb) with z | z
  ·exact absurd z (Nat.ne_of_lt (Nat.lt_of_lt_of_le (Heap.lt_size e) I.ok.above))
  ·exact nf z
 have bk:∀ b o,X.s₀.heap.get? b=some o->X.H₀ b=none->b ∉ frs X.outer->B.get? b=some o:=fun b o e n nf =>
  a1 b o (I.base.keep b o e n nf (nx b)) (I.base.free b o e n (nx b)) (noS b o e nf)
 have ba:∀ b o,X.s₀.heap.get? b=some o->b ∉ frs X.outer->∃ o',B.get? b=some o':=fun b o e nf=>by
  obtain ⟨o1,e1⟩:=I.base.there b o e (nx b)
  exact a2 b o1 e1 (noS b o e nf)
 have sl:∀ b o,X.s₀.heap.get? b=some o->X.H₀ b=none->b ∈ frs X.outer->∃ sl,h'.get? b=some { o with slots:=sl }:=fun b o e n hb=>by
  obtain ⟨sl1,e1⟩:=I.base.slot b o e n hb (nx b)
  obtain ⟨_,o2,ho2,hnf⟩:=I.ok.funs.mem hb
  rw [e] at ho2
  cases ho2
  obtain ⟨sl2,e2⟩:=a4 b _ hb e1 (I.base.free b o e n (nx b)) hnf
  exact ⟨sl2,e2⟩
 refine ⟨⟨fun b o e n nf _=>a3 b o (bk b o e n nf),fun b o e n hb _=>sl b o e n hb,fun b o e n _=>?_,fun b o e _=>?_,fun b xs e=>a6 b xs (I.base.tups b xs e),fun b o u e=>a7 b o u (I.base.frzs b o u e),fun b ps e=>?_⟩,bk,ba⟩
 ·obtain ⟨o1,e1⟩:=I.base.there b o e (nx b)
  exact a5 b o1 e1 (I.base.free b o e n (nx b))
 ·by_cases hb:b ∈ frs X.outer
  ·obtain ⟨s2,e2⟩:=sl b o e (I.ok.frf b hb) hb
   exact ⟨_,e2⟩
  ·obtain ⟨o',e'⟩:=ba b o e hb
   exact ⟨o',a3 b o' e'⟩
 ·obtain ⟨m1,e1⟩:=I.base.tbls b ps e
  obtain ⟨m2,e2⟩:=a8 b _ e1
  exact ⟨m1 ++ m2,by rw [e2,Array.append_assoc]⟩
theorem DefCx.pass (D:DefCx X E):Passes (CX1 X.prog X.w) X E:=by
 intro pins σ H s e s' I h
 obtain ⟨ea,cls,a0,B,H',rfl,os,bare,un,hok,fly,bk,ba,hE⟩:=h
 rw [D.xe]
 have fly':=fly
 rw [D.stk] at fly'
 have hfr:=I.ok.frames
 rw [D.stk] at hfr
 refine wpAny_leaves_onW (L:=X.env.locals) hfr D.fr fly' fun h' fl up=>?_
 have a4:∀ b o,b ∈ frs X.outer->s.heap.get? b=some o->H b=none->(∀ vs,o.data ≠ .fields vs)->∃ sl,h'.get? b=some { o with slots:=sl }:=fun b o hb e n nf=>by
  have hb':b ∈ frs X.stack:=by
   rw [D.stk]
   unfold frs
   rw [List.filterMap_cons,D.fr]
   exact List.mem_cons_of_mem _ hb
  obtain ⟨s1,e1⟩:=un.slot b o e n hb' (fun z=>nomatch z)
  obtain ⟨s2,e2⟩:=up b _ e1 nf
  exact ⟨s2,e2⟩
 obtain ⟨u1,u2,u3⟩:=fly_un (B:=B) (h':=h') (H':=H') D.ex I bk ba fl.1 a4 (fun b o e n=>un.free b o e n (fun z=>nomatch z)) un.tups un.frzs un.tbls
 exact ⟨ea,cls,a0,B,H',rfl,os.trans I.os,bare,u1,hok,fl,u2,u3,hE⟩
theorem DefCx.raise (D:DefCx X E) {pins:List (Addr × Obj)} {σ:St} {H:Hp} {s:Shared} {ea:Addr} {h1:Heap} {cls:Value} {vs:List Value} (I:Inv X pins σ H s)
  (hx:Heap.MadeExcOf s.heap h1 ea cls vs) (hE:E cls none H):X.xe (.ref ea) { s with heap:=h1 }:=by
 rw [D.xe]
 have stk:s.heap.FunFrames X.base X.stack:=I.stack
 have hin:∀ env ∈ X.stack,∀ a,env.frame=some a->a ∈ frs X.stack:=fun env he a ha=>List.mem_filterMap.mpr ⟨env,he,ha⟩
 have stk2:=PySem.W.funFrames_hide stk hin
 have hfr:=I.ok.frames
 rw [D.stk] at hfr
 have stk3:s.heap.FunFrames (PySem.W.hideAll s.heap (frs X.stack)) (X.env :: X.outer):=by rw [<- D.stk]; exact stk2
 refine wpAny_leaves_madeW (L:=X.env.locals) (base:=PySem.W.hideAll s.heap (frs X.stack)) hfr D.fr (fun b o q=>PySem.W.of_hideAll _ q) stk3 hx fun h' t fl tup bn up=>?_
 have hok:HOk X.prog X.w H (PySem.W.hideAll s.heap (frs X.stack)):=fun a o e=>by
  refine (I.hok a o e).stay (fun b u hb q=>PySem.W.hideAll_get _ q fun hm=>?_) (fun _ z=>z) fun _ _ z=>z
  have hn:=I.stkFree b hm
  rcases hb with z | z
  ·rw [z,e] at hn; cases hn
  ·rw [z] at hn; cases hn
 obtain ⟨u1,u2,u3⟩:=fly_un (B:=PySem.W.hideAll s.heap (frs X.stack)) (h':=h') (H':=H) D.ex I (fun b o e n nf=>PySem.W.hideAll_get _ e nf) (fun b o e nf=>⟨o,PySem.W.hideAll_get _ e nf⟩) fl.1
  (fun b o hb e n nf=>up b o (hx.keeps b o e) nf) (fun b o e n=>n) (fun _ _ e=>e) (fun _ _ _ e=>e) (fun b ps e=>⟨#[],by rw [e]; simp⟩)
 exact ⟨ea,cls,.ref t,_,H,rfl,I.os,I.bare,u1,hok,fl,u2,u3,hE⟩
theorem DefCx.own (D:DefCx X E):PassesOwn (model X.prog X.w) X.A X.env X.xe:=fun e s' h=>by
 rw [D.xe] at h ⊢
 exact wpAny_leaving_again (SameStack.refl _) h
end
section
variable {P:Program} {w:World} {K:PySem.W.Frag} {mg:Str->Option Value} {base:Heap}
theorem Fun.okX {x q:Str} {st:Stmt} {f:Addr} {fd:FuncData} {N ps:List Str} {k:Nat} {sp:Sp} (F:Fun K x q st f fd) (S:FnScope N ps (defScope st)) (len:∀ vs H Q E,sp vs H Q E->vs.length=ps.length)
  (hbody:∀ (cdv:Value) (A:Around) (outer:List Env) (s:Shared) (H:Hp) (vs:List V) (Q:VK) (E:XK),Room k (A.deeper (envOfC q (defScope st) s.heap.objs.size f cdv))->sp vs H Q E ->
   ∃ t,PSs (cxOf (CX1 P w) P w K mg base N q (defScope st) f cdv A outer s H E) (defBody st) t/\t { nx:=fun _ H'=>Q .non H',rt:=Q } (start N vs) H):FnOk P w K mg base (CX1 P w) (k + 1) f fd ps sp:=by
 obtain ⟨oc,od,kV,doc,pm,an,cdv,ct,osl,rfl,lk,hcd⟩:=F.ex
 exact fn_of lk hcd S len fun A outer s H vs Q E hr hsp=>hbody cdv A outer s H vs Q E hr hsp
end
noncomputable def ExcC (K:PySem.W.Frag) (C:Addr):Prop:=PySem.W.excIn K C [.type "ValueError",.type "Exception",.type "BaseException",.type "object"] "ValueError.__new__" = true
theorem own_of {K:PySem.W.Frag} {h:Heap} {mg:Str->Option Value} {x:Str} {C:Addr} (X:K.In h) (hm:mg x=some (.ref C)) (q:ExcC K C):OwnCls x C [.type "ValueError",.type "Exception",.type "BaseException",.type "object"] "ValueError.__new__" mg h:=by
 refine ⟨hm,?_⟩
 unfold ExcC PySem.W.excIn at q
 split at q
 ·rename_i dd cd sl ho
  split at q
  ·rename_i C' bm k0 k1 k2 k3 n k5 hm' hs
   simp only [Bool.and_eq_true,beq_iff_eq,Bool.not_eq_true'] at q
   obtain ⟨⟨⟨⟨⟨rfl,rfl⟩,hdel⟩,ht⟩,hok⟩,hni⟩:=q
   obtain ⟨nm,bs,mro,ns,qn,hd,sn,sub,ab,col,del⟩:=cd
   dsimp only at hm' hdel hok hni
   subst hm' hdel
   have hsl:sl = #[k0,k1,k2,k3,some (.builtin "ValueError.__new__"),k5]:=by
    obtain ⟨l⟩:=sl
    simp only at hs
    rw [hs]
   subst hsl
   exact ⟨bm,ns,nm,qn,bs,hd,sn,sub,ab,col,dd,k0,k1,k2,k3,k5,_,X _ _ ho,.of_isNs (PySem.W.isNs_of_in X hok),PySem.W.nsMap_none_of_in X hok hni,PySem.W.tail_of_in X ht⟩
  ·cases q
 ·cases q
noncomputable def tRaise (C:Addr) (E:XK) (ta:TA):TS:=fun _ σ H=>ta σ H fun vs H1=>vs.length <= sizeLine/\E (.ref C) none H1
section
variable {X:Cx} {E:XK}
theorem ps_raise (D:DefCx X E) (hc:X.calm=true) {x:Str} {C:Addr} {e₀:Expr} {rest:List Expr} {ta:TA} {np cpos pos:Pos} (hm:X.mg x=some (.ref C)) (hC:ExcC X.K C) (hg:Gl X x)
  (ha:PA X (e₀ :: rest) ta) (he:starEach (e₀ :: rest) X.env=(false,eval e₀ X.env) :: starEach rest X.env:=by rfl)
  (hplain:(backTo cpos (starEach rest X.env)).any (·.1)=false:=by rfl) (hd:(x == ("__debug__" : Str))=false:=by decide) :
  PS X (.Raise (some (.Call (.Name x np) (e₀ :: rest) [] cpos)) none pos) (tRaise C E ta):=by
 intro pins s σ H DD I h
 obtain ⟨tl,NN,nm,q,bs,hdct,sn,sub,ab,col,dd,k0,k1,k2,k3,k5,mN,hCo,hN,hni,T⟩:=(own_of (h:=X.base) I.mod.kin hm hC).obj
 have FB:=PySem.F.excBase_ValueError
 refine wpAny_Raise_call_subU (C:=C) (nm:=nm) (q:=q) (N:=NN) (bs:=bs) (bm:=tl) (hdct:=hdct) (sn:=sn) (sub:=sub) (ab:=ab) (col:=col) (dd:=dd) (k0:=k0) (k1:=k1) (k2:=k2) (k3:=k3) (k5:=k5)
  FB FB.hasB FB (mN:=mN) (T.hasType FB.hasBase) (I.ok.hd hc) (by rw [he]; show (false || (backTo cpos (starEach rest X.env)).any (·.1))=false; rw [hplain]; rfl) hni
  (ld_glob I hg hm ⟨rfl,?_⟩ hd)
 have harg:=ha cpos pins s σ H _ I h
 rw [he] at harg ⊢
 refine Calls.evalArgs_plain (wpAny_mono harg (fun vs s₂ h₂=>?_) fun _ _ y=>y)
 obtain ⟨xs,H2,I2,rv,hz,hE⟩:=h₂
 refine ⟨rfl,by show vs.length <= sizeLine; rw [<- rv.length]; exact hz,I2.bk _ _ hCo,hN.keeps I2.bk,T.keeps I2.bk,fun h' ea hx=>D.raise I2 hx hE⟩
end
end L2
namespace L2
open PySem PySem.Spec PyProof.Rows
structure TurnIs (e tg iter:Expr) (ifs:List Expr) (body:Env->Addr->Sem Unit):Prop where
 under:∀ (A:Around) (it:Value) (D:Addr) (env:Env),A.under (.compLoop e 0 it (.ref D) env)=A
 den:∀ (prog:Program) (w:World) (it:Value) (D:Addr) (env:Env),(model prog w).den (.compLoop e 0 it (.ref D) env)=(compTurn e 0 it (.ref D) env).onRaise (fun x=>do noteFrame x env; theTreesLotGoes x)
 turn:∀ (it:Value) (D:Addr) (env:Env),compTurn e 0 it (.ref D) env=(do
   standAt iter.pos
   match <- pyNext it with
   | none=>pure (.done .next)
   | some v =>
    letOwnedTupleGo tg it v
    assign tg env v
    let mut ok:=true
    for c in ifs do if ok then ok <- isTrue c env (eval c env)
    if ok then
     body env D
    again (.compLoop e 0 it (.ref D) env))
section
variable {s:Shared} {A:Around} {prog:Program} {w:World} {R:Result->Shared->Prop}
theorem compLoop_any {e tg iter:Expr} {ifs:List Expr} {body:Env->Addr->Sem Unit} {it:Value} {D:Addr} {env:Env} (hb:TurnIs e tg iter ifs body) (I:Nat->Shared->Prop)
  (one:∀ n s,I n s->wpAny (model prog w) A (pyNext it) (fun r s₁=>match r with
   | none=>R (.ok .next) s₁
   | some v=>wpAny (model prog w) A (letOwnedTupleGo tg it v) (fun _ s₁=>wpAny (model prog w) A (assign tg env v) (fun _ s₂ =>
     wpAny (model prog w) A (forIn ifs true fun c r=>if r=true then do let ok <- isTrue c env (eval c env); pure (ForInStep.yield ok) else pure (ForInStep.yield r)) (fun ok s₃=>if ok=true then wpAny (model prog w) A (body env D) (fun _ s₅=>∃ m,m < n/\I m s₅) (fun _ _=>False) s₃
      else ∃ m,m < n/\I m s₃) (fun _ _=>False) s₂) (fun _ _=>False) s₁) (fun _ _=>False) s₁) (fun _ _=>False) s)
  (n:Nat) (h:I n s):codeAny (model prog w) A (.compLoop e 0 it (.ref D) env) R s:=by
 refine codeAny_loop rfl I (fun n s hJ=>?_) n h
 rw [hb.under,hb.den]
 refine wpAny_noted ?_
 rw [hb.turn]
 refine wpAny_bind (wpAny_standAt (wpAny_bind (wpAny_mono (one n s hJ) (fun r s₁ h₁=>?_) fun _ _ h'=>h'.elim)))
 cases r with
 | none=>exact wpAny_pure h₁
 | some v =>
  refine wpAny_bind (wpAny_mono h₁ (fun _ s₁ h₁=>?_) fun _ _ h'=>h'.elim)
  refine wpAny_bind (wpAny_mono h₁ (fun _ s₂ h₂=>wpAny_bind (wpAny_mono h₂ (fun ok s₃ h₃=>?_) fun _ _ h'=>h'.elim)) fun _ _ h'=>h'.elim)
  cases ok with
  | false=>exact wpAny_pure (And.intro rfl h₃)
  | true=>exact wpAny_bind (wpAny_mono h₃ (fun _ s₄ h₄=>wpAny_pure ⟨rfl,h₄⟩) fun _ _ h'=>h'.elim)
end
noncomputable def StartIs (e:Expr):Prop:=∀ {prog:Program} {w:World} {A:Around} {R:Result->Shared->Prop} {s:Shared} {it acc:Value} {env:Env},
  codeAny (model prog w) A (.compLoop e 0 it acc env) R s ->
  wpAny (model prog w) A (pyIter it) (fun it' s'=>codeAny (model prog w) A (.compLoop e 0 it' acc env) R s') (notedBy (model prog w) A env fun x s'=>R (.error x) s') s ->
  codeAny (model prog w) A (.compStart e 0 it acc env) R s
structure AccIs (mk:Sem Value) (obs:Obj->Prop) (o:Addr->HO):Prop where
 make:∀ {prog:Program} {w:World} {A:Around} {Q:Value->Shared->Prop} {E:Value->Shared->Prop} {s:Shared},(∀ ob,obs ob->Q (.ref s.heap.objs.size) { s with heap:=s.heap.push ob })->wpAny (model prog w) A mk Q E s
 live:∀ ob,obs ob->ob.isFreed=false
 ok:∀ {P:Program} {w:World} {H:Hp} {h:Heap} {a:Addr} {ob:Obj},obs ob->h.get? a=some ob->sysModules < a->ObjOk P w H h a (o a)
noncomputable def PB (X:Cx) (body:Env->Addr->Sem Unit) (tb:Addr->St->Hp->(Hp->Prop)->Prop):Prop :=
 ∀ (D:Addr) (pins:List (Addr × Obj)) (s:Shared) (σ:St) (H:Hp) (Q:Hp->Prop),Inv X pins σ H s->tb D σ H Q->wpAny (model X.prog X.w) X.A (body X.env D) (fun _ s'=>∃ H',Inv X pins σ H' s'/\Q H') X.xe s
theorem bigL {X:Cx} {pins:List (Addr × Obj)} {σ:St} {H:Hp} {s:Shared} (I:Inv X pins σ H s):sysModules < s.heap.objs.size :=
 Nat.lt_trans (by decide) (I.mod.glob.keeps I.bk).lt
noncomputable def tCBk (o:Addr->HO) (wi:TI) (st:St->St) (g:TG) (tt:TT) (tb:Addr->St->Hp->(Hp->Prop)->Prop):TE:=fun σ H Q=>wi σ H fun J H1=>∀ l,H1 l=none->∃ W:Nat->Nat->Hp->Prop,(∃ m,W 0 m (upd H1 l (o l))) /\
 ∀ i m H2,W i m H2->((J.stop i H2/\Q (.ref l) H2)\/(J.go i H2/\∀ x H3,J.yld i H2 x H3->g x (st σ) H3 fun σ4 H4=>tt σ4 H4 fun ok H5 =>
  if ok=true then tb l σ4 H5 fun H6=>∃ m',m' < m/\W (i + 1) m' H6 else ∃ m',m' < m/\W (i + 1) m' H5))
section
variable {X:Cx} {e tg iter:Expr} {ifs:List Expr} {scope:Scope} {N:List Str} {st:St->St} {ks:List Nat} {wi:TI} {g:TG} {tt:TT} {body:Env->Addr->Sem Unit} {tb:Addr->St->Hp->(Hp->Prop)->Prop} {pos:Pos} {mk:Sem Value} {obs:Obj->Prop} {o:Addr->HO}
theorem cb_block (B:BlkNames X scope N st ks) (hc:X.calm=true) (hT:TurnIs e tg iter ifs body) (hS:StartIs e) (hA:AccIs mk obs o) (hg:∀ C fp s₀ H₀,PG (X.block scope C N fp s₀ H₀) tg g) (hgo:GOnly g ks) (ht:∀ C fp s₀ H₀,PIfs (X.block scope C N fp s₀ H₀) ifs tt)
  (he:∀ C fp s₀ H₀,PB (X.block scope C N fp s₀ H₀) body tb) {pins:List (Addr × Obj)} {σ:St} {H1:Hp} {s₂:Shared} {it:Addr} {fp:List Addr} {tn:Nat->Heap->Prop} {J:It} {Q:VK} {RR:Value->Addr->Result->Shared->Prop} {E:Value->Shared->Prop}
  (I:Inv X pins σ H1 s₂) (T:Turn X.prog X.w X.K tg J fp it tn) (h0:tn 0 s₂.heap) (hfp:∀ b ∈ fp,FpOk X pins H1 b)
  (h:∀ l,H1 l=none->∃ W:Nat->Nat->Hp->Prop,(∃ m,W 0 m (upd H1 l (o l))) /\
   ∀ i m H2,W i m H2->((J.stop i H2/\Q (.ref l) H2)\/(J.go i H2/\∀ x H3,J.yld i H2 x H3->g x (st σ) H3 fun σ4 H4=>tt σ4 H4 fun ok H5 =>
    if ok=true then tb l σ4 H5 fun H6=>∃ m',m' < m/\W (i + 1) m' H6 else ∃ m',m' < m/\W (i + 1) m' H5)))
  (hRR:∀ D C H' s',(∃ σ',Inv (X.block scope C N fp s₂ H1) [] σ' H' s')->s₂.heap.objs.size <= C->Q (.ref D) H'->RR (.ref D) C (.ok .next) s') :
  wpAny (model X.prog X.w) X.A mk (fun acc s₃=>wpAny (model X.prog X.w) X.A (newFunctionEnv scope X.env.globals (clOf scope X.env) [] X.env.qual none .none (some X.env)) (fun cenv s₄ =>
   codeAny (model X.prog X.w) X.A (.compStart e 0 (.ref it) acc { cenv with scope:=relabel scope X.env }) (RR acc cenv.locals) s₄) E s₃) E s₂:=by
 refine hA.make fun ob hob=>wpAny_newFunctionEnv B.cell (by intro y hy; simp at hy) (fun h₁ hns₁ hsb₁=>?_) B.kind
 dsimp only at hns₁ hsb₁ ⊢
 generalize hH2:s₂.heap.push ob=P2 at hns₁ hsb₁ ⊢
 have hC:P2.objs.size=s₂.heap.objs.size + 1:=by rw [<- hH2,Heap.size_push]
 have hDC:s₂.heap.objs.size ≠ P2.objs.size:=by rw [hC]; exact Nat.ne_of_lt (Nat.lt_succ_self _)
 have hCle:s₂.heap.objs.size <= P2.objs.size:=by rw [hC]; exact Nat.le_succ _
 have old:∀ b o,s₂.heap.get? b=some o->h₁.get? b=some o:=fun b o e =>
  hsb₁.extBut b o (by rw [hC]; exact Nat.ne_of_lt (Nat.lt_succ_of_lt (Heap.lt_size e))) (Heap.get?_push_of_some _ (hH2 ▸ Heap.get?_push_of_some _ e))
 have hacc:h₁.get? s₂.heap.objs.size=some ob:=hsb₁.extBut _ _ hDC (Heap.get?_push_of_some _ (hH2 ▸ Heap.get?_push_size _ (hA.live ob hob)))
 generalize hCe:P2.objs.size=C at hns₁ hsb₁ hDC hCle ⊢
 have hHD:H1 s₂.heap.objs.size=none:=I.hok.fresh (Nat.le_refl _)
 have I0:Inv (X.block scope C N fp s₂ H1) [] (st σ) (upd H1 s₂.heap.objs.size (o s₂.heap.objs.size)) { s₂ with heap:=h₁,toks:=s₂.toks + ([]:List (Str × Value)).length } :=
  I.block B hfp (fun b hb=>by obtain ⟨o,e,_⟩:=T.obj 0 _ h0 b hb; exact ⟨o,e⟩) (Nat.le_refl _) hCle hDC old (by simpa using hns₁) (hA.ok hob hacc (bigL I))
 obtain ⟨W,⟨m0,w0⟩,step⟩:=h _ hHD
 have h01:tn 0 h₁:=T.keep 0 _ _ h0 fun b _ o e=>old b o e
 have stat:∀ {H':Hp},(∀ b ∈ fp,H' b=none)->∀ b ∈ fp,FpOk (X.block scope C N fp s₂ H1) [] H' b:=fun {H'} hn b hb =>
  ⟨hn b hb,(I0.ok.exf b hb).1,I0.ok.exfs b hb,.inl hb,fun x c e=>(I0.ok.exf b hb).2 x c e,fun p hp=>absurd (show p ∈ ([]:List (Addr × Obj)) from hp) (by simp)⟩
 have fr0:∀ b ∈ fp,upd H1 s₂.heap.objs.size (o s₂.heap.objs.size) b=none:=fun b hb=>by
  obtain ⟨o,e,_⟩:=T.obj 0 _ h0 b hb
  rw [upd_ne (Nat.ne_of_lt (Heap.lt_size e))]
  exact (hfp b hb).1
 have loop:∀ sx:Shared,sx={ s₂ with heap:=h₁,toks:=s₂.toks + ([]:List (Str × Value)).length } ->
   codeAny (model X.prog X.w) X.A (.compLoop e 0 (.ref it) (.ref s₂.heap.objs.size) (X.block scope C N fp s₂ H1).env) (RR (.ref s₂.heap.objs.size) C) sx:=by
  rintro sx rfl
  refine compLoop_any hT (fun n s'=>∃ i H2,Inv (X.block scope C N fp s₂ H1) [] (st σ) H2 s'/\tn i s'.heap/\(∀ b ∈ fp,H2 b=none)/\W i n H2) ?_ m0 ⟨0,_,I0,h01,fr0,w0⟩
  rintro n s3 ⟨i,H2,I2,st2,fr2,w2⟩
  rcases step i n H2 w2 with ⟨stop,q⟩ | ⟨go,nxt⟩
  ·refine thn (T.done (X.block scope C N fp s₂ H1) rfl rfl rfl hc i [] s3 (st σ) H2 _ I2 (stat fr2) st2 stop) fun r s4 ⟨hr,I4⟩=>?_
   subst hr
   exact hRR _ C H2 s4 ⟨_,I4⟩ hCle q
  ·refine thn (T.item (X.block scope C N fp s₂ H1) rfl rfl rfl hc i [] s3 (st σ) H2 _ I2 (stat fr2) st2 go) fun r s4 ⟨u,hr,h4⟩=>?_
   subst hr
   refine thn h4 fun _ s5 ⟨x,H5,I5,r5,y5,st5,fr5⟩=>?_
   have I5p:=I5.pinned (stat fr5) (T.obj _ _ st5)
   refine thn (hg C fp s₂ H1 _ s5 (st σ) H5 x u _ I5p r5 (hgo _ _ _ _ (nxt x H5 y5))) fun _ s6 ⟨σ6,H6,I6,q6,len6,ag6⟩=>?_
   refine thn (ht C fp s₂ H1 _ s6 σ6 H6 _ I6 q6) fun ok s7 ⟨H7,I7,q7⟩=>?_
   have again:∀ {H9:Hp} {s9:Shared},Inv (X.block scope C N fp s₂ H1) ([] ++ pinsAt fp s5.heap) σ6 H9 s9->(∃ m',m' < n/\W (i + 1) m' H9) ->
     ∃ m,m < n/\∃ i H2,Inv (X.block scope C N fp s₂ H1) [] (st σ) H2 s9/\tn i s9.heap/\(∀ b ∈ fp,H2 b=none)/\W i m H2:=fun {H9 s9} I9 ⟨m',hm,w9⟩=>by
    have pin9:∀ b ∈ fp,∀ o,s5.heap.get? b=some o->s9.heap.get? b=some o/\H9 b=none:=fun b hb o e=>by
     have z:=I9.pin (b,o) (List.mem_append_right _ (List.mem_append_right _ (mem_pinsAt hb e)))
     exact ⟨z.1,z.2.1⟩
    refine ⟨m',hm,i + 1,H9,I9.unpinned.weak (by rw [len6]) (fun k v e=>?_),T.keep _ _ _ st5 fun b hb o e=>(pin9 b hb o e).1,fun b hb=>?_,w9⟩
    ·have hk:k < (st σ).length:=(List.getElem?_eq_some_iff.mp e).1
     have hkN:k < N.length:=by rw [<- B.len σ]; exact hk
     obtain ⟨_,hks,_⟩:=B.val σ k _ v (List.getElem?_eq_getElem hkN) e
     rw [ag6 k hks]
     exact e
    ·obtain ⟨o,e,_⟩:=T.obj _ _ st5 b hb
     exact (pin9 b hb o e).2
   cases ok with
   | false =>
    rw [if_neg Bool.false_ne_true] at q7 ⊢
    exact again I7 q7
   | true =>
    rw [if_pos rfl] at q7 ⊢
    exact thn (he C fp s₂ H1 _ _ s7 σ6 H7 _ I7 q7) fun _ s8 ⟨H8,I8,q8⟩=>again I8 q8
 exact hS (loop _ rfl) (T.self X.A 0 _ _ _ h01 (loop _ rfl))
theorem pe_cb (B:BlkNames X scope N st ks) (hc:X.calm=true) (hi:PI X tg iter wi) (hg:∀ C fp s₀ H₀,PG (X.block scope C N fp s₀ H₀) tg g) (hgo:GOnly g ks) (ht:∀ C fp s₀ H₀,PIfs (X.block scope C N fp s₀ H₀) ifs tt)
  (hT:TurnIs e tg iter ifs body) (hS:StartIs e) (hA:AccIs mk obs o) (he:∀ C fp s₀ H₀,PB (X.block scope C N fp s₀ H₀) body tb) (hcs:clausesOf e=[⟨tg,iter,ifs,0⟩]) (hev:eval e X.env=comprehension e scope X.env (firstIterPos [⟨tg,iter,ifs,0⟩] pos) mk false (eval iter X.env)) (hs:∀ x,foldedSetIterable iter X.env x=pure x:=by intro _; rfl):PE X e (tCBk o wi st g tt tb):=by
 intro pins s σ H Q I h
 have hcl:closureFor scope X.env=pure (clOf scope X.env):=closureFor_eq fun y hy hk=>I.ok.has _ (B.free y hy hk)
 rw [hev]
 refine wpAny_comprehension_free (use:=none) hcs hs hcl B.kind B.loc (thn (hi pins s σ H _ I h) fun v s1 h1=>thn h1 fun itv s2 h2=>?_)
 obtain ⟨it,fp,tn,J,H2,e,I2,T,st2,f2,hq⟩:=h2
 subst e
 refine cb_block (RR:=fun acc C=>compPost (model X.prog X.w) X.A X.xe none (EP X pins σ Q) acc C) B hc hT hS hA hg hgo ht he I2 T st2 f2 hq ?_
 intro D C H' s' hJ hCle q
 have I3:=back_of I2 f2 hJ
 obtain ⟨σ',J'⟩:=hJ
 obtain ⟨m,hn,_⟩:=id J'.loc
 have hHC:H' C=none:=J'.free
 refine ⟨m,hn,fun h'' hs''=>⟨.ref D,H',?_,rfl,q⟩⟩
 exact I3.turned (t':=s'.toks) (fun b o ne e=>(hs''.2 b ne).trans e) hHC (Nat.ne_of_gt (Nat.lt_of_lt_of_le I2.lt hCle)) (.inr (Nat.le_trans I2.sz hCle))
  (fun x c e z=>by obtain ⟨v,ic⟩:=I2.cell x c e; exact absurd (Nat.lt_of_lt_of_le ic.lt (by rw [z]; exact hCle)) (Nat.lt_irrefl _))
  (fun p hp z=>absurd (Nat.lt_of_lt_of_le (Heap.lt_size (I2.pin p hp).1) (by rw [z]; exact hCle)) (Nat.lt_irrefl _))
end
noncomputable def setBody (elt:Expr) (env:Env) (D:Addr):Sem Unit:=do
 let v <- eval elt env
 standAt elt.pos
 let _ <- call (.builtin "set.add") [.ref D,v]
noncomputable def dictBody (kx vx:Expr) (env:Env) (D:Addr):Sem Unit:=do
 let kv <- eval kx env
 let vv <- holding [kv] (eval vx env); standAt { kx.pos with endLine:=vx.pos.endLine,endCol:=vx.pos.endCol }
 holding [kv,vv] (dictSet D kv vv)
theorem turn_set (elt tg iter:Expr) (ifs:List Expr) (scope:Scope) (pos:Pos):TurnIs (.SetComp elt [⟨tg,iter,ifs,0⟩] scope pos) tg iter ifs (setBody elt) :=
 ⟨fun _ _ _ _=>rfl,fun _ _ _ _ _=>rfl,fun _ _ _=>rfl⟩
theorem turn_dict (kx vx tg iter:Expr) (ifs:List Expr) (scope:Scope) (pos:Pos):TurnIs (.DictComp kx vx [⟨tg,iter,ifs,0⟩] scope pos) tg iter ifs (dictBody kx vx) :=
 ⟨fun _ _ _ _=>rfl,fun _ _ _ _ _=>rfl,fun _ _ _=>rfl⟩
theorem start_set (elt tg iter:Expr) (ifs:List Expr) (scope:Scope) (pos:Pos):StartIs (.SetComp elt [⟨tg,iter,ifs,0⟩] scope pos):=by
 intro prog w A R s it acc env h0 h
 refine codeAny_of_tree ?_
 show wpAny _ A ((compStart (.SetComp elt [⟨tg,iter,ifs,0⟩] scope pos) 0 it acc env).onRaise (fun x=>do noteFrame x env; standAt theWindowsPlace)) _ _ s
 refine wpAny_notedAt ?_
 unfold compStart; show wpAny _ A (ask >>= _) _ _ s
 refine wpAny_bind (wpAny_askSetting (wpAny_ite ?_)); split
 ·first | exact wpAny_bind (wpAny_pure (wpAny_pure (And.intro rfl h0))) | exact wpAny_pure (And.intro rfl h0)
 ·first
   | exact wpAny_bind (wpAny_rule (wpAny_bind (wpAny_standAt (wpAny_bind (wpAny_mono h (fun it2 s2 h2=>wpAny_pure (And.intro rfl h2)) fun _ _ x=>x)))))
   | (refine wpAny_bind (wpAny_rule ?_); (show wpAny _ _ (standAt iter.pos >>= _) _ _ s); exact wpAny_bind (wpAny_standAt (wpAny_bind (wpAny_mono h (fun it2 s2 h2=>wpAny_pure (And.intro rfl h2)) fun _ _ x=>x))))
theorem start_dict (kx vx tg iter:Expr) (ifs:List Expr) (scope:Scope) (pos:Pos):StartIs (.DictComp kx vx [⟨tg,iter,ifs,0⟩] scope pos):=fun h0 h=>codeAny_compStart_dict h0 h
end L2
namespace L2
open PySem PySem.Spec PyProof.Rows
noncomputable def tbSet (te:TE):Addr->St->Hp->(Hp->Prop)->Prop:=fun D σ H Q=>te σ H fun y H1=>∃ i S n,y = .int i/\H1 D=some (.set S n)/\n + 1 < scanBound/\Q (upd H1 D (.set (fun k=>S k || decide (k=i)) (if S i then n else n + 1)))
theorem pb_set {X:Cx} {elt:Expr} {te:TE} (he:PE X elt te):PB X (setBody elt) (tbSet te):=by
 intro D pins s σ H Q I h
 unfold setBody
 refine wpAny_bind (thn (he pins s σ H _ I h) fun u s1 ⟨y,H1,I1,r1,i,S,n,ey,hD,hn,q⟩=>?_)
 subst ey
 obtain ⟨tk,rfl⟩:=r1
 refine wpAny_bind (wpAny_standAt (wpAny_bind ?_))
 have hS:s1.heap.SetOf (intKind X.prog X.w) D S n:=I1.hok D _ hD
 refine call_set_add (k:=i) (by simp [intKind,Value.isInt]) rfl hS hn fun h' hsb hS'=>wpAny_pure ⟨_,?_,q⟩
 refine I1.write (x:=D) (e:=D) (by rw [hD]; exact trivial) (.inl rfl) (fun b' u hb hu=>(hsb.2 b' hb).trans hu) ?_ hS'
 obtain ⟨o,_,_,_,ho,_⟩:=hS'
 exact ⟨o,ho⟩
theorem acc_set:AccIs (newSet (.type "set")) (fun ob=>∃ led,ob={ cls:=.type "set",dict:=none,data:=.set #[] 0 (.fresh 0 0 led) }) (fun _=>.set (fun _=>false) 0) where
 make:=fun {prog w A Q E s} h=>wpAny_newSet_of (knd:=intKind prog w) fun led _=>h _ ⟨led,rfl⟩
 live:=by rintro ob ⟨led,rfl⟩; rfl
 ok:=by
  rintro P w H h a ob ⟨led,rfl⟩ hg _
  exact ⟨_,#[],0,_,hg,⟨rfl,rfl,rfl⟩,rfl,fun e he=>by simp at he,fun k=>by simp,by decide,by rfl,rfl⟩
section
variable {X:Cx} {elt tg iter:Expr} {ifs:List Expr} {scope:Scope} {pos:Pos} {N:List Str} {st:St->St} {ks:List Nat} {wi:TI} {g:TG} {tt:TT} {te:TE}
theorem pe_setc (B:BlkNames X scope N st ks) (hc:X.calm=true) (hi:PI X tg iter wi) (hg:∀ C fp s₀ H₀,PG (X.block scope C N fp s₀ H₀) tg g) (hgo:GOnly g ks) (ht:∀ C fp s₀ H₀,PIfs (X.block scope C N fp s₀ H₀) ifs tt)
  (he:∀ C fp s₀ H₀,PE (X.block scope C N fp s₀ H₀) elt te) (hs:∀ x,foldedSetIterable iter X.env x=pure x:=by intro _; rfl):PE X (.SetComp elt [⟨tg,iter,ifs,0⟩] scope pos) (tCBk (fun _=>.set (fun _=>false) 0) wi st g tt (tbSet te)) :=
 pe_cb (pos:=pos) B hc hi hg hgo ht (turn_set elt tg iter ifs scope pos) (start_set elt tg iter ifs scope pos) acc_set (fun C fp s₀ H₀=>pb_set (he C fp s₀ H₀)) rfl rfl hs
end
end L2
namespace VL
open PySem PySem.Spec PyProof.Rows L2
inductive D where
 | non | bl (b:Bool) | int (i:Int) | str (x:Str) | tup (l:List D) | lst (l:List D) | dct (ks vs:List D) | set (l:List Int) | scr (l:List Int)
instance:Inhabited D:=⟨.non⟩
noncomputable def kD:Key->D
 | .inl i=>.int i
 | .inr x=>.str x
variable {K:PySem.W.Frag}
noncomputable def ScrOk (K:PySem.W.Frag) (H:Hp) (a:Addr) (ns:List Int):Prop:=(∃ o,H a=some (.frz o (.lst (ns.map V.int)))) \/
 ∃ (o:Obj) (its:Array Value) (n:Nat),K.lookup a=some o/\o.cls = .type "list"/\o.dict=none/\o.data = .seq its n/\its.size <= sizeLine/\Vals (ns.map V.int) its.toList
theorem ScrOk.sq {H:Hp} {a:Addr} {ns:List Int} (h:ScrOk K H a ns):SqL K H a (ns.map V.int):=by
 rcases h with h | h
 ·exact .inl (.inr h)
 ·exact .inr h
noncomputable def hsh (ns:List Int):Int:=reduceHash (Builtin.Tuple.tupleHashOf (ns.map hashInt))
noncomputable def dxO (a:Addr) (es:List (List Int × Addr × V)):HO:=.ext fun h=>es.length <= sizeLine/\(a == sysModules)=false/\∃ (xs:List (List Int × Addr × Value)) (o:Obj) (ts:Array DictEntry) (ep:Nat),Paired (fun e x=>e.1=x.1/\e.2.1=x.2.1/\RelV e.2.2 x.2.2) es xs /\
 h.get? a=some o/\o.ExactDict/\o.data = .dict ts ep/\ts.toList=xs.map fun x=>⟨hsh x.1,.ref x.2.1,x.2.2⟩
structure DxK (K:PySem.W.Frag) (H:Hp) (a:Addr) (es:List (List Int × Addr × V)):Prop where
 at_:H a=some (dxO a es)
 ks:∀ e ∈ es,SqT K H e.2.1 (e.1.map V.int)
 nd:(es.map (·.1)).Nodup
mutual
inductive Rp (K:PySem.W.Frag):(Addr->Prop)->Hp->V->D->Prop where
 | non {A:Addr->Prop} {H:Hp}:Rp K A H .non .non
 | bl {A:Addr->Prop} {H:Hp} (b:Bool):Rp K A H (.bl b) (.bl b)
 | int {A:Addr->Prop} {H:Hp} (i:Int):Rp K A H (.int i) (.int i)
 | str {A:Addr->Prop} {H:Hp} (x:Str):Rp K A H (.str x) (.str x)
 | tup {A:Addr->Prop} {H:Hp} {a:Addr} {xs:List V} {ds:List D} (h:SqT K H a xs) (r:Rps K A H xs ds):Rp K A H (.ref a) (.tup ds)
 | lst {A:Addr->Prop} {H:Hp} {a:Addr} {xs:List V} {ds:List D} (h:H a=some (.lst xs)) (m:A a) (r:Rps K (fun p=>A p/\p ≠ a) H xs ds):Rp K A H (.ref a) (.lst ds)
 | dK {A:Addr->Prop} {H:Hp} {a:Addr} {kvs:List (Key × V)} {ds:List D} (h:H a=some (.dK kvs)) (m:A a) (r:Rps K (fun p=>A p/\p ≠ a) H (kvs.map (·.2)) ds):Rp K A H (.ref a) (.dct (kvs.map fun p=>kD p.1) ds)
 | dT {A:Addr->Prop} {H:Hp} {a:Addr} {es:List (List Int × Addr × V)} {ds:List D} (h:DxK K H a es) (m:A a) (r:Rps K (fun p=>A p/\p ≠ a) H (es.map (·.2.2)) ds):Rp K A H (.ref a) (.dct (es.map fun e=>.tup (e.1.map .int)) ds)
 | set {A:Addr->Prop} {H:Hp} {a:Addr} {S:Int->Bool} {l:List Int} (h:H a=some (.set S l.length)) (m:A a) (hS:∀ i,S i=decide (i ∈ l)) (nd:l.Nodup):Rp K A H (.ref a) (.set l)
 | scr {A:Addr->Prop} {H:Hp} {a:Addr} {ns:List Int} (h:ScrOk K H a ns):Rp K A H (.ref a) (.scr ns)
inductive Rps (K:PySem.W.Frag):(Addr->Prop)->Hp->List V->List D->Prop where
 | nil {A:Addr->Prop} {H:Hp}:Rps K A H [] []
 | cons {A:Addr->Prop} {H:Hp} {x:V} {d:D} {xs:List V} {ds:List D} (h:Rp K A H x d) (r:Rps K A H xs ds):Rps K A H (x :: xs) (d :: ds)
end
theorem ScrOk.mono {H H':Hp} {a:Addr} {ns:List Int} (s:Same H H') (h:ScrOk K H a ns):ScrOk K H' a ns:=by
 rcases h with ⟨o,h⟩ | h
 ·exact .inl ⟨o,s _ _ h⟩
 ·exact .inr h
theorem DxK.mono {H H':Hp} {a:Addr} {es:List (List Int × Addr × V)} (h:DxK K H a es) (s:Same H H'):DxK K H' a es:=⟨s _ _ h.at_,fun e he=>s.sqt (h.ks e he),h.nd⟩
theorem Rp.mono' {H H':Hp} (s:Same H H') {A A':Addr->Prop} {x:V} {d:D} (r:Rp K A H x d) (hA:∀ p o,H p=some o->A p->A' p):Rp K A' H' x d :=
 Rp.rec (motive_1:=fun A H x d _=>∀ H',Same H H'->∀ A':Addr->Prop,(∀ p o,H p=some o->A p->A' p)->Rp K A' H' x d) (motive_2:=fun A H xs ds _=>∀ H',Same H H'->∀ A':Addr->Prop,(∀ p o,H p=some o->A p->A' p)->Rps K A' H' xs ds)
  (fun _ _ _ _=>.non) (fun b _ _ _ _=>.bl b) (fun i _ _ _ _=>.int i) (fun x _ _ _ _=>.str x) (fun h _ ih _ s _ hA=>.tup (s.sqt h) (ih _ s _ hA))
  (fun h m _ ih _ s _ hA=>.lst (s _ _ h) (hA _ _ h m) (ih _ s _ fun p o e z=>⟨hA p o e z.1,z.2⟩)) (fun h m _ ih _ s _ hA=>.dK (s _ _ h) (hA _ _ h m) (ih _ s _ fun p o e z=>⟨hA p o e z.1,z.2⟩))
  (fun h m _ ih _ s _ hA=>.dT (h.mono s) (hA _ _ h.at_ m) (ih _ s _ fun p o e z=>⟨hA p o e z.1,z.2⟩)) (fun h m hS nd _ s _ hA=>.set (s _ _ h) (hA _ _ h m) hS nd) (fun h _ s _ _=>.scr (h.mono s)) (fun _ _ _ _=>.nil) (fun _ _ ih ir _ s _ hA=>.cons (ih _ s _ hA) (ir _ s _ hA)) r H' s A' hA
theorem Rps.mono' {H H':Hp} (s:Same H H') {A A':Addr->Prop} {xs:List V} {ds:List D} (r:Rps K A H xs ds) (hA:∀ p o,H p=some o->A p->A' p):Rps K A' H' xs ds :=
 Rps.rec (motive_1:=fun A H x d _=>∀ H',Same H H'->∀ A':Addr->Prop,(∀ p o,H p=some o->A p->A' p)->Rp K A' H' x d) (motive_2:=fun A H xs ds _=>∀ H',Same H H'->∀ A':Addr->Prop,(∀ p o,H p=some o->A p->A' p)->Rps K A' H' xs ds)
  (fun _ _ _ _=>.non) (fun b _ _ _ _=>.bl b) (fun i _ _ _ _=>.int i) (fun x _ _ _ _=>.str x) (fun h _ ih _ s _ hA=>.tup (s.sqt h) (ih _ s _ hA))
  (fun h m _ ih _ s _ hA=>.lst (s _ _ h) (hA _ _ h m) (ih _ s _ fun p o e z=>⟨hA p o e z.1,z.2⟩)) (fun h m _ ih _ s _ hA=>.dK (s _ _ h) (hA _ _ h m) (ih _ s _ fun p o e z=>⟨hA p o e z.1,z.2⟩))
  (fun h m _ ih _ s _ hA=>.dT (h.mono s) (hA _ _ h.at_ m) (ih _ s _ fun p o e z=>⟨hA p o e z.1,z.2⟩)) (fun h m hS nd _ s _ hA=>.set (s _ _ h) (hA _ _ h m) hS nd) (fun h _ s _ _=>.scr (h.mono s)) (fun _ _ _ _=>.nil) (fun _ _ ih ir _ s _ hA=>.cons (ih _ s _ hA) (ir _ s _ hA)) r H' s A' hA
theorem Rp.mono {A A':Addr->Prop} {H H':Hp} (s:Same H H') (hA:∀ p o,H p=some o->A p->A' p) {x:V} {d:D} (r:Rp K A H x d):Rp K A' H' x d:=r.mono' s hA
theorem Rps.mono {A A':Addr->Prop} {H H':Hp} (s:Same H H') (hA:∀ p o,H p=some o->A p->A' p) {x:List V} {d:List D} (r:Rps K A H x d):Rps K A' H' x d:=r.mono' s hA
theorem Rp.up {A:Addr->Prop} {H H':Hp} (s:Same H H') {x:V} {d:D} (r:Rp K A H x d):Rp K A H' x d:=r.mono s fun _ _ _ h=>h
theorem Rp.wk {A A':Addr->Prop} {H:Hp} (hA:∀ p o,H p=some o->A p->A' p) {x:V} {d:D} (r:Rp K A H x d):Rp K A' H x d:=r.mono (Same.refl H) hA
theorem Rps.up {A:Addr->Prop} {H H':Hp} (s:Same H H') {x:List V} {d:List D} (r:Rps K A H x d):Rps K A H' x d:=r.mono s fun _ _ _ h=>h
theorem Rps.wk {A A':Addr->Prop} {H:Hp} (hA:∀ p o,H p=some o->A p->A' p) {x:List V} {d:List D} (r:Rps K A H x d):Rps K A' H x d:=r.mono (Same.refl H) hA
noncomputable def isMut:HO->Bool
 | .lst _=>true | .dK _=>true | .dT _=>true | .set _ _=>true | .ext _=>true | _=>false
theorem sqt_but {l:Addr} {H H':Hp} (s:Butl l H H') {o:HO} (hl:H l=some o) (ho:isMut o=true) {a:Addr} {xs:List V} (h:SqT K H a xs):SqT K H' a xs:=by
 rcases h with (h | ⟨u,h⟩) | h
 ·refine .inl (.inl (s _ _ (fun e=>?_) h))
  subst e; rw [hl] at h; cases h; cases ho
 ·refine .inl (.inr ⟨u,s _ _ (fun e=>?_) h⟩)
  subst e; rw [hl] at h; cases h; cases ho
 ·exact .inr h
theorem scr_but {l:Addr} {H H':Hp} (s:Butl l H H') {o:HO} (hl:H l=some o) (ho:isMut o=true) {a:Addr} {ns:List Int} (h:ScrOk K H a ns):ScrOk K H' a ns:=by
 rcases h with ⟨u,h⟩ | h
 ·exact .inl ⟨u,s _ _ (fun e=>by subst e; rw [hl] at h; cases h; cases ho) h⟩
 ·exact .inr h
theorem DxK.but {l:Addr} {H H':Hp} {a:Addr} {es:List (List Int × Addr × V)} (h:DxK K H a es) (s:Butl l H H') {o:HO} (hl:H l=some o) (ho:isMut o=true) (ne:a ≠ l):DxK K H' a es :=
 ⟨s _ _ ne h.at_,fun e he=>sqt_but s hl ho (h.ks e he),h.nd⟩
theorem Rp.but' {l:Addr} {H H':Hp} (s:Butl l H H') {o:HO} (hl:H l=some o) (ho:isMut o=true) {A:Addr->Prop} {x:V} {d:D} (r:Rp K A H x d) (hA:¬ A l):Rp K A H' x d :=
 Rp.rec (motive_1:=fun A H x d _=>∀ H',Butl l H H'->∀ o:HO,H l=some o->isMut o=true->¬ A l->Rp K A H' x d) (motive_2:=fun A H xs ds _=>∀ H',Butl l H H'->∀ o:HO,H l=some o->isMut o=true->¬ A l->Rps K A H' xs ds)
  (fun _ _ _ _ _ _=>.non) (fun b _ _ _ _ _ _=>.bl b) (fun i _ _ _ _ _ _=>.int i) (fun x _ _ _ _ _ _=>.str x) (fun h _ ih _ s o hl ho hA=>.tup (sqt_but s hl ho h) (ih _ s o hl ho hA))
  (fun h m _ ih _ s o hl ho hA=>.lst (s _ _ (fun e=>hA (e ▸ m)) h) m (ih _ s o hl ho fun z=>hA z.1)) (fun h m _ ih _ s o hl ho hA=>.dK (s _ _ (fun e=>hA (e ▸ m)) h) m (ih _ s o hl ho fun z=>hA z.1))
  (fun h m _ ih _ s o hl ho hA=>.dT (h.but s hl ho fun e=>hA (e ▸ m)) m (ih _ s o hl ho fun z=>hA z.1)) (fun h m hS nd _ s o hl ho hA=>.set (s _ _ (fun e=>hA (e ▸ m)) h) m hS nd) (fun h _ s o hl ho _=>.scr (scr_but s hl ho h)) (fun _ _ _ _ _ _=>.nil) (fun _ _ ih ir _ s o hl ho hA=>.cons (ih _ s o hl ho hA) (ir _ s o hl ho hA)) r H' s o hl ho hA
theorem Rps.but' {l:Addr} {H H':Hp} (s:Butl l H H') {o:HO} (hl:H l=some o) (ho:isMut o=true) {A:Addr->Prop} {xs:List V} {ds:List D} (r:Rps K A H xs ds) (hA:¬ A l):Rps K A H' xs ds :=
 Rps.rec (motive_1:=fun A H x d _=>∀ H',Butl l H H'->∀ o:HO,H l=some o->isMut o=true->¬ A l->Rp K A H' x d) (motive_2:=fun A H xs ds _=>∀ H',Butl l H H'->∀ o:HO,H l=some o->isMut o=true->¬ A l->Rps K A H' xs ds)
  (fun _ _ _ _ _ _=>.non) (fun b _ _ _ _ _ _=>.bl b) (fun i _ _ _ _ _ _=>.int i) (fun x _ _ _ _ _ _=>.str x) (fun h _ ih _ s o hl ho hA=>.tup (sqt_but s hl ho h) (ih _ s o hl ho hA))
  (fun h m _ ih _ s o hl ho hA=>.lst (s _ _ (fun e=>hA (e ▸ m)) h) m (ih _ s o hl ho fun z=>hA z.1)) (fun h m _ ih _ s o hl ho hA=>.dK (s _ _ (fun e=>hA (e ▸ m)) h) m (ih _ s o hl ho fun z=>hA z.1))
  (fun h m _ ih _ s o hl ho hA=>.dT (h.but s hl ho fun e=>hA (e ▸ m)) m (ih _ s o hl ho fun z=>hA z.1)) (fun h m hS nd _ s o hl ho hA=>.set (s _ _ (fun e=>hA (e ▸ m)) h) m hS nd) (fun h _ s o hl ho _=>.scr (scr_but s hl ho h)) (fun _ _ _ _ _ _=>.nil) (fun _ _ ih ir _ s o hl ho hA=>.cons (ih _ s o hl ho hA) (ir _ s o hl ho hA)) r H' s o hl ho hA
theorem Rp.but {A:Addr->Prop} {l:Addr} {H H':Hp} (s:Butl l H H') {o:HO} (hl:H l=some o) (ho:isMut o=true) (hA:¬ A l) {x:V} {d:D} (r:Rp K A H x d):Rp K A H' x d:=r.but' s hl ho hA
theorem Rps.but {A:Addr->Prop} {l:Addr} {H H':Hp} (s:Butl l H H') {o:HO} (hl:H l=some o) (ho:isMut o=true) (hA:¬ A l) {x:List V} {d:List D} (r:Rps K A H x d):Rps K A H' x d:=r.but' s hl ho hA
mutual
noncomputable def imm:D->Bool
 | .tup l=>imms l
 | .lst _=>false
 | .dct _ _=>false
 | .set _=>false
 | _=>true
noncomputable def imms:List D->Bool
 | []=>true
 | d :: r=>imm d && imms r
end
theorem imms_cons {d:D} {r:List D} (e:imms (d :: r)=true):imm d=true/\imms r=true:=by
 simp only [imms,Bool.and_eq_true] at e
 exact e
theorem imm_tup {l:List D} (e:imm (.tup l)=true):imms l=true:=by simpa [imm] using e
theorem imm_lst {l:List D} (e:imm (.lst l)=true):False:=by simp [imm] at e
theorem imm_dct {l k:List D} (e:imm (.dct l k)=true):False:=by simp [imm] at e
theorem imm_set {l:List Int} (e:imm (.set l)=true):False:=by simp [imm] at e
theorem Rp.imm' {H:Hp} {A A':Addr->Prop} {x:V} {d:D} (r:Rp K A H x d) (e:VL.imm d=true):Rp K A' H x d :=
 Rp.rec (motive_1:=fun _ H x d _=>VL.imm d=true->Rp K A' H x d) (motive_2:=fun _ H xs ds _=>imms ds=true->Rps K A' H xs ds)
  (fun _=>.non) (fun b _=>.bl b) (fun i _=>.int i) (fun x _=>.str x) (fun h _ ih e=>.tup h (ih (imm_tup e)))
  (fun _ _ _ _ e=>(imm_lst e).elim) (fun _ _ _ _ e=>(imm_dct e).elim) (fun _ _ _ _ e=>(imm_dct e).elim) (fun _ _ _ _ e=>(imm_set e).elim) (fun h _=>.scr h) (fun _=>.nil) (fun _ _ ih ir e=>.cons (ih (imms_cons e).1) (ir (imms_cons e).2)) r e
theorem Rps.imm' {H:Hp} {A A':Addr->Prop} {xs:List V} {ds:List D} (r:Rps K A H xs ds) (e:imms ds=true):Rps K A' H xs ds :=
 Rps.rec (motive_1:=fun _ H x d _=>VL.imm d=true->Rp K A' H x d) (motive_2:=fun _ H xs ds _=>imms ds=true->Rps K A' H xs ds)
  (fun _=>.non) (fun b _=>.bl b) (fun i _=>.int i) (fun x _=>.str x) (fun h _ ih e=>.tup h (ih (imm_tup e)))
  (fun _ _ _ _ e=>(imm_lst e).elim) (fun _ _ _ _ e=>(imm_dct e).elim) (fun _ _ _ _ e=>(imm_dct e).elim) (fun _ _ _ _ e=>(imm_set e).elim) (fun h _=>.scr h) (fun _=>.nil) (fun _ _ ih ir e=>.cons (ih (imms_cons e).1) (ir (imms_cons e).2)) r e
theorem Rp.imm {A A':Addr->Prop} {H:Hp} {x:V} {d:D} (r:Rp K A H x d) (h:VL.imm d=true):Rp K A' H x d:=r.imm' h
theorem Rps.imm {A A':Addr->Prop} {H:Hp} {x:List V} {d:List D} (r:Rps K A H x d) (h:imms d=true):Rps K A' H x d:=r.imm' h
theorem Rp.int_inv {A:Addr->Prop} {H:Hp} {v:V} {i:Int} (r:Rp K A H v (.int i)):v = .int i:=by cases r; rfl
theorem Rp.bl_inv {A:Addr->Prop} {H:Hp} {v:V} {b:Bool} (r:Rp K A H v (.bl b)):v = .bl b:=by cases r; rfl
theorem Rp.tup_inv {A:Addr->Prop} {H:Hp} {v:V} {ds:List D} (r:Rp K A H v (.tup ds)):∃ a xs,v = .ref a/\SqT K H a xs/\Rps K A H xs ds:=by cases r with | tup h r=>exact ⟨_,_,rfl,h,r⟩
theorem Rp.lst_inv {A:Addr->Prop} {H:Hp} {v:V} {ds:List D} (r:Rp K A H v (.lst ds)):∃ a xs,v = .ref a/\H a=some (.lst xs)/\A a/\Rps K (fun p=>A p/\p ≠ a) H xs ds:=by cases r with | lst h m r=>exact ⟨_,_,rfl,h,m,r⟩
theorem Rp.scr_inv {A:Addr->Prop} {H:Hp} {v:V} {ns:List Int} (r:Rp K A H v (.scr ns)):∃ a,v = .ref a/\ScrOk K H a ns:=by cases r with | scr h=>exact ⟨_,rfl,h⟩
theorem Rps.one_inv {A:Addr->Prop} {H:Hp} {vs:List V} {d:D} (r:Rps K A H vs [d]):∃ v,vs=[v]/\Rp K A H v d:=by cases r with | cons h r=>cases r; exact ⟨_,rfl,h⟩
section
variable {A:Addr->Prop} {H:Hp}
theorem Rps.length:∀ {xs:List V} {ds:List D},Rps K A H xs ds->xs.length=ds.length:=by
 intro xs ds h
 induction xs generalizing ds with
 | nil=>cases h; rfl
 | cons x xs ih=>cases h with | cons _ r=>exact congrArg (· + 1) (ih r)
theorem Rps.get:∀ {xs:List V} {ds:List D} {i:Nat} {x:V},Rps K A H xs ds->xs[i]? = some x->∃ d,ds[i]? = some d/\Rp K A H x d
 | _,_,_,_,.nil,e=>by simp at e
 | _,_,0,_,.cons h _,e=>by simp at e; subst e; exact ⟨_,rfl,h⟩
 | _,_,i + 1,x,.cons _ r,e=>by
  obtain ⟨d,h1,h2⟩:=Rps.get (i:=i) (x:=x) r (by simpa using e)
  exact ⟨d,by simpa using h1,h2⟩
theorem Rps.getD:∀ {xs:List V} {ds:List D} {i:Nat} {d:D},Rps K A H xs ds->ds[i]? = some d->∃ x,xs[i]? = some x/\Rp K A H x d
 | _,_,_,_,.nil,e=>by simp at e
 | _,_,0,_,.cons h _,e=>by simp at e; subst e; exact ⟨_,rfl,h⟩
 | _,_,i + 1,d,.cons _ r,e=>by
  obtain ⟨x,h1,h2⟩:=Rps.getD (i:=i) (d:=d) r (by simpa using e)
  exact ⟨x,by simpa using h1,h2⟩
theorem Rps.append:∀ {xs ys:List V} {ds es:List D},Rps K A H xs ds->Rps K A H ys es->Rps K A H (xs ++ ys) (ds ++ es):=by
 intro xs ys ds es h s
 induction xs generalizing ds with
 | nil=>cases h; exact s
 | cons x xs ih=>cases h with | cons h r=>exact .cons h (ih r)
theorem Rps.take:∀ {xs:List V} {ds:List D} (n:Nat),Rps K A H xs ds->Rps K A H (xs.take n) (ds.take n)
 | _,_,0,_=>.nil
 | _,_,_ + 1,.nil=>.nil
 | _,_,n + 1,.cons h r=>.cons h (Rps.take n r)
theorem Rps.drop:∀ {xs:List V} {ds:List D} (n:Nat),Rps K A H xs ds->Rps K A H (xs.drop n) (ds.drop n)
 | _,_,0,r=>r
 | _,_,_ + 1,.nil=>.nil
 | _,_,n + 1,.cons _ r=>Rps.drop n r
theorem Rps.reverse:∀ {xs:List V} {ds:List D},Rps K A H xs ds->Rps K A H xs.reverse ds.reverse:=by
 intro xs ds h
 induction xs generalizing ds with
 | nil=>cases h; exact .nil
 | cons x xs ih =>
  cases h with
  | cons h r =>
   rw [List.reverse_cons,List.reverse_cons]
   exact Rps.append (ih r) (.cons h .nil)
theorem Rps.ints:∀ {ns:List Int},Rps K A H (ns.map V.int) (ns.map D.int)
 | []=>.nil
 | n :: ns=>.cons (.int n) Rps.ints
theorem Rps.ints_of:∀ {xs:List V} {ns:List Int},Rps K A H xs (ns.map D.int)->xs=ns.map V.int
 | _,[],.nil=>rfl
 | _,n :: ns,.cons h r=>by
  cases h
  rw [List.map_cons,Rps.ints_of r]
end
theorem by_def {α:Type} {a b:α} (h:a=b):a=b:=h
inductive Rs (α:Type) where
 | ok (a:α) | ex (c:Str) | st
noncomputable def Rs.bd {α β:Type}:Rs α->(α->Rs β)->Rs β
 | .ok a,f=>f a
 | .ex c,_=>.ex c
 | .st,_=>.st
@[simp] theorem bd_ok {α β:Type} (a:α) (f:α->Rs β):(Rs.ok a).bd f=f a:=by_def rfl
theorem bd_eq_ok {α β:Type} {r:Rs α} {f:α->Rs β} {b:β} (h:r.bd f = .ok b):∃ a,r = .ok a/\f a = .ok b:=by
 cases r with
 | ok a=>exact ⟨a,rfl,h⟩
 | ex c=>cases h
 | st=>cases h
inductive Slot where
 | no | sh (d:D) | nw (d:D) | ow (d:D) | oz (d:D) | o2 (l:List (List D))
noncomputable abbrev En:=List Slot
noncomputable abbrev Lab:=Addr->Nat × Nat
noncomputable abbrev Mode:=Option (List Nat)
noncomputable def inM (m:Mode) (n:Nat):Prop:=match m with
 | none=>True
 | some L=>n ∈ L
noncomputable def jn:Mode->Mode->Mode
 | some a,some b=>some (a ++ b)
 | _,_=>none
theorem inM_l {a b:Mode} {n:Nat} (h:inM a n):inM (jn a b) n:=by
 cases a with
 | none=>cases b <;> exact trivial
 | some L =>
  cases b with
  | none=>exact trivial
  | some M=>exact List.mem_append_left _ h
theorem inM_r {a b:Mode} {n:Nat} (h:inM b n):inM (jn a b) n:=by
 cases a with
 | none=>cases b <;> exact trivial
 | some L =>
  cases b with
  | none=>exact trivial
  | some M=>exact List.mem_append_right _ h
noncomputable def fpM (m:Mode) (lab:Lab) (H:Hp):Addr->Prop:=fun p=>H p=none\/inM m (lab p).1
theorem fpM_l {a b:Mode} {lab:Lab} {H:Hp} {p:Addr} (h:fpM a lab H p):fpM (jn a b) lab H p:=h.imp id inM_l
theorem fpM_r {a b:Mode} {lab:Lab} {H:Hp} {p:Addr} (h:fpM b lab H p):fpM (jn a b) lab H p:=h.imp id inM_r
theorem fpM_back {m:Mode} {lab:Lab} {H H':Hp} {p:Addr} (s:Same H H') (h:fpM m lab H' p):fpM m lab H p:=h.imp (fun z=>s.free z) id
structure Gx where
 H0:Hp
 E:XK
 cl:Str->Addr
noncomputable def mutD:D->Bool
 | .lst _=>true
 | .dct _ _=>true
 | .set _=>true
 | _=>false
noncomputable def SlotOk (K:PySem.W.Frag) (H:Hp) (lab:Lab) (i:Nat) (v:V):Slot->Prop
 | .no=>True
 | .sh d=>Rp K (fun p=>(lab p).1 <= 1) H v d
 | .nw d=>Rp K (fun p=>(lab p).1=1) H v d
 | .ow d=>Rp K (fun p=>(lab p).1=1\/(lab p).1=i + 2) H v d/\(mutD d=true->∃ a,v = .ref a/\(lab a).1=i + 2)
 | .oz d=>∃ a xs ds,v = .ref a/\d = .lst ds/\H a=some (.lst xs)/\(lab a).1=i + 2/\Rps K (fun p=>(lab p).1 <= 1) H xs ds
 | .o2 l=>∃ a xs,v = .ref a/\H a=some (.lst xs)/\lab a=(i + 2,0)/\xs.length=l.length/\∀ (j:Nat) x ds,xs[j]? = some x->l[j]? = some ds->Rp K (fun p=>lab p=(i + 2,j + 1)) H x (.lst ds)
structure RR (K:PySem.W.Frag) (G:Gx) (τ:List (V × D)) (ρ:En) (σ:L2.St) (H:Hp) (lab:Lab):Prop where
 len:σ.length=ρ.length
 sl:∀ (i:Nat) (s:Slot),ρ[i]? = some s->s = .no\/∃ v,σ[i]? = some (some v)/\SlotOk K H lab i v s
 old:Same G.H0 H
 new:∀ p,(lab p).1 ≠ 0->G.H0 p=none
 tm:∀ q ∈ τ,Rp K (fun p=>(lab p).1 <= 1) H q.1 q.2
theorem SlotOk.up {H H':Hp} {lab:Lab} {i:Nat} {v:V} (s:Same H H') {x:Slot} (h:SlotOk K H lab i v x):SlotOk K H' lab i v x:=by
 cases x with
 | no=>exact trivial
 | sh d=>exact Rp.up s h
 | nw d=>exact Rp.up s h
 | ow d=>exact ⟨Rp.up s h.1,h.2⟩
 | oz d =>
  obtain ⟨a,xs,ds,e1,e2,e3,e4,e5⟩:=h
  exact ⟨a,xs,ds,e1,e2,s _ _ e3,e4,e5.up s⟩
 | o2 l =>
  obtain ⟨a,xs,e1,e2,e3,e4,e5⟩:=h
  exact ⟨a,xs,e1,s _ _ e2,e3,e4,fun j x ds f1 f2=>(e5 j x ds f1 f2).up s⟩
theorem rp_top {A:Addr->Prop} {H:Hp} {a:Addr} {d:D} (r:Rp K A H (.ref a) d) (hm:mutD d=true):∃ o,H a=some o/\isMut o=true/\A a:=by
 cases r with
 | lst h m _=>exact ⟨_,h,rfl,m⟩
 | dK h m _=>exact ⟨_,h,rfl,m⟩
 | dT h m _=>exact ⟨_,h.at_,rfl,m⟩
 | set h m _ _=>exact ⟨_,h,rfl,m⟩
 | tup _ _=>cases hm
 | scr _=>cases hm
theorem SlotOk.lab {H:Hp} {lab lab':Lab} {i:Nat} {v:V} (hl:∀ p o,H p=some o->lab' p=lab p) {x:Slot} (h:SlotOk K H lab i v x):SlotOk K H lab' i v x:=by
 cases x with
 | no=>exact trivial
 | sh d=>exact Rp.wk (fun p o e q=>(hl p o e).symm ▸ q) h
 | nw d=>exact Rp.wk (fun p o e q=>(hl p o e).symm ▸ q) h
 | ow d =>
  obtain ⟨h,t⟩:=h
  refine ⟨Rp.wk (fun p o e q=>(hl p o e).symm ▸ q) h,fun m=>?_⟩
  obtain ⟨a,rfl,ea⟩:=t m
  obtain ⟨o,ho,_⟩:=rp_top h m
  exact ⟨a,rfl,(congrArg (·.1) (hl a o ho)).trans ea⟩
 | oz d =>
  obtain ⟨a,xs,ds,e1,e2,e3,e4,e5⟩:=h
  exact ⟨a,xs,ds,e1,e2,e3,(congrArg (·.1) (hl _ _ e3)).trans e4,Rps.wk (fun p o e q=>(hl p o e).symm ▸ q) e5⟩
 | o2 l =>
  obtain ⟨a,xs,e1,e2,e3,e4,e5⟩:=h
  exact ⟨a,xs,e1,e2,(hl _ _ e2).trans e3,e4,fun j x ds f1 f2=>Rp.wk (fun p o e q=>(hl p o e).symm ▸ q) (e5 j x ds f1 f2)⟩
section
variable {G:Gx} {τ:List (V × D)} {ρ:En} {σ:L2.St} {H H':Hp} {lab lab':Lab}
theorem RR.up (R:RR K G τ ρ σ H lab) (s:Same H H'):RR K G τ ρ σ H' lab :=
 ⟨R.len,fun i x e=>(R.sl i x e).imp id fun ⟨v,e1,e2⟩=>⟨v,e1,e2.up s⟩,R.old.trans s,R.new,fun q hq=>(R.tm q hq).up s⟩
theorem RR.relab (R:RR K G τ ρ σ H lab) (hl:∀ p o,H p=some o->lab' p=lab p) (hn:∀ p,(lab' p).1 ≠ 0->G.H0 p=none):RR K G τ ρ σ H lab' :=
 ⟨R.len,fun i x e=>(R.sl i x e).imp id fun ⟨v,e1,e2⟩=>⟨v,e1,e2.lab hl⟩,R.old,hn,fun q hq=>Rp.wk (fun p o e z=>by rw [hl p o e]; exact z) (R.tm q hq)⟩
theorem RR.drop {τ':List (V × D)} (R:RR K G (τ' ++ τ) ρ σ H lab):RR K G τ ρ σ H lab:=⟨R.len,R.sl,R.old,R.new,fun z hz=>R.tm z (List.mem_append_right _ hz)⟩
theorem RR.put {i:Nat} {v:V} {s:Slot} (R:RR K G τ ρ σ H lab) (h:SlotOk K H lab i v s):RR K G τ (ρ.set i s) (σ.set i (some v)) H lab:=by
 refine ⟨by rw [List.length_set,List.length_set,R.len],fun j x e=>?_,R.old,R.new,R.tm⟩
 by_cases hj:i=j
 ·subst hj
  have hi:i < ρ.length:=by
   have:=(List.getElem?_eq_some_iff.mp e).1
   rwa [List.length_set] at this
  rw [List.getElem?_set_self hi] at e
  cases e
  exact .inr ⟨v,by rw [List.getElem?_set_self (by rw [R.len]; exact hi)],h⟩
 ·rw [List.getElem?_set_ne hj] at e
  rcases R.sl j x e with z | ⟨u,e1,e2⟩
  ·exact .inl z
  ·exact .inr ⟨u,by rw [List.getElem?_set_ne hj]; exact e1,e2⟩
noncomputable def newLab (H:Hp) (n:Nat) (lab:Lab):Lab:=fun p=>match H p with
 | none=>(n,0)
 | some _=>lab p
theorem newLab_old {n:Nat} {p:Addr} {o:HO} (h:H p=some o):newLab H n lab p=lab p:=by unfold newLab; rw [h]
theorem newLab_new {n:Nat} {p:Addr} (h:H p=none):newLab H n lab p=(n,0):=by unfold newLab; rw [h]
theorem RR.fresh {m:Mode} {v:V} {d:D} {P:Nat->Prop} (h1:P 1) (hm:∀ k,inM m k->P k) (R:RR K G τ ρ σ H lab) (s:Same H H') (r:Rp K (fpM m lab H) H' v d) :
  RR K G τ ρ σ H' (newLab H 1 lab)/\Rp K (fun p=>P (newLab H 1 lab p).1) H' v d:=by
 refine ⟨(R.relab (fun p o e=>newLab_old e) fun p hp=>?_).up s,Rp.wk (fun p o e z=>?_) r⟩
 ·cases e:H p with
  | none=>exact R.old.free e
  | some o=>rw [newLab_old e] at hp; exact R.new p hp
 ·rcases z with z | z
  ·rw [newLab_new z]; exact h1
  ·cases e:H p with
   | none=>rw [newLab_new e]; exact h1
   | some o=>rw [newLab_old e]; exact hm _ z
theorem RR.freshO {m:Mode} {v:V} {d:D} (i:Nat) (hm:∀ k,inM m k->k=1\/k=i + 2) (R:RR K G τ ρ σ H lab) (s:Same H H') (r:Rp K (fpM m lab H) H' v d) (ht:mutD d=true->∃ a,v = .ref a/\H a=none) :
  ∃ lab',RR K G τ ρ σ H' lab'/\SlotOk K H' lab' i v (.ow d):=by
 obtain ⟨R',r'⟩:=R.fresh (P:=fun k=>k=1\/k=i + 2) (.inl rfl) hm s r
 cases hd:mutD d with
 | false=>exact ⟨_,R',r',fun z=>absurd z (by simp [hd])⟩
 | true =>
  obtain ⟨a,rfl,ha⟩:=ht hd
  refine ⟨fun p=>if p=a then (i + 2,0) else newLab H 1 lab p,?_,Rp.wk (fun p o e z=>?_) r',fun _=>⟨a,rfl,by show (if a=a then ((i + 2,0):Nat × Nat) else newLab H 1 lab a).1=i + 2; rw [if_pos rfl]⟩⟩
  ·refine (R.relab (lab':=fun p=>if p=a then (i + 2,0) else newLab H 1 lab p) (fun p o e=>?_) fun p hp=>?_).up s
   ·rw [if_neg (fun z=>by subst z; rw [ha] at e; cases e),newLab_old e]
   ·by_cases z:p=a
    ·subst z; exact R.old.free ha
    ·rw [if_neg z] at hp; exact R'.new p hp
  ·dsimp only
   by_cases q:p=a
   ·rw [if_pos q]; exact .inr rfl
   ·rw [if_neg q]; exact z
theorem oz_rp {H:Hp} {lab:Lab} {i:Nat} {v:V} {d:D} (h:SlotOk K H lab i v (.oz d)):Rp K (fun p=>(lab p).1 <= 1\/(lab p).1=i + 2) H v d:=by
 obtain ⟨a,xs,ds,rfl,rfl,h1,h2,h3⟩:=h
 exact .lst h1 (.inr h2) (h3.wk fun p o e z=>⟨.inl z,fun q=>by subst q; omega⟩)
end
end VL
namespace VL
open PySem PySem.Spec PyProof.Rows L2
set_option genInjectivity false in
structure Ct where
 ι:Type
 X:ι->Cx
 prog:Program
 w:World
 K:PySem.W.Frag
 mg:Str->Option Value
 base:Heap
 k:Nat
 G:Gx
 cx:∀ i,(X i).prog=prog/\(X i).w=w/\(X i).K=K/\(X i).mg=mg/\(X i).base=base
 calm:∀ i,(X i).calm=true
 room:∀ i,Room k (X i).A
 own:∀ i,PassesOwn (model (X i).prog (X i).w) (X i).A (X i).env (X i).xe
 pass:∀ i,Passes (CX1 (X i).prog (X i).w) (X i) G.E
 dOk:Bool
 dcx:dOk=true->∀ i,DefCx (X i) G.E
theorem Ct.hK (C:Ct) (i:C.ι):(C.X i).K=C.K:=(C.cx i).2.2.1
noncomputable def WR {α:Type} (G:Gx) (r:Rs α) (P:α->Prop):Prop:=match r with
 | .ok a=>P a
 | .ex c=>∀ H',Same G.H0 H'->G.E (.ref (G.cl c)) none H'
 | .st=>False
theorem WR.bd {α β:Type} {G:Gx} {r:Rs α} {k:α->Rs β} {P:β->Prop} (h:WR G (r.bd k) P):WR G r (fun a=>WR G (k a) P):=by
 cases r with
 | ok a=>exact h
 | ex c=>exact h
 | st=>exact h
theorem WR.imp {α:Type} {G:Gx} {r:Rs α} {P P':α->Prop} (h:WR G r P) (f:∀ a,r = .ok a->P a->P' a):WR G r P':=by
 cases r with
 | ok a=>exact f a rfl h
 | ex c=>exact h
 | st=>exact h
noncomputable abbrev QE (K:PySem.W.Frag) (m:Mode) (lab:Lab) (H:Hp) (Q:VK):D->Prop:=fun d=>∀ v H',Same H H'->Rp K (fpM m lab H) H' v d->Q v H'
noncomputable abbrev QA (K:PySem.W.Frag) (m:Mode) (lab:Lab) (H:Hp) (Q:List V->Hp->Prop):List D->Prop:=fun ds=>∀ vs H',Same H H'->Rps K (fpM m lab H) H' vs ds->Q vs H'
noncomputable abbrev QT (H:Hp) (Q:Bool->Hp->Prop):Bool->Prop:=fun b=>∀ H',Same H H'->Q b H'
noncomputable def SimE (K:PySem.W.Frag) (G:Gx) (m:Mode) (t:TE) (f:En->Rs D):Prop:=∀ τ σ H ρ lab (Q:VK),RR K G τ ρ σ H lab->WR G (f ρ) (QE K m lab H Q)->t σ H Q
noncomputable def SimA (K:PySem.W.Frag) (G:Gx) (m:Mode) (t:TA) (f:En->Rs (List D)):Prop:=∀ τ σ H ρ lab (Q:List V->Hp->Prop),RR K G τ ρ σ H lab->WR G (f ρ) (QA K m lab H Q)->t σ H Q
noncomputable def SimT (K:PySem.W.Frag) (G:Gx) (t:TT) (f:En->Rs Bool):Prop:=∀ τ σ H ρ lab (Q:Bool->Hp->Prop),RR K G τ ρ σ H lab->WR G (f ρ) (QT H Q)->t σ H Q
noncomputable def SE (C:Ct) (m:Mode) (e:Expr) (f:En->Rs D):Prop:=∃ t,(∀ i,PE (C.X i) e t)/\SimE C.K C.G m t f
noncomputable def SA (C:Ct) (m:Mode) (es:List Expr) (f:En->Rs (List D)):Prop:=∃ t,(∀ i,PA (C.X i) es t)/\SimA C.K C.G m t f
noncomputable def ST (C:Ct) (e:Expr) (f:En->Rs Bool):Prop:=∃ t,(∀ i,PT (C.X i) e t)/\SimT C.K C.G t f
noncomputable def SW (C:Ct) (e:Expr) (f:En->Rs Bool):Prop:=∃ t,(∀ i,PW (C.X i) e t)/\SimT C.K C.G t f
theorem SW.st {C:Ct} {e:Expr} {f:En->Rs Bool} (h:SW C e f):ST C e f:=let ⟨t,h1,h2⟩:=h; ⟨t,fun i=>(h1 i).pt,h2⟩
noncomputable def varD (i:Nat):En->Rs D:=fun ρ=>match ρ[i]? with
 | some (.sh d)=>.ok d
 | some (.nw d)=>.ok d
 | some (.ow d)=>.ok d
 | some (.oz d)=>.ok d
 | some (.o2 l)=>.ok (.lst (l.map .lst))
 | _=>.st
noncomputable def varS (i:Nat):En->Rs D:=fun ρ=>match ρ[i]? with
 | some (.sh d)=>.ok d
 | some (.nw d)=>.ok d
 | _=>.st
noncomputable def varN (i:Nat):En->Rs D:=fun ρ=>match ρ[i]? with
 | some (.nw d)=>.ok d
 | _=>.st
noncomputable def varO (i:Nat):En->Rs D:=fun ρ=>match ρ[i]? with
 | some (.ow d)=>.ok d
 | some (.o2 l)=>.ok (.lst (l.map .lst))
 | _=>.st
noncomputable def cD (d:D):En->Rs D:=fun _=>.ok d
theorem o2_rp {K:PySem.W.Frag} {H:Hp} {lab:Lab} {i:Nat} {v:V} {l:List (List D)} (h:SlotOk K H lab i v (.o2 l)):Rp K (fun p=>(lab p).1=i + 2) H v (.lst (l.map .lst)):=by
 obtain ⟨a,xs,rfl,ha,hla,hlen,hin⟩:=h
 refine .lst ha (by rw [hla]) ?_
 have go:∀ (xs:List V) (l:List (List D)) (n:Nat),xs.length=l.length->0 < n->(∀ (j:Nat) x ds,xs[j]? = some x->l[j]? = some ds->Rp K (fun p=>lab p=(i + 2,n + j)) H x (.lst ds))->Rps K (fun p=>(lab p).1=i + 2/\p ≠ a) H xs (l.map .lst):=by
  intro xs
  induction xs with
  | nil=>intro l n hl _ _; cases l with | nil=>exact .nil | cons _ _=>simp at hl
  | cons x xs ih =>
   intro l n hl hn h
   cases l with
   | nil=>simp at hl
   | cons ds l =>
    refine .cons (Rp.wk (fun p o e z=>⟨by rw [z],fun e=>by rw [e,hla] at z; have z2:(0:Nat)=n + 0:=congrArg Prod.snd z; omega⟩) (h 0 x ds rfl rfl)) (ih l (n + 1) (by simpa using hl) (by omega) fun j y es e1 e2=>?_)
    have z:=h (j + 1) y es (by simpa using e1) (by simpa using e2)
    rw [show n + 1 + j=n + (j + 1) by omega]
    exact z
 exact go xs l 1 hlen (by omega) fun j x ds e1 e2=>by have z:=hin j x ds e1 e2; rw [show 1 + j=j + 1 by omega]; exact z
section
variable {C:Ct} {pos:Pos}
theorem sim_var (K:PySem.W.Frag) (G:Gx) (i:Nat):SimE K G (some [0,1,i + 2]) (tVar i) (varD i):=by
 intro τ σ H ρ lab Q R W
 unfold varD at W
 cases e:ρ[i]? with
 | none=>rw [e] at W; exact W.elim
 | some s =>
  rw [e] at W
  rcases R.sl i s e with rfl | ⟨v,ev,hv⟩
  ·exact False.elim W
  ·cases s with
   | no=>exact False.elim W
   | sh d=>exact ⟨v,ev,W v H (Same.refl H) (Rp.wk (fun p o e z=>.inr (by show (lab p).1 ∈ [0,1,i + 2]; rcases (show (lab p).1=0\/(lab p).1=1 by omega) with q | q <;> rw [q] <;> simp)) hv)⟩
   | nw d=>exact ⟨v,ev,W v H (Same.refl H) (Rp.wk (fun p o e z=>.inr (by show (lab p).1 ∈ [0,1,i + 2]; rw [z]; simp)) hv)⟩
   | ow d=>exact ⟨v,ev,W v H (Same.refl H) (Rp.wk (fun p o e z=>.inr (by show (lab p).1 ∈ [0,1,i + 2]; rcases z with q | q <;> rw [q] <;> simp)) hv.1)⟩
   | oz d=>exact ⟨v,ev,W v H (Same.refl H) (Rp.wk (fun p o e z=>.inr (by show (lab p).1 ∈ [0,1,i + 2]; rcases (show (lab p).1=0\/(lab p).1=1\/(lab p).1=i + 2 by omega) with q | q | q <;> rw [q] <;> simp)) (oz_rp hv))⟩
   | o2 l=>exact ⟨v,ev,W v H (Same.refl H) (Rp.wk (fun p o e z=>.inr (by show (lab p).1 ∈ [0,1,i + 2]; rw [z]; simp)) (o2_rp hv))⟩
theorem sim_varS (K:PySem.W.Frag) (G:Gx) (i:Nat):SimE K G (some [0,1]) (tVar i) (varS i):=by
 intro τ σ H ρ lab Q R W
 unfold varS at W
 cases e:ρ[i]? with
 | none=>rw [e] at W; exact W.elim
 | some s =>
  rw [e] at W
  rcases R.sl i s e with rfl | ⟨v,ev,hv⟩
  ·exact False.elim W
  ·cases s with
   | sh d=>exact ⟨v,ev,W v H (Same.refl H) (Rp.wk (fun p o e z=>.inr (by show (lab p).1 ∈ [0,1]; rcases (show (lab p).1=0\/(lab p).1=1 by omega) with q | q <;> rw [q] <;> simp)) hv)⟩
   | nw d=>exact ⟨v,ev,W v H (Same.refl H) (Rp.wk (fun p o e z=>.inr (by show (lab p).1 ∈ [0,1]; rw [z]; simp)) hv)⟩
   | _=>exact False.elim W
theorem sim_varN (K:PySem.W.Frag) (G:Gx) (i:Nat):SimE K G (some [1]) (tVar i) (varN i):=by
 intro τ σ H ρ lab Q R W
 unfold varN at W
 cases e:ρ[i]? with
 | none=>rw [e] at W; exact W.elim
 | some s =>
  rw [e] at W
  rcases R.sl i s e with rfl | ⟨v,ev,hv⟩
  ·exact False.elim W
  ·cases s with
   | nw d=>exact ⟨v,ev,W v H (Same.refl H) (Rp.wk (fun p o e z=>.inr (by show (lab p).1 ∈ [1]; rw [z]; simp)) hv)⟩
   | _=>exact False.elim W
theorem sim_varO (K:PySem.W.Frag) (G:Gx) (i:Nat):SimE K G (some [1,i + 2]) (tVar i) (varO i):=by
 intro τ σ H ρ lab Q R W
 unfold varO at W
 cases e:ρ[i]? with
 | none=>rw [e] at W; exact W.elim
 | some s =>
  rw [e] at W
  rcases R.sl i s e with rfl | ⟨v,ev,hv⟩
  ·exact False.elim W
  ·cases s with
   | ow d=>exact ⟨v,ev,W v H (Same.refl H) (Rp.wk (fun p o e z=>.inr (by show (lab p).1 ∈ [1,i + 2]; rcases z with q | q <;> rw [q] <;> simp)) hv.1)⟩
   | o2 l=>exact ⟨v,ev,W v H (Same.refl H) (Rp.wk (fun p o e z=>.inr (by show (lab p).1 ∈ [1,i + 2]; rw [z]; simp)) (o2_rp hv))⟩
   | _=>exact False.elim W
theorem se_var (i:Nat) {x:Str} (hN:∀ j,(C.X j).N[i]? = some x:=by intro _; rfl) (hv:∀ j,Vis (C.X j).env.scope x:=by intro _; first | exact Or.inl rfl | exact Or.inr (Or.inl rfl) | exact Or.inr (Or.inr rfl)) (hd:(x == ("__debug__" : Str))=false:=by decide)
  (hcd:(x == ("__classdict__" : Str))=false:=by decide):SE C (some [0,1,i + 2]) (.Name x pos) (varD i):=⟨_,fun j=>pe_var (hN j) (hv j) hd hcd,sim_var _ _ i⟩
theorem se_varS (i:Nat) {x:Str} (hN:∀ j,(C.X j).N[i]? = some x:=by intro _; rfl) (hv:∀ j,Vis (C.X j).env.scope x:=by intro _; first | exact Or.inl rfl | exact Or.inr (Or.inl rfl) | exact Or.inr (Or.inr rfl)) (hd:(x == ("__debug__" : Str))=false:=by decide)
  (hcd:(x == ("__classdict__" : Str))=false:=by decide):SE C (some [0,1]) (.Name x pos) (varS i):=⟨_,fun j=>pe_var (hN j) (hv j) hd hcd,sim_varS _ _ i⟩
theorem se_varN (i:Nat) {x:Str} (hN:∀ j,(C.X j).N[i]? = some x:=by intro _; rfl) (hv:∀ j,Vis (C.X j).env.scope x:=by intro _; first | exact Or.inl rfl | exact Or.inr (Or.inl rfl) | exact Or.inr (Or.inr rfl)) (hd:(x == ("__debug__" : Str))=false:=by decide)
  (hcd:(x == ("__classdict__" : Str))=false:=by decide):SE C (some [1]) (.Name x pos) (varN i):=⟨_,fun j=>pe_var (hN j) (hv j) hd hcd,sim_varN _ _ i⟩
theorem se_varO (i:Nat) {x:Str} (hN:∀ j,(C.X j).N[i]? = some x:=by intro _; rfl) (hv:∀ j,Vis (C.X j).env.scope x:=by intro _; first | exact Or.inl rfl | exact Or.inr (Or.inl rfl) | exact Or.inr (Or.inr rfl)) (hd:(x == ("__debug__" : Str))=false:=by decide)
  (hcd:(x == ("__classdict__" : Str))=false:=by decide):SE C (some [1,i + 2]) (.Name x pos) (varO i):=⟨_,fun j=>pe_var (hN j) (hv j) hd hcd,sim_varO _ _ i⟩
theorem se_int {i:Int} {j:Nat}:SE C (some []) (.Constant (.int i) j pos) (cD (.int i)):=⟨_,fun _=>pe_int,fun τ σ H ρ lab Q R W=>W _ H (Same.refl H) (.int i)⟩
theorem se_bl {b:Bool} {j:Nat}:SE C (some []) (.Constant (.bool b) j pos) (cD (.bl b)):=⟨_,fun _=>pe_bl,fun τ σ H ρ lab Q R W=>W _ H (Same.refl H) (.bl b)⟩
theorem se_non {j:Nat}:SE C (some []) (.Constant .none j pos) (cD .non):=⟨_,fun _=>pe_non,fun τ σ H ρ lab Q R W=>W _ H (Same.refl H) .non⟩
theorem se_str {x:Str} {j:Nat}:SE C (some []) (.Constant (.str x) j pos) (cD (.str x)):=⟨_,fun _=>pe_str,fun τ σ H ρ lab Q R W=>W _ H (Same.refl H) (.str x)⟩
theorem se_glob {x:Str} {v:V} {u:Value} {d:D} (hg:∀ i,Gl (C.X i) x) (hm:C.mg x=some u) (r:RelV v u) (hd:∀ A H,Rp C.K A H v d) (hdb:(x == ("__debug__" : Str))=false:=by decide):SE C (some []) (.Name x pos) (cD d) :=
 ⟨_,fun i=>pe_glob (hg i) (by rw [(C.cx i).2.2.2.1]; exact hm) r hdb,fun τ σ H ρ lab Q R W=>W _ H (Same.refl H) (hd _ _)⟩
noncomputable def gImm (d:D):Rs D:=if imm d=true then .ok d else .st
noncomputable def immD (f:En->Rs D):En->Rs D:=fun ρ=>(f ρ).bd gImm
theorem se_imm {m:Mode} {e:Expr} {f:En->Rs D} (h:SE C m e f):SE C (some []) e (immD f):=by
 obtain ⟨t,h1,h2⟩:=h
 refine ⟨t,h1,fun τ σ H ρ lab Q R W=>h2 τ σ H ρ lab Q R (W.bd.imp fun d _ w v H' s r=>?_)⟩
 unfold gImm at w
 by_cases hd:imm d=true
 ·rw [if_pos hd] at w
  exact w v H' s (r.imm hd)
 ·rw [if_neg hd] at w
  exact False.elim w
noncomputable def nilA:En->Rs (List D):=fun _=>.ok []
noncomputable def consA (f:En->Rs D) (g:En->Rs (List D)):En->Rs (List D):=fun ρ=>(f ρ).bd fun d=>(g ρ).bd fun ds=>.ok (d :: ds)
variable {m m1 m2:Mode} {e a b:Expr} {es:List Expr} {f fa fb:En->Rs D} {g:En->Rs (List D)}
theorem sa_nil:SA C (some []) [] nilA:=⟨_,fun _=>pa_nil,fun τ σ H ρ lab Q R W=>W _ H (Same.refl H) .nil⟩
theorem sa_cons (h:SE C m1 e f) (hr:SA C m2 es g) (hs:∀ i,starEach (e :: es) (C.X i).env=(false,eval e (C.X i).env) :: starEach es (C.X i).env:=by intro _; rfl):SA C (jn m1 m2) (e :: es) (consA f g):=by
 obtain ⟨t,h1,h2⟩:=h
 obtain ⟨u,k1,k2⟩:=hr
 refine ⟨_,fun i=>pa_cons (h1 i) (k1 i) (hs i),fun τ σ H ρ lab Q R W=>?_⟩
 refine h2 τ σ H ρ lab _ R (W.bd.imp fun d _ w x H1 s1 r1=>?_)
 refine k2 τ σ H1 ρ lab _ (R.up s1) (w.bd.imp fun ds _ w xs H2 s2 r2=>?_)
 exact w (x :: xs) H2 (s1.trans s2) (.cons (r1.mono s2 fun p o _ z=>fpM_l z) (r2.wk fun p o _ z=>fpM_r (fpM_back s1 z)))
noncomputable def tupD (g:En->Rs (List D)):En->Rs D:=fun ρ=>(g ρ).bd fun ds=>if ds.length <= sizeLine then .ok (.tup ds) else .st
noncomputable def lstD (g:En->Rs (List D)):En->Rs D:=fun ρ=>(g ρ).bd fun ds=>if ds.length <= sizeLine then .ok (.lst ds) else .st
theorem se_tup {x1} (h:SA C m es g):SE C m (.Tuple es x1 pos) (tupD g):=by
 obtain ⟨t,h1,h2⟩:=h
 refine ⟨_,fun i=>pe_tupA (h1 i),fun τ σ H ρ lab Q R W=>h2 τ σ H ρ lab _ R (W.bd.imp fun ds _ w xs H1 s1 r1=>?_)⟩
 by_cases hz:ds.length <= sizeLine
 ·rw [if_pos hz] at w
  exact ⟨by rw [r1.length]; exact hz,fun p H' s hp _=>w _ H' (s1.trans s) (.tup (SqT.of hp) (r1.up s))⟩
 ·rw [if_neg hz] at w
  exact False.elim w
theorem se_lst (h:SA C m es g):SE C m (.List es pos) (lstD g):=by
 obtain ⟨t,h1,h2⟩:=h
 refine ⟨_,fun i=>pe_lstA (h1 i),fun τ σ H ρ lab Q R W=>h2 τ σ H ρ lab _ R (W.bd.imp fun ds _ w xs H1 s1 r1=>?_)⟩
 by_cases hz:ds.length <= sizeLine
 ·rw [if_pos hz] at w
  exact ⟨by rw [r1.length]; exact hz,fun p H' s hp hn=>w _ H' (s1.trans s) (.lst hp (.inl (s1.free hn)) ((r1.wk fun q o e z=>⟨z,fun e'=>by subst e'; rw [hn] at e; cases e⟩).up s))⟩
 ·rw [if_neg hz] at w
  exact False.elim w
theorem se_dct0:SE C (some []) (.Dict [] [] pos) (cD (.dct [] [])) :=
 ⟨_,fun _=>pe_dnewA,fun τ σ H ρ lab Q R W p H' s hp hn=>W _ H' s (.dK (kvs:=[]) hp (.inl hn) .nil)⟩
noncomputable def topN (H:Hp) (v:V) (d:D):Prop:=mutD d=true->∃ a,v = .ref a/\H a=none
noncomputable def SimF (K:PySem.W.Frag) (G:Gx) (m:Mode) (t:TE) (f:En->Rs D):Prop:=∀ τ σ H ρ lab (Q:VK),RR K G τ ρ σ H lab->WR G (f ρ) (fun d=>∀ v H',Same H H'->Rp K (fpM m lab H) H' v d->topN H v d->Q v H')->t σ H Q
noncomputable def SF (C:Ct) (m:Mode) (e:Expr) (f:En->Rs D):Prop:=∃ t,(∀ i,PE (C.X i) e t)/\SimF C.K C.G m t f
theorem sf_lst (h:SA C m es g):SF C m (.List es pos) (lstD g):=by
 obtain ⟨t,h1,h2⟩:=h
 refine ⟨_,fun i=>pe_lstA (h1 i),fun τ σ H ρ lab Q R W=>h2 τ σ H ρ lab _ R (W.bd.imp fun ds _ w xs H1 s1 r1=>?_)⟩
 by_cases hz:ds.length <= sizeLine
 ·rw [if_pos hz] at w
  exact ⟨by rw [r1.length]; exact hz,fun p H' s hp hn=>w _ H' (s1.trans s) (.lst hp (.inl (s1.free hn)) ((r1.wk fun q o e z=>⟨z,fun e'=>by subst e'; rw [hn] at e; cases e⟩).up s)) fun _=>⟨p,rfl,s1.free hn⟩⟩
 ·rw [if_neg hz] at w
  exact False.elim w
noncomputable def OpS (K:PySem.W.Frag) (r:R2) (fd:D->D->Rs D):Prop:=∀ (A:Addr->Prop) x y d e H (Q:VK) z,Rp K A H x d->Rp K A H y e->fd d e = .ok z->(∀ v H',Same H H'->Rp K (fun p=>H p=none\/A p) H' v z->Q v H')->r x y H Q
noncomputable def UnS (K:PySem.W.Frag) (r:V->Hp->VK->Prop) (fd:D->Rs D):Prop:=∀ (A:Addr->Prop) x d H (Q:VK) z,Rp K A H x d->fd d = .ok z->(∀ v H',Same H H'->Rp K (fun p=>H p=none\/A p) H' v z->Q v H')->r x H Q
noncomputable def CallS (K:PySem.W.Frag) (r:List V->Hp->VK->Prop) (fd:List D->Rs D):Prop:=∀ (A:Addr->Prop) xs ds H (Q:VK) z,Rps K A H xs ds->fd ds = .ok z->(∀ v H',Same H H'->Rp K (fun p=>H p=none\/A p) H' v z->Q v H')->r xs H Q
noncomputable def okD (r:Rs D):Rs D:=match r with
 | .ok d=>.ok d
 | _=>.st
noncomputable def op2 (fd:D->D->Rs D) (fa fb:En->Rs D):En->Rs D:=fun ρ=>(fa ρ).bd fun x=>(fb ρ).bd fun y=>okD (fd x y)
noncomputable def op1 (fd:D->Rs D) (fa:En->Rs D):En->Rs D:=fun ρ=>(fa ρ).bd fun x=>okD (fd x)
noncomputable def opA (fd:List D->Rs D) (fa:En->Rs (List D)):En->Rs D:=fun ρ=>(fa ρ).bd fun x=>okD (fd x)
theorem WR.okD {G:Gx} {r:Rs D} {P:D->Prop} (h:WR G (okD r) P):∃ z,r = .ok z/\P z:=by
 cases r with
 | ok z=>exact ⟨z,rfl,h⟩
 | ex c=>exact False.elim h
 | st=>exact False.elim h
theorem sim_op2 {K:PySem.W.Frag} {G:Gx} {r:R2} {ta tb:TE} {fd:D->D->Rs D} (hs:OpS K r fd) (h1:SimE K G m1 ta fa) (h2:SimE K G m2 tb fb):SimE K G (jn m1 m2) (tOp r ta tb) (op2 fd fa fb):=by
 intro τ σ H ρ lab Q R W
 refine h1 τ σ H ρ lab _ R (W.bd.imp fun d _ w x H1 s1 r1=>?_)
 refine h2 τ σ H1 ρ lab _ (R.up s1) (w.bd.imp fun e _ w y H2 s2 r2=>?_)
 obtain ⟨z,ez,w⟩:=w.okD
 refine hs (fpM (jn m1 m2) lab H) x y d e H2 Q z (r1.mono s2 fun p o _ q=>fpM_l q) (r2.wk fun p o _ q=>fpM_r (fpM_back s1 q)) ez fun v H' s r=>w v H' ((s1.trans s2).trans s) (r.wk fun p o _ q=>?_)
 rcases q with q | q
 ·exact .inl ((s1.trans s2).free q)
 ·exact q
theorem sim_op1 {K:PySem.W.Frag} {G:Gx} {r:V->Hp->VK->Prop} {ta:TE} {fd:D->Rs D} (hs:UnS K r fd) (h1:SimE K G m ta fa):SimE K G m (tUn r ta) (op1 fd fa):=by
 intro τ σ H ρ lab Q R W
 refine h1 τ σ H ρ lab _ R (W.bd.imp fun d _ w x H1 s1 r1=>?_)
 obtain ⟨z,ez,w⟩:=w.okD
 refine hs (fpM m lab H) x d H1 Q z r1 ez fun v H' s r=>w v H' (s1.trans s) (r.wk fun p o _ q=>?_)
 rcases q with q | q
 ·exact .inl (s1.free q)
 ·exact q
theorem sim_opA {K:PySem.W.Frag} {G:Gx} {r:List V->Hp->VK->Prop} {ta:TA} {fd:List D->Rs D} (hs:CallS K r fd) (h1:SimA K G m ta g):SimE K G m (tCB r ta) (opA fd g):=by
 intro τ σ H ρ lab Q R W
 refine h1 τ σ H ρ lab _ R (W.bd.imp fun d _ w x H1 s1 r1=>?_)
 obtain ⟨z,ez,w⟩:=w.okD
 refine hs (fpM m lab H) x d H1 Q z r1 ez fun v H' s r=>w v H' (s1.trans s) (r.wk fun p o _ q=>?_)
 rcases q with q | q
 ·exact .inl (s1.free q)
 ·exact q
theorem se_cut {f:En->Rs D} (h:SE C m e f) (hi:∀ ρ d,f ρ = .ok d->imm d=true):SE C (some []) e f:=by
 obtain ⟨t,h1,h2⟩:=h
 exact ⟨t,h1,fun τ σ H ρ lab Q R W=>h2 τ σ H ρ lab Q R (W.imp fun d ed w v H' s r=>w v H' s (r.imm (hi ρ d ed)))⟩
theorem imm_op2 {fd:D->D->Rs D} (h:∀ x y z,fd x y = .ok z->imm z=true) {ρ:En} {d:D} (e:op2 fd fa fb ρ = .ok d):imm d=true:=by
 obtain ⟨x,_,e⟩:=bd_eq_ok e
 obtain ⟨y,_,e⟩:=bd_eq_ok e
 unfold okD at e
 split at e
 ·rename_i z hz
  cases e
  exact h x y _ hz
 ·cases e
theorem imm_op1 {fd:D->Rs D} (h:∀ x z,fd x = .ok z->imm z=true) {ρ:En} {d:D} (e:op1 fd fa ρ = .ok d):imm d=true:=by
 obtain ⟨x,_,e⟩:=bd_eq_ok e
 unfold okD at e
 split at e
 ·rename_i z hz
  cases e
  exact h x _ hz
 ·cases e
theorem imm_opA {fd:List D->Rs D} (h:∀ x z,fd x = .ok z->imm z=true) {ρ:En} {d:D} (e:opA fd g ρ = .ok d):imm d=true:=by
 obtain ⟨x,_,e⟩:=bd_eq_ok e
 unfold okD at e
 split at e
 ·rename_i z hz
  cases e
  exact h x _ hz
 ·cases e
theorem se_op {op:Operator} {r:R2} {fd:D->D->Rs D} (ro:∀ i,OpR (C.X i) (binaryOp op) r) (hs:OpS C.K r fd) (ha:SE C m1 a fa) (hb:SE C m2 b fb):SE C (jn m1 m2) (.BinOp a op b pos) (op2 fd fa fb):=by
 obtain ⟨t,h1,h2⟩:=ha
 obtain ⟨u,k1,k2⟩:=hb
 exact ⟨_,fun i=>pe_op (ro i) (h1 i) (k1 i),sim_op2 hs h2 k2⟩
theorem se_un {op:UnaryOp} {r:V->Hp->VK->Prop} {fd:D->Rs D} (ro:∀ i,UnR (C.X i) (unaryOp op) r) (hs:UnS C.K r fd) (ha:SE C m a fa):SE C m (.UnaryOp op a pos) (op1 fd fa):=by
 obtain ⟨t,h1,h2⟩:=ha
 exact ⟨_,fun i=>pe_un (ro i) (h1 i),sim_op1 hs h2⟩
theorem se_cmp {op:CmpOp} {r:R2} {fd:D->D->Rs D} (ro:∀ i,OpR (C.X i) (compareOp op) r) (hs:OpS C.K r fd) (ha:SE C m1 a fa) (hb:SE C m2 b fb) (hm:behindInMarks op b=false:=by first | exact nomark _ | (with_unfolding_all rfl)) :
  SE C (jn m1 m2) (.Compare a [op] [b] pos) (op2 fd fa fb):=by
 obtain ⟨t,h1,h2⟩:=ha
 obtain ⟨u,k1,k2⟩:=hb
 exact ⟨_,fun i=>pe_cmpR (ro i) (h1 i) (k1 i) hm,sim_op2 hs h2 k2⟩
variable {p:Pos} {x:Str} {id T:String}
theorem se_callB {r:List V->Hp->VK->Prop} {fd:List D->Rs D} (ro:∀ i,CallR (C.X i) (.builtin id) r) (hs:CallS C.K r fd) (hg:∀ i,Gl (C.X i) x) (hm:C.mg x=none) (hv:bootBuiltins x=some (.builtin id)) (ha:SA C m (e :: es) g)
  (hn:x ≠ "__name__":=by decide) (hdb:(x == ("__debug__" : Str))=false:=by decide) (he:∀ i,starEach (e :: es) (C.X i).env=(false,eval e (C.X i).env) :: starEach es (C.X i).env:=by intro _; rfl)
  (hpl:∀ i,(backTo pos (starEach es (C.X i).env)).any (·.1)=false:=by intro _; rfl):SE C m (.Call (.Name x p) (e :: es) [] pos) (opA fd g):=by
 obtain ⟨t,h1,h2⟩:=ha
 exact ⟨_,fun i=>pe_callB (ro i) (hg i) (by rw [(C.cx i).2.2.2.1]; exact hm) hv (h1 i) hn hdb (he i) (hpl i),sim_opA hs h2⟩
theorem se_callT {r:List V->Hp->VK->Prop} {fd:List D->Rs D} (ro:∀ i,CallR (C.X i) (.type T) r) (hs:CallS C.K r fd) (hg:∀ i,Gl (C.X i) x) (hm:C.mg x=none) (hv:bootBuiltins x=some (.type T)) (ha:SA C m (e :: es) g)
  (hn:x ≠ "__name__":=by decide) (hdb:(x == ("__debug__" : Str))=false:=by decide) (he:∀ i,starEach (e :: es) (C.X i).env=(false,eval e (C.X i).env) :: starEach es (C.X i).env:=by intro _; rfl)
  (hpl:∀ i,(backTo pos (starEach es (C.X i).env)).any (·.1)=false:=by intro _; rfl):SE C m (.Call (.Name x p) (e :: es) [] pos) (opA fd g):=by
 obtain ⟨t,h1,h2⟩:=ha
 exact ⟨_,fun i=>pe_callTy (ro i) (hg i) (by rw [(C.cx i).2.2.2.1]; exact hm) hv (h1 i) hn hdb (he i) (hpl i),sim_opA hs h2⟩
noncomputable def andD (f g:En->Rs D):En->Rs D:=fun ρ=>(f ρ).bd fun d=>match d with
 | .bl true=>g ρ
 | .bl false=>.ok (.bl false)
 | _=>.st
noncomputable def orD (f g:En->Rs D):En->Rs D:=fun ρ=>(f ρ).bd fun d=>match d with
 | .bl false=>g ρ
 | .bl true=>.ok (.bl true)
 | _=>.st
noncomputable def notD:D->Rs D
 | .bl b=>.ok (.bl (!b))
 | _=>.st
variable {rest:List Expr}
theorem se_one {op} (h:SE C m a fa):SE C m (.BoolOp op [a] pos) fa:=by
 obtain ⟨t,h1,h2⟩:=h
 exact ⟨_,fun i=>pe_one (h1 i),h2⟩
theorem se_and (ha:SE C m1 a fa) (hb:SE C m2 (.BoolOp .And (b :: rest) pos) fb):SE C m2 (.BoolOp .And (a :: b :: rest) pos) (andD fa fb):=by
 obtain ⟨t,h1,h2⟩:=ha
 obtain ⟨u,k1,k2⟩:=hb
 refine ⟨_,fun i=>pe_and (h1 i) (k1 i),fun τ σ H ρ lab Q R W=>h2 τ σ H ρ lab _ R (W.bd.imp fun d _ w x H1 s1 r1=>?_)⟩
 cases r1 with
 | bl c =>
  refine ⟨c,rfl,?_⟩
  cases c with
  | true =>
   rw [if_pos rfl]
   exact k2 τ σ H1 ρ lab Q (R.up s1) (w.imp fun z _ w v H' s r=>w v H' (s1.trans s) (r.wk fun p o _ q=>fpM_back s1 q))
  | false =>
   rw [if_neg Bool.false_ne_true]
   exact w _ H1 s1 (.bl false)
 | _=>exact False.elim w
theorem se_or (ha:SE C m1 a fa) (hb:SE C m2 (.BoolOp .Or (b :: rest) pos) fb):SE C m2 (.BoolOp .Or (a :: b :: rest) pos) (orD fa fb):=by
 obtain ⟨t,h1,h2⟩:=ha
 obtain ⟨u,k1,k2⟩:=hb
 refine ⟨_,fun i=>pe_or (h1 i) (k1 i),fun τ σ H ρ lab Q R W=>h2 τ σ H ρ lab _ R (W.bd.imp fun d _ w x H1 s1 r1=>?_)⟩
 cases r1 with
 | bl c =>
  refine ⟨c,rfl,?_⟩
  cases c with
  | false =>
   rw [if_neg Bool.false_ne_true]
   exact k2 τ σ H1 ρ lab Q (R.up s1) (w.imp fun z _ w v H' s r=>w v H' (s1.trans s) (r.wk fun p o _ q=>fpM_back s1 q))
  | true =>
   rw [if_pos rfl]
   exact w _ H1 s1 (.bl true)
 | _=>exact False.elim w
theorem se_not (ha:SE C m a fa):SE C (some []) (.UnaryOp .Not a pos) (op1 notD fa):=by
 obtain ⟨t,h1,h2⟩:=ha
 refine ⟨_,fun i=>pe_not (h1 i),fun τ σ H ρ lab Q R W=>h2 τ σ H ρ lab _ R (W.bd.imp fun d _ w x H1 s1 r1=>?_)⟩
 obtain ⟨z,ez,w⟩:=w.okD
 cases r1 with
 | bl c=>cases ez; exact ⟨c,rfl,w _ H1 s1 (.bl _)⟩
 | _=>cases ez
noncomputable def chD (fd fd':D->D->Rs D) (fa fb fc:En->Rs D):En->Rs D:=fun ρ=>(fa ρ).bd fun x=>(fb ρ).bd fun y=>(okD (fd x y)).bd fun z=>match z with
 | .bl true=>(fc ρ).bd fun w=>okD (fd' y w)
 | .bl false=>.ok (.bl false)
 | _=>.st
theorem sim_chain {K:PySem.W.Frag} {G:Gx} {r r':R2} {ta tb tc:TE} {fd fd':D->D->Rs D} {fc:En->Rs D} {m3:Mode} (hs:OpS K r fd) (hs':OpS K r' fd') (hi:∀ x y z,fd' x y = .ok z->imm z=true) (h1:SimE K G m1 ta fa) (h2:SimE K G m2 tb fb) (h3:SimE K G m3 tc fc) :
  SimE K G (some []) (tChain r r' ta tb tc) (chD fd fd' fa fb fc):=by
 intro τ σ H ρ lab Q R W
 refine h1 τ σ H ρ lab _ R (W.bd.imp fun d _ w x H1 s1 r1=>?_)
 refine h2 τ σ H1 ρ lab _ (R.up s1) (w.bd.imp fun e _ w y H2 s2 r2=>?_)
 obtain ⟨z,ez,w⟩:=w.bd.okD
 refine hs (fun _=>True) x y d e H2 _ z (r1.mono s2 fun p o _ q=>trivial) (r2.wk fun p o _ q=>trivial) ez fun v H3 s3 r3=>?_
 cases r3 with
 | bl c =>
  refine ⟨c,rfl,?_⟩
  cases c with
  | false =>
   rw [if_neg Bool.false_ne_true]
   exact w _ H3 ((s1.trans s2).trans s3) (.bl false)
  | true =>
   rw [if_pos rfl]
   refine h3 τ σ H3 ρ lab _ ((R.up s1).up (s2.trans s3)) (w.bd.imp fun e' _ w y' H4 s4 r4=>?_)
   obtain ⟨z',ez',w⟩:=w.okD
   exact hs' (fun _=>True) y y' e e' H4 Q z' (r2.mono (s3.trans s4) fun p o _ q=>trivial) (r4.wk fun p o _ q=>trivial) ez' fun v H5 s5 r5=>w v H5 ((((s1.trans s2).trans s3).trans s4).trans s5) (r5.imm (hi _ _ _ ez'))
 | _=>exact False.elim w
theorem se_chain {c:Expr} {fc:En->Rs D} {m3:Mode} {op op':CmpOp} {r r':R2} {fd fd':D->D->Rs D} (ro:∀ i,OpR (C.X i) (compareOp op) r) (hs:OpS C.K r fd) (ro':∀ i,OpR (C.X i) (compareOp op') r') (hs':OpS C.K r' fd') (hi:∀ x y z,fd' x y = .ok z->imm z=true)
  (ha:SE C m1 a fa) (hb:SE C m2 b fb) (hc:SE C m3 c fc) (hm:lastMarks [op,op'] [b,c]=false:=by with_unfolding_all rfl):SE C (some []) (.Compare a [op,op'] [b,c] pos) (chD fd fd' fa fb fc):=by
 obtain ⟨t,h1,h2⟩:=ha
 obtain ⟨u,k1,k2⟩:=hb
 obtain ⟨v,l1,l2⟩:=hc
 exact ⟨_,fun i=>pe_chain (ro i) (ro' i) (h1 i) (k1 i) (l1 i) hm,sim_chain hs hs' hi h2 k2 l2⟩
noncomputable def truD:D->Rs Bool
 | .non=>.ok false
 | .bl b=>.ok b
 | .int i=>.ok (i != 0)
 | .tup l=>.ok (!l.isEmpty)
 | .lst l=>.ok (!l.isEmpty)
 | _=>.st
noncomputable def blD:D->Rs Bool
 | .bl b=>.ok b
 | _=>.st
noncomputable def tst (f:En->Rs D):En->Rs Bool:=fun ρ=>(f ρ).bd truD
noncomputable def tsb (f:En->Rs D):En->Rs Bool:=fun ρ=>(f ρ).bd blD
theorem isEmpty_rp {K:PySem.W.Frag} {A:Addr->Prop} {H:Hp} {xs:List V} {ds:List D} (r:Rps K A H xs ds):(!ds.isEmpty) = !xs.isEmpty:=by cases r <;> rfl
theorem st_val (ha:SE C m a fa) (he:∀ i whole,isTrue a (C.X i).env whole=(do let v <- whole; standAt a.pos; holding [v] (truthy v)):=by intro _ _; rfl):ST C a (tst fa):=by
 obtain ⟨t,h1,h2⟩:=ha
 refine ⟨fun σ H Q=>t σ H fun x H'=>∃ k,TruV C.K x H' k/\Q k H',fun i=>by rw [<- C.hK i]; exact pt_truth (h1 i) (he i),fun τ σ H ρ lab Q R W=>h2 τ σ H ρ lab _ R (W.bd.imp fun d _ w x H1 s1 r1=>?_)⟩
 cases r1 with
 | non=>exact ⟨false,rfl,w H1 s1⟩
 | bl b=>exact ⟨b,rfl,w H1 s1⟩
 | int i=>exact ⟨i != 0,rfl,w H1 s1⟩
 | tup h r=>exact ⟨_,.inr (.inl ⟨_,h,rfl⟩),by rw [<- isEmpty_rp r]; exact w H1 s1⟩
 | lst h m r=>exact ⟨_,.inl ⟨_,SqL.of h,rfl⟩,by rw [<- isEmpty_rp r]; exact w H1 s1⟩
 | _=>exact False.elim w
theorem sim_tsb {K:PySem.W.Frag} {G:Gx} {t:TE} {f:En->Rs D} (h:SimE K G m t f):SimT K G (tTest t) (tsb f):=fun τ σ H ρ lab Q R W=>h τ σ H ρ lab _ R (W.bd.imp fun d _ w x H1 s1 r1=>by
 cases r1 with
 | bl b=>exact ⟨b,rfl,w H1 s1⟩
 | _=>exact False.elim w)
theorem st_cmp {op:CmpOp} {r:R2} {fd:D->D->Rs D} (ro:∀ i,OpR (C.X i) (compareOp op) r) (hs:OpS C.K r fd) (ha:SE C m1 a fa) (hb:SE C m2 b fb) (hm:behindInMarks op b=false:=by first | exact nomark _ | (with_unfolding_all rfl)) :
  ST C (.Compare a [op] [b] pos) (tsb (op2 fd fa fb)):=by
 obtain ⟨t,h1,h2⟩:=ha
 obtain ⟨u,k1,k2⟩:=hb
 exact ⟨_,fun i=>pt_cmpR (ro i) (h1 i) (k1 i) hm,sim_tsb (sim_op2 hs h2 k2)⟩
variable {ga gb:En->Rs Bool}
noncomputable def andT (f g:En->Rs Bool):En->Rs Bool:=fun ρ=>(f ρ).bd fun k=>if k=true then g ρ else .ok false
noncomputable def orT (f g:En->Rs Bool):En->Rs Bool:=fun ρ=>(f ρ).bd fun k=>if k=true then .ok true else g ρ
noncomputable def notT (f:En->Rs Bool):En->Rs Bool:=fun ρ=>(f ρ).bd fun k=>.ok (!k)
theorem sw_and1 (ha:ST C a ga):SW C (.BoolOp .And [a] pos) ga:=let ⟨t,h1,h2⟩:=ha; ⟨t,fun i=>pw_and1 (h1 i),h2⟩
theorem sw_or1 (ha:ST C a ga):SW C (.BoolOp .Or [a] pos) ga:=let ⟨t,h1,h2⟩:=ha; ⟨t,fun i=>pw_or1 (h1 i),h2⟩
theorem sw_and (ha:ST C a ga) (hb:SW C (.BoolOp .And (b :: rest) pos) gb):SW C (.BoolOp .And (a :: b :: rest) pos) (andT ga gb):=by
 obtain ⟨t,h1,h2⟩:=ha
 obtain ⟨u,k1,k2⟩:=hb
 refine ⟨_,fun i=>pw_and (h1 i) (k1 i),fun τ σ H ρ lab Q R W=>h2 τ σ H ρ lab _ R (W.bd.imp fun k _ w H1 s1=>?_)⟩
 cases k with
 | true =>
  rw [if_pos rfl] at w ⊢
  exact k2 τ σ H1 ρ lab Q (R.up s1) (w.imp fun z _ w H' s=>w H' (s1.trans s))
 | false =>
  rw [if_neg Bool.false_ne_true] at w ⊢
  exact w H1 s1
theorem sw_or (ha:ST C a ga) (hb:SW C (.BoolOp .Or (b :: rest) pos) gb):SW C (.BoolOp .Or (a :: b :: rest) pos) (orT ga gb):=by
 obtain ⟨t,h1,h2⟩:=ha
 obtain ⟨u,k1,k2⟩:=hb
 refine ⟨_,fun i=>pw_or (h1 i) (k1 i),fun τ σ H ρ lab Q R W=>h2 τ σ H ρ lab _ R (W.bd.imp fun k _ w H1 s1=>?_)⟩
 cases k with
 | false =>
  rw [if_neg Bool.false_ne_true] at w ⊢
  exact k2 τ σ H1 ρ lab Q (R.up s1) (w.imp fun z _ w H' s=>w H' (s1.trans s))
 | true =>
  rw [if_pos rfl] at w ⊢
  exact w H1 s1
theorem st_not (ha:ST C a ga):ST C (.UnaryOp .Not a pos) (notT ga):=by
 obtain ⟨t,h1,h2⟩:=ha
 exact ⟨_,fun i=>pt_not (h1 i),fun τ σ H ρ lab Q R W=>h2 τ σ H ρ lab _ R (W.bd.imp fun k _ w H1 s1=>w H1 s1)⟩
end
end VL
namespace VL
open PySem PySem.Spec PyProof.Rows L2
inductive Ou where
 | nx (ρ:En) | rt (d:D) | bk (ρ:En) | ct (ρ:En) | ex (c:Str) | st
noncomputable def Rs.bo {α:Type}:Rs α->(α->Ou)->Ou
 | .ok a,f=>f a
 | .ex c,_=>.ex c
 | .st,_=>.st
@[simp] theorem bo_ok {α:Type} (a:α) (f:α->Ou):(Rs.ok a).bo f=f a:=by_def rfl
noncomputable def Ou.sq:Ou->(En->Ou)->Ou
 | .nx ρ,f=>f ρ
 | o,_=>o
@[simp] theorem sq_nx (ρ:En) (f:En->Ou):(Ou.nx ρ).sq f=f ρ:=by_def rfl
@[simp] theorem sq_rt (d:D) (f:En->Ou):(Ou.rt d).sq f = .rt d:=by_def rfl
noncomputable def WS (K:PySem.W.Frag) (G:Gx) (τ:List (V × D)) (o:Ou) (De:Ends):Prop:=match o with
 | .nx ρ=>∀ σ H lab,RR K G τ ρ σ H lab->De.nx σ H
 | .bk ρ=>∀ σ H lab,RR K G τ ρ σ H lab->De.bk σ H
 | .ct ρ=>∀ σ H lab,RR K G τ ρ σ H lab->De.ct σ H
 | .rt d=>∀ v H,Same G.H0 H->Rp K (fun p=>G.H0 p=none) H v d->De.rt v H
 | .ex c=>∀ H',Same G.H0 H'->G.E (.ref (G.cl c)) none H'
 | .st=>False
theorem WS.bo {α:Type} {K:PySem.W.Frag} {G:Gx} {τ:List (V × D)} {r:Rs α} {k:α->Ou} {De:Ends} (h:WS K G τ (r.bo k) De):WR G r (fun a=>WS K G τ (k a) De):=by
 cases r with
 | ok a=>exact h
 | ex c=>exact h
 | st=>exact h
noncomputable def SimS (K:PySem.W.Frag) (G:Gx) (t:TS) (f:En->Ou):Prop:=∀ τ σ H ρ lab (De:Ends),RR K G τ ρ σ H lab->WS K G τ (f ρ) De->t De σ H
noncomputable def SS (C:Ct) (s:Stmt) (f:En->Ou):Prop:=∃ t,(∀ i,PS (C.X i) s t)/\SimS C.K C.G t f
noncomputable def SSs (C:Ct) (s:List Stmt) (f:En->Ou):Prop:=∃ t,(∀ i,PSs (C.X i) s t)/\SimS C.K C.G t f
section
variable {C:Ct} {pos:Pos} {s:Stmt} {ss:List Stmt} {f g:En->Ou} {e:Expr} {m:Mode} {fe:En->Rs D}
theorem sss_nil:SSs C [] .nx:=⟨_,fun _=>pss_nil,fun τ σ H ρ lab De R W=>W σ H lab R⟩
noncomputable def seqS (f g:En->Ou):En->Ou:=fun ρ=>(f ρ).sq g
theorem sss_one (h:SS C s f):SSs C [s] f:=let ⟨t,h1,h2⟩:=h; ⟨t,fun i=>pss_one (h1 i),h2⟩
theorem sss_cons (h:SS C s f) (k:SSs C ss g):SSs C (s :: ss) (seqS f g):=by
 obtain ⟨t,h1,h2⟩:=h
 obtain ⟨u,k1,k2⟩:=k
 refine ⟨_,fun i=>pss_cons (h1 i) (k1 i),fun τ σ H ρ lab De R W=>h2 τ σ H ρ lab _ R ?_⟩
 unfold seqS at W
 cases h:f ρ with
 | nx ρ'=>rw [h] at W; exact fun σ' H' lab' R'=>k2 τ σ' H' ρ' lab' De R' W
 | rt d=>rw [h] at W; exact W
 | bk ρ'=>rw [h] at W; exact W
 | ct ρ'=>rw [h] at W; exact W
 | ex c=>rw [h] at W; exact W
 | st=>rw [h] at W; exact W
noncomputable def frz (i:Nat) (ρ:En):En:=match ρ[i]? with
 | some (.ow d)=>ρ.set i (.nw d)
 | some (.o2 l)=>ρ.set i (.nw (.lst (l.map .lst)))
 | _=>ρ
noncomputable def okRet:Mode->Bool
 | some L=>L.all (· != 0)
 | none=>false
noncomputable def retS (fe:En->Rs D):En->Ou:=fun ρ=>(fe ρ).bo .rt
theorem ss_ret (he:SE C m e fe) (hm:okRet m=true:=by rfl):SS C (.Return (some e) pos) (retS fe):=by
 obtain ⟨t,h1,h2⟩:=he
 refine ⟨_,fun i=>ps_ret (h1 i),fun τ σ H ρ lab De R W=>h2 τ σ H ρ lab _ R (W.bo.imp fun d _ w v H' s r=>w v H' (R.old.trans s) (r.wk fun p o _ z=>?_))⟩
 rcases z with z | z
 ·exact R.old.free z
 ·cases m with
  | none=>cases hm
  | some L =>
   refine R.new p fun e0=>?_
   have:=List.all_eq_true.mp hm _ z
   rw [e0] at this
   simp at this
noncomputable def dropS (fe:En->Rs D):En->Ou:=fun ρ=>(fe ρ).bo fun _=>.nx ρ
theorem ss_expr (he:SE C m e fe) (hs:∀ i,swapsWith e none pos.line (C.X i).env=pure false:=by intro _; rfl):SS C (.Expr e pos) (dropS fe):=by
 obtain ⟨t,h1,h2⟩:=he
 exact ⟨_,fun i=>ps_expr (h1 i) (hs i),fun τ σ H ρ lab De R W=>h2 τ σ H ρ lab _ R (W.bo.imp fun d _ w v H' s r=>w σ H' lab (R.up s))⟩
noncomputable def ifS (c:En->Rs Bool) (f g:En->Ou):En->Ou:=fun ρ=>(c ρ).bo fun k=>if k=true then f ρ else g ρ
theorem ss_if {c:Expr} {a b:List Stmt} {fc:En->Rs Bool} (hc:ST C c fc) (ha:SSs C a f) (hb:SSs C b g):SS C (.If c a b pos) (ifS fc f g):=by
 obtain ⟨tc,c1,c2⟩:=hc
 obtain ⟨t,h1,h2⟩:=ha
 obtain ⟨u,k1,k2⟩:=hb
 refine ⟨_,fun i=>ps_if (c1 i) (h1 i) (k1 i),fun τ σ H ρ lab De R W=>c2 τ σ H ρ lab _ R (W.bo.imp fun k _ w H1 s1=>?_)⟩
 cases k with
 | true=>rw [if_pos rfl] at w ⊢; exact h2 τ σ H1 ρ lab De (R.up s1) w
 | false=>rw [if_neg Bool.false_ne_true] at w ⊢; exact k2 τ σ H1 ρ lab De (R.up s1) w
noncomputable def SV (C:Ct) (i:Nat) (s:Stmt) (m:Mode) (f:En->Rs D):Prop:=∃ t,(∀ j,PS (C.X j) s (tAsg t (gName i)))/\SimE C.K C.G m t f
theorem sv_e {i:Nat} {x:Str} {pos':Pos} (nd:∀ j,(C.X j).N.Nodup) (he:SE C m e fe) (hN:∀ j,(C.X j).N[i]? = some x:=by intro _; rfl) (hx:∀ j,Loc (C.X j).env.scope x:=by intro _; first | exact Or.inl rfl | exact Or.inr rfl)
  (hs:∀ j,swapsWith e (some (.Name x pos')) pos.line (C.X j).env=pure false:=by intro _; rfl) (hf:∀ j,(C.X j).fn x=true\/(C.X j).env.scope.names.lookup x=some .local:=by intro _; first | exact .inl rfl | exact .inr rfl) :
  SV C i (.Assign [.Name x pos'] e pos) m fe:=by
 obtain ⟨t,h1,h2⟩:=he
 exact ⟨t,fun j=>ps_set (nd j) (hN j) (hx j) (h1 j) (hs j) (hf j),h2⟩
noncomputable def SVF (C:Ct) (i:Nat) (s:Stmt) (m:Mode) (f:En->Rs D):Prop:=∃ t,(∀ j,PS (C.X j) s (tAsg t (gName i)))/\SimF C.K C.G m t f
theorem svf_e {i:Nat} {x:Str} {pos':Pos} (nd:∀ j,(C.X j).N.Nodup) (he:SF C m e fe) (hN:∀ j,(C.X j).N[i]? = some x:=by intro _; rfl) (hx:∀ j,Loc (C.X j).env.scope x:=by intro _; first | exact Or.inl rfl | exact Or.inr rfl)
  (hs:∀ j,swapsWith e (some (.Name x pos')) pos.line (C.X j).env=pure false:=by intro _; rfl) (hf:∀ j,(C.X j).fn x=true\/(C.X j).env.scope.names.lookup x=some .local:=by intro _; first | exact .inl rfl | exact .inr rfl) :
  SVF C i (.Assign [.Name x pos'] e pos) m fe:=by
 obtain ⟨t,h1,h2⟩:=he
 exact ⟨t,fun j=>ps_set (nd j) (hN j) (hx j) (h1 j) (hs j) (hf j),h2⟩
noncomputable def onlyB (P:Nat->Bool):Mode->Bool
 | some L=>L.all P
 | none=>false
theorem only_in {P:Nat->Bool} {m:Mode} (h:onlyB P m=true):∀ k,inM m k->P k=true:=by
 intro k hk
 cases m with
 | none=>cases h
 | some L=>exact List.all_eq_true.mp h k hk
noncomputable abbrev okS:Mode->Bool:=onlyB fun k=>decide (k <= 1)
noncomputable abbrev okN:Mode->Bool:=onlyB fun k=>k == 1
noncomputable abbrev okO (i:Nat):Mode->Bool:=onlyB fun k=>k == 1 || k == i + 2
noncomputable def setS (i:Nat) (fe:En->Rs D):En->Ou:=fun ρ=>(fe ρ).bo fun d=>.nx (ρ.set i (.sh d))
noncomputable def setN (i:Nat) (fe:En->Rs D):En->Ou:=fun ρ=>(fe ρ).bo fun d=>.nx (ρ.set i (.nw d))
noncomputable def setO (i:Nat) (fe:En->Rs D):En->Ou:=fun ρ=>(fe ρ).bo fun d=>.nx (ρ.set i (.ow d))
theorem RR.shared {K:PySem.W.Frag} {G:Gx} {τ:List (V × D)} {ρ:En} {σ:L2.St} {H H':Hp} {lab:Lab} {v:V} {d:D} (hm:okS m=true) (R:RR K G τ ρ σ H lab) (s:Same H H') (r:Rp K (fpM m lab H) H' v d) :
  RR K G τ ρ σ H' (newLab H 1 lab)/\Rp K (fun p=>(newLab H 1 lab p).1 <= 1) H' v d:=R.fresh (P:=fun k=>k <= 1) (by decide) (fun k hk=>of_decide_eq_true (only_in hm k hk)) s r
theorem ss_setS {i:Nat} (h:SV C i s m fe) (hm:okS m=true:=by rfl):SS C s (setS i fe):=by
 obtain ⟨t,h1,h2⟩:=h
 refine ⟨_,h1,fun τ σ H ρ lab De R W=>h2 τ σ H ρ lab _ R (W.bo.imp fun d _ w v H' s r=>?_)⟩
 obtain ⟨R',r'⟩:=R.shared hm s r
 exact w _ _ _ (R'.put (s:=.sh d) r')
theorem ss_setN {i:Nat} (h:SV C i s m fe) (hm:okN m=true:=by rfl):SS C s (setN i fe):=by
 obtain ⟨t,h1,h2⟩:=h
 refine ⟨_,h1,fun τ σ H ρ lab De R W=>h2 τ σ H ρ lab _ R (W.bo.imp fun d _ w v H' s r=>?_)⟩
 obtain ⟨R',r'⟩:=R.fresh (P:=fun k=>k=1) rfl (fun k hk=>beq_iff_eq.mp (only_in hm k hk)) s r
 exact w _ _ _ (R'.put (s:=.nw d) r')
theorem ss_setO {i:Nat} (h:SVF C i s m fe) (hm:okO i m=true:=by rfl):SS C s (setO i fe):=by
 obtain ⟨t,h1,h2⟩:=h
 refine ⟨_,h1,fun τ σ H ρ lab De R W=>h2 τ σ H ρ lab _ R (W.bo.imp fun d _ w v H' s r ht=>?_)⟩
 obtain ⟨lab',R',r'⟩:=R.freshO i (fun k hk=>by have:=only_in hm k hk; simpa using this) s r ht
 exact w _ _ _ (R'.put (s:=.ow d) r')
noncomputable def setZ (i:Nat) (fe:En->Rs D):En->Ou:=fun ρ=>(fe ρ).bo fun d=>match d with
 | .lst ds=>.nx (ρ.set i (.oz (.lst ds)))
 | _=>.st
noncomputable def SimG (K:PySem.W.Frag) (G:Gx) (g:TG) (fg:D->En->Rs En):Prop:=∀ τ v d σ H ρ lab (Q:L2.St->Hp->Prop) ρ',RR K G τ ρ σ H lab->Rp K (fun p=>(lab p).1 <= 1) H v d->fg d ρ = .ok ρ'->(∀ σ',RR K G τ ρ' σ' H lab->Q σ' H)->g v σ H Q
noncomputable def SimGs (K:PySem.W.Frag) (G:Gx) (g:TGs) (fg:List D->En->Rs En):Prop:=∀ τ vs ds σ H ρ lab (Q:L2.St->Hp->Prop) ρ',RR K G τ ρ σ H lab->Rps K (fun p=>(lab p).1 <= 1) H vs ds->fg ds ρ = .ok ρ'->(∀ σ',RR K G τ ρ' σ' H lab->Q σ' H)->g vs σ H Q
noncomputable def SG (C:Ct) (tg:Expr) (ks:List Nat) (fg:D->En->Rs En):Prop:=∃ g,(∀ i,PG (C.X i) tg g)/\SimG C.K C.G g fg/\GOnly g ks/\GMono g
noncomputable def SGs (C:Ct) (tg:List Expr) (ks:List Nat) (fg:List D->En->Rs En):Prop:=∃ g,(∀ i,PGs (C.X i) tg g)/\SimGs C.K C.G g fg/\GOnlys g ks/\GMonos g
noncomputable def gnm (i:Nat):D->En->Rs En:=fun d ρ=>.ok (ρ.set i (.sh d))
noncomputable def gnil:List D->En->Rs En:=fun ds ρ=>match ds with
 | []=>.ok ρ
 | _=>.st
noncomputable def gcons (f:D->En->Rs En) (g:List D->En->Rs En):List D->En->Rs En:=fun ds ρ=>match ds with
 | d :: r=>(f d ρ).bd (g r)
 | _=>.st
noncomputable def gtup (n:Nat) (g:List D->En->Rs En):D->En->Rs En:=fun d ρ=>match d with
 | .tup ds=>if ds.length=n then g ds ρ else .st
 | _=>.st
variable {ks:List Nat} {fg:D->En->Rs En} {fgs:List D->En->Rs En} {tg:Expr} {tgs:List Expr}
theorem sg_name {i:Nat} {x:Str} (nd:∀ j,(C.X j).N.Nodup) (hk:i ∈ ks) (hN:∀ j,(C.X j).N[i]? = some x:=by intro _; rfl) (hx:∀ j,Loc (C.X j).env.scope x:=by intro _; first | exact Or.inl rfl | exact Or.inr rfl)
  (hf:∀ j,(C.X j).fn x=true\/(C.X j).env.scope.names.lookup x=some .local:=by intro _; first | exact .inl rfl | exact .inr rfl):SG C (.Name x pos) ks (gnm i) :=
 ⟨_,fun j=>pg_name (nd j) (hN j) (hx j) (hf j),fun τ v d σ H ρ lab Q ρ' R r e q=>by cases e; exact q _ (R.put (s:=.sh d) r),go_name hk,gm_name⟩
theorem sgs_nil:SGs C [] ks gnil:=by
 refine ⟨_,fun _=>pgs_nil,fun τ vs ds σ H ρ lab Q ρ' R r e q=>?_,gos_nil,gms_nil⟩
 cases r with
 | nil=>cases e; exact ⟨rfl,q _ R⟩
 | cons _ _=>cases e
theorem sgs_cons (h:SG C tg ks fg) (k:SGs C tgs ks fgs) (hs:∀ i,(assignEach (tg :: tgs) (C.X i).env).map (·.2)=assign tg (C.X i).env :: (assignEach tgs (C.X i).env).map (·.2):=by intro _; rfl):SGs C (tg :: tgs) ks (gcons fg fgs):=by
 obtain ⟨g,h1,h2,h3,h4⟩:=h
 obtain ⟨u,k1,k2,k3,k4⟩:=k
 refine ⟨_,fun i=>pgs_cons (h1 i) (k1 i) (hs i),fun τ vs ds σ H ρ lab Q ρ' R r e q=>?_,gos_cons h3 h4 k3 k4,gms_cons h4 k4⟩
 cases r with
 | nil=>cases e
 | cons h r =>
  obtain ⟨ρ1,e1,e2⟩:=bd_eq_ok e
  exact ⟨_,_,rfl,h2 τ _ _ σ H ρ lab _ ρ1 R h e1 fun σ1 R1=>k2 τ _ _ σ1 H ρ1 lab Q ρ' R1 r e2 q⟩
theorem sg_tup {k n:Nat} (h:SGs C tgs ks fgs) (hn:∀ i,(assignEach tgs (C.X i).env).length=n:=by intro _; rfl) (hst:∀ i,(assignEach tgs (C.X i).env).findIdx? (·.1)=none:=by intro _; rfl):SG C (.Tuple tgs k pos) ks (gtup n fgs):=by
 obtain ⟨u,k1,k2,k3,k4⟩:=h
 refine ⟨gTup C.K n u,fun i=>by rw [<- C.hK i]; exact pg_tup (C.calm i) (k1 i) (hn i) (hst i),fun τ v d σ H ρ lab Q ρ' R r e q=>?_,go_tup k3,gm_tup k4⟩
 cases r with
 | tup h r =>
  unfold gtup at e
  dsimp only at e
  split at e
  ·rename_i hl
   exact ⟨_,_,rfl,h,by rw [r.length]; exact hl,k2 τ _ _ σ H ρ lab Q ρ' R r e q⟩
  ·cases e
 | _=>cases e
noncomputable def asgS (fe:En->Rs D) (fg:D->En->Rs En):En->Ou:=fun ρ=>(fe ρ).bo fun d=>match fg d ρ with
 | .ok ρ'=>.nx ρ'
 | _=>.st
theorem ss_asg (he:SE C m e fe) (hg:SG C tg ks fg) (hm:okS m=true:=by rfl) (hs:∀ i,swapsWithSole [tg] e pos.line (C.X i).env=pure false:=by intro _; rfl) (hw:∀ i,swappedStores [tg] e (C.X i).env=pure none:=by intro _; rfl)
  (h1:∀ i,(assignEach [tg] (C.X i).env).map (·.2)=[assign tg (C.X i).env]:=by intro _; rfl):SS C (.Assign [tg] e pos) (asgS fe fg):=by
 obtain ⟨t,p1,p2⟩:=he
 obtain ⟨g,q1,q2,_,_⟩:=hg
 refine ⟨_,fun i=>ps_asg (p1 i) (q1 i) (hs i) (hw i) (h1 i),fun τ σ H ρ lab De R W=>p2 τ σ H ρ lab _ R (W.bo.imp fun d _ w v H' s r=>?_)⟩
 obtain ⟨R',r'⟩:=R.shared hm s r
 cases hgd:fg d ρ with
 | ok ρ'=>rw [hgd] at w; exact q2 τ v d σ H' ρ _ _ ρ' R' r' hgd fun σ' R2=>w σ' H' _ R2
 | ex c=>rw [hgd] at w; exact False.elim w
 | st=>rw [hgd] at w; exact False.elim w
noncomputable def JL (K:PySem.W.Frag) (lab:Lab) (J:It) (H:Hp) (ds:List D):Prop:=∀ i,(ds.length <= i->J.stop i H)/\(i < ds.length->J.go i H/\∀ x H',J.yld i H x H'->Same H H'/\∃ d,ds[i]? = some d/\Rp K (fun p=>(lab p).1 <= 1) H' x d)
noncomputable def SimI (K:PySem.W.Frag) (G:Gx) (wi:TI) (f:En->Rs (List D)):Prop:=∀ τ σ H ρ lab (Rr:It->Hp->Prop),RR K G τ ρ σ H lab ->
 WR G (f ρ) (fun ds=>∀ J H1 lab1 τ1,Same H H1->(∀ p o,H p=some o->lab1 p=lab p)->RR K G (τ1 ++ τ) ρ σ H1 lab1->(∀ lab' H',(∀ q ∈ τ1,Rp K (fun p=>(lab' p).1 <= 1) H' q.1 q.2)->JL K lab' J H' ds)->Rr J H1)->wi σ H Rr
noncomputable def SI (C:Ct) (tg iter:Expr) (f:En->Rs (List D)):Prop:=∃ wi,(∀ i,PI (C.X i) tg iter wi)/\SimI C.K C.G wi f
noncomputable def iSeq (K:PySem.W.Frag) (tl:TE):TI:=fun σ H R=>tl σ H fun x H1=>∃ a,x = .ref a/\(((∃ xs,SqL K H1 a xs)/\R (Itl K a) H1)\/((∃ xs,SqT K H1 a xs)/\R (Itt K a) H1))
theorem pi_seq {X:Cx} {tg l:Expr} {tl:TE} (hl:PE X l tl):PI X tg l (iSeq X.K tl):=by
 intro pins s σ H R I h
 refine thn (hl pins s σ H _ I h) fun v s1 ⟨x,H1,I1,r1,a,e,q1⟩=>?_
 subst e
 cases r1
 have hp:∀ b ∈ [s1.heap.objs.size],FpOk X pins H1 b:=fun b hb=>by
  have e:b=s1.heap.objs.size:=by simpa using hb
  rw [e]
  exact I1.fpOk (Nat.le_refl _) (I1.hok.fresh (Nat.le_refl _))
 rcases q1 with ⟨⟨xs,hq⟩,q⟩ | ⟨⟨xs,hq⟩,q⟩
 ·obtain ⟨its,rv,p,hz⟩:=I1.list hq
  refine wpAny_pyIter_list p.isList ?_
  exact ⟨_,_,_,_,H1,rfl,I1.kept (t':=s1.toks) fun b o e=>Heap.get?_push_of_some _ e,turn_list a _,⟨_,Heap.get?_push_size _ rfl,rfl,rfl⟩,hp,q⟩
 ·obtain ⟨its,rv,p,hz⟩:=I1.tuple hq
  refine wpAny_pyIter_tuple (show s1.heap.IsTuple a its.toArray from p) ?_
  exact ⟨_,_,_,_,H1,rfl,I1.kept (t':=s1.toks) fun b o e=>Heap.get?_push_of_some _ e,turn_tuple a _,⟨_,Heap.get?_push_size _ rfl,rfl,rfl⟩,hp,q⟩
noncomputable def itD:D->Rs (List D)
 | .tup l=>.ok l
 | .lst l=>.ok l
 | .scr l=>.ok (l.map .int)
 | _=>.st
noncomputable def itrD (fe:En->Rs D):En->Rs (List D):=fun ρ=>(fe ρ).bd itD
theorem jl_list {K:PySem.W.Frag} {lab:Lab} {H:Hp} {a:Addr} {xs:List V} {ds:List D} (h:SqL K H a xs) (r:Rps K (fun p=>(lab p).1 <= 1) H xs ds):JL K lab (Itl K a) H ds:=by
 have hl:=r.length
 refine fun i=>⟨fun hi=>⟨xs,h,by omega⟩,fun hi=>⟨⟨xs,xs[i]'(by omega),h,by simp [hl,hi]⟩,fun x H' y=>?_⟩⟩
 obtain ⟨e,y⟩:=y
 subst e
 obtain ⟨d,h1,h2⟩:=r.get (y xs h)
 exact ⟨Same.refl _,d,h1,h2⟩
theorem jl_tup {K:PySem.W.Frag} {lab:Lab} {H:Hp} {a:Addr} {xs:List V} {ds:List D} (h:SqT K H a xs) (r:Rps K (fun p=>(lab p).1 <= 1) H xs ds):JL K lab (Itt K a) H ds:=by
 have hl:=r.length
 refine fun i=>⟨fun hi=>⟨xs,h,by omega⟩,fun hi=>⟨⟨xs,xs[i]'(by omega),h,by simp [hl,hi]⟩,fun x H' y=>?_⟩⟩
 obtain ⟨e,y⟩:=y
 subst e
 obtain ⟨d,h1,h2⟩:=r.get (y xs h)
 exact ⟨Same.refl _,d,h1,h2⟩
theorem si_seq (he:SE C m e fe) (hm:okS m=true:=by rfl):SI C tg e (itrD fe):=by
 obtain ⟨t,p1,p2⟩:=he
 refine ⟨iSeq C.K t,fun i=>by rw [<- C.hK i]; exact pi_seq (p1 i),fun τ σ H ρ lab Rr R W=>p2 τ σ H ρ lab _ R (W.bd.imp fun d _ w v H1 s r=>?_)⟩
 obtain ⟨R',r'⟩:=R.shared hm s r
 cases d with
 | tup l =>
  cases r' with
  | tup h q =>
   rename_i a xs
   refine ⟨_,rfl,.inr ⟨⟨_,h⟩,w _ H1 _ [(.ref a,.tup l)] s (fun p o e=>newLab_old e) ⟨R'.len,R'.sl,R'.old,R'.new,fun z hz=>?_⟩ fun lab' H' hq=>?_⟩⟩
   ·rcases List.mem_cons.mp hz with rfl | hz
    ·exact .tup h q
    ·exact R'.tm z hz
   ·have z:=hq _ (List.mem_cons_self ..)
    cases z with
    | tup h' q'=>exact jl_tup h' q'
 | lst l =>
  cases r' with
  | lst h mm q =>
   rename_i a xs
   refine ⟨_,rfl,.inl ⟨⟨_,SqL.of h⟩,w _ H1 _ [(.ref a,.lst l)] s (fun p o e=>newLab_old e) ⟨R'.len,R'.sl,R'.old,R'.new,fun z hz=>?_⟩ fun lab' H' hq=>?_⟩⟩
   ·rcases List.mem_cons.mp hz with rfl | hz
    ·exact .lst h mm q
    ·exact R'.tm z hz
   ·have z:=hq _ (List.mem_cons_self ..)
    cases z with
    | lst h' _ q'=>exact jl_list (SqL.of h') (q'.wk fun _ _ _ z=>z.1)
 | scr l =>
  cases r' with
  | scr h =>
   rename_i a
   refine ⟨_,rfl,.inl ⟨⟨_,h.sq⟩,w _ H1 _ [(.ref a,.scr l)] s (fun p o e=>newLab_old e) ⟨R'.len,R'.sl,R'.old,R'.new,fun z hz=>?_⟩ fun lab' H' hq=>?_⟩⟩
   ·rcases List.mem_cons.mp hz with rfl | hz
    ·exact .scr h
    ·exact R'.tm z hz
   ·have z:=hq _ (List.mem_cons_self ..)
    cases z with
    | scr h'=>exact jl_list h'.sq Rps.ints
 | _=>exact False.elim w
end
end VL
namespace VL
open PySem PySem.Spec PyProof.Rows L2
section
variable {C:Ct} {pos:Pos} {s:Stmt} {ss:List Stmt} {f g:En->Ou} {e a b:Expr} {es:List Expr} {m m1 m2:Mode} {fe fa fb:En->Rs D} {ks:List Nat} {fg:D->En->Rs En} {tg:Expr} {fi:En->Rs (List D)} {ga:En->Rs (List D)}
noncomputable def rngD (lo hi:Int):List D:=(List.range (hi - lo).toNat).map fun (k:Nat)=>.int (lo + (k:Int))
noncomputable def rng1:List D->Rs (List D)
 | [.int j]=>if -(2 ^ 62) <= j/\j < 2 ^ 62 then .ok (rngD 0 j) else .st
 | _=>.st
noncomputable def rng2:List D->Rs (List D)
 | [.int i,.int j]=>if (-(2 ^ 62) <= i/\i < 2 ^ 62)/\(-(2 ^ 62) <= j/\j < 2 ^ 62) then .ok (rngD i j) else .st
 | _=>.st
noncomputable def rngA (r:List D->Rs (List D)) (ga:En->Rs (List D)):En->Rs (List D):=fun ρ=>(ga ρ).bd r
theorem jl_rng {K:PySem.W.Frag} {lab:Lab} {H:Hp} {lo hi:Int}:JL K lab (Itr lo (hi - lo).toNat) H (rngD lo hi):=by
 have hl:(rngD lo hi).length=(hi - lo).toNat:=by unfold rngD; simp
 refine fun i=>⟨fun h=>by show (hi - lo).toNat <= i; omega,fun h=>⟨by show i < (hi - lo).toNat; omega,fun x H' y=>?_⟩⟩
 obtain ⟨e,rfl⟩:=y
 subst e
 refine ⟨Same.refl _,.int (lo + i),?_,.int _⟩
 unfold rngD
 rw [List.getElem?_map,List.getElem?_range (by omega)]
 rfl
theorem si_rng1 {p:Pos} (ha:SA C m [a] ga) (hg:∀ i,Gl (C.X i) "range") (hm:C.mg "range" = none) (hs:∀ i,starEach [a] (C.X i).env=[(false,eval a (C.X i).env)]:=by intro _; rfl):SI C tg (.Call (.Name "range" p) [a] [] pos) (rngA rng1 ga):=by
 obtain ⟨t,h1,h2⟩:=ha
 refine ⟨_,fun i=>pi_range1 (hg i) (by rw [(C.cx i).2.2.2.1]; exact hm) (h1 i) (hs i),fun τ σ H ρ lab Rr R W=>h2 τ σ H ρ lab _ R (W.bd.imp fun ds _ w vs H1 s r=>?_)⟩
 unfold rng1 at w
 split at w
 ·rename_i j _
  split at w
  ·rename_i hj
   cases r with
   | cons h r =>
    cases h
    cases r
    refine ⟨j,rfl,hj.1,hj.2,?_⟩
    have z:=w (Itr 0 (j - 0).toNat) H1 lab [] s (fun _ _ _=>rfl) (R.up s) fun lab' H' _=>jl_rng
    rwa [Int.sub_zero] at z
  ·exact False.elim w
 ·exact False.elim w
theorem si_rng2 {p:Pos} (ha:SA C m [a,b] ga) (hg:∀ i,Gl (C.X i) "range") (hm:C.mg "range" = none) (hs:∀ i,starEach [a,b] (C.X i).env=[(false,eval a (C.X i).env),(false,eval b (C.X i).env)]:=by intro _; rfl)
  (hs2:∀ i,starEach [b] (C.X i).env=[(false,eval b (C.X i).env)]:=by intro _; rfl):SI C tg (.Call (.Name "range" p) [a,b] [] pos) (rngA rng2 ga):=by
 obtain ⟨t,h1,h2⟩:=ha
 refine ⟨_,fun i=>pi_range2 (hg i) (by rw [(C.cx i).2.2.2.1]; exact hm) (h1 i) (hs i) (hs2 i),fun τ σ H ρ lab Rr R W=>h2 τ σ H ρ lab _ R (W.bd.imp fun ds _ w vs H1 s r=>?_)⟩
 unfold rng2 at w
 split at w
 ·rename_i i j _
  split at w
  ·rename_i hj
   cases r with
   | cons h r =>
    cases h
    cases r with
    | cons h r =>
     cases h
     cases r
     exact ⟨i,j,rfl,⟨hj.1.1,hj.1.2,hj.2.1,hj.2.2⟩,w (Itr i (j - i).toNat) H1 lab [] s (fun _ _ _=>rfl) (R.up s) fun lab' H' _=>jl_rng⟩
  ·exact False.elim w
 ·exact False.elim w
noncomputable def forL (fg:D->En->Rs En) (b:En->Ou):List D->En->Ou
 | [],ρ=>.nx ρ
 | d :: ds,ρ=>match fg d ρ with
  | .ok ρ1=>match b ρ1 with
   | .nx ρ2=>forL fg b ds ρ2
   | .ct ρ2=>forL fg b ds ρ2
   | .bk ρ2=>.nx ρ2
   | o=>o
  | _=>.st
noncomputable def forS (fi:En->Rs (List D)) (fg:D->En->Rs En) (b:En->Ou):En->Ou:=fun ρ=>(fi ρ).bo fun ds=>forL fg b ds ρ
theorem ss_for (hi:SI C tg e fi) (hg:SG C tg ks fg) (hb:SSs C ss f) (hs:∀ i,∀ x,foldedSetIterable e (C.X i).env x=pure x:=by intro _ _; rfl):SS C (.For tg e ss [] pos) (forS fi fg f):=by
 obtain ⟨wi,i1,i2⟩:=hi
 obtain ⟨gg,g1,g2,_,g4⟩:=hg
 obtain ⟨tb,b1,b2⟩:=hb
 refine ⟨_,fun i=>ps_for (C.own i) (C.calm i) (i1 i) (g1 i) (b1 i) (hs i),fun τ σ H ρ lab De R W=>i2 τ σ H ρ lab _ R (W.bo.imp fun ds _ w J H1 lab1 τ1 s1 _ R1 jl=>?_)⟩
 refine ⟨fun i n σ' H'=>∃ ρ' lab',RR C.K C.G (τ1 ++ τ) ρ' σ' H' lab'/\n=ds.length - i/\i <= ds.length/\WS C.K C.G τ (forL fg f (ds.drop i) ρ') De,⟨ds.length,ρ,lab1,R1,by omega,by omega,w⟩,?_⟩
 rintro i n σ' H' ⟨ρ',lab',R',rfl,hi,w'⟩
 have jj:=jl lab' H' fun q hq=>R'.tm q (List.mem_append_left _ hq)
 by_cases hlt:i < ds.length
 ·obtain ⟨go,yl⟩:=(jj i).2 hlt
  refine .inr ⟨go,fun σ2 H2=>∃ ρ2 lab2,RR C.K C.G (τ1 ++ τ) ρ2 σ2 H2 lab2/\WS C.K C.G τ (forL fg f (ds.drop (i + 1)) ρ2) De,fun σ2 H2 ⟨ρ2,lab2,R2,w2⟩=>⟨ds.length - (i + 1),by omega,ρ2,lab2,R2,rfl,hlt,w2⟩,fun x H2 hy=>?_⟩
  obtain ⟨s2,d,ed,rx⟩:=yl x H2 hy
  replace R':=R'.up s2
  have ed2:ds.drop i=d :: ds.drop (i + 1):=by
   rw [List.drop_eq_getElem_cons hlt]
   have:=List.getElem?_eq_getElem hlt
   rw [ed] at this
   cases this
   rfl
  rw [ed2] at w'
  unfold forL at w'
  cases eg:fg d ρ' with
  | ex c=>rw [eg] at w'; exact False.elim w'
  | st=>rw [eg] at w'; exact False.elim w'
  | ok ρ1 =>
   rw [eg] at w'
   refine g2 (τ1 ++ τ) x d σ' H2 ρ' lab' _ ρ1 R' rx eg fun σ1 R1'=>b2 (τ1 ++ τ) σ1 H2 ρ1 lab' _ R1' ?_
   dsimp only at w'
   cases eb:f ρ1 with
   | nx ρ2=>rw [eb] at w'; exact fun σ2 H3 lab2 R2=>⟨ρ2,lab2,R2,w'⟩
   | ct ρ2=>rw [eb] at w'; exact fun σ2 H3 lab2 R2=>⟨ρ2,lab2,R2,w'⟩
   | bk ρ2=>rw [eb] at w'; exact fun σ2 H3 lab2 R2=>w' σ2 H3 lab2 R2.drop
   | rt d=>rw [eb] at w'; exact w'
   | ex c=>rw [eb] at w'; exact w'
   | st=>rw [eb] at w'; exact w'
 ·have e:i=ds.length:=by omega
  subst e
  rw [List.drop_length] at w'
  exact .inl ⟨(jj _).1 (Nat.le_refl _),w' σ' H' lab' R'.drop⟩
noncomputable def fuel:Nat:=1000000
noncomputable def raiseS (x:Str) (ga:En->Rs (List D)):En->Ou:=fun ρ=>(ga ρ).bo fun ds=>if ds.length <= sizeLine then .ex x else .st
theorem ss_raise {x:Str} {Ca:Addr} {e₀:Expr} {rest:List Expr} {np cpos:Pos} (hd:C.dOk=true) (hm:C.mg x=some (.ref Ca)) (hcl:C.G.cl x=Ca) (hC:ExcC C.K Ca) (hg:∀ i,Gl (C.X i) x) (ha:SA C m (e₀ :: rest) ga)
  (he:∀ i,starEach (e₀ :: rest) (C.X i).env=(false,eval e₀ (C.X i).env) :: starEach rest (C.X i).env:=by intro _; rfl) (hplain:∀ i,(backTo cpos (starEach rest (C.X i).env)).any (·.1)=false:=by intro _; rfl)
  (hdb:(x == ("__debug__" : Str))=false:=by decide):SS C (.Raise (some (.Call (.Name x np) (e₀ :: rest) [] cpos)) none pos) (raiseS x ga):=by
 obtain ⟨t,h1,h2⟩:=ha
 refine ⟨_,fun i=>ps_raise (C.dcx hd i) (C.calm i) (by rw [(C.cx i).2.2.2.1]; exact hm) (by rw [C.hK i]; exact hC) (hg i) (h1 i) (he i) (hplain i) hdb,fun τ σ H ρ lab De R W=>h2 τ σ H ρ lab _ R (W.bo.imp fun ds _ w vs H1 s r=>?_)⟩
 by_cases hz:ds.length <= sizeLine
 ·rw [if_pos hz] at w
  refine ⟨by rw [r.length]; exact hz,?_⟩
  have:=w H1 (R.old.trans s)
  rwa [hcl] at this
 ·rw [if_neg hz] at w
  exact False.elim w
noncomputable def spF (K:PySem.W.Frag) (cl:Str->Addr) (n:Nat) (F:List D->Rs D):Sp:=fun vs H Q E=>∃ ds,vs.length=n/\Rps K (fun _=>True) H vs ds/\WR ⟨H,E,cl⟩ (F ds) (fun d=>∀ v H',Same H H'->Rp K (fun p=>H p=none) H' v d->Q v H')
noncomputable def callD (F:List D->Rs D) (ga:En->Rs (List D)):En->Rs D:=fun ρ=>(ga ρ).bd F
theorem sim_call {K:PySem.W.Frag} {G:Gx} {t:TA} {n:Nat} {F:List D->Rs D} (hn:∀ ρ ds,ga ρ = .ok ds->ds.length=n) (h:SimA K G m t ga):SimE K G (some []) (tCall (spF K G.cl n F) [] G.E t) (callD F ga):=by
 intro τ σ H ρ lab Q R W
 refine h τ σ H ρ lab _ R (W.bd.imp fun ds eds w vs H1 s r=>⟨ds,by rw [List.append_nil,r.length]; exact hn ρ ds eds,by rw [List.append_nil]; exact r.wk fun _ _ _ _=>trivial,?_⟩)
 cases hF:F ds with
 | ok d =>
  rw [hF] at w
  exact fun v H' s' r'=>w v H' (s.trans s') (r'.wk fun p o _ z=>.inl (s.free z))
 | ex c=>rw [hF] at w; exact fun H' s'=>w H' ((R.old.trans s).trans s')
 | st=>rw [hF] at w; exact w
variable {k:Nat} {fn:Addr} {fd:FuncData} {ps:List Str} {x:Str} {p:Pos} {F:List D->Rs D} {n:Nat}
theorem se_call (hF:FnOk C.prog C.w C.K C.mg C.base (CX1 C.prog C.w) k fn fd ps (spF C.K C.G.cl n F)) (hr:k <= C.k) (hg:∀ i,Gl (C.X i) x) (hm:C.mg x=some (.ref fn)) (hk:PySem.W.keepIn C.K (.ref fn)=true) (hb:Binds C.K fd ps []) (ha:SA C m (e :: es) ga)
  (hn:∀ ρ ds,ga ρ = .ok ds->ds.length=n) (hdb:(x == ("__debug__" : Str))=false:=by decide) (he:∀ i,starEach (e :: es) (C.X i).env=(false,eval e (C.X i).env) :: starEach es (C.X i).env:=by intro _; rfl)
  (hpl:∀ i,(backTo pos (starEach es (C.X i).env)).any (·.1)=false:=by intro _; rfl):SE C (some []) (.Call (.Name x p) (e :: es) [] pos) (callD F ga):=by
 obtain ⟨t,h1,h2⟩:=ha
 refine ⟨_,fun i=>?_,sim_call hn h2⟩
 obtain ⟨e1,e2,e3,e4,e5⟩:=C.cx i
 refine pe_call (CX:=CX1 (C.X i).prog (C.X i).w) (by rw [e1,e2,e3,e4,e5]; exact hF) ((C.room i).mono hr) (hg i) (by rw [e4]; exact hm) (by rw [e3]; exact hk) (by rw [e3]; exact hb) .nil (C.pass i) (h1 i) hdb (he i) (hpl i)
theorem len_nil {ρ:En} {ds:List D} (h:nilA ρ = .ok ds):ds.length=0:=by cases h; rfl
theorem len_cons {fa:En->Rs D} {ga:En->Rs (List D)} {n:Nat} (h:∀ ρ ds,ga ρ = .ok ds->ds.length=n):∀ ρ ds,consA fa ga ρ = .ok ds->ds.length=n + 1:=fun ρ ds e=>by
 obtain ⟨d,_,e⟩:=bd_eq_ok e
 obtain ⟨r,er,e⟩:=bd_eq_ok e
 cases e
 rw [List.length_cons,h ρ r er]
end
noncomputable def clOf (mg:Str->Option Value):Str->Addr:=fun x=>match mg x with
 | some (.ref a)=>a
 | _=>0
noncomputable abbrev ctD (P:Program) (w:World) (K:PySem.W.Frag) (mg:Str->Option Value) (base:Heap) (N:List Str) (q:Str) (sc:Scope) (f:Addr) (cdv:Value) (A:Around) (outer:List Env) (s:Shared) (H:Hp) (E:XK) (k:Nat) (hr:Room k (A.deeper (envOfC q sc s.heap.objs.size f cdv))):Ct where
 ι:=Unit
 X:=fun _=>cxOf (CX1 P w) P w K mg base N q sc f cdv A outer s H E
 prog:=P
 w:=w
 K:=K
 mg:=mg
 base:=base
 k:=k
 G:=⟨H,E,clOf mg⟩
 cx:=fun _=>⟨rfl,rfl,rfl,rfl,rfl⟩
 calm:=fun _=>rfl
 room:=fun _=>hr
 own:=fun _=>DefCx.own DefCx.of
 pass:=fun _=>DefCx.pass DefCx.of
 dOk:=true
 dcx:=fun _ _=>DefCx.of
noncomputable def startE (n:Nat) (ds:List D):En:=ds.map .sh ++ List.replicate (n - ds.length) .no
noncomputable def runD (n:Nat) (f:En->Ou):List D->Rs D:=fun ds=>match f (startE n ds) with
 | .nx _=>.ok .non
 | .rt d=>.ok d
 | .ex c=>.ex c
 | _=>.st
theorem RR.start {K:PySem.W.Frag} {H:Hp} {E:XK} {cl:Str->Addr} {N:List Str} {vs:List V} {ds:List D} (r:Rps K (fun _=>True) H vs ds):RR K ⟨H,E,cl⟩ [] (startE N.length ds) (start N vs) H (fun _=>(0,0)):=by
 have hl:=r.length
 refine ⟨by unfold startE L2.start; simp [hl],fun i s e=>?_,Same.refl H,fun p hp=>absurd rfl hp,fun q hq=>by cases hq⟩
 unfold startE at e
 by_cases hi:i < ds.length
 ·rw [List.getElem?_append_left (by simpa using hi),List.getElem?_map] at e
  cases ed:ds[i]? with
  | none=>rw [ed] at e; cases e
  | some d =>
   rw [ed] at e
   cases e
   obtain ⟨x,ex,rx⟩:=r.getD ed
   refine .inr ⟨x,?_,rx.wk fun _ _ _ _=>Nat.zero_le _⟩
   unfold L2.start
   rw [List.getElem?_append_left (by simpa [hl] using hi),List.getElem?_map,ex]
   rfl
 ·rw [List.getElem?_append_right (by simpa using hi),List.getElem?_replicate] at e
  split at e
  ·cases e; exact .inl rfl
  ·cases e
section
variable {P:Program} {w:World} {K:PySem.W.Frag} {mg:Str->Option Value} {base:Heap}
theorem fn_sim {x q:Str} {st:Stmt} {fn:Addr} {fd:FuncData} {N ps:List Str} {k:Nat} {f:En->Ou} (F:L2.Fun K x q st fn fd) (S:FnScope N ps (defScope st))
  (hb:∀ cdv A outer s H E hr,SSs (ctD P w K mg base N q (defScope st) fn cdv A outer s H E k hr) (defBody st) f) :
  FnOk P w K mg base (CX1 P w) (k + 1) fn fd ps (spF K (clOf mg) ps.length (runD N.length f)):=by
 refine F.okX S (fun vs H Q E ⟨ds,hl,_⟩=>hl) fun cdv A outer s H vs Q E hr ⟨ds,hl,r,W⟩=>?_
 obtain ⟨t,h1,h2⟩:=hb cdv A outer s H E hr
 refine ⟨t,h1 (),h2 [] _ H _ _ _ (RR.start r) ?_⟩
 unfold runD at W
 cases e:f (startE N.length ds) with
 | nx ρ=>rw [e] at W; exact fun σ' H' lab R=>W .non H' R.old .non
 | rt d=>rw [e] at W; exact fun v H' s r=>W v H' s r
 | ex c=>rw [e] at W; exact W
 | bk ρ=>rw [e] at W; exact False.elim W
 | ct ρ=>rw [e] at W; exact False.elim W
 | st=>rw [e] at W; exact False.elim W
theorem fn_simE {x q:Str} {st:Stmt} {fn:Addr} {fd:FuncData} {N ps:List Str} {k n:Nat} {f:En->Ou} {FF:List D->Rs D} (F:L2.Fun K x q st fn fd) (S:FnScope N ps (defScope st))
  (hb:∀ cdv A outer s H E hr,SSs (ctD P w K mg base N q (defScope st) fn cdv A outer s H E k hr) (defBody st) f) (hn:ps.length=n) (hF:runD N.length f=FF) :
  FnOk P w K mg base (CX1 P w) (k + 1) fn fd ps (spF K (clOf mg) n FF):=by
 subst hn hF
 exact fn_sim F S hb
end
end VL
namespace VL
open PySem PySem.Spec PyProof.Rows L2
theorem OpR.or {X:Cx} {f:Value->Value->Sem Value} {r r':R2} (h:OpR X f r) (h':OpR X f r'):OpR X f (fun x y H Q=>r x y H Q\/r' x y H Q):=by
 intro pins s σ H x y v u Q I rx ry q
 rcases q with q | q
 ·exact h pins s σ H x y v u Q I rx ry q
 ·exact h' pins s σ H x y v u Q I rx ry q
theorem OpS.or {K:PySem.W.Frag} {r r':R2} {fd fd':D->D->Rs D} (h:OpS K r fd) (h':OpS K r' fd'):OpS K (fun x y H Q=>r x y H Q\/r' x y H Q) (fun d e=>match fd d e with
  | .ok z=>.ok z
  | _=>fd' d e):=by
 intro A x y d e H Q z rx ry ez q
 dsimp only at ez
 cases hd:fd d e with
 | ok w=>rw [hd] at ez; cases ez; exact .inl (h A x y d e H Q _ rx ry hd q)
 | ex c=>rw [hd] at ez; exact .inr (h' A x y d e H Q z rx ry ez q)
 | st=>rw [hd] at ez; exact .inr (h' A x y d e H Q z rx ry ez q)
section
variable {K:PySem.W.Frag}
noncomputable def i2 (p:Int->Int->Bool) (g:Int->Int->D):D->D->Rs D
 | .int i,.int j=>if p i j=true then .ok (g i j) else .st
 | _,_=>.st
theorem os_int {c:Int->Int->Prop} {p:Int->Int->Bool} {g:Int->Int->Int} (hp:∀ i j,p i j=true->c i j):OpS K (rI c fun i j=>.int (g i j)) (i2 p fun i j=>.int (g i j)):=by
 intro A x y d e H Q z rx ry ez q
 unfold i2 at ez
 split at ez
 ·rename_i i j
  split at ez
  ·rename_i h
   cases ez
   obtain rfl:=rx.int_inv
   obtain rfl:=ry.int_inv
   exact ⟨i,j,rfl,rfl,hp i j h,q _ H (Same.refl H) (.int _)⟩
  ·cases ez
 ·cases ez
theorem os_int0 {g:Int->Int->Int}:OpS K (rI0 fun i j=>.int (g i j)) (i2 (fun _ _=>true) fun i j=>.int (g i j)):=by
 intro A x y d e H Q z rx ry ez q
 unfold i2 at ez
 split at ez
 ·rename_i i j
  cases ez
  obtain rfl:=rx.int_inv
  obtain rfl:=ry.int_inv
  exact ⟨i,j,rfl,rfl,q _ H (Same.refl H) (.int _)⟩
 ·cases ez
theorem os_bl0 {g:Int->Int->Bool}:OpS K (rI0 fun i j=>.bl (g i j)) (i2 (fun _ _=>true) fun i j=>.bl (g i j)):=by
 intro A x y d e H Q z rx ry ez q
 unfold i2 at ez
 split at ez
 ·rename_i i j
  cases ez
  obtain rfl:=rx.int_inv
  obtain rfl:=ry.int_inv
  exact ⟨i,j,rfl,rfl,q _ H (Same.refl H) (.bl _)⟩
 ·cases ez
theorem imm_i2 {p:Int->Int->Bool} {g:Int->Int->Int}:∀ x y z,i2 p (fun i j=>.int (g i j)) x y = .ok z->imm z=true:=by
 intro x y z e
 unfold i2 at e
 split at e
 ·split at e
  ·cases e; rfl
  ·cases e
 ·cases e
theorem imm_b2 {p:Int->Int->Bool} {g:Int->Int->Bool}:∀ x y z,i2 p (fun i j=>.bl (g i j)) x y = .ok z->imm z=true:=by
 intro x y z e
 unfold i2 at e
 split at e
 ·split at e
  ·cases e; rfl
  ·cases e
 ·cases e
noncomputable def addD:D->D->Rs D
 | .int i,.int j=>.ok (.int (i + j))
 | .lst l,.lst m=>if l.length + m.length <= sizeLine then .ok (.lst (l ++ m)) else .st
 | .tup l,.tup m=>if l.length + m.length <= sizeLine then .ok (.tup (l ++ m)) else .st
 | _,_=>.st
noncomputable def rCatV (K:PySem.W.Frag):R2:=fun x y H Q=>∃ a b xs ys,x = .ref a/\y = .ref b/\SqT K H a xs/\SqT K H b ys/\xs.length + ys.length <= sizeLine /\
 (xs=[]->Q (.ref b) H)/\(ys=[]->Q (.ref a) H)/\New H (.tup (xs ++ ys)) Q
theorem op_catV {X:Cx}:OpR X (binaryOp .Add) (rCatV X.K):=by
 intro pins s σ H x y v u Q I rx ry h
 obtain ⟨a,b,xs,ys,rfl,rfl,ha,hb,hz,q0,q1,q2⟩:=h
 by_cases hx:xs=[]
 ·subst hx
  cases rx
  cases ry
  obtain ⟨its,r1,p1,_⟩:=I.tuple ha
  obtain ⟨its2,r2,p2,_⟩:=I.tuple hb
  cases r1
  exact HT.cat_tup0 p1 p2 ⟨.ref b,H,I,rfl,q0 rfl⟩
 ·exact op_catT pins s σ H _ _ v u Q I rx ry ⟨a,b,xs,ys,rfl,rfl,ha,hb,hx,hz,q1,fun _ p hp=>q2.at hp⟩
noncomputable def rAddV (K:PySem.W.Frag):R2:=fun x y H Q=>rI0 (fun i j=>.int (i + j)) x y H Q\/(rCatL x y H Q\/rCatV K x y H Q)
theorem op_addV {X:Cx}:OpR X (binaryOp .Add) (rAddV X.K):=OpR.or op_add (OpR.or op_catL op_catV)
theorem os_add:OpS K (rAddV K) addD:=by
 intro A x y d e H Q z rx ry ez q
 unfold addD at ez
 split at ez
 ·cases ez; obtain rfl:=rx.int_inv; obtain rfl:=ry.int_inv; exact .inl ⟨_,_,rfl,rfl,q _ H (Same.refl H) (.int _)⟩
 ·split at ez
  ·rename_i hl
   cases ez
   obtain ⟨_,_,rfl,h1,m1,r1⟩:=rx.lst_inv
   obtain ⟨_,_,rfl,h2,m2,r2⟩:=ry.lst_inv
   refine .inr (.inl ⟨_,_,_,_,rfl,rfl,h1,h2,by rw [r1.length,r2.length]; exact hl,fun p H' s hp hn=>q _ H' s (.lst hp (.inl hn) ?_)⟩)
   exact (((r1.wk fun _ _ _ z=>z.1).append (r2.wk fun _ _ _ z=>z.1)).wk (A':=fun q=>(H q=none\/A q)/\q ≠ p) fun q o e z=>⟨.inr z,fun e'=>by subst e'; rw [hn] at e; cases e⟩).up s
  ·cases ez
 ·split at ez
  ·rename_i hl
   cases ez
   obtain ⟨_,_,rfl,h1,r1⟩:=rx.tup_inv
   obtain ⟨_,_,rfl,h2,r2⟩:=ry.tup_inv
   have r1':=r1.wk (A':=fun p=>H p=none\/A p) fun _ _ _ z=>.inr z
   have r2':=r2.wk (A':=fun p=>H p=none\/A p) fun _ _ _ z=>.inr z
   refine .inr (.inr ⟨_,_,_,_,rfl,rfl,h1,h2,by rw [r1.length,r2.length]; exact hl,fun e=>?_,fun e=>?_,fun p H' s hp hn=>q _ H' s (.tup (SqT.of hp) ((r1'.append r2').up s))⟩)
   ·subst e
    cases r1'
    exact q _ H (Same.refl H) (.tup h2 r2')
   ·subst e
    cases r2'
    rw [List.append_nil] at q
    exact q _ H (Same.refl H) (.tup h1 r1')
  ·cases ez
 ·cases ez
noncomputable def mulD:D->D->Rs D
 | .int i,.int j=>if (decide (-(2 ^ 64) < i) && decide (i < 2 ^ 64)) || (decide (-(2 ^ 64) < j) && decide (j < 2 ^ 64)) then .ok (.int (i * j)) else .st
 | .lst l,.int k=>if decide (-(2 ^ 63) <= k) && decide (k < 2 ^ 63) && decide (l.length * k.toNat <= sizeLine) && imms l then .ok (.lst (List.replicate k.toNat l).flatten) else .st
 | _,_=>.st
theorem Rps.rep {A:Addr->Prop} {H:Hp} {xs:List V} {ds:List D} (r:Rps K A H xs ds):∀ k:Nat,Rps K A H (List.replicate k xs).flatten (List.replicate k ds).flatten
 | 0=>.nil
 | k + 1=>by
  rw [List.replicate_succ,List.replicate_succ,List.flatten_cons,List.flatten_cons]
  exact r.append (Rps.rep r k)
noncomputable def rMulV:R2:=fun x y H Q=>rI CMul (fun i j=>.int (i * j)) x y H Q\/rRep x y H Q
theorem op_mulV {X:Cx}:OpR X (binaryOp .Mult) rMulV:=OpR.or op_mul op_rep
theorem os_mul:OpS K rMulV mulD:=by
 intro A x y d e H Q z rx ry ez q
 unfold mulD at ez
 split at ez
 ·split at ez
  ·rename_i hc
   cases ez; obtain rfl:=rx.int_inv; obtain rfl:=ry.int_inv
   refine .inl ⟨_,_,rfl,rfl,?_,q _ H (Same.refl H) (.int _)⟩
   simp only [Bool.or_eq_true,Bool.and_eq_true,decide_eq_true_eq] at hc
   exact hc
  ·cases ez
 ·split at ez
  ·rename_i hc
   simp only [Bool.and_eq_true,decide_eq_true_eq] at hc
   cases ez
   obtain ⟨_,_,rfl,h1,m1,r1⟩:=rx.lst_inv
   obtain rfl:=ry.int_inv
   refine .inr ⟨_,_,_,rfl,rfl,h1,hc.1.1.1,hc.1.1.2,by rw [r1.length]; exact hc.1.2,fun p hp=>q _ _ (same_new hp _) (.lst upd_same (.inl hp) ?_)⟩
   exact ((r1.rep _).wk (A':=fun q=>(H q=none\/A q)/\q ≠ p) fun q o e z=>⟨.inr z.1,fun e'=>by subst e'; rw [hp] at e; cases e⟩).up (same_new hp _)
  ·cases ez
 ·cases ez
noncomputable def intsOf:List D->Option (List Int)
 | []=>some []
 | .int i :: r=>(intsOf r).map (i :: ·)
 | _=>none
theorem intsOf_some:∀ {l:List D} {ns:List Int},intsOf l=some ns->l=ns.map .int
 | [],ns,h=>by cases h; rfl
 | .int i :: r,ns,h=>by
  simp only [intsOf,Option.map_eq_some_iff] at h
  obtain ⟨ms,h1,rfl⟩:=h
  rw [intsOf_some h1]; rfl
 | .non :: _,_,h=>by cases h
 | .bl _ :: _,_,h=>by cases h
 | .str _ :: _,_,h=>by cases h
 | .tup _ :: _,_,h=>by cases h
 | .lst _ :: _,_,h=>by cases h
 | .dct _ _ :: _,_,h=>by cases h
 | .set _ :: _,_,h=>by cases h
 | .scr _ :: _,_,h=>by cases h
theorem intsOf_map:∀ ns:List Int,intsOf (ns.map .int)=some ns
 | []=>rfl
 | n :: ns=>by simp only [List.map_cons,intsOf,intsOf_map ns,Option.map_some]
noncomputable def ltT (p:List Int->List Int->Bool):D->D->Rs D
 | .tup l,.tup m=>match intsOf l,intsOf m with
  | some ns,some ms=>.ok (.bl (p ns ms))
  | _,_=>.st
 | _,_=>.st
theorem rp_ints {A:Addr->Prop} {H:Hp} {x:V} {l:List D} {ns:List Int} (r:Rp K A H x (.tup l)) (e:intsOf l=some ns):∃ a,x = .ref a/\SqT K H a (ns.map V.int):=by
 have:=intsOf_some e
 subst this
 cases r with
 | tup h r =>
  have:=r.ints_of
  subst this
  exact ⟨_,rfl,h⟩
theorem os_tupB {r:R2} {p:List Int->List Int->Bool} (hr:∀ x y H Q,(∃ a b ns ms,x = .ref a/\y = .ref b/\SqT K H a (ns.map V.int)/\SqT K H b (ms.map V.int)/\Q (.bl (p ns ms)) H)->r x y H Q):OpS K r (ltT p):=by
 intro A x y d e H Q z rx ry ez q
 unfold ltT at ez
 split at ez
 ·split at ez
  ·rename_i ns ms e1 e2
   cases ez
   obtain ⟨a,rfl,ha⟩:=rp_ints rx e1
   obtain ⟨b,rfl,hb⟩:=rp_ints ry e2
   exact hr _ _ _ _ ⟨a,b,ns,ms,rfl,rfl,ha,hb,q _ H (Same.refl H) (.bl _)⟩
  ·cases ez
 ·cases ez
noncomputable def ltD:D->D->Rs D:=fun d e=>match i2 (fun _ _=>true) (fun i j=>.bl (decide (i < j))) d e with
 | .ok z=>.ok z
 | _=>ltT HT.lexLt d e
noncomputable def leD:D->D->Rs D:=fun d e=>match i2 (fun _ _=>true) (fun i j=>.bl (decide (i <= j))) d e with
 | .ok z=>.ok z
 | _=>ltT HT.lexLe d e
noncomputable def gtD:D->D->Rs D:=i2 (fun _ _=>true) (fun i j=>.bl (decide (j < i)))
noncomputable def geD:D->D->Rs D:=i2 (fun _ _=>true) (fun i j=>.bl (decide (j <= i)))
theorem op_ltV {X:Cx} (hu:X.A.units < cLine):OpR X (compareOp .Lt) (fun x y H Q=>rI0 (fun i j=>.bl (decide (i < j))) x y H Q\/rLtT X.K x y H Q):=OpR.or op_lt (op_ltT hu)
theorem op_leV {X:Cx} (hu:X.A.units < cLine):OpR X (compareOp .LtE) (fun x y H Q=>rI0 (fun i j=>.bl (decide (i <= j))) x y H Q\/rLeT X.K x y H Q):=OpR.or op_le (op_leT hu)
theorem os_lt:OpS K (fun x y H Q=>rI0 (fun i j=>.bl (decide (i < j))) x y H Q\/rLtT K x y H Q) ltD:=OpS.or os_bl0 (os_tupB fun _ _ _ _ h=>h)
theorem os_le:OpS K (fun x y H Q=>rI0 (fun i j=>.bl (decide (i <= j))) x y H Q\/rLeT K x y H Q) leD:=OpS.or os_bl0 (os_tupB fun _ _ _ _ h=>h)
theorem imm_ltT {p:List Int->List Int->Bool} {x y z:D} (e:ltT p x y = .ok z):imm z=true:=by
 unfold ltT at e
 split at e
 ·split at e
  ·cases e; rfl
  ·cases e
 ·cases e
theorem imm_lt:∀ x y z,ltD x y = .ok z->imm z=true:=by
 intro x y z e
 unfold ltD at e
 split at e
 ·rename_i w hw; cases e; exact imm_b2 _ _ _ hw
 ·exact imm_ltT e
theorem imm_le:∀ x y z,leD x y = .ok z->imm z=true:=by
 intro x y z e
 unfold leD at e
 split at e
 ·rename_i w hw; cases e; exact imm_b2 _ _ _ hw
 ·exact imm_ltT e
noncomputable def isD (neg:Bool):D->D->Rs D
 | .bl a,.bl b=>if neg then .st else .ok (.bl (a == b))
 | d,.non=>match d with
  | .non=>.ok (.bl (!neg))
  | _=>.ok (.bl neg)
 | _,_=>.st
theorem op_isV {X:Cx}:OpR X (compareOp .Is) (fun x y H Q=>(∃ b c,x = .bl b/\y = .bl c/\Q (.bl (b == c)) H)\/(y = .non/\Q (.bl (decide (x = .non))) H)):=OpR.or op_is_bl op_isN
theorem rp_non {A:Addr->Prop} {H:Hp} {x:V} {d:D} (r:Rp K A H x d) (h:d ≠ .non):x ≠ .non:=by
 cases r with
 | non=>exact absurd rfl h
 | _=>exact fun e=>by cases e
theorem os_is:OpS K (fun x y H Q=>(∃ b c,x = .bl b/\y = .bl c/\Q (.bl (b == c)) H)\/(y = .non/\Q (.bl (decide (x = .non))) H)) (isD false):=by
 intro A x y d e H Q z rx ry ez q
 unfold isD at ez
 split at ez
 ·cases ez; cases rx; cases ry; exact .inl ⟨_,_,rfl,rfl,q _ H (Same.refl H) (.bl _)⟩
 ·cases ry
  split at ez
  ·cases ez; cases rx; exact .inr ⟨rfl,by rw [decide_eq_true rfl]; exact q _ H (Same.refl H) (.bl _)⟩
  ·rename_i hn
   cases ez
   exact .inr ⟨rfl,by rw [decide_eq_false (rp_non rx hn)]; exact q _ H (Same.refl H) (.bl _)⟩
 ·cases ez
theorem imm_is {n:Bool}:∀ x y z,isD n x y = .ok z->imm z=true:=by
 intro x y z e
 unfold isD at e
 split at e
 ·split at e
  ·cases e
  ·cases e; rfl
 ·split at e <;> (cases e; rfl)
 ·cases e
noncomputable def negD:D->Rs D
 | .int i=>.ok (.int (-i))
 | _=>.st
theorem us_neg:UnS K (rU fun i=>.int (-i)) negD:=by
 intro A x d H Q z rx ez q
 cases rx with
 | int i=>cases ez; exact ⟨i,rfl,q _ H (Same.refl H) (.int _)⟩
 | _=>cases ez
theorem imm_neg:∀ x z,negD x = .ok z->imm z=true:=by
 intro x z e
 cases x with
 | int i=>cases e; rfl
 | _=>cases e
noncomputable def atD (l:List D) (i:Int):Rs D:=match atI l i with
 | some d=>.ok d
 | none=>.st
noncomputable def ixD:D->D->Rs D
 | .tup l,.int i=>atD l i
 | .lst l,.int i=>atD l i
 | .scr l,.int i=>atD (l.map .int) i
 | _,_=>.st
theorem Rps.at {A:Addr->Prop} {H:Hp} {xs:List V} {ds:List D} {i:Int} {d:D} (r:Rps K A H xs ds) (e:atI ds i=some d):∃ x,atI xs i=some x/\Rp K A H x d:=by
 unfold atI at e ⊢
 rw [r.length]
 cases h:ixN ds.length i with
 | none=>rw [h] at e; cases e
 | some j =>
  rw [h] at e
  obtain ⟨x,e1,e2⟩:=r.getD (i:=j) (d:=d) e
  exact ⟨x,e1,e2⟩
theorem os_ix:OpS K (rIx K) ixD:=by
 intro A x y d e H Q z rx ry ez q
 unfold ixD at ez
 split at ez
 ·unfold atD at ez
  split at ez
  ·rename_i w hw
   cases ez
   obtain ⟨_,_,rfl,h,r⟩:=rx.tup_inv
   obtain rfl:=ry.int_inv
   obtain ⟨v,e1,e2⟩:=r.at hw
   exact .inr (.inl ⟨_,_,_,v,rfl,rfl,h,e1,q v H (Same.refl H) (e2.wk fun _ _ _ z=>.inr z)⟩)
  ·cases ez
 ·unfold atD at ez
  split at ez
  ·rename_i w hw
   cases ez
   obtain ⟨_,_,rfl,h,m,r⟩:=rx.lst_inv
   obtain rfl:=ry.int_inv
   obtain ⟨v,e1,e2⟩:=r.at hw
   exact .inl ⟨_,_,_,v,rfl,rfl,SqL.of h,e1,q v H (Same.refl H) (e2.wk fun _ _ _ z=>.inr z.1)⟩
  ·cases ez
 ·unfold atD at ez
  split at ez
  ·rename_i w hw
   cases ez
   obtain ⟨_,rfl,h⟩:=rx.scr_inv
   obtain rfl:=ry.int_inv
   obtain ⟨v,e1,e2⟩:=(Rps.ints (K:=K) (A:=A) (H:=H)).at hw
   exact .inl ⟨_,_,_,v,rfl,rfl,h.sq,e1,q v H (Same.refl H) (e2.wk fun _ _ _ z=>.inr z)⟩
  ·cases ez
 ·cases ez
noncomputable def lenD:List D->Rs D
 | [.tup l]=>.ok (.int l.length)
 | [.lst l]=>.ok (.int l.length)
 | [.scr l]=>.ok (.int l.length)
 | _=>.st
theorem cs_len:CallS K (fun xs H Q=>∃ p ys,xs=[.ref p]/\(SqL K H p ys\/SqT K H p ys)/\Q (.int ys.length) H) lenD:=by
 intro A xs ds H Q z r ez q
 unfold lenD at ez
 split at ez
 ·cases ez
  obtain ⟨_,rfl,h0⟩:=r.one_inv
  obtain ⟨_,_,rfl,h,r⟩:=h0.tup_inv
  exact ⟨_,_,rfl,.inr h,by rw [r.length]; exact q _ H (Same.refl H) (.int _)⟩
 ·cases ez
  obtain ⟨_,rfl,h0⟩:=r.one_inv
  obtain ⟨_,_,rfl,h,m,r⟩:=h0.lst_inv
  exact ⟨_,_,rfl,.inl (SqL.of h),by rw [r.length]; exact q _ H (Same.refl H) (.int _)⟩
 ·cases ez
  obtain ⟨_,rfl,h0⟩:=r.one_inv
  obtain ⟨_,rfl,h⟩:=h0.scr_inv
  exact ⟨_,_,rfl,.inl h.sq,by rw [List.length_map]; exact q _ H (Same.refl H) (.int _)⟩
 ·cases ez
theorem imm_len:∀ x z,lenD x = .ok z->imm z=true:=by
 intro x z e
 unfold lenD at e
 split at e <;> first | (cases e; rfl) | cases e
noncomputable def tyD:D->String
 | .non=>"NoneType" | .bl _=>"bool" | .int _=>"int" | .str _=>"str" | .tup _=>"tuple" | .lst _=>"list" | .dct _ _=>"dict" | .set _=>"set" | .scr _=>"script"
noncomputable def isiD (T:String):D->Rs D:=fun d=>if isiOk (tyD d) T true=true then .ok (.bl true) else if isiOk (tyD d) T false=true then .ok (.bl false) else .st
noncomputable def rIsiV (K:PySem.W.Frag) (T:String):List V->Hp->VK->Prop:=fun xs H Q=>∃ x d A b,xs=[x,.ty T]/\Rp K A H x d/\isiOk (tyD d) T b=true/\Q (.bl b) H
theorem call_isiV {X:Cx} {T:String}:CallR X (.builtin "isinstance") (rIsiV X.K T):=by
 intro pins s σ H xs us Q I rv h
 obtain ⟨x,d,A,b,rfl,rd,ok,q⟩:=h
 cases rd with
 | tup h r =>
  obtain ⟨u,w',rfl,ru,rw'⟩:=vals2 rv
  cases ru
  cases rw'
  obtain ⟨its,_,⟨o,h1,h2,_⟩,_⟩:=I.tuple h
  exact PySem.W.kia_one PySem.W.kitx_tuple I.kIn ⟨o,h1,h2⟩ (kit_ok ok) (fun z=>nomatch z) fun tk=>⟨.bl b,H,I.tok _,rfl,q⟩
 | set h m hS nd=>cases b <;> simp [isiOk,tyD] at ok
 | scr h=>cases b <;> simp [isiOk,tyD] at ok
 | non=>exact call_isi pins s σ H _ us Q I rv ⟨_,T,_,b,rfl,.non,ok,q⟩
 | bl c=>exact call_isi pins s σ H _ us Q I rv ⟨_,T,_,b,rfl,.bl c,ok,q⟩
 | int c=>exact call_isi pins s σ H _ us Q I rv ⟨_,T,_,b,rfl,.int c,ok,q⟩
 | str c=>exact call_isi pins s σ H _ us Q I rv ⟨_,T,_,b,rfl,.str c,ok,q⟩
 | lst h m r=>exact call_isi pins s σ H _ us Q I rv ⟨_,T,_,b,rfl,.lst h,ok,q⟩
 | dK h m r=>exact call_isi pins s σ H _ us Q I rv ⟨_,T,_,b,rfl,.dK h,ok,q⟩
 | dT h m r =>
  obtain ⟨u,w',rfl,ru,rw'⟩:=vals2 rv
  cases ru
  cases rw'
  obtain ⟨⟨_,_,_,o,_,_,_,h1,h2,_⟩,_⟩:=(show ObjOk X.prog X.w H s.heap _ (dxO _ _) from I.hok _ _ h.at_)
  exact PySem.W.kia_one PySem.W.kitx_dict I.kIn ⟨o,h1,h2.1⟩ (kit_ok ok) (fun z=>nomatch z) fun tk=>⟨.bl b,H,I.tok _,rfl,q⟩
end
section
variable {C:Ct} {pos p p2:Pos} {m:Mode} {a:Expr} {fa:En->Rs D}
theorem se_isi {x:Str} {T:String} (ha:SE C m a fa) (hg:∀ i,Gl (C.X i) "isinstance") (hm:C.mg "isinstance" = none) (hv:bootBuiltins "isinstance" = some (.builtin "isinstance")) (hgT:∀ i,Gl (C.X i) x) (hmT:C.mg x=none) (hvT:bootBuiltins x=some (.type T))
  (hn:x ≠ "__name__":=by decide) (hd:(x == ("__debug__" : Str))=false:=by decide)
  (he:∀ i,starEach [a,.Name x p2] (C.X i).env=(false,eval a (C.X i).env) :: starEach [.Name x p2] (C.X i).env:=by intro _; rfl) (hpl:∀ i,(backTo pos (starEach [.Name x p2] (C.X i).env)).any (·.1)=false:=by intro _; rfl) :
  SE C (some []) (.Call (.Name "isinstance" p) [a,.Name x p2] [] pos) (op1 (isiD T) fa):=by
 obtain ⟨t,h1,h2⟩:=ha
 refine ⟨tCB (rIsiV C.K T) (tCons t (tCons (tC (.ty T)) tNil)),fun i=>?_,fun τ σ H ρ lab Q R W=>?_⟩
 ·rw [<- C.hK i]
  exact pe_callB call_isiV (hg i) (by rw [(C.cx i).2.2.2.1]; exact hm) hv (pa_cons (h1 i) (pa_cons (pe_bltn (v:=.ty T) (hgT i) (by rw [(C.cx i).2.2.2.1]; exact hmT) hvT rfl hn hd) pa_nil) (he i)) (by decide) (by decide) (he i) (hpl i)
 ·refine h2 τ σ H ρ lab _ R (W.bd.imp fun d _ w x H1 s1 r1=>?_)
  obtain ⟨z,ez,w⟩:=w.okD
  unfold isiD at ez
  split at ez
  ·rename_i h; cases ez; exact ⟨x,d,_,true,rfl,r1,h,w _ H1 s1 (.bl _)⟩
  ·split at ez
   ·rename_i h; cases ez; exact ⟨x,d,_,false,rfl,r1,h,w _ H1 s1 (.bl _)⟩
   ·cases ez
end
end VL
namespace VL
open PySem PySem.Spec PyProof.Rows L2
noncomputable def toSh:Slot->Slot
 | .ow d=>.sh d
 | .nw d=>.sh d
 | .oz d=>.sh d
 | .o2 l=>.sh (.lst (l.map .lst))
 | s=>s
noncomputable def shE (ρ:En):En:=ρ.map toSh
noncomputable def stV (js:List (Option Nat)) (σ:L2.St):L2.St:=js.map fun o=>o.bind fun j=>(σ[j]?).join
noncomputable def stE (js:List (Option Nat)) (ρ:En):En:=js.map fun o=>match o with
 | none=>.no
 | some j=>(ρ[j]?).getD .no
theorem rp_lab0 {K:PySem.W.Frag} {H:Hp} {lab:Lab} {i:Nat} {v:V} {s:Slot} (h:SlotOk K H lab i v s):∃ d,(s = .no\/toSh s = .sh d)/\(s = .no\/Rp K (fun _=>True) H v d):=by
 cases s with
 | no=>exact ⟨.non,.inl rfl,.inl rfl⟩
 | sh d=>exact ⟨d,.inr rfl,.inr (Rp.wk (fun _ _ _ _=>trivial) h)⟩
 | nw d=>exact ⟨d,.inr rfl,.inr (Rp.wk (fun _ _ _ _=>trivial) h)⟩
 | ow d=>exact ⟨d,.inr rfl,.inr (Rp.wk (fun _ _ _ _=>trivial) h.1)⟩
 | oz d=>exact ⟨d,.inr rfl,.inr (Rp.wk (fun _ _ _ _=>trivial) (oz_rp h))⟩
 | o2 l=>exact ⟨_,.inr rfl,.inr (Rp.wk (fun _ _ _ _=>trivial) (o2_rp h))⟩
theorem RR.shE {K:PySem.W.Frag} {G:Gx} {τ:List (V × D)} {ρ:En} {σ:L2.St} {H:Hp} {lab:Lab} (R:RR K G τ ρ σ H lab):RR K G τ (shE ρ) σ H (fun _=>(0,0)):=by
 refine ⟨by unfold VL.shE; rw [List.length_map]; exact R.len,fun i s e=>?_,R.old,fun p hp=>absurd rfl hp,fun q hq=>(R.tm q hq).wk fun _ _ _ _=>Nat.zero_le _⟩
 unfold VL.shE at e
 rw [List.getElem?_map] at e
 cases e0:ρ[i]? with
 | none=>rw [e0] at e; cases e
 | some s0 =>
  rw [e0] at e
  cases e
  rcases R.sl i s0 e0 with rfl | ⟨v,ev,hv⟩
  ·exact .inl rfl
  ·obtain ⟨d,h1,h2⟩:=rp_lab0 hv
   rcases h1 with rfl | h1
   ·exact .inl rfl
   ·rcases h2 with rfl | h2
    ·exact .inl rfl
    ·exact .inr ⟨v,ev,by rw [h1]; exact h2.wk fun _ _ _ _=>Nat.zero_le _⟩
theorem stE_at {js:List (Option Nat)} {ρ:En} {i:Nat} {s:Slot} (e:(stE js ρ)[i]? = some s):s = .no\/∃ j,js[i]? = some (some j)/\ρ[j]? = some s:=by
 unfold stE at e
 rw [List.getElem?_map] at e
 cases ej:js[i]? with
 | none=>rw [ej] at e; cases e
 | some o =>
  rw [ej] at e
  cases o with
  | none=>cases e; exact .inl rfl
  | some j =>
   cases er:ρ[j]? with
   | none=>simp [er] at e; exact .inl e.symm
   | some s'=>simp [er] at e; subst e; exact .inr ⟨j,rfl,er⟩
theorem RR.block {K:PySem.W.Frag} {G:Gx} {τ:List (V × D)} {ρ:En} {σ:L2.St} {H:Hp} {lab:Lab} {js:List (Option Nat)} {l:Addr} (R:RR K G τ (VL.shE ρ) σ H lab) (hz:∀ p,(lab p).1 <= 1) (hl:H l=none) :
  RR K G τ (stE js (VL.shE ρ)) (stV js σ) H (fun p=>if p=l then (2,0) else (0,0)):=by
 have nl:∀ p o,H p=some o->p ≠ l:=fun p o e z=>by subst z; rw [hl] at e; cases e
 refine ⟨by unfold stE stV; rw [List.length_map,List.length_map],fun i s e=>?_,R.old,fun p hp=>?_,fun q hq=>(R.tm q hq).wk fun p o e _=>by rw [if_neg (nl p o e)]; exact Nat.zero_le _⟩
 ·rcases stE_at e with rfl | ⟨j,ej,es⟩
  ·exact .inl rfl
  ·rcases R.sl j s es with rfl | ⟨v,ev,hv⟩
   ·exact .inl rfl
   ·refine .inr ⟨v,?_,?_⟩
    ·unfold stV
     rw [List.getElem?_map,ej]
     simp [ev]
    ·unfold VL.shE at es
     rw [List.getElem?_map] at es
     cases e0:ρ[j]? with
     | none=>rw [e0] at es; cases es
     | some s0 =>
      rw [e0] at es
      cases es
      cases s0 with
      | no=>trivial
      | oz d=>exact Rp.wk (fun p o e _=>by show (if p=l then ((2,0):Nat × Nat) else (0,0)).1 <= 1; rw [if_neg (nl p o e)]; exact Nat.zero_le _) hv
      | nw d=>exact Rp.wk (fun p o e _=>by show (if p=l then ((2,0):Nat × Nat) else (0,0)).1 <= 1; rw [if_neg (nl p o e)]; exact Nat.zero_le _) hv
      | sh d=>exact Rp.wk (fun p o e _=>by show (if p=l then ((2,0):Nat × Nat) else (0,0)).1 <= 1; rw [if_neg (nl p o e)]; exact Nat.zero_le _) hv
      | ow d=>exact Rp.wk (fun p o e _=>by show (if p=l then ((2,0):Nat × Nat) else (0,0)).1 <= 1; rw [if_neg (nl p o e)]; exact Nat.zero_le _) hv
      | o2 d=>exact Rp.wk (fun p o e _=>by show (if p=l then ((2,0):Nat × Nat) else (0,0)).1 <= 1; rw [if_neg (nl p o e)]; exact Nat.zero_le _) hv
 ·by_cases hp':p=l
  ·subst hp'; exact R.old.free hl
  ·exact absurd (show (if p=l then ((2,0):Nat × Nat) else (0,0)).1=0 by rw [if_neg hp']) hp
noncomputable def chkB (XN N:List Str) (js:List (Option Nat)) (ks:List Nat) (sc:Scope):Bool:=(List.range js.length).all fun i=>match js[i]? with
 | some (some j)=>match N[i]?,XN[j]? with
  | some x,some y=>x == y && sc.names.lookup x == some .free && !ks.contains i
  | _,_=>false
 | _=>true
theorem blk_mk {X:Cx} {sc:Scope} {N:List Str} {js:List (Option Nat)} {ks:List Nat} (h1:sc.kind = .function) (h2:(sc.names.all fun y=>y.2 != .cell)=true) (h3:(sc.names.all fun y=>y.2 != .local || sc.names.lookup y.1 == some .local)=true)
  (h4:(sc.names.all fun y=>y.2 != .free || (X.env.kindOf y.1 == some .cell || X.env.kindOf y.1 == some .free))=true) (h5:js.length=N.length) (h6:chkB X.N N js ks sc=true):BlkNames X sc N (stV js) ks:=by
 refine ⟨h1,fun y hy=>?_,fun y hy e=>?_,fun y hy e=>?_,fun σ=>by unfold stV; rw [List.length_map]; exact h5,fun σ i x v e1 e2=>?_⟩
 ·have:=List.all_eq_true.mp h2 y hy
  simpa using this
 ·have:=List.all_eq_true.mp h3 y hy
  rw [e] at this
  simpa using this
 ·have:=List.all_eq_true.mp h4 y hy
  rw [e] at this
  simpa using this
 ·unfold stV at e2
  rw [List.getElem?_map] at e2
  cases ej:js[i]? with
  | none=>rw [ej] at e2; cases e2
  | some o =>
   rw [ej] at e2
   cases o with
   | none=>cases e2
   | some j =>
    have hi:i < js.length:=(List.getElem?_eq_some_iff.mp ej).1
    have:=List.all_eq_true.mp h6 i (List.mem_range.mpr hi)
    rw [ej,e1] at this
    dsimp only at this
    cases ey:X.N[j]? with
    | none=>rw [ey] at this; cases this
    | some y =>
     rw [ey] at this
     simp only [Bool.and_eq_true,beq_iff_eq,Bool.not_eq_true'] at this
     obtain ⟨⟨h,h'⟩,h''⟩:=this
     subst h
     refine ⟨h',fun hk=>?_,j,ey,?_⟩
     ·rw [List.contains_iff_mem.mpr hk] at h''; cases h''
     ·simp only [Option.map_some,Option.bind_some,Option.some.injEq] at e2
      cases es:σ[j]? with
      | none=>rw [es] at e2; cases e2
      | some w=>rw [es] at e2; simp at e2; subst e2; rfl
noncomputable abbrev Ct.blk (C:Ct) (sc:Scope) (N:List Str):Ct where
 ι:=C.ι × Addr × List Addr × Shared × Hp
 X:=fun i=>(C.X i.1).block sc i.2.1 N i.2.2.1 i.2.2.2.1 i.2.2.2.2
 prog:=C.prog
 w:=C.w
 K:=C.K
 mg:=C.mg
 base:=C.base
 k:=C.k
 G:={ C.G with E:=fun _ _ _=>False }
 cx:=fun i=>C.cx i.1
 calm:=fun i=>C.calm i.1
 room:=fun i=>C.room i.1
 own:=fun i=>PassesOwn.never
 pass:=fun i pins σ H s e s' I h=>by obtain ⟨_,_,_,_,_,_,_,_,_,_,_,_,_,hE⟩:=h; exact hE
 dOk:=false
 dcx:=fun h=>absurd h Bool.false_ne_true
noncomputable def lcL (ρ:En) (fg:D->En->Rs En) (ft:En->Rs Bool) (fe:En->Rs D):List D->Rs (List D)
 | []=>.ok []
 | d :: ds=>(fg d ρ).bd fun ρ1=>(ft ρ1).bd fun k=>if k=true then (fe ρ1).bd fun y=>(lcL ρ fg ft fe ds).bd fun ys=>.ok (y :: ys) else lcL ρ fg ft fe ds
noncomputable def lcD (fi:En->Rs (List D)) (js:List (Option Nat)) (fg:D->En->Rs En) (ft:En->Rs Bool) (fe:En->Rs D):En->Rs D:=fun ρ=>(fi (shE ρ)).bd fun ds =>
 if ds.length < sizeLine then (match lcL (stE js (shE ρ)) fg ft fe ds with
  | .ok l=>.ok (.lst l)
  | _=>.st) else .st
noncomputable def SIfs (C:Ct) (ifs:List Expr) (f:En->Rs Bool):Prop:=∃ t,(∀ i,PIfs (C.X i) ifs t)/\SimT C.K C.G t f
noncomputable def yesT:En->Rs Bool:=fun _=>.ok true
theorem sf_nil {C:Ct}:SIfs C [] yesT:=⟨_,fun _=>pf_nil,fun τ σ H ρ lab Q R W=>W H (Same.refl H)⟩
theorem sf_one {C:Ct} {c:Expr} {f:En->Rs Bool} (h:ST C c f):SIfs C [c] f:=let ⟨t,h1,h2⟩:=h; ⟨t,fun i=>pf_one (h1 i),h2⟩
theorem lcL_drop {ρ:En} {fg:D->En->Rs En} {ft:En->Rs Bool} {fe:En->Rs D} {d:D} {ds:List D} {l:List D} (h:lcL ρ fg ft fe (d :: ds) = .ok l) :
  ∃ ρ1 k,fg d ρ = .ok ρ1/\ft ρ1 = .ok k/\((k=true/\∃ y ys,fe ρ1 = .ok y/\lcL ρ fg ft fe ds = .ok ys/\l=y :: ys)\/(k=false/\lcL ρ fg ft fe ds = .ok l)):=by
 unfold lcL at h
 obtain ⟨ρ1,e1,h⟩:=bd_eq_ok h
 obtain ⟨k,e2,h⟩:=bd_eq_ok h
 refine ⟨ρ1,k,e1,e2,?_⟩
 cases k with
 | true =>
  rw [if_pos rfl] at h
  obtain ⟨y,e3,h⟩:=bd_eq_ok h
  obtain ⟨ys,e4,h⟩:=bd_eq_ok h
  cases h
  exact .inl ⟨rfl,y,ys,e3,e4,rfl⟩
 | false =>
  rw [if_neg Bool.false_ne_true] at h
  exact .inr ⟨rfl,h⟩
theorem RR.but_blk {K:PySem.W.Frag} {G:Gx} {τ:List (V × D)} {ρ:En} {js:List (Option Nat)} {σ:L2.St} {H H':Hp} {l:Addr} {o:HO} (R:RR K G τ (stE js (VL.shE ρ)) σ H (fun p=>if p=l then (2,0) else (0,0))) (B:Butl l H H') (hl:H l=some o) (ho:isMut o=true) (h0:G.H0 l=none) :
  RR K G τ (stE js (VL.shE ρ)) σ H' (fun p=>if p=l then (2,0) else (0,0)):=by
 have lab1l:¬ ((fun p=>if p=l then ((2,0):Nat × Nat) else (0,0)) l).1 <= 1:=by simp
 refine ⟨R.len,fun j s e=>?_,fun b o hb=>?_,R.new,fun q hq=>(R.tm q hq).but B hl ho lab1l⟩
 ·rcases R.sl j s e with z | ⟨u,e1,e2⟩
  ·exact .inl z
  ·refine .inr ⟨u,e1,?_⟩
   rcases stE_at e with rfl | ⟨jx,ej,es⟩
   ·trivial
   ·unfold VL.shE at es
    rw [List.getElem?_map] at es
    cases e0:ρ[jx]? with
    | none=>rw [e0] at es; cases es
    | some s0=>rw [e0] at es; cases es; cases s0 <;> first | trivial | exact Rp.but B hl ho lab1l e2
 ·exact B b o (fun z=>by subst z; rw [h0] at hb; cases hb) (R.old b o hb)
theorem RR.blk0 {K:PySem.W.Frag} {G G':Gx} {τ:List (V × D)} {ρ:En} {σ:L2.St} {H:Hp} {lab:Lab} (R:RR K G τ (VL.shE ρ) σ H lab) (hG:G'.H0=G.H0):RR K G' τ (VL.shE ρ) σ H (fun _=>(0,0)):=by
 refine ⟨R.len,fun i s e=>?_,by rw [hG]; exact R.old,fun p hp=>absurd rfl hp,fun q hq=>(R.tm q hq).wk fun _ _ _ _=>Nat.zero_le _⟩
 rcases R.sl i s e with rfl | ⟨v,ev,hv⟩
 ·exact .inl rfl
 ·unfold VL.shE at e
  rw [List.getElem?_map] at e
  cases e0:ρ[i]? with
  | none=>rw [e0] at e; cases e
  | some s0=>rw [e0] at e; cases e; cases s0 <;> first | exact .inl rfl | exact .inr ⟨v,ev,Rp.wk (fun _ _ _ _=>Nat.zero_le _) hv⟩
section
variable {K:PySem.W.Frag} {G:Gx} {wi:TI} {fi:En->Rs (List D)} {js:List (Option Nat)} {g:TG} {fg:D->En->Rs En} {tt:TT} {ft:En->Rs Bool} {te:TE} {fe:En->Rs D}
theorem sim_lc (hi:SimI K G wi fi) (hg:SimG K { G with E:=fun _ _ _=>False } g fg) (ht:SimT K { G with E:=fun _ _ _=>False } tt ft) (he:SimE K { G with E:=fun _ _ _=>False } (some []) te fe) :
  SimE K G (some []) (tLC wi (stV js) g tt te) (lcD fi js fg ft fe):=by
 intro τ σ H ρ lab Q R W
 refine hi τ σ H _ _ _ R.shE (W.bd.imp fun ds _ w J H1 lab1 τ1 s1 _ R1 jl=>?_)
 intro l hl
 obtain ⟨hlen,out,hout,w⟩:ds.length < sizeLine/\∃ out,lcL (stE js (VL.shE ρ)) fg ft fe ds = .ok out/\QE K (some []) lab H Q (.lst out):=by
  by_cases hlen:ds.length < sizeLine
  ·rw [if_pos hlen] at w
   cases hout:lcL (stE js (VL.shE ρ)) fg ft fe ds with
   | ok out=>rw [hout] at w; exact ⟨hlen,out,rfl,w⟩
   | ex c=>rw [hout] at w; exact False.elim w
   | st=>rw [hout] at w; exact False.elim w
  ·rw [if_neg hlen] at w
   exact False.elim w
 have R0:RR K { G with E:=fun _ _ _=>False } (τ1 ++ τ) (VL.shE ρ) σ H1 (fun _=>(0,0)):=R1.blk0 rfl
 have RB:=R0.block (js:=js) (fun _=>Nat.zero_le _) hl
 have hHl:H l=none:=s1.free hl
 have lab1l:¬ ((fun p=>if p=l then ((2,0):Nat × Nat) else (0,0)) l).1 <= 1:=by simp
 refine ⟨fun i n acc H2=>∃ pre,n=ds.length - i/\i <= ds.length/\H2 l=some (.lst acc)/\RR K { G with E:=fun _ _ _=>False } (τ1 ++ τ) (stE js (VL.shE ρ)) (stV js σ) H2 (fun p=>if p=l then (2,0) else (0,0))/\Same H H2/\acc.length <= i /\
  Rps K (fun p=>H p=none/\p ≠ l) H2 acc pre/\∃ post,lcL (stE js (VL.shE ρ)) fg ft fe (ds.drop i) = .ok post/\out=pre ++ post,⟨ds.length,[],by omega,by omega,upd_same,RB.up (same_new hl _),s1.trans (same_new hl _),Nat.le_refl _,.nil,out,hout,rfl⟩,?_⟩
 rintro i n acc H2 ⟨pre,rfl,hi,hH2,R2,s2,hacc,rpre,post,hpost,eout⟩
 refine ⟨hH2,by omega,?_⟩
 have jj:=jl _ H2 fun q hq=>R2.tm q (List.mem_append_left _ hq)
 by_cases hlt:i < ds.length
 ·obtain ⟨go,yl⟩:=(jj i).2 hlt
  refine .inr ⟨go,fun x H3 hy=>?_⟩
  obtain ⟨s3,d,ed,rx⟩:=yl x H3 hy
  replace R2:=R2.up s3
  replace hH2:=s3 _ _ hH2
  replace s2:=s2.trans s3
  replace rpre:=rpre.up s3
  have ed2:ds.drop i=d :: ds.drop (i + 1):=by
   rw [List.drop_eq_getElem_cons hlt]
   have:=List.getElem?_eq_getElem hlt
   rw [ed] at this
   cases this
   rfl
  rw [ed2] at hpost
  obtain ⟨ρ1,k,e1,e2,e3⟩:=lcL_drop hpost
  refine hg (τ1 ++ τ) x d _ H3 _ _ _ ρ1 R2 rx e1 fun σ4 R4=>?_
  refine ht (τ1 ++ τ) σ4 H3 ρ1 _ _ R4 ?_
  rw [e2]
  intro H5 s5
  rcases e3 with ⟨rfl,y,ys,e3,e4,rfl⟩ | ⟨rfl,e4⟩
  ·rw [if_pos rfl]
   refine he (τ1 ++ τ) σ4 H5 ρ1 _ _ (R4.up s5) ?_
   rw [e3]
   intro v H6 s6 r6
   have hl6:H6 l=some (.lst acc):=s6 _ _ (s5 _ _ hH2)
   have B:Butl l H6 (upd H6 l (.lst (acc ++ [v]))):=fun b o ne hb=>by rw [upd_ne ne]; exact hb
   refine ⟨hl6,ds.length - (i + 1),by omega,pre ++ [y],rfl,hlt,upd_same,?_,?_,by rw [List.length_append]; simp; omega,?_,ys,e4,by rw [eout]; simp⟩
   ·exact (R2.up (s5.trans s6)).but_blk B hl6 rfl (R1.old.free hl)
   ·exact fun b o hb=>B b o (fun z=>by subst z; rw [hHl] at hb; cases hb) (((s2.trans s5).trans s6) b o hb)
   ·refine ((rpre.up (s5.trans s6)).append (.cons (r6.wk fun p o _ z=>?_) .nil)).but B hl6 rfl fun z=>z.2 rfl
    rcases z with z | z
    ·exact ⟨(s2.trans s5).free z,fun e=>by subst e; rw [s5 _ _ hH2] at z; cases z⟩
    ·cases z
  ·rw [if_neg Bool.false_ne_true]
   exact ⟨ds.length - (i + 1),by omega,pre,rfl,hlt,s5 _ _ hH2,R2.up s5,s2.trans s5,by omega,rpre.up s5,post,e4,eout⟩
 ·have ei:i=ds.length:=by omega
  subst ei
  rw [List.drop_length] at hpost
  cases hpost
  rw [List.append_nil] at eout
  subst eout
  exact .inl ⟨(jj _).1 (Nat.le_refl _),w _ H2 s2 (.lst hH2 (.inl hHl) (rpre.wk fun p o _ z=>⟨.inl z.1,z.2⟩))⟩
end
section
variable {C:Ct} {pos:Pos} {elt tg iter:Expr} {ifs:List Expr} {sc:Scope} {N:List Str} {js:List (Option Nat)} {ks:List Nat} {fi:En->Rs (List D)} {fg:D->En->Rs En} {ft:En->Rs Bool} {fe:En->Rs D}
theorem se_lc (hB:∀ i,BlkNames (C.X i) sc N (stV js) ks) (hi:SI C tg iter fi) (hg:SG (C.blk sc N) tg ks fg) (ht:SIfs (C.blk sc N) ifs ft) (he:SE (C.blk sc N) (some []) elt fe)
  (hs:∀ i x,foldedSetIterable iter (C.X i).env x=pure x:=by intro _ _; rfl):SE C (some []) (.ListComp elt [⟨tg,iter,ifs,0⟩] sc pos) (lcD fi js fg ft fe):=by
 obtain ⟨wi,i1,i2⟩:=hi
 obtain ⟨g,g1,g2,g3,g4⟩:=hg
 obtain ⟨tt,t1,t2⟩:=ht
 obtain ⟨te,e1,e2⟩:=he
 exact ⟨_,fun i=>pe_lc (hB i) (C.calm i) (i1 i) (fun c fp s₀ H₀=>g1 (i,c,fp,s₀,H₀)) g3 (fun c fp s₀ H₀=>t1 (i,c,fp,s₀,H₀)) (fun c fp s₀ H₀=>e1 (i,c,fp,s₀,H₀)) (hs i),sim_lc i2 g2 t2 e2⟩
end
section
variable {K:PySem.W.Frag} {G:Gx} {wi:TI} {fi:En->Rs (List D)} {js:List (Option Nat)} {g:TG} {fg:D->En->Rs En} {tt:TT} {ft:En->Rs Bool} {te:TE} {fe:En->Rs D} {m:Mode}
end
section
variable {C:Ct} {pos:Pos} {elt tg iter:Expr} {ifs:List Expr} {sc:Scope} {N:List Str} {js:List (Option Nat)} {ks:List Nat} {fi:En->Rs (List D)} {fg:D->En->Rs En} {ft:En->Rs Bool} {fe:En->Rs D} {m:Mode}
end
end VL
namespace VL
open PySem PySem.Spec PyProof.Rows L2
theorem RR.mut {K:PySem.W.Frag} {G:Gx} {τ:List (V × D)} {ρ:En} {σ:L2.St} {H H':Hp} {lab:Lab} {i:Nat} {l:Addr} {v:V} {s':Slot} {o:HO} (R:RR K G τ ρ σ H lab) (ev:σ[i]? = some (some v)) (hl:H l=some o) (ho:isMut o=true) (hlab:(lab l).1=i + 2)
  (B:Butl l H H') (h':SlotOk K H' lab i v s'):RR K G τ (ρ.set i s') σ H' lab:=by
 refine ⟨by rw [List.length_set]; exact R.len,fun j x e=>?_,fun b u hb=>B b u (fun z=>?_) (R.old b u hb),R.new,fun q hq=>(R.tm q hq).but B hl ho fun z=>by omega⟩
 ·by_cases hj:i=j
  ·subst hj
   have hi:i < ρ.length:=by
    have:=(List.getElem?_eq_some_iff.mp e).1
    rwa [List.length_set] at this
   rw [List.getElem?_set_self hi] at e
   cases e
   exact .inr ⟨v,ev,h'⟩
  ·rw [List.getElem?_set_ne hj] at e
   rcases R.sl j x e with z | ⟨u,e1,e2⟩
   ·exact .inl z
   ·refine .inr ⟨u,e1,?_⟩
    cases x with
    | no=>trivial
    | sh d=>exact Rp.but B hl ho (fun z=>by omega) e2
    | nw d=>exact Rp.but B hl ho (fun z=>by omega) e2
    | ow d=>exact ⟨Rp.but B hl ho (fun z=>by omega) e2.1,e2.2⟩
    | oz d =>
     obtain ⟨a,xs,ds,q1,q2,q3,q4,q5⟩:=e2
     exact ⟨a,xs,ds,q1,q2,B a _ (fun z=>by subst z; exact hj (by omega)) q3,q4,Rps.but B hl ho (fun z=>by omega) q5⟩
    | o2 ll =>
     obtain ⟨a,xs,q1,q2,q3,q4,q5⟩:=e2
     refine ⟨a,xs,q1,B a _ (fun z=>?_) q2,q3,q4,fun jj y ds f1 f2=>(q5 jj y ds f1 f2).but B hl ho fun z=>?_⟩
     ·rw [z] at q3; rw [q3] at hlab; exact hj (by simpa using hlab.symm)
     ·rw [z] at hlab; exact hj (by simpa using hlab.symm)
 ·subst z
  have:=R.new b (by rw [hlab]; omega)
  rw [this] at hb
  cases hb
section
variable {C:Ct} {pos apos cpos p:Pos} {e a:Expr} {fe fa:En->Rs D} {i:Nat} {x:Str} {m:Mode}
noncomputable def appS (i:Nat) (fe:En->Rs D):En->Ou:=fun ρ=>match ρ[i]? with
 | some (.ow (.lst ds))=>(fe ρ).bo fun d=>if ds.length < sizeLine then .nx (ρ.set i (.ow (.lst (ds ++ [d])))) else .st
 | _=>.st
theorem ss_append (i:Nat) (he:SE C m e fe) (hm:okN m=true:=by rfl) (hN:∀ j,(C.X j).N[i]? = some x:=by intro _; rfl) (hv:∀ j,Vis (C.X j).env.scope x:=by intro _; first | exact Or.inl rfl | exact Or.inr (Or.inl rfl) | exact Or.inr (Or.inr rfl)) (hd:(x == ("__debug__" : Str))=false:=by decide)
  (hcd:(x == ("__classdict__" : Str))=false:=by decide) (hs1:∀ j,starEach [e] (C.X j).env=[(false,eval e (C.X j).env)]:=by intro _; rfl)
  (hbase:∀ j,attributeBase (.Name x p) "append" (C.X j).env (eval (.Name x p) (C.X j).env)=eval (.Name x p) (C.X j).env:=by intro _; rfl)
  (hfew:∀ j,((backTo cpos (starEach [e] (C.X j).env)).all (fun x=>!x.1) && (backToKw cpos (keywordEach [] (C.X j).env)).all (fun x=>x.1.isSome) && decide ([e].length + ([]:List Keyword).length + (if ([]:List Keyword).isEmpty then 0 else 1) < 30))=true:=by intro _; rfl)
  (hline:(apos.endLine == cpos.line)=true:=by rfl)
  (hsw:∀ j,swapsWith (.Call (.Attribute (.Name x p) "append" apos) [e] [] cpos) none pos.line (C.X j).env=pure false:=by intro _; rfl) :
  SS C (.Expr (.Call (.Attribute (.Name x p) "append" apos) [e] [] cpos) pos) (appS i fe):=by
 obtain ⟨t,h1,h2⟩:=he
 refine ⟨tDrop (tBM C.K "list" rAppendA (tVar i) (tCons t tNil)),fun j=>ps_expr (by rw [<- C.hK j]; exact pe_bm PySem.F.plainAttrs_list PySem.F.slot_list_append PySem.F.type_list_append mt_appendA (pe_var (hN j) (hv j) hd hcd) (pa_cons (h1 j) pa_nil (hs1 j)) (hbase j) (hfew j) hline (hs1 j) rfl) (hsw j),fun τ σ H ρ lab De R W=>?_⟩
 unfold appS at W
 cases es:ρ[i]? with
 | none=>rw [es] at W; exact False.elim W
 | some s =>
  rw [es] at W
  split at W
  ·rename_i ds hs
   cases hs
   rcases R.sl i _ es with z | ⟨v,ev,hv'⟩
   ·cases z
   ·obtain ⟨hv1,htop⟩:=hv'
    obtain ⟨a0,ea0,la0⟩:=htop rfl
    subst ea0
    cases hv1 with
    | lst h mm r =>
     rename_i xs
     refine ⟨.ref a0,ev,.inl ⟨rfl,xs,SqL.of h⟩,h2 τ σ H ρ lab _ R (W.bo.imp fun d _ w y H2 s2 r2=>?_)⟩
     by_cases hz:ds.length < sizeLine
     ·rw [if_pos hz] at w
      refine ⟨a0,xs,y,rfl,rfl,s2 _ _ h,by rw [r.length]; exact hz,fun H3 B h3=>?_⟩
      obtain ⟨R',r'⟩:=R.fresh (P:=fun k=>k=1) rfl (fun k hk=>beq_iff_eq.mp (only_in hm k hk)) s2 r2
      have la:(newLab H 1 lab a0).1=i + 2:=by rw [newLab_old h]; exact la0
      refine w σ H3 _ (R'.mut ev (s2 _ _ h) rfl la B ⟨.lst h3 (.inr la) ?_,fun _=>⟨a0,rfl,la⟩⟩)
      have ra:Rps C.K (fun p=>((newLab H 1 lab p).1=1\/(newLab H 1 lab p).1=i + 2)/\p ≠ a0) H2 (xs ++ [y]) (ds ++ [d]):=by
       refine (r.mono s2 fun p o e z=>⟨by rw [newLab_old e]; exact z.1,z.2⟩).append (.cons (r'.wk fun p o e z=>⟨.inl z,fun q=>?_⟩) .nil)
       subst q
       rw [la] at z
       omega
      exact ra.but B (s2 _ _ h) rfl fun z=>z.2 rfl
     ·rw [if_neg hz] at w
      exact False.elim w
  ·exact False.elim W
end
end VL
namespace VL
open PySem PySem.Spec PyProof.Rows L2
mutual
noncomputable def eqD:D->D->Bool
 | .non,.non=>true
 | .bl a,.bl b=>a == b
 | .bl a,.int b=>(if a then 1 else 0) == b
 | .int a,.bl b=>a == (if b then 1 else 0)
 | .int a,.int b=>a == b
 | .str a,.str b=>a == b
 | .tup l,.tup m=>eqDs l m
 | .lst l,.lst m=>eqDs l m
 | _,_=>false
noncomputable def eqDs:List D->List D->Bool
 | [],[]=>true
 | x :: xs,y :: ys=>eqD x y && eqDs xs ys
 | _,_=>false
end
mutual
noncomputable def depD:D->Nat
 | .tup l=>depDs l + 1
 | .lst l=>depDs l + 1
 | _=>0
noncomputable def depDs:List D->Nat
 | []=>0
 | d :: r=>max (depD d) (depDs r)
end
mutual
noncomputable def noDct:D->Bool
 | .tup l=>noDcts l
 | .lst l=>noDcts l
 | .dct _ _=>false
 | .set _=>false
 | .scr _=>false
 | _=>true
noncomputable def noDcts:List D->Bool
 | []=>true
 | d :: r=>noDct d && noDcts r
end
mutual
theorem eqD_refl:∀ d:D,noDct d=true->eqD d d=true
 | .non,_=>by simp [eqD]
 | .bl b,_=>by simp [eqD]
 | .int i,_=>by simp [eqD]
 | .str x,_=>by simp [eqD]
 | .tup l,h=>by simp only [eqD]; exact eqDs_refl l (by simpa [noDct] using h)
 | .lst l,h=>by simp only [eqD]; exact eqDs_refl l (by simpa [noDct] using h)
 | .dct _ _,h=>by simp [noDct] at h
 | .set _,h=>by simp [noDct] at h
 | .scr _,h=>by simp [noDct] at h
theorem eqDs_refl:∀ l:List D,noDcts l=true->eqDs l l=true
 | [],_=>by simp [eqDs]
 | d :: r,h=>by
  simp only [noDcts,Bool.and_eq_true] at h
  simp only [eqDs,Bool.and_eq_true]
  exact ⟨eqD_refl d h.1,eqDs_refl r h.2⟩
end
structure SeqOk (K:PySem.W.Frag) (H:Hp) (s:Shared):Prop where
 tup:∀ {a:Addr} {xs:List V},SqT K H a xs->∃ its:List Value,Vals xs its/\s.heap.IsTuple a its.toArray
 lst:∀ {a:Addr} {xs:List V},H a=some (.lst xs)->∃ its:List Value,Vals xs its/\s.heap.IsList a its.toArray
 inj:∀ {a:Addr} {xs ys:List V},SqT K H a xs->SqT K H a ys->xs=ys
 ne:∀ {a:Addr} {xs ys:List V},SqT K H a xs->H a=some (.lst ys)->False
theorem Inv.seqOk {X:Cx} {pins:List (Addr × Obj)} {σ:L2.St} {H:Hp} {s:Shared} (I:L2.Inv X pins σ H s):SeqOk X.K H s where
 tup:=fun h=>let ⟨its,r,p,_⟩:=I.tuple h; ⟨its,r,p⟩
 lst:=fun h=>let ⟨its,r,p,_⟩:=I.list (SqL.of h); ⟨its,r,p.isList⟩
 inj:=fun h h'=>I.tuple_inj h h'
 ne:=fun h h'=>by
  obtain ⟨its,_,⟨o,e,c,_⟩,_⟩:=I.tuple h
  obtain ⟨its2,_,⟨o2,n2,e2,c2,_⟩,_⟩:=I.list (SqL.of h')
  rw [e] at e2
  cases e2
  rw [c] at c2
  injection c2 with c3
  exact absurd c3 (by decide)
section
variable {K:PySem.W.Frag} {H:Hp} {s:Shared}
theorem noDct_dct {a b:List D} (h:noDct (.dct a b)=true):False:=by simp [noDct] at h
theorem noDct_set {a:List Int} (h:noDct (.set a)=true):False:=by simp [noDct] at h
theorem noDct_scr {a:List Int} (h:noDct (.scr a)=true):False:=by simp [noDct] at h
theorem noDct_tup {a:List D} (h:noDct (.tup a)=true):noDcts a=true:=by simpa [noDct] using h
theorem noDct_lst {a:List D} (h:noDct (.lst a)=true):noDcts a=true:=by simpa [noDct] using h
theorem noDcts_cons {d:D} {a:List D} (h:noDcts (d :: a)=true):noDct d=true/\noDcts a=true:=by
 simp only [noDcts,Bool.and_eq_true] at h
 exact h
noncomputable def InjP (K:PySem.W.Frag) (s:Shared) (H:Hp) (x:V) (d:D):Prop:=SeqOk K H s->∀ (A':Addr->Prop) (e:D),Rp K A' H x e->noDct d=true->noDct e=true->d=e
noncomputable def InjPs (K:PySem.W.Frag) (s:Shared) (H:Hp) (xs:List V) (ds:List D):Prop:=SeqOk K H s->∀ (A':Addr->Prop) (es:List D),Rps K A' H xs es->noDcts ds=true->noDcts es=true->ds=es
theorem inj_tup {a:Addr} {xs:List V} {ds:List D} (ha:SqT K H a xs) (ih:InjPs K s H xs ds):InjP K s H (.ref a) (.tup ds):=fun ok A' e h n1 n2=>by
 cases h with
 | tup hb r' =>
  have e:=ok.inj ha hb
  subst e
  rw [ih ok _ _ r' (noDct_tup n1) (noDct_tup n2)]
 | lst hb _ _=>exact (ok.ne ha hb).elim
 | dK _ _ _=>exact (noDct_dct n2).elim
 | dT _ _ _=>exact (noDct_dct n2).elim
 | set _ _ _ _=>exact (noDct_set n2).elim
 | scr _=>exact (noDct_scr n2).elim
theorem inj_lst {a:Addr} {xs:List V} {ds:List D} (ha:H a=some (.lst xs)) (ih:InjPs K s H xs ds):InjP K s H (.ref a) (.lst ds):=fun ok A' e h n1 n2=>by
 cases h with
 | tup hb r'=>exact (ok.ne hb ha).elim
 | lst hb _ r' =>
  rw [ha] at hb
  cases hb
  rw [ih ok _ _ r' (noDct_lst n1) (noDct_lst n2)]
 | dK _ _ _=>exact (noDct_dct n2).elim
 | dT _ _ _=>exact (noDct_dct n2).elim
 | set _ _ _ _=>exact (noDct_set n2).elim
 | scr _=>exact (noDct_scr n2).elim
theorem inj_cons {x:V} {d:D} {xs:List V} {ds:List D} (h1:InjP K s H x d) (h2:InjPs K s H xs ds):InjPs K s H (x :: xs) (d :: ds):=fun ok A' es h n1 n2=>by
 cases h with
 | cons k r'=>rw [h1 ok _ _ k (noDcts_cons n1).1 (noDcts_cons n2).1,h2 ok _ _ r' (noDcts_cons n1).2 (noDcts_cons n2).2]
theorem Rp.inj (ok:SeqOk K H s) {A A':Addr->Prop} {x:V} {d e:D} (r:Rp K A H x d) (h:Rp K A' H x e) (n1:noDct d=true) (n2:noDct e=true):d=e :=
 Rp.rec (motive_1:=fun _ H x d _=>InjP K s H x d) (motive_2:=fun _ H xs ds _=>InjPs K s H xs ds)
  (fun _ _ _ h _ _=>by cases h; rfl) (fun _ _ _ _ h _ _=>by cases h; rfl) (fun _ _ _ _ h _ _=>by cases h; rfl) (fun _ _ _ _ h _ _=>by cases h; rfl) (fun ha _ ih=>inj_tup ha ih) (fun ha _ _ ih=>inj_lst ha ih)
  (fun _ _ _ _ _ _ _ _ n1 _=>(noDct_dct n1).elim) (fun _ _ _ _ _ _ _ _ n1 _=>(noDct_dct n1).elim) (fun _ _ _ _ _ _ _ _ n1 _=>(noDct_set n1).elim) (fun _ _ _ _ _ n1 _=>(noDct_scr n1).elim)
  (fun _ _ _ h _ _=>by cases h; rfl) (fun _ _ h1 h2=>inj_cons h1 h2) r ok A' e h n1 n2
end
theorem eqDs_all:∀ (l m:List D),eqDs l m=((List.range (min l.length m.length)).all (fun j=>match l[j]?,m[j]? with | some a,some b=>eqD a b | _,_=>true) && l.length == m.length)
 | [],[]=>by simp [eqDs]
 | [],y :: ys=>by simp [eqDs]
 | x :: xs,[]=>by simp [eqDs]
 | x :: xs,y :: ys=>by
  have ih:=eqDs_all xs ys
  simp only [eqDs,ih,List.length_cons,Nat.succ_min_succ,List.range_succ_eq_map,List.all_cons,List.all_map,List.getElem?_cons_zero,Function.comp_def,List.getElem?_cons_succ,Nat.succ_eq_add_one,Nat.add_one_inj,Bool.and_assoc]
  congr 1
  congr 1
  simp
theorem depDs_mem:∀ {l:List D} {d:D},d ∈ l->depD d <= depDs l
 | x :: r,d,h=>by
  simp only [depDs]
  rcases List.mem_cons.mp h with rfl | h
  ·exact Nat.le_max_left _ _
  ·exact Nat.le_trans (depDs_mem h) (Nat.le_max_right _ _)
theorem noDcts_mem:∀ {l:List D} {d:D},d ∈ l->noDcts l=true->noDct d=true
 | x :: r,d,h,n=>by
  simp only [noDcts,Bool.and_eq_true] at n
  rcases List.mem_cons.mp h with rfl | h
  ·exact n.1
  ·exact noDcts_mem h n.2
theorem eqDs_range {ds es:List D} {n m:Nat} (hn:n=ds.length) (hm:m=es.length):((List.range (min n m)).all (fun j=>match ds[j]?,es[j]? with | some a,some b=>eqD a b | _,_=>true) && n == m)=eqDs ds es:=by
 subst hn hm
 exact (eqDs_all ds es).symm
section
variable {K:PySem.W.Frag} {H:Hp} {s:Shared}
noncomputable def EqOne (K:PySem.W.Frag) (H:Hp) (s:Shared) (n:Nat):Prop:=∀ (A1 A2:Addr->Prop) (x y:V) (d e:D) (A:Around) (u v:Value),Rp K A1 H x d->Rp K A2 H y e->RelV x u->RelV y v->depD d <= n->noDct d=true->noDct e=true->A.units + n < cLine->SeqAt.EqAt A s u v (eqD d e)
noncomputable def EqMany (K:PySem.W.Frag) (H:Hp) (s:Shared) (n:Nat):Prop:=∀ (A1 A2:Addr->Prop) (xs ys:List V) (ds es:List D) (A:Around) (us vs:List Value),Rps K A1 H xs ds->Rps K A2 H ys es->Vals xs us->Vals ys vs->depDs ds <= n->noDcts ds=true->noDcts es=true->A.units + n < cLine ->
  ∀ (j:Nat) (h1:j < us.toArray.size) (h2:j < vs.toArray.size),SeqAt.EqAt A s us.toArray[j] vs.toArray[j] (match ds[j]?,es[j]? with | some a,some b=>eqD a b | _,_=>true)
theorem eqOne_step (ok:SeqOk K H s) (n:Nat) (IH:∀ k,n=k + 1->EqMany K H s k):EqOne K H s n:=by
 intro A1 A2 x y d e A u v r1 r2 ru rv hd nd ne hu
 have hu0:A.units < cLine:=by omega
 cases r1 with
 | tup h1 q1 =>
  rename_i a xs ds
  cases ru
  obtain ⟨its,w1,t1⟩:=ok.tup h1
  cases r2 with
  | tup h2 q2 =>
   rename_i b ys es
   cases rv
   obtain ⟨its2,w2,t2⟩:=ok.tup h2
   by_cases hab:a=b
   ·subst hab
    have e:=Rp.inj ok (Rp.tup h1 q1) (Rp.tup h2 q2) nd ne
    rw [<- e,eqD_refl _ nd]
    exact SeqAt.EqAt.same _
   ·simp only [depD] at hd
    obtain ⟨k,rfl⟩:∃ k,n=k + 1:=⟨n - 1,by omega⟩
    have z:=SeqAt.RcAt.tuples t1 t2 hu0 (IH k rfl _ _ _ _ _ _ _ _ _ q1 q2 w1 w2 (by omega) (noDct_tup nd) (noDct_tup ne) (by show A.units + 1 + k < cLine; omega))
    rw [eqDs_range (by rw [List.size_toArray,<- w1.length,q1.length]) (by rw [List.size_toArray,<- w2.length,q2.length])] at z
    simp only [eqD]
    exact SeqAt.EqAt.of_refs hab z
  | lst h2 mm2 q2 =>
   cases rv
   obtain ⟨its2,w2,t2⟩:=ok.lst h2
   simp only [eqD]
   exact SeqAt.EqAt.tuple_list t1 t2 hu0
  | dK _ _ _=>exact (noDct_dct ne).elim
  | dT _ _ _=>exact (noDct_dct ne).elim
  | set _ _ _ _=>exact (noDct_set ne).elim
  | scr _=>exact (noDct_scr ne).elim
  | non=>cases rv; simp only [eqD]; exact SeqAt.EqAt.tuple_none t1 hu0
  | bl b=>cases rv; simp only [eqD]; exact SeqAt.EqAt.tuple_bool b t1 hu0
  | int i=>obtain ⟨tk,rfl⟩:=rv; simp only [eqD]; exact SeqAt.EqAt.tuple_int i tk t1 hu0
  | str i=>obtain ⟨tk,rfl⟩:=rv; simp only [eqD]; exact SeqAt.EqAt.tuple_str i tk t1 hu0
 | lst h1 mm1 q1 =>
  rename_i a xs ds
  cases ru
  obtain ⟨its,w1,t1⟩:=ok.lst h1
  cases r2 with
  | lst h2 mm2 q2 =>
   rename_i b ys es
   cases rv
   obtain ⟨its2,w2,t2⟩:=ok.lst h2
   by_cases hab:a=b
   ·subst hab
    have e:=Rp.inj ok (Rp.lst h1 mm1 q1) (Rp.lst h2 mm2 q2) nd ne
    rw [<- e,eqD_refl _ nd]
    exact SeqAt.EqAt.same _
   ·simp only [depD] at hd
    obtain ⟨k,rfl⟩:∃ k,n=k + 1:=⟨n - 1,by omega⟩
    have l1:its.toArray.size=ds.length:=by rw [List.size_toArray,<- w1.length,q1.length]
    have l2:its2.toArray.size=es.length:=by rw [List.size_toArray,<- w2.length,q2.length]
    by_cases hl:its.toArray.size=its2.toArray.size
    ·have z:=SeqAt.RcAt.lists t1 t2 hl hu0 (IH k rfl _ _ _ _ _ _ _ _ _ q1 q2 w1 w2 (by omega) (noDct_lst nd) (noDct_lst ne) (by show A.units + 1 + k < cLine; omega))
     have z':=eqDs_range (ds:=ds) (es:=es) l1 l2
     rw [<- hl,Nat.min_self,beq_self_eq_true,Bool.and_true] at z'
     rw [z'] at z
     simp only [eqD]
     exact SeqAt.EqAt.of_refs hab z
    ·have z:=SeqAt.RcAt.lists_lengths t1 t2 (by simpa using hl) hu0
     have z':=eqDs_range (ds:=ds) (es:=es) l1 l2
     rw [beq_eq_false_iff_ne.mpr hl,Bool.and_false] at z'
     simp only [eqD]
     rw [<- z']
     exact SeqAt.EqAt.of_refs hab z
  | tup h2 q2 =>
   cases rv
   obtain ⟨its2,w2,t2⟩:=ok.tup h2
   simp only [eqD]
   exact SeqAt.EqAt.list_tuple t1 t2 hu0
  | dK _ _ _=>exact (noDct_dct ne).elim
  | dT _ _ _=>exact (noDct_dct ne).elim
  | set _ _ _ _=>exact (noDct_set ne).elim
  | scr _=>exact (noDct_scr ne).elim
  | non=>cases rv; simp only [eqD]; exact SeqAt.EqAt.list_none t1 hu0
  | bl b=>cases rv; simp only [eqD]; exact SeqAt.EqAt.list_bool b t1 hu0
  | int i=>obtain ⟨tk,rfl⟩:=rv; simp only [eqD]; exact SeqAt.EqAt.list_int i tk t1 hu0
  | str i=>obtain ⟨tk,rfl⟩:=rv; simp only [eqD]; exact SeqAt.EqAt.list_str i tk t1 hu0
 | dK _ _ _=>exact (noDct_dct nd).elim
 | dT _ _ _=>exact (noDct_dct nd).elim
 | set _ _ _ _=>exact (noDct_set nd).elim
 | scr _=>exact (noDct_scr nd).elim
 | non =>
  cases ru
  cases r2 with
  | tup h2 q2=>cases rv; obtain ⟨_,_,t2⟩:=ok.tup h2; simp only [eqD]; exact SeqAt.EqAt.none_tuple t2 hu0
  | lst h2 mm2 q2=>cases rv; obtain ⟨_,_,t2⟩:=ok.lst h2; simp only [eqD]; exact SeqAt.EqAt.none_list t2 hu0
  | dK _ _ _=>exact (noDct_dct ne).elim
  | dT _ _ _=>exact (noDct_dct ne).elim
  | set _ _ _ _=>exact (noDct_set ne).elim
  | scr _=>exact (noDct_scr ne).elim
  | non=>cases rv; simp only [eqD]; exact SeqAt.EqAt.same _
  | bl b=>cases rv; simp only [eqD]; exact SeqAt.EqAt.none_bool b
  | int i=>obtain ⟨tk,rfl⟩:=rv; simp only [eqD]; exact SeqAt.EqAt.none_int i tk
  | str i=>obtain ⟨tk,rfl⟩:=rv; simp only [eqD]; exact SeqAt.EqAt.none_str i tk
 | bl a =>
  cases ru
  cases r2 with
  | tup h2 q2=>cases rv; obtain ⟨_,_,t2⟩:=ok.tup h2; simp only [eqD]; exact SeqAt.EqAt.bool_tuple a t2 hu0
  | lst h2 mm2 q2=>cases rv; obtain ⟨_,_,t2⟩:=ok.lst h2; simp only [eqD]; exact SeqAt.EqAt.bool_list a t2 hu0
  | dK _ _ _=>exact (noDct_dct ne).elim
  | dT _ _ _=>exact (noDct_dct ne).elim
  | set _ _ _ _=>exact (noDct_set ne).elim
  | scr _=>exact (noDct_scr ne).elim
  | non=>cases rv; simp only [eqD]; exact SeqAt.EqAt.bool_none a
  | bl b=>cases rv; simp only [eqD]; exact SeqAt.EqAt.bool_bool a b
  | int i=>obtain ⟨tk,rfl⟩:=rv; simp only [eqD]; exact SeqAt.EqAt.bool_int a i tk
  | str i=>obtain ⟨tk,rfl⟩:=rv; simp only [eqD]; exact SeqAt.EqAt.bool_str a i tk
 | int a =>
  obtain ⟨tu,rfl⟩:=ru
  cases r2 with
  | tup h2 q2=>cases rv; obtain ⟨_,_,t2⟩:=ok.tup h2; simp only [eqD]; exact SeqAt.EqAt.int_tuple a tu t2 hu0
  | lst h2 mm2 q2=>cases rv; obtain ⟨_,_,t2⟩:=ok.lst h2; simp only [eqD]; exact SeqAt.EqAt.int_list a tu t2 hu0
  | dK _ _ _=>exact (noDct_dct ne).elim
  | dT _ _ _=>exact (noDct_dct ne).elim
  | set _ _ _ _=>exact (noDct_set ne).elim
  | scr _=>exact (noDct_scr ne).elim
  | non=>cases rv; simp only [eqD]; exact SeqAt.EqAt.int_none a tu
  | bl b=>cases rv; simp only [eqD]; exact SeqAt.EqAt.int_bool a tu b
  | int i=>obtain ⟨tk,rfl⟩:=rv; simp only [eqD]; exact SeqAt.EqAt.int_int a tu i tk
  | str i=>obtain ⟨tk,rfl⟩:=rv; simp only [eqD]; exact SeqAt.EqAt.int_str a tu i tk
 | str a =>
  obtain ⟨tu,rfl⟩:=ru
  cases r2 with
  | tup h2 q2=>cases rv; obtain ⟨_,_,t2⟩:=ok.tup h2; simp only [eqD]; exact SeqAt.EqAt.str_tuple a tu t2 hu0
  | lst h2 mm2 q2=>cases rv; obtain ⟨_,_,t2⟩:=ok.lst h2; simp only [eqD]; exact SeqAt.EqAt.str_list a tu t2 hu0
  | dK _ _ _=>exact (noDct_dct ne).elim
  | dT _ _ _=>exact (noDct_dct ne).elim
  | set _ _ _ _=>exact (noDct_set ne).elim
  | scr _=>exact (noDct_scr ne).elim
  | non=>cases rv; simp only [eqD]; exact SeqAt.EqAt.str_none a tu
  | bl b=>cases rv; simp only [eqD]; exact SeqAt.EqAt.str_bool a tu b
  | int i=>obtain ⟨tk,rfl⟩:=rv; simp only [eqD]; exact SeqAt.EqAt.str_int a tu i tk
  | str i=>obtain ⟨tk,rfl⟩:=rv; simp only [eqD]; exact SeqAt.EqAt.str_str a tu i tk
theorem eqMany_of (ok:SeqOk K H s) (n:Nat) (IH:EqOne K H s n):EqMany K H s n:=by
 intro A1 A2 xs ys ds es A us vs q1 q2 w1 w2 hd nd ne hu j h1 h2
 have hj1:j < us.length:=by simpa using h1
 have hj2:j < vs.length:=by simpa using h2
 have hx:j < xs.length:=by rw [w1.length]; exact hj1
 have hy:j < ys.length:=by rw [w2.length]; exact hj2
 have ex:=List.getElem?_eq_getElem hx
 have ey:=List.getElem?_eq_getElem hy
 obtain ⟨d,ed,rd⟩:=q1.get ex
 obtain ⟨e,ee,re⟩:=q2.get ey
 obtain ⟨u,eu,ru⟩:=w1.get ex
 obtain ⟨v,ev,rv⟩:=w2.get ey
 have e1:us.toArray[j]=u:=by
  rw [List.getElem_toArray]
  exact Option.some.inj ((List.getElem?_eq_getElem hj1).symm.trans eu)
 have e2:vs.toArray[j]=v:=by
  rw [List.getElem_toArray]
  exact Option.some.inj ((List.getElem?_eq_getElem hj2).symm.trans ev)
 rw [e1,e2,ed,ee]
 exact IH _ _ _ _ _ _ _ _ _ rd re ru rv (Nat.le_trans (depDs_mem (List.mem_of_getElem? ed)) hd) (noDcts_mem (List.mem_of_getElem? ed) nd) (noDcts_mem (List.mem_of_getElem? ee) ne) hu
theorem eqOne (ok:SeqOk K H s):∀ n,EqOne K H s n
 | 0=>eqOne_step ok 0 fun k h=>absurd h (by simp)
 | n + 1=>eqOne_step ok (n + 1) fun k h=>by
  have h':=Nat.succ.inj h
  subst h'
  exact eqMany_of ok n (eqOne ok n)
theorem eqAt_D (ok:SeqOk K H s):∀ {A1 A2:Addr->Prop} {x y:V} {d e:D} (n:Nat) {A:Around} {u v:Value},Rp K A1 H x d->Rp K A2 H y e->RelV x u->RelV y v->depD d <= n->noDct d=true->noDct e=true->A.units + n < cLine->SeqAt.EqAt A s u v (eqD d e)
 | _,_,_,_,_,_,n,A,u,v,r1,r2,ru,rv,hd,nd,ne,hu=>eqOne ok n _ _ _ _ _ _ _ _ _ r1 r2 ru rv hd nd ne hu
theorem eqAts (ok:SeqOk K H s):∀ {A1 A2:Addr->Prop} {xs ys:List V} {ds es:List D} (n:Nat) {A:Around} {us vs:List Value},Rps K A1 H xs ds->Rps K A2 H ys es->Vals xs us->Vals ys vs->depDs ds <= n->noDcts ds=true->noDcts es=true->A.units + n < cLine ->
  ∀ (j:Nat) (h1:j < us.toArray.size) (h2:j < vs.toArray.size),SeqAt.EqAt A s us.toArray[j] vs.toArray[j] (match ds[j]?,es[j]? with | some a,some b=>eqD a b | _,_=>true)
 | _,_,xs,ys,ds,es,n,A,us,vs,q1,q2,w1,w2,hd,nd,ne,hu,j,h1,h2=>eqMany_of ok n (eqOne ok n) _ _ _ _ _ _ _ _ _ q1 q2 w1 w2 hd nd ne hu j h1 h2
theorem rcAt_D (ok:SeqOk K H s) {A1 A2:Addr->Prop} {x y:V} {d e:D} (n:Nat) {A:Around} {u v:Value} (r1:Rp K A1 H x d) (r2:Rp K A2 H y e) (ru:RelV x u) (rv:RelV y v) (hd:depD d <= n) (nd:noDct d=true) (ne:noDct e=true) (hu:A.units + n < cLine) :
  SeqAt.RcAt A s u v (eqD d e)/\SeqAt.RcNeAt A s u v (!eqD d e):=by
 have hu0:A.units < cLine:=by omega
 cases r1 with
 | tup h1 q1 =>
  rename_i a xs ds
  cases ru
  obtain ⟨its,w1,t1⟩:=ok.tup h1
  cases r2 with
  | tup h2 q2 =>
   rename_i b ys es
   cases rv
   obtain ⟨its2,w2,t2⟩:=ok.tup h2
   simp only [depD] at hd
   obtain ⟨k,rfl⟩:∃ k,n=k + 1:=⟨n - 1,by omega⟩
   have he:=eqAts ok (A:=A.in1) k q1 q2 w1 w2 (by omega) (noDct_tup nd) (noDct_tup ne) (by show A.units + 1 + k < cLine; omega)
   have z:=SeqAt.RcAt.tuples t1 t2 hu0 he
   have z2:=SeqAt.RcNeAt.tuples t1 t2 hu0 he
   rw [eqDs_range (by rw [List.size_toArray,<- w1.length,q1.length]) (by rw [List.size_toArray,<- w2.length,q2.length])] at z z2
   simp only [eqD]
   exact ⟨z,z2⟩
  | lst h2 mm2 q2 =>
   cases rv
   obtain ⟨its2,w2,t2⟩:=ok.lst h2
   simp only [eqD]
   exact ⟨SeqAt.RcAt.tuple_list t1 t2 hu0,SeqAt.RcNeAt.tuple_list t1 t2 hu0⟩
  | dK _ _ _=>exact (noDct_dct ne).elim
  | dT _ _ _=>exact (noDct_dct ne).elim
  | set _ _ _ _=>exact (noDct_set ne).elim
  | scr _=>exact (noDct_scr ne).elim
  | non=>cases rv; simp only [eqD]; exact ⟨SeqAt.RcAt.tuple_none t1 hu0,SeqAt.RcNeAt.tuple_none t1 hu0⟩
  | bl b=>cases rv; simp only [eqD]; exact ⟨SeqAt.RcAt.tuple_bool b t1 hu0,SeqAt.RcNeAt.tuple_bool b t1 hu0⟩
  | int i=>obtain ⟨tk,rfl⟩:=rv; simp only [eqD]; exact ⟨SeqAt.RcAt.tuple_int i tk t1 hu0,SeqAt.RcNeAt.tuple_int i tk t1 hu0⟩
  | str i=>obtain ⟨tk,rfl⟩:=rv; simp only [eqD]; exact ⟨SeqAt.RcAt.tuple_str i tk t1 hu0,SeqAt.RcNeAt.tuple_str i tk t1 hu0⟩
 | lst h1 mm1 q1 =>
  rename_i a xs ds
  cases ru
  obtain ⟨its,w1,t1⟩:=ok.lst h1
  cases r2 with
  | lst h2 mm2 q2 =>
   rename_i b ys es
   cases rv
   obtain ⟨its2,w2,t2⟩:=ok.lst h2
   simp only [depD] at hd
   obtain ⟨k,rfl⟩:∃ k,n=k + 1:=⟨n - 1,by omega⟩
   have l1:its.toArray.size=ds.length:=by rw [List.size_toArray,<- w1.length,q1.length]
   have l2:its2.toArray.size=es.length:=by rw [List.size_toArray,<- w2.length,q2.length]
   have z':=eqDs_range (ds:=ds) (es:=es) l1 l2
   by_cases hl:its.toArray.size=its2.toArray.size
   ·have he:=eqAts ok (A:=A.in1) k q1 q2 w1 w2 (by omega) (noDct_lst nd) (noDct_lst ne) (by show A.units + 1 + k < cLine; omega)
    have z:=SeqAt.RcAt.lists t1 t2 hl hu0 he
    have z2:=SeqAt.RcNeAt.lists t1 t2 hl hu0 he
    rw [<- hl,Nat.min_self,beq_self_eq_true,Bool.and_true] at z'
    rw [z'] at z z2
    simp only [eqD]
    exact ⟨z,z2⟩
   ·rw [beq_eq_false_iff_ne.mpr hl,Bool.and_false] at z'
    simp only [eqD]
    rw [<- z']
    exact ⟨SeqAt.RcAt.lists_lengths t1 t2 (by simpa using hl) hu0,SeqAt.RcNeAt.lists_lengths t1 t2 (by simpa using hl) hu0⟩
  | tup h2 q2 =>
   cases rv
   obtain ⟨its2,w2,t2⟩:=ok.tup h2
   simp only [eqD]
   exact ⟨SeqAt.RcAt.list_tuple t1 t2 hu0,SeqAt.RcNeAt.list_tuple t1 t2 hu0⟩
  | dK _ _ _=>exact (noDct_dct ne).elim
  | dT _ _ _=>exact (noDct_dct ne).elim
  | set _ _ _ _=>exact (noDct_set ne).elim
  | scr _=>exact (noDct_scr ne).elim
  | non=>cases rv; simp only [eqD]; exact ⟨SeqAt.RcAt.list_none t1 hu0,SeqAt.RcNeAt.list_none t1 hu0⟩
  | bl b=>cases rv; simp only [eqD]; exact ⟨SeqAt.RcAt.list_bool b t1 hu0,SeqAt.RcNeAt.list_bool b t1 hu0⟩
  | int i=>obtain ⟨tk,rfl⟩:=rv; simp only [eqD]; exact ⟨SeqAt.RcAt.list_int i tk t1 hu0,SeqAt.RcNeAt.list_int i tk t1 hu0⟩
  | str i=>obtain ⟨tk,rfl⟩:=rv; simp only [eqD]; exact ⟨SeqAt.RcAt.list_str i tk t1 hu0,SeqAt.RcNeAt.list_str i tk t1 hu0⟩
 | dK _ _ _=>exact (noDct_dct nd).elim
 | dT _ _ _=>exact (noDct_dct nd).elim
 | set _ _ _ _=>exact (noDct_set nd).elim
 | scr _=>exact (noDct_scr nd).elim
 | non =>
  cases ru
  cases r2 with
  | tup h2 q2=>cases rv; obtain ⟨_,_,t2⟩:=ok.tup h2; simp only [eqD]; exact ⟨SeqAt.RcAt.none_tuple t2 hu0,SeqAt.RcNeAt.none_tuple t2 hu0⟩
  | lst h2 mm2 q2=>cases rv; obtain ⟨_,_,t2⟩:=ok.lst h2; simp only [eqD]; exact ⟨SeqAt.RcAt.none_list t2 hu0,SeqAt.RcNeAt.none_list t2 hu0⟩
  | dK _ _ _=>exact (noDct_dct ne).elim
  | dT _ _ _=>exact (noDct_dct ne).elim
  | set _ _ _ _=>exact (noDct_set ne).elim
  | scr _=>exact (noDct_scr ne).elim
  | non=>cases rv; simp only [eqD]; exact ⟨SeqAt.RcAt.none_none,SeqAt.RcNeAt.none_none⟩
  | bl b=>cases rv; simp only [eqD]; exact ⟨SeqAt.RcAt.none_bool b,SeqAt.RcNeAt.none_bool b⟩
  | int i=>obtain ⟨tk,rfl⟩:=rv; simp only [eqD]; exact ⟨SeqAt.RcAt.none_int i tk,SeqAt.RcNeAt.none_int i tk⟩
  | str i=>obtain ⟨tk,rfl⟩:=rv; simp only [eqD]; exact ⟨SeqAt.RcAt.none_str i tk,SeqAt.RcNeAt.none_str i tk⟩
 | bl a =>
  cases ru
  cases r2 with
  | tup h2 q2=>cases rv; obtain ⟨_,_,t2⟩:=ok.tup h2; simp only [eqD]; exact ⟨SeqAt.RcAt.bool_tuple a t2 hu0,SeqAt.RcNeAt.bool_tuple a t2 hu0⟩
  | lst h2 mm2 q2=>cases rv; obtain ⟨_,_,t2⟩:=ok.lst h2; simp only [eqD]; exact ⟨SeqAt.RcAt.bool_list a t2 hu0,SeqAt.RcNeAt.bool_list a t2 hu0⟩
  | dK _ _ _=>exact (noDct_dct ne).elim
  | dT _ _ _=>exact (noDct_dct ne).elim
  | set _ _ _ _=>exact (noDct_set ne).elim
  | scr _=>exact (noDct_scr ne).elim
  | non=>cases rv; simp only [eqD]; exact ⟨SeqAt.RcAt.bool_none a,SeqAt.RcNeAt.bool_none a⟩
  | bl b=>cases rv; simp only [eqD]; exact ⟨SeqAt.RcAt.bool_bool a b,SeqAt.RcNeAt.bool_bool a b⟩
  | int i=>obtain ⟨tk,rfl⟩:=rv; simp only [eqD]; exact ⟨SeqAt.RcAt.bool_int a i tk,SeqAt.RcNeAt.bool_int a i tk⟩
  | str i=>obtain ⟨tk,rfl⟩:=rv; simp only [eqD]; exact ⟨SeqAt.RcAt.bool_str a i tk,SeqAt.RcNeAt.bool_str a i tk⟩
 | int a =>
  obtain ⟨tu,rfl⟩:=ru
  cases r2 with
  | tup h2 q2=>cases rv; obtain ⟨_,_,t2⟩:=ok.tup h2; simp only [eqD]; exact ⟨SeqAt.RcAt.int_tuple a tu t2 hu0,SeqAt.RcNeAt.int_tuple a tu t2 hu0⟩
  | lst h2 mm2 q2=>cases rv; obtain ⟨_,_,t2⟩:=ok.lst h2; simp only [eqD]; exact ⟨SeqAt.RcAt.int_list a tu t2 hu0,SeqAt.RcNeAt.int_list a tu t2 hu0⟩
  | dK _ _ _=>exact (noDct_dct ne).elim
  | dT _ _ _=>exact (noDct_dct ne).elim
  | set _ _ _ _=>exact (noDct_set ne).elim
  | scr _=>exact (noDct_scr ne).elim
  | non=>cases rv; simp only [eqD]; exact ⟨SeqAt.RcAt.int_none a tu,SeqAt.RcNeAt.int_none a tu⟩
  | bl b=>cases rv; simp only [eqD]; exact ⟨SeqAt.RcAt.int_bool a tu b,SeqAt.RcNeAt.int_bool a tu b⟩
  | int i=>obtain ⟨tk,rfl⟩:=rv; simp only [eqD]; exact ⟨SeqAt.RcAt.int_int a tu i tk,SeqAt.RcNeAt.int_int a tu i tk⟩
  | str i=>obtain ⟨tk,rfl⟩:=rv; simp only [eqD]; exact ⟨SeqAt.RcAt.int_str a tu i tk,SeqAt.RcNeAt.int_str a tu i tk⟩
 | str a =>
  obtain ⟨tu,rfl⟩:=ru
  cases r2 with
  | tup h2 q2=>cases rv; obtain ⟨_,_,t2⟩:=ok.tup h2; simp only [eqD]; exact ⟨SeqAt.RcAt.str_tuple a tu t2 hu0,SeqAt.RcNeAt.str_tuple a tu t2 hu0⟩
  | lst h2 mm2 q2=>cases rv; obtain ⟨_,_,t2⟩:=ok.lst h2; simp only [eqD]; exact ⟨SeqAt.RcAt.str_list a tu t2 hu0,SeqAt.RcNeAt.str_list a tu t2 hu0⟩
  | dK _ _ _=>exact (noDct_dct ne).elim
  | dT _ _ _=>exact (noDct_dct ne).elim
  | set _ _ _ _=>exact (noDct_set ne).elim
  | scr _=>exact (noDct_scr ne).elim
  | non=>cases rv; simp only [eqD]; exact ⟨SeqAt.RcAt.str_none a tu,SeqAt.RcNeAt.str_none a tu⟩
  | bl b=>cases rv; simp only [eqD]; exact ⟨SeqAt.RcAt.str_bool a tu b,SeqAt.RcNeAt.str_bool a tu b⟩
  | int i=>obtain ⟨tk,rfl⟩:=rv; simp only [eqD]; exact ⟨SeqAt.RcAt.str_int a tu i tk,SeqAt.RcNeAt.str_int a tu i tk⟩
  | str i=>obtain ⟨tk,rfl⟩:=rv; simp only [eqD]; exact ⟨SeqAt.RcAt.str_str a tu i tk,SeqAt.RcNeAt.str_str a tu i tk⟩
end
section
variable {K:PySem.W.Frag} {H:Hp} {s:Shared}
open Classical in
noncomputable def eqOf (K:PySem.W.Frag) (H:Hp) (d:D) (u:Value):Bool:=if h:∃ e,noDct e=true/\∃ y,RelV y u/\Rp K (fun _=>True) H y e then eqD (choose h) d else false
theorem eqOf_of (ok:SeqOk K H s) {A:Addr->Prop} {d e:D} {y:V} {u:Value} (r:RelV y u) (h:Rp K A H y e) (ne:noDct e=true):eqOf K H d u=eqD e d:=by
 have hx:∃ e,noDct e=true/\∃ y,RelV y u/\Rp K (fun _=>True) H y e:=⟨e,ne,y,r,h.wk fun _ _ _ _=>trivial⟩
 unfold eqOf
 rw [dif_pos hx]
 obtain ⟨n',y',r',h'⟩:=Classical.choose_spec hx
 have e1:=RelV.inj r r'
 subst e1
 rw [Rp.inj ok h' h n' ne]
noncomputable def inD (d:D) (es:List D):Bool:=es.any fun e=>eqD e d
theorem any_eqOf (ok:SeqOk K H s) {d:D}:∀ {A:Addr->Prop} {xs:List V} {es:List D} {us:List Value},Rps K A H xs es->Vals xs us->noDcts es=true->us.any (eqOf K H d)=inD d es:=by
 intro A xs es us h v n
 induction v generalizing es with
 | nil=>cases h; rfl
 | cons k t ih =>
  cases h with
  | cons h r =>
   simp only [noDcts,Bool.and_eq_true] at n
   unfold inD
   rw [List.any_cons,List.any_cons,eqOf_of ok k h n.1,ih r n.2]
   rfl
theorem at_eqOf (ok:SeqOk K H s) {A0:Addr->Prop} {d:D} {x:V} {v:Value} (rx:Rp K A0 H x d) (rv:RelV x v) {n:Nat} {A:Around} (hu:A.units + n < cLine) (nd:noDct d=true):∀ {A1:Addr->Prop} {xs:List V} {es:List D} {us:List Value},Rps K A1 H xs es->Vals xs us->depDs es <= n->noDcts es=true->∀ u ∈ us,SeqAt.EqAt A s u v (eqOf K H d u):=by
 intro A1 xs es us h v' hd ne u hm
 induction v' generalizing es with
 | nil=>cases hm
 | cons k t ih =>
  cases h with
  | cons h r =>
   simp only [depDs] at hd
   simp only [noDcts,Bool.and_eq_true] at ne
   rcases List.mem_cons.mp hm with z | z
   ·subst z
    rw [eqOf_of ok k h ne.1]
    exact eqAt_D ok n h rx k rv (Nat.le_trans (Nat.le_max_left _ _) hd) ne.1 nd hu
   ·exact ih r (Nat.le_trans (Nat.le_max_right _ _) hd) ne.2 z
end
section
variable {X:Cx}
noncomputable def rEqV (K:PySem.W.Frag) (neg:Bool):R2:=fun x y H Q=>∃ A B d e,Rp K A H x d/\Rp K B H y e/\depD d <= 60/\noDct d=true/\noDct e=true/\Q (.bl (if neg then !eqD d e else eqD d e)) H
theorem op_eqV (hu:X.A.units + 64 < cLine):OpR X (compareOp .Eq) (rEqV X.K false):=by
 intro pins s σ H x y v u Q I rx ry h
 obtain ⟨A,B,d,e,r1,r2,hd,nd,ne,q⟩:=h
 exact (rcAt_D (Inv.seqOk I) 60 r1 r2 rx ry hd nd ne (by omega)).1 X.prog X.w X.xe _ ⟨.bl (eqD d e),H,I,rfl,q⟩
theorem op_neV (hu:X.A.units + 64 < cLine):OpR X (compareOp .NotEq) (rEqV X.K true):=by
 intro pins s σ H x y v u Q I rx ry h
 obtain ⟨A,B,d,e,r1,r2,hd,nd,ne,q⟩:=h
 exact (rcAt_D (Inv.seqOk I) 60 r1 r2 rx ry hd nd ne (by omega)).2 X.prog X.w X.xe _ ⟨.bl (!eqD d e),H,I,rfl,q⟩
noncomputable def rInV (K:PySem.W.Frag) (neg:Bool):R2:=fun x y H Q=>∃ A B d a es,Rp K A H x d/\y = .ref a/\(Rp K B H (.ref a) (.lst es)\/Rp K B H (.ref a) (.tup es))/\depDs es <= 60/\noDct d=true/\noDcts es=true/\Q (.bl (if neg then !inD d es else inD d es)) H
theorem op_inV (hu:X.A.units + 64 < cLine):OpR X (compareOp .In) (rInV X.K false):=by
 intro pins s σ H x y v u Q I rx ry h
 obtain ⟨A,B,d,a,es,rd,rfl,ra,hd,nd,ne,q⟩:=h
 cases ry
 have ok:=Inv.seqOk I
 have hu1:X.A.in1.units + 60 < cLine:=by show X.A.units + 1 + 60 < cLine; omega
 rcases ra with ra | ra
 ·cases ra with
  | lst ha _ r =>
   obtain ⟨its,rv,tl⟩:=ok.lst ha
   refine SeqAt.in_listAt (eqOf X.K H d) tl (fun w hw=>at_eqOf ok rd rx hu1 nd r rv hd ne w (by simpa using hw)) ⟨.bl _,H,I,rfl,?_⟩
   rw [show its.toArray.any (eqOf X.K H d)=its.any (eqOf X.K H d) by simp,any_eqOf ok r rv ne]
   exact q
 ·cases ra with
  | tup ha r =>
   obtain ⟨its,rv,tl⟩:=ok.tup ha
   refine SeqAt.in_tupleAt (eqOf X.K H d) tl (fun w hw=>at_eqOf ok rd rx hu1 nd r rv hd ne w (by simpa using hw)) ⟨.bl _,H,I,rfl,?_⟩
   rw [show its.toArray.any (eqOf X.K H d)=its.any (eqOf X.K H d) by simp,any_eqOf ok r rv ne]
   exact q
theorem op_notInV (hu:X.A.units + 64 < cLine):OpR X (compareOp .NotIn) (rInV X.K true):=by
 intro pins s σ H x y v u Q I rx ry h
 obtain ⟨A,B,d,a,es,rd,rfl,ra,hd,nd,ne,q⟩:=h
 cases ry
 have ok:=Inv.seqOk I
 have hu1:X.A.in1.units + 60 < cLine:=by show X.A.units + 1 + 60 < cLine; omega
 rcases ra with ra | ra
 ·cases ra with
  | lst ha _ r =>
   obtain ⟨its,rv,tl⟩:=ok.lst ha
   refine SeqAt.notIn_listAt (eqOf X.K H d) tl (fun w hw=>at_eqOf ok rd rx hu1 nd r rv hd ne w (by simpa using hw)) ⟨.bl _,H,I,rfl,?_⟩
   rw [show its.toArray.any (eqOf X.K H d)=its.any (eqOf X.K H d) by simp,any_eqOf ok r rv ne]
   exact q
 ·cases ra with
  | tup ha r =>
   obtain ⟨its,rv,tl⟩:=ok.tup ha
   refine SeqAt.notIn_tupleAt (eqOf X.K H d) tl (fun w hw=>at_eqOf ok rd rx hu1 nd r rv hd ne w (by simpa using hw)) ⟨.bl _,H,I,rfl,?_⟩
   rw [show its.toArray.any (eqOf X.K H d)=its.any (eqOf X.K H d) by simp,any_eqOf ok r rv ne]
   exact q
end
section
variable {K:PySem.W.Frag}
noncomputable def eqR (neg:Bool):D->D->Rs D:=fun d e=>if decide (depD d <= 60) && noDct d && noDct e then .ok (.bl (if neg then !eqD d e else eqD d e)) else .st
noncomputable def inR (neg:Bool):D->D->Rs D:=fun d e=>match e with
 | .lst es=>if decide (depDs es <= 60) && noDct d && noDcts es then .ok (.bl (if neg then !inD d es else inD d es)) else .st
 | .tup es=>if decide (depDs es <= 60) && noDct d && noDcts es then .ok (.bl (if neg then !inD d es else inD d es)) else .st
 | _=>.st
theorem os_eq {n:Bool}:OpS K (rEqV K n) (eqR n):=by
 intro A x y d e H Q z rx ry ez q
 unfold eqR at ez
 split at ez
 ·rename_i h
  simp only [Bool.and_eq_true,decide_eq_true_eq] at h
  cases ez
  exact ⟨A,A,d,e,rx,ry,h.1.1,h.1.2,h.2,q _ H (Same.refl H) (.bl _)⟩
 ·cases ez
theorem os_in {n:Bool}:OpS K (rInV K n) (inR n):=by
 intro A x y d e H Q z rx ry ez q
 unfold inR at ez
 split at ez
 ·split at ez
  ·rename_i h
   simp only [Bool.and_eq_true,decide_eq_true_eq] at h
   cases ez
   cases ry with
   | lst ha mm r=>exact ⟨A,A,d,_,_,rx,rfl,.inl (.lst ha mm r),h.1.1,h.1.2,h.2,q _ H (Same.refl H) (.bl _)⟩
  ·cases ez
 ·split at ez
  ·rename_i h
   simp only [Bool.and_eq_true,decide_eq_true_eq] at h
   cases ez
   cases ry with
   | tup ha r=>exact ⟨A,A,d,_,_,rx,rfl,.inr (.tup ha r),h.1.1,h.1.2,h.2,q _ H (Same.refl H) (.bl _)⟩
  ·cases ez
 ·cases ez
theorem imm_eq {n:Bool}:∀ x y z,eqR n x y = .ok z->imm z=true:=by
 intro x y z e
 unfold eqR at e
 split at e
 ·cases e; rfl
 ·cases e
theorem imm_in {n:Bool}:∀ x y z,inR n x y = .ok z->imm z=true:=by
 intro x y z e
 unfold inR at e
 split at e
 ·split at e
  ·cases e; rfl
  ·cases e
 ·split at e
  ·cases e; rfl
  ·cases e
 ·cases e
end
end VL
namespace VL
open PySem PySem.Spec PyProof.Rows L2
section
variable {K:PySem.W.Frag}
noncomputable def boolsOf:List D->Option (List Bool)
 | []=>some []
 | .bl i :: r=>(boolsOf r).map (i :: ·)
 | _=>none
theorem boolsOf_some:∀ {l:List D} {ns:List Bool},boolsOf l=some ns->l=ns.map .bl
 | [],ns,h=>by cases h; rfl
 | .bl i :: r,ns,h=>by
  simp only [boolsOf,Option.map_eq_some_iff] at h
  obtain ⟨ms,h1,rfl⟩:=h
  rw [boolsOf_some h1]; rfl
 | .non :: _,_,h=>by cases h
 | .int _ :: _,_,h=>by cases h
 | .str _ :: _,_,h=>by cases h
 | .tup _ :: _,_,h=>by cases h
 | .lst _ :: _,_,h=>by cases h
 | .dct _ _ :: _,_,h=>by cases h
 | .set _ :: _,_,h=>by cases h
 | .scr _ :: _,_,h=>by cases h
theorem boolsOf_map:∀ ns:List Bool,boolsOf (ns.map .bl)=some ns
 | []=>rfl
 | n :: ns=>by simp only [List.map_cons,boolsOf,boolsOf_map ns,Option.map_some]
theorem bools_are {X:Cx}:∀ {bs:List Bool} {us:List Value},Vals (bs.map V.bl) us->LSm.BoolsAre us bs
 | [],_,.nil=>.nil
 | b :: bs,_,.cons r t=>by
  have e:_=Value.bool b:=r
  subst e
  exact .cons b (bools_are (X:=X) t)
theorem Rps.bools_of {A:Addr->Prop} {H:Hp}:∀ {xs:List V} {bs:List Bool},Rps K A H xs (bs.map D.bl)->xs=bs.map V.bl
 | _,[],.nil=>rfl
 | _,n :: ns,.cons h r=>by
  cases h
  rw [List.map_cons,Rps.bools_of r]
noncomputable def allD (f:List Bool->Bool):List D->Rs D
 | [.lst l]=>match boolsOf l with
  | some bs=>.ok (.bl (f bs))
  | none=>.st
 | _=>.st
theorem call_all {X:Cx} (hc:X.calm=true):CallR X (.builtin "all") (fun xs H Q=>∃ (p:Addr) (bs:List Bool),xs=[.ref p]/\H p=some (.lst (bs.map V.bl))/\Q (.bl (bs.all id)) H):=by
 intro pins s σ H xs us Q I r h
 obtain ⟨p,bs,rfl,hp,q⟩:=h
 obtain ⟨u,rfl,ru⟩:=vals1 r
 cases ru
 obtain ⟨its,rv,pl,hz⟩:=I.list (SqL.of hp)
 have hb:=bools_are (X:=X) rv
 have hl:=pl.isList
 have hlt:p < s.heap.objs.size:=by obtain ⟨_,e,_⟩:=hl; exact Heap.lt_size e
 refine call_all_walk (wpAny_pyIter_list hl ?_)
 refine ⟨s.heap.objs.size,[s.heap.objs.size,p],[s.heap.objs.size],its.toArray.size,_,_,fun i=>(bs[i]?).getD true,rfl,Walks.list (A:=X.A.in1) (I.ok.hd hc) _ p (Nat.ne_of_lt hlt) its.toArray,
  ⟨⟨_,Heap.get?_push_size _ rfl,rfl,rfl⟩,hl.push _⟩,fun i v s' Q' E' hP hQ=>?_,fun h' tk hk=>?_⟩
 ·obtain ⟨b,e,rfl⟩:=hb.get i v (by simpa using hP)
  simp only [e,Option.getD_some] at hQ
  exact wpAny_truthy_bool hQ
 ·have e:((List.range its.toArray.size).all fun i=>(bs[i]?).getD true)=bs.all id:=by
   rw [List.size_toArray,hb.length]; exact LSm.range_all bs
  rw [e]
  exact ⟨.bl _,H,I.kept (LSm.kept_iter hk),rfl,q⟩
theorem cs_all {f:List Bool->Bool}:CallS K (fun xs H Q=>∃ (p:Addr) (bs:List Bool),xs=[.ref p]/\H p=some (.lst (bs.map V.bl))/\Q (.bl (f bs)) H) (allD f):=by
 intro A xs ds H Q z r ez q
 unfold allD at ez
 split at ez
 ·split at ez
  ·rename_i l bs e
   cases ez
   have:=boolsOf_some e
   subst this
   cases r with
   | cons h r =>
    cases r
    cases h with
    | lst h m r =>
     have:=r.bools_of
     subst this
     exact ⟨_,bs,rfl,h,q _ H (Same.refl H) (.bl _)⟩
  ·cases ez
 ·cases ez
theorem imm_all {f:List Bool->Bool}:∀ x z,allD f x = .ok z->imm z=true:=by
 intro x z e
 unfold allD at e
 split at e
 ·split at e
  ·cases e; rfl
  ·cases e
 ·cases e
noncomputable def mmD (f:Int->Int->Int):List D->Rs D
 | [.int i,.int j]=>.ok (.int (f i j))
 | _=>.st
theorem cs_mm {f:Int->Int->Int}:CallS K (fun xs H Q=>∃ i j,xs=[.int i,.int j]/\Q (.int (f i j)) H) (mmD f):=by
 intro A xs ds H Q z r ez q
 unfold mmD at ez
 split at ez
 ·cases ez
  cases r with
  | cons h r =>
   cases h
   cases r with
   | cons h r =>
    cases h
    cases r
    exact ⟨_,_,rfl,q _ H (Same.refl H) (.int _)⟩
 ·cases ez
theorem imm_mm {f:Int->Int->Int}:∀ x z,mmD f x = .ok z->imm z=true:=by
 intro x z e
 unfold mmD at e
 split at e
 ·cases e; rfl
 ·cases e
noncomputable def tupleD:List D->Rs D
 | [.lst l]=>.ok (.tup l)
 | [.tup l]=>.ok (.tup l)
 | _=>.st
noncomputable def listD:List D->Rs D
 | [.lst l]=>.ok (.lst l)
 | [.tup l]=>.ok (.lst l)
 | _=>.st
theorem cs_tuple:CallS K (fun xs H Q=>∃ p ys,xs=[.ref p]/\((SqL K H p ys/\∀ l,H l=none->Q (.ref l) (upd H l (.tup ys)))\/(SqT K H p ys/\Q (.ref p) H))) tupleD:=by
 intro A xs ds H Q z r ez q
 unfold tupleD at ez
 split at ez
 ·cases ez
  cases r with
  | cons h r =>
   cases r
   cases h with
   | lst h m r=>exact ⟨_,_,rfl,.inl ⟨SqL.of h,fun l hl=>q _ _ (same_new hl _) (.tup (SqT.of upd_same) ((r.wk fun _ _ _ z=>.inr z.1).up (same_new hl _)))⟩⟩
 ·cases ez
  cases r with
  | cons h r =>
   cases r
   cases h with
   | tup h r=>exact ⟨_,_,rfl,.inr ⟨h,q _ H (Same.refl H) (.tup h (r.wk fun _ _ _ z=>.inr z))⟩⟩
 ·cases ez
theorem cs_list:CallS K (fun xs H Q=>∃ p ys,xs=[.ref p]/\(SqL K H p ys\/SqT K H p ys)/\∀ l,H l=none->Q (.ref l) (upd H l (.lst ys))) listD:=by
 intro A xs ds H Q z r ez q
 unfold listD at ez
 split at ez
 ·cases ez
  cases r with
  | cons h r =>
   cases r
   cases h with
   | lst h m r=>exact ⟨_,_,rfl,.inl (SqL.of h),fun l hl=>q _ _ (same_new hl _) (.lst upd_same (.inl hl) ((r.wk fun p o e z=>⟨.inr z.1,fun e'=>by subst e'; rw [hl] at e; cases e⟩).up (same_new hl _)))⟩
 ·cases ez
  cases r with
  | cons h r =>
   cases r
   cases h with
   | tup h r=>exact ⟨_,_,rfl,.inr h,fun l hl=>q _ _ (same_new hl _) (.lst upd_same (.inl hl) ((r.wk fun p o e z=>⟨.inr z,fun e'=>by subst e'; rw [hl] at e; cases e⟩).up (same_new hl _)))⟩
 ·cases ez
end
noncomputable def cutD (l:List D) (lo hi:Option Int):List D:=(l.drop (HT.sIx l.length 0 lo)).take (HT.sIx l.length l.length hi - HT.sIx l.length 0 lo)
theorem Rps.cut {K:PySem.W.Frag} {A:Addr->Prop} {H:Hp} {xs:List V} {ds:List D} (r:Rps K A H xs ds) (lo hi:Option Int):Rps K A H (cutV xs lo hi) (cutD ds lo hi):=by
 unfold cutV cutD
 rw [r.length]
 exact (r.drop _).take _
noncomputable def slD (d:D) (lo hi:Option Int):Rs D:=match d with
 | .tup l=>.ok (.tup (cutD l lo hi))
 | .lst l=>.ok (.lst (cutD l lo hi))
 | _=>.st
noncomputable def rSlV (K:PySem.W.Frag):V->Option Int->Option Int->Hp->VK->Prop:=fun x lo hi H Q=>(∃ a xs,x = .ref a/\SqT K H a xs/\∀ c H',Same H H'->SqT K H' c (cutV xs lo hi)->Q (.ref c) H')\/rSlL K x lo hi H Q
theorem sl_tupV {X:Cx}:SlR X (fun x lo hi H Q=>∃ a xs,x = .ref a/\SqT X.K H a xs/\∀ c H',Same H H'->SqT X.K H' c (cutV xs lo hi)->Q (.ref c) H'):=by
 intro pins s σ H x v vl vu lo hi sl Q I rx hs pl pu h
 obtain ⟨a,xs,rfl,hx,q⟩:=h
 cases rx
 obtain ⟨its,r,ht,hz⟩:=I.tuple hx
 have hlen:its.toArray.size=xs.length:=by rw [List.size_toArray]; exact r.length.symm
 refine ⟨"tuple",_,PyProof.Rows.slot_tuple_getitem.lookup,ht.typeIs,?_⟩
 by_cases hw:HT.sIx xs.length 0 lo=0/\HT.sIx xs.length xs.length hi=xs.length
 ·refine HT.getItem_tuple_all ht hs pl pu (by rw [hlen]; exact hw.1) (by rw [hlen]; exact hw.2) ⟨.ref a,H,I,rfl,q a H (Same.refl H) ?_⟩
  have:cutV xs lo hi=xs:=by
   unfold cutV
   rw [hw.1,hw.2,List.drop_zero,Nat.sub_zero,List.take_length]
  rw [this]
  exact hx
 ·refine HT.getItem_tuple_cut ht hs pl pu (by rw [hlen]; exact hw) ?_ (by rw [hlen]; exact hz)
  rw [hlen]
  refine ⟨.ref s.heap.objs.size,_,I.laid (t':=s.toks) (o:=.tup (cutV xs lo hi)) (fun b ob q=>Heap.get?_push_of_some _ q) (Nat.le_refl _) ?_,rfl,q _ _ (same_new (I.hok.fresh (Nat.le_refl _)) _) (SqT.of upd_same)⟩
  exact ⟨Nat.le_trans (cutV_length xs lo hi) hz,_,(r.drop (HT.sIx xs.length 0 lo)).take (HT.sIx xs.length xs.length hi - HT.sIx xs.length 0 lo),IsTup.new _ _⟩
theorem sl_V {X:Cx}:SlR X (rSlV X.K):=sl_tupV.or sl_list
section
variable {C:Ct} {pos p2:Pos} {m m1 m2:Mode} {a e:Expr} {fa fe:En->Rs D} {lo hi:Option Expr}
noncomputable def SimO (K:PySem.W.Frag) (G:Gx) (t:TO) (f:En->Rs (Option Int)):Prop:=∀ τ σ H ρ lab (Q:Option Int->Hp->Prop),RR K G τ ρ σ H lab->WR G (f ρ) (fun o=>∀ H',Same H H'->Q o H')->t σ H Q
noncomputable def SO (C:Ct) (e:Option Expr) (f:En->Rs (Option Int)):Prop:=∃ t,(∀ i,PO (C.X i) e t)/\SimO C.K C.G t f
noncomputable def oNone:En->Rs (Option Int):=fun _=>.ok none
noncomputable def oSome (fe:En->Rs D):En->Rs (Option Int):=fun ρ=>(fe ρ).bd fun d=>match d with
 | .int i=>.ok (some i)
 | _=>.st
theorem so_none:SO C none oNone:=⟨_,fun _=>po_none,fun τ σ H ρ lab Q R W=>W H (Same.refl H)⟩
theorem so_some (h:SE C m e fe):SO C (some e) (oSome fe):=by
 obtain ⟨t,h1,h2⟩:=h
 refine ⟨_,fun i=>po_some (h1 i),fun τ σ H ρ lab Q R W=>h2 τ σ H ρ lab _ R (W.bd.imp fun d _ w x H1 s r=>?_)⟩
 cases r with
 | int i=>exact ⟨i,rfl,w H1 s⟩
 | _=>exact False.elim w
noncomputable def sliceD (fa:En->Rs D) (fl fh:En->Rs (Option Int)):En->Rs D:=fun ρ=>(fa ρ).bd fun d=>(fl ρ).bd fun l=>(fh ρ).bd fun h=>okD (slD d l h)
theorem se_slice {fl fh:En->Rs (Option Int)} (ha:SE C m a fa) (hl:SO C lo fl) (hh:SO C hi fh):SE C m (.Subscript a (.Slice lo hi none p2) pos) (sliceD fa fl fh):=by
 obtain ⟨t,h1,h2⟩:=ha
 obtain ⟨tl,l1,l2⟩:=hl
 obtain ⟨th,k1,k2⟩:=hh
 refine ⟨tSl (rSlV C.K) t tl th,fun i=>by rw [<- C.hK i]; exact pe_slice sl_V (h1 i) (l1 i) (k1 i),fun τ σ H ρ lab Q R W=>h2 τ σ H ρ lab _ R (W.bd.imp fun d _ w x H1 s1 r1=>?_)⟩
 refine l2 τ σ H1 ρ lab _ (R.up s1) (w.bd.imp fun ol _ w H2 s2=>?_)
 refine k2 τ σ H2 ρ lab _ ((R.up s1).up s2) (w.bd.imp fun oh _ w H3 s3=>?_)
 obtain ⟨z,ez,w⟩:=w.okD
 have s:=s1.trans (s2.trans s3)
 have r3:=r1.up (s2.trans s3)
 cases d with
 | tup l =>
  cases ez
  cases r3 with
  | tup h r=>exact .inl ⟨_,_,rfl,h,fun c H' s' hc=>w _ H' (s.trans s') (.tup hc ((r.cut ol oh).up s'))⟩
 | lst l =>
  cases ez
  cases r3 with
  | lst h mm r =>
   exact .inr ⟨_,_,rfl,SqL.of h,fun p hp=>w _ _ (s.trans (same_new hp _)) (.lst upd_same (.inl (s.free hp)) (((r.cut ol oh).wk fun q o e z=>⟨z.1,fun e'=>by subst e'; rw [hp] at e; cases e⟩).up (same_new hp _)))⟩
 | _=>cases ez
noncomputable def revD:D->Rs D
 | .tup l=>.ok (.tup l.reverse)
 | _=>.st
noncomputable def tRevV (K:PySem.W.Frag) (te:TE):TE:=fun σ H Q=>te σ H fun x H1=>∃ a xs,x = .ref a/\SqT K H1 a xs/\∀ c H',Same H1 H'->H' c=some (.tup xs.reverse)->Q (.ref c) H'
theorem pe_revV {X:Cx} {e:Expr} {te:TE} {pos p2 p3 p4:Pos} {j:Nat} (he:PE X e te):PE X (.Subscript e (.Slice none none (some (.UnaryOp .USub (.Constant (.int 1) j p3) p4)) p2) pos) (tRevV X.K te):=by
 intro pins s σ H Q I h
 refine Subscript_ (thn (he pins s σ H _ I h) fun v s1 ⟨x,H1,I1,r1,q1⟩=>?_)
 obtain ⟨a,xs,rfl,hx,q⟩:=q1
 cases r1
 have hm:PE X (.UnaryOp .USub (.Constant (.int 1) j p3) p4) (tUn (rU fun i=>.int (-i)) (tC (.int 1))):=pe_un un_neg pe_int
 refine wpAny_Slice ?_
 rw [evalPart_none]
 refine wpAny_pure (wpAny_pure ?_)
 rw [evalPart_some]
 refine thn (hm pins s1 σ H1 (fun z H2=>z = .int (-1)/\H2=H1) I1 ⟨1,rfl,rfl,rfl⟩) fun u s2 ⟨z,H2,I2,r2,ez,eH⟩=>?_
 subst ez eH
 obtain ⟨tk,rfl⟩:=r2
 have I4:Inv X pins σ H2 { s2 with heap:=s2.heap.push { cls:=.type "slice",data:=.fields #[.none,.none,.int (-1) tk] } }:=I2.kept (t':=s2.toks) fun b ob q=>Heap.get?_push_of_some _ q
 obtain ⟨its,r,ht,hz⟩:=I4.tuple hx
 have hlen:its.toArray.size=xs.length:=by rw [List.size_toArray]; exact r.length.symm
 show wpAny (model X.prog X.w) X.A (subscriptTail e _ (.ref a) (.ref s2.heap.objs.size)) (EP X pins σ Q) X.xe _
 refine tail_any (ops:=[.ref a,.ref s2.heap.objs.size]) ht.typeIs PyProof.Rows.slot_tuple_getitem.lookup ?_ (by with_unfolding_all rfl)
 refine HT.getItem_tuple_rev ht (Heap.IsSliceOf.new ..) ?_ (by rw [hlen]; exact hz)
 refine ⟨.ref _,_,I4.laid (t':=s2.toks) (o:=.tup xs.reverse) (fun b ob q=>Heap.get?_push_of_some _ q) (Nat.le_refl _) ?_,rfl,q _ _ (same_new (I4.hok.fresh (Nat.le_refl _)) _) upd_same⟩
 exact ⟨by rw [List.length_reverse]; exact hz,_,r.reverse,IsTup.new _ _⟩
theorem se_rev {j:Nat} {p3 p4:Pos} (h:SE C m e fe):SE C m (.Subscript e (.Slice none none (some (.UnaryOp .USub (.Constant (.int 1) j p3) p4)) p2) pos) (op1 revD fe):=by
 obtain ⟨t,h1,h2⟩:=h
 refine ⟨tRevV C.K t,fun i=>by rw [<- C.hK i]; exact pe_revV (h1 i),fun τ σ H ρ lab Q R W=>h2 τ σ H ρ lab _ R (W.bd.imp fun d _ w x H1 s1 r1=>?_)⟩
 obtain ⟨z,ez,w⟩:=w.okD
 cases d with
 | tup l =>
  cases ez
  cases r1 with
  | tup h r=>exact ⟨_,_,rfl,h,fun c H' s hc=>w _ H' (s1.trans s) (.tup (SqT.of hc) (r.reverse.up s))⟩
 | _=>cases ez
end
end VL
namespace VL
open PySem PySem.Spec PyProof.Rows L2
section
variable {C:Ct} {pos p:Pos} {m m1 m2 m3:Mode} {a b c e:Expr} {fa fb fc fe:En->Rs D} {ga:En->Rs (List D)} {es:List Expr}
theorem Ct.u0 (C:Ct) (i:C.ι):(C.X i).A.units < cLine:=(C.room i).units0
theorem Ct.u64 (C:Ct) (i:C.ι):(C.X i).A.units + 64 < cLine:=(C.room i).units
theorem Ct.ltR (C:Ct) (i:C.ι):OpR (C.X i) (compareOp .Lt) (fun x y H Q=>rI0 (fun i j=>.bl (decide (i < j))) x y H Q\/rLtT C.K x y H Q):=by have h:=op_ltV (X:=C.X i) (C.u0 i); rw [C.hK i] at h; exact h
theorem Ct.leR (C:Ct) (i:C.ι):OpR (C.X i) (compareOp .LtE) (fun x y H Q=>rI0 (fun i j=>.bl (decide (i <= j))) x y H Q\/rLeT C.K x y H Q):=by have h:=op_leV (X:=C.X i) (C.u0 i); rw [C.hK i] at h; exact h
theorem Ct.eqRl (C:Ct) (i:C.ι):OpR (C.X i) (compareOp .Eq) (rEqV C.K false):=by have h:=op_eqV (X:=C.X i) (C.u64 i); rw [C.hK i] at h; exact h
theorem Ct.neRl (C:Ct) (i:C.ι):OpR (C.X i) (compareOp .NotEq) (rEqV C.K true):=by have h:=op_neV (X:=C.X i) (C.u64 i); rw [C.hK i] at h; exact h
theorem Ct.inRl (C:Ct) (i:C.ι):OpR (C.X i) (compareOp .In) (rInV C.K false):=by have h:=op_inV (X:=C.X i) (C.u64 i); rw [C.hK i] at h; exact h
theorem Ct.ninRl (C:Ct) (i:C.ι):OpR (C.X i) (compareOp .NotIn) (rInV C.K true):=by have h:=op_notInV (X:=C.X i) (C.u64 i); rw [C.hK i] at h; exact h
theorem Ct.addR (C:Ct) (i:C.ι):OpR (C.X i) (binaryOp .Add) (rAddV C.K):=by have h:=op_addV (X:=C.X i); rw [C.hK i] at h; exact h
noncomputable def subD:D->D->Rs D:=i2 (fun _ _=>true) fun i j=>.int (i - j)
noncomputable def fdivD:D->D->Rs D:=i2 (fun _ j=>decide (0 < j) && decide (j < 1073741824)) fun i j=>.int (i / j)
noncomputable def modD:D->D->Rs D:=i2 (fun _ j=>decide (0 < j)) fun i j=>.int (i % j)
noncomputable def powD:D->D->Rs D:=i2 (fun i j=>decide (0 <= j) && decide (j <= 1000000) && decide (i.natAbs < 2 ^ 64)) fun i j=>.int (i ^ j.toNat)
theorem se_add (ha:SE C m1 a fa) (hb:SE C m2 b fb):SE C (jn m1 m2) (.BinOp a .Add b pos) (op2 addD fa fb):=se_op C.addR os_add ha hb
theorem se_mul (ha:SE C m1 a fa) (hb:SE C m2 b fb):SE C (jn m1 m2) (.BinOp a .Mult b pos) (op2 mulD fa fb):=se_op (fun _=>op_mulV) os_mul ha hb
theorem se_sub (ha:SE C m1 a fa) (hb:SE C m2 b fb):SE C (some []) (.BinOp a .Sub b pos) (op2 subD fa fb):=se_cut (se_op (fun _=>op_sub) os_int0 ha hb) fun _ _ h=>imm_op2 imm_i2 h
theorem se_fdiv (ha:SE C m1 a fa) (hb:SE C m2 b fb):SE C (some []) (.BinOp a .FloorDiv b pos) (op2 fdivD fa fb):=se_cut (se_op (fun _=>op_fdiv) (os_int fun i j h=>by simpa [CDiv] using h) ha hb) fun _ _ h=>imm_op2 imm_i2 h
theorem se_mod (ha:SE C m1 a fa) (hb:SE C m2 b fb):SE C (some []) (.BinOp a .Mod b pos) (op2 modD fa fb):=se_cut (se_op (fun _=>op_mod) (os_int fun i j h=>by simpa using h) ha hb) fun _ _ h=>imm_op2 imm_i2 h
theorem se_pow (ha:SE C m1 a fa) (hb:SE C m2 b fb):SE C (some []) (.BinOp a .Pow b pos) (op2 powD fa fb):=se_cut (se_op (fun _=>op_pow) (os_int fun i j h=>by simp only [Bool.and_eq_true,decide_eq_true_eq] at h; exact ⟨h.1.1,h.1.2,h.2⟩) ha hb) fun _ _ h=>imm_op2 imm_i2 h
theorem se_neg (ha:SE C m a fa):SE C (some []) (.UnaryOp .USub a pos) (op1 negD fa):=se_cut (se_un (fun _=>un_neg) us_neg ha) fun _ _ h=>imm_op1 imm_neg h
theorem se_lt (ha:SE C m1 a fa) (hb:SE C m2 b fb):SE C (some []) (.Compare a [.Lt] [b] pos) (op2 ltD fa fb):=se_cut (se_cmp C.ltR os_lt ha hb) fun _ _ h=>imm_op2 imm_lt h
theorem se_eq (ha:SE C m1 a fa) (hb:SE C m2 b fb):SE C (some []) (.Compare a [.Eq] [b] pos) (op2 (eqR false) fa fb):=se_cut (se_cmp C.eqRl os_eq ha hb) fun _ _ h=>imm_op2 imm_eq h
theorem se_ne (ha:SE C m1 a fa) (hb:SE C m2 b fb):SE C (some []) (.Compare a [.NotEq] [b] pos) (op2 (eqR true) fa fb):=se_cut (se_cmp C.neRl os_eq ha hb) fun _ _ h=>imm_op2 imm_eq h
theorem se_in (ha:SE C m1 a fa) (hb:SE C m2 b fb) (hm:behindInMarks .In b=false:=by with_unfolding_all rfl):SE C (some []) (.Compare a [.In] [b] pos) (op2 (inR false) fa fb):=se_cut (se_cmp C.inRl os_in ha hb hm) fun _ _ h=>imm_op2 imm_in h
theorem se_is (ha:SE C m1 a fa) (hb:SE C m2 b fb):SE C (some []) (.Compare a [.Is] [b] pos) (op2 (isD false) fa fb):=se_cut (se_cmp (fun _=>op_isV) os_is ha hb) fun _ _ h=>imm_op2 imm_is h
theorem st_lt (ha:SE C m1 a fa) (hb:SE C m2 b fb):ST C (.Compare a [.Lt] [b] pos) (tsb (op2 ltD fa fb)):=st_cmp C.ltR os_lt ha hb
theorem st_gt (ha:SE C m1 a fa) (hb:SE C m2 b fb):ST C (.Compare a [.Gt] [b] pos) (tsb (op2 gtD fa fb)):=st_cmp (fun _=>op_gt) os_bl0 ha hb
theorem st_ge (ha:SE C m1 a fa) (hb:SE C m2 b fb):ST C (.Compare a [.GtE] [b] pos) (tsb (op2 geD fa fb)):=st_cmp (fun _=>op_ge) os_bl0 ha hb
theorem st_eq (ha:SE C m1 a fa) (hb:SE C m2 b fb):ST C (.Compare a [.Eq] [b] pos) (tsb (op2 (eqR false) fa fb)):=st_cmp C.eqRl os_eq ha hb
theorem st_ne (ha:SE C m1 a fa) (hb:SE C m2 b fb):ST C (.Compare a [.NotEq] [b] pos) (tsb (op2 (eqR true) fa fb)):=st_cmp C.neRl os_eq ha hb
theorem st_nin (ha:SE C m1 a fa) (hb:SE C m2 b fb) (hm:behindInMarks .NotIn b=false:=by with_unfolding_all rfl):ST C (.Compare a [.NotIn] [b] pos) (tsb (op2 (inR true) fa fb)):=st_cmp C.ninRl os_in ha hb hm
theorem se_lele (ha:SE C m1 a fa) (hb:SE C m2 b fb) (hc:SE C m3 c fc) (hm:lastMarks [.LtE,.LtE] [b,c]=false:=by with_unfolding_all rfl):SE C (some []) (.Compare a [.LtE,.LtE] [b,c] pos) (chD leD leD fa fb fc):=se_chain C.leR os_le C.leR os_le imm_le ha hb hc hm
theorem se_lelt (ha:SE C m1 a fa) (hb:SE C m2 b fb) (hc:SE C m3 c fc) (hm:lastMarks [.LtE,.Lt] [b,c]=false:=by with_unfolding_all rfl):SE C (some []) (.Compare a [.LtE,.Lt] [b,c] pos) (chD leD ltD fa fb fc):=se_chain C.leR os_le C.ltR os_lt imm_lt ha hb hc hm
theorem se_sub_ix (ha:SE C m1 a fa) (hb:SE C m2 b fb) (hp:PlainIx b:=by exact fun _ _=>rfl):SE C m1 (.Subscript a b pos) (op2 ixD fa fb):=by
 obtain ⟨t,h1,h2⟩:=ha
 obtain ⟨u,k1,k2⟩:=hb
 refine ⟨tOp (rIx C.K) t u,fun i=>by rw [<- C.hK i]; exact pe_ix ix_seq (h1 i) (k1 i) hp,fun τ σ H ρ lab Q R W=>?_⟩
 refine h2 τ σ H ρ lab _ R (W.bd.imp fun d _ w x H1 s1 r1=>?_)
 refine k2 τ σ H1 ρ lab _ (R.up s1) (w.bd.imp fun e _ w y H2 s2 r2=>?_)
 obtain ⟨z,ez,w⟩:=w.okD
 have hi:imm e=true:=by
  unfold ixD at ez
  split at ez <;> first | rfl | cases ez
 refine os_ix (fpM m1 lab H) x y d e H2 Q z (r1.up s2) (r2.imm hi) ez fun v H' s r=>w v H' ((s1.trans s2).trans s) (r.wk fun p o _ q=>?_)
 rcases q with q | q
 ·exact .inl ((s1.trans s2).free q)
 ·exact q
theorem se_len (hg:∀ i,Gl (C.X i) "len") (hm:C.mg "len" = none) (ha:SA C m [a] ga) (he:∀ i,starEach [a] (C.X i).env=[(false,eval a (C.X i).env)]:=by intro _; rfl):SE C (some []) (.Call (.Name "len" p) [a] [] pos) (opA lenD ga) :=
 se_cut (se_callB (fun i=>by have h:=call_len_seq (X:=C.X i); rw [C.hK i] at h; exact h) cs_len hg hm PySem.boot_len ha (by decide) (by decide) he) fun _ _ h=>imm_opA imm_len h
theorem se_all (hg:∀ i,Gl (C.X i) "all") (hm:C.mg "all" = none) (hv:bootBuiltins "all" = some (.builtin "all")) (ha:SA C m [a] ga) (he:∀ i,starEach [a] (C.X i).env=[(false,eval a (C.X i).env)]:=by intro _; rfl):SE C (some []) (.Call (.Name "all" p) [a] [] pos) (opA (allD fun bs=>bs.all id) ga) :=
 se_cut (se_callB (fun i=>call_all (C.calm i)) cs_all hg hm hv ha (by decide) (by decide) he) fun _ _ h=>imm_opA imm_all h
theorem se_min2 (hg:∀ i,Gl (C.X i) "min") (hm:C.mg "min" = none) (hv:bootBuiltins "min" = some (.builtin "min")) (ha:SA C m [a,b] ga) (he:∀ i,starEach [a,b] (C.X i).env=(false,eval a (C.X i).env) :: starEach [b] (C.X i).env:=by intro _; rfl)
  (hpl:∀ i,(backTo pos (starEach [b] (C.X i).env)).any (·.1)=false:=by intro _; rfl):SE C (some []) (.Call (.Name "min" p) [a,b] [] pos) (opA (mmD fun i j=>if j < i then j else i) ga) :=
 se_cut (se_callB (fun i=>call_min2 (C.calm i)) cs_mm hg hm hv ha (by decide) (by decide) he hpl) fun _ _ h=>imm_opA imm_mm h
theorem se_max2 (hg:∀ i,Gl (C.X i) "max") (hm:C.mg "max" = none) (hv:bootBuiltins "max" = some (.builtin "max")) (ha:SA C m [a,b] ga) (he:∀ i,starEach [a,b] (C.X i).env=(false,eval a (C.X i).env) :: starEach [b] (C.X i).env:=by intro _; rfl)
  (hpl:∀ i,(backTo pos (starEach [b] (C.X i).env)).any (·.1)=false:=by intro _; rfl):SE C (some []) (.Call (.Name "max" p) [a,b] [] pos) (opA (mmD fun i j=>if j > i then j else i) ga) :=
 se_cut (se_callB (fun i=>call_max2 (C.calm i)) cs_mm hg hm hv ha (by decide) (by decide) he hpl) fun _ _ h=>imm_opA imm_mm h
theorem se_tuple (hg:∀ i,Gl (C.X i) "tuple") (hm:C.mg "tuple" = none) (hv:bootBuiltins "tuple" = some (.type "tuple")) (ha:SA C m [a] ga) (he:∀ i,starEach [a] (C.X i).env=[(false,eval a (C.X i).env)]:=by intro _; rfl):SE C m (.Call (.Name "tuple" p) [a] [] pos) (opA tupleD ga) :=
 se_callT (fun i=>by have h:=call_tuple_of (X:=C.X i); rw [C.hK i] at h; exact h) cs_tuple hg hm hv ha (by decide) (by decide) he
theorem se_list (hg:∀ i,Gl (C.X i) "list") (hm:C.mg "list" = none) (hv:bootBuiltins "list" = some (.type "list")) (ha:SA C m [a] ga) (he:∀ i,starEach [a] (C.X i).env=[(false,eval a (C.X i).env)]:=by intro _; rfl):SE C m (.Call (.Name "list" p) [a] [] pos) (opA listD ga) :=
 se_callT (fun i=>by have h:=call_list_of (X:=C.X i); rw [C.hK i] at h; exact h) cs_list hg hm hv ha (by decide) (by decide) he
noncomputable def spLaw (K:PySem.W.Frag):Sp:=fun vs H Q E=>∃ a ns,vs=[.ref a]/\ScrOk K H a ns/\ns.length <= 63/\∀ H',Q (.bl true) H'
theorem law_imp {K:PySem.W.Frag} {cl:Str->Addr} {F:List D->Rs D} (h:∀ ns:List Int,ns.length <= 63->F [.scr ns] = .ok (.bl true)):∀ vs H Q E,spLaw K vs H Q E->spF K cl 1 F vs H Q E:=by
 rintro vs H Q E ⟨a,ns,rfl,hs,hl,q⟩
 refine ⟨[.scr ns],rfl,.cons (.scr hs) .nil,?_⟩
 rw [h ns hl]
 intro v H' s r
 cases r
 exact q H'
theorem scr_of {K:PySem.W.Frag} {H:Hp} {a:Addr} {ns:List Int} (hO:Only H) (h:SqL K H a (ns.map V.int)):ScrOk K H a ns:=by
 rcases h with (h | ⟨o,h⟩) | h
 ·rcases hO a with z | ⟨o,xs,z⟩
  ·rw [h] at z; cases z
  ·rw [h] at z; cases z
 ·exact .inl ⟨o,h⟩
 ·exact .inr h
end
end VL
namespace VL
open PySem PySem.Spec PyProof.Rows L2
section
variable {C:Ct} {pos apos cpos p:Pos} {e tg:Expr} {fe:En->Rs D} {fg:D->En->Rs En} {i:Nat} {x:Str} {m:Mode} {ks:List Nat}
end
end VL
namespace VL
open PySem PySem.Spec PyProof.Rows L2
section
variable {K:PySem.W.Frag}
end
section
variable {C:Ct} {pos p:Pos} {a:Expr} {ga:En->Rs (List D)} {m:Mode}
end
end VL
namespace VL
open PySem PySem.Spec PyProof.Rows L2
section
variable {C:Ct} {pos:Pos} {a b:Expr} {fa fb:En->Rs D} {m1 m2:Mode}
end
end VL
namespace VL
open PySem PySem.Spec PyProof.Rows L2
section
variable {O:PyProof.Rows.KeyOrd} {kz:Nat->O.α} {n:Nat}
noncomputable def Wr {α:Type} (kz:Nat->O.α) (n:Nat):PySem.W.KasT α->(α->Prop)->Prop
 | .ret a,Q=>Q a
 | .ask i j k,Q=>i < n/\j < n/\Wr kz n (k (O.blt (kz i) (kz j))) Q
theorem Wr.bindI {α β:Type} {g:α->PySem.W.KasT β} {Q:β->Prop}:∀ {t:PySem.W.KasT α},Wr kz n t (fun a=>Wr kz n (g a) Q)->Wr kz n (t.bind g) Q
 | .ret _,h=>h
 | .ask _ _ _,⟨h1,h2,h3⟩=>⟨h1,h2,Wr.bindI h3⟩
noncomputable abbrev Pm (n:Nat) (p:Array Nat):Prop:=p.Perm (List.range n).toArray
theorem Pm.sz {p:Array Nat} (h:Pm n p):p.size=n:=by
 have:=h.size_eq
 simpa using this
theorem Pm.in {p:Array Nat} (h:Pm n p) {i:Nat} (hi:i < n):p.getD i 0 < n:=by
 have hs:i < p.size:=by rw [h.sz]; exact hi
 have e:p.getD i 0=p[i]:=by simp [Array.getD,hs]
 rw [e]
 have hm:p[i] ∈ (List.range n).toArray:=h.mem_iff.mp (Array.getElem_mem hs)
 simpa using hm
noncomputable def Kp (kz:Nat->O.α) (p:Array Nat) (i:Nat):O.α:=kz (p.getD i 0)
theorem kp_of {p q:Array Nat} {i j:Nat} (h:p[i]? = q[j]?):Kp kz p i=Kp kz q j:=by
 unfold Kp
 congr 1
 rw [Array.getD_eq_getD_getElem?,Array.getD_eq_getD_getElem?,h]
theorem kp_bub {p:Array Nat} {c d:Nat} (hs:c < p.size) (hd:d <= c) (k:Nat) :
  Kp kz (bubble p c d) k=if k=c - d then Kp kz p c else if c - d < k/\k <= c then Kp kz p (k - 1) else Kp kz p k:=by
 have e:=getElem?_bubble hs d hd k
 by_cases u1:k=c - d
 ·rw [if_pos u1] at e ⊢
  exact kp_of e
 ·rw [if_neg u1] at e ⊢
  by_cases u2:c - d < k/\k <= c
  ·rw [if_pos u2] at e ⊢
   exact kp_of e
  ·rw [if_neg u2] at e ⊢
   exact kp_of e
theorem kp_mir {p:Array Nat} {i j:Nat} (hj:j <= p.size) (k:Nat):Kp kz (PySem.W.kas_rev p i j) k=if i <= k/\k < j then Kp kz p (i + j - 1 - k) else Kp kz p k:=by
 unfold PySem.W.kas_rev
 have e:=getElem?_mirror_all (i:=i) hj k
 by_cases u1:i <= k/\k < j
 ·rw [if_pos u1] at e ⊢
  exact kp_of e
 ·rw [if_neg u1] at e ⊢
  exact kp_of e
theorem kp_mirE {p:Array Nat} {i j:Nat} (hj:j <= p.size) (he:∀ k,i <= k->k < j->Kp kz p k=Kp kz p (j - 1)) (k:Nat):Kp kz (PySem.W.kas_rev p i j) k=Kp kz p k:=by
 rw [kp_mir hj]
 split
 ·rw [he _ (by omega) (by omega),he k (by omega) (by omega)]
 ·rfl
noncomputable def Up (kz:Nat->O.α) (p:Array Nat) (k:Nat):Prop:=∀ i j,i <= j->j < k->O.kle (Kp kz p i) (Kp kz p j)
noncomputable def Dn (kz:Nat->O.α) (p:Array Nat) (k:Nat):Prop:=∀ i j,i <= j->j < k->O.kle (Kp kz p j) (Kp kz p i)
theorem rev_pm {p:Array Nat} (h:Pm n p) (i j:Nat):Pm n (PySem.W.kas_rev p i j):=(mirror_perm _ _ _ _).trans h
theorem Up.succ {p:Array Nat} {m:Nat} (h:Up kz p m) (hm:1 <= m) (hl:O.kle (Kp kz p (m - 1)) (Kp kz p m)):Up kz p (m + 1):=by
 intro i j hij hj
 by_cases q:j < m
 ·exact h i j hij q
 ·have q':j=m:=by omega
  subst q'
  by_cases q2:i=j
  ·rw [q2]; exact KeyOrd.kle_refl _
  ·exact KeyOrd.kle_trans (h i (j - 1) (by omega) (by omega)) hl
theorem Dn.succ {p:Array Nat} {m:Nat} (h:Dn kz p m) (hm:1 <= m) (hl:O.kle (Kp kz p m) (Kp kz p (m - 1))):Dn kz p (m + 1):=by
 intro i j hij hj
 by_cases q:j < m
 ·exact h i j hij q
 ·have q':j=m:=by omega
  subst q'
  by_cases q2:i=j
  ·rw [q2]; exact KeyOrd.kle_refl _
  ·exact KeyOrd.kle_trans hl (h i (j - 1) (by omega) (by omega))
theorem wr_asc {p:Array Nat} {r:Nat} {Q:Nat->Prop} (hp:Pm n p) (hr:r <= n):∀ (f m:Nat),1 <= m->m + f=r->Up kz p m ->
  (∀ m',1 <= m'->m' <= r->Up kz p m'->(m'=r\/O.klt (Kp kz p m') (Kp kz p (m' - 1)))->Q m')->Wr kz n (PySem.W.kas_asc p f m) Q
 | 0,m,h1,hm,hu,k=>k m h1 (by omega) hu (.inl (by omega))
 | f + 1,m,h1,hm,hu,k=>by
  refine ⟨hp.in (by omega),hp.in (by omega),?_⟩
  have hd:O.blt (kz (p.getD m 0)) (kz (p.getD (m - 1) 0))=O.blt (Kp kz p m) (Kp kz p (m - 1)):=rfl
  rw [hd]
  cases hb:O.blt (Kp kz p m) (Kp kz p (m - 1)) with
  | true=>exact k m h1 (by omega) hu (.inr hb)
  | false=>exact wr_asc hp hr f (m + 1) (by omega) (by omega) (hu.succ h1 hb) k
theorem wr_desc {r:Nat} {Q:Array Nat × Nat × Nat->Prop} (hr:r <= n):∀ (f:Nat) (p:Array Nat) (m e:Nat),Pm n p->1 <= m->m + f=r->Dn kz p m->e + 1 <= m->(∀ i,m - (e + 1) <= i->i < m->Kp kz p i=Kp kz p (m - 1)) ->
  (∀ p' m' e',Pm n p'->1 <= m'->m' <= r->Dn kz p' m'->e' + 1 <= m'->(∀ i,m' - (e' + 1) <= i->i < m'->Kp kz p' i=Kp kz p' (m' - 1))->Q (p',m',e'))->Wr kz n (PySem.W.kas_desc f p m e) Q
 | 0,p,m,e,hp,h1,hm,hd,he,hq,k=>k p m e hp h1 (by omega) hd he hq
 | f + 1,p,m,e,hp,h1,hm,hd,he,hq,k=>by
  have hsz:m <= p.size:=by rw [hp.sz]; omega
  refine ⟨hp.in (by omega),hp.in (by omega),?_⟩
  have hx:O.blt (kz (p.getD m 0)) (kz (p.getD (m - 1) 0))=O.blt (Kp kz p m) (Kp kz p (m - 1)):=rfl
  rw [hx]
  cases hb:O.blt (Kp kz p m) (Kp kz p (m - 1)) with
  | true =>
   have hd':Dn kz p (m + 1):=hd.succ h1 (KeyOrd.kle_of_klt hb)
   dsimp only
   rw [if_pos rfl]
   by_cases hz:e > 0
   ·rw [if_pos hz]
    refine wr_desc hr f _ (m + 1) 0 (rev_pm hp _ _) (by omega) (by omega) (fun i j hij hj=>?_) (by omega) (fun i u v=>by congr 1; omega) k
    rw [kp_mirE hsz hq,kp_mirE hsz hq]
    exact hd' i j hij hj
   ·rw [if_neg hz]
    exact wr_desc hr f p (m + 1) 0 hp (by omega) (by omega) hd' (by omega) (fun i u v=>by congr 1; omega) k
  | false =>
   dsimp only
   rw [if_neg (by simp)]
   refine ⟨hp.in (by omega),hp.in (by omega),?_⟩
   have hy:O.blt (kz (p.getD (m - 1) 0)) (kz (p.getD m 0))=O.blt (Kp kz p (m - 1)) (Kp kz p m):=rfl
   rw [hy]
   cases hc:O.blt (Kp kz p (m - 1)) (Kp kz p m) with
   | true=>exact k p m e hp h1 (by omega) hd he hq
   | false =>
    dsimp only
    rw [if_neg (by simp)]
    have hee:Kp kz p m=Kp kz p (m - 1):=KeyOrd.kle_antisymm hc hb
    refine wr_desc hr f p (m + 1) (e + 1) hp (by omega) (by omega) (hd.succ h1 hc) (by omega) (fun i u v=>?_) k
    rw [show m + 1 - 1=m by omega]
    by_cases hi:i=m
    ·rw [hi]
    ·rw [hee]
     exact hq i (by omega) (by omega)
theorem wr_tail {p:Array Nat} {m r:Nat} {Q:Nat × Array Nat->Prop} (hr:r <= n) (hp:Pm n p) (h1:1 <= m) (hm:m <= r) (hd:Dn kz p m) (k:∀ m' p',Pm n p'->1 <= m'->m' <= r->Up kz p' m'->Q (m',p')):Wr kz n (PySem.W.kas_tail3 m r p) Q:=by
 have hsz:m <= p.size:=by rw [hp.sz]; omega
 refine Wr.bindI (wr_asc (rev_pm hp 0 m) hr (r - m) m h1 (by omega) (fun i j hij hj=>?_) fun m' a1 a2 a3 _=>k m' _ (rev_pm hp 0 m) a1 a2 a3)
 rw [kp_mir hsz,kp_mir hsz,if_pos (by omega),if_pos (by omega)]
 exact hd _ _ (by omega) (by omega)
theorem wr_descPart {p:Array Nat} {m r:Nat} {Q:Nat × Array Nat->Prop} (hr:r <= n) (hp:Pm n p) (hm:m + 1 <= r) (hd:Dn kz p (m + 1)) (k:∀ m' p',Pm n p'->1 <= m'->m' <= r->Up kz p' m'->Q (m',p')):Wr kz n (PySem.W.kas_descPart m r p) Q:=by
 refine Wr.bindI (wr_desc hr (r - (m + 1)) p (m + 1) 0 hp (by omega) (by omega) hd (by omega) (fun i u v=>by congr 1; omega) fun p' m' e' a1 a2 a3 a4 a5 a6=>?_)
 have hsz:m' <= p'.size:=by rw [a1.sz]; omega
 dsimp only
 by_cases hz:e' > 0
 ·rw [if_pos hz]
  refine wr_tail hr (rev_pm a1 _ _) a2 a3 (fun i j hij hj=>?_) k
  rw [kp_mirE hsz a6,kp_mirE hsz a6]
  exact a4 i j hij hj
 ·rw [if_neg hz]
  exact wr_tail hr a1 a2 a3 a4 k
theorem wr_count {p:Array Nat} {r:Nat} {Q:Nat × Array Nat->Prop} (hr:r <= n) (hp:Pm n p) (h1:1 <= r) (k:∀ m' p',Pm n p'->1 <= m'->m' <= r->Up kz p' m'->Q (m',p')):Wr kz n (PySem.W.kas_count r p) Q:=by
 refine Wr.bindI (wr_asc hp hr (r - 1) 1 (Nat.le_refl 1) (by omega) (fun i j hij hj=>by rw [show i=j by omega]; exact KeyOrd.kle_refl _) fun m a1 a2 a3 a4=>?_)
 by_cases hm:m=r
 ·rw [if_pos (by simpa using hm)]
  exact k m p hp a1 a2 a3
 ·rw [if_neg (by simpa using hm)]
  have hl:O.klt (Kp kz p m) (Kp kz p (m - 1)):=a4.resolve_left hm
  by_cases hg:m > 1
  ·rw [if_pos hg]
   refine ⟨hp.in (by omega),hp.in (by omega),?_⟩
   have hx:O.blt (kz (p.getD 0 0)) (kz (p.getD (m - 1) 0))=O.blt (Kp kz p 0) (Kp kz p (m - 1)):=rfl
   rw [hx]
   cases hb:O.blt (Kp kz p 0) (Kp kz p (m - 1)) with
   | true=>exact k m p hp a1 a2 a3
   | false =>
    dsimp only
    rw [if_neg (by simp)]
    have hsz:m <= p.size:=by rw [hp.sz]; omega
    have hall:∀ i,0 <= i->i < m->Kp kz p i=Kp kz p (m - 1):=fun i _ hi=>KeyOrd.kle_antisymm (a3 i (m - 1) (by omega) (by omega)) (KeyOrd.kle_trans hb (a3 0 i (by omega) hi))
    refine wr_descPart hr (rev_pm hp 0 m) (by omega) (fun i j hij hj=>?_) k
    rw [kp_mirE hsz hall,kp_mirE hsz hall]
    by_cases hjm:j < m
    ·rw [hall i (by omega) (by omega),hall j (by omega) hjm]; exact KeyOrd.kle_refl _
    ·have hj':j=m:=by omega
     subst hj'
     by_cases hi:i=j
     ·rw [hi]; exact KeyOrd.kle_refl _
     ·rw [hall i (by omega) (by omega)]; exact KeyOrd.kle_of_klt hl
  ·rw [if_neg hg]
   have hm1:m=1:=by omega
   subst hm1
   refine wr_descPart hr hp (by omega) (fun i j hij hj=>?_) k
   by_cases hi:i=j
   ·rw [hi]; exact KeyOrd.kle_refl _
   ·have e1:i=0:=by omega
    have e2:j=1:=by omega
    subst e1 e2
    exact KeyOrd.kle_of_klt hl
theorem wr_place {p:Array Nat} {c:Nat} {Q:Nat->Prop} (hp:Pm n p) (hc:c < n) (hu:Up kz p c):∀ (f l r:Nat),l <= r->r <= c->r - l <= f->(∀ i,i < l->O.kle (Kp kz p i) (Kp kz p c))->(∀ i,r <= i->i < c->O.klt (Kp kz p c) (Kp kz p i)) ->
  (∀ l',l' <= c->(∀ i,i < l'->O.kle (Kp kz p i) (Kp kz p c))->(∀ i,l' <= i->i < c->O.klt (Kp kz p c) (Kp kz p i))->Q l')->Wr kz n (PySem.W.kas_place p c f l r) Q
 | 0,l,r,a1,a2,a3,a4,a5,k=>by
  have e:l=r:=by omega
  subst e
  exact k l a2 a4 a5
 | f + 1,l,r,a1,a2,a3,a4,a5,k=>by
  unfold PySem.W.kas_place
  by_cases hg:l ≥ r
  ·rw [if_pos hg]
   have e:l=r:=by omega
   subst e
   exact k l a2 a4 a5
  ·rw [if_neg hg]
   refine ⟨hp.in hc,hp.in (by omega),?_⟩
   have hx:O.blt (kz (p.getD c 0)) (kz (p.getD ((l + r) / 2) 0))=O.blt (Kp kz p c) (Kp kz p ((l + r) / 2)):=rfl
   rw [hx]
   cases hb:O.blt (Kp kz p c) (Kp kz p ((l + r) / 2)) with
   | true=>exact wr_place hp hc hu f l ((l + r) / 2) (by omega) (by omega) (by omega) a4 (fun i u v=>KeyOrd.klt_of_klt_of_kle hb (hu _ _ u v)) k
   | false=>exact wr_place hp hc hu f ((l + r) / 2 + 1) r (by omega) a2 (by omega) (fun i u=>KeyOrd.kle_trans (hu i ((l + r) / 2) (by omega) (by omega)) hb) a5 k
theorem wr_bin {Q:Array Nat->Prop}:∀ (f:Nat) (p:Array Nat) (c:Nat),Pm n p->c + f=n->Up kz p c->(∀ p',Pm n p'->Up kz p' n->Q p')->Wr kz n (PySem.W.kas_bin f p c) Q
 | 0,p,c,hp,hc,hu,k=>k p hp (by rw [show n=c by omega]; exact hu)
 | f + 1,p,c,hp,hc,hu,k=>by
  refine Wr.bindI (wr_place hp (by omega) hu c 0 c (by omega) (Nat.le_refl c) (by omega) (fun i u=>by omega) (fun i u v=>by omega) fun l a1 a2 a3=>?_)
  refine wr_bin f _ (c + 1) ((bubble_perm _ _ _).trans hp) (by omega) (fun i j hij hj=>?_) k
  have hs:c < p.size:=by rw [hp.sz]; omega
  rw [kp_bub hs (by omega),kp_bub hs (by omega),show c - (c - l)=l by omega]
  repeat' split
  all_goals first
   | (exfalso; omega)
   | exact O.irrefl _
   | exact a2 _ (by omega)
   | exact KeyOrd.klt_asymm (a3 _ (by omega) (by omega))
   | exact hu _ _ (by omega) (by omega)
theorem wr_sort {Q:Array Nat->Prop} (h1:1 <= n) (k:∀ p,Pm n p->Up kz p n->Q p):Wr kz n (PySem.W.kas_sort n) Q:=by
 refine Wr.bindI (wr_count (Nat.le_refl n) (Array.Perm.refl _) h1 fun m p a1 a2 a3 a4=>?_)
 dsimp only
 by_cases hm:m < n
 ·rw [if_pos hm]
  exact wr_bin _ p _ a1 (by omega) (by rw [show max m 1=m by omega]; exact a4) k
 ·rw [if_neg hm]
  exact k p a1 (by rw [show n=m by omega]; exact a4)
theorem wp_of_wr {α:Type} {cmp:Nat->Nat->(Bool->Shared->Prop)->Shared->Prop} {I:Shared->Prop} {Q:α->Shared->Prop} (hc:∀ i j (C:Bool->Shared->Prop) s,I s->i < n->j < n->(∀ s',I s'->C (O.blt (kz i) (kz j)) s')->cmp i j C s) :
  ∀ (t:PySem.W.KasT α) (s:Shared),I s->Wr kz n t (fun a=>∀ s',I s'->Q a s')->t.kasWp cmp Q s
 | .ret a,s,hI,h=>h s hI
 | .ask i j k,s,hI,⟨h1,h2,h3⟩=>hc i j _ s hI h1 h2 fun s' hI'=>wp_of_wr hc _ s' hI' h3
end
end VL
namespace VL
open PySem PySem.Spec PyProof.Rows L2
theorem lx_irr:∀ a:List Int,HT.lexLt a a=false
 | []=>rfl
 | x :: a=>by rw [HT.lexLt_cons,if_pos rfl]; exact lx_irr a
theorem lx_trans:∀ a b c:List Int,HT.lexLt a b=true->HT.lexLt b c=true->HT.lexLt a c=true
 | [],[],c,h,_=>by cases h
 | [],_ :: _,[],_,h=>by cases h
 | [],_ :: _,_ :: _,_,_=>rfl
 | _ :: _,[],_,h,_=>by cases h
 | _ :: _,_ :: _,[],_,h=>by cases h
 | x :: a,y :: b,z :: c,h1,h2=>by
  rw [HT.lexLt_cons] at h1 h2 ⊢
  by_cases e1:x=y
  ·subst e1
   rw [if_pos rfl] at h1
   by_cases e2:x=z
   ·rw [if_pos e2] at h2 ⊢
    exact lx_trans a b c h1 h2
   ·rw [if_neg e2] at h2 ⊢
    exact h2
  ·rw [if_neg e1] at h1
   simp only [decide_eq_true_eq] at h1
   by_cases e2:y=z
   ·subst e2
    rw [if_neg e1]
    simpa using h1
   ·rw [if_neg e2] at h2
    simp only [decide_eq_true_eq] at h2
    rw [if_neg (by omega)]
    simp only [decide_eq_true_eq]
    omega
theorem lx_tot:∀ a b:List Int,HT.lexLt a b=false->HT.lexLt b a=false->a=b
 | [],[],_,_=>rfl
 | [],_ :: _,h,_=>by cases h
 | _ :: _,[],_,h=>by cases h
 | x :: a,y :: b,h1,h2=>by
  rw [HT.lexLt_cons] at h1 h2
  by_cases e:x=y
  ·subst e
   rw [if_pos rfl] at h1 h2
   rw [lx_tot a b h1 h2]
  ·rw [if_neg e] at h1
   rw [if_neg fun q=>e q.symm] at h2
   simp only [decide_eq_false_iff_not] at h1 h2
   omega
theorem lx_neg (a b c:List Int) (h:HT.lexLt a c=true):HT.lexLt a b=true\/HT.lexLt b c=true:=by
 cases e1:HT.lexLt a b with
 | true=>exact .inl rfl
 | false =>
  right
  cases e2:HT.lexLt b a with
  | true=>exact lx_trans b a c e2 h
  | false=>rw [<- lx_tot a b e1 e2]; exact h
noncomputable def lexO:PyProof.Rows.KeyOrd:=⟨List Int,HT.lexLt,lx_irr,lx_trans,lx_neg,lx_tot⟩
inductive TupsAt (h:Heap):List Value->List (List Int)->Prop where
 | nil:TupsAt h [] []
 | cons {x:Addr} {o:Obj} {xs:Array Value} {k:Nat} {ns:List Int} {vs:List Value} {nss:List (List Int)} (ho:h.get? x=some o) (hc:o.cls = .type "tuple") (hd:o.data = .seq xs k) (hi:IntsAre xs.toList ns) (hne:ns ≠ []) (r:TupsAt h vs nss):TupsAt h (.ref x :: vs) (ns :: nss)
theorem TupsAt.mono {h h':Heap} (k:∀ x o,h.get? x=some o->o.cls = .type "tuple"->h'.get? x=some o):∀ {vs:List Value} {nss:List (List Int)},TupsAt h vs nss->TupsAt h' vs nss
 | _,_,.nil=>.nil
 | _,_,.cons ho hc hd hi hne r=>.cons (k _ _ ho hc) hc hd hi hne (TupsAt.mono k r)
theorem TupsAt.len {h:Heap}:∀ {vs:List Value} {nss:List (List Int)},TupsAt h vs nss->vs.length=nss.length
 | _,_,.nil=>rfl
 | _,_,.cons _ _ _ _ _ r=>by rw [List.length_cons,List.length_cons,r.len]
theorem TupsAt.at {h:Heap}:∀ {vs:List Value} {nss:List (List Int)} {i:Nat},TupsAt h vs nss->i < vs.length->∃ x o xs k,vs.getD i Value.none = .ref x/\h.get? x=some o/\o.cls = .type "tuple"/\o.data = .seq xs k/\IntsAre xs.toList (nss.getD i [])/\nss.getD i [] ≠ []
 | _,_,_,.nil,hi=>by simp at hi
 | _,_,0,.cons ho hc hd hi hne _,_=>⟨_,_,_,_,rfl,ho,hc,hd,hi,hne⟩
 | _,_,i + 1,.cons _ _ _ _ _ r,hi=>by
  obtain ⟨x,o,xs,k,q⟩:=TupsAt.at (i:=i) r (by simpa using hi)
  exact ⟨x,o,xs,k,by simpa using q⟩
theorem TupsAt.firsts {h:Heap}:∀ {vs:List Value} {nss:List (List Int)},TupsAt h vs nss->∃ fs,PySem.W.KatTups h vs fs/\fs.length=vs.length/\∀ f ∈ fs,∃ n t,f=Value.int n t
 | _,_,.nil=>⟨[],.nil,rfl,fun f hf=>by simp at hf⟩
 | _,_,.cons (xs:=xs) ho hc hd hi hne r=>by
  obtain ⟨fs,h1,h2,h3⟩:=TupsAt.firsts r
  obtain ⟨l,rfl⟩:∃ l:List Value,xs=l.toArray:=⟨xs.toList,by simp⟩
  rw [show l.toArray.toList=l by simp] at hi
  cases hi with
  | nil=>exact absurd rfl hne
  | cons n t q =>
   rename_i l' ns'
   refine ⟨.int n t :: fs,.cons ho hc hd (by simp) h1,by simp [h2],fun f hf=>?_⟩
   rcases List.mem_cons.mp hf with rfl | hf
   ·exact ⟨n,t,rfl⟩
   ·exact h3 f hf
section
variable {prog:Program} {w:World} {A:Around} {E:Value->Shared->Prop} {s:Shared}
theorem katlex_ints {b fin:Bool} {Q:Bool->Shared->Prop}:∀ {xs ys:List Value} {ns ms:List Int} (i:Nat),IntsAre xs ns->IntsAre ys ms->fin=decide (xs.length < ys.length)->Q (HT.lexLt ns ms) s->PySem.W.KatLex prog w A b fin Q (xs.zip ys) i s:=by
 intro xs ys ns ms i hx
 induction hx generalizing ys ms i with
 | nil=>intro hy hf q; cases hy <;> (subst hf; exact q)
 | @cons x t xs ns r ih =>
  intro hy hf q
  cases hy with
  | nil=>subst hf; exact q
  | @cons y u ys ms r'=>?_
  rw [List.zip_cons_cons]
  refine PySem.W.kat_cons (wpAny_eqBool_int ?_)
  rw [HT.lexLt_cons] at q
  by_cases e:x=y
  ·rw [if_pos e] at q
   rw [show (x == y)=true by simpa using e]
   exact PySem.W.kat_yes (ih (i + 1) r' (by rw [hf]; simp) q)
  ·rw [if_neg e] at q
   rw [show (x == y)=false by simpa using e]
   refine PySem.W.kat_no ?_
   cases hb:(b && i == 0) with
   | true=>exact oneLt_int q
   | false=>exact PySem.W.kat_one _ _ (PyProof.Rows.lt_int q)
theorem keyLt_tups {x y:Addr} {ox oy:Obj} {xs ys:Array Value} {n k:Nat} {ns ms:List Int} {b:Bool} {Q:Bool->Shared->Prop} (hx:s.heap.get? x=some ox) (dx:ox.data = .seq xs n) (hy:s.heap.get? y=some oy) (dy:oy.data = .seq ys k) (hi:IntsAre xs.toList ns) (hj:IntsAre ys.toList ms)
  (q:Q (HT.lexLt ns ms) s):wpAny (model prog w) A (keyLt' (tuples' b) (.ref x) (.ref y)) Q E s :=
 PySem.W.kat_lt hx dx hy dy (katlex_ints 0 hi hj (by simp) q)
noncomputable def outP (vs:List Value) (p:Array Nat):Array Value:=(p.toList.map fun i=>vs.getD i Value.none).toArray
theorem zip_out {vs:List Value} (h:vs.length < 2):(vs.toArray.zip vs.toArray).map (·.2)=outP vs (List.range vs.length).toArray:=by
 cases vs with
 | nil=>simp [outP]
 | cons v t =>
  cases t with
  | nil=>simp [outP]
  | cons u t=>exact absurd h (Nat.not_lt.mpr (Nat.le_add_left 2 t.length))
theorem list_sortT {a:Addr} {vs:List Value} {nss:List (List Int)} {c:Nat} {P:PySem.Fin->Shared->Prop} (ho:s.heap.get? a=some (seqObj "list" vs.toArray c)) (ht:TupsAt s.heap vs nss) (h64:vs.length < 64)
  (h:∀ p:Array Nat,Pm vs.length p->Up (O:=lexO) (fun i=>nss.getD i []) p vs.length->P (.done (.ret .none)) { s with heap:=sortedHeap s.heap a vs (outP vs p) }) :
  wpAny (model prog w) A (Builtin.«list.sort» ⟨[.ref a],[]⟩) P E s:=by
 have hlt:a < s.heap.objs.size:=Heap.lt_size ho
 have hz:vs.length <= sizeLine:=by rw [sizeLine_eq]; omega
 obtain ⟨e1,ho1⟩:∃ e1,(s.heap.update a (Obj.mapSeq fun _=>(#[]:Array Value))).get? a=some (seqObj "list" #[] e1):=⟨_,get?_update_seq ho fun _=>#[]⟩
 have keep:∀ x o,s.heap.get? x=some o->o.cls = .type "tuple"->(((s.heap.update a (Obj.mapSeq fun _=>(#[]:Array Value))).push (seqObj "tuple" vs.toArray 0)).push (seqObj "list" #[] 0)).get? x=some o:=fun x o e q=>by
  have hxa:x ≠ a:=fun z=>by
   subst z
   rw [ho] at e
   cases e
   exact absurd q (show ¬ (Value.type "list" = Value.type "tuple") by decide)
  refine Heap.get?_push_of_some _ (Heap.get?_push_of_some _ ?_)
  rw [Heap.get?_update_ne _ _ _ _ hxa]
  exact e
 have ho6:(((s.heap.update a (Obj.mapSeq fun _=>(#[]:Array Value))).push (seqObj "tuple" vs.toArray 0)).push (seqObj "list" #[] 0)).get? a=some (seqObj "list" #[] e1):=Heap.get?_push_of_some _ (Heap.get?_push_of_some _ ho1)
 have ht6:=ht.mono keep
 rw [list_sort_plain]
 refine wpAny_bind (listItems_at ho rfl (wpAny_bind (listUpdate_at ho rfl ?_ (by rw [List.size_toArray]; exact hz) (Nat.zero_le _))))
 refine wpAny_bind (seqEpoch_at ho1 rfl (wpAny_bind (wpAny_newTuple ?_ (by show vs.length <= _; exact hz))))
 refine wpAny_bind (wpAny_newList (wpAny_holding ?_) (Nat.zero_le _))
 show wpAny (model prog w) A _ P E { s with heap:=((s.heap.update a (Obj.mapSeq fun _=>(#[]:Array Value))).push (seqObj "tuple" vs.toArray 0)).push (seqObj "list" #[] 0) }
 dsimp only
 have hsz:∀ p:Array Nat,Pm vs.length p->(outP vs p).size=vs.length:=fun p a1=>by unfold outP; rw [List.size_toArray,List.length_map,Array.length_toList,a1.sz]
 by_cases h2:vs.toArray.size < 2
 ·rw [if_pos h2,if_pos h2]
  refine wpAny_bind (wpAny_pure ?_)
  rw [StateT.run_pure]
  refine wpAny_bind (wpAny_pure ?_)
  have h2':vs.length < 2:=by simpa using h2
  have a1:Pm vs.length (List.range vs.length).toArray:=Array.Perm.refl _
  have a3:=zip_out h2'
  dsimp only
  refine wpAny_bind (seqEpoch_at ho6 rfl ?_)
  show wpAny (model prog w) A (Builtin.List.listUpdate (.ref a) (fun _=>(vs.toArray.zip vs.toArray).map (·.2)) >>= _) P E _
  rw [a3]
  refine wpAny_bind (listUpdate_at ho6 rfl ?_ (Nat.zero_le _) (by show (outP vs _).size <= _; rw [hsz _ a1]; omega))
  simp only [bne_self_eq_false,Bool.false_eq_true,if_false]
  exact wpAny_pure (h _ a1 fun i j hij hj=>by rw [show i=j by omega]; exact lx_irr _)
 ·rw [if_neg h2,if_neg h2]
  have h2':2 <= vs.length:=Nat.le_of_not_lt (show ¬ vs.length < 2 by simpa using h2)
  obtain ⟨fs,f1,f2,f3⟩:=ht6.firsts
  refine wpAny_bind (PySem.W.kat_kind (T:=.type "int") f1 (by omega) (fun v hv=>?_) (by decide) ?_)
  ·obtain ⟨n,t,rfl⟩:=f3 v hv
   exact PySem.W.Looks.now
  rw [show (Value.type "int" != Value.type "tuple")=true by decide]
  refine wpAny_bind (wpAny_mono (PySem.W.kat_run (κ:=tuples' true) (ks:=vs) (vs:=vs) (Q:=fun st s'=>s'={ s with heap:=((s.heap.update a (Obj.mapSeq fun _=>(#[]:Array Value))).push (seqObj "tuple" vs.toArray 0)).push (seqObj "list" #[] 0) }/\∃ p:Array Nat,Pm vs.length p/\Up (O:=lexO) (fun i=>nss.getD i []) p vs.length/\(arrOf st).map (·.2)=outP vs p/\failedOf st=none)
   (G:=fun p s'=>s'={ s with heap:=((s.heap.update a (Obj.mapSeq fun _=>(#[]:Array Value))).push (seqObj "tuple" vs.toArray 0)).push (seqObj "list" #[] 0) }/\Pm vs.length p/\Up (O:=lexO) (fun i=>nss.getD i []) p vs.length)
   rfl h2' h64 (fun p st s' _ b2 b3 b4=>⟨b4.1,p,b4.2.1,b4.2.2,PySem.W.kat_snds rfl b2,b3⟩) ?_) (fun r s' hr=>?_) fun _ _ e=>e)
  ·refine wp_of_wr (O:=lexO) (kz:=fun i=>nss.getD i []) (n:=vs.length) (I:=fun s'=>s'={ s with heap:=((s.heap.update a (Obj.mapSeq fun _=>(#[]:Array Value))).push (seqObj "tuple" vs.toArray 0)).push (seqObj "list" #[] 0) }) (fun i j C s' hI hi hj hC=>?_) _ _ rfl (wr_sort (by omega) fun p a1 a2 s' hs'=>⟨hs',a1,a2⟩)
   subst hI
   unfold PySem.W.kas_ask
   obtain ⟨x,ox,xs,kx,x1,x2,_,x4,x5,_⟩:=ht6.at hi
   obtain ⟨y,oy,ys,ky,y1,y2,_,y4,y5,_⟩:=ht6.at hj
   rw [x1,y1]
   exact keyLt_tups x2 x4 y2 y4 x5 y5 (hC _ rfl)
  ·obtain ⟨⟨⟩,st⟩:=r
   obtain ⟨e,p,b1,b2,b3,b4⟩:=hr
   subst e
   refine wpAny_bind (seqEpoch_at ho6 rfl ?_)
   rw [b3,b4]
   refine wpAny_bind (listUpdate_at ho6 rfl ?_ (Nat.zero_le _) (by show (outP vs p).size <= _; rw [hsz p b1]; omega))
   simp only [bne_self_eq_false,Bool.false_eq_true,if_false]
   exact wpAny_pure (h p b1 b2)
end
end VL
namespace VL
open PySem
theorem sub_len {α:Type} [BEq α] [LawfulBEq α]:∀ {l l':List α},l.Nodup->(∀ x ∈ l,x ∈ l')->l.length <= l'.length
 | [],_,_,_=>Nat.zero_le _
 | x :: l,l',nd,h=>by
  have hx:x ∈ l':=h x List.mem_cons_self
  have ih:=sub_len (l:=l) (l':=l'.erase x) (List.nodup_cons.mp nd).2 fun y hy=>(List.mem_erase_of_ne fun e=>by subst e; exact (List.nodup_cons.mp nd).1 hy).mpr (h y (List.mem_cons_of_mem _ hy))
  rw [List.length_erase_of_mem hx] at ih
  have:0 < l'.length:=List.length_pos_of_mem hx
  rw [List.length_cons]
  omega
noncomputable def Ris (xs:Array Nat):Prop:=∀ i j,i < j->j < xs.size->xs.getD i 0 < xs.getD j 0
theorem belowGo {xs:Array Nat} {j:Nat} (hr:Ris xs):∀ (f lo hi:Nat),lo <= hi->hi <= xs.size->hi - lo <= f->(∀ i,i < lo->xs.getD i 0 < j)->(∀ i,hi <= i->i < xs.size->j <= xs.getD i 0) ->
  SetTable.below.go xs j f lo hi <= xs.size/\(∀ i,i < SetTable.below.go xs j f lo hi->xs.getD i 0 < j)/\∀ i,SetTable.below.go xs j f lo hi <= i->i < xs.size->j <= xs.getD i 0
 | 0,lo,hi,h1,h2,h3,h4,h5=>by
  have e:lo=hi:=by omega
  subst e
  exact ⟨h2,h4,h5⟩
 | f + 1,lo,hi,h1,h2,h3,h4,h5=>by
  unfold SetTable.below.go
  by_cases hl:lo < hi
  ·rw [if_pos hl]
   dsimp only
   have hm:(lo + hi) / 2 < xs.size:=by omega
   have e:xs.getD ((lo + hi) / 2) j=xs.getD ((lo + hi) / 2) 0:=by simp [Array.getD,hm]
   rw [e]
   by_cases hc:xs.getD ((lo + hi) / 2) 0 < j
   ·rw [if_pos hc]
    refine belowGo hr f _ hi (by omega) h2 (by omega) (fun i hi'=>?_) h5
    by_cases q:i=(lo + hi) / 2
    ·rw [q]; exact hc
    ·exact Nat.lt_trans (hr i ((lo + hi) / 2) (by omega) hm) hc
   ·rw [if_neg hc]
    refine belowGo hr f lo _ (by omega) (by omega) (by omega) h4 fun i q1 q2=>?_
    by_cases q:i=(lo + hi) / 2
    ·rw [q]; omega
    ·have:=hr ((lo + hi) / 2) i (by omega) q2
     omega
  ·rw [if_neg hl]
   have e:lo=hi:=by omega
   subst e
   exact ⟨h2,h4,h5⟩
theorem below_is {xs:Array Nat} (hr:Ris xs) (j:Nat):SetTable.below xs j <= xs.size/\(∀ i,i < SetTable.below xs j->xs.getD i 0 < j)/\∀ i,SetTable.below xs j <= i->i < xs.size->j <= xs.getD i 0 :=
 belowGo hr xs.size 0 xs.size (Nat.zero_le _) (Nat.le_refl _) (by omega) (fun i h=>by omega) fun i h1 h2=>by omega
structure TbOk (t:SetTable) (n:Nat):Prop where
 dum:t.dummies = #[]
 siz:t.place.size=n
 ris:Ris t.place
 top:∀ i,i < n->t.place.getD i 0 <= t.mask
 msk:t.mask=7/\n < 5\/t.mask=31/\n < 19\/t.mask=127/\n < 77
 pla:t.plain=true
theorem TbOk.fresh (led:Bool):TbOk (SetTable.fresh 0 0 led) 0:=⟨rfl,rfl,fun i j _ h=>by simp [SetTable.fresh] at h,fun i h=>by omega,.inl ⟨rfl,by omega⟩,rfl⟩
theorem TbOk.few {t:SetTable} {n:Nat} (h:TbOk t n):n < t.mask:=by
 rcases h.msk with ⟨e,l⟩ | ⟨e,l⟩ | ⟨e,l⟩ <;> omega
theorem TbOk.fill {t:SetTable} {n:Nat} (h:TbOk t n):t.fill=n:=by unfold SetTable.fill; rw [h.dum,h.siz]; rfl
theorem TbOk.fits {t:SetTable} {n:Nat} (h:TbOk t n):t.fits n=true:=by
 unfold SetTable.fits
 rw [h.fill,h.siz]
 have:=h.few
 simp
 omega
theorem slot_or {t:SetTable} {n:Nat} (h:TbOk t n) (j:Nat):t.slot j = .empty\/∃ i,i < n/\t.slot j = .live i/\t.place.getD i 0=j:=by
 unfold SetTable.slot
 dsimp only
 by_cases e:(t.place[SetTable.below t.place j]? == some j)=true
 ·rw [if_pos e]
  have e':=beq_iff_eq.mp e
  obtain ⟨h1,h2⟩:=Array.getElem?_eq_some_iff.mp e'
  exact .inr ⟨_,by rw [<- h.siz]; exact h1,rfl,by simp [Array.getD,h1,h2]⟩
 ·rw [if_neg e]
  have:SetTable.has t.dummies j=false:=by rw [h.dum]; unfold SetTable.has; simp
  rw [this]
  exact .inl (by simp)
theorem slot_not {t:SetTable} {n:Nat} (h:TbOk t n) {j:Nat} (e:t.slot j = .empty):∀ i,i < n->t.place.getD i 0 ≠ j:=by
 intro i hi q
 obtain ⟨b1,b2,b3⟩:=below_is h.ris j
 have hb:SetTable.below t.place j=i:=by
  rcases Nat.lt_trichotomy (SetTable.below t.place j) i with z | z | z
  ·have z1:=b3 _ (Nat.le_refl _) (by rw [h.siz]; omega)
   have z2:=h.ris _ i z (by rw [h.siz]; exact hi)
   omega
  ·exact z
  ·have:=b2 i z
   omega
 have hi':i < t.place.size:=by rw [h.siz]; exact hi
 have e2:t.place[i]? = some j:=by rw [Array.getElem?_eq_some_iff]; exact ⟨hi',by rw [<- q]; simp [Array.getD,hi']⟩
 unfold SetTable.slot at e
 dsimp only at e
 rw [hb,e2] at e
 simp at e
noncomputable def legs (mask:Nat):Nat->Nat × Nat->Nat × Nat
 | 0,st=>st
 | k + 1,st=>legs mask k (SetTable.leap mask st.1 st.2)
theorem legs_snd (mask:Nat):∀ (k:Nat) (st:Nat × Nat),(legs mask k st).2=st.2 / 32 ^ k
 | 0,st=>by simp [legs]
 | k + 1,st=>by
  show (legs mask k (SetTable.leap mask st.1 st.2)).2=_
  rw [legs_snd mask k]
  show st.2 / 32 / 32 ^ k=_
  rw [Nat.div_div_eq_div_mul,Nat.pow_succ,Nat.mul_comm]
theorem legs_add (mask:Nat):∀ (j k:Nat) (st:Nat × Nat),legs mask (j + k) st=legs mask k (legs mask j st)
 | 0,k,st=>by rw [Nat.zero_add]; rfl
 | j + 1,k,st=>by
  rw [show j + 1 + k=(j + k) + 1 by omega]
  exact legs_add mask j k _
noncomputable def orb (M:Nat):Nat->Nat->Nat
 | 0,i=>i
 | k + 1,i=>orb M k ((i * 5 + 1) % M)
theorem orb_add (M:Nat):∀ (j k i:Nat),orb M (j + k) i=orb M k (orb M j i)
 | 0,k,i=>by rw [Nat.zero_add]; rfl
 | j + 1,k,i=>by
  rw [show j + 1 + k=(j + k) + 1 by omega]
  exact orb_add M j k _
theorem legs_orb (mask:Nat):∀ (k i:Nat),legs mask k (i,0)=(orb (mask + 1) k i,0)
 | 0,i=>rfl
 | k + 1,i=>by
  show legs mask k (SetTable.leap mask i 0)=_
  have:SetTable.leap mask i 0=((i * 5 + 1) % (mask + 1),0):=by simp [SetTable.leap]
  rw [this]
  exact legs_orb mask k _
theorem orb_lists:∀ M ∈ [8,32,128],(∀ t ∈ List.range M,∃ k ∈ List.range M,orb M k 0=t)/\orb M M 0=0:=by decide +kernel
theorem orb_all {mask:Nat} (hm:mask=7\/mask=31\/mask=127) {i t:Nat} (hi:i <= mask) (ht:t <= mask):∃ k,k <= mask/\orb (mask + 1) k i=t:=by
 have hM:mask + 1 ∈ [8,32,128]:=by rcases hm with e | e | e <;> subst e <;> decide
 obtain ⟨h1,h2⟩:=orb_lists _ hM
 obtain ⟨a,ha,ea⟩:=h1 i (by simp; omega)
 obtain ⟨b,hb,eb⟩:=h1 t (by simp; omega)
 simp only [List.mem_range] at ha hb
 by_cases hab:a <= b
 ·refine ⟨b - a,by omega,?_⟩
  rw [<- ea,<- orb_add,show a + (b - a)=b by omega,eb]
 ·refine ⟨mask + 1 - a + b,by omega,?_⟩
  rw [<- ea,<- orb_add,show a + (mask + 1 - a + b)=(mask + 1) + b by omega,orb_add,h2,eb]
theorem bits_lt (h:Int):SetTable.bits h < 2 ^ 64:=by
 unfold SetTable.bits
 have h1:=Int.emod_nonneg h (show (2 ^ 64:Int) ≠ 0 by decide)
 have h2:=Int.emod_lt_of_pos h (show (0:Int) < 2 ^ 64 by decide)
 omega
theorem legs_all {mask:Nat} (hm:mask=7\/mask=31\/mask=127) (h:Int) {t:Nat} (ht:t <= mask) (i₀:Nat):∃ k,k < mask + 15/\(legs mask k (i₀,SetTable.bits h)).1=t:=by
 have e1:(legs mask 13 (i₀,SetTable.bits h)).2=0:=by
  rw [legs_snd]
  have:=bits_lt h
  exact Nat.div_eq_of_lt (Nat.lt_trans this (by decide))
 have e2:(legs mask 13 (i₀,SetTable.bits h)).1 <= mask:=by
  show (legs mask 12 (SetTable.leap mask i₀ (SetTable.bits h))).1 <= mask
  have go:∀ k (st:Nat × Nat),st.1 <= mask->(legs mask k st).1 <= mask:=by
   intro k
   induction k with
   | zero=>intro st q; exact q
   | succ k ih =>
    intro st q
    refine ih _ ?_
    show (st.1 * 5 + 1 + st.2 / 32) % (mask + 1) <= mask
    exact Nat.le_of_lt_succ (Nat.mod_lt _ (Nat.succ_pos _))
  refine go 12 _ ?_
  show (i₀ * 5 + 1 + SetTable.bits h / 32) % (mask + 1) <= mask
  exact Nat.le_of_lt_succ (Nat.mod_lt _ (Nat.succ_pos _))
 obtain ⟨k,hk,ek⟩:=orb_all hm e2 ht
 refine ⟨13 + k,by omega,?_⟩
 rw [legs_add]
 have e3:legs mask 13 (i₀,SetTable.bits h)=((legs mask 13 (i₀,SetTable.bits h)).1,0):=by rw [<- e1]
 rw [e3,legs_orb]
 exact ek
theorem runEnd_le {mask i:Nat} (hi:i <= mask):i <= SetTable.runEnd mask i/\SetTable.runEnd mask i <= mask/\SetTable.runEnd mask i <= i + 9:=by
 unfold SetTable.runEnd
 split <;> omega
section
variable {t:SetTable} {n:Nat} {hashAt:Nat->Int} {h:Int}
noncomputable abbrev runAt (t:SetTable) (i pert:Nat):SetTable.Probe:={ j:=i,more:=SetTable.runEnd t.mask i - i,i:=i,perturb:=pert,dummy:=none }
theorem go_one (fuel:Nat) (p:SetTable.Probe):SetTable.probe.go t hashAt h (fuel + 1) p=(match t.slot p.j with
  | .empty=>some (.empty p.j p.dummy)
  | .dummy=>SetTable.probe.go t hashAt h fuel (t.advance { p with dummy:=some p.j })
  | .live i=>if hashAt i == h then some (.candidate p.j i (t.advance p)) else SetTable.probe.go t hashAt h fuel (t.advance p)):=rfl
theorem go_run (T:TbOk t n) (hh:∀ i,i < n->hashAt i ≠ h):∀ (m fuel:Nat) (p:SetTable.Probe),p.more=m->p.dummy=none ->
  (∃ j,p.j <= j/\j <= p.j + m/\t.slot j = .empty/\SetTable.probe.go t hashAt h (fuel + m + 1) p=some (.empty j none)) \/
  (t.slot p.j ≠ .empty/\SetTable.probe.go t hashAt h (fuel + m + 1) p=SetTable.probe.go t hashAt h fuel (runAt t (SetTable.leap t.mask p.i p.perturb).1 (SetTable.leap t.mask p.i p.perturb).2))
 | 0,fuel,p,hm,hd=>by
  rw [show fuel + 0 + 1=fuel + 1 from rfl,go_one]
  rcases slot_or T p.j with e | ⟨i,hi,e,_⟩
  ·rw [e]
   exact .inl ⟨p.j,Nat.le_refl _,Nat.le_refl _,e,by rw [hd]⟩
  ·rw [e]
   right
   refine ⟨by simp,?_⟩
   dsimp only
   rw [if_neg (by simpa using hh i hi)]
   congr 1
   unfold SetTable.advance
   rw [if_neg (by omega)]
   simp [runAt,hd]
 | m + 1,fuel,p,hm,hd=>by
  rw [go_one]
  rcases slot_or T p.j with e | ⟨i,hi,e,_⟩
  ·rw [e]
   exact .inl ⟨p.j,Nat.le_refl _,by omega,e,by rw [hd]⟩
  ·rw [e]
   dsimp only
   rw [if_neg (by simpa using hh i hi)]
   have ha:t.advance p={ p with j:=p.j + 1,more:=p.more - 1 }:=by
    unfold SetTable.advance
    rw [if_pos (by omega)]
   rw [ha]
   rcases go_run T hh m fuel { p with j:=p.j + 1,more:=p.more - 1 } (by show p.more - 1=m; omega) hd with ⟨j,q1,q2,q3,q4⟩ | ⟨q1,q2⟩
   ·exact .inl ⟨j,by show p.j <= j; have:p.j + 1 <= j:=q1; omega,by have:j <= p.j + 1 + m:=q2; omega,q3,q4⟩
   ·exact .inr ⟨by simp,q2⟩
theorem go_runs (T:TbOk t n) (hh:∀ i,i < n->hashAt i ≠ h):∀ (N fuel i pert:Nat),i <= t.mask->10 * N <= fuel ->
  (∃ j,j <= t.mask/\t.slot j = .empty/\SetTable.probe.go t hashAt h fuel (runAt t i pert)=some (.empty j none))\/∀ k,k < N->t.slot (legs t.mask k (i,pert)).1 ≠ .empty
 | 0,fuel,i,pert,hi,hf=>.inr fun k hk=>by omega
 | N + 1,fuel,i,pert,hi,hf=>by
  obtain ⟨r1,r2,r3⟩:=runEnd_le hi
  obtain ⟨f',rfl⟩:∃ f',fuel=f' + (SetTable.runEnd t.mask i - i) + 1:=⟨fuel - (SetTable.runEnd t.mask i - i) - 1,by omega⟩
  rcases go_run T hh (SetTable.runEnd t.mask i - i) f' (runAt t i pert) rfl rfl with ⟨j,q1,q2,q3,q4⟩ | ⟨q1,q2⟩
  ·exact .inl ⟨j,by have:j <= i + (SetTable.runEnd t.mask i - i):=q2; omega,q3,q4⟩
  ·have hl:(SetTable.leap t.mask i pert).1 <= t.mask:=Nat.le_of_lt_succ (Nat.mod_lt _ (Nat.succ_pos _))
   rcases go_runs T hh N f' _ (SetTable.leap t.mask i pert).2 hl (by omega) with ⟨j,s1,s2,s3⟩ | s
   ·exact .inl ⟨j,s1,s2,q2.trans s3⟩
   ·right
    intro k hk
    cases k with
    | zero=>exact q1
    | succ k=>exact s k (by omega)
theorem TbOk.mask3 (T:TbOk t n):t.mask=7\/t.mask=31\/t.mask=127:=by
 rcases T.msk with ⟨e,_⟩ | ⟨e,_⟩ | ⟨e,_⟩
 ·exact .inl e
 ·exact .inr (.inl e)
 ·exact .inr (.inr e)
theorem probe_free (T:TbOk t n) (hh:∀ i,i < n->hashAt i ≠ h):∃ j,j <= t.mask/\t.slot j = .empty/\t.probe hashAt h (t.probeStart h)=some (.empty j none):=by
 have hs:SetTable.bits h % (t.mask + 1) <= t.mask:=Nat.le_of_lt_succ (Nat.mod_lt _ (Nat.succ_pos _))
 rcases go_runs T hh (t.mask + 15) (10 * SetTable.turns t.mask) _ (SetTable.bits h) hs (by unfold SetTable.turns; omega) with z | z
 ·exact z
 ·exfalso
  have hall:∀ x ∈ List.range (t.mask + 1),x ∈ t.place.toList:=by
   intro x hx
   simp only [List.mem_range] at hx
   obtain ⟨k,hk,ek⟩:=legs_all T.mask3 h (t:=x) (by omega) (SetTable.bits h % (t.mask + 1))
   have:=z k hk
   rw [ek] at this
   rcases slot_or T x with e | ⟨i,hi,_,e⟩
   ·exact absurd e this
   ·rw [<- e]
    have hi':i < t.place.size:=by rw [T.siz]; exact hi
    rw [show t.place.getD i 0=t.place[i] by simp [Array.getD,hi']]
    exact Array.getElem_mem_toList hi'
  have:=sub_len List.nodup_range hall
  have h2:=T.few
  rw [List.length_range,Array.length_toList,T.siz] at this
  omega
end
end VL
namespace VL
open PySem
theorem ins_get {α:Type} (xs:Array α) (p:Nat) (x d:α) (hp:p <= xs.size) (i:Nat):(SetTable.insertAt xs p x).getD i d=if i < p then xs.getD i d else if i=p then x else xs.getD (i - 1) d:=by
 have e:∀ (ys:Array α) i,ys.getD i d=(ys.toList[i]?).getD d:=fun ys i=>by rw [Array.getD_eq_getD_getElem?,Array.getElem?_toList]
 rw [e,e,e,SetTable.toList_insertAt]
 have hl:p <= xs.toList.length:=by simpa using hp
 by_cases h1:i < p
 ·rw [if_pos h1,List.getElem?_append_left (by rw [List.length_take]; omega),List.getElem?_take,if_pos h1]
 ·rw [if_neg h1,List.getElem?_append_right (by rw [List.length_take]; omega),List.length_take,Nat.min_eq_left hl]
  by_cases h2:i=p
  ·rw [if_pos h2,h2,Nat.sub_self]
   rfl
  ·rw [if_neg h2,show i - p=(i - p - 1) + 1 by omega,List.getElem?_cons_succ,List.getElem?_drop]
   congr 2
   omega
theorem ins_size {α:Type} (xs:Array α) (p:Nat) (x:α):(SetTable.insertAt xs p x).size=xs.size + 1:=by
 rw [<- Array.length_toList,(SetTable.insertAt_perm xs p x).length_eq,Array.toList_push]
 simp
theorem tooFull_iff {t:SetTable} {n:Nat} (hf:t.fill=n):t.tooFull=decide (t.mask * 3 <= n * 5):=by unfold SetTable.tooFull; rw [hf]
structure TbPut (t:SetTable) (n:Nat):Prop where
 dum:t.dummies = #[]
 siz:t.place.size=n
 ris:Ris t.place
 top:∀ i,i < n->t.place.getD i 0 <= t.mask
 msk:t.mask=7/\n <= 5\/t.mask=31/\n <= 19\/t.mask=127/\n < 77
 pla:t.plain=true
theorem TbPut.fill {t:SetTable} {n:Nat} (h:TbPut t n):t.fill=n:=by unfold SetTable.fill; rw [h.dum,h.siz]; rfl
theorem TbPut.fits {t:SetTable} {n:Nat} (h:TbPut t n):t.fits n=true:=by
 unfold SetTable.fits
 rw [h.fill,h.siz]
 have:=h.msk
 simp
 omega
theorem put_ok {t:SetTable} {n j:Nat} (T:TbOk t n) (h64:n < 63) (hj:j <= t.mask) (he:t.slot j = .empty):TbPut (t.put j).1 (n + 1)/\(t.put j).2=SetTable.below t.place j/\(t.put j).2 <= n/\(t.put j).1.mask=t.mask/\(t.put j).1.led=t.led:=by
 have hno:=slot_not T he
 obtain ⟨b1,b2,b3⟩:=below_is T.ris j
 have hsz:=T.siz
 have hg:=ins_get t.place (SetTable.below t.place j) j 0 b1
 refine ⟨⟨?_,?_,?_,?_,?_,T.pla⟩,rfl,by rw [<- hsz]; exact b1,rfl,rfl⟩
 ·show (if SetTable.has t.dummies j then SetTable.eraseAt t.dummies (SetTable.below t.dummies j) else t.dummies) = #[]
  rw [T.dum]
  have:SetTable.has #[] j=false:=by unfold SetTable.has; simp
  rw [this]
  rfl
 ·show (SetTable.insertAt t.place _ j).size=n + 1
  rw [ins_size,hsz]
 ·intro a b hab hb
  have hb':b < n + 1:=by
   have:b < (SetTable.insertAt t.place (SetTable.below t.place j) j).size:=hb
   rw [ins_size,hsz] at this
   exact this
  show (SetTable.insertAt t.place (SetTable.below t.place j) j).getD a 0 < (SetTable.insertAt t.place (SetTable.below t.place j) j).getD b 0
  rw [hg,hg]
  by_cases a1:a < SetTable.below t.place j
  ·rw [if_pos a1]
   by_cases c1:b < SetTable.below t.place j
   ·rw [if_pos c1]; exact T.ris a b hab (by omega)
   ·rw [if_neg c1]
    by_cases c2:b=SetTable.below t.place j
    ·rw [if_pos c2]; exact b2 a a1
    ·rw [if_neg c2]
     exact T.ris a (b - 1) (by omega) (by omega)
  ·rw [if_neg a1,if_neg (show ¬ b < SetTable.below t.place j by omega),if_neg (show ¬ b=SetTable.below t.place j by omega)]
   by_cases a2:a=SetTable.below t.place j
   ·rw [if_pos a2]
    have q1:=b3 (b - 1) (by omega) (by omega)
    have q2:=hno (b - 1) (by omega)
    omega
   ·rw [if_neg a2]
    exact T.ris (a - 1) (b - 1) (by omega) (by omega)
 ·intro i hi
  show (SetTable.insertAt t.place (SetTable.below t.place j) j).getD i 0 <= t.mask
  rw [hg]
  split
  ·exact T.top i (by omega)
  ·split
   ·exact hj
   ·exact T.top (i - 1) (by omega)
 ·have:=T.msk
  show t.mask=7/\n + 1 <= 5\/t.mask=31/\n + 1 <= 19\/t.mask=127/\n + 1 < 77
  omega
theorem TbPut.still {t:SetTable} {n:Nat} (h:TbPut t n) (hf:t.tooFull=false):TbOk t n:=by
 rw [tooFull_iff h.fill] at hf
 simp only [decide_eq_false_iff_not] at hf
 refine ⟨h.dum,h.siz,h.ris,h.top,?_,h.pla⟩
 rcases h.msk with ⟨e,l⟩ | ⟨e,l⟩ | ⟨e,l⟩ <;> rw [e] at hf
 ·exact .inl ⟨e,by omega⟩
 ·exact .inr (.inl ⟨e,by omega⟩)
 ·exact .inr (.inr ⟨e,by omega⟩)
theorem TbPut.full {t:SetTable} {n:Nat} (h:TbPut t n) (h64:n <= 63) (hf:t.tooFull=true):n=5\/n=19:=by
 rw [tooFull_iff h.fill] at hf
 simp only [decide_eq_true_eq] at hf
 have:=h.msk
 omega
noncomputable def heldBy (owner:Array (Option Nat)):List Nat:=owner.toList.filterMap id
theorem held_set:∀ (l:List (Option Nat)) (j x:Nat),l[j]? = some none->((l.set j (some x)).filterMap id).Perm (x :: l.filterMap id)
 | [],j,x,h=>by simp at h
 | a :: l,0,x,h=>by
  simp at h
  subst h
  exact List.Perm.refl _
 | none :: l,j + 1,x,h=>by
  have ih:=held_set l j x (by simpa using h)
  simpa using ih
 | some a :: l,j + 1,x,h=>by
  have ih:=held_set l j x (by simpa using h)
  have:(((some a :: l).set (j + 1) (some x)).filterMap id).Perm (a :: x :: l.filterMap id):=by
   simpa using ih.cons a
  exact this.trans (List.Perm.swap _ _ _)
theorem held_full:∀ (l:List (Option Nat)),(∀ j,j < l.length->∃ x,l[j]? = some (some x))->(l.filterMap id).length=l.length
 | [],_=>rfl
 | a :: l,h=>by
  obtain ⟨x,e⟩:=h 0 (by simp)
  have ex:a=some x:=by simpa using e
  subst ex
  have ih:=held_full l fun j hj=>by simpa using h (j + 1) (by simpa using hj)
  simp [ih]
theorem free_or {mask:Nat} {owner:Array (Option Nat)} (ho:owner.size=mask + 1):∀ (N i pert:Nat),i <= mask ->
  (∃ j,owner.toList[j]? = some none/\SetTable.layClean.free mask owner N i pert=some j)\/∀ k,k < N->∃ x,owner.toList[(legs mask k (i,pert)).1]? = some (some x)
 | 0,i,pert,hi=>.inr fun k hk=>by omega
 | N + 1,i,pert,hi=>by
  obtain ⟨r1,r2,r3⟩:=runEnd_le hi
  have hone:SetTable.layClean.free mask owner (N + 1) i pert=(match (List.range (SetTable.runEnd mask i + 1 - i)).find? fun k=>(owner.getD (i + k) (some 0)).isNone with
   | some k=>some (i + k)
   | none=>SetTable.layClean.free mask owner N (SetTable.leap mask i pert).1 (SetTable.leap mask i pert).2):=rfl
  rw [hone]
  cases hf:(List.range (SetTable.runEnd mask i + 1 - i)).find? fun k=>(owner.getD (i + k) (some 0)).isNone with
  | some k =>
   left
   have h1:=List.mem_of_find?_eq_some hf
   have h2:=List.find?_some hf
   simp only [List.mem_range] at h1
   have hlt:i + k < owner.size:=by omega
   refine ⟨i + k,?_,rfl⟩
   have e:owner.getD (i + k) (some 0)=owner[i + k]:=by simp [Array.getD,hlt]
   rw [e] at h2
   rw [Array.getElem?_toList,Array.getElem?_eq_some_iff]
   exact ⟨hlt,by simpa using h2⟩
  | none =>
   have h0:=List.find?_eq_none.mp hf 0 (by simp; omega)
   have hlt:i < owner.size:=by omega
   have e:owner.getD (i + 0) (some 0)=owner[i]:=by simp [Array.getD,hlt]
   rw [e] at h0
   have hl:(SetTable.leap mask i pert).1 <= mask:=Nat.le_of_lt_succ (Nat.mod_lt _ (Nat.succ_pos _))
   rcases free_or ho N _ (SetTable.leap mask i pert).2 hl with ⟨j,s1,s2⟩ | s
   ·exact .inl ⟨j,s1,s2⟩
   ·right
    intro k hk
    cases k with
    | zero =>
     show ∃ x,owner.toList[i]? = some (some x)
     rw [Array.getElem?_toList]
     cases q:owner[i] with
     | none=>rw [q] at h0; simp at h0
     | some x=>exact ⟨x,by rw [Array.getElem?_eq_some_iff]; exact ⟨hlt,q⟩⟩
    | succ k=>exact s k (by omega)
theorem free_some {mask:Nat} (hm:mask=7\/mask=31\/mask=127) {owner:Array (Option Nat)} (ho:owner.size=mask + 1) (hfew:(heldBy owner).length < mask + 1) (h:Int) :
  ∃ j,owner.toList[j]? = some none/\SetTable.layClean.free mask owner (SetTable.turns mask) (SetTable.bits h % (mask + 1)) (SetTable.bits h)=some j:=by
 rcases free_or ho (SetTable.turns mask) _ (SetTable.bits h) (Nat.le_of_lt_succ (Nat.mod_lt (SetTable.bits h) (Nat.succ_pos mask))) with z | z
 ·exact z
 ·exfalso
  have:=held_full owner.toList fun j hj=>by
   rw [Array.length_toList,ho] at hj
   obtain ⟨k,hk,ek⟩:=legs_all hm h (t:=j) (by omega) (SetTable.bits h % (mask + 1))
   obtain ⟨x,e⟩:=z k (by unfold SetTable.turns; omega)
   rw [ek] at e
   exact ⟨x,e⟩
  unfold heldBy at hfew
  rw [this,Array.length_toList] at hfew
  omega
noncomputable def layStep (mask:Nat) (acc:Option (Array (Option Nat) × Nat)) (h:Int):Option (Array (Option Nat) × Nat):=do
 let (owner,k) <- acc
 let j <- SetTable.layClean.free mask owner (SetTable.turns mask) (SetTable.bits h % (mask + 1)) (SetTable.bits h)
 pure (owner.setIfInBounds j (some k),k + 1)
theorem lay_fold {mask:Nat} (hm:mask=7\/mask=31\/mask=127):∀ (hs:List Int) (owner:Array (Option Nat)) (k:Nat),owner.size=mask + 1->(heldBy owner).Perm (List.range k)->k + hs.length <= mask ->
  ∃ owner',hs.foldl (layStep mask) (some (owner,k))=some (owner',k + hs.length)/\owner'.size=mask + 1/\(heldBy owner').Perm (List.range (k + hs.length))
 | [],owner,k,ho,hp,hl=>⟨owner,rfl,ho,hp⟩
 | h :: hs,owner,k,ho,hp,hl=>by
  rw [List.length_cons] at hl
  obtain ⟨j,e1,e2⟩:=free_some hm ho (by rw [hp.length_eq,List.length_range]; omega) h
  have hst:layStep mask (some (owner,k)) h=some (owner.setIfInBounds j (some k),k + 1):=by
   unfold layStep
   simp [e2]
  rw [List.foldl_cons,hst]
  obtain ⟨o',f1,f2,f3⟩:=lay_fold hm hs (owner.setIfInBounds j (some k)) (k + 1) (by simpa using ho) (by
   unfold heldBy
   rw [Array.toList_setIfInBounds]
   refine (held_set owner.toList j k e1).trans ?_
   rw [List.range_succ]
   exact (List.Perm.cons k hp).trans (List.perm_append_singleton k _).symm) (by omega)
  refine ⟨o',?_,f2,?_⟩
  ·rw [f1,List.length_cons,show k + 1 + hs.length=k + (hs.length + 1) by omega]
  ·rw [List.length_cons,show k + (hs.length + 1)=k + 1 + hs.length by omega]
   exact f3
theorem held_rep (m:Nat):heldBy (Array.replicate m none)=[]:=by
 unfold heldBy
 rw [Array.toList_replicate]
 induction m with
 | zero=>rfl
 | succ m ih=>rw [List.replicate_succ]; simpa using ih
theorem layClean_ok {mask:Nat} (hm:mask=7\/mask=31\/mask=127) (hs:Array Int) (hl:hs.size <= mask):∃ owner,SetTable.layClean mask hs=some owner/\owner.size=mask + 1/\(heldBy owner).Perm (List.range hs.size):=by
 obtain ⟨o',f1,f2,f3⟩:=lay_fold hm hs.toList (Array.replicate (mask + 1) none) 0 (by simp) (by rw [held_rep]; exact List.Perm.refl _) (by simpa using hl)
 refine ⟨o',?_,f2,by simpa using f3⟩
 have e:SetTable.layClean mask hs=(hs.foldl (layStep mask) (some (Array.replicate (mask + 1) none,0))).map (·.1):=rfl
 rw [e,<- Array.foldl_toList,f1]
 rfl
noncomputable def liveOf (owner:Array (Option Nat)) (m:Nat):List (Nat × Nat):=(List.range m).filterMap fun j=>(owner.getD j none).map (j,·)
theorem live_snd:∀ (l:List (Option Nat)) (b:Nat) (f:Nat->Option Nat),(∀ i,i < l.length->f (b + i)=(l[i]?).getD none) ->
  ((List.range' b l.length).filterMap fun j=>(f j).map (j,·)).map (·.2)=l.filterMap id
 | [],_,_,_=>rfl
 | a :: l,b,f,h=>by
  have h0:=h 0 (by simp)
  simp at h0
  have ih:=live_snd l (b + 1) f fun i hi=>by
   have:=h (i + 1) (by simpa using hi)
   rw [show b + (i + 1)=b + 1 + i by omega] at this
   simpa using this
  rw [List.length_cons,List.range'_succ,List.filterMap_cons,h0]
  cases a with
  | none=>simpa using ih
  | some x=>simpa using ih
theorem liveOf_snd (owner:Array (Option Nat)):(liveOf owner owner.size).map (·.2)=heldBy owner:=by
 have:=live_snd owner.toList 0 (fun j=>owner.getD j none) fun i hi=>by
  rw [Nat.zero_add,Array.getD_eq_getD_getElem?,Array.getElem?_toList]
 unfold liveOf heldBy
 rw [List.range_eq_range',<- this,Array.length_toList]
theorem live_ris (f:Nat->Option Nat):∀ (m b:Nat),(((List.range' b m).filterMap fun j=>(f j).map (j,·)).map (·.1)).Pairwise (· < ·)/\∀ x ∈ ((List.range' b m).filterMap fun j=>(f j).map (j,·)).map (·.1),b <= x/\x < b + m
 | 0,b=>⟨.nil,fun x hx=>by simp at hx⟩
 | m + 1,b=>by
  obtain ⟨ih1,ih2⟩:=live_ris f m (b + 1)
  rw [List.range'_succ,List.filterMap_cons]
  cases hf:f b with
  | none =>
   simp only [Option.map_none]
   exact ⟨ih1,fun x hx=>by have:=ih2 x hx; omega⟩
  | some y =>
   simp only [Option.map_some,List.map_cons]
   refine ⟨List.pairwise_cons.mpr ⟨fun x hx=>by have:=ih2 x hx; omega,ih1⟩,fun x hx=>?_⟩
   rcases List.mem_cons.mp hx with e | hx
   ·omega
   ·have:=ih2 x hx
    omega
theorem ris_of {l:List Nat} (h:l.Pairwise (· < ·)):Ris l.toArray:=by
 intro i j hij hj
 have hj':j < l.length:=by simpa using hj
 have e:∀ k,k < l.length->l.toArray.getD k 0=l[k]!:=fun k hk=>by simp [Array.getD,hk]
 have:=List.pairwise_iff_getElem.mp h i j (by omega) hj' hij
 simp [Array.getD,hj',show i < l.length by omega]
 exact this
theorem relay_ok {t:SetTable} {n:Nat} (hp:t.plain=true) (hn:n=5\/n=19) (hs:Array Int) (hl:hs.size=n) :
  ∃ t' order,t.relaid hs (SetTable.grown n)=some (t',order)/\TbOk t' n/\t'.led=t.led/\order.toList.Perm (List.range n):=by
 have hm:∃ mask,SetTable.sizeAbove (SetTable.grown n) - 1=mask/\(mask=31/\n=5\/mask=127/\n=19):=by
  rcases hn with e | e <;> subst e
  ·exact ⟨31,by decide,.inl ⟨rfl,rfl⟩⟩
  ·exact ⟨127,by decide,.inr ⟨rfl,rfl⟩⟩
 obtain ⟨mask,em,hmn⟩:=hm
 have hm3:mask=7\/mask=31\/mask=127:=by omega
 obtain ⟨owner,o1,o2,o3⟩:=layClean_ok hm3 hs (by omega)
 have hsnd:=liveOf_snd owner
 obtain ⟨r1,r2⟩:=live_ris (fun j=>owner.getD j none) (mask + 1) 0
 rw [<- List.range_eq_range'] at r1 r2
 have hlen:((liveOf owner (mask + 1)).map (·.1)).length=n:=by
  rw [List.length_map,<- List.length_map (f:=(·.2)),<- o2,hsnd,o3.length_eq,List.length_range,hl]
 refine ⟨{ mask:=mask,place:=((liveOf owner (mask + 1)).map (·.1)).toArray,dummies:=#[],finger:=t.finger,led:=t.led,moves:=t.movedTo mask,plain:=t.plain },((liveOf owner (mask + 1)).map (·.2)).toArray,?_,⟨rfl,?_,ris_of r1,?_,?_,hp⟩,rfl,?_⟩
 ·unfold SetTable.relaid SetTable.laid
  rw [em,o1]
  rfl
 ·simpa using hlen
 ·intro i hi
  have hi':i < ((liveOf owner (mask + 1)).map (·.1)).length:=by rw [hlen]; exact hi
  show ((liveOf owner (mask + 1)).map (·.1)).toArray.getD i 0 <= mask
  have:((liveOf owner (mask + 1)).map (·.1)).toArray.getD i 0=((liveOf owner (mask + 1)).map (·.1))[i]:=by
   rw [Array.getD_eq_getD_getElem?,List.getElem?_toArray,List.getElem?_eq_getElem hi']
   rfl
  rw [this]
  have:=r2 _ (List.getElem_mem hi')
  omega
 ·show mask=7/\n < 5\/mask=31/\n < 19\/mask=127/\n < 77
  omega
 ·show ((liveOf owner (mask + 1)).map (·.2)).Perm (List.range n)
  rw [<- o2,hsnd,<- hl]
  exact o3
end VL
namespace VL
open PySem PySem.Spec PyProof.Rows L2
noncomputable abbrev setObj (es:Array (Int × Value)) (ep:Nat) (t:SetTable):Obj:={ cls:=.type "set",dict:=none,data:=.set es ep t }
noncomputable def SetT (h:Heap) (a:Addr) (es:Array (Int × Value)) (t:SetTable):Prop:=∃ ep,h.get? a=some (setObj es ep t)
structure TupAt (h:Heap) (x:Addr) (ns:List Int):Prop where
 ex:∃ o xs k,h.get? x=some o/\o.cls = .type "tuple"/\o.data = .seq xs k/\IntsAre xs.toList ns
theorem itemsAre_ints {prog:Program} {w:World}:∀ {vs:List Value} {ns:List Int},IntsAre vs ns->ItemsAre (intKind prog w) ns vs
 | _,_,.nil=>.nil
 | _,_,.cons n t r=>.cons (intKind_is _ _ n t) (itemsAre_ints r)
section
variable {prog:Program} {w:World} {A:Around} {E:Value->Shared->Prop} {s:Shared}
theorem hashByValue_ints {fuel:Nat}:∀ {vs:List Value} {ns:List Int},IntsAre vs ns->∀ v ∈ vs,hashByValue fuel v=pure true
 | _,_,.nil,v,hv=>by simp at hv
 | _,_,.cons n t r,v,hv=>by
  rcases List.mem_cons.mp hv with rfl | hv
  ·cases fuel <;> rfl
  ·exact hashByValue_ints r v hv
theorem hashByValue_tup {x:Addr} {ns:List Int} {Q:Bool->Shared->Prop} (hx:TupAt s.heap x ns) (h:Q true s):wpAny (model prog w) A (hashByValue 8 (.ref x)) Q E s:=by
 obtain ⟨o,xs,k,ho,hc,hd,hi⟩:=hx.ex
 have hT:s.TypeIs (.ref x) "tuple":=⟨o,ho,hc⟩
 unfold hashByValue
 refine wpAny_bind (wpAny_specialOf hT PySem.F.slot_tuple_hash.lookup ?_)
 dsimp only
 refine wpAny_bind (wpAny_seqItems ho hd ?_)
 refine wpAny_bind ?_
 show wpAny (model prog w) A (forIn xs _ _) _ _ _
 rw [<- Array.forIn_toList]
 refine wpAny_mono (wpAny_forIn_list _ (fun rest b s'=>b.1=none/\s'=s/\∀ v ∈ rest,hashByValue 7 v=pure true) (fun b s'=>b.1=none/\s'=s) ?_ ?_ _ _ ⟨rfl,rfl,hashByValue_ints hi⟩) ?_ fun _ _ e=>e
 ·rintro v rest b s' ⟨hb,rfl,hr⟩
  rw [hr v List.mem_cons_self]
  refine wpAny_bind (wpAny_pure ?_)
  simp only [Bool.not_true,Bool.false_eq_true,if_false]
  exact wpAny_pure ⟨rfl,rfl,fun u hu=>hr u (List.mem_cons_of_mem _ hu)⟩
 ·rintro b s' ⟨hb,rfl,_⟩
  exact ⟨hb,rfl⟩
 ·rintro ⟨b1,b2⟩ s' ⟨hb,rfl⟩
  dsimp only at hb
  subst hb
  exact wpAny_pure h
theorem storeT {a:Addr} {es es':Array (Int × Value)} {ep:Nat} {t t':SetTable} {Q:Unit->Shared->Prop} (ho:s.heap.get? a=some (setObj es ep t)) (hz:es'.size <= 63)
  (h:(s.heap.update a (Obj.putSet es' t')).get? a=some (setObj es' (ep + 1) t')->Q () { s with heap:=s.heap.update a (Obj.putSet es' t') }):wpAny (model prog w) A (storeSet a es' t') Q E s:=by
 refine wpAny_storeSet_of ho rfl (h ?_) (by rw [sizeLine_eq]; omega)
 have:=Heap.get?_update_self (Obj.putSet es' t') ho (by rw [putSet_of es' t' rfl]; rfl)
 rw [putSet_of es' t' rfl] at this
 exact this
theorem setSearch_free {a:Addr} {es:Array (Int × Value)} {ep:Nat} {t:SetTable} {x:Value} {h:Int} {Q:SetFound->Shared->Prop} (ho:s.heap.get? a=some (setObj es ep t)) (T:TbOk t es.size) (hne:∀ e ∈ es.toList,e.1 ≠ h)
  (q:∀ j,j <= t.mask->t.slot j = .empty->Q (.free j false) s):wpAny (model prog w) A (setSearch a x h true) Q E s:=by
 unfold setSearch
 unfold setSearchFrom
 refine wpAny_bind (wpAny_setState_of ho rfl T.fits ?_)
 dsimp only
 have hg:t.gaveWay=false:=by
  unfold SetTable.gaveWay
  rcases T.mask3 with e | e | e <;> rw [e] <;> decide
 rw [hg]
 simp only [Bool.false_eq_true,if_false]
 obtain ⟨j,j1,j2,j3⟩:=probe_free (hashAt:=fun i=>(es[i]?.map (·.1)).getD 0) T (h:=h) fun i hi=>by
  have e:es[i]? = some es[i]:=Array.getElem?_eq_getElem hi
  rw [e]
  exact hne _ (Array.getElem_mem_toList hi)
 have j3':t.probe (fun i=>(es[i]?.map (·.1)).getD 0) h ((none:Option SetTable.Probe).getD (t.probeStart h))=some (.empty j none):=j3
 split
 ·rename_i met heq
  have e:some met=some (.empty j none):=heq.symm.trans j3'
  cases e
  exact wpAny_pure (q j j1 j2)
 ·rename_i hno
  exact (hno _ j3').elim
theorem setRelay_ok {a:Addr} {es:Array (Int × Value)} {ep n:Nat} {t:SetTable} {Q:Unit->Shared->Prop} (ho:s.heap.get? a=some (setObj es ep t)) (T:TbPut t n) (hn:es.size=n) (h5:n=5\/n=19)
  (q:∀ h' es' t',Heap.SameBut a s.heap h'->SetT h' a es' t'->TbOk t' n->t'.led=t.led->es'.toList.Perm es.toList->Q () { s with heap:=h' }):wpAny (model prog w) A (setRelay a (SetTable.grown n)) Q E s:=by
 have hsz:SetTable.sizeAbove (SetTable.grown n) <= sizeLine:=by
  rw [sizeLine_eq]
  rcases h5 with e | e <;> rw [e] <;> decide
 obtain ⟨t',order,r1,r2,r3,r4⟩:=relay_ok T.pla h5 (es.map (·.1)) (by rw [Array.size_map]; exact hn)
 have hperm:(order.filterMap (es[·]?)).toList.Perm es.toList:=by
  rw [Array.toList_filterMap]
  refine (r4.filterMap _).trans ?_
  rw [<- hn,filterMap_getElem?_range]
 have hes:(order.filterMap (es[·]?)).size=es.size:=by rw [<- Array.length_toList,hperm.length_eq,Array.length_toList]
 unfold setRelay
 refine wpAny_bind (wpAny_setState_of ho rfl (by rw [hn]; exact T.fits) ?_)
 dsimp only
 rw [if_neg (by omega),r1]
 refine wpAny_bind ?_
 refine wpAny_of_eq (a:=(order.filterMap (es[·]?),t')) ?_ ?_
 ·show (if ((order.filterMap (es[·]?)).size != es.size)=true then _ else pure (order.filterMap (es[·]?),t'))=_
  rw [hes]
  simp only [bne_self_eq_false,Bool.false_eq_true,if_false]
 ·exact storeT ho (by rw [hes,hn]; omega) fun e=>q _ _ t' (Heap.SameBut.update ..) ⟨_,e⟩ r2 r3 hperm
theorem SetT.keep {h h':Heap} {a:Addr} {es:Array (Int × Value)} {t:SetTable} (S:SetT h a es t) (k:∀ o,h.get? a=some o->h'.get? a=some o):SetT h' a es t:=let ⟨ep,e⟩:=S; ⟨ep,k _ e⟩
theorem setAdd_tup {a x:Addr} {es:Array (Int × Value)} {t:SetTable} {ns:List Int} {Q:Bool->Shared->Prop} (hu:A.units < cLine) (S:SetT s.heap a es t) (T:TbOk t es.size) (hx:TupAt s.heap x ns) (h64:es.size < 63) (hne:∀ e ∈ es.toList,e.1 ≠ hsh ns)
  (q:∀ h' tk es' t',Heap.SameBut a s.heap h'->s.toks <= tk->SetT h' a es' t'->TbOk t' (es.size + 1)->t'.led=t.led->es'.toList.Perm (es.toList ++ [(hsh ns,.ref x)])->Q true { s with heap:=h',toks:=tk }):wpAny (model prog w) A (setAdd a (.ref x)) Q E s:=by
 obtain ⟨ep,ho⟩:=S
 obtain ⟨o,xs,k,xo,xc,xd,xi⟩:=hx.ex
 unfold setAdd
 refine wpAny_holding (wpAny_bind ?_)
 refine wpAny_pyHash_tuple (knd:=intKind prog w) (ks:=ns) hu ⟨o,xs,k,xo,xc,xd,itemsAre_ints xi⟩ ?_
 have eh:tupleKeyHash (intKind prog w) ns=hsh ns:=rfl
 rw [eh]
 unfold setAddHashed
 refine wpAny_holding ?_
 unfold setAddHashedIn
 refine wpAny_bind (wpAny_setState_of ho rfl T.fits ?_)
 dsimp only
 have hb:byScan (.ref x) es=false:=rfl
 rw [hb]
 simp only [Bool.false_eq_true,if_false]
 refine wpAny_bind (setSearch_free ho T hne fun j j1 j2=>?_)
 dsimp only
 refine wpAny_bind (wpAny_setState_of ho rfl T.fits ?_)
 dsimp only
 obtain ⟨P,p1,p2,p3,p4⟩:=put_ok T h64 j1 j2
 have hes:(SetTable.insertAt es (t.put j).2 (hsh ns,Value.ref x)).size=es.size + 1:=ins_size _ _ _
 have hperm:(SetTable.insertAt es (t.put j).2 (hsh ns,Value.ref x)).toList.Perm (es.toList ++ [(hsh ns,Value.ref x)]):=by
  have:=SetTable.insertAt_perm es (t.put j).2 (hsh ns,Value.ref x)
  rwa [Array.toList_push] at this
 rw [P.pla]
 simp only [if_true]
 refine wpAny_bind (hashByValue_tup (ns:=ns) ⟨o,xs,k,xo,xc,xd,xi⟩ ?_)
 simp only [if_true]
 refine wpAny_bind (storeT ho (by rw [hes]; omega) fun e1=>?_)
 simp only [Bool.not_false,Bool.true_and]
 cases hf:(t.put j).1.tooFull with
 | true =>
  simp only [if_true]
  have h5:=P.full (by omega) hf
  refine wpAny_bind (setRelay_ok (s:={ s with heap:=_,toks:=_ }) e1 P hes h5 fun h' es' t' b1 b2 b3 b4 b5=>?_)
  exact wpAny_pure (q h' _ es' t' ((Heap.SameBut.update s.heap a _).trans b1) (Nat.le_add_right _ _) b2 b3 (b4.trans p4) (b5.trans hperm))
 | false =>
  simp only [Bool.false_eq_true,if_false]
  exact wpAny_pure (q _ _ _ _ (Heap.SameBut.update ..) (Nat.le_add_right _ _) ⟨_,e1⟩ (P.still hf) p4 hperm)
end
end VL
namespace VL
open PySem PySem.Spec PyProof.Rows L2
noncomputable def prs (vs:List Value) (nss:List (List Int)):List (Int × Value):=(vs.zip nss).map fun p=>(hsh p.2,p.1)
theorem prs_len {vs:List Value} {nss:List (List Int)} (h:vs.length=nss.length):(prs vs nss).length=vs.length:=by
 unfold prs
 rw [List.length_map,List.length_zip,<- h,Nat.min_self]
theorem prs_at {vs:List Value} {nss:List (List Int)} {i:Nat} {v:Value} {ns:List Int} (h1:vs[i]? = some v) (h2:nss[i]? = some ns):(prs vs nss)[i]? = some (hsh ns,v):=by
 unfold prs
 rw [List.getElem?_map,(List.getElem?_zip_eq_some (z:=(v,ns))).mpr ⟨h1,h2⟩]
 rfl
theorem prs_fst {vs:List Value} {nss:List (List Int)} (h:vs.length=nss.length):(prs vs nss).map (·.1)=nss.map hsh:=by
 unfold prs
 rw [List.map_map]
 have:(vs.zip nss).map Prod.snd=nss:=List.map_snd_zip (by omega)
 conv=>rhs; rw [<- this]
 rw [List.map_map]
 rfl
theorem TupsAt.tup {h:Heap} {vs:List Value} {nss:List (List Int)} {i:Nat} {v:Value} (t:TupsAt h vs nss) (hv:vs[i]? = some v):∃ x ns,v = .ref x/\nss[i]? = some ns/\TupAt h x ns:=by
 have hi:i < vs.length:=(List.getElem?_eq_some_iff.mp hv).1
 obtain ⟨x,o,xs,k,e1,e2,e3,e4,e5,_⟩:=t.at hi
 have hi2:i < nss.length:=by rw [<- t.len]; exact hi
 refine ⟨x,nss.getD i [],?_,by simp [hi2],⟨o,xs,k,e2,e3,e4,e5⟩⟩
 rw [<- e1]
 simp [hv]
section
variable {prog:Program} {w:World} {A:Around} {R:Result->Shared->Prop} {I:Addr} {fp wr:List Addr} {G:Array GenState->Array GenState->Prop} {n:Nat} {St:Nat->Shared->Prop} {vs:List Value} {nss:List (List Int)}
theorem set_loopT (W:WalksS prog w A.in1 I fp wr G n (fun i v=>vs.toArray[i]? = some v) St) (S:Addr) (hSf:S ∉ fp) (hn:n=vs.length) (hu:A.in1.units < cLine) (h64:n < 64) (hnd:(nss.map hsh).Nodup) (hin:∀ x,.ref x ∈ vs->x ∉ wr) (led:Bool) :
  ∀ (k i:Nat) (s:Shared) (es:Array (Int × Value)) (t:SetTable),n - i=k->i <= n->St i s->TupsAt s.heap vs nss->SetT s.heap S es t->TbOk t i->t.led=led->es.toList.Perm ((prs vs nss).take i) ->
   (∀ s' es' t',Moved (S :: wr) G s s'->SetT s'.heap S es' t'->TbOk t' n->t'.led=led->es'.toList.Perm (prs vs nss)->R (.ok (.ret .none)) s') ->
   codeAny (model prog w) A (.builtin "set.update.loop" ⟨[.ref S,.ref I],[]⟩) R s:=by
 have hSw:S ∉ wr:=fun h=>hSf (W.sub _ h)
 have hsb:∀ b ∈ wr,b ∈ S :: wr:=fun b hb=>List.mem_cons_of_mem _ hb
 intro k
 induction k with
 | zero =>
  intro i s es t hk hi hst ht hS hT hl hp hR
  have hin':i=n:=by omega
  subst hin'
  refine codeAny_builtin PyProof.Rows.F.entry_set_update_loop ?_
  rw [Around.under_plainId PyProof.Rows.F.plain_set_update_loop _]
  show wpAny _ A.in1 (pyNext (.ref I) >>= _) _ _ s
  refine wpAny_bind (W.done s _ _ hst fun s' hm=>wpAny_pure (hR s' es t (hm.mono hsb) (hS.keep fun o e=>hm.heap S _ hSw e) hT hl ?_))
  have:(prs vs nss).length <= i:=by rw [prs_len ht.len,hn]; exact Nat.le_refl _
  rwa [List.take_of_length_le this] at hp
 | succ k ih =>
  intro i s es t hk hi hst ht hS hT hl hp hR
  have hlt:i < n:=by omega
  refine codeAny_builtin PyProof.Rows.F.entry_set_update_loop ?_
  rw [Around.under_plainId PyProof.Rows.F.plain_set_update_loop _]
  show wpAny _ A.in1 (pyNext (.ref I) >>= _) _ _ s
  refine wpAny_bind (W.item i s _ _ hlt hst fun v s' hP' hst' hm=>?_)
  have hP:vs[i]? = some v:=by simpa using hP'
  obtain ⟨x,ns,rfl,hns,hx⟩:=ht.tup hP
  have hxw:∀ y,.ref y ∈ vs->y ∉ wr:=hin
  have ht':TupsAt s'.heap vs nss:=by
   have go:∀ {us:List Value} {ms:List (List Int)},(∀ y,.ref y ∈ us->y ∉ wr)->TupsAt s.heap us ms->TupsAt s'.heap us ms:=by
    intro us ms hy z
    induction z with
    | nil=>exact .nil
    | cons ho hc hd hi hne r ih2=>exact .cons (hm.heap _ _ (hy _ List.mem_cons_self) ho) hc hd hi hne (ih2 fun y m=>hy y (List.mem_cons_of_mem _ m))
   exact go hin ht
  have hS':SetT s'.heap S es t:=hS.keep fun o e=>hm.heap S _ hSw e
  have hx':TupAt s'.heap x ns:=by
   obtain ⟨y,ms,e1,e2,e3⟩:=ht'.tup hP
   cases e1
   rw [hns] at e2
   cases e2
   exact e3
  have hsz:es.size=i:=by
   rw [<- Array.length_toList,hp.length_eq,List.length_take,prs_len ht.len]
   omega
  have hT':TbOk t es.size:=by rw [hsz]; exact hT
  have hat:=prs_at hP hns
  have hnew:∀ e ∈ es.toList,e.1 ≠ hsh ns:=by
   intro e he q
   have h1:e ∈ (prs vs nss).take i:=hp.mem_iff.mp he
   obtain ⟨j,hj⟩:=List.getElem?_of_mem h1
   have hj':j < i:=by
    have:=(List.getElem?_eq_some_iff.mp hj).1
    rw [List.length_take] at this
    omega
   rw [List.getElem?_take,if_pos hj'] at hj
   have f1:(nss.map hsh)[j]? = some (hsh ns):=by rw [<- prs_fst ht.len,List.getElem?_map,hj,<- q]; rfl
   have f2:(nss.map hsh)[i]? = some (hsh ns):=by rw [List.getElem?_map,hns]; rfl
   have hlj:j < (nss.map hsh).length:=(List.getElem?_eq_some_iff.mp f1).1
   have:=(List.getElem?_inj hlj hnd).mp (f1.trans f2.symm)
   omega
  show wpAny _ A.in1 (holding [Value.ref x] (setAdd S (.ref x)) >>= _) _ _ s'
  refine wpAny_bind (wpAny_holding (setAdd_tup hu hS' hT' hx' (by omega) hnew fun h' tk es' t' c1 c2 c3 c4 c5 c6=>?_))
  have kp:∀ b o,b ≠ S->s'.heap.get? b=some o->h'.get? b=some o:=fun b o hb e=>by rw [c1.2 b hb]; exact e
  have ht2:TupsAt h' vs nss:=ht'.mono fun y o e c=>kp y o (fun z=>by
   subst z
   obtain ⟨ep,q⟩:=hS'
   rw [q] at e
   cases e
   exact absurd c (show ¬ (Value.type "set" = Value.type "tuple") by decide)) e
  refine wpAny_pure ⟨plainId_quiet PyProof.Rows.F.plain_set_update_loop _,ih (i + 1) _ es' t' (by omega) hlt (W.frame _ s' _ _ hst' c2 fun b hb o e=>kp b o (fun z=>hSf (z ▸ hb)) e) ht2 c3 (by rw [<- hsz]; exact c4) (c5.trans hl) ?_ fun s'' es'' t'' hm'' hS'' hT'' hl'' hp''=>?_⟩
  ·refine c6.trans ?_
   rw [List.take_add_one,hat]
   exact hp.append_right _
  ·exact hR s'' es'' t'' (Moved.trans W.gtrans ((hm.mono hsb).then_heap c2 fun b o hb e=>kp b o (fun z=>hb (z ▸ List.mem_cons_self)) e) hm'') hS'' hT'' hl'' hp''
end
end VL
namespace PySem
section
variable {prog:Program} {w:World} {A:Around} {E:Value->Shared->Prop} {s:Shared}
theorem set_newT (a:Value) {Q₁:Value->Shared->Prop} (h:Q₁ (.ref s.heap.objs.size) { s with heap:=s.heap.push (VL.setObj #[] 0 (.fresh 0 0 (!w.params.followText "set-order"))) }) :
  codeAny (model prog w) A (.call (.builtin "set.__new__") ⟨[.type "set",a],[]⟩) (wants Q₁ E) s:=by
 refine codeAny_of_tree ?_
 show wpAny _ A.in1 (checkBuiltinCall "set.__new__" ⟨[.type "set",a],[]⟩ >>= fun _=>again (.builtin "set.__new__" ⟨[.type "set",a],[]⟩)) _ _ s
 refine wpAny_bind (wpAny_of_eq (F.newCall_set_1 a) (wpAny_pure ⟨plainId_quiet PySem.F.plain_set_new _,codeAny_builtin PySem.F.entry_set_new ?_⟩))
 rw [Around.under_plainId PySem.F.plain_set_new _]; unfold Builtin.«set.__new__» Builtin.Frozenset.newClass
 have hsub:=sub_set_self; obtain ⟨hp,g,d,tk,os⟩:=s
 dsimp only; wp_walk
 refine wpAny_askSetting (wpAny_pure ?_)
 dsimp only; simp only [newObj]
 exact wpAny_bind (wpAny_alloc (wpAny_pure (wpAny_pure h)))
set_option maxHeartbeats 3200000 in
theorem call_set_by {l:Addr} {T:String} {oI:Obj} {Φ:Heap->Prop} {Q:Value->Shared->Prop} (hty:s.TypeIs (.ref l) T) (hsls:isSubtype (.type T) (.type "set")=pure false) (hslf:isSubtype (.type T) (.type "frozenset")=pure false) (hne:(Value.type T == Value.type "dict")=false)
  (hit:∀ (h₁:Heap) (A₁:Around) (E₁:Value->Shared->Prop) (Q₁:Value->Shared->Prop),(∀ b o,s.heap.get? b=some o->h₁.get? b=some o)->Q₁ (.ref h₁.objs.size) { s with heap:=h₁.push oI }->wpAny (model prog w) A₁ (pyIter (.ref l)) Q₁ E₁ { s with heap:=h₁ })
  (hrun:∀ R:Result->Shared->Prop,(∀ h' tk,Φ h'->(∀ b o,s.heap.get? b=some o->h'.get? b=some o)->R (.ok (.ret .none)) { s with heap:=h',toks:=tk }) ->
   codeAny (model prog w) A.in1.in1 (.builtin "set.update.loop" ⟨[.ref s.heap.objs.size,.ref (s.heap.push (VL.setObj #[] 0 (.fresh 0 0 (!w.params.followText "set-order")))).objs.size],[]⟩) R { s with heap:=(s.heap.push (VL.setObj #[] 0 (.fresh 0 0 (!w.params.followText "set-order")))).push oI })
  (h:∀ h' tk,Φ h'->(∀ b o,s.heap.get? b=some o->h'.get? b=some o)->Q (.ref s.heap.objs.size) { s with heap:=h',toks:=tk }) :
  wpAny (model prog w) A (call (.type "set") [.ref l]) Q E s:=by
 obtain ⟨c,tl,hmro⟩:=F.called_set.mro; have hmade:=F.called_set.made; have hsub:=F.called_set.sub
 refine wpAny_call (codeAny_of_tree ?_); show wpAny _ _ (callAny (.type "set") _) _ _ _
 refine wpAny_pure ⟨Code.quiet_builtin _ (by decide +kernel),codeAny_builtin PySem.F.entry_type_call ?_⟩
 rw [Around.under_plain (weight_type_call_type "set" [.ref l] []) rfl]; have h1:=F.called_set.notType; have h2:=F.called_set.canCreate
 have hct:=F.typeCall_set_1 (.ref l); repeat (any_goals (first | assumption | wp_step))
 generalize hled:(!w.params.followText "set-order")=led at hrun
 refine codeAny_mono (set_newT (.ref l) (E:=E) (Q₁:=fun obj s₁=>obj = .ref s.heap.objs.size/\s₁={ s with heap:=s.heap.push (VL.setObj #[] 0 (.fresh 0 0 led)) }) ⟨rfl,by rw [hled]⟩) fun r s₁ hr=>?_
 cases r with
 | error e=>exact hr
 | ok fl =>
  cases fl with
  | ret obj =>
   obtain ⟨rfl,rfl⟩:=hr
   have hS:(s.heap.push (VL.setObj #[] 0 (.fresh 0 0 led))).get? s.heap.objs.size=some (VL.setObj #[] 0 (.fresh 0 0 led)):=Heap.get?_push_size _ rfl
   have hT:Shared.TypeIs { s with heap:=s.heap.push (VL.setObj #[] 0 (.fresh 0 0 led)) } (.ref s.heap.objs.size) "set":=⟨_,hS,rfl⟩
   have hli:=F.called_set.init.lookup; have hbi:=F.called_set.init.bind (.ref s.heap.objs.size)
   repeat (any_goals (first | assumption | wp_step))
   refine codeAny_mono (codeAny_call_builtin (R:=wants (fun r s₂=>r = .none/\∃ h' tk,s₂={ s with heap:=h',toks:=tk }/\Φ h'/\(∀ b o,s.heap.get? b=some o->h'.get? b=some o)) E) F.called_set.init.plain F.entry_set_init (check_set_init_1 hT ?_)) fun r₂ s₂ hr₂=>?_
   ·obtain ⟨ol,hol,hcl⟩:=hty
    obtain ⟨ocls,odict,odata,oslots⟩:=ol; simp only at hcl; subst hcl
    have hol':(s.heap.push (VL.setObj #[] 0 (.fresh 0 0 led))).get? l=some { cls:=.type T,dict:=odict,data:=odata,slots:=oslots }:=Heap.get?_push_of_some _ hol
    unfold Builtin.«set.__init__» noKeywords Builtin.Frozenset.updateFrom; generalize hPI:pyIter=PI; wp_walk; subst hPI
    refine hit _ _ _ _ (fun b o e=>Heap.get?_push_of_some _ e) (wpAny_bind (wpAny_runValue (hrun _ fun h' tk g1 g2=>?_)))
    show wpAny _ _ _ _ _ _
    refine wpAny_pure ?_; show wpAny _ _ (ret Value.none) _ _ _
    exact wpAny_pure ⟨rfl,h',tk,rfl,g1,g2⟩
   ·cases r₂ with
    | error e=>exact hr₂
    | ok fl₂ =>
     cases fl₂ with
     | ret r =>
      obtain ⟨rfl,h',tk,rfl,g1,g2⟩:=hr₂
      repeat (any_goals (first | assumption | wp_step))
      exact h _ _ g1 g2
     | _=>exact hr₂.elim
  | _=>exact hr.elim
theorem call_setT {l:Addr} {vs:List Value} {nss:List (List Int)} {Q:Value->Shared->Prop} (hh:A.handled=none) (hu:A.units + 8 < cLine) (hl:s.heap.IsList l vs.toArray) (ht:VL.TupsAt s.heap vs nss) (h64:vs.length < 64) (hnd:(nss.map VL.hsh).Nodup)
  (h:∀ h' tk es t,VL.SetT h' s.heap.objs.size es t->VL.TbOk t vs.length->t.led = !w.params.followText "set-order"->es.toList.Perm (VL.prs vs nss)->(∀ b o,s.heap.get? b=some o->h'.get? b=some o)->Q (.ref s.heap.objs.size) { s with heap:=h',toks:=tk }) :
  wpAny (model prog w) A (call (.type "set") [.ref l]) Q E s:=by
 obtain ⟨ol,hol,hcl,nl,hdl⟩:=hl
 have hlS:l < s.heap.objs.size:=Heap.lt_size hol
 have hl0:s.heap.IsList l vs.toArray:=⟨ol,hol,hcl,nl,hdl⟩
 refine call_set_by (T:="list") (Φ:=fun h'=>∃ es t,VL.SetT h' s.heap.objs.size es t/\VL.TbOk t vs.length/\t.led=(!w.params.followText "set-order")/\es.toList.Perm (VL.prs vs nss)) ⟨ol,hol,hcl⟩ F.sub_list_set F.sub_list_frozenset (by decide)
  (fun h₁ A₁ E₁ Q₁ k q=>wpAny_pyIter_list (s:={ s with heap:=h₁ }) (items:=vs.toArray) ⟨ol,k _ _ hol,hcl,nl,hdl⟩ q) (fun R hR=>?_) fun h' tk ⟨es,t,g1,g2,g3,g4⟩ g5=>h h' tk es t g1 g2 g3 g4 g5
 generalize (!w.params.followText "set-order")=led at hR ⊢
 have hS:(s.heap.push (VL.setObj #[] 0 (.fresh 0 0 led))).get? s.heap.objs.size=some (VL.setObj #[] 0 (.fresh 0 0 led)):=Heap.get?_push_size _ rfl
 have hl1:(s.heap.push (VL.setObj #[] 0 (.fresh 0 0 led))).IsList l vs.toArray:=⟨ol,Heap.get?_push_of_some _ hol,hcl,nl,hdl⟩
 have hh3:A.in1.in1.in1.handled=none:=by simp [hh]
 have hneI:l ≠ (s.heap.push (VL.setObj #[] 0 (.fresh 0 0 led))).objs.size:=by rw [Heap.size_push]; exact Nat.ne_of_lt (Nat.lt_succ_of_lt hlS)
 have hSf:s.heap.objs.size ∉ [(s.heap.push (VL.setObj #[] 0 (.fresh 0 0 led))).objs.size,l]:=by
  rw [Heap.size_push]; simp only [List.mem_cons,List.not_mem_nil,or_false,not_or]; exact ⟨Nat.ne_of_lt (Nat.lt_succ_self _),Nat.ne_of_gt hlS⟩
 have hvt:∀ {us:List Value} {ms:List (List Int)},VL.TupsAt s.heap us ms->∀ x,.ref x ∈ us->x < s.heap.objs.size:=by
  intro us ms z
  induction z with
  | nil=>intro x hx; simp at hx
  | cons ho _ _ _ _ _ ih =>
   intro x hx
   rcases List.mem_cons.mp hx with e | hx
   ·cases e; exact Heap.lt_size ho
   ·exact ih x hx
 refine VL.set_loopT ((Walks.list hh3 _ l hneI vs.toArray).toS) s.heap.objs.size hSf (by simp) (by simp; omega) (by simpa using h64) hnd (fun x hx=>?_) led (vs.toArray.size - 0) 0 _ #[] (.fresh 0 0 led) (by simp) (Nat.zero_le _)
  ⟨⟨_,Heap.get?_push_size _ rfl,rfl,rfl⟩,(hl1.push _)⟩ (ht.mono fun x o e _=>Heap.get?_push_of_some _ (Heap.get?_push_of_some _ e)) ⟨0,Heap.get?_push_of_some _ hS⟩ (VL.TbOk.fresh led) rfl (List.Perm.refl _) ?hR
 case hR =>
  intro s' es t hm hS' hT' hl' hp'
  obtain ⟨h',g',d',tk',os'⟩:=s'
  have eg:g'=s.gens:=hm.gens
  have ed:d'=s.drawn:=hm.drawn
  have eo:os'=s.os:=hm.os
  subst eg; subst ed; subst eo
  refine hR h' tk' ⟨es,t,hS',by simpa using hT',hl',hp'⟩ fun b o e=>hm.heap b o ?_ (Heap.get?_push_of_some _ (Heap.get?_push_of_some _ e))
  have hb:=Heap.lt_size e
  simp only [List.mem_cons,List.not_mem_nil,or_false,not_or]; rw [Heap.size_push]
  exact ⟨Nat.ne_of_lt hb,Nat.ne_of_lt (Nat.lt_succ_of_lt hb)⟩
 have:=hvt ht x hx
 simp only [List.mem_cons,List.not_mem_nil,or_false]; rw [Heap.size_push]; exact Nat.ne_of_lt (Nat.lt_succ_of_lt this)
end
end PySem
namespace VL
open PySem PySem.Spec PyProof.Rows L2
theorem idx_perm {α:Type}:∀ {l:List α} {i:Nat} (h:i < l.length),(l[i] :: l.eraseIdx i).Perm l
 | a :: l,0,_=>List.Perm.refl _
 | a :: l,i + 1,h=>by
  have h':i < l.length:=by simpa using h
  have ih:=idx_perm (l:=l) (i:=i) h'
  show (l[i] :: a :: l.eraseIdx i).Perm (a :: l)
  exact (List.Perm.swap _ _ _).trans (ih.cons a)
theorem pick_go {α:Type} (next:Nat->Nat):∀ (f k:Nat) (left:List α) (out:Array α),left.length <= f->(pickOrder.go next f k left out).toList.Perm (out.toList ++ left)
 | 0,k,left,out,h=>by
  have:left=[]:=List.length_eq_zero_iff.mp (by omega)
  subst this
  rw [List.append_nil]
  exact List.Perm.refl _
 | f + 1,k,left,out,h=>by
  unfold pickOrder.go
  cases left with
  | nil=>simp
  | cons a l =>
   have hlt:next k % (a :: l).length < (a :: l).length:=Nat.mod_lt _ (by simp)
   rw [List.getElem?_eq_getElem hlt]
   dsimp only
   refine (pick_go next f (k + 1) _ _ (by rw [List.length_eraseIdx]; simp only [hlt,if_true]; simp at h ⊢; omega)).trans ?_
   rw [Array.toList_push,List.append_assoc]
   exact List.Perm.append_left _ (idx_perm hlt)
theorem pick_perm {α:Type} (next:Nat->Nat) (xs:Array α):(pickOrder next xs).toList.Perm xs.toList:=by
 have:=pick_go next xs.size 0 xs.toList #[] (by simp)
 unfold pickOrder
 simpa using this
noncomputable def ordE (w:World) (d:Addr) (ep:Nat) (es:Array (Int × Value)):Array (Int × Value):=if w.params.followText "set-order" then pickOrder (w.params.setOrder d ep) es else es
theorem ordE_perm (w:World) (d:Addr) (ep:Nat) (es:Array (Int × Value)):(ordE w d ep es).toList.Perm es.toList:=by
 unfold ordE
 split
 ·exact pick_perm _ _
 ·exact List.Perm.refl _
noncomputable def slotAt (w:World) (t:SetTable):Nat->Nat
 | 0=>0
 | i + 1=>if w.params.followText "set-order" then 0 else t.place.getD i 0 + 1
theorem below_slot {w:World} {t:SetTable} {n:Nat} (T:TbOk t n) (hf:w.params.followText "set-order" = false):∀ i,i <= n->SetTable.below t.place (slotAt w t i)=i
 | 0,_=>by
  obtain ⟨b1,b2,b3⟩:=below_is T.ris 0
  show SetTable.below t.place 0=0
  cases h:SetTable.below t.place 0 with
  | zero=>rfl
  | succ k =>
   rw [h] at b2
   have:=b2 0 (by omega)
   omega
 | i + 1,hi=>by
  unfold slotAt
  rw [hf]
  simp only [Bool.false_eq_true,if_false]
  obtain ⟨b1,b2,b3⟩:=below_is T.ris (t.place.getD i 0 + 1)
  have hs:=T.siz
  rcases Nat.lt_trichotomy (SetTable.below t.place (t.place.getD i 0 + 1)) (i + 1) with z | z | z
  ·have:=b3 i (by omega) (by omega)
   omega
  ·exact z
  ·have h1:=b2 (i + 1) (by omega)
   have h2:=T.ris i (i + 1) (by omega) (by omega)
   omega
section
variable {prog:Program} {w:World} {A:Around} {E:Value->Shared->Prop} {s:Shared} {d I:Addr} {es:Array (Int × Value)} {ep:Nat} {t:SetTable} {i':Nat}
theorem setNext_at (ho:s.heap.get? d=some (setObj es ep t)) (T:TbOk t es.size) (hled:t.led = !w.params.followText "set-order") {i:Nat} (hi:i <= es.size) {Q:Option (Value × Nat)->Shared->Prop}
  (h:Q (((ordE w d ep es)[i]?).map fun e=>(e.2,slotAt w t (i + 1))) s):wpAny (model prog w) A (setNext d (slotAt w t i) i ep) Q E s:=by
 unfold setNext
 refine wpAny_bind (wpAny_setState_of ho rfl T.fits ?_)
 dsimp only
 unfold setsByText
 refine wpAny_bind (wpAny_bind (wpAny_askSetting (wpAny_pure ?_)))
 show wpAny _ _ (if w.params.followText "set-order" = true then _ else _) _ _ _
 unfold ordE at h
 cases hf:w.params.followText "set-order" with
 | true =>
  rw [hf] at h
  simp only [if_true] at h ⊢
  simp only [bne_self_eq_false,Bool.false_eq_true,if_false]
  unfold setWalk
  refine wpAny_bind (wpAny_bind (wpAny_setState_of ho rfl T.fits ?_))
  dsimp only
  unfold setsByText
  refine wpAny_bind (wpAny_bind (wpAny_askSetting (wpAny_pure ?_)))
  show wpAny _ _ (if w.params.followText "set-order" = true then _ else _) _ _ _
  rw [hf]
  simp only [if_true]
  refine wpAny_bind (wpAny_askSetting (wpAny_pure (wpAny_pure ?_)))
  have e1:slotAt w t (i + 1)=slotAt w t i:=by
   unfold slotAt
   cases i with
   | zero=>simp [hf]
   | succ i=>simp [hf]
  rw [e1] at h
  exact h
 | false =>
  rw [hf] at h hled
  simp only [Bool.false_eq_true,if_false] at h ⊢
  have hd:(!t.plain && decide (es.size > 1))=false:=by rw [T.pla]; rfl
  show wpAny _ _ (if (!t.plain && decide (es.size > 1))=true then _ else _) _ _ _
  rw [hd]
  simp only [Bool.false_eq_true,if_false]
  refine wpAny_bind ?_
  show wpAny _ _ (if (!t.led && !es.isEmpty)=true then _ else _) _ _ _
  rw [hled]
  simp only [Bool.not_false,Bool.not_true,Bool.false_and,Bool.false_eq_true,if_false]
  refine wpAny_pure ?_
  rw [below_slot T hf i hi]
  have hslot:slotAt w t (i + 1)=t.place.getD i 0 + 1:=by unfold slotAt; rw [hf]; rfl
  rw [hslot] at h
  by_cases hlt:i < es.size
  ·have h1:es[i]? = some es[i]:=Array.getElem?_eq_getElem hlt
   have hlt2:i < t.place.size:=by rw [T.siz]; exact hlt
   have h2:t.place[i]? = some (t.place.getD i 0):=by
    rw [Array.getElem?_eq_getElem hlt2]
    simp [Array.getD,hlt2]
   rw [h1,h2]
   rw [h1] at h
   exact wpAny_pure h
  ·have h1:es[i]? = none:=Array.getElem?_eq_none (by omega)
   rw [h1]
   rw [h1] at h
   exact wpAny_pure h
theorem slot_setiter_next:PySem.Slot "set_iterator" "__next__" "set_iterator.__next__" :=
 .of (owner:="set_iterator") (n:="__next__") (by rw [typeLookup_type,builtinLookup_eq_fast]; kernel_rfl) (by decide +kernel) (by decide +kernel) (by decide +kernel) (.inl (by decide +kernel)) (by rw [isSubtype_type]; kernel_rfl)
theorem slot_setiter_iter:PySem.Slot "set_iterator" "__iter__" "set_iterator.__iter__" :=
 .of (owner:="set_iterator") (n:="__iter__") (by rw [typeLookup_type,builtinLookup_eq_fast]; kernel_rfl) (by decide +kernel) (by decide +kernel) (by decide +kernel) (.inl (by decide +kernel)) (by rw [isSubtype_type]; kernel_rfl)
theorem entry_setiter_next:entryFor table "set_iterator.__next__" = some Builtin.«set_iterator.__next__»:=entryFor_of_fast (by kernel_rfl)
theorem entry_setiter_iter:entryFor table "set_iterator.__iter__" = some Builtin.«dict_keyiterator.__iter__»:=entryFor_alias (id':="dict_keyiterator.__iter__") (by kernel_rfl) rfl (by decide +kernel) (by kernel_rfl)
theorem entry_set_iterT:entryFor table "set.__iter__" = some Builtin.«frozenset.__iter__»:=entryFor_alias (id':="frozenset.__iter__") (by kernel_rfl) rfl (by decide +kernel) (by kernel_rfl)
theorem args_setiter_next (a:Value):argsOk "set_iterator.__next__" ⟨[a],[]⟩:=by unfold argsOk; kernel_rfl
theorem args_setiter_iter (a:Value):argsOk "set_iterator.__iter__" ⟨[a],[]⟩:=by unfold argsOk; kernel_rfl
end
end VL
namespace VL
open PySem PySem.Spec PyProof.Rows L2
section
variable {prog:Program} {w:World} {A:Around} {E:Value->Shared->Prop} {s:Shared} {d I:Addr} {es:Array (Int × Value)} {ep:Nat} {t:SetTable} {i':Nat}
noncomputable abbrev itObj (d:Addr) (sl i n ep:Nat):Obj:={ cls:=.type "set_iterator",data:=.fields #[.int sl 0,.int i 0,.ref d,.int n 0,.int ep 0] }
noncomputable def ItAt (h:Heap) (I d:Addr) (sl i n ep:Nat):Prop:=h.get? I=some (itObj d sl i n ep)
theorem it_put {h:Heap} {sl i n ep k:Nat} {x:Value} {vs:Array Value} (e:h.get? I=some { cls:=.type "set_iterator",data:=.fields vs }):(h.update I (Obj.mapFields (·.setIfInBounds k x))).get? I=some { cls:=.type "set_iterator",data:=.fields (vs.setIfInBounds k x) }:=by
 have:=Heap.get?_update_self (Obj.mapFields (·.setIfInBounds k x)) e (Obj.isFreed_of_fields (Obj.data_mapFields rfl _))
 rw [this]
 rfl
theorem setit_item (hI:ItAt s.heap I d (slotAt w t i') i' es.size ep) (ho:s.heap.get? d=some (setObj es ep t)) (T:TbOk t es.size) (hled:t.led = !w.params.followText "set-order") {v:Value} (hi:i' < es.size) (hv:((ordE w d ep es)[i']?).map (·.2)=some v) {Q:Option Value->Shared->Prop}
  (h:∀ h',ItAt h' I d (slotAt w t (i' + 1)) (i' + 1) es.size ep->Heap.SameBut I s.heap h'->Q (some v) { s with heap:=h' }):wpAny (model prog w) A (pyNext (.ref I)) Q E s:=by
 have hT:s.TypeIs (.ref I) "set_iterator":=⟨_,hI,rfl⟩
 unfold pyNext
 refine wpAny_bind (wpAny_attempt (wpAny_callSpecial?_slot (name:=Str.ofString "__next__") hT slot_setiter_next (wpAny_call_entry slot_setiter_next hT entry_setiter_next ?_ (args_setiter_next _))))
 show wpAny _ _ (fieldsOf (.ref I) >>= _) _ _ s
 refine wpAny_bind (wpAny_fieldsOf hI rfl ?_)
 dsimp only
 refine wpAny_bind ?_
 unfold setEntries
 refine wpAny_bind (wpAny_setState_of ho rfl T.fits (wpAny_pure ?_))
 simp only [bne_self_eq_false,Bool.false_eq_true,if_false]
 refine wpAny_bind ?_
 simp only [Int.toNat_natCast]
 refine setNext_at ho T hled (Nat.le_of_lt hi) ?_
 cases hq:(ordE w d ep es)[i']? with
 | none=>rw [hq] at hv; cases hv
 | some e =>
  rw [hq] at hv
  cases hv
  dsimp only [Option.map_some]
  refine wpAny_bind (wpAny_setField hI rfl (by simp) ?_)
  have e1:=it_put (h:=s.heap) (I:=I) (k:=0) (x:=rawInt (slotAt w t (i' + 1))) (sl:=0) (i:=0) (n:=0) (ep:=0) hI
  refine wpAny_bind (wpAny_setField e1 rfl (by simp) ?_)
  have e2:=it_put (k:=1) (x:=rawInt (i' + 1)) (sl:=0) (i:=0) (n:=0) (ep:=0) e1
  exact wpAny_pure ⟨_,rfl,wpAny_pure (h _ e2 ((Heap.SameBut.update ..).trans (Heap.SameBut.update ..)))⟩
theorem setit_end (hh:A.handled=none) (hI:ItAt s.heap I d (slotAt w t es.size) es.size es.size ep) (ho:s.heap.get? d=some (setObj es ep t)) (T:TbOk t es.size) (hled:t.led = !w.params.followText "set-order") {Q:Option Value->Shared->Prop}
  (h:∀ h',Heap.ExtBut I s.heap h'->Q none { s with heap:=h' }):wpAny (model prog w) A (pyNext (.ref I)) Q E s:=by
 have hT:s.TypeIs (.ref I) "set_iterator":=⟨_,hI,rfl⟩
 unfold pyNext
 refine wpAny_bind (wpAny_attempt (wpAny_callSpecial?_slot (name:=Str.ofString "__next__") hT slot_setiter_next (wpAny_call_entry slot_setiter_next hT entry_setiter_next ?_ (args_setiter_next _))))
 show wpAny _ _ (fieldsOf (.ref I) >>= _) _ _ s
 refine wpAny_bind (wpAny_fieldsOf hI rfl ?_)
 dsimp only
 refine wpAny_bind ?_
 unfold setEntries
 refine wpAny_bind (wpAny_setState_of ho rfl T.fits (wpAny_pure ?_))
 simp only [bne_self_eq_false,Bool.false_eq_true,if_false]
 refine wpAny_bind ?_
 simp only [Int.toNat_natCast]
 refine setNext_at ho T hled (Nat.le_refl _) ?_
 have hq:(ordE w d ep es)[es.size]? = none:=Array.getElem?_eq_none (by
  have:=(ordE_perm w d ep es).length_eq
  rw [Array.length_toList,Array.length_toList] at this
  omega)
 rw [hq]
 dsimp only [Option.map_none]
 refine wpAny_bind (wpAny_setField hI rfl (by simp) ?_)
 show wpAny _ _ (newExc (.type "StopIteration") [] >>= _) _ _ _
 refine wpAny_bind ?_
 simp only [newExc,newTuple]
 refine wpAny_bind (wpAny_newObj_type (wpAny_bind (m:=firstArgMember _ _) (wpAny_of_eq (a:=Value.none) (by first | rfl | (simp only [firstArgMember]; rfl)) (wpAny_newObj_type ?_ (by size_fits)))) (by size_fits))
 simp only [raiseNew]
 refine wpAny_bind (wpAny_handled ?_); rw [show A.in1.handled=none from hh]
 refine wpAny_bind (wpAny_pure (wpAny_throw ?_)); refine wpAny_bind (wpAny_isInstance (T:="StopIteration") (b:=true) ⟨_,Heap.get?_push_size _ rfl,rfl⟩ isSubtype_stop ?_)
 exact wpAny_pure (h _ (((Heap.SameBut.update ..).extBut.push _).push _))
theorem walks_set (hh:A.handled=none) (I d:Addr) (hne:d ≠ I) (es:Array (Int × Value)) (ep:Nat) (t:SetTable) (T:TbOk t es.size) (hled:t.led = !w.params.followText "set-order") :
  Walks prog w A I [I,d] [I] es.size (fun i v=>((ordE w d ep es)[i]?).map (·.2)=some v) (fun i h=>ItAt h I d (slotAt w t i) i es.size ep/\h.get? d=some (setObj es ep t)) where
 sub:=fun b hb=>by simp at hb; simp [hb]
 frame:=fun _ _ _ st hk=>⟨hk I (by simp) _ st.1,hk d (by simp) _ st.2⟩
 item:=fun i s Q E hi st hQ=>by
  have hl:i < (ordE w d ep es).size:=by
   have:=(ordE_perm w d ep es).length_eq
   rw [Array.length_toList,Array.length_toList] at this
   omega
  have hv:((ordE w d ep es)[i]?).map (·.2)=some (ordE w d ep es)[i].2:=by rw [Array.getElem?_eq_getElem hl]; rfl
  refine setit_item st.1 st.2 T hled hi hv fun h' hI' hs'=>?_
  exact hQ _ h' s.toks hv ⟨hI',by rw [hs'.2 d hne]; exact st.2⟩ fun b o hb e=>hs'.extBut b o (fun h=>hb (by simp [h])) e
 done:=fun s Q E st hQ=>setit_end hh st.1 st.2 T hled fun h' he'=>hQ h' s.toks fun b o hb e=>he' b o (fun h=>hb (by simp [h])) e
 self:=fun i s Q E st hQ=>by
  have hT:s.TypeIs (.ref I) "set_iterator":=⟨_,st.1,rfl⟩
  refine wpAny_pyIter_slot hT slot_setiter_iter (wpAny_call_entry slot_setiter_iter hT entry_setiter_iter ?_ (args_setiter_iter _))
  show wpAny _ _ (ret (.ref I)) _ _ s
  exact wpAny_pure ⟨_,rfl,"set_iterator",_,hT,slot_setiter_next.lookup,hQ⟩
theorem pyIter_set (ho:s.heap.get? d=some (setObj es ep t)) (T:TbOk t es.size) {Q:Value->Shared->Prop} (h:Q (.ref s.heap.objs.size) { s with heap:=s.heap.push (itObj d 0 0 es.size ep) }):wpAny (model prog w) A (pyIter (.ref d)) Q E s:=by
 have hT:s.TypeIs (.ref d) "set":=⟨_,ho,rfl⟩
 refine wpAny_pyIter_slot hT PySem.F.slot_set_iter (wpAny_call_entry PySem.F.slot_set_iter hT entry_set_iterT ?_ (PySem.F.args_set_iter_1 _))
 unfold Builtin.«frozenset.__iter__» Builtin.Frozenset.slot0 slotArgs
 simp only [List.isEmpty_nil,Bool.not_true,Bool.false_eq_true,↓reduceIte,bind_assoc,List.length_nil,bne_self_eq_false]
 unfold Builtin.Frozenset.addrOf Builtin.Frozenset.sizeOf
 refine wpAny_bind (wpAny_pure (wpAny_bind (wpAny_pure (wpAny_bind (wpAny_bind (wpAny_setEntries_of ho rfl T.fits (wpAny_pure ?_)))))))
 unfold setDrawn
 refine wpAny_bind (wpAny_bind (wpAny_setState_of ho rfl T.fits ?_))
 dsimp only
 unfold setsByText
 refine wpAny_bind (wpAny_bind (wpAny_askSetting (wpAny_pure (wpAny_pure ?_))))
 have hd:(!w.params.followText "set-order" && (!t.plain && decide (es.size > 1)))=false:=by rw [T.pla]; simp
 show wpAny _ _ (if (!w.params.followText "set-order" && (!t.plain && decide (es.size > 1)))=true then _ else _) _ _ _
 rw [hd]
 simp only [Bool.false_eq_true,if_false]
 refine wpAny_bind (wpAny_pure (wpAny_bind (wpAny_setEpoch_of ho rfl T.fits ?_)))
 simp only [newFields]
 refine wpAny_bind (wpAny_newObj_type (wpAny_pure ⟨_,rfl,"set_iterator",_,⟨_,Heap.get?_push_size _ rfl,rfl⟩,slot_setiter_next.lookup,?_⟩))
 exact h
theorem hint_set {r:Addr} (hT:s.TypeIs (.ref r) "set") {Q:Bool->Shared->Prop} (h:Q false s):wpAny (model prog w) A (Builtin.List.listLengthHint (.ref r)) Q E s:=by
 unfold Builtin.List.listLengthHint
 refine wpAny_bind (wpAny_specialOf hT PySem.F.slot_set_len.lookup ?_); generalize hid:("set.__len__" : String)=id0; wp_delta
 rw [show splitId id0=some ("set","__len__") from by subst hid; decide +kernel]; subst hid
 refine wpAny_bind (wpAny_isInstance (T:="set") (b:=true) hT (by rw [isSubtype_type]; kernel_rfl) ?_)
 refine wpAny_ite_split (fun hab=>absurd hab (by decide)) fun _=>wpAny_ite_split (fun _=>?_) fun hab=>absurd (by decide +kernel) hab
 exact wpAny_bind (wpAny_typeOf hT (wpAny_pure h))
theorem src_set (T:TbOk t es.size) (hled:t.led = !w.params.followText "set-order"):PySem.W.KdlSrc prog w "set" d d es.size (fun i v=>((ordE w d ep es)[i]?).map (·.2)=some v) (fun h=>h.get? d=some (setObj es ep t)) where
 type:=fun _ hm=>⟨_,hm,rfl⟩
 there:=fun _ hm=>⟨Heap.lt_size hm,Heap.lt_size hm⟩
 keep:=fun _ _ hm hk=>hk d (.inl rfl) _ hm
 notList:=by decide
 notTuple:=by decide
 hint:=fun _ _ _ _ hm hq=>hint_set ⟨_,hm,rfl⟩ hq
 iter:=fun A s hh hm=>⟨itObj d 0 0 es.size ep,_,(fun _ _ hq=>pyIter_set hm T hq),walks_set hh _ d (Nat.ne_of_lt (Heap.lt_size hm)) es ep t T hled,⟨Heap.get?_push_size _ rfl,Heap.get?_push_of_some _ hm⟩⟩
end
end VL
namespace VL
open PySem PySem.Spec PyProof.Rows L2
section
variable {prog:Program} {w:World} {A:Around} {E:Value->Shared->Prop} {s:Shared} {T:String} {r d:Addr} {n:Nat} {P:Nat->Value->Prop} {OK:Heap->Prop}
theorem collect_src {Q:List Value->Shared->Prop} (K:PySem.W.KdlSrc prog w T r d n P OK) (hh:A.handled=none) (hok:OK s.heap) (hn:n <= sizeLine)
  (h:∀ h' tk vs,s.heap.objs.size < h'.objs.size->(∀ b o,s.heap.get? b=some o->h'.get? b=some o)->vs.length=n->(∀ (j:Nat) v,vs[j]? = some v->P j v)->Q vs { s with heap:=h',toks:=tk }):wpAny (model prog w) A (collect (.ref r)) Q E s:=by
 have hlt:=K.there _ hok
 unfold collect
 refine wpAny_bind (wpAny_runValue (codeAny_builtin PySem.F.entry_proto_collect ?_)); rw [Around.under_plainId PySem.F.plain_proto_collect _]
 show wpAny _ A.in1 (newList [] >>= fun l=>again (.builtin "list.__iadd__" ⟨[l,.ref r],[]⟩)) _ _ s
 refine wpAny_bind (wpAny_newObj_type (wpAny_pure ⟨plainId_quiet PySem.F.plain_list_iadd _,codeAny_builtin PySem.F.entry_list_iadd ?_⟩)); rw [Around.under_plainId PySem.F.plain_list_iadd _]
 show wpAny _ A.in1 (Builtin.List.listExtendWith (.ref s.heap.objs.size) (.ref r) (.ref s.heap.objs.size)) _ _ _
 have fin:∀ h' tk acc' c',(∀ b o,b ≠ s.heap.objs.size->(s.heap.push (seqObj "list" #[] 0)).get? b=some o->h'.get? b=some o)->h'.get? s.heap.objs.size=some { cls:=.type "list",dict:=none,data:=.seq acc' c',slots:=#[] }->ItemsOf P acc' n ->
   wpAny (model prog w) A (do match (Value.ref s.heap.objs.size) with
    | .ref a=>match (<- load a).data with
     | .seq xs _=>pure xs.toList
     | _=>unsupported "internal:collect"
    | _=>unsupported "internal:collect") Q E { s with heap:=h',toks:=tk }:=fun h' tk acc' c' hk hS' hacc =>
  wpAny_bind (wpAny_load hS' (wpAny_pure (h h' tk acc'.toList (Heap.lt_size hS') (fun b o e=>hk b o (Nat.ne_of_lt (Heap.lt_size e)) (Heap.get?_push_of_some _ e)) (by rw [Array.length_toList]; exact hacc.1) fun j v e=>hacc.2 j v (by rw [<- Array.getElem?_toList]; exact e))))
 refine wpAny_mono (PySem.W.kdl_extend (A:=A) (s:={ s with heap:=s.heap.push (seqObj "list" #[] 0) }) (R:=fun r s'=>∃ h' tk acc' c',r = .ok (.ret (.ref s.heap.objs.size))/\s'={ s with heap:=h',toks:=tk }/\(∀ b o,b ≠ s.heap.objs.size->(s.heap.push (seqObj "list" #[] 0)).get? b=some o->h'.get? b=some o)/\h'.get? s.heap.objs.size=some { cls:=.type "list",dict:=none,data:=.seq acc' c',slots:=#[] }/\ItemsOf P acc' n)
  K hh (K.keep _ _ hok fun b _ o e=>Heap.get?_push_of_some _ e) s.heap.objs.size (Nat.ne_of_gt hlt.1) (Nat.ne_of_gt hlt.2) (.ref s.heap.objs.size) 0 (Heap.get?_push_size _ rfl) (fun h' tk acc' c' hk hS' hacc=>⟨h',tk,acc',c',rfl,rfl,hk,hS',hacc⟩) hn) (fun f s' hf=>?_) fun e s' he=>?_
 ·cases f with
  | done f =>
   obtain ⟨h',tk,acc',c',q1,q2,q3,q4,q5⟩:=hf
   cases q1
   subst q2
   exact fin h' tk acc' c' q3 q4 q5
  | again c =>
   refine ⟨hf.1,codeAny_mono hf.2 fun r s' hr=>?_⟩
   obtain ⟨h',tk,acc',c',q1,q2,q3,q4,q5⟩:=hr
   subst q1 q2
   exact fin h' tk acc' c' q3 q4 q5
 ·obtain ⟨h',tk,acc',c',q1,_⟩:=he
  cases q1
end
noncomputable def OneT (h:Heap) (p:Value × List Int):Prop:=∃ x o xs k,p.1 = .ref x/\h.get? x=some o/\o.cls = .type "tuple"/\o.data = .seq xs k/\IntsAre xs.toList p.2/\p.2 ≠ []
theorem TupsAt.all {h:Heap}:∀ {vs:List Value} {nss:List (List Int)},TupsAt h vs nss->∀ p ∈ vs.zip nss,OneT h p
 | _,_,.nil,p,hp=>by simp at hp
 | _,_,.cons ho hc hd hi hne r,p,hp=>by
  rw [List.zip_cons_cons] at hp
  rcases List.mem_cons.mp hp with e | hp
  ·subst e; exact ⟨_,_,_,_,rfl,ho,hc,hd,hi,hne⟩
  ·exact r.all p hp
theorem tups_of {h:Heap}:∀ {zs:List (Value × List Int)},(∀ p ∈ zs,OneT h p)->TupsAt h (zs.map (·.1)) (zs.map (·.2))
 | [],_=>.nil
 | p :: zs,hz=>by
  obtain ⟨x,o,xs,k,e1,e2,e3,e4,e5,e6⟩:=hz p List.mem_cons_self
  rw [List.map_cons,List.map_cons,e1]
  exact .cons e2 e3 e4 e5 e6 (tups_of fun q hq=>hz q (List.mem_cons_of_mem _ hq))
theorem perm_map_inv {α β:Type} {f:α->β} {l m':List β} (h:l.Perm m'):∀ {m:List α},m'=m.map f->∃ m2:List α,m2.Perm m/\l=m2.map f:=by
 induction h with
 | nil=>intro m e; exact ⟨m,List.Perm.refl _,e⟩
 | cons x p ih =>
  intro m e
  cases m with
  | nil=>cases e
  | cons a m =>
   rw [List.map_cons] at e
   injection e with e1 e2
   obtain ⟨m2,q1,q2⟩:=ih e2
   exact ⟨a :: m2,q1.cons a,by rw [List.map_cons,q2,e1]⟩
 | swap x y l =>
  intro m e
  cases m with
  | nil=>cases e
  | cons a m =>
   cases m with
   | nil=>rw [List.map_cons] at e; injection e with _ e2; cases e2
   | cons b m =>
    rw [List.map_cons,List.map_cons] at e
    injection e with e1 e2
    injection e2 with e2 e3
    exact ⟨b :: a :: m,List.Perm.swap _ _ _,by rw [List.map_cons,List.map_cons,e1,e2,e3]⟩
 | trans p q ih1 ih2 =>
  intro m e
  obtain ⟨m2,a1,a2⟩:=ih2 e
  obtain ⟨m3,b1,b2⟩:=ih1 a2
  exact ⟨m3,b1.trans a1,b2⟩
noncomputable def Risen (l:List (List Int)):Prop:=l.Pairwise fun a b=>HT.lexLt b a=false
section
variable {prog:Program} {w:World} {A:Around} {E:Value->Shared->Prop} {s:Shared}
theorem sorted_tail {zs:List (Value × List Int)} {Q:Value->Shared->Prop} (hz:∀ p ∈ zs,OneT s.heap p) (h64:zs.length < 64)
  (h:∀ (zs':List (Value × List Int)) h' e,zs'.Perm zs->Risen (zs'.map (·.2))->(∀ b o,s.heap.get? b=some o->h'.get? b=some o)->h'.get? s.heap.objs.size=some (seqObj "list" (zs'.map (·.1)).toArray e)->Q (.ref s.heap.objs.size) { s with heap:=h' }) :
  wpAny (model prog w) A (newList (zs.map (·.1)) >>= fun l=>holding [l] (call (.builtin "list.sort") [l]) >>= fun _=>ret l) (fun fin s'=>∃ r,fin = .done (.ret r)/\Q r s') E s:=by
 have hlen:(zs.map (·.1)).length=zs.length:=List.length_map _
 refine wpAny_bind (wpAny_newList ?_ (by rw [sizeLine_eq]; omega))
 have hoL:(s.heap.push (seqObj "list" (zs.map (·.1)).toArray 0)).get? s.heap.objs.size=some (seqObj "list" (zs.map (·.1)).toArray 0):=Heap.get?_push_size _ rfl
 refine wpAny_bind (wpAny_holding (wpAny_call_entry slot_list_sort ⟨_,hoL,rfl⟩ entry_list_sort ?_ (args_list_sort _)))
 refine list_sortT (s:={ s with heap:=s.heap.push (seqObj "list" (zs.map (·.1)).toArray 0) }) hoL (tups_of fun p hp=>?_) (by omega) fun p a1 a2=>⟨_,rfl,?_⟩
 ·obtain ⟨x,o,xs,k,e1,e2,e3⟩:=hz p hp
  exact ⟨x,o,xs,k,e1,Heap.get?_push_of_some _ e2,e3⟩
 rw [hlen] at a1 a2
 have hmap:p.toList.map (fun i=>(zs.map (·.1)).getD i Value.none)=(p.toList.map fun i=>zs.getD i (Value.none,[])).map (·.1):=by
  rw [List.map_map]
  refine List.map_congr_left fun i hi=>?_
  show (zs.map (·.1)).getD i Value.none=(zs.getD i (Value.none,[])).1
  rw [List.getD_eq_getElem?_getD,List.getD_eq_getElem?_getD,List.getElem?_map]
  cases zs[i]? <;> rfl
 have hperm:(p.toList.map fun i=>zs.getD i (Value.none,[])).Perm zs:=by
  have h1:p.toList.Perm (List.range zs.length):=by
   have:=Array.perm_iff_toList_perm.mp a1
   simpa using this
  refine (h1.map _).trans ?_
  have:(List.range zs.length).map (fun i=>zs.getD i (Value.none,[]))=zs:=by
   refine List.ext_getElem (by simp) fun i h1 h2=>?_
   rw [List.getElem_map,List.getElem_range,List.getD_eq_getElem?_getD,List.getElem?_eq_getElem h2]
   rfl
  rw [this]
 have hne:∀ b o,s.heap.get? b=some o->b ≠ s.heap.objs.size:=fun b o e=>Nat.ne_of_lt (Heap.lt_size e)
 obtain ⟨e1,he1⟩:∃ e1,((s.heap.push (seqObj "list" (zs.map (·.1)).toArray 0)).update s.heap.objs.size (Obj.mapSeq fun _=>(#[]:Array Value))).get? s.heap.objs.size=some (seqObj "list" #[] e1):=⟨_,get?_update_seq hoL fun _=>#[]⟩
 have g1:=Heap.get?_push_of_some (seqObj "list" #[] 0) (Heap.get?_push_of_some (seqObj "tuple" (zs.map (·.1)).toArray 0) he1)
 have g2:=get?_update_seq g1 (fun _=>outP (zs.map (·.1)) p)
 generalize (if ((outP (zs.map (·.1)) p).size == (#[]:Array Value).size)=true then e1 else e1 + 1)=c1 at g2
 have hend:(sortedHeap (s.heap.push (seqObj "list" (zs.map (·.1)).toArray 0)) s.heap.objs.size (zs.map (·.1)) (outP (zs.map (·.1)) p)).get? s.heap.objs.size=some (seqObj "list" (outP (zs.map (·.1)) p) c1):=g2
 have hout:outP (zs.map (·.1)) p=((p.toList.map fun i=>zs.getD i (Value.none,[])).map (·.1)).toArray:=by unfold outP; rw [hmap]
 have hris:Risen ((p.toList.map fun i=>zs.getD i (Value.none,[])).map (·.2)):=by
  unfold Risen
  rw [List.map_map]
  refine List.pairwise_iff_getElem.mpr fun i j hi hj hij=>?_
  rw [List.length_map,Array.length_toList,a1.sz] at hi hj
  have hk:∀ k (hk:k < zs.length),Kp (O:=lexO) (fun i=>(zs.map (·.2)).getD i []) p k=(zs.getD (p.getD k 0) (Value.none,[])).2:=fun k hk=>by
   show (zs.map (·.2)).getD (p.getD k 0) []=_
   rw [List.getD_eq_getElem?_getD,List.getD_eq_getElem?_getD,List.getElem?_map]
   cases zs[p.getD k 0]? <;> rfl
  have hg:∀ k (hk:k < p.toList.length),p.toList[k]=p.getD k 0:=fun k hk=>by
   have:k < p.size:=by simpa using hk
   simp [Array.getD,this]
  have this:HT.lexLt (Kp (O:=lexO) (fun i=>(zs.map (·.2)).getD i []) p j) (Kp (O:=lexO) (fun i=>(zs.map (·.2)).getD i []) p i)=false:=a2 i j (Nat.le_of_lt hij) hj
  rw [hk i hi,hk j hj] at this
  rw [List.getElem_map,List.getElem_map,hg,hg]
  exact this
 have hkeep:∀ b o,s.heap.get? b=some o->(sortedHeap (s.heap.push (seqObj "list" (zs.map (·.1)).toArray 0)) s.heap.objs.size (zs.map (·.1)) (outP (zs.map (·.1)) p)).get? b=some o:=fun b o e=>by
  unfold sortedHeap
  rw [Heap.get?_update_ne _ _ _ _ (hne b o e)]
  refine Heap.get?_push_of_some _ (Heap.get?_push_of_some _ ?_)
  rw [Heap.get?_update_ne _ _ _ _ (hne b o e)]
  exact Heap.get?_push_of_some _ e
 rw [hout] at hend hkeep
 have hq:=h (p.toList.map fun i=>zs.getD i (Value.none,[])) _ c1 hperm hris hkeep hend
 rw [<- hout] at hq
 exact wpAny_pure ⟨_,rfl,hq⟩
theorem sorted_entry {v:Value} {Q:Value->Shared->Prop} (h:wpAny (model prog w) A.in1 (collect v) (fun vs s'=>wpAny (model prog w) A.in1 (newList vs >>= fun l=>holding [l] (call (.builtin "list.sort") [l]) >>= fun _=>ret l) (fun fin s'=>∃ r,fin = .done (.ret r)/\Q r s') E s') E s) :
  wpAny (model prog w) A (call (.builtin "sorted") [v]) Q E s:=by
 refine Calls.call_function_entry kind_sorted plain_sorted entry_sorted (args_sorted1 _) ?_
 unfold Builtin.«sorted»
 refine wpAny_bind (m:=checkCount "sorted" 1 1 _) (wpAny_pure (wpAny_bind ?_))
 exact h
end
end VL
namespace VL
open PySem PySem.Spec PyProof.Rows L2
inductive TupsV (K:PySem.W.Frag) (H:Hp):List V->List (List Int)->Prop where
 | nil:TupsV K H [] []
 | cons {a:Addr} {ns:List Int} {vs:List V} {nss:List (List Int)} (h:SqT K H a (ns.map V.int)) (hne:ns ≠ []) (r:TupsV K H vs nss):TupsV K H (.ref a :: vs) (ns :: nss)
noncomputable def refv:V->Value
 | .ref a=>.ref a
 | _=>.none
theorem TupsV.vals {K:PySem.W.Frag} {H:Hp}:∀ {vs:List V} {nss:List (List Int)} {us:List Value},TupsV K H vs nss->Vals vs us->us=vs.map refv:=by
 intro vs nss us t v
 induction v generalizing nss with
 | nil=>rfl
 | cons q s ih =>
  cases t with
  | cons _ _ r =>
   cases q
   rw [List.map_cons,ih r]
   rfl
theorem TupsV.len {K:PySem.W.Frag} {H:Hp}:∀ {vs:List V} {nss:List (List Int)},TupsV K H vs nss->vs.length=nss.length
 | _,_,.nil=>rfl
 | _,_,.cons _ _ r=>by rw [List.length_cons,List.length_cons,r.len]
theorem TupsV.refs {K:PySem.W.Frag} {H:Hp}:∀ {vs:List V} {nss:List (List Int)},TupsV K H vs nss->∀ v ∈ vs,RelV v (refv v)
 | _,_,.nil,v,hv=>by simp at hv
 | _,_,.cons _ _ r,v,hv=>by
  rcases List.mem_cons.mp hv with e | hv
  ·subst e; exact rfl
  ·exact r.refs v hv
theorem TupsV.up {K:PySem.W.Frag} {H H':Hp} (s:Same H H'):∀ {vs:List V} {nss:List (List Int)},TupsV K H vs nss->TupsV K H' vs nss
 | _,_,.nil=>.nil
 | _,_,.cons h hne r=>.cons (s.sqt h) hne (r.up s)
theorem TupsV.at {X:Cx} {pins:List (Addr × Obj)} {σ:L2.St} {H:Hp} {s:Shared} (I:Inv X pins σ H s):∀ {vs:List V} {nss:List (List Int)},TupsV X.K H vs nss->TupsAt s.heap (vs.map refv) nss
 | _,_,.nil=>.nil
 | _,_,.cons h hne r=>by
  obtain ⟨its,rv,⟨o,ho,hc,n,hd⟩,_⟩:=I.tuple h
  exact .cons ho hc hd (by simpa using intsAre_of rv) hne (r.at I)
theorem vals_refv:∀ {vs:List V},(∀ v ∈ vs,RelV v (refv v))->Vals vs (vs.map refv)
 | [],_=>.nil
 | v :: vs,h=>.cons (h v List.mem_cons_self) (vals_refv fun u hu=>h u (List.mem_cons_of_mem _ hu))
noncomputable def setφ (w:World) (a:Addr) (us:List Value) (nss:List (List Int)):Heap->Prop:=fun h=>∃ es ep t,h.get? a=some (setObj es ep t)/\TbOk t es.size/\t.led=(!w.params.followText "set-order")/\es.toList.Perm (prs us nss)
section
variable {X:Cx}
noncomputable def rSetT (K:PySem.W.Frag) (w:World):List V->Hp->VK->Prop:=fun xs H Q=>∃ p vs nss,xs=[.ref p]/\SqL K H p vs/\TupsV K H vs nss/\vs.length < 64/\(nss.map hsh).Nodup/\∀ a H',Same H H'->H' a=some (.ext (setφ w a (vs.map refv) nss))->H a=none->Q (.ref a) H'
theorem call_setTV (hc:X.calm=true) (hu:X.A.units + 64 < cLine):CallR X (.type "set") (rSetT X.K X.w):=by
 intro pins s σ H xs us Q I r h
 obtain ⟨p,vs,nss,rfl,hp,ht,h64,hnd,q⟩:=h
 obtain ⟨u,rfl,ru⟩:=vals1 r
 cases ru
 obtain ⟨its,rv,pl,hz⟩:=I.list hp
 have e:=ht.vals rv
 subst e
 refine PySem.call_setT (I.ok.hd hc) (by omega) pl.isList (ht.at I) (by rw [List.length_map]; exact h64) hnd fun h' tk es t g1 g2 g3 g4 g5=>?_
 have hfr:H s.heap.objs.size=none:=I.hok.fresh (Nat.le_refl _)
 obtain ⟨ep,ge⟩:=g1
 have hsz:es.size=(vs.map refv).length:=by rw [<- Array.length_toList,g4.length_eq,prs_len (ht.at I).len]
 refine ⟨.ref s.heap.objs.size,upd H s.heap.objs.size (.ext (setφ X.w s.heap.objs.size (vs.map refv) nss)),I.laid (t':=tk) g5 (Nat.le_refl _) ⟨⟨es,ep,t,ge,by rw [hsz]; exact g2,g3,g4⟩,⟨_,ge⟩,fun h1 h2 ⟨es,ep,t,e1,e2⟩ k=>⟨es,ep,t,k _ e1,e2⟩⟩,rfl,q _ _ (same_new hfr _) upd_same hfr⟩
noncomputable def SortQ (H:Hp) (vs:List V) (nss:List (List Int)) (Q:VK):Prop:=∀ zs:List (V × List Int),zs.Perm (vs.zip nss)->Risen (zs.map (·.2))->New H (.lst (zs.map (·.1))) Q
theorem sorted_end {pins:List (Addr × Obj)} {s:Shared} {σ:L2.St} {H:Hp} {Q:VK} {vs:List V} {nss:List (List Int)} (I:Inv X pins σ H s) (ht:TupsV X.K H vs nss) (h64:vs.length < 64) (q:SortQ H vs nss Q)
  {s1:Shared} (hs1:∃ h1 tk,s1={ s with heap:=h1,toks:=tk }/\s.heap.objs.size <= h1.objs.size/\∀ b o,s.heap.get? b=some o->h1.get? b=some o) {us:List Value} {zs:List (Value × List Int)} (hz:zs.Perm ((vs.map refv).zip nss)) (hus:us=zs.map (·.1)) :
  wpAny (model X.prog X.w) X.A.in1 (newList us >>= fun l=>holding [l] (call (.builtin "list.sort") [l]) >>= fun _=>ret l) (fun fin s'=>∃ r,fin = .done (.ret r)/\EP X pins σ Q r s') X.xe s1:=by
 obtain ⟨h1,tk,rfl,hsz,keep⟩:=hs1
 subst hus
 have hall:∀ p ∈ zs,OneT h1 p:=fun p hp=>by
  obtain ⟨x,o,xs,k,e1,e2,e3⟩:=(ht.at I).all p (hz.mem_iff.mp hp)
  exact ⟨x,o,xs,k,e1,keep _ _ e2,e3⟩
 have hlen:zs.length < 64:=by
  rw [hz.length_eq,List.length_zip,List.length_map,<- ht.len,Nat.min_self]
  exact h64
 refine sorted_tail (s:={ s with heap:=h1,toks:=tk }) hall hlen fun zs' h' e a1 a2 a3 a4=>?_
 have hmap:(vs.map refv).zip nss=(vs.zip nss).map fun p=>(refv p.1,p.2):=by rw [List.zip_map_left]; rfl
 obtain ⟨ws,w1,w2⟩:=perm_map_inv (f:=fun p:V × List Int=>(refv p.1,p.2)) (a1.trans hz) hmap
 have hfr:H h1.objs.size=none:=I.hok.fresh hsz
 have hmem:∀ v ∈ ws.map (·.1),RelV v (refv v):=fun v hv=>by
  obtain ⟨p,hp,rfl⟩:=List.mem_map.mp hv
  exact ht.refs p.1 (List.of_mem_zip (w1.mem_iff.mp hp)).1
 have hws:zs'.map (·.1)=(ws.map (·.1)).map refv:=by rw [w2,List.map_map,List.map_map]; rfl
 have hwl:(ws.map (·.1)).length <= sizeLine:=by
  rw [List.length_map,w1.length_eq,List.length_zip,<- ht.len,Nat.min_self,sizeLine_eq]
  omega
 refine ⟨.ref h1.objs.size,upd H h1.objs.size (.lst (ws.map (·.1))),I.laid (t':=tk) (fun b o e=>a3 b o (keep b o e)) hsz ⟨hwl,(ws.map (·.1)).map refv,e,vals_refv hmem,?_⟩,rfl,(q ws w1 ?_).at hfr⟩
 ·rw [<- hws]; exact a4
 ·have:ws.map (·.2)=zs'.map (·.2):=by rw [w2,List.map_map]; rfl
  rw [this]
  exact a2
noncomputable def rSortS (K:PySem.W.Frag) (w:World):List V->Hp->VK->Prop:=fun xs H Q=>∃ a vs nss,xs=[.ref a]/\H a=some (.ext (setφ w a (vs.map refv) nss))/\TupsV K H vs nss/\vs.length < 64/\SortQ H vs nss Q
theorem call_sortedSV (hc:X.calm=true):CallR X (.builtin "sorted") (rSortS X.K X.w):=by
 intro pins s σ H xs us Q I r h
 obtain ⟨a,vs,nss,rfl,ha,ht,h64,q⟩:=h
 obtain ⟨u,rfl,ru⟩:=vals1 r
 cases ru
 obtain ⟨⟨es,ep,t,e1,e2,e3,e4⟩,_,_⟩:=I.hok a _ ha
 have hl2:(vs.map refv).length=nss.length:=by rw [List.length_map]; exact ht.len
 have hsz:es.size=vs.length:=by rw [<- Array.length_toList,e4.length_eq,prs_len hl2,List.length_map]
 have hh:X.A.in1.handled=none:=I.ok.hd hc
 refine sorted_entry (collect_src (src_set (ep:=ep) e2 e3) hh e1 (by rw [hsz,sizeLine_eq]; omega) fun h1 tk vs1 k0 k1 k2 k3=>?_)
 have hperm:(ordE X.w a ep es).toList.Perm (prs (vs.map refv) nss):=(ordE_perm X.w a ep es).trans e4
 obtain ⟨zs,z1,z2⟩:=perm_map_inv (f:=fun p:Value × List Int=>(hsh p.2,p.1)) hperm rfl
 have hvs:vs1=zs.map (·.1):=by
  have e5:(ordE X.w a ep es).toList.map (·.2)=zs.map (·.1):=by rw [z2,List.map_map]; rfl
  rw [<- e5]
  have hlen:(ordE X.w a ep es).toList.length=es.size:=by rw [(ordE_perm X.w a ep es).length_eq,Array.length_toList]
  refine List.ext_getElem (by rw [k2,List.length_map,hlen]) fun i g1 g2=>?_
  have:=k3 i _ (List.getElem?_eq_getElem g1)
  rw [<- Array.getElem?_toList,<- List.getElem?_map,List.getElem?_eq_getElem g2] at this
  exact (Option.some.inj this).symm
 exact sorted_end I ht h64 q ⟨h1,tk,rfl,Nat.le_of_lt k0,k1⟩ z1 hvs
end
end VL
namespace VL
open PySem PySem.Spec PyProof.Rows L2
noncomputable def insT (a:List Int):List (List Int)->List (List Int)
 | []=>[a]
 | b :: l=>if HT.lexLt b a then b :: insT a l else a :: b :: l
noncomputable def sortT:List (List Int)->List (List Int)
 | []=>[]
 | a :: l=>insT a (sortT l)
theorem insT_perm (a:List Int):∀ l,(insT a l).Perm (a :: l)
 | []=>List.Perm.refl _
 | b :: l=>by
  unfold insT
  split
  ·exact ((insT_perm a l).cons b).trans (List.Perm.swap _ _ _)
  ·exact List.Perm.refl _
theorem sortT_perm:∀ l,(sortT l).Perm l
 | []=>List.Perm.refl _
 | a :: l=>(insT_perm a _).trans ((sortT_perm l).cons a)
theorem lx_asym {a b:List Int} (h:HT.lexLt a b=true):HT.lexLt b a=false:=by
 cases e:HT.lexLt b a with
 | false=>rfl
 | true=>have:=lx_trans a b a h e; rw [lx_irr] at this; cases this
theorem lx_leT {a b c:List Int} (h1:HT.lexLt b a=false) (h2:HT.lexLt c b=false):HT.lexLt c a=false:=by
 cases e:HT.lexLt c a with
 | false=>rfl
 | true =>
  rcases lx_neg c b a e with z | z
  ·rw [h2] at z; cases z
  ·rw [h1] at z; cases z
theorem insT_risen (a:List Int):∀ l,Risen l->Risen (insT a l)
 | [],_=>List.pairwise_cons.mpr ⟨fun _ h=>by simp at h,.nil⟩
 | b :: l,h=>by
  obtain ⟨h1,h2⟩:=List.pairwise_cons.mp h
  unfold insT
  cases e:HT.lexLt b a with
  | true =>
   rw [if_pos rfl]
   refine List.pairwise_cons.mpr ⟨fun x hx=>?_,insT_risen a l h2⟩
   rcases List.mem_cons.mp ((insT_perm a l).mem_iff.mp hx) with q | q
   ·subst q; exact lx_asym e
   ·exact h1 x q
  | false =>
   rw [if_neg (by simp)]
   refine List.pairwise_cons.mpr ⟨fun x hx=>?_,h⟩
   rcases List.mem_cons.mp hx with q | q
   ·subst q; exact e
   ·exact lx_leT e (h1 x q)
theorem sortT_risen:∀ l,Risen (sortT l)
 | []=>.nil
 | a :: l=>insT_risen a _ (sortT_risen l)
theorem risen_one:∀ {a b:List (List Int)},a.Perm b->Risen a->Risen b->a=b
 | [],b,p,_,_=>p.nil_eq
 | x :: a,b,p,h1,h2=>by
  cases b with
  | nil=>exact absurd p.length_eq (by simp)
  | cons y b =>
   have hxy:x=y:=by
    obtain ⟨q1,_⟩:=List.pairwise_cons.mp h1
    obtain ⟨q2,_⟩:=List.pairwise_cons.mp h2
    have m1:x ∈ y :: b:=p.mem_iff.mp List.mem_cons_self
    have m2:y ∈ x :: a:=p.mem_iff.mpr List.mem_cons_self
    rcases List.mem_cons.mp m1 with e | m1
    ·exact e
    ·rcases List.mem_cons.mp m2 with e | m2
     ·exact e.symm
     ·exact lx_tot _ _ (q2 x m1) (q1 y m2)
   subst hxy
   rw [risen_one (List.Perm.cons_inv p) (List.pairwise_cons.mp h1).2 (List.pairwise_cons.mp h2).2]
noncomputable abbrev tupI (ns:List Int):D:=.tup (ns.map .int)
noncomputable def tupsOf:List D->Option (List (List Int))
 | []=>some []
 | .tup l :: r=>match intsOf l,tupsOf r with
  | some (n :: ns),some nss=>some ((n :: ns) :: nss)
  | _,_=>none
 | _=>none
theorem tupsOf_some:∀ {l:List D} {nss:List (List Int)},tupsOf l=some nss->l=nss.map tupI/\∀ ns ∈ nss,ns ≠ []
 | [],nss,h=>by cases h; exact ⟨rfl,fun ns h=>by simp at h⟩
 | .tup l :: r,nss,h=>by
  unfold tupsOf at h
  split at h
  ·rename_i n ns nss' e1 e2
   cases h
   obtain ⟨q1,q2⟩:=tupsOf_some e2
   rw [intsOf_some e1,q1]
   refine ⟨rfl,fun ms hm=>?_⟩
   rcases List.mem_cons.mp hm with e | hm
   ·subst e; simp
   ·exact q2 ms hm
  ·cases h
 | .non :: _,_,h=>by cases h
 | .int _ :: _,_,h=>by cases h
 | .bl _ :: _,_,h=>by cases h
 | .str _ :: _,_,h=>by cases h
 | .lst _ :: _,_,h=>by cases h
 | .dct _ _ :: _,_,h=>by cases h
 | .set _ :: _,_,h=>by cases h
 | .scr _ :: _,_,h=>by cases h
theorem tupsOf_map:∀ {nss:List (List Int)},(∀ ns ∈ nss,ns ≠ [])->tupsOf (nss.map tupI)=some nss
 | [],_=>rfl
 | [] :: nss,h=>absurd rfl (h [] List.mem_cons_self)
 | (n :: ns) :: nss,h=>by
  have ih:=tupsOf_map fun ms hm=>h ms (List.mem_cons_of_mem _ hm)
  rw [List.map_cons]
  unfold tupsOf
  rw [ih,show intsOf (List.map D.int (n :: ns))=some (n :: ns) from intsOf_map _]
theorem tupsV_of {K:PySem.W.Frag} {A:Addr->Prop} {H:Hp}:∀ {xs:List V} {nss:List (List Int)},Rps K A H xs (nss.map tupI)->(∀ ns ∈ nss,ns ≠ [])->TupsV K H xs nss
 | _,[],.nil,_=>.nil
 | _,ns :: nss,.cons h r,hne=>by
  cases h with
  | tup h r' =>
   have e:=r'.ints_of
   subst e
   exact .cons h (hne ns List.mem_cons_self) (tupsV_of r fun ms hm=>hne ms (List.mem_cons_of_mem _ hm))
theorem rps_of {K:PySem.W.Frag} {A:Addr->Prop} {H:Hp}:∀ {zs:List (V × List Int)},(∀ p ∈ zs,∃ a,p.1 = .ref a/\SqT K H a (p.2.map V.int))->Rps K A H (zs.map (·.1)) ((zs.map (·.2)).map tupI)
 | [],_=>.nil
 | p :: zs,h=>by
  obtain ⟨a,e1,e2⟩:=h p List.mem_cons_self
  rw [List.map_cons,List.map_cons,List.map_cons,e1]
  exact .cons (.tup e2 .ints) (rps_of fun q hq=>h q (List.mem_cons_of_mem _ hq))
theorem TupsV.all {K:PySem.W.Frag} {H:Hp}:∀ {vs:List V} {nss:List (List Int)},TupsV K H vs nss->∀ p ∈ vs.zip nss,∃ a,p.1 = .ref a/\SqT K H a (p.2.map V.int)
 | _,_,.nil,p,hp=>by simp at hp
 | _,_,.cons h _ r,p,hp=>by
  rw [List.zip_cons_cons] at hp
  rcases List.mem_cons.mp hp with e | hp
  ·subst e; exact ⟨_,rfl,h⟩
  ·exact r.all p hp
theorem sortQ_of {K:PySem.W.Frag} {H:Hp} {vs:List V} {nss:List (List Int)} {Q:VK} (ht:TupsV K H vs nss) (q:∀ v H',Same H H'->Rp K (fun p=>H p=none) H' v (.lst ((sortT nss).map tupI))->Q v H'):SortQ H vs nss Q:=by
 intro zs hz hr p H' s hp hn
 have e:zs.map (·.2)=sortT nss:=risen_one (((hz.map (·.2)).trans (by rw [List.map_snd_zip (by rw [ht.len]; exact Nat.le_refl _)])).trans (sortT_perm nss).symm) hr (sortT_risen nss)
 refine q _ H' s (.lst hp hn ?_)
 rw [<- e]
 exact rps_of fun p hp=>by
  obtain ⟨a,e1,e2⟩:=ht.all p (hz.mem_iff.mp hp)
  exact ⟨a,e1,s.sqt e2⟩
noncomputable def insI (a:Int):List Int->List Int
 | []=>[a]
 | b :: l=>if b < a then b :: insI a l else a :: b :: l
noncomputable def sortI:List Int->List Int
 | []=>[]
 | a :: l=>insI a (sortI l)
theorem insI_perm (a:Int):∀ l,(insI a l).Perm (a :: l)
 | []=>List.Perm.refl _
 | b :: l=>by
  unfold insI
  split
  ·exact ((insI_perm a l).cons b).trans (List.Perm.swap _ _ _)
  ·exact List.Perm.refl _
theorem sortI_perm:∀ l,(sortI l).Perm l
 | []=>List.Perm.refl _
 | a :: l=>(insI_perm a _).trans ((sortI_perm l).cons a)
theorem insI_ris (a:Int):∀ l:List Int,l.Pairwise (· <= ·)->(insI a l).Pairwise (· <= ·)
 | [],_=>List.pairwise_cons.mpr ⟨fun _ h=>by simp at h,.nil⟩
 | b :: l,h=>by
  obtain ⟨h1,h2⟩:=List.pairwise_cons.mp h
  unfold insI
  by_cases e:b < a
  ·rw [if_pos e]
   refine List.pairwise_cons.mpr ⟨fun x hx=>?_,insI_ris a l h2⟩
   rcases List.mem_cons.mp ((insI_perm a l).mem_iff.mp hx) with q | q
   ·omega
   ·exact h1 x q
  ·rw [if_neg e]
   refine List.pairwise_cons.mpr ⟨fun x hx=>?_,h⟩
   rcases List.mem_cons.mp hx with q | q
   ·omega
   ·have:=h1 x q; omega
theorem sortI_ris:∀ l,(sortI l).Pairwise (· <= ·)
 | []=>.nil
 | a :: l=>insI_ris a _ (sortI_ris l)
theorem vals_of_ints:∀ {us:List Value} {ns:List Int},IntsAre us ns->Vals (ns.map V.int) us
 | _,_,.nil=>.nil
 | _,_,.cons n t r=>.cons ⟨t,rfl⟩ (vals_of_ints r)
section
variable {X:Cx}
theorem CallR.or {f:Value} {r1 r2:List V->Hp->VK->Prop} (h1:CallR X f r1) (h2:CallR X f r2):CallR X f fun xs H Q=>r1 xs H Q\/r2 xs H Q:=fun pins s σ H xs us Q I r h=>h.elim (h1 pins s σ H xs us Q I r) (h2 pins s σ H xs us Q I r)
end
noncomputable def CallN (K:PySem.W.Frag) (r:List V->Hp->VK->Prop) (fd:List D->Rs D):Prop:=∀ (A:Addr->Prop) xs ds H (Q:VK) z,Rps K A H xs ds->fd ds = .ok z->(∀ v H',Same H H'->Rp K (fun p=>H p=none) H' v z->Q v H')->r xs H Q
theorem sim_opN {K:PySem.W.Frag} {G:Gx} {m:Mode} {r:List V->Hp->VK->Prop} {ta:TA} {fd:List D->Rs D} {g:En->Rs (List D)} (hs:CallN K r fd) (h1:SimA K G m ta g):SimE K G (some []) (tCB r ta) (opA fd g):=by
 intro τ σ H ρ lab Q R W
 refine h1 τ σ H ρ lab _ R (W.bd.imp fun d _ w x H1 s1 r1=>?_)
 obtain ⟨z,ez,w⟩:=w.okD
 exact hs (fpM m lab H) x d H1 Q z r1 ez fun v H' s r=>w v H' (s1.trans s) (r.wk fun p o _ q=>.inl (s1.free q))
section
variable {C:Ct} {pos p p2 pos2:Pos} {m:Mode} {a:Expr} {ga:En->Rs (List D)}
noncomputable def sortSetD:List D->Rs D
 | [.lst l]=>match tupsOf l with
  | some nss=>if nss.length < 64/\(nss.map hsh).Nodup then .ok (.lst ((sortT nss).map tupI)) else .st
  | none=>.st
 | _=>.st
theorem se_sortedSet (hg:∀ i,Gl (C.X i) "sorted") (hm:C.mg "sorted" = none) (hv:bootBuiltins "sorted" = some (.builtin "sorted")) (hg2:∀ i,Gl (C.X i) "set") (hm2:C.mg "set" = none) (hv2:bootBuiltins "set" = some (.type "set")) (ha:SA C m [a] ga)
  (he:∀ i,starEach [a] (C.X i).env=[(false,eval a (C.X i).env)]:=by intro _; rfl) (he2:∀ i,starEach [Expr.Call (.Name "set" p2) [a] [] pos2] (C.X i).env=[(false,eval (.Call (.Name "set" p2) [a] [] pos2) (C.X i).env)]:=by intro _; rfl) :
  SE C (some []) (.Call (.Name "sorted" p) [.Call (.Name "set" p2) [a] [] pos2] [] pos) (opA sortSetD ga):=by
 obtain ⟨t,h1,h2⟩:=ha
 have hw:∀ i,(C.X i).w=C.w:=fun i=>(C.cx i).2.1
 refine ⟨tCB (rSortS C.K C.w) (tCons (tCB (rSetT C.K C.w) t) tNil),fun i=>pe_callB (by rw [<- C.hK i,<- hw i]; exact call_sortedSV (C.calm i)) (hg i) (by rw [(C.cx i).2.2.2.1]; exact hm) hv
  (pa_cons (pe_callTy (by rw [<- C.hK i,<- hw i]; exact call_setTV (C.calm i) (C.u64 i)) (hg2 i) (by rw [(C.cx i).2.2.2.1]; exact hm2) hv2 (h1 i) (by decide) (by decide) (he i) rfl) pa_nil (he2 i)) (by decide) (by decide) (he2 i) rfl,fun τ σ H ρ lab Q R W=>?_⟩
 refine h2 τ σ H ρ lab _ R (W.bd.imp fun ds _ w xs H1 s1 r1=>?_)
 obtain ⟨z,ez,w⟩:=w.okD
 unfold sortSetD at ez
 split at ez
 ·cases r1 with
  | cons h r =>
   cases r
   cases h with
   | lst h m r =>
    split at ez
    ·rename_i nss e
     obtain ⟨e1,e2⟩:=tupsOf_some e
     subst e1
     split at ez
     ·rename_i hl
      cases ez
      have ht:=tupsV_of r e2
      have hlv:=hl.1
      rw [<- ht.len] at hlv
      refine ⟨_,_,nss,rfl,SqL.of h,ht,hlv,hl.2,fun a H2 s2 ha hn=>⟨a,_,nss,rfl,ha,ht.up s2,hlv,?_⟩⟩
      exact sortQ_of (ht.up s2) fun v H' s r=>w v H' ((s1.trans s2).trans s) (r.wk fun p o _ q=>.inl ((s1.trans s2).free q))
     ·cases ez
    ·cases ez
 ·cases ez
end
end VL
namespace VL
open PySem PySem.Spec PyProof.Rows L2
noncomputable def ddI (ns:List Int):List Int:=ns.foldl step_dedup []
theorem ddI_snoc (ns:List Int) (n:Int):ddI (ns ++ [n])=step_dedup (ddI ns) n:=by unfold ddI; rw [List.foldl_append]; rfl
theorem dd_first (ns:List Int):firstMet (fun i=>ns.getD i 0) ns.length=ddI ns:=by
 unfold firstMet ddI
 congr 1
 refine List.ext_getElem (by simp) fun i h1 h2=>?_
 rw [List.getElem_map,List.getElem_range,List.getD_eq_getElem?_getD,List.getElem?_eq_getElem h2]
 rfl
theorem dd_step {l:List Int} (hl:l.Nodup) (n:Int):(step_dedup l n).Nodup/\∀ x,x ∈ step_dedup l n ↔ x ∈ l\/x=n:=by
 unfold step_dedup
 by_cases h:l.any (· == n)=true
 ·rw [if_pos h]
  have:n ∈ l:=by simpa using h
  exact ⟨hl,fun x=>⟨.inl,fun q=>q.elim id fun e=>e ▸ this⟩⟩
 ·rw [if_neg h]
  have:n ∉ l:=by simpa using h
  refine ⟨List.nodup_append.mpr ⟨hl,by simp,fun x hx y hy e=>?_⟩,fun x=>by simp⟩
  rw [List.mem_singleton] at hy
  subst hy
  subst e
  exact this hx
theorem dd_go:∀ (ns acc:List Int),acc.Nodup->(ns.foldl step_dedup acc).Nodup/\∀ x,x ∈ ns.foldl step_dedup acc ↔ x ∈ acc\/x ∈ ns
 | [],acc,h=>⟨h,fun x=>by simp⟩
 | n :: ns,acc,h=>by
  obtain ⟨h1,h2⟩:=dd_step h n
  obtain ⟨h3,h4⟩:=dd_go ns _ h1
  refine ⟨h3,fun x=>?_⟩
  rw [List.foldl_cons,h4,h2,List.mem_cons]
  constructor
  ·rintro ((a | a) | a)
   ·exact .inl a
   ·exact .inr (.inl a)
   ·exact .inr (.inr a)
  ·rintro (a | a | a)
   ·exact .inl (.inl a)
   ·exact .inl (.inr a)
   ·exact .inr a
theorem ddI_nodup (ns:List Int):(ddI ns).Nodup:=(dd_go ns [] (by simp)).1
theorem mem_ddI (ns:List Int) (x:Int):x ∈ ddI ns ↔ x ∈ ns:=by
 have:=(dd_go ns [] (by simp)).2 x
 unfold ddI
 simpa using this
theorem ddI_le (ns:List Int):(ddI ns).length <= ns.length:=sub_len (ddI_nodup ns) fun x hx=>(mem_ddI ns x).mp hx
section
variable {X:Cx}
noncomputable def rSetI (K:PySem.W.Frag):List V->Hp->VK->Prop:=fun xs H Q=>∃ p ns,xs=[.ref p]/\(SqL K H p (ns.map V.int)\/SqT K H p (ns.map V.int))/\ns.length < 4000/\∀ a H',Same H H'->H' a=some (.set (fun k=>(ddI ns).any (· == k)) (ddI ns).length)->H a=none->Q (.ref a) H'
theorem setI_end {pins:List (Addr × Obj)} {s:Shared} {σ:L2.St} {H:Hp} {Q:VK} {ns:List Int} (I:Inv X pins σ H s) (q:∀ a H',Same H H'->H' a=some (.set (fun k=>(ddI ns).any (· == k)) (ddI ns).length)->H a=none->Q (.ref a) H') {h':Heap} {tk:Nat}
  (g1:h'.SetOf (intKind X.prog X.w) s.heap.objs.size (fun k'=>(firstMet (fun i=>ns.getD i 0) ns.length).any (· == k')) (firstMet (fun i=>ns.getD i 0) ns.length).length) (g2:∀ b o,s.heap.get? b=some o->h'.get? b=some o):EP X pins σ Q (.ref s.heap.objs.size) { s with heap:=h',toks:=tk }:=by
 rw [dd_first] at g1
 have hfr:H s.heap.objs.size=none:=I.hok.fresh (Nat.le_refl _)
 exact ⟨.ref s.heap.objs.size,upd H s.heap.objs.size (.set (fun k=>(ddI ns).any (· == k)) (ddI ns).length),I.laid (t':=tk) g2 (Nat.le_refl _) g1,rfl,q _ _ (same_new hfr _) upd_same hfr⟩
theorem setI_run {prog:Program} {w:World} {A:Around} {s:Shared} {l:Addr} {its:List Value} {ns:List Int} {oI:Obj} {St:Nat->Shared->Prop} {led:Bool} (hl:l < s.heap.objs.size) (hi:IntsAre its ns) (hz:ns.length < 4000)
  (W:WalksS prog w A.in1 (s.heap.objs.size + 1) [s.heap.objs.size + 1,l] [s.heap.objs.size + 1] (fun a b=>b=a) its.toArray.size (fun i v=>its.toArray[i]? = some v) St) (st:St 0 { s with heap:=(s.heap.push (setObj #[] 0 (.fresh 0 0 led))).push oI })
  (R:Result->Shared->Prop) (hR:∀ h' tk,h'.SetOf (intKind prog w) s.heap.objs.size (fun k'=>(firstMet (fun i=>ns.getD i 0) ns.length).any (· == k')) (firstMet (fun i=>ns.getD i 0) ns.length).length->(∀ b o,s.heap.get? b=some o->h'.get? b=some o)->R (.ok (.ret .none)) { s with heap:=h',toks:=tk }) :
  codeAny (model prog w) A (.builtin "set.update.loop" ⟨[.ref s.heap.objs.size,.ref (s.heap.objs.size + 1)],[]⟩) R { s with heap:=(s.heap.push (setObj #[] 0 (.fresh 0 0 led))).push oI }:=by
 have hlen:its.length=ns.length:=IntsAre.length hi
 have hSf:s.heap.objs.size ∉ [s.heap.objs.size + 1,l]:=by
  simp only [List.mem_cons,List.not_mem_nil,or_false,not_or]; exact ⟨Nat.ne_of_lt (Nat.lt_succ_self _),Nat.ne_of_gt hl⟩
 have hsz:its.toArray.size=ns.length:=by rw [List.size_toArray]; exact hlen
 refine PyProof.Rows.codeAny_set_update_loopS W s.heap.objs.size hSf (fun i=>ns.getD i 0) (fun i v hv=>PyProof.Rows.IntsAre.int_at hi i v (by simpa using hv)) (by rw [hsz]; unfold scanBound; omega) (its.toArray.size - 0) 0 _ (by omega) (Nat.zero_le _) st ?_ fun s' hm hS'=>?_
 ·have hget:((s.heap.push (setObj #[] 0 (.fresh 0 0 led))).push oI).get? s.heap.objs.size=some (setObj #[] 0 (.fresh 0 0 led)):=Heap.get?_push_of_some _ (Heap.get?_push_size _ rfl)
  exact PyProof.Rows.SetOf_congr ((PyProof.Rows.setObjOf_fresh (knd:=intKind prog w) led).setOf hget (by unfold scanBound; omega)) (fun _=>rfl) rfl
 ·obtain ⟨h',g',d',tk',os'⟩:=s'
  have eg:g'=s.gens:=hm.gens
  have ed:d'=s.drawn:=hm.drawn
  have eo:os'=s.os:=hm.os
  subst eg; subst ed; subst eo
  rw [hsz] at hS'
  refine hR h' tk' hS' fun b o e=>hm.heap b o ?_ (Heap.get?_push_of_some _ (Heap.get?_push_of_some _ e))
  have hb:=Heap.lt_size e
  simp only [List.mem_cons,List.not_mem_nil,or_false,not_or]
  exact ⟨Nat.ne_of_lt hb,Nat.ne_of_lt (Nat.lt_succ_of_lt hb)⟩
theorem call_setI (hc:X.calm=true):CallR X (.type "set") (rSetI X.K):=by
 intro pins s σ H xs us Q I r h
 obtain ⟨p,ns,rfl,hp,hz,q⟩:=h
 obtain ⟨u,rfl,ru⟩:=vals1 r
 cases ru
 have hh:X.A.in1.in1.in1.handled=none:=I.ok.hd hc
 have hsz:∀ o:Obj,(s.heap.push o).objs.size=s.heap.objs.size + 1:=fun o=>Heap.size_push _ _
 rcases hp with hp | hp
 ·obtain ⟨its,rv,pl,_⟩:=I.list hp
  have hI:IntsAre its ns:=intsAre_of rv
  have hl0:=pl.isList
  obtain ⟨ol,hol,hcl,nl,hdl⟩:=pl.isList
  have hlS:p < s.heap.objs.size:=Heap.lt_size hol
  refine PySem.call_set_by (T:="list") (Φ:=fun h'=>h'.SetOf (intKind X.prog X.w) s.heap.objs.size (fun k'=>(firstMet (fun i=>ns.getD i 0) ns.length).any (· == k')) (firstMet (fun i=>ns.getD i 0) ns.length).length) ⟨ol,hol,hcl⟩ F.sub_list_set F.sub_list_frozenset (by decide)
   (fun h₁ A₁ E₁ Q₁ k q=>wpAny_pyIter_list (s:={ s with heap:=h₁ }) (items:=its.toArray) ⟨ol,k _ _ hol,hcl,nl,hdl⟩ q) (fun R hR=>?_) fun h' tk g1 g2=>setI_end I q g1 g2
  rw [hsz]
  refine setI_run hlS hI hz ((Walks.list hh _ p (Nat.ne_of_lt (Nat.lt_succ_of_lt hlS)) its.toArray).toS) ⟨?_,?_⟩ R hR
  ·have e:=Heap.get?_push_size (s.heap.push (setObj #[] 0 (.fresh 0 0 (!X.w.params.followText "set-order")))) (o:={ cls:=.type "list_iterator",data:=.fields #[.ref p,.int 0 0] }) rfl
   rw [hsz] at e
   exact ⟨_,e,rfl,rfl⟩
  ·exact ⟨ol,Heap.get?_push_of_some _ (Heap.get?_push_of_some _ hol),hcl,nl,hdl⟩
 ·obtain ⟨its,rv,pl,_⟩:=I.tuple hp
  have hI:IntsAre its ns:=intsAre_of rv
  obtain ⟨ol,hol,hcl,nl,hdl⟩:=id pl
  have hlS:p < s.heap.objs.size:=Heap.lt_size hol
  refine PySem.call_set_by (T:="tuple") (Φ:=fun h'=>h'.SetOf (intKind X.prog X.w) s.heap.objs.size (fun k'=>(firstMet (fun i=>ns.getD i 0) ns.length).any (· == k')) (firstMet (fun i=>ns.getD i 0) ns.length).length) ⟨ol,hol,hcl⟩ F.sub_tuple_set F.sub_tuple_frozenset (by decide)
   (fun h₁ A₁ E₁ Q₁ k q=>wpAny_pyIter_tuple (s:={ s with heap:=h₁ }) (items:=its.toArray) ⟨ol,k _ _ hol,hcl,nl,hdl⟩ q) (fun R hR=>?_) fun h' tk g1 g2=>setI_end I q g1 g2
  rw [hsz]
  refine setI_run hlS hI hz ((Walks.tuple hh _ p (Nat.ne_of_lt (Nat.lt_succ_of_lt hlS)) its.toArray).toS) ⟨?_,?_⟩ R hR
  ·have e:=Heap.get?_push_size (s.heap.push (setObj #[] 0 (.fresh 0 0 (!X.w.params.followText "set-order")))) (o:={ cls:=.type "tuple_iterator",data:=.fields #[.ref p,.int 0 0] }) rfl
   rw [hsz] at e
   exact ⟨_,e,rfl,rfl⟩
  ·exact ⟨ol,Heap.get?_push_of_some _ (Heap.get?_push_of_some _ hol),hcl,nl,hdl⟩
theorem call_lenS:CallR X (.builtin "len") (fun xs H Q=>∃ p S n,xs=[.ref p]/\H p=some (.set S n)/\Q (.int n) H):=by
 intro pins s σ H xs us Q I r h
 obtain ⟨p,S,n,rfl,hp,q⟩:=h
 obtain ⟨u,rfl,ru⟩:=vals1 r
 cases ru
 obtain ⟨o,es,ep,t,ho,hex,hd,_,_,hb,hf,hn⟩:=I.hok p _ hp
 have:(es.size:Int) < 2 ^ 63:=by unfold scanBound at hb; omega
 refine PySem.call_len_set ho hex hd hf this ⟨.int n,H,(I.tok _).tok _,?_,q⟩
 exact ⟨_,by rw [hn]⟩
end
theorem rp_set {K:PySem.W.Frag} {A:Addr->Prop} {H:Hp} {a:Addr} {l:List Int} (nd:l.Nodup) (h:H a=some (.set (fun k=>l.any (· == k)) l.length)) (m:A a):Rp K A H (.ref a) (.set l):=.set h m (fun i=>by
 rw [Bool.eq_iff_iff]
 simp) nd
noncomputable def setD:List D->Rs D
 | [.lst l]=>match intsOf l with
  | some ns=>if ns.length < 4000 then .ok (.set (ddI ns)) else .st
  | none=>.st
 | [.tup l]=>match intsOf l with
  | some ns=>if ns.length < 4000 then .ok (.set (ddI ns)) else .st
  | none=>.st
 | _=>.st
theorem cn_set {K:PySem.W.Frag}:CallN K (rSetI K) setD:=by
 intro A xs ds H Q z r ez q
 unfold setD at ez
 split at ez
 ·cases r with
  | cons h r =>
   cases r
   cases h with
   | lst h m r =>
    split at ez
    ·rename_i ns e
     have e1:=intsOf_some e
     subst e1
     split at ez
     ·rename_i hl
      cases ez
      have e2:=r.ints_of
      subst e2
      exact ⟨_,ns,rfl,.inl (SqL.of h),hl,fun a H' s ha hn=>q _ H' s (rp_set (ddI_nodup ns) ha hn)⟩
     ·cases ez
    ·cases ez
 ·cases r with
  | cons h r =>
   cases r
   cases h with
   | tup h r =>
    split at ez
    ·rename_i ns e
     have e1:=intsOf_some e
     subst e1
     split at ez
     ·rename_i hl
      cases ez
      have e2:=r.ints_of
      subst e2
      exact ⟨_,ns,rfl,.inr h,hl,fun a H' s ha hn=>q _ H' s (rp_set (ddI_nodup ns) ha hn)⟩
     ·cases ez
    ·cases ez
 ·cases ez
noncomputable def lenX:List D->Rs D
 | [.set l]=>.ok (.int l.length)
 | ds=>lenD ds
theorem cs_lenX {K:PySem.W.Frag}:CallS K (fun xs H Q=>(∃ p ys,xs=[.ref p]/\(SqL K H p ys\/SqT K H p ys)/\Q (.int ys.length) H)\/∃ p S n,xs=[.ref p]/\H p=some (.set S n)/\Q (.int n) H) lenX:=by
 intro A xs ds H Q z r ez q
 unfold lenX at ez
 split at ez
 ·cases ez
  cases r with
  | cons h r =>
   cases r
   cases h with
   | set h m hS nd=>exact .inr ⟨_,_,_,rfl,h,q _ H (Same.refl H) (.int _)⟩
 ·exact .inl (cs_len A xs _ H Q z r ez q)
theorem imm_lenX:∀ x z,lenX x = .ok z->imm z=true:=by
 intro x z e
 unfold lenX at e
 split at e
 ·cases e; rfl
 ·exact imm_len _ _ e
section
variable {C:Ct} {pos p:Pos} {m:Mode} {a:Expr} {ga:En->Rs (List D)}
theorem se_set (hg:∀ i,Gl (C.X i) "set") (hm:C.mg "set" = none) (hv:bootBuiltins "set" = some (.type "set")) (ha:SA C m [a] ga) (he:∀ i,starEach [a] (C.X i).env=[(false,eval a (C.X i).env)]:=by intro _; rfl):SE C (some []) (.Call (.Name "set" p) [a] [] pos) (opA setD ga):=by
 obtain ⟨t,h1,h2⟩:=ha
 refine ⟨_,fun i=>pe_callTy (r:=rSetI C.K) (by rw [<- C.hK i]; exact call_setI (C.calm i)) (hg i) (by rw [(C.cx i).2.2.2.1]; exact hm) hv (h1 i) (by decide) (by decide) (he i) rfl,sim_opN cn_set h2⟩
theorem se_lenX (hg:∀ i,Gl (C.X i) "len") (hm:C.mg "len" = none) (ha:SA C m [a] ga) (he:∀ i,starEach [a] (C.X i).env=[(false,eval a (C.X i).env)]:=by intro _; rfl):SE C (some []) (.Call (.Name "len" p) [a] [] pos) (opA lenX ga) :=
 se_cut (se_callB (fun i=>by have h:=(call_len_seq (X:=C.X i)).or call_lenS; rw [C.hK i] at h; exact h) cs_lenX hg hm PySem.boot_len ha (by decide) (by decide) he) fun _ _ h=>imm_opA imm_lenX h
end
end VL
namespace VL
open PySem PySem.Spec PyProof.Rows L2
section
variable {K:PySem.W.Frag} {G:Gx} {wi:TI} {fi:En->Rs (List D)} {g:TG} {fg:D->En->Rs En} {tt:TT}
end
section
variable {C:Ct} {pos lpos:Pos} {tg iter:Expr} {sc:Scope} {N:List Str} {js:List (Option Nat)} {ks:List Nat} {fi:En->Rs (List D)} {fg:D->En->Rs En}
end
noncomputable def insAt {α:Type} (l:List α) (i:Int) (y:α):List α:=l.take (if i < 0 then (i + (l.length:Int)).toNat else min i.toNat l.length) ++ y :: l.drop (if i < 0 then (i + (l.length:Int)).toNat else min i.toNat l.length)
theorem insAt_len {α:Type} (l:List α) (i:Int) (y:α):(insAt l i y).length=l.length + 1:=by
 unfold insAt
 rw [List.length_append,List.length_cons,List.length_take,List.length_drop]
 omega
noncomputable def rInsA:V->List V->Hp->VK->Prop:=fun x vs H Q=>∃ l xs i y,x = .ref l/\vs=[.int i,y]/\H l=some (.lst xs)/\-(2 ^ 63) <= i/\i < 2 ^ 63/\xs.length < sizeLine/\∀ H',Butl l H H'->H' l=some (.lst (insAt xs i y))->Q .non H'
theorem mt_insA {X:Cx}:MtM X "list.insert" rInsA:=by
 intro pins s σ H x vs v us Q I rx rv h
 obtain ⟨l,xs,i,y,rfl,rfl,hH,h1,h2,hz,q⟩:=h
 cases rx
 obtain ⟨u1,u2,rfl,r1,r2⟩:=vals2 rv
 obtain ⟨t,rfl⟩:=r1
 obtain ⟨z,its,n,r,hl,e⟩:=I.lstM hH
 have hf:Builtin.List.listFitsIndex i=true:=by unfold Builtin.List.listFitsIndex; simp; omega
 refine call_meets PySem.F.slot_list_insert ⟨_,e,rfl⟩ PySem.F.entry_list_insert (PySem.F.args_list_insert_3 _ _ _) (PySem.AutoSeq1.list_insert_list_int_val_1 l its.toArray n i t u2 (by simp [hf]) (by rw [List.size_toArray]; omega)) ⟨e,?_⟩
 refine ⟨.non,_,I.lset (ys:=insAt xs i y) (its':=insAt its i u2) hH e ?_ ?_ ?_,rfl,q _ (fun b o ne hb=>by rw [upd_ne ne]; exact hb) upd_same⟩
 ·show (its.toArray.extract 0 (if i < 0 then (i + (its.toArray.size:Int)).toNat else min i.toNat its.toArray.size)).push u2 ++ its.toArray.extract (if i < 0 then (i + (its.toArray.size:Int)).toNat else min i.toNat its.toArray.size)=(insAt its i u2).toArray
  rw [PySem.W.kl_ins_eq,List.size_toArray]
  rfl
 ·unfold insAt
  rw [hl]
  exact (r.take _).append (.cons r2 (r.drop _))
 ·rw [insAt_len]; omega
theorem Rps.insAt {K:PySem.W.Frag} {A:Addr->Prop} {H:Hp} {xs:List V} {ds:List D} {x:V} {d:D} (r:Rps K A H xs ds) (h:Rp K A H x d) (i:Int):Rps K A H (VL.insAt xs i x) (VL.insAt ds i d):=by
 unfold VL.insAt
 rw [r.length]
 exact (r.take _).append (.cons h (r.drop _))
section
variable {C:Ct} {pos apos cpos p:Pos} {e e1 e2:Expr} {fe f1 f2:En->Rs D} {i:Nat} {x:Str} {m m1:Mode}
noncomputable def insS (i:Nat) (f1 f2:En->Rs D):En->Ou:=fun ρ=>match ρ[i]? with
 | some (.ow (.lst ds))=>(f1 ρ).bo fun k=>match k with
  | .int n=>(f2 ρ).bo fun d=>if -(2 ^ 63) <= n/\n < 2 ^ 63/\ds.length < sizeLine then .nx (ρ.set i (.ow (.lst (insAt ds n d)))) else .st
  | _=>.st
 | _=>.st
theorem ss_insert (i:Nat) (he1:SE C m1 e1 f1) (he2:SE C m e2 f2) (hm:okN m=true:=by rfl) (hN:∀ j,(C.X j).N[i]? = some x:=by intro _; rfl) (hv:∀ j,Vis (C.X j).env.scope x:=by intro _; first | exact Or.inl rfl | exact Or.inr (Or.inl rfl) | exact Or.inr (Or.inr rfl)) (hd:(x == ("__debug__" : Str))=false:=by decide)
  (hcd:(x == ("__classdict__" : Str))=false:=by decide) (hs1:∀ j,starEach [e1,e2] (C.X j).env=(false,eval e1 (C.X j).env) :: starEach [e2] (C.X j).env:=by intro _; rfl) (hs2:∀ j,starEach [e2] (C.X j).env=[(false,eval e2 (C.X j).env)]:=by intro _; rfl)
  (hbase:∀ j,attributeBase (.Name x p) "insert" (C.X j).env (eval (.Name x p) (C.X j).env)=eval (.Name x p) (C.X j).env:=by intro _; rfl)
  (hfew:∀ j,((backTo cpos (starEach [e1,e2] (C.X j).env)).all (fun x=>!x.1) && (backToKw cpos (keywordEach [] (C.X j).env)).all (fun x=>x.1.isSome) && decide ([e1,e2].length + ([]:List Keyword).length + (if ([]:List Keyword).isEmpty then 0 else 1) < 30))=true:=by intro _; rfl)
  (hline:(apos.endLine == cpos.line)=true:=by rfl) (hplain:∀ j,(backTo cpos (starEach [e2] (C.X j).env)).any (·.1)=false:=by intro _; rfl)
  (hsw:∀ j,swapsWith (.Call (.Attribute (.Name x p) "insert" apos) [e1,e2] [] cpos) none pos.line (C.X j).env=pure false:=by intro _; rfl) :
  SS C (.Expr (.Call (.Attribute (.Name x p) "insert" apos) [e1,e2] [] cpos) pos) (insS i f1 f2):=by
 obtain ⟨t1,a1,a2⟩:=he1
 obtain ⟨t2,b1,b2⟩:=he2
 refine ⟨tDrop (tBM C.K "list" rInsA (tVar i) (tCons t1 (tCons t2 tNil))),fun j=>ps_expr (by rw [<- C.hK j]; exact pe_bm PySem.F.plainAttrs_list PySem.F.slot_list_insert PySem.F.type_list_insert mt_insA (pe_var (hN j) (hv j) hd hcd) (pa_cons (a1 j) (pa_cons (b1 j) pa_nil (hs2 j)) (hs1 j)) (hbase j) (hfew j) hline (hs1 j) (hplain j)) (hsw j),fun τ σ H ρ lab De R W=>?_⟩
 unfold insS at W
 cases es:ρ[i]? with
 | none=>rw [es] at W; exact False.elim W
 | some s =>
  rw [es] at W
  split at W
  ·rename_i ds hs
   cases hs
   rcases R.sl i _ es with z | ⟨v,ev,hv'⟩
   ·cases z
   ·obtain ⟨hv1,htop⟩:=hv'
    obtain ⟨a0,ea0,la0⟩:=htop rfl
    subst ea0
    cases hv1 with
    | lst h mm r =>
     rename_i xs
     refine ⟨.ref a0,ev,.inl ⟨rfl,xs,SqL.of h⟩,a2 τ σ H ρ lab _ R (W.bo.imp fun k _ w y1 H1 s1 r1=>?_)⟩
     cases k with
     | int n =>
      cases r1
      refine b2 τ σ H1 ρ lab _ (R.up s1) (w.bo.imp fun d _ w y H2 s2 r2=>?_)
      by_cases hz : -(2 ^ 63) <= n/\n < 2 ^ 63/\ds.length < sizeLine
      ·rw [if_pos hz] at w
       refine ⟨a0,xs,n,y,rfl,rfl,(s1.trans s2) _ _ h,hz.1,hz.2.1,by rw [r.length]; exact hz.2.2,fun H3 B h3=>?_⟩
       obtain ⟨R',r'⟩:=(R.up s1).fresh (P:=fun k=>k=1) rfl (fun k hk=>beq_iff_eq.mp (only_in hm k hk)) s2 r2
       have h1:H1 a0=some (.lst xs):=s1 _ _ h
       have la:(newLab H1 1 lab a0).1=i + 2:=by rw [newLab_old h1]; exact la0
       refine w σ H3 _ (R'.mut ev (s2 _ _ h1) rfl la B ⟨.lst h3 (.inr la) ?_,fun _=>⟨a0,rfl,la⟩⟩)
       have ra:Rps C.K (fun p=>((newLab H1 1 lab p).1=1\/(newLab H1 1 lab p).1=i + 2)/\p ≠ a0) H2 (insAt xs n y) (insAt ds n d):=by
        refine (r.mono (s1.trans s2) fun p o e z=>⟨by rw [newLab_old (s1 _ _ e)]; exact z.1,z.2⟩).insAt (r'.wk fun p o e z=>⟨.inl z,fun q=>?_⟩) n
        subst q
        rw [la] at z
        omega
       exact ra.but B (s2 _ _ h1) rfl fun z=>z.2 rfl
      ·rw [if_neg hz] at w
       exact False.elim w
     | _=>exact False.elim w
  ·exact False.elim W
end
end VL
namespace VL
open PySem PySem.Spec PyProof.Rows L2
section
variable {C:Ct} {pos p:Pos} {a:Expr} {ga:En->Rs (List D)} {m:Mode}
end
theorem len1 {α:Type}:∀ {us:List α},us.length=1->∃ a0,us=[a0]
 | [a0],_=>⟨a0,rfl⟩
theorem len2 {α:Type}:∀ {us:List α},us.length=2->∃ a0 a1,us=[a0,a1]
 | [a0,a1],_=>⟨a0,a1,rfl⟩
theorem len3 {α:Type}:∀ {us:List α},us.length=3->∃ a0 a1 a2,us=[a0,a1,a2]
 | [a0,a1,a2],_=>⟨a0,a1,a2,rfl⟩
theorem len4 {α:Type}:∀ {us:List α},us.length=4->∃ a0 a1 a2 a3,us=[a0,a1,a2,a3]
 | [a0,a1,a2,a3],_=>⟨a0,a1,a2,a3,rfl⟩
end VL
namespace VL
open PySem PySem.Spec PyProof.Rows L2
noncomputable def scD (fi:En->Rs (List D)) (js:List (Option Nat)) (fg:D->En->Rs En) (ft:En->Rs Bool) (fe:En->Rs D):En->Rs D:=fun ρ=>(fi (shE ρ)).bd fun ds =>
 if ds.length < 4000 then (match lcL (stE js (shE ρ)) fg ft fe ds with
  | .ok l=>(match intsOf l with
   | some ns=>.ok (.set (ddI ns))
   | none=>.st)
  | _=>.st) else .st
theorem ddI_add (pre:List Int) (i:Int):(fun k=>(ddI pre).any (· == k) || decide (k=i))=(fun k=>(ddI (pre ++ [i])).any (· == k)):=by
 funext k
 rw [Bool.eq_iff_iff,Bool.or_eq_true,List.any_eq_true,List.any_eq_true,decide_eq_true_eq]
 constructor
 ·rintro (⟨x,hx,e⟩ | e)
  ·exact ⟨x,(mem_ddI _ _).mpr (List.mem_append_left _ ((mem_ddI _ _).mp hx)),e⟩
  ·exact ⟨k,(mem_ddI _ _).mpr (List.mem_append_right _ (by rw [e]; exact List.mem_singleton.mpr rfl)),beq_self_eq_true k⟩
 ·rintro ⟨x,hx,e⟩
  have e':=eq_of_beq e
  subst e'
  rcases List.mem_append.mp ((mem_ddI _ _).mp hx) with z | z
  ·exact .inl ⟨x,(mem_ddI _ _).mpr z,beq_self_eq_true x⟩
  ·exact .inr (List.mem_singleton.mp z)
theorem ddI_many (pre:List Int) (i:Int):(if (ddI pre).any (· == i)=true then (ddI pre).length else (ddI pre).length + 1)=(ddI (pre ++ [i])).length:=by
 rw [ddI_snoc]
 unfold step_dedup
 split
 ·rfl
 ·rw [List.length_append,List.length_singleton]
section
variable {K:PySem.W.Frag} {G:Gx} {wi:TI} {fi:En->Rs (List D)} {js:List (Option Nat)} {g:TG} {fg:D->En->Rs En} {tt:TT} {ft:En->Rs Bool} {te:TE} {fe:En->Rs D}
theorem sim_setc (hi:SimI K G wi fi) (hg:SimG K { G with E:=fun _ _ _=>False } g fg) (ht:SimT K { G with E:=fun _ _ _=>False } tt ft) (he:SimE K { G with E:=fun _ _ _=>False } (some []) te fe) :
  SimE K G (some []) (tCBk (fun _=>.set (fun _=>false) 0) wi (stV js) g tt (tbSet te)) (scD fi js fg ft fe):=by
 intro τ σ H ρ lab Q R W
 refine hi τ σ H _ _ _ R.shE (W.bd.imp fun ds _ w J H1 lab1 τ1 s1 _ R1 jl=>?_)
 intro l hl
 obtain ⟨hlen,out,ns,hout,hns,w⟩:ds.length < 4000/\∃ out ns,lcL (stE js (VL.shE ρ)) fg ft fe ds = .ok out/\intsOf out=some ns/\QE K (some []) lab H Q (.set (ddI ns)):=by
  by_cases hlen:ds.length < 4000
  ·rw [if_pos hlen] at w
   cases hout:lcL (stE js (VL.shE ρ)) fg ft fe ds with
   | ok out =>
    rw [hout] at w
    dsimp only at w
    cases hns:intsOf out with
    | some ns=>rw [hns] at w; exact ⟨hlen,out,ns,rfl,hns,w⟩
    | none=>rw [hns] at w; exact False.elim w
   | ex c=>rw [hout] at w; exact False.elim w
   | st=>rw [hout] at w; exact False.elim w
  ·rw [if_neg hlen] at w
   exact False.elim w
 have hmap:out=ns.map .int:=intsOf_some hns
 have R0:RR K { G with E:=fun _ _ _=>False } (τ1 ++ τ) (VL.shE ρ) σ H1 (fun _=>(0,0)):=R1.blk0 rfl
 have RB:=R0.block (js:=js) (fun _=>Nat.zero_le _) hl
 have hHl:H l=none:=s1.free hl
 have lab1l:¬ ((fun p=>if p=l then ((2,0):Nat × Nat) else (0,0)) l).1 <= 1:=by simp
 refine ⟨fun i n H2=>∃ pre:List Int,n=ds.length - i/\i <= ds.length/\H2 l=some (.set (fun k=>(ddI pre).any (· == k)) (ddI pre).length)/\RR K { G with E:=fun _ _ _=>False } (τ1 ++ τ) (stE js (VL.shE ρ)) (stV js σ) H2 (fun p=>if p=l then (2,0) else (0,0))/\Same H H2/\pre.length <= i /\
  ∃ post,lcL (stE js (VL.shE ρ)) fg ft fe (ds.drop i) = .ok post/\out=pre.map .int ++ post,⟨ds.length,[],by omega,by omega,upd_same,RB.up (same_new hl _),s1.trans (same_new hl _),Nat.le_refl _,out,hout,rfl⟩,?_⟩
 rintro i n H2 ⟨pre,rfl,hi,hH2,R2,s2,hacc,post,hpost,eout⟩
 have jj:=jl _ H2 fun q hq=>R2.tm q (List.mem_append_left _ hq)
 by_cases hlt:i < ds.length
 ·obtain ⟨go,yl⟩:=(jj i).2 hlt
  refine .inr ⟨go,fun x H3 hy=>?_⟩
  obtain ⟨s3,d,ed,rx⟩:=yl x H3 hy
  replace R2:=R2.up s3
  replace hH2:=s3 _ _ hH2
  replace s2:=s2.trans s3
  have ed2:ds.drop i=d :: ds.drop (i + 1):=by
   rw [List.drop_eq_getElem_cons hlt]
   have:=List.getElem?_eq_getElem hlt
   rw [ed] at this
   cases this
   rfl
  rw [ed2] at hpost
  obtain ⟨ρ1,k,e1,e2,e3⟩:=lcL_drop hpost
  refine hg (τ1 ++ τ) x d _ H3 _ _ _ ρ1 R2 rx e1 fun σ4 R4=>?_
  refine ht (τ1 ++ τ) σ4 H3 ρ1 _ _ R4 ?_
  rw [e2]
  intro H5 s5
  rcases e3 with ⟨rfl,y,ys,e3,e4,rfl⟩ | ⟨rfl,e4⟩
  ·rw [if_pos rfl]
   refine he (τ1 ++ τ) σ4 H5 ρ1 _ _ (R4.up s5) ?_
   rw [e3]
   intro v H6 s6 r6
   obtain ⟨z,rfl⟩:∃ z,y = .int z:=by
    have h1:out[pre.length]? = some y:=by rw [eout,List.getElem?_append_right (by simp)]; simp
    rw [hmap,List.getElem?_map] at h1
    cases h2:ns[pre.length]? with
    | none=>rw [h2] at h1; cases h1
    | some z=>rw [h2] at h1; cases h1; exact ⟨z,rfl⟩
   have ev:=r6.int_inv
   subst ev
   have hl6:H6 l=some (.set (fun k=>(ddI pre).any (· == k)) (ddI pre).length):=s6 _ _ (s5 _ _ hH2)
   have hn:(ddI pre).length + 1 < scanBound:=by
    have:=ddI_le pre
    have:scanBound=4096:=rfl
    omega
   refine ⟨z,_,_,rfl,hl6,hn,?_⟩
   rw [ddI_add,ddI_many]
   have B:Butl l H6 (upd H6 l (.set (fun k=>(ddI (pre ++ [z])).any (· == k)) (ddI (pre ++ [z])).length)):=fun b o ne hb=>by rw [upd_ne ne]; exact hb
   refine ⟨ds.length - (i + 1),by omega,pre ++ [z],rfl,hlt,upd_same,?_,?_,by rw [List.length_append]; simp; omega,ys,e4,by rw [eout]; simp⟩
   ·exact (R2.up (s5.trans s6)).but_blk B hl6 rfl (R1.old.free hl)
   ·exact fun b o hb=>B b o (fun z=>by subst z; rw [hHl] at hb; cases hb) (((s2.trans s5).trans s6) b o hb)
  ·rw [if_neg Bool.false_ne_true]
   exact ⟨ds.length - (i + 1),by omega,pre,rfl,hlt,s5 _ _ hH2,R2.up s5,s2.trans s5,by omega,post,e4,eout⟩
 ·have ei:i=ds.length:=by omega
  subst ei
  rw [List.drop_length] at hpost
  cases hpost
  rw [List.append_nil] at eout
  have en:ns=pre:=by
   rw [eout,intsOf_map] at hns
   exact (Option.some.inj hns).symm
  subst en
  exact .inl ⟨(jj _).1 (Nat.le_refl _),w _ H2 s2 (rp_set (ddI_nodup ns) hH2 (.inl hHl))⟩
end
section
variable {C:Ct} {pos:Pos} {elt tg iter:Expr} {ifs:List Expr} {sc:Scope} {N:List Str} {js:List (Option Nat)} {ks:List Nat} {fi:En->Rs (List D)} {fg:D->En->Rs En} {ft:En->Rs Bool} {fe:En->Rs D}
theorem se_setc (hB:∀ i,BlkNames (C.X i) sc N (stV js) ks) (hi:SI C tg iter fi) (hg:SG (C.blk sc N) tg ks fg) (ht:SIfs (C.blk sc N) ifs ft) (he:SE (C.blk sc N) (some []) elt fe)
  (hs:∀ i x,foldedSetIterable iter (C.X i).env x=pure x:=by intro _ _; rfl):SE C (some []) (.SetComp elt [⟨tg,iter,ifs,0⟩] sc pos) (scD fi js fg ft fe):=by
 obtain ⟨wi,i1,i2⟩:=hi
 obtain ⟨g,g1,g2,g3,g4⟩:=hg
 obtain ⟨tt,t1,t2⟩:=ht
 obtain ⟨te,e1,e2⟩:=he
 exact ⟨_,fun i=>pe_setc (hB i) (C.calm i) (i1 i) (fun c fp s₀ H₀=>g1 (i,c,fp,s₀,H₀)) g3 (fun c fp s₀ H₀=>t1 (i,c,fp,s₀,H₀)) (fun c fp s₀ H₀=>e1 (i,c,fp,s₀,H₀)) (hs i),sim_setc i2 g2 t2 e2⟩
end
end VL
namespace VL
open PySem PySem.Spec PyProof.Rows L2
section
variable {C:Ct} {pos apos cpos p:Pos} {e a:Expr} {fe fa:En->Rs D} {i:Nat} {x:Str} {m:Mode}
end
end VL
namespace VL
open PySem PySem.Spec PyProof.Rows L2
section
variable {C:Ct} {pos tpos p:Pos} {ek e:Expr} {fk fe:En->Rs D} {x:Str} {m m1:Mode} {op:Operator} {g:Int->Int->Int}
end
end VL
namespace VL
open PySem PySem.Spec PyProof.Rows L2
noncomputable def intsV (j:Int):List Int:=(List.range j.toNat).map fun (k:Nat)=>0 + (k:Int)
noncomputable def rRng:List V->Hp->VK->Prop:=fun xs H Q=>∃ j:Int,xs=[.int j]/\∀ p,H p=none->Q (.ref p) (upd H p (.rng 0 j))
theorem call_rng {X:Cx}:CallR X (.type "range") rRng:=by
 intro pins s σ H vs us Q I rv h
 obtain ⟨j,rfl,q⟩:=h
 obtain ⟨u,rfl,ru⟩:=rv.one
 obtain ⟨t,rfl⟩:=ru
 exact call_range_1 ⟨.ref s.heap.objs.size,_,I.laid (a:=s.heap.objs.size) (o:=.rng 0 j) (t':=s.toks + 1 + 1) (fun _ _ q=>Heap.get?_push_of_some _ q) (Nat.le_refl _) ⟨_,_,_,Heap.get?_push_size _ rfl⟩,rfl,q _ (I.hok.fresh (Nat.le_refl _))⟩
theorem vals_of:∀ {ns:List Int} {us:List Value},ns.length=us.length->(∀ (k:Nat) i,ns[k]? = some i->∃ tk,us[k]? = some (.int i tk))->Vals (ns.map V.int) us:=by
 intro ns
 induction ns with
 | nil=>intro us hl _; rw [List.eq_nil_of_length_eq_zero hl.symm]; exact .nil
 | cons n ns ih =>
  intro us hl h
  obtain ⟨tk,e⟩:=h 0 n rfl
  cases us with
  | nil=>cases e
  | cons u us =>
   have e':u = .int n tk:=Option.some.inj e
   subst e'
   exact .cons ⟨tk,rfl⟩ (ih (Nat.succ.inj hl) fun k i hi=>h (k + 1) i hi)
theorem rngD_ints (j:Int):rngD 0 j=(intsV j).map D.int:=by
 unfold rngD intsV
 rw [List.map_map,Int.sub_zero]
 rfl
section
variable {C:Ct} {pos pos2 p p2:Pos} {a:Expr} {fa:En->Rs D} {m:Mode}
end
end VL
namespace VL
open PySem PySem.Spec PyProof.Rows L2
noncomputable def addR (ρ:En) (i:Nat) (ds:List Int):D->Ou
 | .int z=>if ds.length < 4000 then .nx (ρ.set i (.ow (.set (step_dedup ds z)))) else .st
 | _=>.st
section
variable {C:Ct} {pos apos cpos p:Pos} {e a:Expr} {fe fa:En->Rs D} {i:Nat} {x:Str} {m:Mode}
end
section
variable {C:Ct} {pos p:Pos} {a b:Expr} {fa fb:En->Rs D} {m1 m2:Mode}
end
end VL
namespace VL
open PySem PySem.Spec PyProof.Rows L2
section
variable {prog:Program} {w:World} {A:Around} {E:Value->Shared->Prop} {s:Shared} {r:Addr} {a b c:Int} {t u v:Tok} {n:Nat}
noncomputable def PR (a c:Int):Nat->Value->Prop:=fun i v=>∃ t,v = .int (a + i * c) t
theorem collect_rng {Q:List Value->Shared->Prop} (hh:A.handled=none) (hr:IsRange s.heap r a b c t u v) (hsmall:Builtin.Range.small a b c=true) (hn:Builtin.Range.rangeSize a b c=n) (hlen:n <= 2 ^ 24)
  (h:∀ h' tk vs,s.heap.objs.size < h'.objs.size->(∀ b o,s.heap.get? b=some o->h'.get? b=some o)->vs.length=n->(∀ (j:Nat) v,vs[j]? = some v->PR a c j v)->Q vs { s with heap:=h',toks:=tk }):wpAny (model prog w) A (collect (.ref r)) Q E s:=by
 unfold collect
 refine wpAny_bind (wpAny_runValue (codeAny_builtin PySem.F.entry_proto_collect ?_)); rw [Around.under_plainId PySem.F.plain_proto_collect _]
 show wpAny _ A.in1 (newList [] >>= fun l=>again (.builtin "list.__iadd__" ⟨[l,.ref r],[]⟩)) _ _ s
 refine wpAny_bind (wpAny_newObj_type (wpAny_pure ⟨plainId_quiet PySem.F.plain_list_iadd _,codeAny_builtin PySem.F.entry_list_iadd ?_⟩)); rw [Around.under_plainId PySem.F.plain_list_iadd _]
 show wpAny _ A.in1 (Builtin.List.listExtendWith (.ref s.heap.objs.size) (.ref r) (.ref s.heap.objs.size)) _ _ _
 have fin:∀ h' tk acc' c',(∀ b o,b ≠ s.heap.objs.size->(s.heap.push (seqObj "list" #[] 0)).get? b=some o->h'.get? b=some o)->h'.get? s.heap.objs.size=some { cls:=.type "list",dict:=none,data:=.seq acc' c',slots:=#[] }->ItemsOf (PR a c) acc' n ->
   wpAny (model prog w) A (do match (Value.ref s.heap.objs.size) with
    | .ref a=>match (<- load a).data with
     | .seq xs _=>pure xs.toList
     | _=>unsupported "internal:collect"
    | _=>unsupported "internal:collect") Q E { s with heap:=h',toks:=tk }:=fun h' tk acc' c' hk hS' hacc =>
  wpAny_bind (wpAny_load hS' (wpAny_pure (h h' tk acc'.toList (Heap.lt_size hS') (fun b o e=>hk b o (Nat.ne_of_lt (Heap.lt_size e)) (Heap.get?_push_of_some _ e)) (by rw [Array.length_toList]; exact hacc.1) fun j v e=>hacc.2 j v (by rw [<- Array.getElem?_toList]; exact e))))
 refine wpAny_mono (wpAny_extend_range (A:=A) (s:={ s with heap:=s.heap.push (seqObj "list" #[] 0) }) (R:=fun r s'=>∃ h' tk acc' c',r = .ok (.ret (.ref s.heap.objs.size))/\s'={ s with heap:=h',toks:=tk }/\(∀ b o,b ≠ s.heap.objs.size->(s.heap.push (seqObj "list" #[] 0)).get? b=some o->h'.get? b=some o)/\h'.get? s.heap.objs.size=some { cls:=.type "list",dict:=none,data:=.seq acc' c',slots:=#[] }/\ItemsOf (PR a c) acc' n)
  hh (Heap.get?_push_of_some _ hr) hsmall hn hlen s.heap.objs.size (.ref s.heap.objs.size) 0 (Heap.get?_push_size _ rfl) (fun h' tk acc' c' hk hS' hacc=>⟨h',tk,acc',c',rfl,rfl,hk,hS',hacc⟩)) (fun f s' hf=>?_) fun e s' he=>?_
 ·cases f with
  | done f =>
   obtain ⟨h',tk,acc',c',q1,q2,q3,q4,q5⟩:=hf
   cases q1
   subst q2
   exact fin h' tk acc' c' q3 q4 q5
  | again c =>
   refine ⟨hf.1,codeAny_mono hf.2 fun r s' hr=>?_⟩
   obtain ⟨h',tk,acc',c',q1,q2,q3,q4,q5⟩:=hr
   subst q1 q2
   exact fin h' tk acc' c' q3 q4 q5
 ·obtain ⟨h',tk,acc',c',q1,_⟩:=he
  cases q1
end
theorem meets_tuple_rng (r:Addr) (a b c:Int) (t u v:Tok) (n:Nat) (hsmall:Builtin.Range.small a b c=true) (hn:Builtin.Range.rangeSize a b c=n) (hlen:n <= 10000) :
  Meets (Builtin.«tuple.__new__» ⟨[.type "tuple",.ref r],[]⟩)
   (fun A R s=>A.handled=none/\IsRange s.heap r a b c t u v/\∀ (h':Heap) (tk:Nat) (vs:List Value),s.heap.objs.size < h'.objs.size->(∀ b o',s.heap.get? b=some o'->h'.get? b=some o')->vs.length=n->(∀ (j:Nat) v,vs[j]? = some v->PR a c j v) ->
    R (.ok (.ret (.ref h'.objs.size))) { s with heap:=h'.push { cls:=.type "tuple",data:=.seq vs.toArray },toks:=tk }) :=
 .of_wp fun prog w A R s h=>by
  obtain ⟨hp,g,d,tk,os⟩:=s; obtain ⟨hh,ht,h⟩:=h
  have hsub:=sub_tuple_self; have hinit:=init_tuple_lookup; have hmh:=madeHere_tuple
  have hT:Shared.TypeIs ⟨hp,g,d,tk,os⟩ (.ref r) "range":=⟨_,ht,rfl⟩
  wp_walk using wpAny_loadPart' ht,wpAny_typeOf hT,collect_rng (A:=A.in1) (show A.in1.handled=none from hh) ht hsmall hn (Nat.le_trans hlen (by decide))
  intro h' tk' vs hlt hk hl hv
  show wpAny _ _ (Builtin.Tuple.tupleExact vs.toArray >>= fun v=>ret v) _ _ _
  unfold Builtin.Tuple.tupleExact; refine wpAny_bind (wpAny_newObj_type ?_ (by show vs.toArray.size <= sizeLine; rw [List.size_toArray,hl,sizeLine_eq]; omega))
  exact wpAny_pure ⟨_,rfl,h h' tk' vs hlt hk hl hv⟩
noncomputable def rTupRng:List V->Hp->VK->Prop:=fun xs H Q=>∃ (p:Addr) (j:Int),xs=[.ref p]/\H p=some (.rng 0 j)/\-(2 ^ 62) <= j/\j <= 10000/\∀ l H',Same H H'->H l=none->H' l=some (.tup ((intsV j).map V.int))->Q (.ref l) H'
theorem small_rng {j:Int} (h1 : -(2 ^ 62) <= j) (h2:j <= 10000):Builtin.Range.rangeSize 0 j 1=(j.toNat:Int)/\Builtin.Range.small 0 j 1=true:=by
 have hsz:Builtin.Range.rangeSize 0 j 1=(j.toNat:Int):=by
  unfold Builtin.Range.rangeSize
  simp only [show (1:Int) > 0 by decide,if_true]
  split <;> omega
 refine ⟨hsz,?_⟩
 have fl:∀ x:Int,-(2 ^ 62) <= x->x <= 2 ^ 62->Builtin.Range.rangeFitsLong x=true:=fun x hx1 hx2=>by
  unfold Builtin.Range.rangeFitsLong
  simp
  omega
 unfold Builtin.Range.small
 rw [hsz,fl 0 (by omega) (by omega),fl j (by omega) (by omega),fl 1 (by omega) (by omega),fl _ (by omega) (by omega),if_pos (by decide),fl (j + (1 - 1)) (by omega) (by omega),Bool.or_true]
 rfl
theorem call_tupRng {X:Cx} (hc:X.calm=true):CallR X (.type "tuple") rTupRng:=by
 intro pins s σ H vs us Q I rv h
 obtain ⟨p,j,rfl,hp,h1,h2,q⟩:=h
 obtain ⟨u,rfl,ru⟩:=rv.one
 cases ru
 obtain ⟨t,u,v,hg⟩:=I.hok p _ hp
 obtain ⟨hsz,hsm⟩:=small_rng h1 h2
 refine callType_new PySem.F.called_tuple (by decide) (PySem.F.typeCall_tuple_1 _) (PySem.F.newCall_tuple_1 _) (fun obj=>PySem.F.args_object_init_2 obj _) PySem.F.entry_tuple_new
  (meets_tuple_rng p 0 j 1 t u v j.toNat hsm hsz (by omega)) ⟨I.ok.hd hc,hg,fun h' tk vs hlt hk hl hv=>⟨⟨_,Heap.get?_push_size _ rfl,rfl⟩,?_⟩⟩
 have hle:s.heap.objs.size <= h'.objs.size:=Nat.le_of_lt hlt
 have hv2:Vals ((intsV j).map V.int) vs:=by
  have hl2:(intsV j).length=vs.length:=by rw [hl]; simp [intsV]
  refine vals_of hl2 fun k i hi=>?_
  have hk2:k < vs.length:=by rw [<- hl2]; exact (List.getElem?_eq_some_iff.mp hi).1
  obtain ⟨tk,e⟩:=hv k vs[k] (List.getElem?_eq_getElem hk2)
  refine ⟨tk,?_⟩
  have ei:i=0 + (k:Int) * 1:=by
   unfold intsV at hi
   rw [List.getElem?_map] at hi
   cases c:(List.range j.toNat)[k]? with
   | none=>rw [c] at hi; cases hi
   | some m =>
    rw [c] at hi
    cases hi
    have:=List.getElem?_eq_some_iff.mp c
    have:m=k:=by simpa using this.2.symm
    subst this
    show (0:Int) + (m:Int)=0 + (m:Int) * 1
    omega
  rw [ei,<- e]
  exact List.getElem?_eq_getElem hk2
 have hfr:H h'.objs.size=none:=I.hok.fresh hle
 refine ⟨.ref h'.objs.size,upd H h'.objs.size (.tup ((intsV j).map V.int)),I.laid (t':=tk) (fun b o e=>Heap.get?_push_of_some _ (hk b o e)) hle ⟨?_,vs,hv2,?_⟩,rfl,q _ _ (same_new hfr _) hfr upd_same⟩
 ·simp [intsV]
  have:sizeLine=16777216:=sizeLine_eq
  omega
 ·exact ⟨_,Heap.get?_push_size _ rfl,rfl,0,rfl⟩
noncomputable def trR:D->Rs D
 | .int j=>if -(2 ^ 62) <= j/\j <= 10000 then .ok (.tup (rngD 0 j)) else .st
 | _=>.st
noncomputable def trD (fa:En->Rs D):En->Rs D:=fun ρ=>(fa ρ).bd trR
section
variable {C:Ct} {pos pos2 p p2:Pos} {a:Expr} {fa:En->Rs D} {m:Mode}
theorem se_tupRng (hgL:∀ i,Gl (C.X i) "tuple") (hmL:C.mg "tuple" = none) (hvL:bootBuiltins "tuple" = some (.type "tuple")) (hgR:∀ i,Gl (C.X i) "range") (hmR:C.mg "range" = none) (ha:SE C m a fa) (hs:∀ i,starEach [a] (C.X i).env=[(false,eval a (C.X i).env)]:=by intro _; rfl)
  (hs2:∀ i,starEach [.Call (.Name "range" p2) [a] [] pos2] (C.X i).env=[(false,eval (.Call (.Name "range" p2) [a] [] pos2) (C.X i).env)]:=by intro _; rfl):SE C (some []) (.Call (.Name "tuple" p) [.Call (.Name "range" p2) [a] [] pos2] [] pos) (trD fa):=by
 obtain ⟨t,h1,h2⟩:=ha
 refine ⟨tCB rTupRng (tCons (tCB rRng (tCons t tNil)) tNil),fun i=>pe_callTy (call_tupRng (C.calm i)) (hgL i) (by rw [(C.cx i).2.2.2.1]; exact hmL) hvL (pa_cons (pe_callTy call_rng (hgR i) (by rw [(C.cx i).2.2.2.1]; exact hmR) boot_range (pa_cons (h1 i) pa_nil (hs i)) (by decide) (by decide) (hs i) rfl) pa_nil (hs2 i)) (by decide) (by decide) (hs2 i) rfl,fun τ σ H ρ lab Q R W=>?_⟩
 refine h2 τ σ H ρ lab _ R (W.bd.imp fun d _ w y H1 s1 r1=>?_)
 unfold trR at w
 split at w
 ·rename_i j _
  by_cases hz : -(2 ^ 62) <= j/\j <= 10000
  ·rw [if_pos hz] at w
   have ey:=r1.int_inv
   subst ey
   refine ⟨j,rfl,fun q hq=>⟨q,j,rfl,upd_same,hz.1,hz.2,fun l H' s' hl hH'=>?_⟩⟩
   refine w _ H' ((s1.trans (same_new hq _)).trans s') (.tup (SqT.of hH') ?_)
   rw [rngD_ints]
   exact Rps.ints
  ·rw [if_neg hz] at w
   exact False.elim w
 ·exact False.elim w
end
end VL
namespace VL
open PySem PySem.Spec PyProof.Rows L2
section
variable {prog:Program} {w:World} {A:Around} {E:Value->Shared->Prop} {s:Shared} {it t:Addr} {i:Nat} {items:Array Value}
theorem nextT_item {x:Value} {Q:Value->Shared->Prop} (hit:s.heap.IsTupleIter it t i) (ht:s.heap.IsTuple t items) (hx:items[i]? = some x)
  (hQ:∀ h',h'.IsTupleIter it t (i + 1)->Heap.SameBut it s.heap h'->Q x { s with heap:=h' }):wpAny (model prog w) A (Builtin.SmallTypes.nextOf (.ref it)) Q E s:=by
 obtain ⟨o,ho,hc,hd⟩:=id hit; obtain ⟨ol,hol,_,nl,hdl⟩:=ht
 unfold Builtin.SmallTypes.nextOf; refine wpAny_bind (wpAny_callSpecial?_slot (name:=Str.ofString "__next__") hit.typeIs F.slot_tuple_iterator_next (wpAny_call_entry F.slot_tuple_iterator_next hit.typeIs F.entry_tuple_iterator_next ?_ (F.args_tuple_iterator_next_1 _)))
 show wpAny _ _ (field (.ref it) 0 >>= _) _ _ s; refine wpAny_bind (wpAny_field ho hd (x:=.ref t) rfl ?_)
 show wpAny _ _ (if (Value.ref t == Value.none)=true then _ else _) _ _ s; rw [if_neg (show ¬ ((Value.ref t == Value.none)=true) from Bool.false_ne_true)]
 show wpAny _ _ (field (.ref it) 1 >>= _) _ _ s; refine wpAny_bind (wpAny_field ho hd (x:=.int i 0) rfl ?_)
 show wpAny _ _ (seqItems? (.ref t) >>= _) _ _ s; refine wpAny_bind (wpAny_seqItems hol hdl ?_); simp only [Int.toNat_natCast,hx]
 refine wpAny_bind (wpAny_setField ho hd (by simp) (wpAny_pure ⟨x,rfl,wpAny_pure (hQ _ ⟨_,Heap.get?_update_self _ ho (Obj.isFreed_of_fields (Obj.data_mapFields hd _)),(Obj.cls_mapFields ..).trans hc,by rw [Obj.data_mapFields hd]; simp [rawInt]⟩ (Heap.SameBut.update ..))⟩))
theorem nextT_end {Q:Value->Shared->Prop} (hh:A.handled=none) (hit:s.heap.IsTupleIter it t i) (ht:s.heap.IsTuple t items) (hx:items[i]? = none)
  (hE:∀ h' e,Heap.ExtBut it s.heap h'->(∃ o,h'.get? e=some o/\o.cls = .type "StopIteration")->E (.ref e) { s with heap:=h' }):wpAny (model prog w) A (Builtin.SmallTypes.nextOf (.ref it)) Q E s:=by
 obtain ⟨o,ho,hc,hd⟩:=id hit; obtain ⟨ol,hol,_,nl,hdl⟩:=ht
 unfold Builtin.SmallTypes.nextOf; refine wpAny_bind (wpAny_callSpecial?_slot (name:=Str.ofString "__next__") hit.typeIs F.slot_tuple_iterator_next (wpAny_call_entry F.slot_tuple_iterator_next hit.typeIs F.entry_tuple_iterator_next ?_ (F.args_tuple_iterator_next_1 _)))
 show wpAny _ _ (field (.ref it) 0 >>= _) _ _ s; refine wpAny_bind (wpAny_field ho hd (x:=.ref t) rfl ?_)
 show wpAny _ _ (if (Value.ref t == Value.none)=true then _ else _) _ _ s; rw [if_neg (show ¬ ((Value.ref t == Value.none)=true) from Bool.false_ne_true)]
 show wpAny _ _ (field (.ref it) 1 >>= _) _ _ s; refine wpAny_bind (wpAny_field ho hd (x:=.int i 0) rfl ?_)
 show wpAny _ _ (seqItems? (.ref t) >>= _) _ _ s; refine wpAny_bind (wpAny_seqItems hol hdl ?_); simp only [Int.toNat_natCast,hx]
 refine wpAny_bind (wpAny_rule (wpAny_bind (wpAny_setField ho hd (by simp) ?_))); show wpAny _ _ (newExc (.type "StopIteration") [] >>= _) _ _ _
 refine wpAny_bind ?_; simp only [newExc,newTuple]; refine wpAny_bind (wpAny_newObj_type ?_ (by size_fits))
 refine wpAny_bind (m:=firstArgMember _ _) (wpAny_of_eq (a:=Value.none) (by simp only [firstArgMember]; rfl) ?_); refine wpAny_newObj_type ?_ (by size_fits); simp only [raiseNew]
 refine wpAny_bind (wpAny_handled ?_); first | rw [show A.in1.handled=none from hh] | rw [hh]
 refine wpAny_bind (wpAny_pure (wpAny_throw ?_)); exact hE _ _ (((Heap.SameBut.update ..).extBut.push _).push _) ⟨_,Heap.get?_push_size _ rfl,rfl⟩
end
theorem drawsT {prog:Program} {w:World} {A:Around} (hh:A.handled=none) (it t:Addr) (hne:t ≠ it) (items:Array Value) :
  Draws prog w A it [it,t] items.size (fun i v=>items[i]? = some v) (fun i h=>h.IsTupleIter it t i/\h.IsTuple t items) where
 live:=fun _ _ st=>let ⟨o,ho,_⟩:=st.1; ⟨o,ho⟩
 frame:=fun _ _ _ st hk=>⟨st.1.at fun o e=>hk it (by simp) o e,let ⟨o,ho,r⟩:=st.2; ⟨o,hk t (by simp) o ho,r⟩⟩
 item:=fun i s Q E hi st hQ=>nextT_item st.1 st.2 (x:=items[i]) (by simp [hi]) fun h' hit' hs'=>hQ _ h' s.toks (by simp [hi]) ⟨hit',let ⟨o,ho,r⟩:=st.2; ⟨o,(hs'.2 t hne).trans ho,r⟩⟩ hs'
 done:=fun s Q E st hE=>nextT_end hh st.1 st.2 (by simp) hE
theorem meets_enumT (l:Addr) (items:Array Value) (n:Nat) (dct:Option Addr) (sl:Array (Option Value)) :
  Meets (Builtin.«enumerate.__new__» ⟨[.type "enumerate",.ref l],[]⟩) (fun _ R s=>s.heap.get? l=some { cls:=.type "tuple",dict:=dct,data:=.seq items n,slots:=sl } /\
   R (.ok (.ret (.ref (s.heap.push { cls:=.type "tuple_iterator",data:=.fields #[.ref l,.int 0 0] }).objs.size)))
    { s with heap:=(s.heap.push { cls:=.type "tuple_iterator",data:=.fields #[.ref l,.int 0 0] }).push { cls:=.type "enumerate",data:=.fields #[.none,.bool false,.ref s.heap.objs.size,rawInt 0,.none,.none] } }) :=
 .of_wp fun prog w A R s h=>by
  obtain ⟨hp,g,d,tk,os⟩:=s; obtain ⟨hl,h⟩:=h
  have hsub:=sub_enumerate; have hL:Heap.IsTuple (Shared.heap ⟨hp,g,d,tk,os⟩) l items:=⟨_,hl,rfl,n,rfl⟩
  wp_walk using wpAny_loadPart' hl
  refine wpAny_stack_any fun st=>wpAny_pure ?_
  split
  ·rename_i c _ _ _ _ _
   cases (c == Value.type "enumerate") <;> (wp_walk using wpAny_loadPart' hl,wpAny_pyIter_tuple hL; exact ⟨_,rfl,h⟩)
  ·wp_walk using wpAny_loadPart' hl,wpAny_pyIter_tuple hL
   exact ⟨_,rfl,h⟩
theorem call_enumT {prog:Program} {w:World} {A:Around} {E:Value->Shared->Prop} {s:Shared} {l:Addr} {items:Array Value} {Q:Value->Shared->Prop} (hL:s.heap.IsTuple l items)
  (h:∀ h',IsEnum h' (s.heap.objs.size + 1) s.heap.objs.size 0 .none->h'.IsTupleIter s.heap.objs.size l 0->(∀ b o,s.heap.get? b=some o->h'.get? b=some o)->Q (.ref (s.heap.objs.size + 1)) { s with heap:=h' }) :
  wpAny (model prog w) A (call (.type "enumerate") [.ref l]) Q E s:=by
 obtain ⟨⟨c,dct,dt,sl⟩,hl,hc,n,hd⟩:=hL
 replace hc:c = .type "tuple":=hc; replace hd:dt = .seq items n:=hd; subst hc hd
 refine callType_new F.called_enumerate (by decide) (F.typeCall_enumerate_1 _) (F.newCall_enumerate_1 _) (fun obj=>F.args_object_init_2 obj _) F.entry_enumerate_new (meets_enumT l items n dct sl) ⟨hl,?_⟩
 have hz:(s.heap.push { cls:=.type "tuple_iterator",data:=.fields #[.ref l,.int 0 0] }).objs.size=s.heap.objs.size + 1:=Heap.size_push ..
 show _/\_; rw [hz]
 have he:IsEnum ((s.heap.push { cls:=.type "tuple_iterator",data:=.fields #[.ref l,.int 0 0] }).push { cls:=.type "enumerate",data:=.fields #[.none,.bool false,.ref s.heap.objs.size,rawInt 0,.none,.none] }) (s.heap.objs.size + 1) s.heap.objs.size 0 .none:=by
  have:=Heap.get?_push_size (s.heap.push { cls:=.type "tuple_iterator",data:=.fields #[.ref l,.int 0 0] }) (o:={ cls:=.type "enumerate",data:=.fields #[.none,.bool false,.ref s.heap.objs.size,rawInt 0,.none,.none] }) rfl
  rw [hz] at this; exact this
 exact ⟨⟨_,he,rfl⟩,h _ he ⟨_,Heap.get?_push_of_some _ (Heap.get?_push_size _ rfl),rfl,rfl⟩ fun b o x=>Heap.get?_push_of_some _ (Heap.get?_push_of_some _ x)⟩
theorem inv_next {X:Cx} {pins:List (Addr × Obj)} {σ:List (Option V)} {H:Hp} {s:Shared} {h':Heap} {ch:List Addr} {p t':Nat} {o:HO} (I:Inv X pins σ H s) (hf:∀ b ∈ ch,FpOk X pins H b) (k:∀ b u,b ∉ ch->s.heap.get? b=some u->h'.get? b=some u)
  (hp:s.heap.objs.size <= p) (new:ObjOk X.prog X.w (upd H p o) h' p o):Inv X pins σ (upd H p o) { s with heap:=h',toks:=t' }:=by
 have hn:=I.hok.fresh hp
 have nch:∀ b u,H b=some u->b ∉ ch:=fun b u e z=>by have:=(hf b z).1; rw [e] at this; cases this
 refine I.call (g':=s.gens) (d':=s.drawn) (ch:=ch) ⟨fun b u q _ _ hx=>k b u hx q,fun b u q _ _ hx=>⟨u.slots,k b u hx q⟩,fun b u q n _=>?_,fun b u q hx=>⟨u,k b u hx q⟩,fun b xs q=>?_,fun b u xs q=>?_,fun b ps q=>⟨#[],?_⟩⟩ (fun b u e=>?_) I.bare
  fun b hb=>let ⟨_,f1,_,f3,f4,f5⟩:=hf b hb; ⟨f3,f1,f4,f5⟩
 ·rw [upd_ne (Nat.ne_of_lt (Nat.lt_of_lt_of_le (Heap.lt_size q) hp))]; exact n
 ·rw [upd_ne (ne_of_none q hn)]; exact q
 ·rw [upd_ne (ne_of_none q hn)]; exact q
 ·rw [upd_ne (ne_of_none q hn),q]; simp
 ·by_cases hb:b=p
  ·subst hb; rw [upd_same] at e; cases e; exact new
  ·rw [upd_ne hb] at e
   refine (I.hok b u e).stay (fun c v hc q=>k c v ?_ q) (fun c q=>by rw [upd_ne (ne_of_none q hn)]; exact q) fun c xs q=>by rw [upd_ne (ne_of_none q hn)]; exact q
   rcases hc with rfl | hc
   ·exact nch _ _ e
   ·exact nch _ _ hc
noncomputable def Ite (K:PySem.W.Frag) (a:Addr):It :=
 ⟨fun i H=>∃ xs x,SqT K H a xs/\xs[i]? = some x,fun i H x H'=>∃ p y,x = .ref p/\H p=none/\H'=upd H p (.tup [.int i,y])/\∀ xs,SqT K H a xs->xs[i]? = some y,fun i H=>∃ xs,SqT K H a xs/\xs.length <= i⟩
theorem turn_enum {P:Program} {w:World} {K:PySem.W.Frag} {elts:List Expr} {x1:Nat} {ps:Pos} (a e it:Addr) (hei:e ≠ it) (hae:a ≠ e) (hai:a ≠ it) :
  Turn P w K (.Tuple elts x1 ps) (Ite K a) [e,it] e (fun i h=>(∃ old,IsEnum h e it i old)/\h.IsTupleIter it a i) where
 mem:=by simp
 obj:=fun i h st b hb=>by
  obtain ⟨⟨old,he⟩,o,e2,c,d⟩:=st
  rcases List.mem_cons.mp hb with rfl | hb
  ·exact ⟨_,he,fun v z=>by cases z⟩
  ·have q:b=it:=by simpa using hb
   subst q
   exact ⟨o,e2,fun v z=>by rw [d] at z; cases z⟩
 keep:=fun i h h' st k=>⟨let ⟨old,he⟩:=st.1; ⟨old,k e (by simp) _ he⟩,st.2.at fun o q=>k it (by simp) o q⟩
 item:=by
  intro X hP hw hK hc i pins s σ H E I hf st hg
  subst hP hw hK
  obtain ⟨xs,x,hq,hx⟩:=hg
  obtain ⟨its,rv,p,hz⟩:=I.tuple hq
  obtain ⟨u,hu,ru⟩:=rv.get hx
  obtain ⟨⟨old,he⟩,hit⟩:=st
  refine wpAny_pyNext_enum_itemD (drawsT (A:=X.A.in1) (show X.A.in1.handled=none from I.ok.hd hc) it a hai its.toArray) he ⟨hit,p⟩ (by have:=(List.getElem?_eq_some_iff.mp hu).1; simpa using this) hei (by simp [hei,Ne.symm hae]) fun y h' tk hy ho st' hT hsz hk=>⟨_,rfl,?_⟩
  have ey:y=u:=by
   have:its.toArray[i]? = some u:=by simpa using hu
   rw [this] at hy
   exact (Option.some.inj hy).symm
  subst ey
  have hel:e < s.heap.objs.size:=Heap.lt_size he
  refine wpAny_letOwnedTupleGo_enum ho fun h2 he2 hs2=>⟨.ref s.heap.objs.size,upd H s.heap.objs.size (.tup [.int i,x]),?_,rfl,⟨_,x,rfl,I.hok.fresh (Nat.le_refl _),rfl,fun ys hy=>by rw [I.tuple_inj hy hq]; exact hx⟩,⟨⟨_,by simpa using he2⟩,st'.1.at fun o q=>(hs2.2 it (Ne.symm hei)).trans q⟩,fun b hb=>?_⟩
  ·exact inv_next (s:=s) (h':=h2) (t':=tk + 1) I hf (fun b u hb q=>(hs2.2 b fun z=>hb (by simp [z])).trans (hk b u (fun z=>hb (by simp [z])) (fun z=>hb (by simp [z])) q)) (Nat.le_refl _) ⟨by simp [sizeLine_eq],[.int i tk,y],.cons ⟨_,rfl⟩ (.cons ru .nil),_,(hs2.2 _ (Nat.ne_of_gt hel)).trans hT,rfl,_,rfl⟩
  ·have:=(hf b hb).1
   rw [upd_ne]
   ·exact this
   ·rintro rfl
    rcases List.mem_cons.mp hb with q | q
    ·exact absurd hel (by rw [<- q]; exact Nat.lt_irrefl _)
    ·obtain ⟨o,ho2,_⟩:=hit
     have q2:s.heap.objs.size=it:=by simpa using q
     exact absurd (Heap.lt_size ho2) (by rw [<- q2]; exact Nat.lt_irrefl _)
 done:=by
  intro X hP hw hK hc i pins s σ H E I hf st hg
  subst hP hw hK
  obtain ⟨xs,hq,hx⟩:=hg
  obtain ⟨its,rv,p,hz⟩:=I.tuple hq
  obtain ⟨⟨old,he⟩,hit⟩:=st
  obtain ⟨f0,f1,f2,f3,f4,f5⟩:=hf it (by simp)
  have hT:s.TypeIs (.ref e) "enumerate":=⟨_,he,rfl⟩
  have hl:=rv.length
  unfold pyNext; refine wpAny_bind (wpAny_attempt (wpAny_callSpecial?_slot (name:=Str.ofString "__next__") hT F.slot_enumerate_next (wpAny_call_entry F.slot_enumerate_next hT F.entry_enumerate_next ?_ (F.args_enumerate_next_1 _))))
  show wpAny _ _ (field (.ref e) 2 >>= _) _ _ _; refine wpAny_bind (wpAny_field he rfl (x:=.ref it) rfl ?_)
  refine wpAny_bind (nextT_end (I.ok.hd hc) hit p (by simp; omega) fun h' x he' hx'=>?_)
  obtain ⟨o,ho,hc⟩:=hx'
  refine wpAny_bind (wpAny_isInstance (T:="StopIteration") (b:=true) ⟨o,ho,hc⟩ isSubtype_stop ?_)
  exact wpAny_pure ⟨rfl,I.turned (t':=s.toks) (fun b o hb q=>he' b o hb q) f0 f1 f3 f4 f5⟩
 self:=fun _ _ _ _ _ st h=>let ⟨⟨_,he⟩,_⟩:=st; wpAny_pyIter_enum he h
noncomputable def iEnum (K:PySem.W.Frag) (tl:TA):TI:=fun σ H R=>tl σ H fun xs H1=>∃ a,xs=[.ref a]/\(∃ ys,SqT K H1 a ys)/\R (Ite K a) H1
theorem pi_enum {X:Cx} {elts:List Expr} {x1:Nat} {ps p pos:Pos} {l:Expr} {tl:TA} (hl:PA X [l] tl) (hg:Gl X "enumerate") (hm:X.mg "enumerate" = none) (hv:bootBuiltins "enumerate" = some (.type "enumerate"))
  (he:starEach [l] X.env=[(false,eval l X.env)]:=by rfl):PI X (.Tuple elts x1 ps) (.Call (.Name "enumerate" p) [l] [] pos) (iEnum X.K tl):=by
 intro pins s σ H R I h
 refine wpAny_Call_Name_kw (ld_blt I hg hm hv ?_ (by decide) (by decide))
 refine PyProof.Rows.callWith_type1 (thn (hl pos pins s σ H _ I h) fun us s1 ⟨vs,H1,I1,r1,a,e,⟨ys,hy⟩,q⟩=>?_) he rfl
 subst e
 obtain ⟨u,rfl,ru⟩:=r1.one
 cases ru
 obtain ⟨its,rv,pp,hz⟩:=I1.tuple hy
 have ha:a < s1.heap.objs.size:=let ⟨o,ho,_⟩:=pp; Heap.lt_size ho
 refine call_enumT pp fun h' he hit hk=>wpAny_pyIter_enum he ?_
 have n1:s1.heap.objs.size + 1 ≠ s1.heap.objs.size:=by omega
 refine ⟨_,_,_,_,H1,rfl,I1.kept (t':=s1.toks) hk,turn_enum a _ _ n1 (Nat.ne_of_lt (Nat.lt_succ_of_lt ha)) (Nat.ne_of_lt ha),⟨⟨_,he⟩,hit⟩,fun b hb=>?_,q⟩
 have hle:s1.heap.objs.size <= b:=by
  rcases List.mem_cons.mp hb with rfl | hb
  ·exact Nat.le_succ _
  ·have:b=s1.heap.objs.size:=by simpa using hb
   exact Nat.le_of_eq this.symm
 exact I1.fpOk hle (I1.hok.fresh hle)
noncomputable def enuL (l:List D):List D:=l.zipIdx.map fun p=>.tup [.int (p.2:Int),p.1]
noncomputable def enuA:List D->Rs (List D)
 | [.tup l]=>.ok (enuL l)
 | _=>.st
theorem jl_enum {K:PySem.W.Frag} {lab:Lab} {H:Hp} {a:Addr} {xs:List V} {ds:List D} (h:SqT K H a xs) (r:Rps K (fun p=>(lab p).1 <= 1) H xs ds):JL K lab (Ite K a) H (enuL ds):=by
 have hl:=r.length
 have hle:(enuL ds).length=ds.length:=by simp [enuL]
 refine fun i=>⟨fun hi=>⟨xs,h,by omega⟩,fun hi=>⟨⟨xs,xs[i]'(by omega),h,by simp [hl,hle ▸ hi]⟩,fun x H' y=>?_⟩⟩
 obtain ⟨p,y,rfl,hp,rfl,hy⟩:=y
 obtain ⟨d,h1,h2⟩:=r.get (hy xs h)
 refine ⟨same_new hp _,.tup [.int (i:Int),d],?_,.tup (.inl (.inl upd_same)) (.cons (.int _) (.cons (h2.up (same_new hp _)) .nil))⟩
 unfold enuL
 rw [List.getElem?_map,List.getElem?_zipIdx,h1]
 simp
section
variable {C:Ct} {m:Mode} {a:Expr} {ga:En->Rs (List D)} {elts:List Expr} {x1:Nat} {ps p pos:Pos}
theorem si_enum (ha:SA C m [a] ga) (hg:∀ i,Gl (C.X i) "enumerate") (hm:C.mg "enumerate" = none) (hv:bootBuiltins "enumerate" = some (.type "enumerate")) (ho:okS m=true:=by rfl) (hs:∀ i,starEach [a] (C.X i).env=[(false,eval a (C.X i).env)]:=by intro _; rfl) :
  SI C (.Tuple elts x1 ps) (.Call (.Name "enumerate" p) [a] [] pos) (rngA enuA ga):=by
 obtain ⟨t,p1,p2⟩:=ha
 refine ⟨iEnum C.K t,fun i=>by rw [<- C.hK i]; exact pi_enum (p1 i) (hg i) (by rw [(C.cx i).2.2.2.1]; exact hm) hv (hs i),fun τ σ H ρ lab Rr R W=>p2 τ σ H ρ lab _ R (W.bd.imp fun ds _ w vs H1 s r=>?_)⟩
 cases ds with
 | nil=>exact False.elim w
 | cons d ds =>
  cases ds with
  | cons _ _=>cases d <;> exact False.elim w
  | nil =>
   obtain ⟨v,rfl,rd⟩:=r.one_inv
   cases d with
   | tup l =>
    obtain ⟨R',r'⟩:=R.shared ho s rd
    obtain ⟨b,xs,rfl,h,q⟩:=r'.tup_inv
    refine ⟨b,rfl,⟨xs,h⟩,w _ H1 _ [(.ref b,.tup l)] s (fun p o e=>newLab_old e) ⟨R'.len,R'.sl,R'.old,R'.new,fun z hz=>?_⟩ fun lab' H' hq=>?_⟩
    ·rcases List.mem_cons.mp hz with rfl | hz
     ·exact .tup h q
     ·exact R'.tm z hz
    ·have z:=hq _ (List.mem_cons_self ..)
     cases z with
     | tup h' q'=>exact jl_enum h' q'
   | _=>exact False.elim w
end
end VL
namespace VL
open PySem PySem.Spec PyProof.Rows L2
theorem itemsT {P:Program} {w:World}:∀ {k:List Int} {us:List Value},Vals (k.map V.int) us->ItemsAre (intKind P w) k us
 | [],_,r=>by cases r; exact .nil
 | i :: k,_,r=>by
  cases r with
  | cons h t=>obtain ⟨t0,rfl⟩:=h; exact .cons (by simp [intKind,Value.isInt]) (itemsT t)
noncomputable abbrev Ent:=List Int × Addr × V
noncomputable def DxP (es:List Ent) (xs:List (List Int × Addr × Value)):Prop:=Paired (fun (e:Ent) x=>e.1=x.1/\e.2.1=x.2.1/\RelV e.2.2 x.2.2) es xs
theorem DxP.mem {es:List Ent} {xs:List (List Int × Addr × Value)} (p:DxP es xs):∀ x ∈ xs,∃ e ∈ es,e.1=x.1/\e.2.1=x.2.1:=by
 unfold DxP at p
 induction p with
 | nil=>intro x hx; cases hx
 | cons h t ih =>
  intro x hx
  rcases List.mem_cons.mp hx with rfl | hx
  ·exact ⟨_,List.mem_cons_self ..,h.1,h.2.1⟩
  ·obtain ⟨e,he,q⟩:=ih x hx; exact ⟨e,List.mem_cons_of_mem _ he,q⟩
theorem DxP.keys {es:List Ent} {xs:List (List Int × Addr × Value)} (p:DxP es xs):es.map (·.1)=xs.map (·.1):=by
 unfold DxP at p
 induction p with
 | nil=>rfl
 | cons h t ih=>rw [List.map_cons,List.map_cons,ih,h.1]
theorem any_key {β:Type} (k:List Int):∀ (xs:List (List Int × β)),(xs.find? fun x=>decide (x.1=k)).isSome=(xs.map (·.1)).any (· == k)
 | []=>rfl
 | x :: xs=>by
  rw [List.map_cons,List.any_cons,<- any_key k xs,List.find?_cons]
  by_cases e:x.1=k
  ·simp [e]
  ·have:(x.1 == k)=false:=by simpa using e
   simp [e,this]
theorem DxP.has {es:List Ent} {xs:List (List Int × Addr × Value)} (p:DxP es xs) (k:List Int):(atKey xs k).isSome=(es.map (·.1)).any (· == k):=by
 unfold atKey
 rw [Option.isSome_map,any_key,p.keys]
theorem DxP.snoc {es:List Ent} {xs:List (List Int × Addr × Value)} (p:DxP es xs) {e:Ent} {x:List Int × Addr × Value} (h:e.1=x.1/\e.2.1=x.2.1/\RelV e.2.2 x.2.2):DxP (es ++ [e]) (xs ++ [x]):=by
 unfold DxP at p ⊢
 induction p with
 | nil=>exact .cons h .nil
 | cons q t ih=>exact .cons q ih
theorem DxP.same {es:List Ent} {xs:List (List Int × Addr × Value)} (p:DxP es xs) (k:List Int):(∀ e ∈ es,e.2.2 = .bl true)->DxP es (xs.map (putAt k (.bool true))):=by
 unfold DxP at p ⊢
 induction p with
 | nil=>intro _; exact .nil
 | cons q t ih =>
  intro h
  refine .cons ?_ (ih fun e he=>h e (List.mem_cons_of_mem _ he))
  unfold putAt
  split
  ·exact ⟨q.1,q.2.1,by rw [h _ (List.mem_cons_self ..)]; exact rfl⟩
  ·exact q
noncomputable def putX (es:List Ent) (k:List Int) (b:Addr):List Ent:=if (es.map (·.1)).any (· == k) then es else es ++ [(k,b,.bl true)]
theorem DxP.put {es:List Ent} {xs:List (List Int × Addr × Value)} (p:DxP es xs) (k:List Int) (b:Addr) (h:∀ e ∈ es,e.2.2 = .bl true):DxP (putX es k b) (storedH xs k b (.bool true)):=by
 unfold putX storedH
 rw [p.has]
 split
 ·exact p.same k h
 ·exact p.snoc ⟨rfl,rfl,rfl⟩
section
variable {X:Cx} {pins:List (Addr × Obj)} {σ:L2.St} {H:Hp} {s:Shared} {a b:Addr} {k:List Int} {es:List Ent}
theorem keyT (I:Inv X pins σ H s) (h:SqT X.K H b (k.map V.int)):(tupleKind (intKind X.prog X.w)).is s.heap k b:=by
 obtain ⟨its,rv,⟨o,h1,h2,n,h3⟩,hz⟩:=I.tuple h
 exact ⟨o,its.toArray,n,h1,h2,h3,by simpa using itemsT rv⟩
theorem dx_of (I:Inv X pins σ H s) (h:DxK X.K H a es):es.length <= sizeLine/\(a == sysModules)=false/\∃ xs,DxP es xs/\s.heap.DictOfH (tupleKind (intKind X.prog X.w)) a xs:=by
 obtain ⟨⟨hl,hd,xs,o,ts,ep,pr,h1,h2,h3,h4⟩,_⟩:=(show ObjOk X.prog X.w H s.heap a (dxO a es) from I.hok a _ h.at_)
 refine ⟨hl,hd,xs,pr,o,ts,ep,h1,h2,h3,h4,fun x hx=>?_,by rw [<- DxP.keys pr]; exact h.nd⟩
 obtain ⟨e,he,e1,e2⟩:=DxP.mem pr x hx
 rw [<- e1,<- e2]
 exact keyT I (h.ks e he)
theorem dx_new {h':Heap} {xs:List (List Int × Addr × Value)} (hl:es.length <= sizeLine) (hd:(a == sysModules)=false) (pr:DxP es xs) (dd:h'.DictOfH (tupleKind (intKind X.prog X.w)) a xs) {H':Hp}:ObjOk X.prog X.w H' h' a (dxO a es):=by
 obtain ⟨o,ts,ep,h1,h2,h3,h4,_,_⟩:=dd
 exact ⟨⟨hl,hd,xs,o,ts,ep,pr,h1,h2,h3,h4⟩,⟨o,h1⟩,fun g1 g2 ⟨hl,hd,xs,o,ts,ep,pr,h1,r⟩ k=>⟨hl,hd,xs,o,ts,ep,pr,k o h1,r⟩⟩
noncomputable def tbDT (K:PySem.W.Frag) (tk tv:TE):Addr->L2.St->Hp->(Hp->Prop)->Prop:=fun D σ H Q=>tk σ H fun y H1=>tv σ H1 fun v H2=>∃ b k es,y = .ref b/\v = .bl true/\SqT K H2 b (k.map V.int)/\DxK K H2 D es/\(∀ e ∈ es,e.2.2 = .bl true)/\es.length < sizeLine/\Q (upd H2 D (dxO D (putX es k b)))
theorem len_putX (es:List Ent) (k:List Int) (b:Addr):(putX es k b).length <= es.length + 1:=by
 unfold putX
 split
 ·omega
 ·rw [List.length_append]; exact Nat.le_refl _
theorem pb_dT {kx vx:Expr} {tk tv:TE} (hu:X.A.units < cLine) (hk:PE X kx tk) (hv:PE X vx tv):PB X (dictBody kx vx) (tbDT X.K tk tv):=by
 intro D pins s σ H Q I h
 unfold dictBody
 refine wpAny_bind (thn (hk pins s σ H _ I h) fun u s1 ⟨y,H1,I1,r1,q1⟩=>wpAny_bind (wpAny_holding (thn (hv pins s1 σ H1 _ I1 q1) fun u2 s2 ⟨v,H2,I2,r2,b,k,es,ey,ev,hb,hD,hes,hl,q⟩=>?_)))
 subst ey ev
 cases r1
 cases r2
 refine wpAny_bind (wpAny_standAt (wpAny_holding ?_))
 obtain ⟨z,hd,xs,pr,dd⟩:=dx_of I2 hD
 refine wpAny_dictSet_heap (hsz:=by rw [<- Paired.length pr]; exact z) (show (tupleKind (intKind X.prog X.w)).room X.A from hu) (keyT I2 hb) dd fun h' dd' hs=>⟨_,?_,q⟩
 obtain ⟨o,ts,ep,h1,r⟩:=id dd'
 exact I2.write (x:=D) (e:=D) (by rw [hD.at_]; exact trivial) (.inl rfl) (fun b' u hb hu=>(hs.2 b' hb).trans hu) ⟨o,h1⟩ (dx_new (Nat.le_trans (len_putX es k b) hl) hd (pr.put k b hes) dd')
noncomputable def rInK (K:PySem.W.Frag) (neg:Bool):R2:=fun x y H Q=>∃ b a k es,x = .ref b/\y = .ref a/\SqT K H b (k.map V.int)/\(DxK K H a es\/(es=[]/\H a=some (.dK [])))/\Q (.bl (neg != (es.map (·.1)).any (· == k))) H
theorem dx_or (I:Inv X pins σ H s) (h:DxK X.K H a es\/(es=[]/\H a=some (.dK []))):(a == sysModules)=false/\∃ xs,DxP es xs/\s.heap.DictOfH (tupleKind (intKind X.prog X.w)) a xs:=by
 rcases h with h | ⟨rfl,h⟩
 ·exact (dx_of I h).2
 ·obtain ⟨_,hd,vs,kv,o,ts,ep,h1,h2,h3,h4⟩:=(show ObjOk X.prog X.w H s.heap a (.dK []) from I.hok a _ h)
  cases kv
  exact ⟨hd,[],.nil,o,ts,ep,h1,h2,h3,by generalize ts.toList=l at h4; obtain ⟨_,h4,_⟩:=h4; cases h4; rfl,fun x hx=>(by cases hx),List.nodup_nil⟩
theorem op_inK (hu:X.A.units + 1 < cLine):OpR X (compareOp .In) (rInK X.K false):=by
 intro pins s σ H x y v u Q I rx ry ⟨b,a,k,es,ex,ey,hb,hD,q⟩
 subst ex ey
 cases rx
 cases ry
 obtain ⟨hd,xs,pr,dd⟩:=dx_or I hD
 refine wpAny_in_heap (tupleKind_room_in1 hu) (keyT I hb) hd dd ?_
 rw [pr.has k]
 exact ⟨.bl ((es.map fun e:Ent=>e.1).any (· == k)),H,I.tok _,rfl,by simpa using q⟩
end
noncomputable def keyD:D->Option (List Int)
 | .tup l=>intsOf l
 | _=>none
noncomputable def keysD:List D->Option (List (List Int))
 | []=>some []
 | d :: ds=>match keyD d,keysD ds with
  | some k,some ks=>some (k :: ks)
  | _,_=>none
noncomputable def inK2 (neg:Bool):Option (List Int)->Option (List (List Int))->Rs D
 | some k,some kk=>.ok (.bl (neg != kk.any (· == k)))
 | _,_=>.st
noncomputable def inK (neg:Bool) (d e:D):Rs D:=match e with
 | .dct ks _=>inK2 neg (keyD d) (keysD ks)
 | _=>.st
theorem keyD_some {d:D} {k:List Int} (h:keyD d=some k):d = .tup (k.map .int):=by
 cases d with
 | tup l=>rw [intsOf_some (show intsOf l=some k from h)]
 | _=>cases h
theorem keyD_tup (k:List Int):keyD (.tup (k.map .int))=some k:=intsOf_map k
theorem keysD_map:∀ (ks:List (List Int)),keysD (ks.map fun k=>.tup (k.map .int))=some ks
 | []=>rfl
 | k :: ks=>by
  rw [List.map_cons]
  unfold keysD
  rw [keyD_tup,keysD_map ks]
theorem os_inK {K:PySem.W.Frag} {n:Bool}:OpS K (rInK K n) (inK n):=by
 intro A x y d e H Q z rx ry ez q
 cases e with
 | dct ks vs =>
  replace ez:inK2 n (keyD d) (keysD ks) = .ok z:=ez
  cases hk:keyD d with
  | none=>rw [hk] at ez; cases ez
  | some k =>
   cases hks:keysD ks with
   | none=>rw [hk,hks] at ez; cases ez
   | some kk =>
    rw [hk,hks] at ez
    cases ez
    rw [keyD_some hk] at rx
    obtain ⟨b,xs,rfl,h1,h2⟩:=rx.tup_inv
    have exs:=h2.ints_of
    subst exs
    have Z:∀ a es,(DxK K H a es\/(es=[]/\H a=some (.dK [])))->es.map (·.1)=kk->rInK K n (.ref b) (.ref a) H Q:=fun a es h hes =>
     ⟨b,a,k,es,rfl,rfl,h1,h,by rw [hes]; exact q _ H (Same.refl H) (.bl _)⟩
    cases ry with
    | dT h m r =>
     refine Z _ _ (.inl h) ?_
     rename_i es
     have e2:(es.map fun e=>D.tup (e.1.map .int))=(es.map (·.1)).map fun k=>D.tup (k.map .int):=by rw [List.map_map]; rfl
     rw [e2,keysD_map] at hks
     exact Option.some.inj hks
    | dK h m r =>
     rename_i kvs
     cases kvs with
     | nil=>cases hks; exact Z _ [] (.inr ⟨rfl,h⟩) rfl
     | cons p ps =>
      obtain ⟨p1,p2⟩:=p
      cases p1 <;> (unfold keysD at hks; cases hks)
 | _=>cases ez
theorem imm_inK {n:Bool} {x y z:D} (h:inK n x y = .ok z):imm z=true:=by
 cases y with
 | dct ks vs =>
  replace h:inK2 n (keyD x) (keysD ks) = .ok z:=h
  unfold inK2 at h
  split at h
  ·cases h; rfl
  ·cases h
 | _=>cases h
section
variable {C:Ct} {m1 m2:Mode} {a b:Expr} {fa fb:En->Rs D} {pos:Pos}
theorem Ct.inK (C:Ct) (i:C.ι):OpR (C.X i) (compareOp .In) (rInK C.K false):=by rw [<- C.hK i]; exact op_inK (by have:=(C.room i).un; omega)
theorem se_inK (ha:SE C m1 a fa) (hb:SE C m2 b fb) (hm:behindInMarks .In b=false:=by with_unfolding_all rfl):SE C (some []) (.Compare a [.In] [b] pos) (op2 (inK false) fa fb):=se_cut (se_cmp C.inK os_inK ha hb hm) fun _ _ h=>imm_op2 (fun _ _ _=>imm_inK) h
end
theorem acc_dx:AccIs newDict (fun ob=>ob={ cls:=.type "dict",data:=.dict #[] }) (fun l=>dxO l []) where
 make:=fun h=>wpAny_newObj_type (h _ rfl)
 live:=by rintro ob rfl; rfl
 ok:=by
  rintro P w H h a ob rfl hg hb
  exact ⟨⟨Nat.zero_le _,beq_eq_false_iff_ne.mpr (Ne.symm (Nat.ne_of_lt hb)),[],_,#[],0,.nil,hg,⟨rfl,rfl,rfl⟩,rfl,rfl⟩,⟨_,hg⟩,fun g1 g2 ⟨hl,hd,xs,o,ts,ep,pr,h1,r⟩ k=>⟨hl,hd,xs,o,ts,ep,pr,k o h1,r⟩⟩
noncomputable def step_ddL (acc:List (List Int)) (k:List Int):List (List Int):=if acc.any (· == k) then acc else acc ++ [k]
noncomputable def ddL (ks:List (List Int)):List (List Int):=ks.foldl step_ddL []
theorem ddL_snoc (ks:List (List Int)) (k:List Int):ddL (ks ++ [k])=step_ddL (ddL ks) k:=by unfold ddL; rw [List.foldl_append]; rfl
noncomputable def pairE (fk fv:En->Rs D):En->Rs D:=fun ρ=>(fk ρ).bd fun k=>(fv ρ).bd fun v=>.ok (.tup [k,v])
noncomputable def keyT1:D->Option (List Int)
 | .tup [k,.bl true]=>keyD k
 | _=>none
noncomputable def keysT1:List D->Option (List (List Int))
 | []=>some []
 | d :: ds=>match keyT1 d,keysT1 ds with
  | some k,some ks=>some (k :: ks)
  | _,_=>none
noncomputable def dctK (ks:List (List Int)):D:=.dct (ks.map fun k=>.tup (k.map .int)) (ks.map fun _=>.bl true)
noncomputable def dcD (fi:En->Rs (List D)) (js:List (Option Nat)) (fg:D->En->Rs En) (ft:En->Rs Bool) (fk fv:En->Rs D):En->Rs D:=fun ρ=>(fi (shE ρ)).bd fun ds =>
 if ds.length < sizeLine then (match lcL (stE js (shE ρ)) fg ft (pairE fk fv) ds with
  | .ok l=>(match keysT1 l with
   | some ks=>.ok (dctK (ddL ks))
   | none=>.st)
  | _=>.st) else .st
theorem keysT1_app:∀ {l m:List D} {ks:List (List Int)},keysT1 (l ++ m)=some ks->∃ k1 k2,keysT1 l=some k1/\keysT1 m=some k2/\ks=k1 ++ k2
 | [],m,ks,h=>⟨[],ks,rfl,h,rfl⟩
 | d :: l,m,ks,h=>by
  rw [List.cons_append] at h
  unfold keysT1 at h
  cases h1:keyT1 d with
  | none=>rw [h1] at h; cases h
  | some k =>
   cases h2:keysT1 (l ++ m) with
   | none=>rw [h1,h2] at h; cases h
   | some kk =>
    rw [h1,h2] at h
    cases h
    obtain ⟨k1,k2,e1,e2,rfl⟩:=keysT1_app h2
    exact ⟨k :: k1,k2,by unfold keysT1; rw [h1,e1],e2,rfl⟩
theorem keysT1_one {y:D} {ys:List D} {ks:List (List Int)} (h:keysT1 (y :: ys)=some ks):∃ k kk,y = .tup [.tup (k.map .int),.bl true]/\keysT1 ys=some kk/\ks=k :: kk:=by
 unfold keysT1 at h
 cases h1:keyT1 y with
 | none=>rw [h1] at h; cases h
 | some k =>
  cases h2:keysT1 ys with
  | none=>rw [h1,h2] at h; cases h
  | some kk =>
   rw [h1,h2] at h
   cases h
   refine ⟨k,kk,?_,rfl,rfl⟩
   unfold keyT1 at h1
   split at h1
   ·rw [keyD_some h1]
   ·cases h1
theorem keysT1_snoc (kk:List Int):∀ {l:List D} {k1:List (List Int)},keysT1 l=some k1->keysT1 (l ++ [.tup [.tup (kk.map .int),.bl true]])=some (k1 ++ [kk])
 | [],_,h=>by
  cases h
  have:keyT1 (.tup [.tup (kk.map .int),.bl true])=some kk:=keyD_tup kk
  rw [List.nil_append,List.nil_append]
  unfold keysT1
  rw [this]
  rfl
 | d :: l,k1,h=>by
  rw [List.cons_append]
  unfold keysT1 at h ⊢
  cases h1:keyT1 d with
  | none=>rw [h1] at h; cases h
  | some k =>
   cases h2:keysT1 l with
   | none=>rw [h1,h2] at h; cases h
   | some k9=>rw [h1,h2] at h; cases h; rw [keysT1_snoc kk h2]; rfl
theorem rps_bl {K:PySem.W.Frag} {A:Addr->Prop} {H:Hp}:∀ (es:List Ent),(∀ e ∈ es,e.2.2 = .bl true)->Rps K A H (es.map (·.2.2)) (es.map fun _=>.bl true)
 | [],_=>.nil
 | e :: es,h=>by
  have e1:e.2.2 = .bl true:=h e (List.mem_cons_self ..)
  refine .cons ?_ (rps_bl es fun z hz=>h z (List.mem_cons_of_mem _ hz))
  show Rp K A H e.2.2 (.bl true)
  rw [e1]
  exact .bl true
section
variable {K:PySem.W.Frag} {G:Gx} {wi:TI} {fi:En->Rs (List D)} {js:List (Option Nat)} {g:TG} {fg:D->En->Rs En} {tt:TT} {ft:En->Rs Bool} {tk tv:TE} {fk fv:En->Rs D}
theorem pairE_ok {ρ:En} {y:D} (h:pairE fk fv ρ = .ok y):∃ k v,fk ρ = .ok k/\fv ρ = .ok v/\y = .tup [k,v]:=by
 obtain ⟨k,h1,h2⟩:=bd_eq_ok h
 obtain ⟨v,h3,h4⟩:=bd_eq_ok h2
 exact ⟨k,v,h1,h3,by cases h4; rfl⟩
theorem sim_dT (hi:SimI K G wi fi) (hg:SimG K { G with E:=fun _ _ _=>False } g fg) (ht:SimT K { G with E:=fun _ _ _=>False } tt ft) (hk:SimE K { G with E:=fun _ _ _=>False } (some []) tk fk) (hv:SimE K { G with E:=fun _ _ _=>False } (some []) tv fv) :
  SimE K G (some []) (tCBk (fun l=>dxO l []) wi (stV js) g tt (tbDT K tk tv)) (dcD fi js fg ft fk fv):=by
 intro τ σ H ρ lab Q R W
 refine hi τ σ H _ _ _ R.shE (W.bd.imp fun ds _ w J H1 lab1 τ1 s1 _ R1 jl=>?_)
 intro l hl
 obtain ⟨hlen,out,ks,hout,hks,w⟩:ds.length < sizeLine/\∃ out ks,lcL (stE js (VL.shE ρ)) fg ft (pairE fk fv) ds = .ok out/\keysT1 out=some ks/\QE K (some []) lab H Q (dctK (ddL ks)):=by
  by_cases hlen:ds.length < sizeLine
  ·rw [if_pos hlen] at w
   cases hout:lcL (stE js (VL.shE ρ)) fg ft (pairE fk fv) ds with
   | ok out =>
    rw [hout] at w
    dsimp only at w
    cases hns:keysT1 out with
    | some ns=>rw [hns] at w; exact ⟨hlen,out,ns,rfl,hns,w⟩
    | none=>rw [hns] at w; exact False.elim w
   | ex c=>rw [hout] at w; exact False.elim w
   | st=>rw [hout] at w; exact False.elim w
  ·rw [if_neg hlen] at w
   exact False.elim w
 have R0:RR K { G with E:=fun _ _ _=>False } (τ1 ++ τ) (VL.shE ρ) σ H1 (fun _=>(0,0)):=R1.blk0 rfl
 have RB:=R0.block (js:=js) (fun _=>Nat.zero_le _) hl
 have hHl:H l=none:=s1.free hl
 have h0l:G.H0 l=none:=R1.old.free hl
 refine ⟨fun i n H2=>∃ (es:List Ent) (pre:List D) (kp:List (List Int)),n=ds.length - i/\i <= ds.length/\DxK K H2 l es/\(∀ e ∈ es,e.2.2 = .bl true)/\es.length <= i/\keysT1 pre=some kp/\es.map (·.1)=ddL kp/\RR K { G with E:=fun _ _ _=>False } (τ1 ++ τ) (stE js (VL.shE ρ)) (stV js σ) H2 (fun p=>if p=l then (2,0) else (0,0))/\Same H H2 /\
  ∃ post,lcL (stE js (VL.shE ρ)) fg ft (pairE fk fv) (ds.drop i) = .ok post/\out=pre ++ post,⟨ds.length,[],[],[],by omega,by omega,⟨upd_same,fun e he=>(by cases he),List.nodup_nil⟩,fun e he=>(by cases he),Nat.le_refl _,rfl,rfl,RB.up (same_new hl _),s1.trans (same_new hl _),out,hout,rfl⟩,?_⟩
 rintro i n H2 ⟨es,pre,kp,rfl,hi,hD,hes,hei,hkp,hek,R2,s2,post,hpost,eout⟩
 have jj:=jl _ H2 fun q hq=>R2.tm q (List.mem_append_left _ hq)
 by_cases hlt:i < ds.length
 ·obtain ⟨go,yl⟩:=(jj i).2 hlt
  refine .inr ⟨go,fun x H3 hy=>?_⟩
  obtain ⟨s3,d,ed,rx⟩:=yl x H3 hy
  replace R2:=R2.up s3
  replace hD:=hD.mono s3
  replace s2:=s2.trans s3
  have ed2:ds.drop i=d :: ds.drop (i + 1):=by
   rw [List.drop_eq_getElem_cons hlt]
   have:=List.getElem?_eq_getElem hlt
   rw [ed] at this
   cases this
   rfl
  rw [ed2] at hpost
  obtain ⟨ρ1,k,e1,e2,e3⟩:=lcL_drop hpost
  refine hg (τ1 ++ τ) x d _ H3 _ _ _ ρ1 R2 rx e1 fun σ4 R4=>?_
  refine ht (τ1 ++ τ) σ4 H3 ρ1 _ _ R4 ?_
  rw [e2]
  intro H5 s5
  rcases e3 with ⟨rfl,y,ys,e3,e4,rfl⟩ | ⟨rfl,e4⟩
  ·rw [if_pos rfl]
   obtain ⟨kd,vd,e5,e6,rfl⟩:=pairE_ok e3
   have hks2:∃ k2,keysT1 (.tup [kd,vd] :: ys)=some k2/\ks=kp ++ k2:=by
    rw [eout] at hks
    obtain ⟨k1,k2,q1,q2,q3⟩:=keysT1_app hks
    rw [hkp] at q1
    cases q1
    exact ⟨k2,q2,q3⟩
   obtain ⟨k2,q1,q2⟩:=hks2
   obtain ⟨kk,k3,q3,q4,rfl⟩:=keysT1_one q1
   injection q3 with q3
   injection q3 with q5 q6
   injection q6 with q6
   subst q5 q6
   refine hk (τ1 ++ τ) σ4 H5 ρ1 _ _ (R4.up s5) ?_
   rw [e5]
   intro v H6 s6 r6
   refine hv (τ1 ++ τ) σ4 H6 ρ1 _ _ ((R4.up s5).up s6) ?_
   rw [e6]
   intro v2 H7 s7 r7
   obtain ⟨b,xs,rfl,hb,rxs⟩:=(r6.up s7).tup_inv
   have ex:=rxs.ints_of
   subst ex
   have ev:=r7.bl_inv
   subst ev
   have hD7:=hD.mono ((s5.trans s6).trans s7)
   have B:Butl l H7 (upd H7 l (dxO l (putX es kk b))):=fun b o ne hb=>by rw [upd_ne ne]; exact hb
   refine ⟨b,kk,es,rfl,rfl,hb,hD7,hes,by omega,ds.length - (i + 1),by omega,putX es kk b,pre ++ [.tup [.tup (kk.map .int),.bl true]],kp ++ [kk],rfl,hlt,⟨upd_same,fun e he=>?_,?_⟩,fun e he=>?_,by have:=len_putX es kk b; omega,?_,?_,(R2.up ((s5.trans s6).trans s7)).but_blk B hD7.at_ rfl h0l,?_,ys,e4,by rw [eout]; simp⟩
   ·unfold putX at he
    split at he
    ·exact sqt_but B hD7.at_ rfl (hD7.ks e he)
    ·rcases List.mem_append.mp he with he | he
     ·exact sqt_but B hD7.at_ rfl (hD7.ks e he)
     ·rw [List.mem_singleton.mp he]; exact sqt_but B hD7.at_ rfl hb
   ·unfold putX
    split
    ·exact hD7.nd
    ·rename_i hn
     rw [List.map_append,List.nodup_append]
     refine ⟨hD7.nd,by simp,fun a ha c hc z=>hn ?_⟩
     rw [show c=kk by simpa using hc] at z
     subst z
     exact List.any_eq_true.mpr ⟨a,ha,by simp⟩
   ·unfold putX at he
    split at he
    ·exact hes e he
    ·rcases List.mem_append.mp he with he | he
     ·exact hes e he
     ·rw [List.mem_singleton.mp he]
   ·exact keysT1_snoc kk hkp
   ·rw [ddL_snoc,<- hek]
    unfold putX step_ddL
    split
    ·rfl
    ·rw [List.map_append]; rfl
   ·exact fun b o hb=>B b o (fun z=>by subst z; rw [hHl] at hb; cases hb) ((((s2.trans s5).trans s6).trans s7) b o hb)
  ·rw [if_neg Bool.false_ne_true]
   exact ⟨ds.length - (i + 1),by omega,es,pre,kp,rfl,hlt,hD.mono s5,hes,by omega,hkp,hek,R2.up s5,s2.trans s5,post,e4,eout⟩
 ·have ei:i=ds.length:=by omega
  subst ei
  rw [List.drop_length] at hpost
  cases hpost
  rw [List.append_nil] at eout
  subst eout
  rw [hks] at hkp
  cases hkp
  refine .inl ⟨(jj _).1 (Nat.le_refl _),w _ H2 s2 ?_⟩
  have e1:dctK (ddL ks) = .dct (es.map fun e=>.tup (e.1.map .int)) (es.map fun _=>.bl true):=by
   unfold dctK
   rw [<- hek,List.map_map,List.map_map]
   rfl
  rw [e1]
  exact .dT hD (.inl hHl) (rps_bl es hes)
end
section
variable {C:Ct} {pos:Pos} {kx vx tg iter:Expr} {ifs:List Expr} {sc:Scope} {N:List Str} {js:List (Option Nat)} {ks:List Nat} {fi:En->Rs (List D)} {fg:D->En->Rs En} {ft:En->Rs Bool} {fk fv:En->Rs D}
theorem se_dT (hB:∀ i,BlkNames (C.X i) sc N (stV js) ks) (hi:SI C tg iter fi) (hg:SG (C.blk sc N) tg ks fg) (ht:SIfs (C.blk sc N) ifs ft) (hk:SE (C.blk sc N) (some []) kx fk) (hv:SE (C.blk sc N) (some []) vx fv)
  (hs:∀ i x,foldedSetIterable iter (C.X i).env x=pure x:=by intro _ _; rfl):SE C (some []) (.DictComp kx vx [⟨tg,iter,ifs,0⟩] sc pos) (dcD fi js fg ft fk fv):=by
 obtain ⟨wi,i1,i2⟩:=hi
 obtain ⟨g,g1,g2,g3,g4⟩:=hg
 obtain ⟨tt,t1,t2⟩:=ht
 obtain ⟨tk,k1,k2⟩:=hk
 obtain ⟨tv,v1,v2⟩:=hv
 refine ⟨_,fun i=>pe_cb (pos:=pos) (hB i) (C.calm i) (i1 i) (fun c fp s₀ H₀=>g1 (i,c,fp,s₀,H₀)) g3 (fun c fp s₀ H₀=>t1 (i,c,fp,s₀,H₀)) (turn_dict kx vx tg iter ifs sc pos) (start_dict kx vx tg iter ifs sc pos) acc_dx ?_ rfl rfl (hs i),sim_dT i2 g2 t2 k2 v2⟩
 intro c fp s₀ H₀
 have:=pb_dT (X:=(C.X i).block sc c N fp s₀ H₀) (by have:=(C.room i).un; show (C.X i).A.units < cLine; omega) (k1 (i,c,fp,s₀,H₀)) (v1 (i,c,fp,s₀,H₀))
 rw [show ((C.X i).block sc c N fp s₀ H₀).K=C.K from C.hK i] at this
 exact this
end
noncomputable def addI:D->D->Rs D
 | .lst l,.lst k=>if l.length + k.length <= sizeLine/\imms k=true then .ok (.lst (l ++ k)) else .st
 | _,_=>.st
theorem se_addI {C:Ct} {m1 m2:Mode} {a b:Expr} {fa fb:En->Rs D} {pos:Pos} (ha:SE C m1 a fa) (hb:SE C m2 b fb):SE C m1 (.BinOp a .Add b pos) (op2 addI fa fb):=by
 obtain ⟨t,h1,h2⟩:=ha
 obtain ⟨u,k1,k2⟩:=hb
 refine ⟨_,fun i=>pe_op (C.addR i) (h1 i) (k1 i),?_⟩
 intro τ σ H ρ lab Q R W
 refine h2 τ σ H ρ lab _ R (W.bd.imp fun d _ w x H1 s1 r1=>k2 τ σ H1 ρ lab _ (R.up s1) (w.bd.imp fun e _ w y H2 s2 r2=>?_))
 obtain ⟨z,ez,w⟩:=w.okD
 unfold addI at ez
 split at ez
 ·split at ez
  ·rename_i hl
   cases ez
   obtain ⟨_,_,rfl,g1,m1,q1⟩:=(r1.up s2).lst_inv
   obtain ⟨_,_,rfl,g2,m2,q2⟩:=r2.lst_inv
   refine .inr (.inl ⟨_,_,_,_,rfl,rfl,g1,g2,by rw [q1.length,q2.length]; exact hl.1,fun p H' s hp hn=>w _ H' ((s1.trans s2).trans s) (.lst hp (.inl ((s1.trans s2).free hn)) ?_)⟩)
   exact ((q1.wk fun q o e z=>⟨z.1,fun e'=>by subst e'; rw [hn] at e; cases e⟩).append (q2.imm hl.2)).up s
  ·cases ez
 ·cases ez
end VL
namespace VL
open PySem PySem.Spec PyProof.Rows L2
noncomputable def entI (p:Int × Tok):Int × Value:=(hashInt p.1,.int p.1 p.2)
noncomputable def SetI (h:Heap) (a:Addr) (led:Bool) (ks:List Int):Prop:=∃ es ep t,h.get? a=some (setObj es ep t)/\TbOk t es.size/\t.led=led/\∃ tks:List (Int × Tok),tks.map (·.1)=ks/\es.toList.Perm (tks.map entI)
section
variable {prog:Program} {w:World} {A:Around} {E:Value->Shared->Prop} {s:Shared} {a:Addr} {led:Bool} {ks:List Int}
theorem elems_entI {es:Array (Int × Value)} {tks:List (Int × Tok)} (hp:es.toList.Perm (tks.map entI)):ElemsOf (intKind prog w) es.toList:=fun e he=>by
 obtain ⟨p,_,rfl⟩:=List.mem_map.mp (hp.mem_iff.mp he)
 exact ⟨⟨p.1,intKind_is _ _ _ _,rfl⟩,rfl⟩
theorem layNew_ok {t:SetTable} {es:Array (Int × Value)} (T:TbOk t es.size) (h63:es.size < 63) (h:Int) (x:Value):∃ j,layNew t es h x=(SetTable.insertAt es (t.put j).2 (h,x),(t.put j).1,false,false)/\TbPut (t.put j).1 (es.size + 1)/\(t.put j).1.led=t.led:=by
 obtain ⟨j,j1,j2,j3⟩:=probe_free (hashAt:=fun _=>h + 1) T (h:=h) fun i hi=>by omega
 obtain ⟨P,p1,p2,p3,p4⟩:=put_ok T h63 j1 j2
 have hes:(SetTable.insertAt es (t.put j).2 (h,x)).size=es.size + 1:=ins_size _ _ _
 refine ⟨j,?_,P,p4⟩
 have hf:t.freeSlot h=some (j,false):=by unfold SetTable.freeSlot; rw [j3]; rfl
 unfold layNew SetTable.orStandIn
 rw [hf]
 dsimp only
 rw [hes,P.fits]
 rfl
theorem relayAll_ok {t:SetTable} {es:Array (Int × Value)} {n:Nat} (P:TbPut t n) (hn:es.size=n) (h5:n=5\/n=19):∃ es' t',relayAll t es (SetTable.grown es.size)=(es',t',false)/\TbOk t' es'.size/\t'.led=t.led/\es'.toList.Perm es.toList:=by
 obtain ⟨t',order,r1,r2,r3,r4⟩:=relay_ok P.pla h5 (es.map (·.1)) (by rw [Array.size_map]; exact hn)
 have hperm:(order.filterMap (es[·]?)).toList.Perm es.toList:=by
  rw [Array.toList_filterMap]; refine (r4.filterMap _).trans ?_; rw [<- hn,filterMap_getElem?_range]
 have hes:(order.filterMap (es[·]?)).size=n:=by rw [<- Array.length_toList,hperm.length_eq,Array.length_toList,hn]
 refine ⟨order.filterMap (es[·]?),t',?_,by rw [hes]; exact r2,r3,hperm⟩
 unfold relayAll
 rw [hn,r1]
 have hc:coversAll order n=true:=List.isPerm_iff.mpr r4
 dsimp only
 rw [hes,hc,r2.fits]
 rfl
theorem setAddI {k:Int} {tk:Tok} {Q:Bool->Shared->Prop} (S:SetI s.heap a led ks) (h63:ks.length < 63)
  (q:∀ h' b,Heap.SameBut a s.heap h'->SetI h' a led (step_dedup ks k)->Q b { s with heap:=h',toks:=s.toks + 1 }):wpAny (model prog w) A (setAdd a (.int k tk)) Q E s:=by
 obtain ⟨es,ep,t,ho,T,hl,tks,hk,hp⟩:=S
 have hel:ElemsOf (intKind prog w) es.toList:=elems_entI hp
 have hsz:es.size=ks.length:=by rw [<- Array.length_toList,hp.length_eq,List.length_map,<- hk,List.length_map]
 have hb:es.size < scanBound:=by rw [hsz]; unfold scanBound; omega
 have hany:∀ e ∈ es.toList,(intKind prog w).is k e.2=true->k ∈ ks:=fun e he hi=>by
  obtain ⟨p,hpm,rfl⟩:=List.mem_map.mp (hp.mem_iff.mp he)
  have:k=p.1:=(intKind prog w).inj _ k p.1 hi (intKind_is _ _ _ _)
  rw [this,<- hk]
  exact List.mem_map_of_mem hpm
 unfold setAdd; refine wpAny_holding (wpAny_bind ((intKind prog w).pyHash (k:=k) (intKind_is _ _ _ _) ?_))
 unfold setAddHashed setAddHashedIn; refine wpAny_holding (wpAny_bind (wpAny_setState_of (s:={ s with toks:=s.toks + 1 }) ho rfl T.fits ?_))
 dsimp only; rw [byScan_of (knd:=intKind prog w) rfl hb hel]; simp only [↓reduceIte]
 unfold setAddByScan; refine wpAny_bind (wpAny_bind (wpAny_rule (wpAny_bind (wpAny_setScan_of (knd:=intKind prog w) (s:={ s with toks:=s.toks + 1 }) (intKind_is _ _ _ _) ho rfl T.fits hel ?_))))
 cases hr:List.findIdx? (fun e=>(intKind prog w).is k e.2) es.toList with
 | some j =>
  obtain ⟨hj,hpj,_⟩:=List.findIdx?_eq_some_iff_getElem.mp hr
  have hin:=hany _ (List.getElem_mem hj) hpj
  dsimp only; refine wpAny_pure (wpAny_pure (q s.heap _ (Heap.SameBut.refl a s.heap) ?_))
  have:step_dedup ks k=ks:=by unfold step_dedup; rw [if_pos (List.any_eq_true.mpr ⟨k,hin,by simp⟩)]
  rw [this]
  exact ⟨es,ep,t,ho,T,hl,tks,hk,hp⟩
 | none =>
  have hno:k ∉ ks:=fun hin=>by
   rw [<- hk] at hin
   obtain ⟨p,hpm,e⟩:=List.mem_map.mp hin
   have he:entI p ∈ es.toList:=hp.mem_iff.mpr (List.mem_map_of_mem hpm)
   have:=List.findIdx?_eq_none_iff.mp hr _ he
   rw [<- e] at this
   have z:(intKind prog w).is p.1 (.int p.1 p.2)=false:=this
   rw [intKind_is] at z
   cases z
  have hstep:step_dedup ks k=ks ++ [k]:=by
   unfold step_dedup; rw [if_neg]
   intro h; obtain ⟨y,hy,e⟩:=List.any_eq_true.mp h
   exact hno (by rw [<- eq_of_beq e]; exact hy)
  obtain ⟨j,hL,P,pl⟩:=layNew_ok T (by omega) ((intKind prog w).hash k) (.int k tk)
  have hes:(SetTable.insertAt es (t.put j).2 ((intKind prog w).hash k,Value.int k tk)).size=es.size + 1:=ins_size _ _ _
  have hperm:(SetTable.insertAt es (t.put j).2 ((intKind prog w).hash k,Value.int k tk)).toList.Perm ((tks ++ [(k,tk)]).map entI):=by
   have:=SetTable.insertAt_perm es (t.put j).2 ((intKind prog w).hash k,Value.int k tk)
   rw [Array.toList_push] at this
   rw [List.map_append]
   exact this.trans (hp.append_right _)
  have htk:(tks ++ [(k,tk)]).map (·.1)=step_dedup ks k:=by rw [hstep,List.map_append,hk]; rfl
  dsimp only
  rw [hL]
  dsimp only
  refine wpAny_bind (wpAny_pure ?_)
  rw [P.pla]
  simp only [↓reduceIte]
  refine wpAny_bind (wpAny_pure ?_)
  simp only [↓reduceIte]
  generalize SetTable.insertAt es (t.put j).2 ((intKind prog w).hash k,Value.int k tk)=es1 at hes hperm ⊢
  generalize (t.put j).1=t1 at P pl ⊢
  refine wpAny_bind (storeT (s:={ s with toks:=s.toks + 1 }) ho (by omega) fun e1=>?_)
  simp only [Bool.not_false,Bool.true_and]
  cases hf:t1.tooFull with
  | true =>
   obtain ⟨es2,t2,hR,T2,l2,p2⟩:=relayAll_ok P hes (P.full (by omega) hf)
   simp only [↓reduceIte]
   rw [hR]
   dsimp only
   refine wpAny_bind (wpAny_pure ?_)
   have hz2:es2.size <= 63:=by rw [<- Array.length_toList,p2.length_eq,Array.length_toList]; omega
   refine wpAny_bind (storeT e1 hz2 fun e2=>wpAny_pure (wpAny_pure (q _ _ ((Heap.SameBut.update s.heap a _).trans (Heap.SameBut.update _ a _)) ⟨es2,_,t2,e2,T2,l2.trans (pl.trans hl),_,htk,p2.trans hperm⟩)))
  | false =>
   simp only [Bool.false_eq_true,if_false]
   exact wpAny_pure (wpAny_pure (q _ _ (Heap.SameBut.update ..) ⟨es1,_,t1,e1,by rw [hes]; exact P.still hf,pl.trans hl,_,htk,hperm⟩))
theorem set_loopI {R:Result->Shared->Prop} {I S:Addr} {fp wr:List Addr} {G:Array GenState->Array GenState->Prop} {n:Nat} {St:Nat->Shared->Prop} {vs:List Value} {ns:List Int} (W:WalksS prog w A.in1 I fp wr G n (fun i v=>vs.toArray[i]? = some v) St) (hSf:S ∉ fp) (hi:IntsAre vs ns) (hn:n=vs.length) (h64:n < 64) (led:Bool) :
  ∀ (k i:Nat) (s:Shared),n - i=k->i <= n->St i s->SetI s.heap S led (ddI (ns.take i))->(∀ s',Moved (S :: wr) G s s'->SetI s'.heap S led (ddI ns)->R (.ok (.ret .none)) s') ->
   codeAny (model prog w) A (.builtin "set.update.loop" ⟨[.ref S,.ref I],[]⟩) R s:=by
 have hSw:S ∉ wr:=fun h=>hSf (W.sub _ h)
 have hsb:∀ b ∈ wr,b ∈ S :: wr:=fun b hb=>List.mem_cons_of_mem _ hb
 have hlen:vs.length=ns.length:=IntsAre.length hi
 have keep:∀ {h h':Heap} {ks:List Int},SetI h S led ks->(∀ o,h.get? S=some o->h'.get? S=some o)->SetI h' S led ks:=fun ⟨es,ep,t,e,r⟩ k=>⟨es,ep,t,k _ e,r⟩
 intro k
 induction k with
 | zero =>
  intro i s hk hi' hst hS hR
  have hin':i=n:=by omega
  subst hin'
  refine codeAny_builtin PyProof.Rows.F.entry_set_update_loop ?_; rw [Around.under_plainId PyProof.Rows.F.plain_set_update_loop _]; show wpAny _ A.in1 (pyNext (.ref I) >>= _) _ _ s
  refine wpAny_bind (W.done s _ _ hst fun s' hm=>wpAny_pure (hR s' (hm.mono hsb) ?_))
  rw [List.take_of_length_le (by omega)] at hS
  exact keep hS fun o e=>hm.heap S _ hSw e
 | succ k ih =>
  intro i s hk hi' hst hS hR
  have hlt:i < n:=by omega
  refine codeAny_builtin PyProof.Rows.F.entry_set_update_loop ?_; rw [Around.under_plainId PyProof.Rows.F.plain_set_update_loop _]; show wpAny _ A.in1 (pyNext (.ref I) >>= _) _ _ s
  refine wpAny_bind (W.item i s _ _ hlt hst fun v s' hP' hst' hm=>?_)
  have hP:vs[i]? = some v:=by simpa using hP'
  obtain ⟨t,rfl⟩:=PyProof.Rows.IntsAre.int_at hi i v hP
  have hS':SetI s'.heap S led (ddI (ns.take i)):=keep hS fun o e=>hm.heap S _ hSw e
  have hle:(ddI (ns.take i)).length < 63:=by
   have h1:=ddI_le (ns.take i)
   rw [List.length_take] at h1
   omega
  have hnx:step_dedup (ddI (ns.take i)) (ns.getD i 0)=ddI (ns.take (i + 1)):=by
   have hx:ns[i]? = some (ns.getD i 0):=by
    rw [List.getD_eq_getElem?_getD,List.getElem?_eq_getElem (by omega)]
    rfl
   rw [List.take_add_one,hx,<- ddI_snoc]
   rfl
  show wpAny _ A.in1 (holding [Value.int (ns.getD i 0) t] (setAdd S (.int (ns.getD i 0) t)) >>= _) _ _ s'; refine wpAny_bind (wpAny_holding (setAddI hS' hle fun h' b c1 c3=>?_))
  have kp:∀ b o,b ≠ S->s'.heap.get? b=some o->h'.get? b=some o:=fun b o hb e=>by rw [c1.2 b hb]; exact e
  rw [hnx] at c3
  refine wpAny_pure ⟨plainId_quiet PyProof.Rows.F.plain_set_update_loop _,ih (i + 1) _ (by omega) hlt (W.frame _ s' _ _ hst' (Nat.le_succ _) fun b hb o e=>kp b o (fun z=>hSf (z ▸ hb)) e) c3 fun s'' hm'' hS''=>?_⟩
  exact hR s'' (Moved.trans W.gtrans ((hm.mono hsb).then_heap (Nat.le_succ _) fun b o hb e=>kp b o (fun z=>hb (z ▸ List.mem_cons_self)) e) hm'') hS''
theorem newSort_ints {vs:List Value} {ns:List Int} {Q:Value->Shared->Prop} (hI:IntsAre vs ns) (h64:vs.length < 64)
  (h:∀ (out:List Value) h' e,Vals ((sortI ns).map V.int) out->(∀ b o,s.heap.get? b=some o->h'.get? b=some o)->h'.get? s.heap.objs.size=some (seqObj "list" out.toArray e)->Q (.ref s.heap.objs.size) { s with heap:=h' }) :
  wpAny (model prog w) A (newList vs >>= fun l=>holding [l] (call (.builtin "list.sort") [l]) >>= fun _=>ret l) (fun fin s'=>∃ r,fin = .done (.ret r)/\Q r s') E s:=by
 refine wpAny_bind (wpAny_newList ?_ (by rw [sizeLine_eq]; omega))
 have hoL:(s.heap.push (seqObj "list" vs.toArray 0)).get? s.heap.objs.size=some (seqObj "list" vs.toArray 0):=Heap.get?_push_size _ rfl
 refine wpAny_bind (wpAny_holding (wpAny_call_entry slot_list_sort ⟨_,hoL,rfl⟩ entry_list_sort (list_sort_tree (s:={ s with heap:=s.heap.push (seqObj "list" vs.toArray 0) }) hoL hI h64 fun out ns' a1 a2 a3=>⟨_,rfl,wpAny_pure ⟨_,rfl,?_⟩⟩) (args_list_sort _)))
 have e:ns'=sortI ns:=PySem.W.ksm_same (a2.trans (sortI_perm ns).symm) a3 (sortI_ris ns)
 subst e
 have hne:∀ b o,s.heap.get? b=some o->b ≠ s.heap.objs.size:=fun b o e=>Nat.ne_of_lt (Heap.lt_size e)
 have g0:=get?_update_seq hoL fun _=>(#[]:Array Value)
 have g1:=Heap.get?_push_of_some (seqObj "list" #[] 0) (Heap.get?_push_of_some (seqObj "tuple" vs.toArray 0) g0)
 have g2:=get?_update_seq g1 (fun _=>out)
 refine h out.toList _ _ (vals_of_ints a1) (fun b o e=>?_) (by rw [Array.toArray_toList]; exact g2)
 unfold sortedHeap; rw [Heap.get?_update_ne _ _ _ _ (hne b o e)]
 refine Heap.get?_push_of_some _ (Heap.get?_push_of_some _ ?_); rw [Heap.get?_update_ne _ _ _ _ (hne b o e)]; exact Heap.get?_push_of_some _ e
end
section
variable {X:Cx}
noncomputable def setIφ (w:World) (a:Addr) (ks:List Int):Heap->Prop:=fun h=>SetI h a (!w.params.followText "set-order") ks
noncomputable def rSetJ (K:PySem.W.Frag) (w:World):List V->Hp->VK->Prop:=fun xs H Q=>∃ p ns,xs=[.ref p]/\SqL K H p (ns.map V.int)/\ns.length < 64/\∀ a H',Same H H'->H' a=some (.ext (setIφ w a (ddI ns)))->H a=none->Q (.ref a) H'
theorem call_setJ (hc:X.calm=true):CallR X (.type "set") (rSetJ X.K X.w):=by
 intro pins s σ H xs us Q I r h
 obtain ⟨p,ns,rfl,hp,hz,q⟩:=h
 obtain ⟨u,rfl,ru⟩:=vals1 r
 cases ru
 have hh:X.A.in1.in1.in1.handled=none:=I.ok.hd hc
 obtain ⟨its,rv,pl,_⟩:=I.list hp
 have hI:IntsAre its ns:=intsAre_of rv
 have hlen:its.length=ns.length:=IntsAre.length hI
 obtain ⟨ol,hol,hcl,nl,hdl⟩:=pl.isList
 have hlS:p < s.heap.objs.size:=Heap.lt_size hol
 refine PySem.call_set_by (T:="list") (Φ:=setIφ X.w s.heap.objs.size (ddI ns)) ⟨ol,hol,hcl⟩ F.sub_list_set F.sub_list_frozenset (by decide)
  (fun h₁ A₁ E₁ Q₁ k q=>wpAny_pyIter_list (s:={ s with heap:=h₁ }) (items:=its.toArray) ⟨ol,k _ _ hol,hcl,nl,hdl⟩ q) (fun R hR=>?_) fun h' tk g1 g2=>?_
 ·generalize hled:(!X.w.params.followText "set-order")=led at hR ⊢
  have hS:(s.heap.push (setObj #[] 0 (.fresh 0 0 led))).get? s.heap.objs.size=some (setObj #[] 0 (.fresh 0 0 led)):=Heap.get?_push_size _ rfl
  have hl1:(s.heap.push (setObj #[] 0 (.fresh 0 0 led))).IsList p its.toArray:=⟨ol,Heap.get?_push_of_some _ hol,hcl,nl,hdl⟩
  have hneI:p ≠ (s.heap.push (setObj #[] 0 (.fresh 0 0 led))).objs.size:=by rw [Heap.size_push]; exact Nat.ne_of_lt (Nat.lt_succ_of_lt hlS)
  have hSf:s.heap.objs.size ∉ [(s.heap.push (setObj #[] 0 (.fresh 0 0 led))).objs.size,p]:=by
   rw [Heap.size_push]; simp only [List.mem_cons,List.not_mem_nil,or_false,not_or]; exact ⟨Nat.ne_of_lt (Nat.lt_succ_self _),Nat.ne_of_gt hlS⟩
  refine set_loopI ((Walks.list hh _ p hneI its.toArray).toS) hSf hI (by simp) (by simpa [hlen] using hz) led (its.toArray.size - 0) 0 _ (by simp) (Nat.zero_le _) ⟨⟨_,Heap.get?_push_size _ rfl,rfl,rfl⟩,(hl1.push _)⟩
   ⟨#[],0,_,Heap.get?_push_of_some _ hS,TbOk.fresh led,rfl,[],rfl,List.Perm.refl _⟩ fun s' hm hS'=>?_
  obtain ⟨h',g',d',tk',os'⟩:=s'
  have eg:g'=s.gens:=hm.gens
  have ed:d'=s.drawn:=hm.drawn
  have eo:os'=s.os:=hm.os
  subst eg; subst ed; subst eo
  refine hR h' tk' (by unfold setIφ; rw [hled]; exact hS') fun b o e=>hm.heap b o ?_ (Heap.get?_push_of_some _ (Heap.get?_push_of_some _ e))
  have hb:=Heap.lt_size e
  rw [Heap.size_push]
  simp only [List.mem_cons,List.not_mem_nil,or_false,not_or]; exact ⟨Nat.ne_of_lt hb,Nat.ne_of_lt (Nat.lt_succ_of_lt hb)⟩
 ·have hfr:H s.heap.objs.size=none:=I.hok.fresh (Nat.le_refl _)
  obtain ⟨es,ep,t,ge,r⟩:=id g1
  exact ⟨.ref s.heap.objs.size,upd H s.heap.objs.size (.ext (setIφ X.w s.heap.objs.size (ddI ns))),I.laid (t':=tk) g2 (Nat.le_refl _) ⟨g1,⟨_,ge⟩,fun h1 h2 ⟨es,ep,t,e1,e2⟩ k=>⟨es,ep,t,k _ e1,e2⟩⟩,rfl,q _ _ (same_new hfr _) upd_same hfr⟩
noncomputable def rSortJ (w:World):List V->Hp->VK->Prop:=fun xs H Q=>∃ a ks,xs=[.ref a]/\H a=some (.ext (setIφ w a ks))/\ks.length < 64/\New H (.lst ((sortI ks).map V.int)) Q
theorem ints_of:∀ (tks:List (Int × Tok)),IntsAre (tks.map fun p=>Value.int p.1 p.2) (tks.map (·.1))
 | []=>.nil
 | p :: r=>.cons _ _ (ints_of r)
theorem call_sortedJ (hc:X.calm=true):CallR X (.builtin "sorted") (rSortJ X.w):=by
 intro pins s σ H xs us Q I r h
 obtain ⟨a,ks,rfl,ha,h64,q⟩:=h
 obtain ⟨u,rfl,ru⟩:=vals1 r
 cases ru
 obtain ⟨⟨es,ep,t,e1,e2,e3,tks,hk,e4⟩,_,_⟩:=I.hok a _ ha
 have hsz:es.size=ks.length:=by rw [<- Array.length_toList,e4.length_eq,List.length_map,<- hk,List.length_map]
 have hh:X.A.in1.handled=none:=I.ok.hd hc
 refine sorted_entry (collect_src (src_set (ep:=ep) e2 e3) hh e1 (by rw [hsz,sizeLine_eq]; omega) fun h1 tk vs1 k0 k1 k2 k3=>?_)
 have hperm:(ordE X.w a ep es).toList.Perm (tks.map entI):=(ordE_perm X.w a ep es).trans e4
 obtain ⟨zs,z1,z2⟩:=perm_map_inv (f:=entI) hperm rfl
 have hvs:vs1=zs.map fun p=>Value.int p.1 p.2:=by
  have e5:(ordE X.w a ep es).toList.map (·.2)=zs.map fun p=>Value.int p.1 p.2:=by rw [z2,List.map_map]; rfl
  have hlen:(ordE X.w a ep es).toList.length=es.size:=by rw [(ordE_perm X.w a ep es).length_eq,Array.length_toList]
  rw [<- e5]
  refine List.ext_getElem (by rw [k2,List.length_map,hlen]) fun i g1 g2=>?_
  have:=k3 i _ (List.getElem?_eq_getElem g1)
  rw [<- Array.getElem?_toList,<- List.getElem?_map,List.getElem?_eq_getElem g2] at this
  exact (Option.some.inj this).symm
 subst hvs
 have hps:(zs.map (·.1)).Perm ks:=by rw [<- hk]; exact z1.map _
 have hss:sortI (zs.map (·.1))=sortI ks:=PySem.W.ksm_same (((sortI_perm _).trans hps).trans (sortI_perm ks).symm) (sortI_ris _) (sortI_ris _)
 refine newSort_ints (s:={ s with heap:=h1,toks:=tk }) (ints_of zs) (by rw [k2]; omega) fun out h' e a1 a2 a3=>?_
 rw [hss] at a1
 have hle:s.heap.objs.size <= h1.objs.size:=Nat.le_of_lt k0
 have hfr:H h1.objs.size=none:=I.hok.fresh hle
 exact ⟨.ref h1.objs.size,upd H h1.objs.size (.lst ((sortI ks).map V.int)),I.laid (t':=tk) (fun b o e=>a2 b o (k1 b o e)) hle ⟨by rw [List.length_map,(sortI_perm ks).length_eq]; exact Nat.le_trans (Nat.le_of_lt h64) (by decide),out,e,a1,a3⟩,rfl,q.at hfr⟩
end
noncomputable def sortSetI:List D->Rs D
 | [.lst l]=>match intsOf l with
  | some ns=>if ns.length < 64 then .ok (.lst ((sortI (ddI ns)).map .int)) else .st
  | none=>.st
 | _=>.st
section
variable {C:Ct} {pos pos2 p p2:Pos} {m:Mode} {a:Expr} {ga:En->Rs (List D)}
theorem se_sortedSetI (hg:∀ i,Gl (C.X i) "sorted") (hm:C.mg "sorted" = none) (hv:bootBuiltins "sorted" = some (.builtin "sorted")) (hg2:∀ i,Gl (C.X i) "set") (hm2:C.mg "set" = none) (hv2:bootBuiltins "set" = some (.type "set")) (ha:SA C m [a] ga)
  (he:∀ i,starEach [a] (C.X i).env=[(false,eval a (C.X i).env)]:=by intro _; rfl) (he2:∀ i,starEach [Expr.Call (.Name "set" p2) [a] [] pos2] (C.X i).env=[(false,eval (.Call (.Name "set" p2) [a] [] pos2) (C.X i).env)]:=by intro _; rfl) :
  SE C (some []) (.Call (.Name "sorted" p) [.Call (.Name "set" p2) [a] [] pos2] [] pos) (opA sortSetI ga):=by
 obtain ⟨t,h1,h2⟩:=ha
 have hw:∀ i,(C.X i).w=C.w:=fun i=>(C.cx i).2.1
 refine ⟨tCB (rSortJ C.w) (tCons (tCB (rSetJ C.K C.w) t) tNil),fun i=>pe_callB (by rw [<- hw i]; exact call_sortedJ (C.calm i)) (hg i) (by rw [(C.cx i).2.2.2.1]; exact hm) hv
  (pa_cons (pe_callTy (by rw [<- C.hK i,<- hw i]; exact call_setJ (C.calm i)) (hg2 i) (by rw [(C.cx i).2.2.2.1]; exact hm2) hv2 (h1 i) (by decide) (by decide) (he i) rfl) pa_nil (he2 i)) (by decide) (by decide) (he2 i) rfl,fun τ σ H ρ lab Q R W=>?_⟩
 refine h2 τ σ H ρ lab _ R (W.bd.imp fun ds _ w xs H1 s1 r1=>?_)
 obtain ⟨z,ez,w⟩:=w.okD
 unfold sortSetI at ez
 split at ez
 ·obtain ⟨v,rfl,rd⟩:=r1.one_inv
  obtain ⟨b,ys,rfl,hb,mb,rb⟩:=rd.lst_inv
  split at ez
  ·rename_i ns e
   split at ez
   ·rename_i hl
    cases ez
    rw [intsOf_some e] at rb
    have ey:=rb.ints_of
    subst ey
    refine ⟨b,ns,rfl,SqL.of hb,hl,fun c H2 s2 hc2 hn2=>⟨c,ddI ns,rfl,hc2,Nat.lt_of_le_of_lt (ddI_le ns) hl,fun q H3 s3 hq hn3=>w _ H3 ((s1.trans s2).trans s3) (.lst hq (.inl ((s1.trans s2).free hn3)) Rps.ints)⟩⟩
   ·cases ez
  ·cases ez
 ·cases ez
end
end VL
namespace VL
open PySem PySem.Spec PyProof.Rows L2
section
variable {ρ:En} {i:Nat} {f g:En->Rs D} {fb gb:En->Rs Bool} {ga:En->Rs (List D)} {u v:En->Ou} {d e:D}
@[simp] theorem varS_ap:varS i ρ=match ρ[i]? with
 | some (.sh d)=>.ok d
 | some (.nw d)=>.ok d
 | _=>.st:=by_def rfl
@[simp] theorem varN_ap:varN i ρ=match ρ[i]? with
 | some (.nw d)=>.ok d
 | _=>.st:=by_def rfl
@[simp] theorem varO_ap:varO i ρ=match ρ[i]? with
 | some (.ow d)=>.ok d
 | some (.o2 l)=>.ok (.lst (l.map .lst))
 | _=>.st:=by_def rfl
@[simp] theorem cD_ap:cD d ρ = .ok d:=by_def rfl
@[simp] theorem nilA_ap:nilA ρ = .ok []:=by_def rfl
@[simp] theorem consA_ap:consA f ga ρ=(f ρ).bd fun d=>(ga ρ).bd fun ds=>.ok (d :: ds):=by_def rfl
@[simp] theorem szl:sizeLine=16777216:=sizeLine_eq
@[simp] theorem tupD_ap:tupD ga ρ=(ga ρ).bd fun ds=>if ds.length <= 16777216 then .ok (.tup ds) else .st:=by unfold tupD; rw [szl]
@[simp] theorem lstD_ap:lstD ga ρ=(ga ρ).bd fun ds=>if ds.length <= 16777216 then .ok (.lst ds) else .st:=by unfold lstD; rw [szl]
@[simp] theorem okD_ok:okD (.ok d) = .ok d:=by_def rfl
@[simp] theorem op2_ap {fd:D->D->Rs D}:op2 fd f g ρ=(f ρ).bd fun x=>(g ρ).bd fun y=>okD (fd x y):=by_def rfl
@[simp] theorem op1_ap {fd:D->Rs D}:op1 fd f ρ=(f ρ).bd fun x=>okD (fd x):=by_def rfl
@[simp] theorem opA_ap {fd:List D->Rs D}:opA fd ga ρ=(ga ρ).bd fun x=>okD (fd x):=by_def rfl
@[simp] theorem callD_ap {F:List D->Rs D}:callD F ga ρ=(ga ρ).bd F:=by_def rfl
noncomputable def andR (d:D) (r:Rs D):Rs D:=match d with
 | .bl true=>r
 | .bl false=>.ok (.bl false)
 | _=>.st
noncomputable def orR (d:D) (r:Rs D):Rs D:=match d with
 | .bl false=>r
 | .bl true=>.ok (.bl true)
 | _=>.st
@[simp] theorem andR_bl {b:Bool} {r:Rs D}:andR (.bl b) r=if b=true then r else .ok (.bl false):=by cases b <;> rfl
@[simp] theorem orR_bl {b:Bool} {r:Rs D}:orR (.bl b) r=if b=true then .ok (.bl true) else r:=by cases b <;> rfl
@[simp] theorem andD_ap:andD f g ρ=(f ρ).bd fun d=>andR d (g ρ):=by_def rfl
@[simp] theorem orD_ap:orD f g ρ=(f ρ).bd fun d=>orR d (g ρ):=by_def rfl
@[simp] theorem notD_bl {b:Bool}:notD (.bl b) = .ok (.bl (!b)):=by_def rfl
noncomputable def chR (d:D) (r:Rs D):Rs D:=match d with
 | .bl true=>r
 | .bl false=>.ok (.bl false)
 | _=>.st
@[simp] theorem chR_bl {b:Bool} {r:Rs D}:chR (.bl b) r=if b=true then r else .ok (.bl false):=by cases b <;> rfl
@[simp] theorem chD_ap {fd fd':D->D->Rs D} {h:En->Rs D}:chD fd fd' f g h ρ=(f ρ).bd fun x=>(g ρ).bd fun y=>(okD (fd x y)).bd fun z=>chR z ((h ρ).bd fun w=>okD (fd' y w)):=by_def rfl
@[simp] theorem truD_bl {b:Bool}:truD (.bl b) = .ok b:=by_def rfl
@[simp] theorem blD_bl {b:Bool}:blD (.bl b) = .ok b:=by_def rfl
@[simp] theorem tst_ap:tst f ρ=(f ρ).bd truD:=by_def rfl
@[simp] theorem tsb_ap:tsb f ρ=(f ρ).bd blD:=by_def rfl
@[simp] theorem andT_ap:andT fb gb ρ=(fb ρ).bd fun k=>if k=true then gb ρ else .ok false:=by_def rfl
@[simp] theorem orT_ap:orT fb gb ρ=(fb ρ).bd fun k=>if k=true then .ok true else gb ρ:=by_def rfl
@[simp] theorem notT_ap:notT fb ρ=(fb ρ).bd fun k=>.ok (!k):=by_def rfl
@[simp] theorem seqS_ap:seqS u v ρ=(u ρ).sq v:=by_def rfl
@[simp] theorem retS_ap:retS f ρ=(f ρ).bo .rt:=by_def rfl
@[simp] theorem dropS_ap:dropS f ρ=(f ρ).bo fun _=>.nx ρ:=by_def rfl
@[simp] theorem ifS_ap:ifS fb u v ρ=(fb ρ).bo fun k=>if k=true then u ρ else v ρ:=by_def rfl
@[simp] theorem setS_ap:setS i f ρ=(f ρ).bo fun d=>.nx (ρ.set i (.sh d)):=by_def rfl
@[simp] theorem setN_ap:setN i f ρ=(f ρ).bo fun d=>.nx (ρ.set i (.nw d)):=by_def rfl
@[simp] theorem setO_ap:setO i f ρ=(f ρ).bo fun d=>.nx (ρ.set i (.ow d)):=by_def rfl
@[simp] theorem gnm_ap:gnm i d ρ = .ok (ρ.set i (.sh d)):=by_def rfl
@[simp] theorem gnil_nil:gnil [] ρ = .ok ρ:=by_def rfl
@[simp] theorem gcons_cons {a:D->En->Rs En} {b:List D->En->Rs En} {ds:List D}:gcons a b (d :: ds) ρ=(a d ρ).bd (b ds):=by_def rfl
@[simp] theorem gtup_tup {n:Nat} {b:List D->En->Rs En} {ds:List D}:gtup n b (.tup ds) ρ=if ds.length=n then b ds ρ else .st:=by_def rfl
noncomputable def nxO (r:Rs En):Ou:=match r with
 | .ok ρ=>.nx ρ
 | _=>.st
@[simp] theorem nxO_ok:nxO (.ok ρ) = .nx ρ:=by_def rfl
@[simp] theorem asgS_ap {a:D->En->Rs En}:asgS f a ρ=(f ρ).bo fun d=>nxO (a d ρ):=by_def rfl
@[simp] theorem itD_tup {l:List D}:itD (.tup l) = .ok l:=by_def rfl
@[simp] theorem itD_lst {l:List D}:itD (.lst l) = .ok l:=by_def rfl
@[simp] theorem itrD_ap:itrD f ρ=(f ρ).bd itD:=by_def rfl
@[simp] theorem forS_ap {a:D->En->Rs En}:forS ga a u ρ=(ga ρ).bo fun ds=>forL a u ds ρ:=by_def rfl
noncomputable def Ou.tn (o:Ou) (k:En->Ou):Ou:=match o with
 | .nx ρ2=>k ρ2
 | .ct ρ2=>k ρ2
 | .bk ρ2=>.nx ρ2
 | o=>o
@[simp] theorem tn_nx {k:En->Ou}:(Ou.nx ρ).tn k=k ρ:=by_def rfl
noncomputable def okE (r:Rs En) (k:En->Ou):Ou:=match r with
 | .ok ρ=>k ρ
 | _=>.st
@[simp] theorem okE_ok {k:En->Ou}:okE (.ok ρ) k=k ρ:=by_def rfl
theorem forL_cons {a:D->En->Rs En} {ds:List D}:forL a u (d :: ds) ρ=okE (a d ρ) fun ρ1=>(u ρ1).tn (forL a u ds):=by
 unfold forL
 cases a d ρ with
 | ok ρ1=>simp only [okE_ok]; cases u ρ1 <;> rfl
 | ex c=>rfl
 | st=>rfl
@[simp] theorem oNone_ap:oNone ρ = .ok none:=by_def rfl
@[simp] theorem oSome_ap:oSome f ρ=(f ρ).bd fun d=>match d with
 | .int i=>.ok (some i)
 | _=>.st:=by_def rfl
@[simp] theorem sliceD_ap {a b:En->Rs (Option Int)}:sliceD f a b ρ=(f ρ).bd fun d=>(a ρ).bd fun l=>(b ρ).bd fun h=>okD (slD d l h):=by_def rfl
@[simp] theorem slD_tup {l:List D} {a b:Option Int}:slD (.tup l) a b = .ok (.tup (cutD l a b)):=by_def rfl
@[simp] theorem revD_tup {l:List D}:revD (.tup l) = .ok (.tup l.reverse):=by_def rfl
@[simp] theorem immD_ap:immD f ρ=(f ρ).bd gImm:=by_def rfl
@[simp] theorem rngA_ap {r:List D->Rs (List D)}:rngA r ga ρ=(ga ρ).bd r:=by_def rfl
@[simp] theorem raiseS_ap {x:Str}:raiseS x ga ρ=(ga ρ).bo fun ds=>if ds.length <= 16777216 then .ex x else .st:=by unfold raiseS; rw [szl]
@[simp] theorem yesT_ap:yesT ρ = .ok true:=by_def rfl
end
section
variable {d e:D} {i j:Int} {l m:List D}
theorem gImm_of (h:imm d=true):gImm d = .ok d:=by unfold gImm; rw [if_pos h]
@[simp] theorem gImm_int:gImm (.int i) = .ok (.int i):=by_def rfl
@[simp] theorem addD_int:addD (.int i) (.int j) = .ok (.int (i + j)):=by_def rfl
@[simp] theorem addD_lst:addD (.lst l) (.lst m)=if l.length + m.length <= 16777216 then .ok (.lst (l ++ m)) else .st:=by unfold addD; rw [szl]
@[simp] theorem addD_tup:addD (.tup l) (.tup m)=if l.length + m.length <= 16777216 then .ok (.tup (l ++ m)) else .st:=by unfold addD; rw [szl]
@[simp] theorem subD_int:subD (.int i) (.int j) = .ok (.int (i - j)):=by_def rfl
theorem fdivD_int (h0:0 < j) (h1:j < 1073741824):fdivD (.int i) (.int j) = .ok (.int (i / j)):=by unfold fdivD i2; dsimp only; rw [if_pos (by simp [h0,h1])]
theorem modD_int (h0:0 < j):modD (.int i) (.int j) = .ok (.int (i % j)):=by unfold modD i2; dsimp only; rw [if_pos (by simp [h0])]
theorem mulD_l (h0 : -(2 ^ 64) < i) (h1:i < 2 ^ 64):mulD (.int i) (.int j) = .ok (.int (i * j)):=by unfold mulD; dsimp only; rw [if_pos (by simp only [Bool.or_eq_true,Bool.and_eq_true,decide_eq_true_eq]; exact .inl ⟨h0,h1⟩)]
theorem mulD_r (h0 : -(2 ^ 64) < j) (h1:j < 2 ^ 64):mulD (.int i) (.int j) = .ok (.int (i * j)):=by unfold mulD; dsimp only; rw [if_pos (by simp only [Bool.or_eq_true,Bool.and_eq_true,decide_eq_true_eq]; exact .inr ⟨h0,h1⟩)]
@[simp] theorem negD_int:negD (.int i) = .ok (.int (-i)):=by_def rfl
@[simp] theorem ltD_int:ltD (.int i) (.int j) = .ok (.bl (decide (i < j))):=by_def rfl
@[simp] theorem leD_int:leD (.int i) (.int j) = .ok (.bl (decide (i <= j))):=by_def rfl
@[simp] theorem gtD_int:gtD (.int i) (.int j) = .ok (.bl (decide (j < i))):=by_def rfl
@[simp] theorem geD_int:geD (.int i) (.int j) = .ok (.bl (decide (j <= i))):=by_def rfl
theorem ltD_tup (ns ms:List Int):ltD (.tup (ns.map .int)) (.tup (ms.map .int)) = .ok (.bl (HT.lexLt ns ms)):=by
 unfold ltD ltT i2
 simp only [intsOf_map]
@[simp] theorem lenD_tup:lenD [.tup l] = .ok (.int l.length):=by_def rfl
@[simp] theorem lenD_scr {x:List Int}:lenD [.scr x] = .ok (.int x.length):=by_def rfl
@[simp] theorem tupleD_lst:tupleD [.lst l] = .ok (.tup l):=by_def rfl
@[simp] theorem listD_tup:listD [.tup l] = .ok (.lst l):=by_def rfl
@[simp] theorem ixD_tup:ixD (.tup l) (.int i)=atD l i:=by_def rfl
@[simp] theorem ixD_lst:ixD (.lst l) (.int i)=atD l i:=by_def rfl
@[simp] theorem ixD_scr {x:List Int}:ixD (.scr x) (.int i)=atD (x.map .int) i:=by_def rfl
theorem atD_nat {k:Nat} (h:l[k]? = some d):atD l (k:Int) = .ok d:=by
 have hk:=(List.getElem?_eq_some_iff.mp h).1
 unfold atD atI ixN
 rw [if_pos (by omega),if_pos (by omega)]
 simp [h]
theorem atD_in (h0:0 <= i) (h1:i < l.length):∃ d,atD l i = .ok d/\d ∈ l/\l[i.toNat]? = some d:=by
 have hk:i.toNat < l.length:=by omega
 have e:=List.getElem?_eq_getElem hk
 refine ⟨_,?_,List.getElem_mem hk,e⟩
 have:=atD_nat e
 rwa [Int.toNat_of_nonneg h0] at this
@[simp] theorem atD_0 {r:List D}:atD (d :: r) 0 = .ok d:=atD_nat (k:=0) rfl
@[simp] theorem atD_1 {r:List D}:atD (d :: e :: r) 1 = .ok e:=atD_nat (k:=1) rfl
@[simp] theorem eqR_int {n:Bool}:eqR n (.int i) (.int j) = .ok (.bl (if n then !(i == j) else i == j)):=by_def rfl
@[simp] theorem isD_bl {a b:Bool}:isD false (.bl a) (.bl b) = .ok (.bl (a == b)):=by_def rfl
noncomputable def knd:D->Bool
 | .set _=>false
 | .scr _=>false
 | _=>true
theorem isiD_eq {T:String} (hT:T ∈ ["bool","int","str","list","tuple","dict"]) (h:knd d=true):isiD T d = .ok (.bl (isiT (tyD d) T)):=by
 have ht:tyD d ∈ ["NoneType","bool","int","str","list","tuple","dict"]:=by cases d <;> simp_all [tyD,knd]
 unfold isiD isiOk
 cases e:isiT (tyD d) T <;> simp [ht,hT]
noncomputable def isIntB:D->Bool
 | .int _=>true
 | .bl _=>true
 | _=>false
noncomputable def isBlB:D->Bool
 | .bl _=>true
 | _=>false
noncomputable def isTupB:D->Bool
 | .tup _=>true
 | _=>false
theorem isi_int (h:knd d=true):isiD "int" d = .ok (.bl (isIntB d)):=by
 rw [isiD_eq (by simp) h]
 cases d <;> first | rfl | (simp [knd] at h)
theorem isi_bool (h:knd d=true):isiD "bool" d = .ok (.bl (isBlB d)):=by
 rw [isiD_eq (by simp) h]
 cases d <;> first | rfl | (simp [knd] at h)
theorem isi_tuple (h:knd d=true):isiD "tuple" d = .ok (.bl (isTupB d)):=by
 rw [isiD_eq (by simp) h]
 cases d <;> first | rfl | (simp [knd] at h)
@[simp] theorem isi_tuple_tup:isiD "tuple" (.tup l) = .ok (.bl true):=isi_tuple rfl
@[simp] theorem isi_bool_bl {b:Bool}:isiD "bool" (.bl b) = .ok (.bl true):=isi_bool rfl
end
@[simp] theorem runD_ap {n:Nat} {u:En->Ou} {ds:List D}:runD n u ds=match u (startE n ds) with
 | .nx _=>.ok .non
 | .rt d=>.ok d
 | .ex c=>.ex c
 | _=>.st:=by_def rfl
theorem rng1_ok {j:Int} (h0 : -(2 ^ 62) <= j) (h1:j < 2 ^ 62):rng1 [.int j] = .ok (rngD 0 j):=by unfold rng1; dsimp only; rw [if_pos ⟨h0,h1⟩]
theorem rng2_ok {i j:Int} (h0 : -(2 ^ 62) <= i) (h1:i < 2 ^ 62) (h2 : -(2 ^ 62) <= j) (h3:j < 2 ^ 62):rng2 [.int i,.int j] = .ok (rngD i j):=by unfold rng2; dsimp only; rw [if_pos ⟨⟨h0,h1⟩,h2,h3⟩]
theorem mem_rngD {lo hi:Int} {d:D}:d ∈ rngD lo hi ↔ ∃ k:Int,d = .int k/\lo <= k/\k < hi:=by
 unfold rngD
 rw [List.mem_map]
 constructor
 ·rintro ⟨n,hn,rfl⟩
  have:=List.mem_range.mp hn
  exact ⟨lo + n,rfl,by omega,by omega⟩
 ·rintro ⟨k,rfl,h1,h2⟩
  exact ⟨(k - lo).toNat,List.mem_range.mpr (by omega),by congr 1; omega⟩
end VL
namespace VL.My
open PySem L2
noncomputable def d_is_whole:En->Ou :=
  (retS (andD (op1 (isiD "int") (varS 0)) (op1 notD (op1 (isiD "bool") (varS 0)))))
noncomputable def F_is_whole:List D->Rs D:=runD 1 d_is_whole
noncomputable def d_is_rising:En->Ou :=
  (seqS (forS (rngA rng2 (consA (cD (.int 1)) (consA (opA lenD (consA (varS 0) nilA)) nilA))) (gnm 1)
   (ifS (notT (tsb (op2 ltD (op2 ixD (varS 0) (op2 subD (varS 1) (cD (.int 1)))) (op2 ixD (varS 0) (varS 1)))))
    (retS (cD (.bl false)))
    Ou.nx))
  (retS (cD (.bl true))))
noncomputable def F_is_rising:List D->Rs D:=runD 2 d_is_rising
noncomputable def d_law_cell_at:En->Ou :=
  (seqS (ifS (tsb (op2 ltD (varS 1) (opA lenD (consA (varS 0) nilA))))
   (retS (immD (op2 ixD (varS 0) (varS 1))))
   Ou.nx)
  (retS (cD (.int 0))))
noncomputable def F_law_cell_at:List D->Rs D:=runD 2 d_law_cell_at
noncomputable def d_law_draw:En->Ou :=
  (seqS (ifS (tsb (op2 geD (varS 0) (op2 powD (cD (.int 10)) (cD (.int 18)))))
   (seqS (setS 3 (varS 0))
   (seqS (forS (rngA rng1 (consA (varS 1) nilA)) (gnm 4)
    (setS 3 (op2 fdivD (varS 3) (varS 2))))
   (retS (op2 modD (varS 3) (varS 2)))))
   Ou.nx)
  (seqS (setS 5 (op2 modD (op2 mulD (op2 addD (op2 addD (op2 modD (varS 0) (cD (.int 1000000007))) (op2 mulD (cD (.int 1009)) (varS 1))) (cD (.int 17))) (cD (.int 69621))) (cD (.int 2147483647))))
  (seqS (setS 5 (op2 modD (op2 addD (op2 addD (op2 mulD (varS 5) (varS 5)) (op2 mulD (cD (.int 40503)) (varS 1))) (cD (.int 5))) (cD (.int 2147483629))))
  (retS (op2 modD (op2 fdivD (op2 modD (op2 mulD (varS 5) (cD (.int 48271))) (cD (.int 2147483647))) (cD (.int 32))) (varS 2))))))
noncomputable def F_law_draw:List D->Rs D:=runD 6 d_law_draw
noncomputable def d_law_whole:En->Ou :=
  (retS (andD (op1 (isiD "int") (varS 0)) (op1 notD (op1 (isiD "bool") (varS 0)))))
noncomputable def F_law_whole:List D->Rs D:=runD 1 d_law_whole
noncomputable def d_law_rising:En->Ou :=
  (retS (opA (allD fun bs=>bs.all id) (consA (lcD (rngA rng2 (consA (cD (.int 1)) (consA (opA lenD (consA (varS 0) nilA)) nilA))) [none,some 0] (gnm 0) yesT (op2 ltD (op2 ixD (varS 1) (op2 subD (varS 0) (cD (.int 1)))) (op2 ixD (varS 1) (varS 0)))) nilA)))
noncomputable def F_law_rising:List D->Rs D:=runD 1 d_law_rising
noncomputable def d_is_many:En->Ou :=
  (retS (andD (callD F_is_whole (consA (varS 0) nilA)) (chD leD leD (cD (.int 0)) (varS 0) (cD (.int 60)))))
noncomputable def F_is_many:List D->Rs D:=runD 1 d_is_many
noncomputable def d_is_place:En->Ou :=
  (retS (andD (callD F_is_whole (consA (varS 1) nilA)) (chD leD ltD (cD (.int 0)) (varS 1) (varS 0))))
noncomputable def F_is_place:List D->Rs D:=runD 2 d_is_place
noncomputable def d_law_turn:En->Ou :=
  (seqS (setO 2 (lstD nilA))
  (seqS (forS (rngA rng1 (consA (varS 1) nilA)) (gnm 3)
   (insS 2 (callD F_law_draw (consA (varS 0) (consA (op2 addD (cD (.int 100)) (varS 3)) (consA (op2 addD (varS 3) (cD (.int 1))) nilA)))) (immD (varS 3))))
  (retS (varO 2))))
noncomputable def F_law_turn:List D->Rs D:=runD 4 d_law_turn
noncomputable def d_law_odd:En->Ou :=
  (seqS (setN 1 (lstD (consA (cD .non) (consA (cD (.bl true)) (consA (cD (.int 0)) (consA (op1 negD (cD (.int 1))) (consA (cD (.str "")) (consA (cD (.str "0")) (consA (tupD nilA) (consA (lstD nilA) (consA (cD (.dct [] [])) (consA (tupD (consA (tupD nilA) nilA)) (consA (tupD (consA (cD (.int 0)) nilA)) (consA (tupD (consA (tupD (consA (cD (.int 0)) (consA (cD (.int 1)) nilA))) nilA)) (consA (lstD (consA (cD (.int 0)) (consA (cD (.int 1)) nilA))) (consA (tupD (consA (cD .non) nilA)) (consA (tupD (consA (cD (.str "a")) (consA (cD (.str "b")) nilA))) (consA (op2 powD (cD (.int 10)) (cD (.int 20))) nilA))))))))))))))))))
  (retS (op2 ixD (varN 1) (callD F_law_draw (consA (varS 0) (consA (cD (.int 90)) (consA (cD (.int 16)) nilA)))))))
noncomputable def F_law_odd:List D->Rs D:=runD 2 d_law_odd
noncomputable def d_law_places:En->Ou :=
  (seqS (setS 3 (op2 addD (cD (.int 1)) (callD F_law_draw (consA (varS 0) (consA (varS 1) (consA (cD (.int 4)) nilA))))))
  (retS (opA tupleD (consA (lcD (rngA rng1 (consA (varS 2) nilA)) [none,some 0,some 1,some 3] (gnm 0) (tsb (op2 ltD (callD F_law_draw (consA (varS 1) (consA (op2 addD (op2 addD (varS 2) (cD (.int 1))) (varS 0)) (consA (cD (.int 5)) nilA)))) (varS 3))) (immD (varS 0))) nilA))))
noncomputable def F_law_places:List D->Rs D:=runD 4 d_law_places
noncomputable def d_law_are_places:En->Ou :=
  (seqS (ifS (orT (notT (tst (op1 (isiD "tuple") (varS 0)))) (notT (tst (opA (allD fun bs=>bs.all id) (consA (lcD (itrD (varS 0)) [none,some 1] (gnm 0) yesT (andD (callD F_law_whole (consA (varS 0) nilA)) (chD leD ltD (cD (.int 0)) (varS 0) (varS 1)))) nilA)))))
   (retS (cD (.bl false)))
   Ou.nx)
  (retS (callD F_law_rising (consA (varS 0) nilA))))
noncomputable def F_law_are_places:List D->Rs D:=runD 2 d_law_are_places
noncomputable def d_law_is_arrow:En->Ou :=
  (seqS (ifS (orT (notT (tst (op1 (isiD "tuple") (varS 0)))) (tsb (op2 (eqR true) (opA lenD (consA (varS 0) nilA)) (cD (.int 2)))))
   (retS (cD (.bl false)))
   Ou.nx)
  (retS (andD (opA (allD fun bs=>bs.all id) (consA (lcD (itrD (varS 0)) [none,some 1] (gnm 0) yesT (andD (callD F_law_whole (consA (varS 0) nilA)) (chD leD ltD (cD (.int 0)) (varS 0) (varS 1)))) nilA)) (op2 (eqR true) (op2 ixD (varS 0) (cD (.int 0))) (op2 ixD (varS 0) (cD (.int 1)))))))
noncomputable def F_law_is_arrow:List D->Rs D:=runD 2 d_law_is_arrow
noncomputable def d_law_drawn_pairs:En->Ou :=
  (seqS (setO 2 (lstD nilA))
  (seqS (forS (rngA enuA (consA (op2 ixD (varS 1) (cD (.int 1))) nilA)) (gtup 2 (gcons (gnm 3) (gcons (gnm 4) gnil)))
   (ifS (tsb (op2 gtD (callD F_law_draw (consA (varS 0) (consA (op2 addD (cD (.int 60)) (op2 modD (varS 3) (cD (.int 40)))) (consA (cD (.int 3)) nilA)))) (cD (.int 0))))
    (ifS (tsb (op2 (eqR false) (lcD (itrD (varS 2)) [none,some 4] (gnm 0) (orT (tsb (op2 (eqR false) (op2 ixD (varS 0) (cD (.int 0))) (op2 ixD (varS 1) (cD (.int 0))))) (tsb (op2 (eqR false) (op2 ixD (varS 0) (cD (.int 1))) (op2 ixD (varS 1) (cD (.int 1)))))) (immD (varS 0))) (lstD nilA)))
     (appS 2 (immD (varS 4)))
     Ou.nx)
    Ou.nx))
  (retS (opA tupleD (consA (varO 2) nilA)))))
noncomputable def F_law_drawn_pairs:List D->Rs D:=runD 5 d_law_drawn_pairs
noncomputable def d_law_bent_row:En->Ou :=
  (seqS (setS 4 (callD F_law_draw (consA (varS 0) (consA (varS 1) (consA (op2 addD (opA lenD (consA (varS 2) nilA)) (cD (.int 1))) nilA)))))
  (seqS (setN 5 (op2 ixD (lstD (consA (cD (.int 0)) (consA (immD (varS 3)) (consA (op1 negD (cD (.int 1))) (consA (cD (.bl true)) (consA (cD .non) (consA (cD (.str "0")) (consA (lstD (consA (cD (.int 0)) nilA)) (consA (op2 subD (varS 3) (cD (.int 1))) (consA (cD (.int 1)) nilA)))))))))) (callD F_law_draw (consA (varS 0) (consA (op2 addD (varS 1) (cD (.int 1))) (consA (cD (.int 9)) nilA))))))
  (seqS (setN 6 (lstD (consA (op2 addD (op2 addD (immD (sliceD (varS 2) oNone (oSome (varS 4)))) (tupD (consA (varN 5) nilA))) (immD (sliceD (varS 2) (oSome (op2 addD (varS 4) (cD (.int 1)))) oNone))) (consA (op2 addD (immD (sliceD (varS 2) oNone (oSome (varS 4)))) (immD (sliceD (varS 2) (oSome (op2 addD (varS 4) (cD (.int 1)))) oNone))) (consA (op2 addD (op2 addD (immD (sliceD (varS 2) oNone (oSome (varS 4)))) (tupD (consA (varN 5) nilA))) (immD (sliceD (varS 2) (oSome (varS 4)) oNone))) (consA (immD (op1 revD (varS 2))) nilA))))))
  (seqS (setN 6 (op2 addD (varN 6) (lstD (consA (opA listD (consA (immD (varS 2)) nilA)) (consA (op2 addD (immD (varS 2)) (immD (sliceD (varS 2) oNone (oSome (cD (.int 1)))))) (consA (op2 addD (immD (sliceD (varS 2) (oSome (cD (.int 1))) oNone)) (immD (sliceD (varS 2) oNone (oSome (cD (.int 1)))))) (consA (tupD nilA) (consA (cD .non) (consA (tupD (consA (immD (varS 2)) nilA)) nilA)))))))))
  (retS (op2 ixD (varN 6) (callD F_law_draw (consA (varS 0) (consA (op2 addD (varS 1) (cD (.int 2))) (consA (cD (.int 10)) nilA))))))))))
noncomputable def F_law_bent_row:List D->Rs D:=runD 7 d_law_bent_row
noncomputable def d_law_other_pairs:En->Ou :=
  (seqS (setS 3 (callD F_law_draw (consA (varS 0) (consA (cD (.int 80)) (consA (op2 addD (opA lenD (consA (varS 1) nilA)) (cD (.int 1))) nilA)))))
  (seqS (setN 4 (op2 ixD (lstD (consA (tupD (consA (cD (.int 0)) (consA (cD (.int 0)) nilA))) (consA (tupD (consA (cD (.int 0)) (consA (cD (.int 1)) nilA))) (consA (tupD (consA (cD (.int 1)) (consA (cD (.int 0)) nilA))) (consA (tupD (consA (cD (.int 2)) (consA (cD (.int 1)) nilA))) (consA (cD .non) (consA (lstD (consA (cD (.int 0)) (consA (cD (.int 1)) nilA))) (consA (tupD (consA (cD (.int 0)) (consA (cD (.int 1)) (consA (cD (.int 2)) nilA)))) (consA (tupD (consA (cD (.bl true)) (consA (cD (.int 0)) nilA))) nilA))))))))) (callD F_law_draw (consA (varS 0) (consA (cD (.int 81)) (consA (cD (.int 8)) nilA))))))
  (seqS (setN 5 (lstD (consA (op2 addD (op2 addD (immD (sliceD (varS 1) oNone (oSome (varS 3)))) (tupD (consA (varN 4) nilA))) (immD (sliceD (varS 1) (oSome (op2 addD (varS 3) (cD (.int 1)))) oNone))) (consA (immD (op1 revD (varS 1))) (consA (opA listD (consA (immD (varS 1)) nilA)) (consA (immD (op2 ixD (varS 2) (cD (.int 1)))) (consA (op2 addD (immD (varS 1)) (immD (sliceD (varS 1) oNone (oSome (cD (.int 1)))))) (consA (immD (sliceD (op2 ixD (varS 2) (cD (.int 1))) oNone (oSome (cD (.int 2))))) (consA (cD .non) nilA)))))))))
  (retS (op2 ixD (varN 5) (callD F_law_draw (consA (varS 0) (consA (cD (.int 82)) (consA (cD (.int 7)) nilA)))))))))
noncomputable def F_law_other_pairs:List D->Rs D:=runD 6 d_law_other_pairs
noncomputable def d_is_pair:En->Ou :=
  (seqS (ifS (orT (notT (tst (op1 (isiD "tuple") (varS 1)))) (tsb (op2 (eqR true) (opA lenD (consA (varS 1) nilA)) (cD (.int 2)))))
   (retS (cD (.bl false)))
   Ou.nx)
  (retS (andD (callD F_is_place (consA (varS 0) (consA (op2 ixD (varS 1) (cD (.int 0))) nilA))) (andD (callD F_is_place (consA (varS 0) (consA (op2 ixD (varS 1) (cD (.int 1))) nilA))) (op2 (eqR true) (op2 ixD (varS 1) (cD (.int 0))) (op2 ixD (varS 1) (cD (.int 1))))))))
noncomputable def F_is_pair:List D->Rs D:=runD 2 d_is_pair
noncomputable def d_are_places:En->Ou :=
  (seqS (ifS (notT (tst (op1 (isiD "tuple") (varS 1))))
   (retS (cD (.bl false)))
   Ou.nx)
  (seqS (forS (itrD (varS 1)) (gnm 2)
   (ifS (notT (tst (callD F_is_place (consA (varS 0) (consA (varS 2) nilA)))))
    (retS (cD (.bl false)))
    Ou.nx))
  (retS (callD F_is_rising (consA (varS 1) nilA)))))
noncomputable def F_are_places:List D->Rs D:=runD 3 d_are_places
noncomputable def d_law_one_way:En->Ou :=
  (seqS (setS 2 (callD F_law_draw (consA (varS 0) (consA (cD (.int 0)) (consA (op2 addD (varS 1) (cD (.int 1))) nilA)))))
  (seqS (setS 3 (callD F_law_draw (consA (varS 0) (consA (cD (.int 1)) (consA (cD (.int 8)) nilA)))))
  (seqS (setN 4 (op2 ixD (lstD (consA (cD (.int 1)) (consA (cD (.int 2)) (consA (cD (.int 4)) (consA (cD (.int 2)) (consA (cD (.int 3)) (consA (cD (.int 6)) (consA (cD (.int 1)) (consA (cD (.int 3)) nilA))))))))) (varS 3)))
  (seqS (setS 5 (callD F_law_turn (consA (varS 0) (consA (varS 2) nilA))))
  (seqS (setO 6 (lstD nilA))
  (seqS (setS 7 (cD (.int 2)))
  (seqS (forS (rngA rng1 (consA (varS 2) nilA)) (gnm 8)
   (forS (rngA rng1 (consA (varS 8) nilA)) (gnm 9)
    (seqS (setS 7 (op2 addD (varS 7) (cD (.int 1))))
    (seqS (setS 10 (callD F_law_draw (consA (varS 0) (consA (varS 7) (consA (cD (.int 8)) nilA)))))
    (seqS (ifS (orT (tsb (op2 ltD (varS 10) (varN 4))) (andT (tsb (op2 (eqR false) (varS 3) (cD (.int 6)))) (tsb (op2 (eqR false) (varS 8) (op2 addD (varS 9) (cD (.int 1)))))))
     (appS 6 (tupD (consA (immD (op2 ixD (varS 5) (varS 9))) (consA (immD (op2 ixD (varS 5) (varS 8))) nilA))))
     Ou.nx)
    (ifS (orT (andT (tsb (op2 gtD (varS 3) (cD (.int 2)))) (andT (tsb (op2 (eqR true) (varS 3) (cD (.int 7)))) (tsb (op2 ltD (callD F_law_draw (consA (varS 0) (consA (op2 addD (varS 7) (cD (.int 50))) (consA (cD (.int 8)) nilA)))) (op2 subD (varN 4) (cD (.int 1))))))) (andT (tsb (op2 (eqR false) (varS 3) (cD (.int 7)))) (tsb (op2 ltD (varS 10) (cD (.int 3))))))
     (appS 6 (tupD (consA (immD (op2 ixD (varS 5) (varS 8))) (consA (immD (op2 ixD (varS 5) (varS 9))) nilA))))
     Ou.nx))))))
  (seqS (ifS (andT (tsb (op2 (eqR false) (varS 3) (cD (.int 6)))) (tsb (op2 gtD (varS 2) (cD (.int 1)))))
   (appS 6 (tupD (consA (immD (op2 ixD (varS 5) (op2 subD (varS 2) (cD (.int 1))))) (consA (immD (op2 ixD (varS 5) (cD (.int 0)))) nilA))))
   Ou.nx)
  (retS (tupD (consA (immD (varS 2)) (consA (opA tupleD (consA (opA sortSetD (consA (varD 6) nilA)) nilA)) nilA))))))))))))
noncomputable def F_law_one_way:List D->Rs D:=runD 11 d_law_one_way
noncomputable def d_law_are_pairs:En->Ou :=
  (seqS (ifS (orT (notT (tst (op1 (isiD "tuple") (varS 1)))) (notT (tst (opA (allD fun bs=>bs.all id) (consA (lcD (itrD (varS 1)) [none,some 0] (gnm 0) yesT (andD (callD F_law_is_arrow (consA (varS 0) (consA (op2 ixD (varS 1) (cD (.int 0))) nilA))) (op2 (inR false) (varS 0) (op2 ixD (varS 1) (cD (.int 1)))))) nilA)))))
   (retS (cD (.bl false)))
   Ou.nx)
  (seqS (ifS (orT (notT (tst (callD F_law_rising (consA (varS 1) nilA)))) (tsb (op2 ltD (opA lenX (consA (opA setD (consA (lcD (itrD (varS 1)) [none,none] (gtup 2 (gcons (gnm 0) (gcons (gnm 1) gnil))) yesT (immD (varS 0))) nilA)) nilA)) (opA lenD (consA (varS 1) nilA)))))
   (retS (cD (.bl false)))
   Ou.nx)
  (retS (op2 (eqR false) (opA lenX (consA (opA setD (consA (lcD (itrD (varS 1)) [none,none] (gtup 2 (gcons (gnm 0) (gcons (gnm 1) gnil))) yesT (immD (varS 1))) nilA)) nilA)) (opA lenD (consA (varS 1) nilA))))))
noncomputable def F_law_are_pairs:List D->Rs D:=runD 2 d_law_are_pairs
noncomputable def d_law_are_marks:En->Ou :=
  (seqS (ifS (orT (notT (tst (op1 (isiD "tuple") (varS 1)))) (orT (tsb (op2 (eqR true) (opA lenD (consA (varS 1) nilA)) (cD (.int 2)))) (notT (tst (opA (allD fun bs=>bs.all id) (consA (lcD (itrD (varS 1)) [none,some 0] (gnm 0) yesT (callD F_law_are_places (consA (varS 0) (consA (op2 ixD (varS 1) (cD (.int 0))) nilA)))) nilA))))))
   (retS (cD (.bl false)))
   Ou.nx)
  (retS (op2 (eqR false) (lcD (itrD (op2 ixD (varS 0) (cD (.int 1)))) [none,some 1] (gnm 0) (andT (tsb (op2 (inR true) (op2 ixD (varS 0) (cD (.int 0))) (op2 ixD (varS 1) (cD (.int 0))))) (tsb (op2 (inR true) (op2 ixD (varS 0) (cD (.int 1))) (op2 ixD (varS 1) (cD (.int 1)))))) (immD (varS 0))) (lstD nilA))))
noncomputable def F_law_are_marks:List D->Rs D:=runD 2 d_law_are_marks
noncomputable def d_law_other_marks:En->Ou :=
  (seqS (setN 3 (callD F_law_bent_row (consA (varS 0) (consA (cD (.int 84)) (consA (op2 ixD (varS 1) (cD (.int 0))) (consA (varS 2) nilA))))))
  (seqS (setN 4 (lstD (consA (tupD (consA (varN 3) (consA (immD (op2 ixD (varS 1) (cD (.int 1)))) nilA))) (consA (tupD (consA (immD (op2 ixD (varS 1) (cD (.int 0)))) (consA (varN 3) nilA))) (consA (tupD (consA (immD (op2 ixD (varS 1) (cD (.int 1)))) (consA (immD (op2 ixD (varS 1) (cD (.int 0)))) nilA))) (consA (immD (sliceD (varS 1) oNone (oSome (cD (.int 1))))) (consA (op2 addD (immD (varS 1)) (tupD (consA (tupD nilA) nilA))) (consA (opA listD (consA (immD (varS 1)) nilA)) (consA (tupD (consA (immD (op2 ixD (varS 1) (cD (.int 0)))) nilA)) nilA)))))))))
  (retS (op2 ixD (varN 4) (callD F_law_draw (consA (varS 0) (consA (cD (.int 88)) (consA (cD (.int 7)) nilA))))))))
noncomputable def F_law_other_marks:List D->Rs D:=runD 5 d_law_other_marks
noncomputable def d_are_rising_pairs:En->Ou :=
  (seqS (ifS (notT (tst (op1 (isiD "tuple") (varS 1))))
   (retS (cD (.bl false)))
   Ou.nx)
  (seqS (forS (itrD (varS 1)) (gnm 2)
   (ifS (notT (tst (callD F_is_pair (consA (varS 0) (consA (varS 2) nilA)))))
    (retS (cD (.bl false)))
    Ou.nx))
  (retS (callD F_is_rising (consA (varS 1) nilA)))))
noncomputable def F_are_rising_pairs:List D->Rs D:=runD 3 d_are_rising_pairs
noncomputable def d_is_one_way:En->Ou :=
  (seqS (ifS (orT (notT (tst (op1 (isiD "tuple") (varS 0)))) (tsb (op2 (eqR true) (opA lenD (consA (varS 0) nilA)) (cD (.int 2)))))
   (retS (cD (.bl false)))
   Ou.nx)
  (retS (andD (callD F_is_many (consA (op2 ixD (varS 0) (cD (.int 0))) nilA)) (callD F_are_rising_pairs (consA (op2 ixD (varS 0) (cD (.int 0))) (consA (op2 ixD (varS 0) (cD (.int 1))) nilA))))))
noncomputable def F_is_one_way:List D->Rs D:=runD 1 d_is_one_way
noncomputable def d_check_one_way:En->Ou :=
  (ifS (notT (tst (callD F_is_one_way (consA (varS 0) nilA))))
   (raiseS "NoOneWay" (consA (cD (.str "this is no one-way web")) nilA))
   Ou.nx)
noncomputable def F_check_one_way:List D->Rs D:=runD 1 d_check_one_way
noncomputable def d_is_pairs:En->Ou :=
  (seqS (dropS (callD F_check_one_way (consA (varS 0) nilA)))
  (seqS (ifS (notT (tst (callD F_are_rising_pairs (consA (op2 ixD (varS 0) (cD (.int 0))) (consA (varS 1) nilA)))))
   (retS (cD (.bl false)))
   Ou.nx)
  (seqS (setS 2 (dcD (itrD (op2 ixD (varS 0) (cD (.int 1)))) [none] (gnm 0) yesT (immD (varS 0)) (cD (.bl true))))
  (seqS (ifS (notT (tst (opA (allD fun bs=>bs.all id) (consA (lcD (itrD (varS 1)) [none,some 2] (gnm 0) yesT (op2 (inK false) (varS 0) (varS 1))) nilA))))
   (retS (cD (.bl false)))
   Ou.nx)
  (seqS (setS 3 (opA lenX (consA (scD (itrD (varS 1)) [none,none] (gtup 2 (gcons (gnm 0) (gcons (gnm 1) gnil))) yesT (immD (varS 0))) nilA)))
  (seqS (setS 4 (opA lenX (consA (scD (itrD (varS 1)) [none,none] (gtup 2 (gcons (gnm 0) (gcons (gnm 1) gnil))) yesT (immD (varS 1))) nilA)))
  (retS (andD (op2 (eqR false) (varS 3) (opA lenD (consA (varS 1) nilA))) (op2 (eqR false) (varS 4) (opA lenD (consA (varS 1) nilA)))))))))))
noncomputable def F_is_pairs:List D->Rs D:=runD 5 d_is_pairs
noncomputable def d_is_marks:En->Ou :=
  (seqS (dropS (callD F_check_one_way (consA (varS 0) nilA)))
  (seqS (ifS (orT (notT (tst (op1 (isiD "tuple") (varS 1)))) (tsb (op2 (eqR true) (opA lenD (consA (varS 1) nilA)) (cD (.int 2)))))
   (retS (cD (.bl false)))
   Ou.nx)
  (seqS (asgS (varS 1) (gtup 2 (gcons (gnm 2) (gcons (gnm 3) gnil))))
  (seqS (ifS (orT (notT (tst (callD F_are_places (consA (op2 ixD (varS 0) (cD (.int 0))) (consA (varS 2) nilA))))) (notT (tst (callD F_are_places (consA (op2 ixD (varS 0) (cD (.int 0))) (consA (varS 3) nilA))))))
   (retS (cD (.bl false)))
   Ou.nx)
  (retS (opA (allD fun bs=>bs.all id) (consA (lcD (itrD (op2 ixD (varS 0) (cD (.int 1)))) [none,none,some 2,some 3] (gtup 2 (gcons (gnm 0) (gcons (gnm 1) gnil))) yesT (orD (op2 (inR false) (varS 0) (varS 2)) (op2 (inR false) (varS 1) (varS 3)))) nilA)))))))
noncomputable def F_is_marks:List D->Rs D:=runD 4 d_is_marks
noncomputable def d_law:En->Ou :=
  (seqS (forS (rngA rng1 (consA (opA (mmD fun i j=>if j > i then j else i) (consA (cD (.int 1)) (consA (opA (mmD fun i j=>if j < i then j else i) (consA (opA lenD (consA (varS 0) nilA)) (consA (cD (.int 12)) nilA))) nilA))) nilA)) (gnm 1)
   (seqS (setS 2 (callD F_law_cell_at (consA (varS 0) (consA (varS 1) nilA))))
   (seqS (setS 3 (callD F_law_one_way (consA (varS 2) (consA (cD (.int 7)) nilA))))
   (seqS (setS 4 (callD F_law_drawn_pairs (consA (varS 2) (consA (varS 3) nilA))))
   (seqS (setS 5 (trD (op2 ixD (varS 3) (cD (.int 0)))))
   (seqS (setO 6 (lstD (consA (tupD (consA (immD (varS 5)) (consA (tupD nilA) nilA))) (consA (tupD (consA (tupD nilA) (consA (immD (varS 5)) nilA))) (consA (tupD (consA (callD F_law_places (consA (varS 2) (consA (cD (.int 30)) (consA (op2 ixD (varS 3) (cD (.int 0))) nilA)))) (consA (callD F_law_places (consA (varS 2) (consA (cD (.int 40)) (consA (op2 ixD (varS 3) (cD (.int 0))) nilA)))) nilA))) nilA)))))
   (seqS (appS 6 (tupD (consA (opA tupleD (consA (opA sortSetI (consA (lcD (itrD (op2 ixD (varS 3) (cD (.int 1)))) [none,none] (gtup 2 (gcons (gnm 0) (gcons (gnm 1) gnil))) yesT (immD (varS 0))) nilA)) nilA)) (consA (tupD nilA) nilA))))
   (seqS (setN 7 (op2 addI (lstD (consA (immD (varS 4)) (consA (immD (op2 ixD (varS 3) (cD (.int 1)))) (consA (tupD nilA) (consA (callD F_law_other_pairs (consA (varS 2) (consA (varS 4) (consA (varS 3) nilA)))) (consA (callD F_law_odd (consA (varS 2) nilA)) nilA)))))) (varD 6)))
   (forS (itrD (op2 addD (varN 7) (lcD (itrD (varS 6)) [none,some 2,some 3] (gnm 0) yesT (callD F_law_other_marks (consA (varS 1) (consA (varS 0) (consA (op2 ixD (varS 2) (cD (.int 0))) nilA))))))) (gnm 8)
    (seqS (setS 9 (tupD (consA (callD F_is_pairs (consA (varS 3) (consA (varS 8) nilA))) (consA (callD F_is_marks (consA (varS 3) (consA (varS 8) nilA))) nilA))))
    (seqS (ifS (orT (notT (tst (op1 (isiD "bool") (op2 ixD (varS 9) (cD (.int 0)))))) (notT (tst (op1 (isiD "bool") (op2 ixD (varS 9) (cD (.int 1)))))))
     (retS (cD (.bl false)))
     Ou.nx)
    (ifS (tsb (op2 (eqR true) (varS 9) (tupD (consA (callD F_law_are_pairs (consA (varS 3) (consA (varS 8) nilA))) (consA (callD F_law_are_marks (consA (varS 3) (consA (varS 8) nilA))) nilA)))))
     (retS (cD (.bl false)))
     Ou.nx))))))))))))
  (retS (andD (op2 (isD false) (callD F_is_pairs (consA (tupD (consA (cD (.int 0)) (consA (tupD nilA) nilA))) (consA (tupD nilA) nilA))) (cD (.bl true))) (op2 (isD false) (callD F_is_marks (consA (tupD (consA (cD (.int 0)) (consA (tupD nilA) nilA))) (consA (tupD (consA (tupD nilA) (consA (tupD nilA) nilA))) nilA))) (cD (.bl true))))))
noncomputable def F_law:List D->Rs D:=runD 10 d_law
end VL.My
namespace VL.My
open PySem L2
theorem draw_loop {b:Int} (hb:0 < b) (hb2:b < 1073741824) {c:Int} {k:Int}:∀ (ds:List D) (x:Int) (s:Slot),(∀ d ∈ ds,∃ n:Int,d = .int n) ->
  ∃ y s',forL (gnm 4) (setS 3 (op2 fdivD (varS 3) (varS 2))) ds [.sh (.int c),.sh (.int k),.sh (.int b),.sh (.int x),s,.no] = .nx [.sh (.int c),.sh (.int k),.sh (.int b),.sh (.int y),s',.no]
 | [],x,s,_=>⟨x,s,rfl⟩
 | d :: ds,x,s,h=>by
  have ih:=draw_loop hb hb2 (c:=c) (k:=k) ds (x / b) (.sh d) fun e he=>h e (List.mem_cons_of_mem _ he)
  rw [forL_cons]
  simp [fdivD_int hb hb2]
  exact ih
theorem draw_ok {c k b:Int} (hk0:0 <= k) (hk1:k < 2 ^ 40) (hb:0 < b) (hb2:b < 1073741824):∃ r:Int,F_law_draw [.int c,.int k,.int b] = .ok (.int r)/\0 <= r/\r < b:=by
 have hp:powD (.int 10) (.int 18) = .ok (.int 1000000000000000000):=rfl
 by_cases hc:(1000000000000000000:Int) <= c
 ·have hr:=rng1_ok (j:=k) (by omega) (by omega)
  obtain ⟨y,s',e⟩:=draw_loop hb hb2 (c:=c) (k:=k) (rngD 0 k) c .no fun d hd=>let ⟨n,e,_⟩:=mem_rngD.mp hd; ⟨n,e⟩
  refine ⟨y % b,?_,Int.emod_nonneg _ (by omega),Int.emod_lt_of_pos _ hb⟩
  simp [F_law_draw,d_law_draw,startE,hp,hc,hr,e,modD_int hb]
 ·have s1:∀ z:Int,0 <= z % 2147483647/\z % 2147483647 < 2147483647:=fun z=>⟨Int.emod_nonneg _ (by decide),Int.emod_lt_of_pos _ (by decide)⟩
  have s2:∀ z:Int,0 <= z % 2147483629/\z % 2147483629 < 2147483629:=fun z=>⟨Int.emod_nonneg _ (by decide),Int.emod_lt_of_pos _ (by decide)⟩
  have m1:∀ z,mulD (.int 1009) (.int z) = .ok (.int (1009 * z)):=fun z=>mulD_l (by decide) (by decide)
  have m2:∀ z,mulD (.int z) (.int 69621) = .ok (.int (z * 69621)):=fun z=>mulD_r (by decide) (by decide)
  have m3:∀ z,mulD (.int 40503) (.int z) = .ok (.int (40503 * z)):=fun z=>mulD_l (by decide) (by decide)
  have m4:∀ z,mulD (.int z) (.int 48271) = .ok (.int (z * 48271)):=fun z=>mulD_r (by decide) (by decide)
  have m5:∀ z:Int,mulD (.int (z % 2147483647)) (.int (z % 2147483647)) = .ok (.int (z % 2147483647 * (z % 2147483647))):=fun z=>mulD_l (by have:=s1 z; omega) (by have:=s1 z; omega)
  have d1:∀ z,modD (.int z) (.int 1000000007) = .ok (.int (z % 1000000007)):=fun z=>modD_int (by decide)
  have d2:∀ z,modD (.int z) (.int 2147483647) = .ok (.int (z % 2147483647)):=fun z=>modD_int (by decide)
  have d3:∀ z,modD (.int z) (.int 2147483629) = .ok (.int (z % 2147483629)):=fun z=>modD_int (by decide)
  have d4:∀ z,fdivD (.int z) (.int 32) = .ok (.int (z / 32)):=fun z=>fdivD_int (by decide) (by decide)
  have d5:∀ z,modD (.int z) (.int b) = .ok (.int (z % b)):=fun z=>modD_int hb
  simp [F_law_draw,d_law_draw,startE,hp,hc,m1,m2,m3,m4,m5,d1,d2,d3,d4,d5,-Int.emod_emod_of_dvd]
  exact ⟨Int.emod_nonneg _ (by omega),Int.emod_lt_of_pos _ hb⟩
theorem draw_in {c k b:Int} (hk0:0 <= k) (hk1:k < 2 ^ 40) (hb:0 < b) (hb2:b < 1073741824):∃ r:Nat,F_law_draw [.int c,.int k,.int b] = .ok (.int r)/\(r:Int) < b:=by
 obtain ⟨r,e,h0,h1⟩:=draw_ok (c:=c) hk0 hk1 hb hb2
 exact ⟨r.toNat,by rw [Int.toNat_of_nonneg h0]; exact e,by omega⟩
theorem cell_ok {ns:List Int} {k:Int} (h:0 <= k):∃ c:Int,F_law_cell_at [.scr ns,.int k] = .ok (.int c):=by
 by_cases hk:k < ns.length
 ·obtain ⟨d,e,hm,_⟩:=atD_in (l:=ns.map .int) (i:=k) h (by simpa using hk)
  obtain ⟨c,_,rfl⟩:=List.mem_map.mp hm
  exact ⟨c,by simp [F_law_cell_at,d_law_cell_at,startE,hk,e]⟩
 ·exact ⟨0,by simp [F_law_cell_at,d_law_cell_at,startE,hk]⟩
mutual
noncomputable def pln:D->Bool
 | .tup l=>plns l
 | .lst l=>plns l
 | .set _=>false
 | .scr _=>false
 | _=>true
noncomputable def plns:List D->Bool
 | []=>true
 | d :: r=>pln d && plns r
end
theorem pln_knd {d:D} (h:pln d=true):knd d=true:=by cases d <;> first | rfl | (simp [pln] at h)
theorem plns_mem:∀ {l:List D} {d:D},plns l=true->d ∈ l->pln d=true
 | x :: r,d,h,hm=>by
  simp only [plns,Bool.and_eq_true] at h
  rcases List.mem_cons.mp hm with rfl | hm
  ·exact h.1
  ·exact plns_mem h.2 hm
theorem plns_of:∀ {l:List D},(∀ d ∈ l,pln d=true)->plns l=true
 | [],_=>rfl
 | x :: r,h=>by
  simp only [plns,Bool.and_eq_true]
  exact ⟨h x (List.mem_cons_self ..),plns_of fun d hd=>h d (List.mem_cons_of_mem _ hd)⟩
noncomputable def wholeB:D->Bool
 | .int _=>true
 | _=>false
noncomputable def manyB:D->Bool
 | .int i=>decide (0 <= i) && decide (i <= 60)
 | _=>false
noncomputable def placeB (m:Int):D->Bool
 | .int i=>decide (0 <= i) && decide (i < m)
 | _=>false
theorem is_whole_eq {d:D} (h:knd d=true):F_is_whole [d] = .ok (.bl (wholeB d)):=by
 simp [F_is_whole,d_is_whole,startE,isi_int h,isi_bool h]
 cases d <;> rfl
theorem is_many_eq {d:D} (h:knd d=true):F_is_many [d] = .ok (.bl (manyB d)):=by
 simp [F_is_many,d_is_many,startE,is_whole_eq h]
 cases d <;> simp [wholeB,manyB]
 rename_i i
 by_cases h0:0 <= i <;> simp [h0]
theorem is_place_eq {m:Int} {d:D} (h:knd d=true):F_is_place [.int m,d] = .ok (.bl (placeB m d)):=by
 simp [F_is_place,d_is_place,startE,is_whole_eq h]
 cases d <;> simp [wholeB,placeB]
 rename_i i
 by_cases h0:0 <= i <;> simp [h0]
end VL.My
namespace VL.My
open PySem L2
noncomputable def pairB (m:Int):D->Bool
 | .tup [.int a,.int b]=>decide (0 <= a) && decide (a < m) && decide (0 <= b) && decide (b < m) && !(a == b)
 | _=>false
theorem place_int {m:Int} {d:D} (h:placeB m d=true):∃ i:Int,d = .int i/\0 <= i/\i < m:=by
 cases d with
 | int i=>simp [placeB] at h; exact ⟨i,rfl,h.1,h.2⟩
 | _=>simp [placeB] at h
theorem tupB_tup {d:D} (h:isTupB d=true):∃ l,d = .tup l:=by cases d <;> first | exact ⟨_,rfl⟩ | (cases h)
theorem two_of {l:List D} (h:l.length=2):∃ x y,l=[x,y]:=by
 match l,h with
 | [x,y],_=>exact ⟨x,y,rfl⟩
theorem pairB_no {m:Int} {d:D} (h:isTupB d=false):pairB m d=false:=by cases d <;> first | rfl | (cases h)
theorem pairB_len {m:Int} {l:List D} (h:l.length ≠ 2):pairB m (.tup l)=false:=by
 match l,h with
 | [],_=>rfl
 | [x],_=>cases x <;> rfl
 | [x,y],h=>exact absurd rfl h
 | x :: y :: z :: r,_=>cases x <;> first | rfl | (cases y <;> rfl)
theorem pairB_x {m:Int} {x y:D} (h:placeB m x=false):pairB m (.tup [x,y])=false:=by
 cases x with
 | int i =>
  cases y with
  | int j =>
   show ((((decide (0 <= i) && decide (i < m)) && decide (0 <= j)) && decide (j < m)) && !(i == j))=false
   rw [show (decide (0 <= i) && decide (i < m))=false from h]
   rfl
  | _=>rfl
 | _=>rfl
theorem pairB_y {m i:Int} {y:D} (h:placeB m y=false):pairB m (.tup [.int i,y])=false:=by
 cases y with
 | int j =>
  show ((((decide (0 <= i) && decide (i < m)) && decide (0 <= j)) && decide (j < m)) && !(i == j))=false
  rw [Bool.and_assoc (decide (0 <= i) && decide (i < m)),show (decide (0 <= j) && decide (j < m))=false from h,Bool.and_false]
  rfl
 | _=>rfl
theorem pairB_xy {m i j:Int} (h1:placeB m (.int i)=true) (h2:placeB m (.int j)=true):pairB m (.tup [.int i,.int j]) = !(i == j):=by
 show ((((decide (0 <= i) && decide (i < m)) && decide (0 <= j)) && decide (j < m)) && !(i == j)) = !(i == j)
 rw [Bool.and_assoc (decide (0 <= i) && decide (i < m)),show (decide (0 <= j) && decide (j < m))=true from h2,show (decide (0 <= i) && decide (i < m))=true from h1]
 rfl
noncomputable def ipE:En->Ou:=ifS (orT (notT (tst (op1 (isiD "tuple") (varS 1)))) (tsb (op2 (eqR true) (opA lenD (consA (varS 1) nilA)) (cD (.int 2))))) (retS (cD (.bl false))) Ou.nx
theorem is_pair_def:d_is_pair=seqS ipE (retS (andD (callD F_is_place (consA (varS 0) (consA (op2 ixD (varS 1) (cD (.int 0))) nilA))) (andD (callD F_is_place (consA (varS 0) (consA (op2 ixD (varS 1) (cD (.int 1))) nilA))) (op2 (eqR true) (op2 ixD (varS 1) (cD (.int 0))) (op2 ixD (varS 1) (cD (.int 1))))))):=rfl
theorem ipE_no {s:Slot} {d:D} (hk:knd d=true) (h:isTupB d=false):ipE [s,.sh d] = .rt (.bl false):=by simp [ipE,isi_tuple hk,h]
theorem ipE_len {s:Slot} {l:List D} (h:l.length ≠ 2):ipE [s,.sh (.tup l)] = .rt (.bl false):=by
 have:¬ ((l.length:Int)=2):=by omega
 simp [ipE,this]
theorem ipE_two {s:Slot} {x y:D}:ipE [s,.sh (.tup [x,y])] = .nx [s,.sh (.tup [x,y])]:=by simp [ipE]
theorem is_pair_eq {m:Int} {d:D} (h:pln d=true):F_is_pair [.int m,d] = .ok (.bl (pairB m d)):=by
 have st:startE 2 [.int m,d]=[.sh (.int m),.sh d]:=rfl
 simp only [F_is_pair,is_pair_def,runD_ap,st]
 cases ht:isTupB d with
 | false=>rw [seqS_ap,ipE_no (pln_knd h) ht,pairB_no ht]; rfl
 | true =>
  obtain ⟨l,rfl⟩:=tupB_tup ht
  by_cases hl:l.length=2
  ·obtain ⟨x,y,rfl⟩:=two_of hl
   simp only [pln,plns,Bool.and_eq_true] at h
   have hx:=is_place_eq (m:=m) (pln_knd h.1)
   have hy:=is_place_eq (m:=m) (pln_knd h.2.1)
   have ex:callD F_is_place (consA (varS 0) (consA (op2 ixD (varS 1) (cD (.int 0))) nilA)) [.sh (.int m),.sh (.tup [x,y])] = .ok (.bl (placeB m x)):=by simp [hx]
   have ey:callD F_is_place (consA (varS 0) (consA (op2 ixD (varS 1) (cD (.int 1))) nilA)) [.sh (.int m),.sh (.tup [x,y])] = .ok (.bl (placeB m y)):=by simp [hy]
   rw [seqS_ap,ipE_two,sq_nx,retS_ap,andD_ap,ex,bd_ok,andR_bl,andD_ap,ey,bd_ok,andR_bl]
   cases c1:placeB m x with
   | false=>rw [pairB_x c1]; rfl
   | true =>
    obtain ⟨i,rfl,_,_⟩:=place_int c1
    cases c2:placeB m y with
    | false=>rw [pairB_y c2]; rfl
    | true =>
     obtain ⟨j,rfl,_,_⟩:=place_int c2
     rw [pairB_xy c1 c2]
     rfl
  ·rw [seqS_ap,ipE_len hl,pairB_len hl]; rfl
noncomputable def pD (p:Int × Int):D:=.tup [.int p.1,.int p.2]
noncomputable def ltP (p q:Int × Int):Bool:=HT.lexLt [p.1,p.2] [q.1,q.2]
noncomputable def risB:List (Int × Int)->Bool
 | []=>true
 | [_]=>true
 | p :: q :: r=>ltP p q && risB (q :: r)
theorem ltD_pD (p q:Int × Int):ltD (pD p) (pD q) = .ok (.bl (ltP p q)):=ltD_tup [p.1,p.2] [q.1,q.2]
theorem forL_look {a:D->En->Rs En} {u:En->Ou} {r:D}:∀ (ds:List D) (ok:Nat->Bool) (I:En->Prop) (ρ:En),I ρ->(∀ (i:Nat) d ρ,ds[i]? = some d->I ρ->okE (a d ρ) u = .rt r/\ok i=false\/∃ ρ',okE (a d ρ) u = .nx ρ'/\I ρ'/\ok i=true) ->
  (forL a u ds ρ = .rt r/\∃ i,i < ds.length/\ok i=false)\/(∃ ρ',forL a u ds ρ = .nx ρ'/\I ρ'/\∀ i,i < ds.length->ok i=true)
 | [],ok,I,ρ,h,_=>.inr ⟨ρ,rfl,h,fun i hi=>absurd hi (Nat.not_lt_zero _)⟩
 | d :: ds,ok,I,ρ,h,hs=>by
  rw [forL_cons]
  rcases hs 0 d ρ rfl h with ⟨e,o⟩ | ⟨ρ',e,h',o⟩
  ·left
   refine ⟨?_,0,by simp,o⟩
   cases ea:a d ρ with
   | ok ρ1=>rw [ea] at e; simp at e ⊢; rw [e]; rfl
   | ex c=>rw [ea] at e; cases e
   | st=>rw [ea] at e; cases e
  ·have ih:=forL_look ds (fun i=>ok (i + 1)) I ρ' h' fun i d2 ρ2 e2 h2=>hs (i + 1) d2 ρ2 (by simpa using e2) h2
   have e3:okE (a d ρ) (fun ρ1=>(u ρ1).tn (forL a u ds))=forL a u ds ρ':=by
    cases ea:a d ρ with
    | ok ρ1=>rw [ea] at e; simp at e ⊢; rw [e]; rfl
    | ex c=>rw [ea] at e; cases e
    | st=>rw [ea] at e; cases e
   rw [e3]
   rcases ih with ⟨e4,i,hi,o4⟩ | ⟨ρ4,e4,h4,o4⟩
   ·exact .inl ⟨e4,i + 1,by simpa using hi,o4⟩
   ·refine .inr ⟨ρ4,e4,h4,fun i hi=>?_⟩
    cases i with
    | zero=>exact o
    | succ i=>exact o4 i (by simpa using hi)
theorem rngD_get {lo hi:Int} {i:Nat} {d:D} (h:(rngD lo hi)[i]? = some d):d = .int (lo + i)/\lo + i < hi:=by
 unfold rngD at h
 rw [List.getElem?_map] at h
 by_cases hi2:i < (hi - lo).toNat
 ·rw [List.getElem?_range hi2] at h
  cases h
  exact ⟨rfl,by omega⟩
 ·rw [List.getElem?_eq_none (by simpa using hi2)] at h
  cases h
theorem rngD_len {lo hi:Int}:(rngD lo hi).length=(hi - lo).toNat:=by unfold rngD; simp
section
variable {α:Type} {f:α->D} {lt:α->α->Bool}
noncomputable def risG (lt:α->α->Bool):List α->Bool
 | []=>true
 | [_]=>true
 | p :: q :: r=>lt p q && risG lt (q :: r)
theorem risG_iff:∀ {ps:List α},risG lt ps=true ↔ ∀ (i:Nat) (p q:α),ps[i]? = some p->ps[i + 1]? = some q->lt p q=true
 | []=>by simp [risG]
 | [x]=>by
  simp only [risG,true_iff]
  intro i p q _ h2
  simp at h2
 | x :: y :: r=>by
  have ih:=risG_iff (ps:=y :: r)
  unfold risG
  rw [Bool.and_eq_true,ih]
  constructor
  ·rintro ⟨h1,h2⟩ i p q e1 e2
   cases i with
   | zero=>simp at e1 e2; subst e1 e2; exact h1
   | succ i=>exact h2 i p q (by simpa using e1) (by simpa using e2)
  ·intro h
   exact ⟨h 0 x y rfl rfl,fun i p q e1 e2=>h (i + 1) p q (by simpa using e1) (by simpa using e2)⟩
theorem is_rising_G {ps:List α} (hlt:∀ a b,ltD (f a) (f b) = .ok (.bl (lt a b))) (hl:ps.length <= 100000):F_is_rising [.tup (ps.map f)] = .ok (.bl (risG lt ps)):=by
 have hr:=rng2_ok (i:=1) (j:=(ps.length:Int)) (by decide) (by decide) (by omega) (by omega)
 have hlen:(rngD 1 (ps.length:Int)).length=ps.length - 1:=by rw [rngD_len]; omega
 have L:=forL_look (a:=gnm 1) (u:=ifS (notT (tsb (op2 ltD (op2 ixD (varS 0) (op2 subD (varS 1) (cD (.int 1)))) (op2 ixD (varS 0) (varS 1))))) (retS (cD (.bl false))) Ou.nx) (r:=.bl false)
  (rngD 1 (ps.length:Int)) (fun i=>match ps[i]?,ps[i + 1]? with | some p,some q=>lt p q | _,_=>true) (fun ρ=>∃ s,ρ=[.sh (.tup (ps.map f)),s]) [.sh (.tup (ps.map f)),.no] ⟨_,rfl⟩ (by
   rintro i d ρ hd ⟨s,rfl⟩
   obtain ⟨rfl,h2⟩:=rngD_get hd
   have e1:ps[i]? = some ps[i]:=List.getElem?_eq_getElem (by omega)
   have e2:ps[i + 1]? = some ps[i + 1]:=List.getElem?_eq_getElem (by omega)
   have a1:atD (ps.map f) (1 + (i:Int) - 1) = .ok (f ps[i]):=by
    rw [show (1 + (i:Int) - 1)=(i:Int) by omega]
    exact atD_nat (by rw [List.getElem?_map,e1]; rfl)
   have a2:atD (ps.map f) (1 + (i:Int)) = .ok (f ps[i + 1]):=by
    rw [show (1 + (i:Int))=((i + 1:Nat):Int) by omega]
    exact atD_nat (by rw [List.getElem?_map,e2]; rfl)
   simp only [e1,e2]
   cases c:lt ps[i] ps[i + 1] with
   | true=>right; exact ⟨_,by simp [a1,a2,hlt,c]; rfl,⟨_,rfl⟩,rfl⟩
   | false=>left; exact ⟨by simp [a1,a2,hlt,c],rfl⟩)
 have st:startE 2 [.tup (ps.map f)]=[.sh (.tup (ps.map f)),.no]:=rfl
 rcases L with ⟨e,i,hi,o⟩ | ⟨ρ',e,⟨s,rfl⟩,o⟩
 ·have:risG lt ps=false:=by
   cases c:risG lt ps with
   | false=>rfl
   | true =>
    rw [hlen] at hi
    have z:=risG_iff.mp c i ps[i] ps[i + 1] (List.getElem?_eq_getElem (by omega)) (List.getElem?_eq_getElem (by omega))
    rw [List.getElem?_eq_getElem (by omega),List.getElem?_eq_getElem (by omega)] at o
    simp only at o
    rw [z] at o
    cases o
  rw [this]
  simp only [F_is_rising,d_is_rising,runD_ap,st]
  simp [hr,e]
 ·have:risG lt ps=true:=risG_iff.mpr fun i p q e1 e2=>by
   have h2:=(List.getElem?_eq_some_iff.mp e2).1
   have:=o i (by rw [hlen]; omega)
   rw [e1,e2] at this
   exact this
  rw [this]
  simp only [F_is_rising,d_is_rising,runD_ap,st]
  simp [hr,e]
end
theorem risB_G:∀ ps:List (Int × Int),risB ps=risG ltP ps
 | []=>rfl
 | [_]=>rfl
 | p :: q :: r=>by unfold risB risG; rw [risB_G (q :: r)]
theorem is_rising_eq {ps:List (Int × Int)} (hl:ps.length <= 100000):F_is_rising [.tup (ps.map pD)] = .ok (.bl (risB ps)):=by
 rw [risB_G]
 exact is_rising_G ltD_pD hl
noncomputable def ltI (a b:Int):Bool:=decide (a < b)
theorem is_rising_I {ps:List Int} (hl:ps.length <= 100000):F_is_rising [.tup (ps.map .int)] = .ok (.bl (risG ltI ps)):=is_rising_G (fun a b=>by rw [ltD_int]; rfl) hl
theorem ris_iff {ps:List (Int × Int)}:risB ps=true ↔ ∀ (i:Nat) (p q:Int × Int),ps[i]? = some p->ps[i + 1]? = some q->ltP p q=true:=by rw [risB_G]; exact risG_iff
noncomputable def prOf:D->Int × Int
 | .tup [.int a,.int b]=>(a,b)
 | _=>(0,0)
theorem pair_shape {m:Int} {d:D} (h:pairB m d=true):∃ a b:Int,d = .tup [.int a,.int b]/\0 <= a/\a < m/\0 <= b/\b < m/\a ≠ b:=by
 unfold pairB at h
 split at h
 ·rename_i a b
  simp at h
  exact ⟨a,b,rfl,h.1.1.1.1,h.1.1.1.2,h.1.1.2,h.1.2,h.2⟩
 ·cases h
theorem pr_pD {m:Int}:∀ {ts:List D},ts.all (pairB m)=true->(ts.map prOf).map pD=ts
 | [],_=>rfl
 | t :: ts,h=>by
  rw [List.all_cons,Bool.and_eq_true] at h
  obtain ⟨a,b,rfl,_⟩:=pair_shape h.1
  simp only [List.map_cons]
  rw [pr_pD h.2]
  rfl
noncomputable def rpB (m:Int):D->Bool
 | .tup ts=>ts.all (pairB m) && risB (ts.map prOf)
 | _=>false
noncomputable def shrt:D->Bool
 | .tup l=>decide (l.length <= 100000)
 | _=>true
theorem are_rising_pairs_eq {m:Int} {d:D} (h:pln d=true) (hs:shrt d=true):F_are_rising_pairs [.int m,d] = .ok (.bl (rpB m d)):=by
 cases d with
 | tup ts =>
  have hp:plns ts=true:=by simpa [pln] using h
  have hl:ts.length <= 100000:=by simpa [shrt] using hs
  have L:=forL_look (a:=gnm 2) (u:=ifS (notT (tst (callD F_is_pair (consA (varS 0) (consA (varS 2) nilA))))) (retS (cD (.bl false))) Ou.nx) (r:=.bl false)
   ts (fun i=>match ts[i]? with | some t=>pairB m t | none=>true) (fun ρ=>∃ s,ρ=[.sh (.int m),.sh (.tup ts),s]) [.sh (.int m),.sh (.tup ts),.no] ⟨_,rfl⟩ (by
    rintro i d ρ hd ⟨s,rfl⟩
    have e:=is_pair_eq (m:=m) (plns_mem hp (List.mem_of_getElem? hd))
    simp only [hd]
    cases c:pairB m d with
    | true=>right; exact ⟨_,by simp [e,c]; rfl,⟨_,rfl⟩,rfl⟩
    | false=>left; exact ⟨by simp [e,c],rfl⟩)
  have st:startE 3 [.int m,.tup ts]=[.sh (.int m),.sh (.tup ts),.no]:=rfl
  rcases L with ⟨e,i,hi,o⟩ | ⟨ρ',e,⟨s,rfl⟩,o⟩
  ·have:ts.all (pairB m)=false:=by
    rw [List.all_eq_false]
    rw [List.getElem?_eq_getElem hi] at o
    exact ⟨ts[i],List.getElem_mem hi,by simpa using o⟩
   simp only [F_are_rising_pairs,d_are_rising_pairs,runD_ap,st]
   simp [e,rpB,this]
  ·have:ts.all (pairB m)=true:=by
    rw [List.all_eq_true]
    intro t ht
    obtain ⟨i,hi,rfl⟩:=List.getElem_of_mem ht
    have:=o i hi
    rw [List.getElem?_eq_getElem hi] at this
    exact this
   have er:=is_rising_eq (ps:=ts.map prOf) (by rw [List.length_map]; exact hl)
   rw [pr_pD this] at er
   simp only [F_are_rising_pairs,d_are_rising_pairs,runD_ap,st]
   simp [e,rpB,this,er]
 | _=>simp [F_are_rising_pairs,d_are_rising_pairs,startE,isi_tuple (pln_knd h),isTupB,rpB]
end VL.My
namespace VL.My
open PySem L2
theorem forL_inv {a:D->En->Rs En} {u:En->Ou}:∀ (ds:List D) (P:Nat->En->Prop) (ρ:En),P 0 ρ->(∀ (i:Nat) d ρ,ds[i]? = some d->P i ρ->∃ ρ',okE (a d ρ) u = .nx ρ'/\P (i + 1) ρ')->∃ ρ',forL a u ds ρ = .nx ρ'/\P ds.length ρ'
 | [],P,ρ,h,_=>⟨ρ,rfl,h⟩
 | d :: ds,P,ρ,h,hs=>by
  obtain ⟨ρ1,e,h1⟩:=hs 0 d ρ rfl h
  obtain ⟨ρ2,e2,h2⟩:=forL_inv (a:=a) (u:=u) ds (fun i=>P (i + 1)) ρ1 h1 fun i d2 ρ2 e2 h2=>hs (i + 1) d2 ρ2 (by simpa using e2) h2
  refine ⟨ρ2,?_,by simpa using h2⟩
  rw [forL_cons]
  cases ea:a d ρ with
  | ok ρ0=>rw [ea] at e; simp at e ⊢; rw [e]; exact e2
  | ex c=>rw [ea] at e; cases e
  | st=>rw [ea] at e; cases e
theorem insAt_perm {α:Type} (l:List α) (i:Int) (y:α):(insAt l i y).Perm (y :: l):=by
 unfold insAt
 generalize (if i < 0 then (i + (l.length:Int)).toNat else min i.toNat l.length)=k
 have:(l.take k ++ y :: l.drop k).Perm (y :: (l.take k ++ l.drop k)):=List.perm_middle
 rwa [List.take_append_drop] at this
theorem insAt_map {α β:Type} (f:α->β) (l:List α) (i:Int) (y:α):insAt (l.map f) i (f y)=(insAt l i y).map f:=by
 unfold insAt
 rw [List.length_map,List.map_append,List.map_cons,List.map_take,List.map_drop]
structure Ordr (n:Nat) (os:List Int):Prop where
 len:os.length=n
 nd:os.Nodup
 lo:∀ x ∈ os,0 <= x/\x < n
theorem law_turn_ok {c:Int} {n:Nat} (h1:n <= 60):∃ os,F_law_turn [.int c,.int n] = .ok (.lst (os.map .int))/\Ordr n os:=by
 have hr:=rng1_ok (j:=(n:Int)) (by omega) (by omega)
 have hlen:(rngD 0 (n:Int)).length=n:=by rw [rngD_len]; omega
 obtain ⟨ρ',e,s,os,rfl,ho⟩:=forL_inv (a:=gnm 3) (u:=insS 2 (callD F_law_draw (consA (varS 0) (consA (op2 addD (cD (.int 100)) (varS 3)) (consA (op2 addD (varS 3) (cD (.int 1))) nilA)))) (immD (varS 3))) (rngD 0 (n:Int))
  (fun i ρ=>∃ s os,ρ=[.sh (.int c),.sh (.int n),.ow (.lst (os.map .int)),s]/\Ordr i os) [.sh (.int c),.sh (.int n),.ow (.lst []),.no] ⟨.no,[],rfl,rfl,by simp,fun x hx=>by simp at hx⟩ (by
   rintro i d ρ hd ⟨s,os,rfl,ho⟩
   obtain ⟨rfl,h2⟩:=rngD_get hd
   obtain ⟨r,er,r0,r1⟩:=draw_ok (c:=c) (k:=100 + (i:Int)) (b:=(i:Int) + 1) (by omega) (by omega) (by omega) (by omega)
   have hz : -9223372036854775808 <= r/\r < 9223372036854775808/\os.length < 16777216:=⟨by omega,by omega,by rw [ho.len]; omega⟩
   refine ⟨[.sh (.int c),.sh (.int n),.ow (.lst ((insAt os r (0 + (i:Int))).map .int)),.sh (.int (0 + (i:Int)))],?_,_,_,rfl,?_,?_,fun x hx=>?_⟩
   ·rw [<- insAt_map]
    simp only [gnm_ap,okE_ok,insS]
    simp [er,hz]
   ·rw [insAt_len,ho.len]
   ·refine (insAt_perm os r _).nodup_iff.mpr (List.nodup_cons.mpr ⟨fun hm=>?_,ho.nd⟩)
    have:=ho.lo _ hm
    omega
   ·rcases List.mem_cons.mp ((insAt_perm os r _).mem_iff.mp hx) with q | q
    ·omega
    ·have:=ho.lo x q
     omega)
 rw [hlen] at ho
 refine ⟨os,?_,ho⟩
 simp [F_law_turn,d_law_turn,startE,hr,e]
noncomputable def all8:List (Int × Int):=(List.range 8).flatMap fun (a:Nat)=>((List.range 8).filter fun b=>b != a).map fun (b:Nat)=>((a:Int),(b:Int))
theorem all8_mem {p:Int × Int} (h0:0 <= p.1) (h1:p.1 < 8) (h2:0 <= p.2) (h3:p.2 < 8) (h4:p.1 ≠ p.2):p ∈ all8:=by
 unfold all8
 rw [List.mem_flatMap]
 refine ⟨p.1.toNat,by simp; omega,?_⟩
 rw [List.mem_map]
 refine ⟨p.2.toNat,?_,?_⟩
 ·rw [List.mem_filter]
  refine ⟨by simp; omega,?_⟩
  have:p.2.toNat ≠ p.1.toNat:=by omega
  simpa using this
 ·have e1:((p.1.toNat:Nat):Int)=p.1:=Int.toNat_of_nonneg h0
  have e2:((p.2.toNat:Nat):Int)=p.2:=Int.toNat_of_nonneg h2
  rw [e1,e2]
noncomputable def pl (p:Int × Int):List Int:=[p.1,p.2]
noncomputable def hp (p:Int × Int):Int:=hsh (pl p)
noncomputable def hashes8:List Int:=[(-1950498447580522560),7204814214171964562,(-4734289103435588629),1773351652666409796,(-3119722376306286570),(-1010439003188656273),(-5903513032161352639),(-5164621852614943976),(-3550055125485641917),(-1440771752368011620),(-6333845781340707986),173794974761290439,(-4719279054211405927),(-2609995681093775630),4685526799349444076,6794810172467074373,8409376899596376432,3516302870623680066,(-8422800446983873125),(-6313517073866242828),7240152970870612422,2248468952609198383,8756109708711196808,3863035679738500442,1079245023883434373,7586885779985432798,(-4352217537622120393),4803095124130366729,(-6348126469135965181),159514286966033244,(-9131917124991031250),(-2624276368889032825),(-1009709641759730766),1099573731357899531,(-3793500297614796835),(-3054609118068388172),3453031638033610253,(-5838399773923454241),669240982178544184,(-4223833046794152182),(-7007623702649218251),(-499982946547219826),(-5491666964808633865),8062003079928221385,(-3877100237679331806),2630540518422666619,(-6660890893534397875),(-153250137432399450),1461316589696902609,4358481687155754187,(-7580621630451799004),5973048414285056246,8082331787402686543,3189257758429990177,(-8749845559177563014),(-2242204803075564589)]
set_option maxRecDepth 1000000 in
theorem all8_are:all8.map hp=hashes8:=by decide +kernel
set_option maxRecDepth 1000000 in
theorem hashes8_nd:hashes8.Nodup:=by decide +kernel
theorem all8_hash:(all8.map hp).Nodup/\all8.length=56:=⟨by rw [all8_are]; exact hashes8_nd,by rw [<- List.length_map (f:=hp),all8_are]; rfl⟩
theorem nodup_inj {α β:Type} {f:α->β}:∀ {L:List α},(L.map f).Nodup->∀ x ∈ L,∀ y ∈ L,f x=f y->x=y
 | a :: L,h,x,hx,y,hy,e=>by
  rw [List.map_cons,List.nodup_cons] at h
  rcases List.mem_cons.mp hx with q | q
  ·rcases List.mem_cons.mp hy with z | z
   ·rw [q,z]
   ·subst q
    exact absurd (List.mem_map.mpr ⟨y,z,e.symm⟩) h.1
  ·rcases List.mem_cons.mp hy with z | z
   ·subst z
    exact absurd (List.mem_map.mpr ⟨x,q,e⟩) h.1
   ·exact nodup_inj h.2 x q y z e
theorem nodup_map {α β:Type} {f:α->β}:∀ {l:List α},l.Nodup->(∀ x ∈ l,∀ y ∈ l,f x=f y->x=y)->(l.map f).Nodup
 | [],_,_=>by simp
 | a :: l,h,hi=>by
  rw [List.nodup_cons] at h
  rw [List.map_cons,List.nodup_cons]
  refine ⟨fun hm=>?_,nodup_map h.2 fun x hx y hy e=>hi x (List.mem_cons_of_mem _ hx) y (List.mem_cons_of_mem _ hy) e⟩
  obtain ⟨x,hx,e⟩:=List.mem_map.mp hm
  have:=hi x (List.mem_cons_of_mem _ hx) a List.mem_cons_self e
  subst this
  exact h.1 hx
structure Ow (n:Int) (ps:List (Int × Int)):Prop where
 n0:0 <= n
 n1:n <= 60
 len:ps.length <= 3600
 pr:∀ p ∈ ps,0 <= p.1/\p.1 < n/\0 <= p.2/\p.2 < n/\p.1 ≠ p.2
 ris:risB ps=true
noncomputable def owD (n:Int) (ps:List (Int × Int)):D:=.tup [.int n,.tup (ps.map pD)]
theorem tupI_pl (p:Int × Int):tupI (pl p)=pD p:=rfl
theorem pl_inj {p q:Int × Int} (h:pl p=pl q):p=q:=by
 unfold pl at h
 injection h with h1 h2
 injection h2 with h2 _
 exact Prod.ext h1 h2
theorem sorted_arrows {ps:List (Int × Int)} (nd:ps.Nodup):∃ qs:List (Int × Int),sortT (ps.map pl)=qs.map pl/\qs.Perm ps/\risB qs=true:=by
 obtain ⟨qs,q1,q2⟩:=perm_map_inv (f:=pl) (sortT_perm (ps.map pl)) rfl
 refine ⟨qs,q2,q1,ris_iff.mpr fun i p q e1 e2=>?_⟩
 have hr:=sortT_risen (ps.map pl)
 rw [q2] at hr
 have hnd:qs.Nodup:=q1.nodup_iff.mpr nd
 have h1:=(List.getElem?_eq_some_iff.mp e1).1
 have h2:=(List.getElem?_eq_some_iff.mp e2).1
 have f1:(qs.map pl)[i]'(by simpa using h1)=pl p:=by
  rw [List.getElem_map,(List.getElem?_eq_some_iff.mp e1).2]
 have f2:(qs.map pl)[i + 1]'(by simpa using h2)=pl q:=by
  rw [List.getElem_map,(List.getElem?_eq_some_iff.mp e2).2]
 have z:=List.pairwise_iff_getElem.mp hr i (i + 1) (by simpa using h1) (by simpa using h2) (by omega)
 rw [f1,f2] at z
 have hne:p ≠ q:=fun e=>by
  subst e
  have:=(List.getElem?_inj h1 hnd).mp (e1.trans e2.symm)
  omega
 show HT.lexLt (pl p) (pl q)=true
 cases c:HT.lexLt (pl p) (pl q) with
 | true=>rfl
 | false=>exact absurd (pl_inj (lx_tot _ _ c z)) hne
theorem tupsOf_pD (ps:List (Int × Int)):tupsOf (ps.map pD)=some (ps.map pl):=by
 have:=tupsOf_map (nss:=ps.map pl) fun ns h=>by
  obtain ⟨p,_,rfl⟩:=List.mem_map.mp h
  simp [pl]
 rw [List.map_map] at this
 exact this
theorem hp_map (ps:List (Int × Int)):(ps.map pl).map hsh=ps.map hp:=by
 induction ps with
 | nil=>rfl
 | cons p ps ih=>simp only [List.map_cons,ih,hp]
theorem sortSet_of {l:List D} {nss:List (List Int)} (h1:tupsOf l=some nss) (h2:nss.length < 64) (h3:(nss.map hsh).Nodup):sortSetD [.lst l] = .ok (.lst ((sortT nss).map tupI)):=by
 unfold sortSetD
 dsimp only
 rw [h1]
 dsimp only
 rw [if_pos ⟨h2,h3⟩]
theorem sortSet_arrows {ps:List (Int × Int)} (nd:ps.Nodup) (h8:∀ p ∈ ps,0 <= p.1/\p.1 < 8/\0 <= p.2/\p.2 < 8/\p.1 ≠ p.2):∃ qs:List (Int × Int),sortSetD [.lst (ps.map pD)] = .ok (.lst (qs.map pD))/\qs.Perm ps/\risB qs=true:=by
 obtain ⟨qs,q1,q2,q3⟩:=sorted_arrows nd
 have hin:∀ p ∈ ps,p ∈ all8:=fun p hp=>by
  obtain ⟨a,b,c,d,e⟩:=h8 p hp
  exact all8_mem a b c d e
 have hlen:ps.length <= 56:=by
  have:=sub_len nd hin
  rw [all8_hash.2] at this
  exact this
 have hn:((ps.map pl).map hsh).Nodup:=by
  rw [hp_map]
  exact nodup_map nd fun x hx y hy e=>nodup_inj all8_hash.1 x (hin x hx) y (hin y hy) e
 refine ⟨qs,?_,q2,q3⟩
 rw [sortSet_of (tupsOf_pD ps) (by rw [List.length_map]; omega) hn,q1,List.map_map]
 exact congrArg (fun l=>Rs.ok (D.lst l)) (List.map_congr_left fun p _=>tupI_pl p)
end VL.My
namespace VL.My
open PySem L2
noncomputable def owB1:En->Ou:=ifS (orT (tsb (op2 ltD (varS 10) (varN 4))) (andT (tsb (op2 (eqR false) (varS 3) (cD (.int 6)))) (tsb (op2 (eqR false) (varS 8) (op2 addD (varS 9) (cD (.int 1)))))))
     (appS 6 (tupD (consA (immD (op2 ixD (varS 5) (varS 9))) (consA (immD (op2 ixD (varS 5) (varS 8))) nilA))))
     Ou.nx
noncomputable def owB2:En->Ou:=ifS (orT (andT (tsb (op2 gtD (varS 3) (cD (.int 2)))) (andT (tsb (op2 (eqR true) (varS 3) (cD (.int 7)))) (tsb (op2 ltD (callD F_law_draw (consA (varS 0) (consA (op2 addD (varS 7) (cD (.int 50))) (consA (cD (.int 8)) nilA)))) (op2 subD (varN 4) (cD (.int 1))))))) (andT (tsb (op2 (eqR false) (varS 3) (cD (.int 7)))) (tsb (op2 ltD (varS 10) (cD (.int 3))))))
     (appS 6 (tupD (consA (immD (op2 ixD (varS 5) (varS 8))) (consA (immD (op2 ixD (varS 5) (varS 9))) nilA))))
     Ou.nx
noncomputable def owIn:En->Ou:=seqS (setS 7 (op2 addD (varS 7) (cD (.int 1)))) (seqS (setS 10 (callD F_law_draw (consA (varS 0) (consA (varS 7) (consA (cD (.int 8)) nilA))))) (seqS owB1 owB2))
noncomputable def owOut:En->Ou:=forS (rngA rng1 (consA (varS 8) nilA)) (gnm 9) owIn
noncomputable def owEnd:En->Ou:=ifS (andT (tsb (op2 (eqR false) (varS 3) (cD (.int 6)))) (tsb (op2 gtD (varS 2) (cD (.int 1)))))
   (appS 6 (tupD (consA (immD (op2 ixD (varS 5) (op2 subD (varS 2) (cD (.int 1))))) (consA (immD (op2 ixD (varS 5) (cD (.int 0)))) nilA))))
   Ou.nx
noncomputable def ar (os:List Int) (q:Nat × Nat):Int × Int:=(os.getD q.1 0,os.getD q.2 0)
noncomputable abbrev owE (c most:Int) (n kd:Nat) (t:Int) (os:List Int) (ip:List (Nat × Nat)) (sp:Int) (s8 s9 s10:Slot):En :=
 [.sh (.int c),.sh (.int most),.sh (.int n),.sh (.int kd),.nw (.int t),.sh (.lst (os.map .int)),.ow (.lst ((ip.map (ar os)).map pD)),.sh (.int sp),s8,s9,s10]
theorem os_at {os:List Int} {k:Nat} (h:k < os.length):atD (os.map D.int) (k:Int) = .ok (.int (os.getD k 0)):=atD_nat (by rw [List.getElem?_map,List.getElem?_eq_getElem h]; simp [h])
theorem ow_app {c most t sp:Int} {n kd a b:Nat} {os:List Int} {ip:List (Nat × Nat)} {s8 s9 s10:Slot} {f g:En->Rs D} (hz:ip.length < 16777216) (ha:a < os.length) (hb:b < os.length)
  (h1:f (owE c most n kd t os ip sp s8 s9 s10) = .ok (.int a)) (h2:g (owE c most n kd t os ip sp s8 s9 s10) = .ok (.int b)) :
  appS 6 (tupD (consA (immD (op2 ixD (varS 5) f)) (consA (immD (op2 ixD (varS 5) g)) nilA))) (owE c most n kd t os ip sp s8 s9 s10) = .nx (owE c most n kd t os (ip ++ [(a,b)]) sp s8 s9 s10):=by
 simp [appS,h1,h2,os_at ha,os_at hb,hz,ar,pD]
structure Ips (n kd j i:Nat) (ip:List (Nat × Nat)):Prop where
 nd:ip.Nodup
 ok:∀ q ∈ ip,q.1 ≠ q.2/\q.1 < n/\q.2 < n/\((q.1 < j/\q.2 < j)\/(q.1=j/\q.2 < i)\/(q.2=j/\q.1 < i))/\(kd=6->q.1 < q.2)
theorem all_len {n:Nat} (hn:n <= 60) {ip:List (Nat × Nat)} (nd:ip.Nodup) (h:∀ q ∈ ip,q.1 < n/\q.2 < n):ip.length <= 3600:=by
 have:=sub_len (l':=(List.range 60).flatMap fun a=>(List.range 60).map fun b=>(a,b)) nd fun q hq=>by
  rw [List.mem_flatMap]
  have:=h q hq
  exact ⟨q.1,by simp; omega,List.mem_map.mpr ⟨q.2,by simp; omega,rfl⟩⟩
 refine Nat.le_trans this ?_
 rw [List.length_flatMap]
 simp only [List.length_map,List.length_range]
 decide
theorem ow_inner {c most t:Int} {n kd j:Nat} {os:List Int} (hn:n <= 60) (hj:j < n) (ho:Ordr n os) (ht:kd=6->t=1) {ip:List (Nat × Nat)} {sp:Int} {s9 s10:Slot} (h0:0 <= sp) (h1:sp <= 2 + 60 * j) (hip:Ips n kd j 0 ip) :
  ∃ ip' sp' s9' s10',forL (gnm 9) owIn (rngD 0 (j:Int)) (owE c most n kd t os ip sp (.sh (.int j)) s9 s10) = .nx (owE c most n kd t os ip' sp' (.sh (.int j)) s9' s10')/\0 <= sp'/\sp' <= 2 + 60 * (j + 1)/\Ips n kd (j + 1) 0 ip':=by
 have hlen:(rngD 0 (j:Int)).length=j:=by rw [rngD_len]; omega
 obtain ⟨ρ',e,ip',sp',s9',s10',rfl,q0,q1,q2⟩:=forL_inv (a:=gnm 9) (u:=owIn) (rngD 0 (j:Int))
  (fun i ρ=>∃ ip sp s9 s10,ρ=owE c most n kd t os ip sp (.sh (.int j)) s9 s10/\0 <= sp/\sp <= 2 + 60 * j + i/\Ips n kd j i ip) (owE c most n kd t os ip sp (.sh (.int j)) s9 s10) ⟨ip,sp,s9,s10,rfl,h0,by omega,hip⟩ (by
   rintro i d ρ hd ⟨ip,sp,s9,s10,rfl,p0,p1,p2⟩
   obtain ⟨rfl,hlt⟩:=rngD_get hd
   have hij:i < j:=by omega
   obtain ⟨h,eh,hh0,hh1⟩:=draw_ok (c:=c) (k:=sp + 1) (b:=8) (by omega) (by omega) (by decide) (by decide)
   obtain ⟨g,eg,hg0,hg1⟩:=draw_ok (c:=c) (k:=sp + 1 + 50) (b:=8) (by omega) (by omega) (by decide) (by decide)
   have hzl:=all_len hn p2.nd fun q hq=>⟨(p2.ok q hq).2.1,(p2.ok q hq).2.2.1⟩
   have hi':i < os.length:=by rw [ho.len]; omega
   have hj':j < os.length:=by rw [ho.len]; omega
   have st1:∃ ip1,owB1 (owE c most n kd t os ip (sp + 1) (.sh (.int j)) (.sh (.int i)) (.sh (.int h))) = .nx (owE c most n kd t os ip1 (sp + 1) (.sh (.int j)) (.sh (.int i)) (.sh (.int h)))/\(ip1=ip\/ip1=ip ++ [(i,j)]):=by
    have hc:(orT (tsb (op2 ltD (varS 10) (varN 4))) (andT (tsb (op2 (eqR false) (varS 3) (cD (.int 6)))) (tsb (op2 (eqR false) (varS 8) (op2 addD (varS 9) (cD (.int 1))))))) (owE c most n kd t os ip (sp + 1) (.sh (.int j)) (.sh (.int i)) (.sh (.int h))) = .ok (decide (h < t) || ((kd:Int) == 6 && (j:Int) == (i:Int) + 1)):=by
     have eA:tsb (op2 ltD (varS 10) (varN 4)) (owE c most n kd t os ip (sp + 1) (.sh (.int j)) (.sh (.int i)) (.sh (.int h))) = .ok (decide (h < t)):=rfl
     have eB:tsb (op2 (eqR false) (varS 3) (cD (.int 6))) (owE c most n kd t os ip (sp + 1) (.sh (.int j)) (.sh (.int i)) (.sh (.int h))) = .ok ((kd:Int) == 6):=rfl
     have eC:tsb (op2 (eqR false) (varS 8) (op2 addD (varS 9) (cD (.int 1)))) (owE c most n kd t os ip (sp + 1) (.sh (.int j)) (.sh (.int i)) (.sh (.int h))) = .ok ((j:Int) == (i:Int) + 1):=rfl
     rw [orT_ap,eA,andT_ap,eB,eC]
     cases decide (h < t) <;> cases (kd:Int) == 6 <;> rfl
    cases hb:(decide (h < t) || ((kd:Int) == 6 && (j:Int) == (i:Int) + 1)) with
    | true =>
     refine ⟨_,?_,.inr rfl⟩
     rw [hb] at hc
     simp only [owB1,ifS_ap,hc,bo_ok,if_pos]
     exact ow_app (by omega) hi' hj' (by simp) (by simp)
    | false =>
     refine ⟨_,?_,.inl rfl⟩
     rw [hb] at hc
     simp only [owB1,ifS_ap,hc,bo_ok]
     rfl
   obtain ⟨ip1,e1,c1⟩:=st1
   have st2:∃ ip2,owB2 (owE c most n kd t os ip1 (sp + 1) (.sh (.int j)) (.sh (.int i)) (.sh (.int h))) = .nx (owE c most n kd t os ip2 (sp + 1) (.sh (.int j)) (.sh (.int i)) (.sh (.int h)))/\(ip2=ip1\/(ip2=ip1 ++ [(j,i)]/\kd ≠ 6)):=by
    have hl1:ip1.length < 16777216:=by rcases c1 with q | q <;> rw [q] <;> first | omega | (simp; omega)
    have hc:(orT (andT (tsb (op2 gtD (varS 3) (cD (.int 2)))) (andT (tsb (op2 (eqR true) (varS 3) (cD (.int 7)))) (tsb (op2 ltD (callD F_law_draw (consA (varS 0) (consA (op2 addD (varS 7) (cD (.int 50))) (consA (cD (.int 8)) nilA)))) (op2 subD (varN 4) (cD (.int 1))))))) (andT (tsb (op2 (eqR false) (varS 3) (cD (.int 7)))) (tsb (op2 ltD (varS 10) (cD (.int 3)))))) (owE c most n kd t os ip1 (sp + 1) (.sh (.int j)) (.sh (.int i)) (.sh (.int h)))
      = .ok (decide (2 < (kd:Int)) && !((kd:Int) == 7) && decide (g < t - 1) || ((kd:Int) == 7 && decide (h < 3))):=by
     have eA:tsb (op2 gtD (varS 3) (cD (.int 2))) (owE c most n kd t os ip1 (sp + 1) (.sh (.int j)) (.sh (.int i)) (.sh (.int h))) = .ok (decide (2 < (kd:Int))):=rfl
     have eB:tsb (op2 (eqR true) (varS 3) (cD (.int 7))) (owE c most n kd t os ip1 (sp + 1) (.sh (.int j)) (.sh (.int i)) (.sh (.int h))) = .ok (!((kd:Int) == 7)):=rfl
     have eC:tsb (op2 ltD (callD F_law_draw (consA (varS 0) (consA (op2 addD (varS 7) (cD (.int 50))) (consA (cD (.int 8)) nilA)))) (op2 subD (varN 4) (cD (.int 1)))) (owE c most n kd t os ip1 (sp + 1) (.sh (.int j)) (.sh (.int i)) (.sh (.int h))) = .ok (decide (g < t - 1)):=by
      have e0:consA (varS 0) (consA (op2 addD (varS 7) (cD (.int 50))) (consA (cD (.int 8)) nilA)) (owE c most n kd t os ip1 (sp + 1) (.sh (.int j)) (.sh (.int i)) (.sh (.int h))) = .ok [.int c,.int (sp + 1 + 50),.int 8]:=rfl
      rw [tsb_ap,op2_ap,callD_ap,e0,bd_ok,eg]
      rfl
     have eD:tsb (op2 (eqR false) (varS 3) (cD (.int 7))) (owE c most n kd t os ip1 (sp + 1) (.sh (.int j)) (.sh (.int i)) (.sh (.int h))) = .ok ((kd:Int) == 7):=rfl
     have eE:tsb (op2 ltD (varS 10) (cD (.int 3))) (owE c most n kd t os ip1 (sp + 1) (.sh (.int j)) (.sh (.int i)) (.sh (.int h))) = .ok (decide (h < 3)):=rfl
     rw [orT_ap,andT_ap,eA,andT_ap,eB,eC,andT_ap,eD,eE]
     cases decide (2 < (kd:Int)) <;> cases (kd:Int) == 7 <;> cases decide (g < t - 1) <;> rfl
    cases hb:(decide (2 < (kd:Int)) && !((kd:Int) == 7) && decide (g < t - 1) || ((kd:Int) == 7 && decide (h < 3))) with
    | true =>
     refine ⟨_,?_,.inr ⟨rfl,fun k6=>?_⟩⟩
     ·rw [hb] at hc
      simp only [owB2,ifS_ap,hc,bo_ok,if_pos]
      exact ow_app hl1 hj' hi' (by simp) (by simp)
     ·have:=ht k6
      subst k6
      simp at hb
      omega
    | false =>
     refine ⟨_,?_,.inl rfl⟩
     rw [hb] at hc
     simp only [owB2,ifS_ap,hc,bo_ok]
     rfl
   obtain ⟨ip2,e2,c2⟩:=st2
   refine ⟨_,?_,ip2,sp + 1,.sh (.int i),.sh (.int h),rfl,by omega,by omega,?_⟩
   ·have s7:setS 7 (op2 addD (varS 7) (cD (.int 1))) (owE c most n kd t os ip sp (.sh (.int j)) (.sh (.int i)) s10) = .nx (owE c most n kd t os ip (sp + 1) (.sh (.int j)) (.sh (.int i)) s10):=by first | rfl | simp
    have s11:setS 10 (callD F_law_draw (consA (varS 0) (consA (varS 7) (consA (cD (.int 8)) nilA)))) (owE c most n kd t os ip (sp + 1) (.sh (.int j)) (.sh (.int i)) s10) = .nx (owE c most n kd t os ip (sp + 1) (.sh (.int j)) (.sh (.int i)) (.sh (.int h))):=by simp [eh]
    rw [Int.zero_add]
    show owIn (owE c most n kd t os ip sp (.sh (.int j)) (.sh (.int i)) s10)=_
    unfold owIn
    rw [seqS_ap,s7,sq_nx,seqS_ap,s11,sq_nx,seqS_ap,e1,sq_nx,e2]
   ·have hold:∀ q ∈ ip,q.1 ≠ q.2/\q.1 < n/\q.2 < n/\((q.1 < j/\q.2 < j)\/(q.1=j/\q.2 < i + 1)\/(q.2=j/\q.1 < i + 1))/\(kd=6->q.1 < q.2):=fun q hq=>by
     obtain ⟨a1,a2,a3,a4,a5⟩:=p2.ok q hq
     exact ⟨a1,a2,a3,a4.imp_right (Or.imp (fun z=>⟨z.1,Nat.lt_succ_of_lt z.2⟩) fun z=>⟨z.1,Nat.lt_succ_of_lt z.2⟩),a5⟩
    have n1:(i,j) ∉ ip:=fun hm=>by
     obtain ⟨_,_,_,a4,_⟩:=p2.ok _ hm
     simp only at a4
     omega
    have n2:(j,i) ∉ ip:=fun hm=>by
     obtain ⟨_,_,_,a4,_⟩:=p2.ok _ hm
     simp only at a4
     omega
    have hone:∀ q:Nat × Nat,q=(i,j)->q.1 ≠ q.2/\q.1 < n/\q.2 < n/\((q.1 < j/\q.2 < j)\/(q.1=j/\q.2 < i + 1)\/(q.2=j/\q.1 < i + 1))/\(kd=6->q.1 < q.2):=fun q hq=>by
     subst hq; exact ⟨Nat.ne_of_lt hij,Nat.lt_trans hij hj,hj,.inr (.inr ⟨rfl,Nat.lt_succ_self i⟩),fun _=>hij⟩
    have htwo:kd ≠ 6->∀ q:Nat × Nat,q=(j,i)->q.1 ≠ q.2/\q.1 < n/\q.2 < n/\((q.1 < j/\q.2 < j)\/(q.1=j/\q.2 < i + 1)\/(q.2=j/\q.1 < i + 1))/\(kd=6->q.1 < q.2):=fun hk q hq=>by
     subst hq; exact ⟨Nat.ne_of_gt hij,hj,Nat.lt_trans hij hj,.inr (.inl ⟨rfl,Nat.lt_succ_self i⟩),fun z=>absurd z hk⟩
    have hij2:((i,j):Nat × Nat) ≠ (j,i):=fun z=>by injection z with z1 z2; omega
    rcases c1 with rfl | rfl <;> rcases c2 with rfl | ⟨rfl,hk⟩
    ·exact ⟨p2.nd,hold⟩
    ·refine ⟨List.nodup_append.mpr ⟨p2.nd,by simp,fun x hx y hy z=>?_⟩,fun q hq=>?_⟩
     ·rw [List.mem_singleton] at hy; subst hy; subst z; exact n2 hx
     ·rcases List.mem_append.mp hq with z | z
      ·exact hold q z
      ·exact htwo hk q (List.mem_singleton.mp z)
    ·refine ⟨List.nodup_append.mpr ⟨p2.nd,by simp,fun x hx y hy z=>?_⟩,fun q hq=>?_⟩
     ·rw [List.mem_singleton] at hy; subst hy; subst z; exact n1 hx
     ·rcases List.mem_append.mp hq with z | z
      ·exact hold q z
      ·exact hone q (List.mem_singleton.mp z)
    ·refine ⟨List.nodup_append.mpr ⟨List.nodup_append.mpr ⟨p2.nd,by simp,fun x hx y hy z=>?_⟩,by simp,fun x hx y hy z=>?_⟩,fun q hq=>?_⟩
     ·rw [List.mem_singleton] at hy; subst hy; subst z; exact n1 hx
     ·rw [List.mem_singleton] at hy
      subst hy
      subst z
      rcases List.mem_append.mp hx with z | z
      ·exact n2 z
      ·exact hij2 (List.mem_singleton.mp z).symm
     ·rcases List.mem_append.mp hq with z | z
      ·rcases List.mem_append.mp z with z | z
       ·exact hold q z
       ·exact hone q (List.mem_singleton.mp z)
      ·exact htwo hk q (List.mem_singleton.mp z))
 rw [hlen] at q1 q2
 refine ⟨ip',sp',s9',s10',e,q0,by omega,q2.nd,fun q hq=>?_⟩
 obtain ⟨a1,a2,a3,a4,a5⟩:=q2.ok q hq
 exact ⟨a1,a2,a3,.inl (by omega),a5⟩
theorem law_one_way_def:d_law_one_way=seqS (setS 2 (callD F_law_draw (consA (varS 0) (consA (cD (.int 0)) (consA (op2 addD (varS 1) (cD (.int 1))) nilA)))))
  (seqS (setS 3 (callD F_law_draw (consA (varS 0) (consA (cD (.int 1)) (consA (cD (.int 8)) nilA)))))
  (seqS (setN 4 (op2 ixD (lstD (consA (cD (.int 1)) (consA (cD (.int 2)) (consA (cD (.int 4)) (consA (cD (.int 2)) (consA (cD (.int 3)) (consA (cD (.int 6)) (consA (cD (.int 1)) (consA (cD (.int 3)) nilA))))))))) (varS 3)))
  (seqS (setS 5 (callD F_law_turn (consA (varS 0) (consA (varS 2) nilA))))
  (seqS (setO 6 (lstD nilA))
  (seqS (setS 7 (cD (.int 2)))
  (seqS (forS (rngA rng1 (consA (varS 2) nilA)) (gnm 8) owOut)
  (seqS owEnd
  (retS (tupD (consA (immD (varS 2)) (consA (opA tupleD (consA (opA sortSetD (consA (varD 6) nilA)) nilA)) nilA))))))))))) :=rfl
theorem thick_at {kd:Nat} (h:kd < 8):∃ t:Int,atD ([1,2,4,2,3,6,1,3].map D.int) (kd:Int) = .ok (.int t)/\(kd=6->t=1):=by
 have:=os_at (os:=[1,2,4,2,3,6,1,3]) (k:=kd) (by simpa using h)
 refine ⟨_,this,fun k6=>by subst k6; rfl⟩
theorem law_one_way_ok {c:Int} {most:Nat} (h1:most <= 8):∃ n ps,F_law_one_way [.int c,.int most] = .ok (owD n ps)/\Ow n ps/\n <= 8:=by
 obtain ⟨n,en,hn⟩:=draw_in (c:=c) (k:=0) (b:=(most:Int) + 1) (by decide) (by decide) (by omega) (by omega)
 obtain ⟨kd,ek,hk⟩:=draw_in (c:=c) (k:=1) (b:=8) (by decide) (by decide) (by decide) (by decide)
 have hn8:n <= 8:=by omega
 obtain ⟨t,et,ht⟩:=thick_at (kd:=kd) (by omega)
 obtain ⟨os,eo,ho⟩:=law_turn_ok (c:=c) (n:=n) (by omega)
 have hr1:=rng1_ok (j:=(n:Int)) (by omega) (by omega)
 have hlen:(rngD 0 (n:Int)).length=n:=by rw [rngD_len]; omega
 obtain ⟨ρ',e,ip,sp,s8,s9,s10,rfl,_,_,hip⟩:=forL_inv (a:=gnm 8) (u:=owOut) (rngD 0 (n:Int))
  (fun j ρ=>∃ ip sp s8 s9 s10,ρ=owE c most n kd t os ip sp s8 s9 s10/\0 <= sp/\sp <= 2 + 60 * j/\Ips n kd j 0 ip) (owE c most n kd t os [] 2 .no .no .no) ⟨[],2,.no,.no,.no,rfl,by omega,by omega,by simp,fun q hq=>by simp at hq⟩ (by
   rintro j d ρ hd ⟨ip,sp,s8,s9,s10,rfl,p0,p1,p2⟩
   obtain ⟨rfl,hlt⟩:=rngD_get hd
   have hr2:=rng1_ok (j:=(j:Int)) (by omega) (by omega)
   obtain ⟨ip',sp',s9',s10',e,q0,q1,q2⟩:=ow_inner (c:=c) (most:=most) (t:=t) (n:=n) (kd:=kd) (j:=j) (os:=os) (by omega) (by omega) ho ht (s9:=s9) (s10:=s10) p0 p1 p2
   refine ⟨_,?_,ip',sp',.sh (.int j),s9',s10',rfl,q0,by omega,q2⟩
   rw [Int.zero_add,gnm_ap,okE_ok,show (owE c most n kd t os ip sp s8 s9 s10).set 8 (.sh (.int j))=owE c most n kd t os ip sp (.sh (.int j)) s9 s10 from rfl]
   unfold owOut
   have hi:(rngA rng1 (consA (varS 8) nilA)) (owE c most n kd t os ip sp (.sh (.int j)) s9 s10) = .ok (rngD 0 (j:Int)):=by simp [hr2]
   rw [forS_ap,hi,bo_ok,e])
 rw [hlen] at hip
 have hzl:=all_len (by omega) hip.nd fun q hq=>⟨(hip.ok q hq).2.1,(hip.ok q hq).2.2.1⟩
 obtain ⟨ip2,e2,hip2⟩:∃ ip2,owEnd (owE c most n kd t os ip sp s8 s9 s10) = .nx (owE c most n kd t os ip2 sp s8 s9 s10)/\ip2.Nodup/\∀ q ∈ ip2,q.1 ≠ q.2/\q.1 < n/\q.2 < n:=by
  have hc:(andT (tsb (op2 (eqR false) (varS 3) (cD (.int 6)))) (tsb (op2 gtD (varS 2) (cD (.int 1))))) (owE c most n kd t os ip sp s8 s9 s10) = .ok ((kd:Int) == 6 && decide (1 < (n:Int))):=by
   by_cases k1:(kd:Int)=6 <;> simp [k1]
  cases hb:((kd:Int) == 6 && decide (1 < (n:Int))) with
  | true =>
   simp only [Bool.and_eq_true,beq_iff_eq,decide_eq_true_eq] at hb
   have k6:kd=6:=by omega
   refine ⟨ip ++ [(n - 1,0)],?_,List.nodup_append.mpr ⟨hip.nd,by simp,fun x hx y hy z=>?_⟩,fun q hq=>?_⟩
   ·unfold owEnd
    rw [ifS_ap,hc,show ((kd:Int) == 6 && decide (1 < (n:Int)))=true by simp [hb],bo_ok,if_pos rfl]
    exact ow_app (by omega) (by rw [ho.len]; omega) (by rw [ho.len]; omega) (by simp; omega) (by simp)
   ·rw [List.mem_singleton] at hy
    subst hy
    subst z
    have:=(hip.ok _ hx).2.2.2.2 k6
    simp at this
   ·rcases List.mem_append.mp hq with z | z
    ·exact ⟨(hip.ok q z).1,(hip.ok q z).2.1,(hip.ok q z).2.2.1⟩
    ·rw [List.mem_singleton.mp z]
     exact ⟨by simp; omega,by simp; omega,by simp; omega⟩
  | false =>
   refine ⟨ip,?_,hip.nd,fun q z=>⟨(hip.ok q z).1,(hip.ok q z).2.1,(hip.ok q z).2.2.1⟩⟩
   unfold owEnd
   rw [ifS_ap,hc,hb,bo_ok]
   rfl
 have hin:∀ p ∈ ip2.map (ar os),0 <= p.1/\p.1 < n/\0 <= p.2/\p.2 < n/\p.1 ≠ p.2:=fun p hp=>by
  obtain ⟨q,hq,rfl⟩:=List.mem_map.mp hp
  obtain ⟨a1,a2,a3⟩:=hip2.2 q hq
  have g:∀ k,k < n->os.getD k 0 ∈ os:=fun k hk=>by
   have:k < os.length:=by rw [ho.len]; exact hk
   simp [this]
  have l1:=ho.lo _ (g q.1 a2)
  have l2:=ho.lo _ (g q.2 a3)
  refine ⟨l1.1,l1.2,l2.1,l2.2,fun z=>a1 ?_⟩
  have k1:q.1 < os.length:=by rw [ho.len]; exact a2
  have k2:q.2 < os.length:=by rw [ho.len]; exact a3
  have z':os.getD q.1 0=os.getD q.2 0:=z
  have:os[q.1]? = os[q.2]?:=by
   rw [List.getElem?_eq_getElem k1,List.getElem?_eq_getElem k2]
   simpa [k1,k2] using z'
  exact (List.getElem?_inj k1 ho.nd).mp this
 have hnd:(ip2.map (ar os)).Nodup:=nodup_map hip2.1 fun x hx y hy e=>by
  have gi:∀ k l,k < n->l < n->os.getD k 0=os.getD l 0->k=l:=fun k l hk hl z=>by
   have k1:k < os.length:=by rw [ho.len]; exact hk
   have k2:l < os.length:=by rw [ho.len]; exact hl
   have:os[k]? = os[l]?:=by
    rw [List.getElem?_eq_getElem k1,List.getElem?_eq_getElem k2]
    simpa [k1,k2] using z
   exact (List.getElem?_inj k1 ho.nd).mp this
  obtain ⟨_,x1,x2⟩:=hip2.2 x hx
  obtain ⟨_,y1,y2⟩:=hip2.2 y hy
  have e1:os.getD x.1 0=os.getD y.1 0:=congrArg Prod.fst e
  have e2:os.getD x.2 0=os.getD y.2 0:=congrArg Prod.snd e
  exact Prod.ext (gi _ _ x1 y1 e1) (gi _ _ x2 y2 e2)
 obtain ⟨qs,s1,s2,s3⟩:=sortSet_arrows hnd fun p hp=>by
  obtain ⟨a,b,c',d,e⟩:=hin p hp
  exact ⟨a,by omega,c',by omega,e⟩
 have hl2:qs.length <= 3600:=by
  rw [s2.length_eq,List.length_map]
  exact all_len (n:=n) (by omega) hip2.1 fun q hq=>(hip2.2 q hq).2
 refine ⟨n,qs,?_,⟨by omega,by omega,hl2,fun p hp=>hin p (s2.mem_iff.mp hp),s3⟩,by omega⟩
 have st:startE 11 [.int c,.int most]=[.sh (.int c),.sh (.int most),.no,.no,.no,.no,.no,.no,.no,.no,.no]:=rfl
 have et':atD [D.int 1,D.int 2,D.int 4,D.int 2,D.int 3,D.int 6,D.int 1,D.int 3] (kd:Int) = .ok (.int t):=et
 have a1:setS 2 (callD F_law_draw (consA (varS 0) (consA (cD (.int 0)) (consA (op2 addD (varS 1) (cD (.int 1))) nilA)))) [.sh (.int c),.sh (.int most),.no,.no,.no,.no,.no,.no,.no,.no,.no] = .nx [.sh (.int c),.sh (.int most),.sh (.int n),.no,.no,.no,.no,.no,.no,.no,.no]:=by simp [en]
 have a2:setS 3 (callD F_law_draw (consA (varS 0) (consA (cD (.int 1)) (consA (cD (.int 8)) nilA)))) [.sh (.int c),.sh (.int most),.sh (.int n),.no,.no,.no,.no,.no,.no,.no,.no] = .nx [.sh (.int c),.sh (.int most),.sh (.int n),.sh (.int kd),.no,.no,.no,.no,.no,.no,.no]:=by simp [ek]
 have a3:setN 4 (op2 ixD (lstD (consA (cD (.int 1)) (consA (cD (.int 2)) (consA (cD (.int 4)) (consA (cD (.int 2)) (consA (cD (.int 3)) (consA (cD (.int 6)) (consA (cD (.int 1)) (consA (cD (.int 3)) nilA))))))))) (varS 3)) [.sh (.int c),.sh (.int most),.sh (.int n),.sh (.int kd),.no,.no,.no,.no,.no,.no,.no] = .nx [.sh (.int c),.sh (.int most),.sh (.int n),.sh (.int kd),.nw (.int t),.no,.no,.no,.no,.no,.no]:=by simp [et']
 have a4:setS 5 (callD F_law_turn (consA (varS 0) (consA (varS 2) nilA))) [.sh (.int c),.sh (.int most),.sh (.int n),.sh (.int kd),.nw (.int t),.no,.no,.no,.no,.no,.no] = .nx [.sh (.int c),.sh (.int most),.sh (.int n),.sh (.int kd),.nw (.int t),.sh (.lst (os.map .int)),.no,.no,.no,.no,.no]:=by simp [eo]
 have a5:setO 6 (lstD nilA) [.sh (.int c),.sh (.int most),.sh (.int n),.sh (.int kd),.nw (.int t),.sh (.lst (os.map .int)),.no,.no,.no,.no,.no] = .nx [.sh (.int c),.sh (.int most),.sh (.int n),.sh (.int kd),.nw (.int t),.sh (.lst (os.map .int)),.ow (.lst []),.no,.no,.no,.no]:=by first | rfl | simp
 have a6:setS 7 (cD (.int 2)) [.sh (.int c),.sh (.int most),.sh (.int n),.sh (.int kd),.nw (.int t),.sh (.lst (os.map .int)),.ow (.lst []),.no,.no,.no,.no] = .nx (owE c most n kd t os [] 2 .no .no .no):=by first | rfl | simp
 have a7:forS (rngA rng1 (consA (varS 2) nilA)) (gnm 8) owOut (owE c most n kd t os [] 2 .no .no .no) = .nx (owE c most n kd t os ip sp s8 s9 s10):=by
  have hi:(rngA rng1 (consA (varS 2) nilA)) (owE c most n kd t os [] 2 .no .no .no) = .ok (rngD 0 (n:Int)):=by simp [hr1]
  rw [forS_ap,hi,bo_ok]
  exact e
 have a8:opA sortSetD (consA (varD 6) nilA) (owE c most n kd t os ip2 sp s8 s9 s10) = .ok (.lst (qs.map pD)):=by
  have hv:(consA (varD 6) nilA) (owE c most n kd t os ip2 sp s8 s9 s10) = .ok [.lst ((ip2.map (ar os)).map pD)]:=by first | rfl | simp
  rw [opA_ap,hv,bd_ok,s1,okD_ok]
 have a9:retS (tupD (consA (immD (varS 2)) (consA (opA tupleD (consA (opA sortSetD (consA (varD 6) nilA)) nilA)) nilA))) (owE c most n kd t os ip2 sp s8 s9 s10) = .rt (owD n qs):=by
  have ha:consA (opA sortSetD (consA (varD 6) nilA)) nilA (owE c most n kd t os ip2 sp s8 s9 s10) = .ok [.lst (qs.map pD)]:=by rw [consA_ap,a8,bd_ok,nilA_ap,bd_ok]
  have hb:opA tupleD (consA (opA sortSetD (consA (varD 6) nilA)) nilA) (owE c most n kd t os ip2 sp s8 s9 s10) = .ok (.tup (qs.map pD)):=by rw [opA_ap,ha,bd_ok,tupleD_lst,okD_ok]
  have hc:immD (varS 2) (owE c most n kd t os ip2 sp s8 s9 s10) = .ok (.int n):=by first | rfl | simp
  rw [retS_ap,tupD_ap,consA_ap,hc,bd_ok,consA_ap,hb,bd_ok,nilA_ap,bd_ok,bd_ok,bd_ok,if_pos (by simp),bo_ok]
  rfl
 simp only [F_law_one_way,runD_ap,st,law_one_way_def]
 rw [seqS_ap,a1,sq_nx,seqS_ap,a2,sq_nx,seqS_ap,a3,sq_nx,seqS_ap,a4,sq_nx,seqS_ap,a5,sq_nx,seqS_ap,a6,sq_nx,seqS_ap,a7,sq_nx,seqS_ap,e2,sq_nx,a9]
end VL.My
namespace VL.My
open PySem L2
theorem Ow.rp {n:Int} {ps:List (Int × Int)} (h:Ow n ps):rpB n (.tup (ps.map pD))=true:=by
 have e:(ps.map pD).map prOf=ps:=by rw [List.map_map]; exact (List.map_congr_left fun p _=>rfl).trans (List.map_id ps)
 unfold rpB
 dsimp only
 rw [e,h.ris,Bool.and_true,List.all_eq_true]
 intro d hd
 obtain ⟨p,hp,rfl⟩:=List.mem_map.mp hd
 obtain ⟨a,b,c,d,e⟩:=h.pr p hp
 simp [pD,pairB,a,b,c,d,e]
theorem plns_pD:∀ ps:List (Int × Int),plns (ps.map pD)=true
 | []=>rfl
 | p :: ps=>by simp only [List.map_cons,plns,plns_pD ps,Bool.and_true]; rfl
theorem is_one_way_ok {n:Int} {ps:List (Int × Int)} (h:Ow n ps):F_is_one_way [owD n ps] = .ok (.bl true):=by
 have e1:=is_many_eq (d:=.int n) rfl
 have e2:=are_rising_pairs_eq (m:=n) (d:=.tup (ps.map pD)) (by simpa [pln] using plns_pD ps) (by have:=h.len; simp [shrt]; omega)
 rw [h.rp] at e2
 have e3:manyB (.int n)=true:=by simp [manyB,h.n0,h.n1]
 rw [e3] at e1
 simp [F_is_one_way,d_is_one_way,owD,startE,e1,e2]
theorem check_one_way_ok {n:Int} {ps:List (Int × Int)} (h:Ow n ps):F_check_one_way [owD n ps] = .ok .non:=by
 have:=is_one_way_ok h
 simp [F_check_one_way,d_check_one_way,startE,this]
theorem dep_ints:∀ ns:List Int,depDs (ns.map .int)=0/\noDcts (ns.map .int)=true
 | []=>⟨rfl,rfl⟩
 | n :: ns=>by
  obtain ⟨h1,h2⟩:=dep_ints ns
  simp [depDs,depD,noDcts,noDct,h1,h2]
theorem dep_pairs:∀ ps:List (Int × Int),depDs (ps.map pD) <= 1/\noDcts (ps.map pD)=true
 | []=>⟨by simp [depDs],rfl⟩
 | p :: ps=>by
  obtain ⟨h1,h2⟩:=dep_pairs ps
  simp [depDs,depD,noDcts,noDct,h2,pD,h1]
theorem in_ints (neg:Bool) (y:Int) (ns:List Int):inR neg (.int y) (.lst (ns.map .int)) = .ok (.bl (if neg then !decide (y ∈ ns) else decide (y ∈ ns))):=by
 obtain ⟨h1,h2⟩:=dep_ints ns
 have e:inD (.int y) (ns.map .int)=decide (y ∈ ns):=by
  unfold inD
  rw [Bool.eq_iff_iff]
  simp [List.any_eq_true,eqD]
 unfold inR
 dsimp only
 rw [h1,h2,e]
 rfl
theorem in_pairs (neg:Bool) (q:Int × Int) (ps:List (Int × Int)):inR neg (pD q) (.tup (ps.map pD)) = .ok (.bl (if neg then !decide (q ∈ ps) else decide (q ∈ ps))):=by
 obtain ⟨h1,h2⟩:=dep_pairs ps
 have e:inD (pD q) (ps.map pD)=decide (q ∈ ps):=by
  unfold inD
  rw [Bool.eq_iff_iff]
  simp only [List.any_map,List.any_eq_true,Function.comp,decide_eq_true_eq]
  constructor
  ·rintro ⟨p,hp,h⟩
   simp [pD,eqD,eqDs] at h
   have:p=q:=Prod.ext h.1 h.2
   exact this ▸ hp
  ·intro h
   exact ⟨q,h,by simp [pD,eqD,eqDs]⟩
 unfold inR
 dsimp only
 have h3:decide (depDs (ps.map pD) <= 60)=true:=by simp; omega
 have h4:noDct (pD q)=true:=rfl
 rw [h2,e,h3,h4]
 rfl
theorem lcL_map {ρ:En} {fg:D->En->Rs En} {fe:En->Rs D} {g:D->D}:∀ (ds:List D),(∀ d ∈ ds,∃ ρ1,fg d ρ = .ok ρ1/\fe ρ1 = .ok (g d))->lcL ρ fg yesT fe ds = .ok (ds.map g)
 | [],_=>rfl
 | d :: ds,h=>by
  obtain ⟨ρ1,e1,e2⟩:=h d List.mem_cons_self
  have ih:=lcL_map ds fun e he=>h e (List.mem_cons_of_mem _ he)
  unfold lcL
  rw [e1,bd_ok,yesT_ap,bd_ok,if_pos rfl,e2,bd_ok,ih,bd_ok]
  rfl
theorem law_whole_eq {d:D} (h:knd d=true):F_law_whole [d] = .ok (.bl (wholeB d)):=by
 simp [F_law_whole,d_law_whole,startE,isi_int h,isi_bool h]
 cases d <;> rfl
theorem boolsOf_mapb {α:Type} (f:α->Bool) (l:List α):boolsOf (l.map fun x=>D.bl (f x))=some (l.map f):=by
 have:=boolsOf_map (l.map f)
 rwa [List.map_map] at this
theorem allD_map {α:Type} (f:α->Bool) (l:List α):allD (fun bs=>bs.all id) [.lst (l.map fun x=>D.bl (f x))] = .ok (.bl (l.all f)):=by
 unfold allD
 dsimp only
 rw [boolsOf_mapb]
 dsimp only
 rw [List.all_map]
 rfl
theorem lcL_flt {α:Type} {ρ:En} {fg:D->En->Rs En} {ft:En->Rs Bool} {fe:En->Rs D} {f g:α->D} {t:α->Bool}:∀ (l:List α),(∀ x ∈ l,∃ ρ1,fg (f x) ρ = .ok ρ1/\ft ρ1 = .ok (t x)/\fe ρ1 = .ok (g x))->lcL ρ fg ft fe (l.map f) = .ok ((l.filter t).map g)
 | [],_=>rfl
 | x :: l,h=>by
  obtain ⟨ρ1,e1,e2,e3⟩:=h x List.mem_cons_self
  have ih:=lcL_flt l fun y hy=>h y (List.mem_cons_of_mem _ hy)
  rw [List.map_cons]
  unfold lcL
  rw [e1,bd_ok,e2,bd_ok,e3,bd_ok,ih,bd_ok,List.filter_cons]
  cases t x <;> rfl
noncomputable def laA:En->Rs D:=andD (callD F_law_whole (consA (varS 0) nilA)) (chD leD ltD (cD (.int 0)) (varS 0) (varS 1))
theorem laA_eq {m:Int} {d:D} (h:knd d=true):laA [.sh d,.sh (.int m)] = .ok (.bl (placeB m d)):=by
 have:=law_whole_eq h
 unfold laA
 simp [this]
 cases d <;> simp [wholeB,placeB]
 rename_i i
 by_cases h0:0 <= i <;> simp [h0]
noncomputable def laI:En->Ou:=ifS (orT (notT (tst (op1 (isiD "tuple") (varS 0)))) (tsb (op2 (eqR true) (opA lenD (consA (varS 0) nilA)) (cD (.int 2))))) (retS (cD (.bl false))) Ou.nx
theorem law_is_arrow_def:d_law_is_arrow=seqS laI
  (retS (andD (opA (allD fun bs=>bs.all id) (consA (lcD (itrD (varS 0)) [none,some 1] (gnm 0) yesT laA) nilA)) (op2 (eqR true) (op2 ixD (varS 0) (cD (.int 0))) (op2 ixD (varS 0) (cD (.int 1)))))):=rfl
theorem laE_no {s:Slot} {d:D} (hk:knd d=true) (h:isTupB d=false):laI [.sh d,s] = .rt (.bl false):=by simp [laI,isi_tuple hk,h]
theorem laE_len {s:Slot} {l:List D} (h:l.length ≠ 2):laI [.sh (.tup l),s] = .rt (.bl false):=by
 have:¬ ((l.length:Int)=2):=by omega
 simp [laI,this]
theorem laE_two {s:Slot} {x y:D}:laI [.sh (.tup [x,y]),s] = .nx [.sh (.tup [x,y]),s]:=by simp [laI]
theorem law_is_arrow_eq {m:Int} {d:D} (h:pln d=true):F_law_is_arrow [d,.int m] = .ok (.bl (pairB m d)):=by
 have st:startE 2 [d,.int m]=[.sh d,.sh (.int m)]:=rfl
 simp only [F_law_is_arrow,law_is_arrow_def,runD_ap,st]
 cases ht:isTupB d with
 | false=>rw [seqS_ap,laE_no (pln_knd h) ht,pairB_no ht]; rfl
 | true =>
  obtain ⟨l,rfl⟩:=tupB_tup ht
  by_cases hl:l.length=2
  ·obtain ⟨x,y,rfl⟩:=two_of hl
   simp only [pln,plns,Bool.and_eq_true] at h
   have hc1:lcD (itrD (varS 0)) [none,some 1] (gnm 0) yesT laA [.sh (.tup [x,y]),.sh (.int m)] = .ok (.lst ([x,y].map fun t=>.bl (placeB m t))):=by
    have hi:itrD (varS 0) (shE [.sh (.tup [x,y]),.sh (.int m)]) = .ok [x,y]:=by simp [shE,toSh]
    have hm:=lcL_map (ρ:=stE [none,some 1] (shE [.sh (.tup [x,y]),.sh (.int m)])) (fg:=gnm 0) (fe:=laA) (g:=fun t=>.bl (placeB m t)) [x,y] fun d hd=>⟨_,rfl,by
     show laA [.sh d,.sh (.int m)]=_
     refine laA_eq (pln_knd ?_)
     simp only [List.mem_cons,List.not_mem_nil,or_false] at hd
     rcases hd with rfl | rfl
     ·exact h.1
     ·exact h.2.1⟩
    unfold lcD
    rw [hi,bd_ok,if_pos (by rw [szl]; simp),hm]
   have ha1:opA (allD fun bs=>bs.all id) (consA (lcD (itrD (varS 0)) [none,some 1] (gnm 0) yesT laA) nilA) [.sh (.tup [x,y]),.sh (.int m)] = .ok (.bl ([x,y].all (placeB m))):=by
    rw [opA_ap,consA_ap,hc1,bd_ok,nilA_ap,bd_ok,bd_ok,allD_map,okD_ok]
   have e0:[x,y].all (placeB m)=(placeB m x && placeB m y):=by simp only [List.all_cons,List.all_nil,Bool.and_true]
   rw [seqS_ap,laE_two,sq_nx,retS_ap,andD_ap,ha1,bd_ok,andR_bl,e0]
   cases c1:placeB m x with
   | false=>rw [pairB_x c1]; rfl
   | true =>
    obtain ⟨i,rfl,_,_⟩:=place_int c1
    cases c2:placeB m y with
    | false=>rw [pairB_y c2]; rfl
    | true =>
     obtain ⟨j,rfl,_,_⟩:=place_int c2
     rw [pairB_xy c1 c2]
     rfl
  ·rw [seqS_ap,laE_len hl,pairB_len hl]; rfl
noncomputable def intOf:D->Int
 | .int i=>i
 | _=>0
noncomputable def lrE:En->Rs D:=op2 ltD (op2 ixD (varS 1) (op2 subD (varS 0) (cD (.int 1)))) (op2 ixD (varS 1) (varS 0))
theorem law_rising_def:d_law_rising=retS (opA (allD fun bs=>bs.all id) (consA (lcD (rngA rng2 (consA (cD (.int 1)) (consA (opA lenD (consA (varS 0) nilA)) nilA))) [none,some 0] (gnm 0) yesT lrE) nilA)):=rfl
theorem law_rising_G {α:Type} {f:α->D} {lt:α->α->Bool} (z:α) {ps:List α} (hlt:∀ a b,ltD (f a) (f b) = .ok (.bl (lt a b))) (hl:ps.length <= 100000):F_law_rising [.tup (ps.map f)] = .ok (.bl (risG lt ps)):=by
 have st:startE 1 [.tup (ps.map f)]=[.sh (.tup (ps.map f))]:=rfl
 have hr:=rng2_ok (i:=1) (j:=(ps.length:Int)) (by decide) (by decide) (by omega) (by omega)
 have hc:lcD (rngA rng2 (consA (cD (.int 1)) (consA (opA lenD (consA (varS 0) nilA)) nilA))) [none,some 0] (gnm 0) yesT lrE [.sh (.tup (ps.map f))] = .ok (.lst ((rngD 1 (ps.length:Int)).map fun k=>.bl (lt (ps.getD ((intOf k).toNat - 1) z) (ps.getD (intOf k).toNat z)))):=by
  have hi:rngA rng2 (consA (cD (.int 1)) (consA (opA lenD (consA (varS 0) nilA)) nilA)) (shE [.sh (.tup (ps.map f))]) = .ok (rngD 1 (ps.length:Int)):=by simp [shE,toSh,hr]
  have hm:=lcL_map (ρ:=stE [none,some 0] (shE [.sh (.tup (ps.map f))])) (fg:=gnm 0) (fe:=lrE) (g:=fun k=>.bl (lt (ps.getD ((intOf k).toNat - 1) z) (ps.getD (intOf k).toNat z))) (rngD 1 (ps.length:Int)) fun d hd=>⟨_,rfl,by
   obtain ⟨k,rfl,k0,k1⟩:=mem_rngD.mp hd
   show lrE [.sh (.int k),.sh (.tup (ps.map f))] = .ok (.bl (lt (ps.getD (k.toNat - 1) z) (ps.getD k.toNat z)))
   have l1:k.toNat - 1 < ps.length:=by omega
   have l2:k.toNat < ps.length:=by omega
   have e1:atD (ps.map f) (k - 1) = .ok (f (ps.getD (k.toNat - 1) z)):=by
    rw [show k - 1=((k.toNat - 1:Nat):Int) by omega]
    exact atD_nat (by rw [List.getElem?_map,List.getElem?_eq_getElem l1,List.getD_eq_getElem?_getD,List.getElem?_eq_getElem l1]; rfl)
   have e2:atD (ps.map f) k = .ok (f (ps.getD k.toNat z)):=by
    have:=atD_nat (l:=ps.map f) (k:=k.toNat) (d:=f (ps.getD k.toNat z)) (by rw [List.getElem?_map,List.getElem?_eq_getElem l2,List.getD_eq_getElem?_getD,List.getElem?_eq_getElem l2]; rfl)
    rwa [Int.toNat_of_nonneg (by omega)] at this
   unfold lrE
   have v1:op2 ixD (varS 1) (op2 subD (varS 0) (cD (.int 1))) [.sh (.int k),.sh (.tup (ps.map f))] = .ok (f (ps.getD (k.toNat - 1) z)):=by
    rw [op2_ap,varS_ap]
    show okD (atD (ps.map f) (k - 1))=_
    rw [e1]; rfl
   have v2:op2 ixD (varS 1) (varS 0) [.sh (.int k),.sh (.tup (ps.map f))] = .ok (f (ps.getD k.toNat z)):=by
    rw [op2_ap,varS_ap,varS_ap]
    show okD (atD (ps.map f) k)=_
    rw [e2]; rfl
   rw [op2_ap,v1,bd_ok,v2,bd_ok,hlt,okD_ok]⟩
  unfold lcD
  rw [hi,bd_ok,if_pos (by rw [rngD_len,szl]; omega),hm]
 have ha:opA (allD fun bs=>bs.all id) (consA (lcD (rngA rng2 (consA (cD (.int 1)) (consA (opA lenD (consA (varS 0) nilA)) nilA))) [none,some 0] (gnm 0) yesT lrE) nilA) [.sh (.tup (ps.map f))] = .ok (.bl (risG lt ps)):=by
  rw [opA_ap,consA_ap,hc,bd_ok,nilA_ap,bd_ok,bd_ok,allD_map,okD_ok]
  refine congrArg (fun b=>Rs.ok (D.bl b)) ?_
  rw [Bool.eq_iff_iff,risG_iff,List.all_eq_true]
  constructor
  ·intro h i p q e1 e2
   have k2:=(List.getElem?_eq_some_iff.mp e2).1
   have:=h (.int ((i + 1:Nat):Int)) (mem_rngD.mpr ⟨_,rfl,by omega,by omega⟩)
   have z1:lt (ps.getD (((i + 1:Nat):Int).toNat - 1) z) (ps.getD ((i + 1:Nat):Int).toNat z)=true:=this
   rw [Int.toNat_natCast,Nat.add_sub_cancel,List.getD_eq_getElem?_getD,List.getD_eq_getElem?_getD,e1,e2] at z1
   exact z1
  ·intro h d hd
   obtain ⟨k,rfl,k0,k1⟩:=mem_rngD.mp hd
   have l1:k.toNat - 1 < ps.length:=by omega
   have l2:k.toNat - 1 + 1 < ps.length:=by omega
   show lt (ps.getD (k.toNat - 1) z) (ps.getD k.toNat z)=true
   have l3:k.toNat < ps.length:=by omega
   have:=h (k.toNat - 1) ps[k.toNat - 1] ps[k.toNat] (List.getElem?_eq_getElem l1) (by rw [show k.toNat - 1 + 1=k.toNat by omega]; exact List.getElem?_eq_getElem l3)
   rw [List.getD_eq_getElem?_getD,List.getD_eq_getElem?_getD,List.getElem?_eq_getElem l1,List.getElem?_eq_getElem l3]
   exact this
 simp only [F_law_rising,law_rising_def,runD_ap,st]
 rw [retS_ap,ha,bo_ok]
theorem law_rising_eq {ps:List (Int × Int)} (hl:ps.length <= 100000):F_law_rising [.tup (ps.map pD)] = .ok (.bl (risB ps)):=by
 rw [risB_G]
 exact law_rising_G (0,0) ltD_pD hl
theorem law_rising_I {ps:List Int} (hl:ps.length <= 100000):F_law_rising [.tup (ps.map .int)] = .ok (.bl (risG ltI ps)):=law_rising_G 0 (fun a b=>by rw [ltD_int]; rfl) hl
end VL.My
namespace VL.My
open PySem L2
section
variable {fi:En->Rs (List D)} {js:List (Option Nat)} {fg:D->En->Rs En} {ft:En->Rs Bool} {fe fk fv:En->Rs D} {ρ:En} {ds out:List D}
theorem lcD_ok (h1:fi (shE ρ) = .ok ds) (h2:ds.length < 16777216) (h3:lcL (stE js (shE ρ)) fg ft fe ds = .ok out):lcD fi js fg ft fe ρ = .ok (.lst out):=by
 unfold lcD
 rw [h1,bd_ok,if_pos (by rw [szl]; exact h2),h3]
theorem scD_ok {ns:List Int} (h1:fi (shE ρ) = .ok ds) (h2:ds.length < 4000) (h3:lcL (stE js (shE ρ)) fg ft fe ds = .ok (ns.map .int)):scD fi js fg ft fe ρ = .ok (.set (ddI ns)):=by
 unfold scD
 rw [h1,bd_ok,if_pos h2,h3]
 simp only [intsOf_map]
theorem dcD_ok {ks:List (List Int)} (h1:fi (shE ρ) = .ok ds) (h2:ds.length < 16777216) (h3:lcL (stE js (shE ρ)) fg ft (pairE fk fv) ds = .ok out) (h4:keysT1 out=some ks):dcD fi js fg ft fk fv ρ = .ok (dctK (ddL ks)):=by
 unfold dcD
 rw [h1,bd_ok,if_pos (by rw [szl]; exact h2),h3]
 simp only [h4]
theorem lcL_mp {α:Type} {f g:α->D} (l:List α) (h:∀ x ∈ l,∃ ρ1,fg (f x) ρ = .ok ρ1/\fe ρ1 = .ok (g x)):lcL ρ fg yesT fe (l.map f) = .ok (l.map g):=by
 have:=lcL_flt (ρ:=ρ) (fg:=fg) (ft:=yesT) (fe:=fe) (f:=f) (g:=g) (t:=fun _=>true) l fun x hx=>by
  obtain ⟨ρ1,h1,h2⟩:=h x hx
  exact ⟨ρ1,h1,rfl,h2⟩
 rwa [List.filter_eq_self.mpr fun _ _=>rfl] at this
theorem all_lc {α:Type} {f:α->Bool} {l:List α} (h:fe ρ = .ok (.lst (l.map fun x=>.bl (f x)))):opA (allD fun bs=>bs.all id) (consA fe nilA) ρ = .ok (.bl (l.all f)):=by
 rw [opA_ap,consA_ap,h,bd_ok,nilA_ap,bd_ok,bd_ok,allD_map,okD_ok]
end
theorem in_intsT (neg:Bool) (y:Int) (ns:List Int):inR neg (.int y) (.tup (ns.map .int)) = .ok (.bl (if neg then !decide (y ∈ ns) else decide (y ∈ ns))):=in_ints neg y ns
theorem places_ints {n:Int}:∀ {ts:List D},ts.all (placeB n)=true->(ts.map intOf).map D.int=ts
 | [],_=>rfl
 | t :: ts,h=>by
  rw [List.all_cons,Bool.and_eq_true] at h
  obtain ⟨a,rfl,_⟩:=place_int h.1
  rw [List.map_cons,List.map_cons,places_ints h.2]
  rfl
noncomputable def plcB (m:Int):D->Bool
 | .tup ts=>ts.all (placeB m) && risG ltI (ts.map intOf)
 | _=>false
theorem are_places_eq {m:Int} {d:D} (h:pln d=true) (hs:shrt d=true):F_are_places [.int m,d] = .ok (.bl (plcB m d)):=by
 cases d with
 | tup ts =>
  have hp:plns ts=true:=by simpa [pln] using h
  have hl:ts.length <= 100000:=by simpa [shrt] using hs
  have L:=forL_look (a:=gnm 2) (u:=ifS (notT (tst (callD F_is_place (consA (varS 0) (consA (varS 2) nilA))))) (retS (cD (.bl false))) Ou.nx) (r:=.bl false)
   ts (fun i=>match ts[i]? with | some t=>placeB m t | none=>true) (fun ρ=>∃ s,ρ=[.sh (.int m),.sh (.tup ts),s]) [.sh (.int m),.sh (.tup ts),.no] ⟨_,rfl⟩ (by
    rintro i d ρ hd ⟨s,rfl⟩
    have e:=is_place_eq (m:=m) (pln_knd (plns_mem hp (List.mem_of_getElem? hd)))
    simp only [hd]
    cases c:placeB m d with
    | true=>right; exact ⟨_,by simp [e,c]; rfl,⟨_,rfl⟩,rfl⟩
    | false=>left; exact ⟨by simp [e,c],rfl⟩)
  have st:startE 3 [.int m,.tup ts]=[.sh (.int m),.sh (.tup ts),.no]:=rfl
  rcases L with ⟨e,i,hi,o⟩ | ⟨ρ',e,⟨s,rfl⟩,o⟩
  ·have:ts.all (placeB m)=false:=by
    rw [List.all_eq_false]
    rw [List.getElem?_eq_getElem hi] at o
    exact ⟨ts[i],List.getElem_mem hi,by simpa using o⟩
   simp only [F_are_places,d_are_places,runD_ap,st]
   simp [e,plcB,this]
  ·have:ts.all (placeB m)=true:=by
    rw [List.all_eq_true]
    intro t ht
    obtain ⟨i,hi,rfl⟩:=List.getElem_of_mem ht
    have:=o i hi
    rw [List.getElem?_eq_getElem hi] at this
    exact this
   have er:=is_rising_I (ps:=ts.map intOf) (by rw [List.length_map]; exact hl)
   rw [places_ints this] at er
   simp only [F_are_places,d_are_places,runD_ap,st]
   simp [e,plcB,this,er]
 | _=>simp [F_are_places,d_are_places,startE,isi_tuple (pln_knd h),isTupB,plcB]
theorem law_are_places_def:d_law_are_places=seqS (ifS (orT (notT (tst (op1 (isiD "tuple") (varS 0)))) (notT (tst (opA (allD fun bs=>bs.all id) (consA (lcD (itrD (varS 0)) [none,some 1] (gnm 0) yesT laA) nilA)))))
   (retS (cD (.bl false)))
   Ou.nx)
  (retS (callD F_law_rising (consA (varS 0) nilA))):=rfl
theorem law_are_places_eq {m:Int} {d:D} (h:pln d=true) (hs:shrt d=true):F_law_are_places [d,.int m] = .ok (.bl (plcB m d)):=by
 have st:startE 2 [d,.int m]=[.sh d,.sh (.int m)]:=rfl
 simp only [F_law_are_places,law_are_places_def,runD_ap,st]
 cases d with
 | tup ts =>
  have hp:plns ts=true:=by simpa [pln] using h
  have hl:ts.length <= 100000:=by simpa [shrt] using hs
  have hc:lcD (itrD (varS 0)) [none,some 1] (gnm 0) yesT laA [.sh (.tup ts),.sh (.int m)] = .ok (.lst (ts.map fun t=>.bl (placeB m t))):=by
   refine lcD_ok (ds:=ts) rfl (by omega) (lcL_map ts fun d hd=>⟨_,rfl,?_⟩)
   exact laA_eq (pln_knd (plns_mem hp hd))
  have ha:=all_lc hc
  rw [seqS_ap,ifS_ap,orT_ap,notT_ap,notT_ap,tst_ap,tst_ap,ha]
  cases c:ts.all (placeB m) with
  | false=>simp [plcB,c]
  | true =>
   have er:=law_rising_I (ps:=ts.map intOf) (by rw [List.length_map]; exact hl)
   rw [places_ints c] at er
   simp [plcB,c,er]
 | _=>simp [isi_tuple (pln_knd h),isTupB,plcB]
noncomputable def intsD:D->List Int
 | .tup ts=>ts.map intOf
 | _=>[]
theorem plc_ints {m:Int} {d:D} (h:plcB m d=true):d = .tup ((intsD d).map .int):=by
 cases d with
 | tup ts =>
  unfold plcB at h
  rw [Bool.and_eq_true] at h
  unfold intsD
  dsimp only
  rw [places_ints h.1]
 | _=>cases h
noncomputable def mrkB (n:Int) (ps:List (Int × Int)):D->Bool
 | .tup [x,y]=>plcB n x && plcB n y && ps.all fun p=>decide (p.1 ∈ intsD x) || decide (p.2 ∈ intsD y)
 | _=>false
theorem mrkB_two {n:Int} {ps:List (Int × Int)} {x y:D}:mrkB n ps (.tup [x,y])=((plcB n x && plcB n y) && ps.all fun p=>decide (p.1 ∈ intsD x) || decide (p.2 ∈ intsD y)):=rfl
theorem mrkB_len {n:Int} {ps:List (Int × Int)} {l:List D} (h:l.length ≠ 2):mrkB n ps (.tup l)=false:=by
 match l,h with
 | [],_=>rfl
 | [_],_=>rfl
 | [x,y],h=>exact absurd rfl h
 | _ :: _ :: _ :: _,_=>rfl
theorem mrkB_no {n:Int} {ps:List (Int × Int)} {d:D} (h:isTupB d=false):mrkB n ps d=false:=by cases d <;> first | rfl | (cases h)
noncomputable def shrs (d:D):Prop:=∀ l,d = .tup l->∀ e ∈ l,shrt e=true
noncomputable def imE:En->Ou:=ifS (orT (notT (tst (op1 (isiD "tuple") (varS 1)))) (tsb (op2 (eqR true) (opA lenD (consA (varS 1) nilA)) (cD (.int 2))))) (retS (cD (.bl false))) Ou.nx
noncomputable def imF:En->Ou:=ifS (orT (notT (tst (callD F_are_places (consA (op2 ixD (varS 0) (cD (.int 0))) (consA (varS 2) nilA))))) (notT (tst (callD F_are_places (consA (op2 ixD (varS 0) (cD (.int 0))) (consA (varS 3) nilA)))))) (retS (cD (.bl false))) Ou.nx
noncomputable def imC:En->Rs D:=lcD (itrD (op2 ixD (varS 0) (cD (.int 1)))) [none,none,some 2,some 3] (gtup 2 (gcons (gnm 0) (gcons (gnm 1) gnil))) yesT (orD (op2 (inR false) (varS 0) (varS 2)) (op2 (inR false) (varS 1) (varS 3)))
theorem is_marks_def:d_is_marks=seqS (dropS (callD F_check_one_way (consA (varS 0) nilA))) (seqS imE (seqS (asgS (varS 1) (gtup 2 (gcons (gnm 2) (gcons (gnm 3) gnil)))) (seqS imF (retS (opA (allD fun bs=>bs.all id) (consA imC nilA)))))):=rfl
theorem imE_no {w s2 s3:Slot} {d:D} (hk:knd d=true) (h:isTupB d=false):imE [w,.sh d,s2,s3] = .rt (.bl false):=by simp [imE,isi_tuple hk,h]
theorem imE_len {w s2 s3:Slot} {l:List D} (h:l.length ≠ 2):imE [w,.sh (.tup l),s2,s3] = .rt (.bl false):=by
 have:¬ ((l.length:Int)=2):=by omega
 simp [imE,this]
theorem imE_two {w s2 s3:Slot} {x y:D}:imE [w,.sh (.tup [x,y]),s2,s3] = .nx [w,.sh (.tup [x,y]),s2,s3]:=by simp [imE]
theorem is_marks_eq {n:Int} {ps:List (Int × Int)} {d:D} (O:Ow n ps) (h:pln d=true) (hs:shrs d):F_is_marks [owD n ps,d] = .ok (.bl (mrkB n ps d)):=by
 have st:startE 4 [owD n ps,d]=[.sh (owD n ps),.sh d,.no,.no]:=rfl
 have hc:dropS (callD F_check_one_way (consA (varS 0) nilA)) [.sh (owD n ps),.sh d,.no,.no] = .nx [.sh (owD n ps),.sh d,.no,.no]:=by simp [check_one_way_ok O]
 have hlen:=O.len
 simp only [F_is_marks,is_marks_def,runD_ap,st]
 rw [seqS_ap,hc,sq_nx,seqS_ap]
 cases ht:isTupB d with
 | false=>rw [imE_no (pln_knd h) ht,mrkB_no ht]; rfl
 | true =>
  obtain ⟨l,rfl⟩:=tupB_tup ht
  by_cases hl:l.length=2
  ·obtain ⟨x,y,rfl⟩:=two_of hl
   simp only [pln,plns,Bool.and_eq_true] at h
   have ex:=are_places_eq (m:=n) h.1 (hs _ rfl x (by simp))
   have ey:=are_places_eq (m:=n) h.2.1 (hs _ rfl y (by simp))
   have ha:asgS (varS 1) (gtup 2 (gcons (gnm 2) (gcons (gnm 3) gnil))) [.sh (owD n ps),.sh (.tup [x,y]),.no,.no] = .nx [.sh (owD n ps),.sh (.tup [x,y]),.sh x,.sh y]:=by simp
   have hf:imF [.sh (owD n ps),.sh (.tup [x,y]),.sh x,.sh y]=if plcB n x && plcB n y then .nx [.sh (owD n ps),.sh (.tup [x,y]),.sh x,.sh y] else .rt (.bl false):=by
    unfold imF
    simp only [ifS_ap,orT_ap,notT_ap,tst_ap,callD_ap,consA_ap,nilA_ap]
    simp [owD,ex,ey]
    cases plcB n x <;> cases plcB n y <;> rfl
   rw [imE_two,sq_nx,seqS_ap,ha,sq_nx,seqS_ap,hf]
   rw [mrkB_two]
   cases c:plcB n x && plcB n y with
   | false=>rfl
   | true =>
    rw [Bool.and_eq_true] at c
    have hm:imC [.sh (owD n ps),.sh (.tup [x,y]),.sh x,.sh y] = .ok (.lst (ps.map fun p=>.bl (decide (p.1 ∈ intsD x) || decide (p.2 ∈ intsD y)))):=by
     refine lcD_ok (ds:=ps.map pD) rfl (by rw [List.length_map]; omega) (lcL_mp ps fun p hp=>⟨_,rfl,?_⟩)
     show orD (op2 (inR false) (varS 0) (varS 2)) (op2 (inR false) (varS 1) (varS 3)) [.sh (.int p.1),.sh (.int p.2),.sh x,.sh y]=_
     have f1:=in_intsT false p.1 (intsD x)
     have f2:=in_intsT false p.2 (intsD y)
     rw [<- plc_ints c.1] at f1
     rw [<- plc_ints c.2] at f2
     rw [orD_ap,op2_ap,op2_ap]
     show (okD (inR false (.int p.1) x)).bd _=_
     rw [f1]
     show orR (.bl _) (okD (inR false (.int p.2) y))=_
     rw [f2,orR_bl]
     show (if decide (p.1 ∈ intsD x)=true then Rs.ok (D.bl true) else Rs.ok (D.bl (decide (p.2 ∈ intsD y))))=_
     cases decide (p.1 ∈ intsD x) <;> rfl
    have ha:=all_lc hm
    rw [if_pos rfl,sq_nx,retS_ap,ha]
    rfl
  ·rw [imE_len hl,mrkB_len hl]; rfl
end VL.My
namespace VL.My
open PySem L2
theorem eqR_nilP (qs:List (Int × Int)):eqR false (.lst (qs.map pD)) (.lst []) = .ok (.bl qs.isEmpty):=by
 obtain ⟨h1,h2⟩:=dep_pairs qs
 have e:eqD (.lst (qs.map pD)) (.lst [])=qs.isEmpty:=by cases qs <;> simp [eqD,eqDs]
 have h3:decide (depDs (qs.map pD) + 1 <= 60)=true:=by simp; omega
 unfold eqR
 simp [noDct,noDcts,depD,depDs,h2,e]
 omega
noncomputable def lmC:En->Rs D:=lcD (itrD (varS 1)) [none,some 0] (gnm 0) yesT (callD F_law_are_places (consA (varS 0) (consA (op2 ixD (varS 1) (cD (.int 0))) nilA)))
noncomputable def lmE:En->Ou:=ifS (orT (notT (tst (op1 (isiD "tuple") (varS 1)))) (orT (tsb (op2 (eqR true) (opA lenD (consA (varS 1) nilA)) (cD (.int 2)))) (notT (tst (opA (allD fun bs=>bs.all id) (consA lmC nilA)))))) (retS (cD (.bl false))) Ou.nx
noncomputable def lmT:En->Rs Bool:=andT (tsb (op2 (inR true) (op2 ixD (varS 0) (cD (.int 0))) (op2 ixD (varS 1) (cD (.int 0))))) (tsb (op2 (inR true) (op2 ixD (varS 0) (cD (.int 1))) (op2 ixD (varS 1) (cD (.int 1)))))
noncomputable def lmL:En->Rs D:=lcD (itrD (op2 ixD (varS 0) (cD (.int 1)))) [none,some 1] (gnm 0) lmT (immD (varS 0))
theorem law_are_marks_def:d_law_are_marks=seqS lmE (retS (op2 (eqR false) lmL (lstD nilA))):=rfl
theorem lmE_no {w:Slot} {d:D} (hk:knd d=true) (h:isTupB d=false):lmE [w,.sh d] = .rt (.bl false):=by simp [lmE,isi_tuple hk,h]
theorem lmE_len {w:Slot} {l:List D} (h:l.length ≠ 2):lmE [w,.sh (.tup l)] = .rt (.bl false):=by
 have e:tsb (op2 (eqR true) (opA lenD (consA (varS 1) nilA)) (cD (.int 2))) [w,.sh (.tup l)] = .ok true:=by
  have:¬ ((l.length:Int)=2):=by omega
  simp [this]
 unfold lmE
 rw [ifS_ap,orT_ap,orT_ap,e]
 simp
theorem lmT_eq {p:Int × Int} {xs ys:List Int}:lmT [.sh (pD p),.sh (.tup [.tup (xs.map .int),.tup (ys.map .int)])] = .ok (!decide (p.1 ∈ xs) && !decide (p.2 ∈ ys)):=by
 have f1:=in_intsT true p.1 xs
 have f2:=in_intsT true p.2 ys
 have g1:tsb (op2 (inR true) (op2 ixD (varS 0) (cD (.int 0))) (op2 ixD (varS 1) (cD (.int 0)))) [.sh (pD p),.sh (.tup [.tup (xs.map .int),.tup (ys.map .int)])] = .ok (!decide (p.1 ∈ xs)):=by
  simp [pD,f1]
 have g2:tsb (op2 (inR true) (op2 ixD (varS 0) (cD (.int 1))) (op2 ixD (varS 1) (cD (.int 1)))) [.sh (pD p),.sh (.tup [.tup (xs.map .int),.tup (ys.map .int)])] = .ok (!decide (p.2 ∈ ys)):=by
  simp [pD,f2]
 unfold lmT
 rw [andT_ap,g1,g2,bd_ok]
 cases decide (p.1 ∈ xs) <;> rfl
theorem law_are_marks_eq {n:Int} {ps:List (Int × Int)} {d:D} (O:Ow n ps) (h:pln d=true) (hs:shrs d):F_law_are_marks [owD n ps,d] = .ok (.bl (mrkB n ps d)):=by
 have st:startE 2 [owD n ps,d]=[.sh (owD n ps),.sh d]:=rfl
 have hlen:=O.len
 simp only [F_law_are_marks,law_are_marks_def,runD_ap,st]
 rw [seqS_ap]
 cases ht:isTupB d with
 | false=>rw [lmE_no (pln_knd h) ht,mrkB_no ht]; rfl
 | true =>
  obtain ⟨l,rfl⟩:=tupB_tup ht
  by_cases hl:l.length=2
  ·obtain ⟨x,y,rfl⟩:=two_of hl
   simp only [pln,plns,Bool.and_eq_true] at h
   have ex:=law_are_places_eq (m:=n) h.1 (hs _ rfl x (by simp))
   have ey:=law_are_places_eq (m:=n) h.2.1 (hs _ rfl y (by simp))
   have hc:lmC [.sh (owD n ps),.sh (.tup [x,y])] = .ok (.lst ([x,y].map fun t=>.bl (plcB n t))):=by
    refine lcD_ok (ds:=[x,y]) rfl (by simp) (lcL_map [x,y] fun d hd=>⟨_,rfl,?_⟩)
    show callD F_law_are_places (consA (varS 0) (consA (op2 ixD (varS 1) (cD (.int 0))) nilA)) [.sh d,.sh (owD n ps)]=_
    simp only [List.mem_cons,List.not_mem_nil,or_false] at hd
    rcases hd with rfl | rfl
    ·simp [owD,ex]
    ·simp [owD,ey]
   have ha:=all_lc hc
   have e0:[x,y].all (plcB n)=(plcB n x && plcB n y):=by simp only [List.all_cons,List.all_nil,Bool.and_true]
   have e1:tsb (op2 (eqR true) (opA lenD (consA (varS 1) nilA)) (cD (.int 2))) [.sh (owD n ps),.sh (.tup [x,y])] = .ok false:=by simp
   have e2:notT (tst (op1 (isiD "tuple") (varS 1))) [.sh (owD n ps),.sh (.tup [x,y])] = .ok false:=by simp
   have hE:lmE [.sh (owD n ps),.sh (.tup [x,y])]=if plcB n x && plcB n y then .nx [.sh (owD n ps),.sh (.tup [x,y])] else .rt (.bl false):=by
    unfold lmE
    rw [ifS_ap,orT_ap,e2,bd_ok,orT_ap,e1,notT_ap,tst_ap,ha,e0]
    cases plcB n x && plcB n y <;> rfl
   rw [hE,mrkB_two]
   cases c:plcB n x && plcB n y with
   | false=>rfl
   | true =>
    rw [Bool.and_eq_true] at c
    have hm:lmL [.sh (owD n ps),.sh (.tup [x,y])] = .ok (.lst ((ps.filter fun p=>!decide (p.1 ∈ intsD x) && !decide (p.2 ∈ intsD y)).map pD)):=by
     refine lcD_ok (ds:=ps.map pD) rfl (by rw [List.length_map]; omega) (lcL_flt ps fun p hp=>⟨_,rfl,?_,rfl⟩)
     have:=lmT_eq (p:=p) (xs:=intsD x) (ys:=intsD y)
     rw [<- plc_ints c.1,<- plc_ints c.2] at this
     exact this
    rw [if_pos rfl,sq_nx,retS_ap,op2_ap,hm,bd_ok]
    show (match (okD (eqR false (.lst _) (.lst []))).bo Ou.rt with | .nx _=>Rs.ok D.non | .rt d=>.ok d | .ex c=>.ex c | _=>.st)=_
    rw [eqR_nilP]
    refine congrArg (fun b=>Rs.ok (D.bl b)) ?_
    rw [Bool.true_and,Bool.eq_iff_iff,List.isEmpty_iff,List.filter_eq_nil_iff,List.all_eq_true]
    refine forall_congr' fun p=>forall_congr' fun _=>?_
    cases decide (p.1 ∈ intsD x) <;> cases decide (p.2 ∈ intsD y) <;> simp
  ·rw [lmE_len hl,mrkB_len hl]; rfl
end VL.My
namespace VL.My
open PySem L2
theorem ddL_go:∀ (ks acc:List (List Int)) (x:List Int),x ∈ ks.foldl step_ddL acc ↔ x ∈ acc\/x ∈ ks
 | [],acc,x=>by simp
 | k :: ks,acc,x=>by
  rw [List.foldl_cons,ddL_go ks]
  unfold step_ddL
  split
  ·rename_i h
   obtain ⟨y,hy,e⟩:=List.any_eq_true.mp h
   have e':=eq_of_beq e
   subst e'
   rw [List.mem_cons]
   constructor
   ·rintro (h1 | h1)
    ·exact .inl h1
    ·exact .inr (.inr h1)
   ·rintro (h1 | rfl | h1)
    ·exact .inl h1
    ·exact .inl hy
    ·exact .inr h1
  ·rw [List.mem_append,List.mem_singleton,List.mem_cons,or_assoc]
theorem known_any (ps:List (Int × Int)) (q:Int × Int):(ddL (ps.map pl)).any (· == pl q)=decide (q ∈ ps):=by
 rw [Bool.eq_iff_iff,List.any_eq_true,decide_eq_true_eq]
 constructor
 ·rintro ⟨x,hx,e⟩
  rcases (ddL_go (ps.map pl) [] x).mp hx with h | h
  ·cases h
  ·obtain ⟨p,hp,rfl⟩:=List.mem_map.mp h
   rw [<- pl_inj (eq_of_beq e)]
   exact hp
 ·intro h
  exact ⟨pl q,(ddL_go (ps.map pl) [] _).mpr (.inr (List.mem_map_of_mem h)),beq_self_eq_true _⟩
theorem keys_pD:∀ ps:List (Int × Int),keysT1 (ps.map fun p=>.tup [pD p,.bl true])=some (ps.map pl)
 | []=>rfl
 | p :: ps=>by
  rw [List.map_cons,List.map_cons]
  unfold keysT1
  rw [keys_pD ps]
  rfl
theorem inK_pD (ps:List (Int × Int)) (q:Int × Int):inK false (pD q) (dctK (ddL (ps.map pl))) = .ok (.bl (decide (q ∈ ps))):=by
 show inK2 false (keyD (pD q)) (keysD ((ddL (ps.map pl)).map fun k=>.tup (k.map .int)))=_
 rw [keysD_map]
 show Rs.ok (D.bl (false != (ddL (ps.map pl)).any (· == pl q)))=_
 rw [known_any]
 cases decide (q ∈ ps) <;> rfl
theorem setD_lst {ns:List Int} (h:ns.length < 4000):setD [.lst (ns.map .int)] = .ok (.set (ddI ns)):=by
 unfold setD
 dsimp only
 rw [intsOf_map]
 dsimp only
 rw [if_pos h]
noncomputable def fewB (ns:List Int):Bool:=decide ((ddI ns).length=ns.length)
noncomputable def prsB (n:Int) (ps:List (Int × Int)):D->Bool
 | .tup ts=>(ts.all (pairB n) && risB (ts.map prOf)) && (((ts.map prOf).all fun q=>decide (q ∈ ps)) && fewB ((ts.map prOf).map (·.1)) && fewB ((ts.map prOf).map (·.2)))
 | _=>false
theorem prsB_rp {n:Int} {ps:List (Int × Int)} {ts:List D}:prsB n ps (.tup ts)=(rpB n (.tup ts) && (((ts.map prOf).all fun q=>decide (q ∈ ps)) && fewB ((ts.map prOf).map (·.1)) && fewB ((ts.map prOf).map (·.2)))):=rfl
theorem rp_all {n:Int} {ts:List D} (h:rpB n (.tup ts)=true):ts.all (pairB n)=true/\risB (ts.map prOf)=true:=by
 unfold rpB at h
 rwa [Bool.and_eq_true] at h
noncomputable def shr4:D->Bool
 | .tup l=>decide (l.length < 4000)
 | _=>true
theorem shr4_t {d:D} (h:shr4 d=true):shrt d=true:=by
 cases d with
 | tup l=>simp only [shr4,shrt,decide_eq_true_eq] at h ⊢; omega
 | _=>rfl
noncomputable def ipK:En->Rs D:=dcD (itrD (op2 ixD (varS 0) (cD (.int 1)))) [none] (gnm 0) yesT (immD (varS 0)) (cD (.bl true))
noncomputable def ipC:En->Rs D:=lcD (itrD (varS 1)) [none,some 2] (gnm 0) yesT (op2 (inK false) (varS 0) (varS 1))
noncomputable def ipB:En->Rs D:=scD (itrD (varS 1)) [none,none] (gtup 2 (gcons (gnm 0) (gcons (gnm 1) gnil))) yesT (immD (varS 0))
noncomputable def ipD:En->Rs D:=scD (itrD (varS 1)) [none,none] (gtup 2 (gcons (gnm 0) (gcons (gnm 1) gnil))) yesT (immD (varS 1))
noncomputable def ipR:En->Ou:=ifS (notT (tst (callD F_are_rising_pairs (consA (op2 ixD (varS 0) (cD (.int 0))) (consA (varS 1) nilA))))) (retS (cD (.bl false))) Ou.nx
noncomputable def ipT:En->Ou:=ifS (notT (tst (opA (allD fun bs=>bs.all id) (consA ipC nilA)))) (retS (cD (.bl false))) Ou.nx
theorem is_pairs_def:d_is_pairs=seqS (dropS (callD F_check_one_way (consA (varS 0) nilA))) (seqS ipR (seqS (setS 2 ipK) (seqS ipT (seqS (setS 3 (opA lenX (consA ipB nilA))) (seqS (setS 4 (opA lenX (consA ipD nilA)))
  (retS (andD (op2 (eqR false) (varS 3) (opA lenD (consA (varS 1) nilA))) (op2 (eqR false) (varS 4) (opA lenD (consA (varS 1) nilA)))))))))):=rfl
theorem eq_few (ns:List Int) {m:Nat} (h:ns.length=m):(((ddI ns).length:Int) == (m:Int))=fewB ns:=by
 unfold fewB
 rw [Bool.eq_iff_iff,beq_iff_eq,decide_eq_true_eq]
 omega
theorem is_pairs_tail {n:Int} {ps qs:List (Int × Int)} (h4:qs.length < 4000) (hlen:ps.length <= 3600):seqS (setS 2 ipK) (seqS ipT (seqS (setS 3 (opA lenX (consA ipB nilA))) (seqS (setS 4 (opA lenX (consA ipD nilA)))
  (retS (andD (op2 (eqR false) (varS 3) (opA lenD (consA (varS 1) nilA))) (op2 (eqR false) (varS 4) (opA lenD (consA (varS 1) nilA)))))))) [.sh (owD n ps),.sh (.tup (qs.map pD)),.no,.no,.no] =
  .rt (.bl ((qs.all fun q=>decide (q ∈ ps)) && fewB (qs.map (·.1)) && fewB (qs.map (·.2)))):=by
 have hk:ipK [.sh (owD n ps),.sh (.tup (qs.map pD)),.no,.no,.no] = .ok (dctK (ddL (ps.map pl))) :=
  dcD_ok (ds:=ps.map pD) rfl (by rw [List.length_map]; omega) (lcL_mp ps fun p hp=>⟨_,rfl,rfl⟩) (keys_pD ps)
 have hc:ipC [.sh (owD n ps),.sh (.tup (qs.map pD)),.sh (dctK (ddL (ps.map pl))),.no,.no] = .ok (.lst (qs.map fun q=>.bl (decide (q ∈ ps)))):=by
  refine lcD_ok (ds:=qs.map pD) rfl (by rw [List.length_map]; omega) (lcL_mp qs fun q hq=>⟨_,rfl,?_⟩)
  show okD (inK false (pD q) (dctK (ddL (ps.map pl))))=_
  rw [inK_pD]
  rfl
 have ha:=all_lc hc
 have hb:∀ s2 s3,ipB [.sh (owD n ps),.sh (.tup (qs.map pD)),s2,s3,.no] = .ok (.set (ddI (qs.map (·.1)))):=fun s2 s3 =>
  scD_ok (ds:=qs.map pD) rfl (by rw [List.length_map]; exact h4) (by rw [List.map_map]; exact lcL_mp qs fun q hq=>⟨_,rfl,rfl⟩)
 have hd:∀ s2 s3,ipD [.sh (owD n ps),.sh (.tup (qs.map pD)),s2,s3,.no] = .ok (.set (ddI (qs.map (·.2)))):=fun s2 s3 =>
  scD_ok (ds:=qs.map pD) rfl (by rw [List.length_map]; exact h4) (by rw [List.map_map]; exact lcL_mp qs fun q hq=>⟨_,rfl,rfl⟩)
 have e1:setS 2 ipK [.sh (owD n ps),.sh (.tup (qs.map pD)),.no,.no,.no] = .nx [.sh (owD n ps),.sh (.tup (qs.map pD)),.sh (dctK (ddL (ps.map pl))),.no,.no]:=by rw [setS_ap,hk]; rfl
 have e2:ipT [.sh (owD n ps),.sh (.tup (qs.map pD)),.sh (dctK (ddL (ps.map pl))),.no,.no]=if (qs.all fun q=>decide (q ∈ ps))=true then .nx [.sh (owD n ps),.sh (.tup (qs.map pD)),.sh (dctK (ddL (ps.map pl))),.no,.no] else .rt (.bl false):=by
  unfold ipT
  rw [ifS_ap,notT_ap,tst_ap,ha]
  cases qs.all fun q=>decide (q ∈ ps) <;> rfl
 rw [seqS_ap,e1,sq_nx,seqS_ap,e2]
 cases c:qs.all fun q=>decide (q ∈ ps) with
 | false=>rfl
 | true =>
  have e3:∀ s2,setS 3 (opA lenX (consA ipB nilA)) [.sh (owD n ps),.sh (.tup (qs.map pD)),s2,.no,.no] = .nx [.sh (owD n ps),.sh (.tup (qs.map pD)),s2,.sh (.int (ddI (qs.map (·.1))).length),.no]:=fun s2=>by
   rw [setS_ap,opA_ap,consA_ap,hb]; rfl
  have e4:∀ s2 s3,setS 4 (opA lenX (consA ipD nilA)) [.sh (owD n ps),.sh (.tup (qs.map pD)),s2,s3,.no] = .nx [.sh (owD n ps),.sh (.tup (qs.map pD)),s2,s3,.sh (.int (ddI (qs.map (·.2))).length)]:=fun s2 s3=>by
   rw [setS_ap,opA_ap,consA_ap,hd]; rfl
  have f1:=eq_few (qs.map (·.1)) (m:=qs.length) (List.length_map _)
  have f2:=eq_few (qs.map (·.2)) (m:=qs.length) (List.length_map _)
  rw [if_pos rfl,sq_nx,seqS_ap,e3,sq_nx,seqS_ap,e4,sq_nx,retS_ap]
  have g1:op2 (eqR false) (varS 3) (opA lenD (consA (varS 1) nilA)) [.sh (owD n ps),.sh (.tup (qs.map pD)),.sh (dctK (ddL (ps.map pl))),.sh (.int (ddI (qs.map (·.1))).length),.sh (.int (ddI (qs.map (·.2))).length)] = .ok (.bl (fewB (qs.map (·.1)))):=by
   rw [<- f1]; simp
  have g2:op2 (eqR false) (varS 4) (opA lenD (consA (varS 1) nilA)) [.sh (owD n ps),.sh (.tup (qs.map pD)),.sh (dctK (ddL (ps.map pl))),.sh (.int (ddI (qs.map (·.1))).length),.sh (.int (ddI (qs.map (·.2))).length)] = .ok (.bl (fewB (qs.map (·.2)))):=by
   rw [<- f2]; simp
  rw [andD_ap,g1,g2,bd_ok,andR_bl,Bool.true_and]
  cases fewB (qs.map (·.1)) <;> rfl
theorem is_pairs_eq {n:Int} {ps:List (Int × Int)} {d:D} (O:Ow n ps) (h:pln d=true) (hs:shr4 d=true):F_is_pairs [owD n ps,d] = .ok (.bl (prsB n ps d)):=by
 have st:startE 5 [owD n ps,d]=[.sh (owD n ps),.sh d,.no,.no,.no]:=rfl
 have hc:dropS (callD F_check_one_way (consA (varS 0) nilA)) [.sh (owD n ps),.sh d,.no,.no,.no] = .nx [.sh (owD n ps),.sh d,.no,.no,.no]:=by simp [check_one_way_ok O]
 have er:=are_rising_pairs_eq (m:=n) h (shr4_t hs)
 have e1:ipR [.sh (owD n ps),.sh d,.no,.no,.no]=if rpB n d then .nx [.sh (owD n ps),.sh d,.no,.no,.no] else .rt (.bl false):=by
  unfold ipR
  simp only [ifS_ap,notT_ap,tst_ap,callD_ap,consA_ap,nilA_ap]
  simp [owD,er]
  cases rpB n d <;> rfl
 simp only [F_is_pairs,is_pairs_def,runD_ap,st]
 rw [seqS_ap,hc,sq_nx,seqS_ap,e1]
 cases d with
 | tup ts =>
  rw [prsB_rp]
  cases c:rpB n (.tup ts) with
  | false=>rfl
  | true =>
   have e:=pr_pD (rp_all c).1
   have hl:(ts.map prOf).length < 4000:=by rw [List.length_map]; simpa [shr4] using hs
   have:=is_pairs_tail (n:=n) (ps:=ps) (qs:=ts.map prOf) hl O.len
   rw [e] at this
   rw [if_pos rfl,sq_nx,this,Bool.true_and]
 | _=>rfl
noncomputable def lpE:En->Rs D:=andD (callD F_law_is_arrow (consA (varS 0) (consA (op2 ixD (varS 1) (cD (.int 0))) nilA))) (op2 (inR false) (varS 0) (op2 ixD (varS 1) (cD (.int 1))))
noncomputable def lpC:En->Rs D:=lcD (itrD (varS 1)) [none,some 0] (gnm 0) yesT lpE
noncomputable def lpI:En->Ou:=ifS (orT (notT (tst (op1 (isiD "tuple") (varS 1)))) (notT (tst (opA (allD fun bs=>bs.all id) (consA lpC nilA))))) (retS (cD (.bl false))) Ou.nx
noncomputable def lpA:En->Rs D:=opA lenX (consA (opA setD (consA (lcD (itrD (varS 1)) [none,none] (gtup 2 (gcons (gnm 0) (gcons (gnm 1) gnil))) yesT (immD (varS 0))) nilA)) nilA)
noncomputable def lpB:En->Rs D:=opA lenX (consA (opA setD (consA (lcD (itrD (varS 1)) [none,none] (gtup 2 (gcons (gnm 0) (gcons (gnm 1) gnil))) yesT (immD (varS 1))) nilA)) nilA)
noncomputable def lpJ:En->Ou:=ifS (orT (notT (tst (callD F_law_rising (consA (varS 1) nilA)))) (tsb (op2 ltD lpA (opA lenD (consA (varS 1) nilA))))) (retS (cD (.bl false))) Ou.nx
theorem law_are_pairs_def:d_law_are_pairs=seqS lpI (seqS lpJ (retS (op2 (eqR false) lpB (opA lenD (consA (varS 1) nilA))))):=rfl
theorem lpE_eq {n:Int} {ps:List (Int × Int)} {t:D} (h:pln t=true):lpE [.sh t,.sh (owD n ps)] = .ok (.bl (pairB n t && decide (prOf t ∈ ps))):=by
 have e:=law_is_arrow_eq (m:=n) h
 have e1:callD F_law_is_arrow (consA (varS 0) (consA (op2 ixD (varS 1) (cD (.int 0))) nilA)) [.sh t,.sh (owD n ps)] = .ok (.bl (pairB n t)):=by simp [owD,e]
 unfold lpE
 rw [andD_ap,e1,bd_ok,andR_bl]
 cases c:pairB n t with
 | false=>rfl
 | true =>
  obtain ⟨a,b,rfl,_⟩:=pair_shape c
  have e2:=in_pairs false (a,b) ps
  show okD (inR false (pD (a,b)) (.tup (ps.map pD)))=_
  rw [e2]
  rfl
theorem lp_len {n:Int} {ps qs:List (Int × Int)} (h4:qs.length < 4000):lpA [.sh (owD n ps),.sh (.tup (qs.map pD))] = .ok (.int (ddI (qs.map (·.1))).length)/\lpB [.sh (owD n ps),.sh (.tup (qs.map pD))] = .ok (.int (ddI (qs.map (·.2))).length):=by
 have h1:lcD (itrD (varS 1)) [none,none] (gtup 2 (gcons (gnm 0) (gcons (gnm 1) gnil))) yesT (immD (varS 0)) [.sh (owD n ps),.sh (.tup (qs.map pD))] = .ok (.lst ((qs.map (·.1)).map .int)) :=
  lcD_ok (ds:=qs.map pD) rfl (by rw [List.length_map]; omega) (by rw [List.map_map]; exact lcL_mp qs fun q hq=>⟨_,rfl,rfl⟩)
 have h2:lcD (itrD (varS 1)) [none,none] (gtup 2 (gcons (gnm 0) (gcons (gnm 1) gnil))) yesT (immD (varS 1)) [.sh (owD n ps),.sh (.tup (qs.map pD))] = .ok (.lst ((qs.map (·.2)).map .int)) :=
  lcD_ok (ds:=qs.map pD) rfl (by rw [List.length_map]; omega) (by rw [List.map_map]; exact lcL_mp qs fun q hq=>⟨_,rfl,rfl⟩)
 have s1:=setD_lst (ns:=qs.map (·.1)) (by rw [List.length_map]; exact h4)
 have s2:=setD_lst (ns:=qs.map (·.2)) (by rw [List.length_map]; exact h4)
 constructor
 ·unfold lpA
  rw [opA_ap,consA_ap,opA_ap,consA_ap,h1,bd_ok,nilA_ap,bd_ok,bd_ok,s1]
  rfl
 ·unfold lpB
  rw [opA_ap,consA_ap,opA_ap,consA_ap,h2,bd_ok,nilA_ap,bd_ok,bd_ok,s2]
  rfl
theorem law_are_pairs_eq {n:Int} {ps:List (Int × Int)} {d:D} (O:Ow n ps) (h:pln d=true) (hs:shr4 d=true):F_law_are_pairs [owD n ps,d] = .ok (.bl (prsB n ps d)):=by
 have st:startE 2 [owD n ps,d]=[.sh (owD n ps),.sh d]:=rfl
 simp only [F_law_are_pairs,law_are_pairs_def,runD_ap,st]
 cases d with
 | tup ts =>
  have hp:plns ts=true:=by simpa [pln] using h
  have hl:ts.length < 4000:=by simpa [shr4] using hs
  have hc:lpC [.sh (owD n ps),.sh (.tup ts)] = .ok (.lst (ts.map fun t=>.bl (pairB n t && decide (prOf t ∈ ps)))) :=
   lcD_ok (ds:=ts) rfl (by omega) (lcL_map ts fun d hd=>⟨_,rfl,lpE_eq (plns_mem hp hd)⟩)
  have ha:=all_lc hc
  have e0:notT (tst (op1 (isiD "tuple") (varS 1))) [.sh (owD n ps),.sh (.tup ts)] = .ok false:=by simp
  have e1:lpI [.sh (owD n ps),.sh (.tup ts)]=if ts.all (fun t=>pairB n t && decide (prOf t ∈ ps)) then .nx [.sh (owD n ps),.sh (.tup ts)] else .rt (.bl false):=by
   unfold lpI
   rw [ifS_ap,orT_ap,e0,bd_ok,notT_ap,tst_ap,ha]
   cases ts.all (fun t=>pairB n t && decide (prOf t ∈ ps)) <;> rfl
  rw [seqS_ap,e1,prsB_rp]
  have hall:ts.all (fun t=>pairB n t && decide (prOf t ∈ ps))=(ts.all (pairB n) && (ts.map prOf).all fun q=>decide (q ∈ ps)):=by
   rw [List.all_map,Bool.eq_iff_iff,Bool.and_eq_true,List.all_eq_true,List.all_eq_true,List.all_eq_true]
   constructor
   ·intro z
    exact ⟨fun t ht=>((Bool.and_eq_true _ _).mp (z t ht)).1,fun t ht=>((Bool.and_eq_true _ _).mp (z t ht)).2⟩
   ·rintro ⟨z1,z2⟩ t ht
    exact (Bool.and_eq_true _ _).mpr ⟨z1 t ht,z2 t ht⟩
  rw [hall]
  cases c1:ts.all (pairB n) with
  | false =>
   have:rpB n (.tup ts)=false:=by unfold rpB; dsimp only; rw [c1]; rfl
   rw [this]
   rfl
  | true =>
   have hr:rpB n (.tup ts)=risB (ts.map prOf):=by unfold rpB; dsimp only; rw [c1]; rfl
   have e:=pr_pD c1
   have hq:(ts.map prOf).length < 4000:=by rw [List.length_map]; exact hl
   have hql:(ts.map prOf).length=ts.length:=List.length_map _
   rw [hr]
   generalize ts.map prOf=qs at e hq hql ⊢
   subst e
   cases c2:qs.all fun q=>decide (q ∈ ps) with
   | false =>
    have e9:(risB qs && (false && fewB (qs.map (·.1)) && fewB (qs.map (·.2))))=false:=by rw [Bool.false_and,Bool.false_and,Bool.and_false]
    rw [e9]
    rfl
   | true =>
    have er:=law_rising_eq (ps:=qs) (by omega)
    obtain ⟨la,lb⟩:=lp_len (n:=n) (ps:=ps) hq
    have hle:=ddI_le (qs.map (·.1))
    rw [List.length_map] at hle
    have hlt:tsb (op2 ltD lpA (opA lenD (consA (varS 1) nilA))) [.sh (owD n ps),.sh (.tup (qs.map pD))] = .ok (!fewB (qs.map (·.1))):=by
     rw [tsb_ap,op2_ap,la,bd_ok]
     have:(decide (((ddI (qs.map (·.1))).length:Int) < (((qs.map pD).length:Nat):Int))) = !fewB (qs.map (·.1)):=by
      unfold fewB
      rw [List.length_map,List.length_map,Bool.eq_iff_iff,decide_eq_true_eq,Bool.not_eq_true',decide_eq_false_iff_not]
      omega
     show (okD (ltD (.int _) (.int ((qs.map pD).length:Nat)))).bd blD=_
     rw [ltD_int,this]
     rfl
    have e2:lpJ [.sh (owD n ps),.sh (.tup (qs.map pD))]=if risB qs && fewB (qs.map (·.1)) then .nx [.sh (owD n ps),.sh (.tup (qs.map pD))] else .rt (.bl false):=by
     have e3:notT (tst (callD F_law_rising (consA (varS 1) nilA))) [.sh (owD n ps),.sh (.tup (qs.map pD))] = .ok (!risB qs):=by simp [er]
     unfold lpJ
     rw [ifS_ap,orT_ap,e3,bd_ok,hlt]
     cases risB qs <;> cases fewB (qs.map (·.1)) <;> rfl
    have e4:op2 (eqR false) lpB (opA lenD (consA (varS 1) nilA)) [.sh (owD n ps),.sh (.tup (qs.map pD))] = .ok (.bl (fewB (qs.map (·.2)))):=by
     have f2:=eq_few (qs.map (·.2)) (m:=(qs.map pD).length) (by rw [List.length_map,List.length_map])
     rw [op2_ap,lb,bd_ok,<- f2]
     rfl
    rw [show (true && true)=true from rfl,if_pos rfl,sq_nx,seqS_ap,e2]
    cases risB qs with
    | false=>rfl
    | true =>
     cases fewB (qs.map (·.1)) with
     | false=>rfl
     | true =>
      rw [show (true && true)=true from rfl,if_pos rfl,sq_nx,retS_ap,e4]
      rfl
 | _=>simp [lpI,isi_tuple (pln_knd h),isTupB,prsB]
end VL.My
namespace VL.My
open PySem L2
noncomputable def fin1 (d:D):Prop:=pln d=true/\shr4 d=true
theorem plns_int:∀ ws:List Int,plns (ws.map .int)=true
 | []=>rfl
 | _ :: ws=>by simp only [List.map_cons,plns,plns_int ws,pln]; rfl
theorem imms_int:∀ ws:List Int,imms (ws.map .int)=true
 | []=>rfl
 | _ :: ws=>by simp only [List.map_cons,imms,imms_int ws,imm]; rfl
theorem cutD_len (l:List D) (a b:Option Int):(cutD l a b).length <= l.length:=by
 unfold cutD
 rw [List.length_take,List.length_drop]
 omega
theorem cutD_mem {l:List D} {a b:Option Int} {d:D} (h:d ∈ cutD l a b):d ∈ l:=by
 unfold cutD at h
 exact List.mem_of_mem_drop (List.mem_of_mem_take h)
theorem plns_cut {l:List D} {a b:Option Int} (h:plns l=true):plns (cutD l a b)=true:=plns_of fun d hd=>plns_mem h (cutD_mem hd)
theorem plns_app {l m:List D} (h:plns l=true) (h2:plns m=true):plns (l ++ m)=true:=plns_of fun d hd=>by
 rcases List.mem_append.mp hd with z | z
 ·exact plns_mem h z
 ·exact plns_mem h2 z
theorem imms_mem:∀ {l:List D} {d:D},imms l=true->d ∈ l->imm d=true
 | x :: r,d,h,hm=>by
  simp only [imms,Bool.and_eq_true] at h
  rcases List.mem_cons.mp hm with rfl | hm
  ·exact h.1
  ·exact imms_mem h.2 hm
theorem imms_of:∀ {l:List D},(∀ d ∈ l,imm d=true)->imms l=true
 | [],_=>rfl
 | x :: r,h=>by
  simp only [imms,Bool.and_eq_true]
  exact ⟨h x (List.mem_cons_self ..),imms_of fun d hd=>h d (List.mem_cons_of_mem _ hd)⟩
theorem at_end {l:List D} {i:Int} {P:D->Prop} (h0:0 <= i) (h1:i < l.length) (h:∀ d ∈ l,P d):∃ d,(match (okD (atD l i)).bo Ou.rt with
  | Ou.nx ρ=>Rs.ok D.non
  | Ou.rt d=>Rs.ok d
  | Ou.ex c=>Rs.ex c
  | x=>Rs.st)=Rs.ok d/\P d:=by
 obtain ⟨d,e,hm,_⟩:=atD_in h0 h1
 exact ⟨d,by rw [e]; rfl,h d hm⟩
theorem fin1_tup {l:List D} (h:plns l=true) (h2:l.length < 4000):fin1 (.tup l):=⟨by simpa [pln] using h,by simpa [shr4] using h2⟩
theorem law_bent_row_ok {c p m:Int} {ws:List Int} (p0:0 <= p) (p1:p < 1000) (hl:ws.length <= 1000):∃ d,F_law_bent_row [.int c,.int p,.tup (ws.map .int),.int m] = .ok d/\fin1 d:=by
 obtain ⟨r0,e0,b0⟩:=draw_in (c:=c) (k:=p) (b:=(ws.length:Int) + 1) (by omega) (by omega) (by omega) (by omega)
 obtain ⟨r1,e1,b1⟩:=draw_in (c:=c) (k:=p + 1) (b:=9) (by omega) (by omega) (by omega) (by omega)
 obtain ⟨r2,e2,b2⟩:=draw_in (c:=c) (k:=p + 2) (b:=10) (by omega) (by omega) (by omega) (by omega)
 obtain ⟨d4,e4,m4,_⟩:=atD_in (l:=[.int 0,.int m,.int (-1),.bl true,.non,.str "0",.lst [.int 0],.int (m - 1),.int 1]) (i:=(r1:Int)) (by omega) (by simpa using b1)
 have st:startE 7 [.int c,.int p,.tup (ws.map .int),.int m]=[.sh (.int c),.sh (.int p),.sh (.tup (ws.map .int)),.sh (.int m),.no,.no,.no]:=rfl
 have gt:gImm (.tup (ws.map .int)) = .ok (.tup (ws.map .int)):=gImm_of (by simp only [imm]; exact imms_int ws)
 have gc:∀ a b,gImm (.tup (cutD (ws.map .int) a b)) = .ok (.tup (cutD (ws.map .int) a b)):=fun a b=>gImm_of (by simp only [imm]; exact imms_of fun d hd=>imms_mem (imms_int ws) (cutD_mem hd))
 have gr:gImm (.tup (ws.map D.int).reverse) = .ok (.tup (ws.map D.int).reverse):=gImm_of (by simp only [imm]; exact imms_of fun d hd=>imms_mem (imms_int ws) (List.mem_reverse.mp hd))
 have cl:∀ a b,(cutD (ws.map .int) a b).length <= 1000:=fun a b=>Nat.le_trans (cutD_len _ _ _) (by rw [List.length_map]; exact hl)
 have z2:∀ a b,(cutD (ws.map .int) a b).length + 1 <= 16777216:=fun a b=>by have:=cl a b; omega
 have z3:∀ a b a' b',(cutD (ws.map .int) a b).length + 1 + (cutD (ws.map .int) a' b').length <= 16777216:=fun a b a' b'=>by have:=cl a b; have:=cl a' b'; omega
 have z4:∀ a b,ws.length + (cutD (ws.map .int) a b).length <= 16777216:=fun a b=>by have:=cl a b; omega
 have z5:∀ a b a' b',(cutD (ws.map .int) a b).length + (cutD (ws.map .int) a' b').length <= 16777216:=fun a b a' b'=>by have:=cl a b; have:=cl a' b'; omega
 have p4:pln d4=true:=by
  simp only [List.mem_cons,List.not_mem_nil,or_false] at m4
  rcases m4 with rfl | rfl | rfl | rfl | rfl | rfl | rfl | rfl | rfl <;> rfl
 have pc:∀ a b,plns (cutD (ws.map .int) a b)=true:=fun a b=>plns_cut (plns_int ws)
 have c8:∀ a b a' b',fin1 (.tup (cutD (ws.map .int) a b ++ d4 :: cutD (ws.map .int) a' b')):=fun a b a' b'=>by
  refine fin1_tup (plns_app (pc a b) ?_) ?_
  ·simp only [plns,p4,pc,Bool.and_self]
  ·have:=cl a b; have:=cl a' b'; simp; omega
 have c9:∀ a b a' b',fin1 (.tup (cutD (ws.map .int) a b ++ cutD (ws.map .int) a' b')):=fun a b a' b'=>by
  refine fin1_tup (plns_app (pc a b) (pc a' b')) ?_
  have:=cl a b; have:=cl a' b'; simp; omega
 simp only [F_law_bent_row,d_law_bent_row,runD_ap,st]
 simp [-List.map_reverse,e0,e1,e2,e4,gt,gc,gr,z2,z3,z4,z5]
 refine at_end (by omega) (by simp; omega) fun d hd=>?_
 simp only [List.mem_cons,List.not_mem_nil,or_false] at hd
 rcases hd with rfl | rfl | rfl | rfl | rfl | rfl | rfl | rfl | rfl | rfl
 ·exact c8 _ _ _ _
 ·exact c9 _ _ _ _
 ·exact c8 _ _ _ _
 ·exact fin1_tup (plns_of fun d hd=>plns_mem (plns_int ws) (List.mem_reverse.mp hd)) (by simp; omega)
 ·exact ⟨by simpa [pln] using plns_int ws,rfl⟩
 ·exact fin1_tup (plns_app (plns_int ws) (pc _ _)) (by have:=cl none (some 1); simp; omega)
 ·exact c9 _ _ _ _
 ·exact ⟨rfl,rfl⟩
 ·exact ⟨rfl,rfl⟩
 ·exact fin1_tup (by simp [plns,pln,plns_int]) (by simp)
noncomputable def fine (d:D):Prop:=fin1 d/\shrs d
theorem fine_of {l:List D} (h:plns l=true) (h2:l.length < 4000) (h3:∀ e ∈ l,shrt e=true):fine (.tup l):=⟨fin1_tup h h2,fun l' e=>by cases e; exact h3⟩
theorem shr_pairs {qs:List (Int × Int)}:∀ e ∈ qs.map pD,shrt e=true:=fun e he=>by
 obtain ⟨p,_,rfl⟩:=List.mem_map.mp he
 rfl
theorem fine_pairs {qs:List (Int × Int)} (h:qs.length <= 3600):fine (.tup (qs.map pD)):=fine_of (plns_pD qs) (by rw [List.length_map]; omega) shr_pairs
theorem fine_lst {l:List D} (h:plns l=true):fine (.lst l):=⟨⟨by simpa [pln] using h,rfl⟩,fun l' e=>by cases e⟩
theorem fine_non:fine .non:=⟨⟨rfl,rfl⟩,fun l' e=>by cases e⟩
theorem imms_pD:∀ qs:List (Int × Int),imms (qs.map pD)=true
 | []=>rfl
 | _ :: qs=>by simp only [List.map_cons,imms,imms_pD qs,pD,imm]; rfl
noncomputable def shrsB:D->Bool
 | .tup l=>l.all shrt
 | _=>true
theorem shrs_of {d:D} (h:shrsB d=true):shrs d:=fun l e x hx=>by
 subst e
 exact List.all_eq_true.mp h x hx
theorem law_odd_fine {c:Int}:∃ d,F_law_odd [.int c] = .ok d/\fine d:=by
 obtain ⟨r0,e0,b0⟩:=draw_in (c:=c) (k:=90) (b:=16) (by decide) (by decide) (by decide) (by decide)
 have hpw:powD (.int 10) (.int 20) = .ok (.int 100000000000000000000):=rfl
 have st:startE 2 [.int c]=[.sh (.int c),.no]:=rfl
 simp only [F_law_odd,d_law_odd,runD_ap,st]
 simp [e0,hpw]
 refine at_end (by omega) (by simp; omega) fun d hd=>?_
 simp only [List.mem_cons,List.not_mem_nil,or_false] at hd
 rcases hd with rfl | rfl | rfl | rfl | rfl | rfl | rfl | rfl | rfl | rfl | rfl | rfl | rfl | rfl | rfl | rfl <;>
  exact ⟨⟨rfl,rfl⟩,shrs_of rfl⟩
noncomputable def dpC:En->Rs D:=lcD (itrD (varS 2)) [none,some 4] (gnm 0) (orT (tsb (op2 (eqR false) (op2 ixD (varS 0) (cD (.int 0))) (op2 ixD (varS 1) (cD (.int 0))))) (tsb (op2 (eqR false) (op2 ixD (varS 0) (cD (.int 1))) (op2 ixD (varS 1) (cD (.int 1)))))) (immD (varS 0))
noncomputable def dpL:En->Ou:=ifS (tsb (op2 gtD (callD F_law_draw (consA (varS 0) (consA (op2 addD (cD (.int 60)) (op2 modD (varS 3) (cD (.int 40)))) (consA (cD (.int 3)) nilA)))) (cD (.int 0))))
    (ifS (tsb (op2 (eqR false) dpC (lstD nilA)))
     (appS 2 (immD (varS 4)))
     Ou.nx)
    Ou.nx
theorem drawn_pairs_def:d_law_drawn_pairs=seqS (setO 2 (lstD nilA))
  (seqS (forS (rngA enuA (consA (op2 ixD (varS 1) (cD (.int 1))) nilA)) (gtup 2 (gcons (gnm 3) (gcons (gnm 4) gnil))) dpL)
  (retS (opA tupleD (consA (varO 2) nilA)))):=rfl
theorem dpC_ok {c n:Int} {ps qs:List (Int × Int)} {p:Int × Int} {s3:Slot} (h:qs.length <= 3600):∃ rs:List (Int × Int),dpC [.sh (.int c),.sh (owD n ps),.ow (.lst (qs.map pD)),s3,.sh (pD p)] = .ok (.lst (rs.map pD)):=by
 refine ⟨qs.filter fun q=>(q.1 == p.1) || (q.2 == p.2),lcD_ok (ds:=qs.map pD) rfl (by rw [List.length_map]; omega) (lcL_flt qs fun q hq=>⟨_,rfl,?_,rfl⟩)⟩
 show orT (tsb (op2 (eqR false) (op2 ixD (varS 0) (cD (.int 0))) (op2 ixD (varS 1) (cD (.int 0))))) (tsb (op2 (eqR false) (op2 ixD (varS 0) (cD (.int 1))) (op2 ixD (varS 1) (cD (.int 1))))) [.sh (pD q),.sh (pD p)]=_
 simp [pD]
 by_cases e:q.1=p.1 <;> simp [e]
theorem dpL_ok {c n:Int} {ps qs:List (Int × Int)} {p:Int × Int} {k:Nat} (h:qs.length <= 3600):∃ qs':List (Int × Int),dpL [.sh (.int c),.sh (owD n ps),.ow (.lst (qs.map pD)),.sh (.int k),.sh (pD p)] = .nx [.sh (.int c),.sh (owD n ps),.ow (.lst (qs'.map pD)),.sh (.int k),.sh (pD p)]/\qs'.length <= qs.length + 1:=by
 obtain ⟨r,e,b⟩:=draw_in (c:=c) (k:=60 + (k:Int) % 40) (b:=3) (by omega) (by omega) (by decide) (by decide)
 obtain ⟨rs,ec⟩:=dpC_ok (c:=c) (n:=n) (ps:=ps) (qs:=qs) (p:=p) (s3:=.sh (.int k)) h
 have em:=modD_int (i:=(k:Int)) (j:=40) (by decide)
 have e1:tsb (op2 gtD (callD F_law_draw (consA (varS 0) (consA (op2 addD (cD (.int 60)) (op2 modD (varS 3) (cD (.int 40)))) (consA (cD (.int 3)) nilA)))) (cD (.int 0))) [.sh (.int c),.sh (owD n ps),.ow (.lst (qs.map pD)),.sh (.int k),.sh (pD p)] = .ok (decide (0 < (r:Int))):=by simp [em,e]
 have e2:tsb (op2 (eqR false) dpC (lstD nilA)) [.sh (.int c),.sh (owD n ps),.ow (.lst (qs.map pD)),.sh (.int k),.sh (pD p)] = .ok rs.isEmpty:=by
  rw [tsb_ap,op2_ap,ec,bd_ok]
  show (okD (eqR false (.lst (rs.map pD)) (.lst []))).bd blD=_
  rw [eqR_nilP]
  rfl
 have e3:appS 2 (immD (varS 4)) [.sh (.int c),.sh (owD n ps),.ow (.lst (qs.map pD)),.sh (.int k),.sh (pD p)] = .nx [.sh (.int c),.sh (owD n ps),.ow (.lst ((qs ++ [p]).map pD)),.sh (.int k),.sh (pD p)]:=by
  have hz:(qs.map pD).length < sizeLine:=by rw [List.length_map,szl]; omega
  have g:immD (varS 4) [.sh (.int c),.sh (owD n ps),.ow (.lst (qs.map pD)),.sh (.int k),.sh (pD p)] = .ok (pD p):=rfl
  unfold appS
  show ((immD (varS 4) [.sh (.int c),.sh (owD n ps),.ow (.lst (qs.map pD)),.sh (.int k),.sh (pD p)]).bo _)=_
  rw [g,bo_ok,if_pos hz,List.map_append]
  rfl
 unfold dpL
 rw [ifS_ap,e1,bo_ok]
 cases decide (0 < (r:Int)) with
 | false=>exact ⟨qs,rfl,by omega⟩
 | true =>
  rw [if_pos rfl,ifS_ap,e2,bo_ok]
  cases rs.isEmpty with
  | false=>exact ⟨qs,rfl,by omega⟩
  | true=>exact ⟨qs ++ [p],by rw [if_pos rfl]; exact e3,by simp⟩
theorem law_drawn_pairs_ok {c n:Int} {ps:List (Int × Int)} (O:Ow n ps):∃ qs:List (Int × Int),F_law_drawn_pairs [.int c,owD n ps] = .ok (.tup (qs.map pD))/\qs.length <= 3600:=by
 have pl:=O.len
 have st:startE 5 [.int c,owD n ps]=[.sh (.int c),.sh (owD n ps),.no,.no,.no]:=rfl
 have hel:(enuL (ps.map pD)).length=ps.length:=by simp [enuL]
 obtain ⟨ρ',e,s3,s4,qs,rfl,hq⟩:=forL_inv (a:=gtup 2 (gcons (gnm 3) (gcons (gnm 4) gnil))) (u:=dpL) (enuL (ps.map pD))
  (fun i ρ=>∃ s3 s4,∃ qs:List (Int × Int),ρ=[.sh (.int c),.sh (owD n ps),.ow (.lst (qs.map pD)),s3,s4]/\qs.length <= i) [.sh (.int c),.sh (owD n ps),.ow (.lst []),.no,.no] ⟨.no,.no,[],rfl,by simp⟩ (by
   rintro i d ρ hd ⟨s3,s4,qs,rfl,hq⟩
   have hi:=(List.getElem?_eq_some_iff.mp hd).1
   unfold enuL at hd
   rw [List.getElem?_map,List.getElem?_zipIdx,List.getElem?_map,List.getElem?_eq_getElem (by omega:i < ps.length)] at hd
   simp only [Option.map_some,Option.some.injEq] at hd
   subst hd
   obtain ⟨qs',e1,hl⟩:=dpL_ok (c:=c) (n:=n) (ps:=ps) (qs:=qs) (p:=ps[i]) (k:=0 + i) (by omega)
   exact ⟨_,e1,_,_,qs',rfl,by omega⟩)
 rw [hel] at hq
 refine ⟨qs,?_,by omega⟩
 simp only [F_law_drawn_pairs,drawn_pairs_def,runD_ap,st]
 have hf:forS (rngA enuA (consA (op2 ixD (varS 1) (cD (.int 1))) nilA)) (gtup 2 (gcons (gnm 3) (gcons (gnm 4) gnil))) dpL [.sh (.int c),.sh (owD n ps),.ow (.lst []),.no,.no] = .nx [.sh (.int c),.sh (owD n ps),.ow (.lst (qs.map pD)),s3,s4]:=by
  have hi:rngA enuA (consA (op2 ixD (varS 1) (cD (.int 1))) nilA) [.sh (.int c),.sh (owD n ps),.ow (.lst []),.no,.no] = .ok (enuL (ps.map pD)):=rfl
  rw [forS_ap,hi,bo_ok,e]
 have h0:setO 2 (lstD nilA) [.sh (.int c),.sh (owD n ps),.no,.no,.no] = .nx [.sh (.int c),.sh (owD n ps),.ow (.lst []),.no,.no]:=by simp
 rw [seqS_ap,h0,sq_nx,seqS_ap,hf,sq_nx]
 simp
end VL.My
namespace VL.My
open PySem L2
theorem lcL_sub {ρ:En} {fg:D->En->Rs En} {ft:En->Rs Bool} {fe:En->Rs D}:∀ (l:List Int),(∀ x ∈ l,∃ ρ1 b,fg (.int x) ρ = .ok ρ1/\ft ρ1 = .ok b/\fe ρ1 = .ok (.int x))->∃ out:List Int,lcL ρ fg ft fe (l.map .int) = .ok (out.map .int)/\out.length <= l.length
 | [],_=>⟨[],rfl,Nat.le_refl _⟩
 | x :: l,h=>by
  obtain ⟨ρ1,b,e1,e2,e3⟩:=h x List.mem_cons_self
  obtain ⟨out,e,hl⟩:=lcL_sub l fun y hy=>h y (List.mem_cons_of_mem _ hy)
  cases b with
  | true =>
   refine ⟨x :: out,?_,by simp; omega⟩
   rw [List.map_cons]
   unfold lcL
   rw [e1,bd_ok,e2,bd_ok,if_pos rfl,e3,bd_ok,e,bd_ok]
   rfl
  | false =>
   refine ⟨out,?_,by simp; omega⟩
   rw [List.map_cons]
   unfold lcL
   rw [e1,bd_ok,e2,bd_ok,if_neg Bool.false_ne_true,e]
theorem rngD_ints (n:Int):rngD 0 n=((List.range n.toNat).map fun (k:Nat)=>(k:Int)).map .int:=by
 unfold rngD
 rw [List.map_map]
 rw [Int.sub_zero]
 refine List.map_congr_left fun k _=>?_
 show D.int (0 + (k:Int))=D.int (k:Int)
 rw [Int.zero_add]
noncomputable def lpT:En->Rs Bool:=tsb (op2 ltD (callD F_law_draw (consA (varS 1) (consA (op2 addD (op2 addD (varS 2) (cD (.int 1))) (varS 0)) (consA (cD (.int 5)) nilA)))) (varS 3))
theorem law_places_ok {c s n:Int} (s0:0 <= s) (s1:s <= 1000) (n0:0 <= n) (n1:n <= 60):∃ xs:List Int,F_law_places [.int c,.int s,.int n] = .ok (.tup (xs.map .int))/\xs.length <= 60:=by
 obtain ⟨r,e,b⟩:=draw_in (c:=c) (k:=s) (b:=4) (by omega) (by omega) (by decide) (by decide)
 have st:startE 4 [.int c,.int s,.int n]=[.sh (.int c),.sh (.int s),.sh (.int n),.no]:=rfl
 have hr:=rng1_ok (j:=n) (by omega) (by omega)
 obtain ⟨xs,ex,hx⟩:=lcL_sub (ρ:=[.no,.sh (.int c),.sh (.int s),.sh (.int (1 + (r:Int)))]) (fg:=gnm 0) (ft:=lpT) (fe:=immD (varS 0)) ((List.range n.toNat).map fun (k:Nat)=>(k:Int)) fun x hx=>by
  obtain ⟨k,hk,rfl⟩:=List.mem_map.mp hx
  have hk:=List.mem_range.mp hk
  obtain ⟨r2,e2,_⟩:=draw_in (c:=c) (k:=s + 1 + (k:Int)) (b:=5) (by omega) (by omega) (by decide) (by decide)
  refine ⟨_,decide ((r2:Int) < 1 + (r:Int)),rfl,?_,rfl⟩
  show lpT [.sh (.int k),.sh (.int c),.sh (.int s),.sh (.int (1 + (r:Int)))]=_
  unfold lpT
  simp [e2]
 rw [List.length_map,List.length_range] at hx
 refine ⟨xs,?_,by omega⟩
 have hc:lcD (rngA rng1 (consA (varS 2) nilA)) [none,some 0,some 1,some 3] (gnm 0) lpT (immD (varS 0)) [.sh (.int c),.sh (.int s),.sh (.int n),.sh (.int (1 + (r:Int)))] = .ok (.lst (xs.map .int)):=by
  refine lcD_ok (ds:=rngD 0 n) (by simp [shE,toSh,hr]) (by rw [rngD_len]; omega) ?_
  rw [rngD_ints]
  exact ex
 have e1:setS 3 (op2 addD (cD (.int 1)) (callD F_law_draw (consA (varS 0) (consA (varS 1) (consA (cD (.int 4)) nilA))))) [.sh (.int c),.sh (.int s),.sh (.int n),.no] = .nx [.sh (.int c),.sh (.int s),.sh (.int n),.sh (.int (1 + (r:Int)))]:=by simp [e]
 show (match (seqS (setS 3 (op2 addD (cD (.int 1)) (callD F_law_draw (consA (varS 0) (consA (varS 1) (consA (cD (.int 4)) nilA)))))) (retS (opA tupleD (consA (lcD (rngA rng1 (consA (varS 2) nilA)) [none,some 0,some 1,some 3] (gnm 0) lpT (immD (varS 0))) nilA)))) (startE 4 [.int c,.int s,.int n]) with | .nx _=>Rs.ok D.non | .rt d=>.ok d | .ex c=>.ex c | _=>.st)=_
 rw [st,seqS_ap,e1,sq_nx,retS_ap,opA_ap,consA_ap,hc]
 rfl
theorem sIx_some {n d:Nat} {i:Int} (h:0 <= i):HT.sIx n d (some i) <= i.toNat:=by
 unfold HT.sIx
 dsimp only
 rw [if_neg (by omega)]
 omega
theorem sIx_lo {n d:Nat} {i:Int} (h:0 <= i):min i.toNat n <= HT.sIx n d (some i):=by
 unfold HT.sIx
 dsimp only
 rw [if_neg (by omega)]
 omega
theorem law_other_pairs_ok {c n:Int} {ps qs:List (Int × Int)} (O:Ow n ps) (hq:qs.length <= 3600):∃ d,F_law_other_pairs [.int c,.tup (qs.map pD),owD n ps] = .ok d/\fine d:=by
 have pl:=O.len
 obtain ⟨r0,e0,b0⟩:=draw_in (c:=c) (k:=80) (b:=(qs.length:Int) + 1) (by omega) (by omega) (by omega) (by omega)
 obtain ⟨r1,e1,b1⟩:=draw_in (c:=c) (k:=81) (b:=8) (by omega) (by omega) (by omega) (by omega)
 obtain ⟨r2,e2,b2⟩:=draw_in (c:=c) (k:=82) (b:=7) (by omega) (by omega) (by omega) (by omega)
 obtain ⟨d4,e4,m4,_⟩:=atD_in (l:=[.tup [.int 0,.int 0],.tup [.int 0,.int 1],.tup [.int 1,.int 0],.tup [.int 2,.int 1],.non,.lst [.int 0,.int 1],.tup [.int 0,.int 1,.int 2],.tup [.bl true,.int 0]]) (i:=(r1:Int)) (by omega) (by simpa using b1)
 have st:startE 6 [.int c,.tup (qs.map pD),owD n ps]=[.sh (.int c),.sh (.tup (qs.map pD)),.sh (owD n ps),.no,.no,.no]:=rfl
 have gt:∀ l:List (Int × Int),gImm (.tup (l.map pD)) = .ok (.tup (l.map pD)):=fun l=>gImm_of (by simp only [imm]; exact imms_pD l)
 have gc:∀ (l:List (Int × Int)) a b,gImm (.tup (cutD (l.map pD) a b)) = .ok (.tup (cutD (l.map pD) a b)):=fun l a b=>gImm_of (by simp only [imm]; exact imms_of fun d hd=>imms_mem (imms_pD l) (cutD_mem hd))
 have gr:gImm (.tup (qs.map pD).reverse) = .ok (.tup (qs.map pD).reverse):=gImm_of (by simp only [imm]; exact imms_of fun d hd=>imms_mem (imms_pD qs) (List.mem_reverse.mp hd))
 have cl:∀ a b,(cutD (qs.map pD) a b).length <= qs.length:=fun a b=>Nat.le_trans (cutD_len _ _ _) (by rw [List.length_map]; exact Nat.le_refl _)
 have cs:∀ a b,((cutD (qs.map pD) a b).length <= 3600):=fun a b=>Nat.le_trans (cl a b) hq
 have z1:∀ a b,(cutD (qs.map pD) a b).length + 1 <= 16777216:=fun a b=>by have:=cs a b; omega
 have z3:∀ a b a' b',(cutD (qs.map pD) a b).length + 1 + (cutD (qs.map pD) a' b').length <= 16777216:=fun a b a' b'=>by have:=cs a b; have:=cs a' b'; omega
 have z4:∀ a b,qs.length + (cutD (qs.map pD) a b).length <= 16777216:=fun a b=>by have:=cs a b; omega
 have p4:pln d4=true/\shrt d4=true:=by
  simp only [List.mem_cons,List.not_mem_nil,or_false] at m4
  rcases m4 with rfl | rfl | rfl | rfl | rfl | rfl | rfl | rfl <;> exact ⟨rfl,rfl⟩
 have pc:∀ (l:List (Int × Int)) a b,plns (cutD (l.map pD) a b)=true:=fun l a b=>plns_cut (plns_pD l)
 have sc:∀ (l:List (Int × Int)) a b,∀ e ∈ cutD (l.map pD) a b,shrt e=true:=fun l a b e he=>shr_pairs e (cutD_mem he)
 have ca:(cutD (qs.map pD) none (some (r0:Int))).length <= r0:=by
  unfold cutD
  rw [List.length_take,List.length_drop]
  have:=sIx_some (n:=(qs.map pD).length) (d:=(qs.map pD).length) (i:=(r0:Int)) (by omega)
  omega
 have cb:(cutD (qs.map pD) (some ((r0:Int) + 1)) none).length <= qs.length - r0:=by
  unfold cutD
  rw [List.length_take,List.length_drop,List.length_map]
  have:=sIx_lo (n:=qs.length) (d:=0) (i:=(r0:Int) + 1) (by omega)
  omega
 have c1:(cutD (qs.map pD) none (some 1)).length <= 1:=by
  unfold cutD
  rw [List.length_take,List.length_drop]
  have:=sIx_some (n:=(qs.map pD).length) (d:=(qs.map pD).length) (i:=1) (by omega)
  omega
 simp only [F_law_other_pairs,d_law_other_pairs,runD_ap,st]
 simp [-List.map_reverse,owD,e0,e1,e2,e4,gt,gc,gr,z1,z3,z4]
 refine at_end (by omega) (by simp; omega) fun d hd=>?_
 simp only [List.mem_cons,List.not_mem_nil,or_false] at hd
 rcases hd with rfl | rfl | rfl | rfl | rfl | rfl | rfl
 ·refine fine_of (plns_app (pc qs _ _) ?_) ?_ fun e he=>?_
  ·simp only [plns,p4.1,pc,Bool.and_self]
  ·simp; omega
  ·rcases List.mem_append.mp he with z | z
   ·exact sc qs _ _ e z
   ·rcases List.mem_cons.mp z with rfl | z
    ·exact p4.2
    ·exact sc qs _ _ e z
 ·exact fine_of (plns_of fun d hd=>plns_mem (plns_pD qs) (List.mem_reverse.mp hd)) (by simp; omega) fun e he=>shr_pairs e (List.mem_reverse.mp he)
 ·exact fine_lst (plns_pD qs)
 ·exact fine_pairs pl
 ·refine fine_of (plns_app (plns_pD qs) (pc qs _ _)) (by simp; omega) fun e he=>?_
  rcases List.mem_append.mp he with z | z
  ·exact shr_pairs e z
  ·exact sc qs _ _ e z
 ·exact fine_of (pc ps _ _) (by have:=cutD_len (ps.map pD) none (some 2); rw [List.length_map] at this; omega) (sc ps _ _)
 ·exact fine_non
end VL.My
namespace VL.My
open PySem L2
theorem ris_ge:∀ {l:List Int} {y:Int},risG ltI (y :: l)=true->∀ z ∈ y :: l,y <= z
 | [],y,_,z,hz=>by rw [List.mem_singleton.mp hz]; exact Int.le_refl _
 | x :: l,y,h,z,hz=>by
  unfold risG at h
  rw [Bool.and_eq_true] at h
  have h1:y < x:=by simpa [ltI] using h.1
  rcases List.mem_cons.mp hz with rfl | hz
  ·exact Int.le_refl _
  ·have:=ris_ge h.2 z hz
   omega
theorem ris_len:∀ {l:List Int} {a b:Int},risG ltI l=true->(∀ x ∈ l,a <= x/\x < b)->l.length <= (b - a).toNat
 | [],_,_,_,_=>Nat.zero_le _
 | [x],a,b,_,h=>by
  have:=h x List.mem_cons_self
  simp only [List.length_singleton]
  omega
 | x :: y :: l,a,b,hr,h=>by
  have hx:=h x List.mem_cons_self
  unfold risG at hr
  rw [Bool.and_eq_true] at hr
  have h1:x < y:=by simpa [ltI] using hr.1
  have ih:=ris_len (a:=x + 1) (b:=b) hr.2 fun z hz=>by
   have:=ris_ge hr.2 z hz
   exact ⟨by omega,(h z (List.mem_cons_of_mem _ hz)).2⟩
  have hy:=h y (List.mem_cons_of_mem _ List.mem_cons_self)
  rw [List.length_cons]
  omega
theorem key_lt {p q:Int × Int} (h:ltP p q=true) (h1:0 <= p.2/\p.2 < 8) (h2:0 <= q.2/\q.2 < 8):p.1 * 8 + p.2 < q.1 * 8 + q.2:=by
 unfold ltP at h
 rw [HT.lexLt_cons] at h
 split at h
 ·rw [HT.lexLt_cons] at h
  split at h
  ·cases h
  ·have:=of_decide_eq_true h
   omega
 ·have:=of_decide_eq_true h
  omega
theorem Ow.few {n:Int} {ps:List (Int × Int)} (O:Ow n ps) (h8:n <= 8):ps.length < 64:=by
 have hr:risG ltI (ps.map fun p=>p.1 * 8 + p.2)=true:=risG_iff.mpr fun i x y e1 e2=>by
  rw [List.getElem?_map] at e1 e2
  cases f1:ps[i]? with
  | none=>rw [f1] at e1; cases e1
  | some p =>
   cases f2:ps[i + 1]? with
   | none=>rw [f2] at e2; cases e2
   | some q =>
    rw [f1] at e1; rw [f2] at e2
    cases e1; cases e2
    obtain ⟨a1,a2,a3,a4,_⟩:=O.pr p (List.mem_of_getElem? f1)
    obtain ⟨b1,b2,b3,b4,_⟩:=O.pr q (List.mem_of_getElem? f2)
    have:=key_lt (ris_iff.mp O.ris i p q f1 f2) ⟨a3,by omega⟩ ⟨b3,by omega⟩
    simpa [ltI] using this
 have:=ris_len (a:=1) (b:=63) hr fun x hx=>by
  obtain ⟨p,hp,rfl⟩:=List.mem_map.mp hx
  obtain ⟨a1,a2,a3,a4,a5⟩:=O.pr p hp
  omega
 rw [List.length_map] at this
 have e:((63:Int) - 1).toNat=62:=rfl
 omega
noncomputable def mkD (xs ys:List Int):D:=.tup [.tup (xs.map .int),.tup (ys.map .int)]
theorem pln_ints (xs:List Int):pln (.tup (xs.map .int))=true:=by simpa [pln] using plns_int xs
theorem shrt_ints {xs:List Int} (h:xs.length <= 64):shrt (.tup (xs.map .int))=true:=by simp [shrt]; omega
theorem fine_two {a b:D} (ha:pln a=true) (hb:pln b=true) (sa:shrt a=true) (sb:shrt b=true):fine (.tup [a,b]):=fine_of (by simp [plns,ha,hb]) (by simp) fun e he=>by
 simp only [List.mem_cons,List.not_mem_nil,or_false] at he
 rcases he with rfl | rfl
 ·exact sa
 ·exact sb
theorem fine_one {a:D} (ha:pln a=true) (sa:shrt a=true):fine (.tup [a]):=fine_of (by simp [plns,ha]) (by simp) fun e he=>by rw [List.mem_singleton.mp he]; exact sa
theorem fine_mk {xs ys:List Int} (hx:xs.length <= 64) (hy:ys.length <= 64):fine (mkD xs ys):=fine_two (pln_ints xs) (pln_ints ys) (shrt_ints hx) (shrt_ints hy)
theorem law_other_marks_ok {c n:Int} {xs ys:List Int} (hx:xs.length <= 64) (hy:ys.length <= 64):∃ d,F_law_other_marks [.int c,mkD xs ys,.int n] = .ok d/\fine d:=by
 obtain ⟨o,e0,ho⟩:=law_bent_row_ok (c:=c) (p:=84) (m:=n) (ws:=xs) (by decide) (by decide) (by omega)
 obtain ⟨r2,e2,b2⟩:=draw_in (c:=c) (k:=88) (b:=7) (by omega) (by omega) (by omega) (by omega)
 have st:startE 5 [.int c,mkD xs ys,.int n]=[.sh (.int c),.sh (mkD xs ys),.sh (.int n),.no,.no]:=rfl
 have gi:∀ l:List Int,gImm (.tup (l.map .int)) = .ok (.tup (l.map .int)):=fun l=>gImm_of (by simp only [imm]; exact imms_int l)
 have g2:gImm (.tup [.tup (xs.map .int),.tup (ys.map .int)]) = .ok (.tup [.tup (xs.map .int),.tup (ys.map .int)]):=gImm_of (by simp [imm,imms,imms_int])
 have g1:gImm (.tup [.tup (xs.map .int)]) = .ok (.tup [.tup (xs.map .int)]):=gImm_of (by simp [imm,imms,imms_int])
 have ec:cutD [.tup (xs.map .int),.tup (ys.map .int)] none (some 1)=[.tup (xs.map .int)]:=rfl
 have so:shrt o=true:=shr4_t ho.2
 simp only [F_law_other_marks,d_law_other_marks,runD_ap,st]
 simp [mkD,e0,e2,gi,g2,g1,ec]
 refine at_end (by omega) (by simp; omega) fun d hd=>?_
 simp only [List.mem_cons,List.not_mem_nil,or_false] at hd
 rcases hd with rfl | rfl | rfl | rfl | rfl | rfl | rfl
 ·exact fine_two ho.1 (pln_ints ys) so (shrt_ints hy)
 ·exact fine_two (pln_ints xs) ho.1 (shrt_ints hx) so
 ·exact fine_two (pln_ints ys) (pln_ints xs) (shrt_ints hy) (shrt_ints hx)
 ·exact fine_one (pln_ints xs) (shrt_ints hx)
 ·refine fine_of (by simp [plns,pln_ints,pln,plns_int]) (by simp) fun e he=>?_
  simp only [List.mem_cons,List.not_mem_nil,or_false] at he
  rcases he with rfl | rfl | rfl
  ·exact shrt_ints hx
  ·exact shrt_ints hy
  ·rfl
 ·exact fine_lst (by simp [plns,pln_ints])
 ·exact fine_one (pln_ints xs) (shrt_ints hx)
end VL.My
namespace VL.My
open PySem L2
theorem lcL_ex {ρ:En} {fg:D->En->Rs En} {fe:En->Rs D} {P:D->Prop}:∀ (ds:List D),(∀ d ∈ ds,∃ ρ1 y,fg d ρ = .ok ρ1/\fe ρ1 = .ok y/\P y)->∃ ys,lcL ρ fg yesT fe ds = .ok ys/\ys.length=ds.length/\∀ y ∈ ys,P y
 | [],_=>⟨[],rfl,rfl,fun y hy=>by cases hy⟩
 | d :: ds,h=>by
  obtain ⟨ρ1,y,e1,e2,hy⟩:=h d List.mem_cons_self
  obtain ⟨ys,e3,hl,hys⟩:=lcL_ex ds fun e he=>h e (List.mem_cons_of_mem _ he)
  refine ⟨y :: ys,?_,by simp [hl],fun z hz=>?_⟩
  ·unfold lcL
   rw [e1,bd_ok,yesT_ap,bd_ok,if_pos rfl,e2,bd_ok,e3,bd_ok]
  ·rcases List.mem_cons.mp hz with q | q
   ·rw [q]; exact hy
   ·exact hys z q
noncomputable def lwT:En->Ou:=seqS (setS 9 (tupD (consA (callD F_is_pairs (consA (varS 3) (consA (varS 8) nilA))) (consA (callD F_is_marks (consA (varS 3) (consA (varS 8) nilA))) nilA))))
    (seqS (ifS (orT (notT (tst (op1 (isiD "bool") (op2 ixD (varS 9) (cD (.int 0)))))) (notT (tst (op1 (isiD "bool") (op2 ixD (varS 9) (cD (.int 1)))))))
     (retS (cD (.bl false)))
     Ou.nx)
    (ifS (tsb (op2 (eqR true) (varS 9) (tupD (consA (callD F_law_are_pairs (consA (varS 3) (consA (varS 8) nilA))) (consA (callD F_law_are_marks (consA (varS 3) (consA (varS 8) nilA))) nilA)))))
     (retS (cD (.bl false)))
     Ou.nx))
theorem eqR_two {a b:Bool}:eqR true (.tup [.bl a,.bl b]) (.tup [.bl a,.bl b]) = .ok (.bl false):=by cases a <;> cases b <;> rfl
theorem lwT_ok {n:Int} {ps:List (Int × Int)} {d:D} {s0 s1 s2 s4 s5 s6 s7 s9:Slot} (O:Ow n ps) (h:fine d):∃ t9,lwT [s0,s1,s2,.sh (owD n ps),s4,s5,s6,s7,.sh d,s9] = .nx [s0,s1,s2,.sh (owD n ps),s4,s5,s6,s7,.sh d,t9]:=by
 have e1:=is_pairs_eq O h.1.1 h.1.2
 have e2:=is_marks_eq O h.1.1 h.2
 have e3:=law_are_pairs_eq O h.1.1 h.1.2
 have e4:=law_are_marks_eq O h.1.1 h.2
 refine ⟨.sh (.tup [.bl (prsB n ps d),.bl (mrkB n ps d)]),?_⟩
 simp [lwT,e1,e2,e3,e4,eqR_two]
noncomputable def lwM:En->Rs D:=lstD (consA (tupD (consA (immD (varS 5)) (consA (tupD nilA) nilA))) (consA (tupD (consA (tupD nilA) (consA (immD (varS 5)) nilA))) (consA (tupD (consA (callD F_law_places (consA (varS 2) (consA (cD (.int 30)) (consA (op2 ixD (varS 3) (cD (.int 0))) nilA)))) (consA (callD F_law_places (consA (varS 2) (consA (cD (.int 40)) (consA (op2 ixD (varS 3) (cD (.int 0))) nilA)))) nilA))) nilA)))
noncomputable def lwS:En->Rs D:=lcD (itrD (op2 ixD (varS 3) (cD (.int 1)))) [none,none] (gtup 2 (gcons (gnm 0) (gcons (gnm 1) gnil))) yesT (immD (varS 0))
noncomputable def lwA:En->Rs D:=tupD (consA (opA tupleD (consA (opA sortSetI (consA lwS nilA)) nilA)) (consA (tupD nilA) nilA))
noncomputable def lwB:En->Rs D:=lstD (consA (immD (varS 4)) (consA (immD (op2 ixD (varS 3) (cD (.int 1)))) (consA (tupD nilA) (consA (callD F_law_other_pairs (consA (varS 2) (consA (varS 4) (consA (varS 3) nilA)))) (consA (callD F_law_odd (consA (varS 2) nilA)) nilA)))))
noncomputable def lwC:En->Rs D:=lcD (itrD (varS 6)) [none,some 2,some 3] (gnm 0) yesT (callD F_law_other_marks (consA (varS 1) (consA (varS 0) (consA (op2 ixD (varS 2) (cD (.int 0))) nilA))))
noncomputable def lwK:En->Ou:=seqS (setS 2 (callD F_law_cell_at (consA (varS 0) (consA (varS 1) nilA))))
   (seqS (setS 3 (callD F_law_one_way (consA (varS 2) (consA (cD (.int 7)) nilA))))
   (seqS (setS 4 (callD F_law_drawn_pairs (consA (varS 2) (consA (varS 3) nilA))))
   (seqS (setS 5 (trD (op2 ixD (varS 3) (cD (.int 0)))))
   (seqS (setO 6 lwM)
   (seqS (appS 6 lwA)
   (seqS (setN 7 (op2 addI lwB (varD 6)))
   (forS (itrD (op2 addD (varN 7) lwC)) (gnm 8) lwT)))))))
theorem law_def:d_law=seqS (forS (rngA rng1 (consA (opA (mmD fun i j=>if j > i then j else i) (consA (cD (.int 1)) (consA (opA (mmD fun i j=>if j < i then j else i) (consA (opA lenD (consA (varS 0) nilA)) (consA (cD (.int 12)) nilA))) nilA))) nilA)) (gnm 1) lwK)
  (retS (andD (op2 (isD false) (callD F_is_pairs (consA (tupD (consA (cD (.int 0)) (consA (tupD nilA) nilA))) (consA (tupD nilA) nilA))) (cD (.bl true))) (op2 (isD false) (callD F_is_marks (consA (tupD (consA (cD (.int 0)) (consA (tupD nilA) nilA))) (consA (tupD (consA (tupD nilA) (consA (tupD nilA) nilA))) nilA))) (cD (.bl true))))):=rfl
theorem lwS_ok {n c:Int} {ps:List (Int × Int)} {s0 s1 s4 s5 s6 s7 s8 s9:Slot} (h:ps.length < 64):lwS [s0,s1,.sh (.int c),.sh (owD n ps),s4,s5,s6,s7,s8,s9] = .ok (.lst ((ps.map (·.1)).map .int)) :=
 lcD_ok (ds:=ps.map pD) (by simp [shE,toSh,owD]) (by rw [List.length_map]; omega) (by rw [List.map_map]; exact lcL_mp ps fun q hq=>⟨_,rfl,rfl⟩)
theorem sortSetI_ok {ns:List Int} (h:ns.length < 64):sortSetI [.lst (ns.map .int)] = .ok (.lst ((sortI (ddI ns)).map .int)):=by
 unfold sortSetI
 dsimp only
 rw [intsOf_map]
 dsimp only
 rw [if_pos h]
theorem lwK_ok {ns:List Int} {k:Int} (k0:0 <= k) {s2 s3 s4 s5 s6 s7 s8 s9:Slot}:∃ t2 t3 t4 t5 t6 t7 t8 t9,lwK [.sh (.scr ns),.sh (.int k),s2,s3,s4,s5,s6,s7,s8,s9] = .nx [.sh (.scr ns),.sh (.int k),t2,t3,t4,t5,t6,t7,t8,t9]:=by
 obtain ⟨c,e2⟩:=cell_ok (ns:=ns) k0
 obtain ⟨n,ps,e3,O,n8⟩:=law_one_way_ok (c:=c) (most:=7) (by decide)
 obtain ⟨qs,e4,hq⟩:=law_drawn_pairs_ok (c:=c) O
 have n0:=O.n0
 have n1:=O.n1
 have hpl:=O.few n8
 obtain ⟨p1,f1,l1⟩:=law_places_ok (c:=c) (s:=30) (n:=n) (by decide) (by decide) n0 n1
 obtain ⟨p2,f2,l2⟩:=law_places_ok (c:=c) (s:=40) (n:=n) (by decide) (by decide) n0 n1
 obtain ⟨o,f3,ho⟩:=law_other_pairs_ok (c:=c) O hq
 obtain ⟨d,f4,hd⟩:=law_odd_fine (c:=c)
 obtain ⟨es,hes,les⟩:∃ es:List Int,rngD 0 n=es.map .int/\es.length <= 64:=⟨_,rngD_ints n,by simp; omega⟩
 have hts:(sortI (ddI (ps.map (·.1)))).length <= 64:=by
  rw [(sortI_perm _).length_eq]
  have:=ddI_le (ps.map (·.1))
  rw [List.length_map] at this
  omega
 have gq:gImm (.tup (qs.map pD)) = .ok (.tup (qs.map pD)):=gImm_of (by simp only [imm]; exact imms_pD qs)
 have gp:gImm (.tup (ps.map pD)) = .ok (.tup (ps.map pD)):=gImm_of (by simp only [imm]; exact imms_pD ps)
 have ge:gImm (.tup (es.map .int)) = .ok (.tup (es.map .int)):=gImm_of (by simp only [imm]; exact imms_int es)
 have c2:setS 2 (callD F_law_cell_at (consA (varS 0) (consA (varS 1) nilA))) [.sh (.scr ns),.sh (.int k),s2,s3,s4,s5,s6,s7,s8,s9] = .nx [.sh (.scr ns),.sh (.int k),.sh (.int c),s3,s4,s5,s6,s7,s8,s9]:=by simp [e2]
 have c3:setS 3 (callD F_law_one_way (consA (varS 2) (consA (cD (.int 7)) nilA))) [.sh (.scr ns),.sh (.int k),.sh (.int c),s3,s4,s5,s6,s7,s8,s9] = .nx [.sh (.scr ns),.sh (.int k),.sh (.int c),.sh (owD n ps),s4,s5,s6,s7,s8,s9]:=by
  have e3':F_law_one_way [.int c,.int 7] = .ok (owD n ps):=e3
  simp [e3']
 have c4:setS 4 (callD F_law_drawn_pairs (consA (varS 2) (consA (varS 3) nilA))) [.sh (.scr ns),.sh (.int k),.sh (.int c),.sh (owD n ps),s4,s5,s6,s7,s8,s9] = .nx [.sh (.scr ns),.sh (.int k),.sh (.int c),.sh (owD n ps),.sh (.tup (qs.map pD)),s5,s6,s7,s8,s9]:=by simp [e4]
 have c5:setS 5 (trD (op2 ixD (varS 3) (cD (.int 0)))) [.sh (.scr ns),.sh (.int k),.sh (.int c),.sh (owD n ps),.sh (.tup (qs.map pD)),s5,s6,s7,s8,s9] = .nx [.sh (.scr ns),.sh (.int k),.sh (.int c),.sh (owD n ps),.sh (.tup (qs.map pD)),.sh (.tup (es.map .int)),s6,s7,s8,s9]:=by
  have:trD (op2 ixD (varS 3) (cD (.int 0))) [.sh (.scr ns),.sh (.int k),.sh (.int c),.sh (owD n ps),.sh (.tup (qs.map pD)),s5,s6,s7,s8,s9] = .ok (.tup (es.map .int)):=by
   show trR (.int n)=_
   unfold trR
   dsimp only
   rw [if_pos ⟨by omega,by omega⟩,hes]
  rw [setS_ap,this]
  rfl
 have c6:setO 6 lwM [.sh (.scr ns),.sh (.int k),.sh (.int c),.sh (owD n ps),.sh (.tup (qs.map pD)),.sh (.tup (es.map .int)),s6,s7,s8,s9] = .nx [.sh (.scr ns),.sh (.int k),.sh (.int c),.sh (owD n ps),.sh (.tup (qs.map pD)),.sh (.tup (es.map .int)),.ow (.lst [mkD es [],mkD [] es,mkD p1 p2]),s7,s8,s9]:=by
  have hx:op2 ixD (varS 3) (cD (.int 0)) [.sh (.scr ns),.sh (.int k),.sh (.int c),.sh (owD n ps),.sh (.tup (qs.map pD)),.sh (.tup (es.map .int)),s6,s7,s8,s9] = .ok (.int n):=by simp [owD]
  unfold lwM
  simp [-op2_ap,hx,ge,f1,f2,mkD]
 have c7:appS 6 lwA [.sh (.scr ns),.sh (.int k),.sh (.int c),.sh (owD n ps),.sh (.tup (qs.map pD)),.sh (.tup (es.map .int)),.ow (.lst [mkD es [],mkD [] es,mkD p1 p2]),s7,s8,s9] = .nx [.sh (.scr ns),.sh (.int k),.sh (.int c),.sh (owD n ps),.sh (.tup (qs.map pD)),.sh (.tup (es.map .int)),.ow (.lst [mkD es [],mkD [] es,mkD p1 p2,mkD (sortI (ddI (ps.map (·.1)))) []]),s7,s8,s9]:=by
  have ha:lwA [.sh (.scr ns),.sh (.int k),.sh (.int c),.sh (owD n ps),.sh (.tup (qs.map pD)),.sh (.tup (es.map .int)),.ow (.lst [mkD es [],mkD [] es,mkD p1 p2]),s7,s8,s9] = .ok (mkD (sortI (ddI (ps.map (·.1)))) []):=by
   have hs:=lwS_ok (n:=n) (c:=c) (ps:=ps) (s0:=.sh (.scr ns)) (s1:=.sh (.int k)) (s4:=.sh (.tup (qs.map pD))) (s5:=.sh (.tup (es.map .int))) (s6:=.ow (.lst [mkD es [],mkD [] es,mkD p1 p2])) (s7:=s7) (s8:=s8) (s9:=s9) hpl
   have hi:=sortSetI_ok (ns:=ps.map (·.1)) (by rw [List.length_map]; exact hpl)
   unfold lwA
   rw [tupD_ap,consA_ap,opA_ap,consA_ap,opA_ap,consA_ap,hs,bd_ok,nilA_ap,bd_ok,bd_ok,hi]
   rfl
  show ((lwA _).bo _)=_
  rw [ha,bo_ok,if_pos (by rw [szl]; simp)]
  rfl
 generalize hms:[mkD es [],mkD [] es,mkD p1 p2,mkD (sortI (ddI (ps.map (·.1)))) []]=ms at c7
 have hml:ms.length=4:=by rw [<- hms]; rfl
 have hmk:∀ m ∈ ms,∃ xs ys:List Int,m=mkD xs ys/\xs.length <= 64/\ys.length <= 64:=fun m hm=>by
  rw [<- hms] at hm
  simp only [List.mem_cons,List.not_mem_nil,or_false] at hm
  rcases hm with rfl | rfl | rfl | rfl
  ·exact ⟨_,_,rfl,les,by simp⟩
  ·exact ⟨_,_,rfl,by simp,les⟩
  ·exact ⟨_,_,rfl,by omega,by omega⟩
  ·exact ⟨_,_,rfl,hts,by simp⟩
 have him:imms ms=true:=imms_of fun m hm=>by
  obtain ⟨xs,ys,rfl,_⟩:=hmk m hm
  simp [mkD,imm,imms,imms_int]
 have c8:setN 7 (op2 addI lwB (varD 6)) [.sh (.scr ns),.sh (.int k),.sh (.int c),.sh (owD n ps),.sh (.tup (qs.map pD)),.sh (.tup (es.map .int)),.ow (.lst ms),s7,s8,s9] = .nx [.sh (.scr ns),.sh (.int k),.sh (.int c),.sh (owD n ps),.sh (.tup (qs.map pD)),.sh (.tup (es.map .int)),.ow (.lst ms),.nw (.lst ([.tup (qs.map pD),.tup (ps.map pD),.tup [],o,d] ++ ms)),s8,s9]:=by
  have hb:lwB [.sh (.scr ns),.sh (.int k),.sh (.int c),.sh (owD n ps),.sh (.tup (qs.map pD)),.sh (.tup (es.map .int)),.ow (.lst ms),s7,s8,s9] = .ok (.lst [.tup (qs.map pD),.tup (ps.map pD),.tup [],o,d]):=by
   have hx:op2 ixD (varS 3) (cD (.int 1)) [.sh (.scr ns),.sh (.int k),.sh (.int c),.sh (owD n ps),.sh (.tup (qs.map pD)),.sh (.tup (es.map .int)),.ow (.lst ms),s7,s8,s9] = .ok (.tup (ps.map pD)):=by simp [owD]
   unfold lwB
   simp [-op2_ap,hx,gq,gp,f3,f4]
  have hadd:addI (.lst [.tup (qs.map pD),.tup (ps.map pD),.tup [],o,d]) (.lst ms) = .ok (.lst ([.tup (qs.map pD),.tup (ps.map pD),.tup [],o,d] ++ ms)):=by
   unfold addI
   dsimp only
   rw [if_pos ⟨by rw [hml,szl]; simp,him⟩]
  rw [setN_ap,op2_ap,hb,bd_ok]
  show ((okD (addI (.lst [.tup (qs.map pD),.tup (ps.map pD),.tup [],o,d]) (.lst ms))).bo _)=_
  rw [hadd]
  rfl
 generalize hfs:[.tup (qs.map pD),.tup (ps.map pD),.tup [],o,d] ++ ms=fs at c8
 have hfl:fs.length=9:=by rw [<- hfs,List.length_append,hml]; rfl
 have hff:∀ x ∈ fs,fine x:=fun x hx=>by
  rw [<- hfs] at hx
  rcases List.mem_append.mp hx with hx | hx
  ·simp only [List.mem_cons,List.not_mem_nil,or_false] at hx
   rcases hx with rfl | rfl | rfl | rfl | rfl
   ·exact fine_pairs hq
   ·exact fine_pairs O.len
   ·exact fine_of rfl (by simp) fun e he=>by cases he
   ·exact ho
   ·exact hd
  ·obtain ⟨xs,ys,rfl,a,b⟩:=hmk x hx
   exact fine_mk a b
 obtain ⟨ys,ey,hyl,hys⟩:=lcL_ex (ρ:=[.no,.sh (.int c),.sh (owD n ps)]) (fg:=gnm 0) (fe:=callD F_law_other_marks (consA (varS 1) (consA (varS 0) (consA (op2 ixD (varS 2) (cD (.int 0))) nilA)))) (P:=fine) ms fun m hm=>by
  obtain ⟨xs,ys,rfl,a,b⟩:=hmk m hm
  obtain ⟨y,e,hy⟩:=law_other_marks_ok (c:=c) (n:=n) a b
  exact ⟨_,y,rfl,by simp [owD,e],hy⟩
 have hall:∀ x ∈ fs ++ ys,fine x:=fun x hx=>(List.mem_append.mp hx).elim (hff x) (hys x)
 obtain ⟨ρ',e,t8,t9,rfl⟩:=forL_inv (a:=gnm 8) (u:=lwT) (fs ++ ys) (fun _ ρ=>∃ t8 t9,ρ=[.sh (.scr ns),.sh (.int k),.sh (.int c),.sh (owD n ps),.sh (.tup (qs.map pD)),.sh (.tup (es.map .int)),.ow (.lst ms),.nw (.lst fs),t8,t9]) [.sh (.scr ns),.sh (.int k),.sh (.int c),.sh (owD n ps),.sh (.tup (qs.map pD)),.sh (.tup (es.map .int)),.ow (.lst ms),.nw (.lst fs),s8,s9] ⟨s8,s9,rfl⟩ (by
  rintro i x ρ hx ⟨t8,t9,rfl⟩
  obtain ⟨u9,e9⟩:=lwT_ok (d:=x) (s0:=.sh (.scr ns)) (s1:=.sh (.int k)) (s2:=.sh (.int c)) (s4:=.sh (.tup (qs.map pD))) (s5:=.sh (.tup (es.map .int))) (s6:=.ow (.lst ms)) (s7:=.nw (.lst fs)) (s9:=t9) O (hall x (List.mem_of_getElem? hx))
  exact ⟨_,by rw [gnm_ap,okE_ok]; exact e9,_,_,rfl⟩)
 have c9:forS (itrD (op2 addD (varN 7) lwC)) (gnm 8) lwT [.sh (.scr ns),.sh (.int k),.sh (.int c),.sh (owD n ps),.sh (.tup (qs.map pD)),.sh (.tup (es.map .int)),.ow (.lst ms),.nw (.lst fs),s8,s9] = .nx [.sh (.scr ns),.sh (.int k),.sh (.int c),.sh (owD n ps),.sh (.tup (qs.map pD)),.sh (.tup (es.map .int)),.ow (.lst ms),.nw (.lst fs),t8,t9]:=by
  have hc:lwC [.sh (.scr ns),.sh (.int k),.sh (.int c),.sh (owD n ps),.sh (.tup (qs.map pD)),.sh (.tup (es.map .int)),.ow (.lst ms),.nw (.lst fs),s8,s9] = .ok (.lst ys) :=
   lcD_ok (ds:=ms) (by simp [shE,toSh]) (by rw [hml]; decide) ey
  have hadd:addD (.lst fs) (.lst ys) = .ok (.lst (fs ++ ys)):=by rw [addD_lst,if_pos (by rw [hfl,hyl,hml]; decide)]
  have hi:itrD (op2 addD (varN 7) lwC) [.sh (.scr ns),.sh (.int k),.sh (.int c),.sh (owD n ps),.sh (.tup (qs.map pD)),.sh (.tup (es.map .int)),.ow (.lst ms),.nw (.lst fs),s8,s9] = .ok (fs ++ ys):=by
   rw [itrD_ap,op2_ap,hc]
   show (okD (addD (.lst fs) (.lst ys))).bd itD=_
   rw [hadd]
   rfl
  rw [forS_ap,hi,bo_ok,e]
 refine ⟨.sh (.int c),.sh (owD n ps),.sh (.tup (qs.map pD)),.sh (.tup (es.map .int)),.ow (.lst ms),.nw (.lst fs),t8,t9,?_⟩
 unfold lwK
 rw [seqS_ap,c2,sq_nx,seqS_ap,c3,sq_nx,seqS_ap,c4,sq_nx,seqS_ap,c5,sq_nx,seqS_ap,c6,sq_nx,seqS_ap,c7,sq_nx,seqS_ap,c8,sq_nx,c9]
theorem law_true (ns:List Int) (hn:ns.length <= 63):F_law [.scr ns] = .ok (.bl true):=by
 have O0:Ow 0 []:=⟨by decide,by decide,by decide,(fun p hp=>by cases hp),rfl⟩
 have w1:F_is_pairs [.tup [.int 0,.tup []],.tup []] = .ok (.bl true):=(is_pairs_eq O0 rfl rfl).trans (congrArg (fun b=>Rs.ok (D.bl b)) (by decide))
 have w2:F_is_marks [.tup [.int 0,.tup []],.tup [.tup [],.tup []]] = .ok (.bl true):=(is_marks_eq O0 rfl (shrs_of rfl)).trans (congrArg (fun b=>Rs.ok (D.bl b)) (by decide))
 have st:startE 10 [.scr ns]=[.sh (.scr ns),.no,.no,.no,.no,.no,.no,.no,.no,.no]:=rfl
 have hk:∃ m:Int,(if (if (12:Int) < (ns.length:Int) then (12:Int) else (ns.length:Int)) > 1 then (if (12:Int) < (ns.length:Int) then (12:Int) else (ns.length:Int)) else 1)=m/\0 <= m/\m <= 12:=⟨_,rfl,by split <;> split <;> omega,by split <;> split <;> omega⟩
 obtain ⟨m,hm,m0,m1⟩:=hk
 have hr:=rng1_ok (j:=m) (by omega) (by omega)
 obtain ⟨ρ',e,t1,t2,t3,t4,t5,t6,t7,t8,t9,rfl⟩:=forL_inv (a:=gnm 1) (u:=lwK) (rngD 0 m) (fun _ ρ=>∃ t1 t2 t3 t4 t5 t6 t7 t8 t9,ρ=[.sh (.scr ns),t1,t2,t3,t4,t5,t6,t7,t8,t9]) [.sh (.scr ns),.no,.no,.no,.no,.no,.no,.no,.no,.no] ⟨_,_,_,_,_,_,_,_,_,rfl⟩ (by
  rintro i d ρ hd ⟨t1,t2,t3,t4,t5,t6,t7,t8,t9,rfl⟩
  obtain ⟨rfl,_⟩:=rngD_get hd
  obtain ⟨u2,u3,u4,u5,u6,u7,u8,u9,e⟩:=lwK_ok (ns:=ns) (k:=0 + (i:Int)) (by omega) (s2:=t2) (s3:=t3) (s4:=t4) (s5:=t5) (s6:=t6) (s7:=t7) (s8:=t8) (s9:=t9)
  exact ⟨_,by rw [gnm_ap,okE_ok]; exact e,_,_,_,_,_,_,_,_,_,rfl⟩)
 have c1:forS (rngA rng1 (consA (opA (mmD fun i j=>if j > i then j else i) (consA (cD (.int 1)) (consA (opA (mmD fun i j=>if j < i then j else i) (consA (opA lenD (consA (varS 0) nilA)) (consA (cD (.int 12)) nilA))) nilA))) nilA)) (gnm 1) lwK [.sh (.scr ns),.no,.no,.no,.no,.no,.no,.no,.no,.no] = .nx [.sh (.scr ns),t1,t2,t3,t4,t5,t6,t7,t8,t9]:=by
  have hi:rngA rng1 (consA (opA (mmD fun i j=>if j > i then j else i) (consA (cD (.int 1)) (consA (opA (mmD fun i j=>if j < i then j else i) (consA (opA lenD (consA (varS 0) nilA)) (consA (cD (.int 12)) nilA))) nilA))) nilA) [.sh (.scr ns),.no,.no,.no,.no,.no,.no,.no,.no,.no] = .ok (rngD 0 m):=by
   rw [<- hr,<- hm]
   rfl
  rw [forS_ap,hi,bo_ok,e]
 simp only [F_law,law_def,runD_ap,st]
 rw [seqS_ap,c1,sq_nx]
 simp [w1,w2]
end VL.My
namespace VL.My
open PySem L2
noncomputable def top (i:Nat):Stmt:=PySem.Challenge.pw_fewways_k54_pairs_and_marks_looked_at.main.body.getD i (.Pass ⟨0,0,0,0⟩)
noncomputable abbrev s_is_whole:Stmt:=top 5
noncomputable abbrev s_is_many:Stmt:=top 6
noncomputable abbrev s_is_place:Stmt:=top 7
noncomputable abbrev s_is_pair:Stmt:=top 8
noncomputable abbrev s_is_rising:Stmt:=top 9
noncomputable abbrev s_are_rising_pairs:Stmt:=top 10
noncomputable abbrev s_are_places:Stmt:=top 11
noncomputable abbrev s_is_one_way:Stmt:=top 13
noncomputable abbrev s_check_one_way:Stmt:=top 14
noncomputable abbrev s_is_pairs:Stmt:=top 16
noncomputable abbrev s_is_marks:Stmt:=top 17
noncomputable abbrev s_law_cell_at:Stmt:=top 19
noncomputable abbrev s_law_draw:Stmt:=top 20
noncomputable abbrev s_law_whole:Stmt:=top 21
noncomputable abbrev s_law_turn:Stmt:=top 22
noncomputable abbrev s_law_one_way:Stmt:=top 23
noncomputable abbrev s_law_odd:Stmt:=top 24
noncomputable abbrev s_law_rising:Stmt:=top 25
noncomputable abbrev s_law_places:Stmt:=top 26
noncomputable abbrev s_law_are_places:Stmt:=top 27
noncomputable abbrev s_law_is_arrow:Stmt:=top 28
noncomputable abbrev s_law_are_pairs:Stmt:=top 29
noncomputable abbrev s_law_are_marks:Stmt:=top 30
noncomputable abbrev s_law_drawn_pairs:Stmt:=top 31
noncomputable abbrev s_law_bent_row:Stmt:=top 32
noncomputable abbrev s_law_other_pairs:Stmt:=top 33
noncomputable abbrev s_law_other_marks:Stmt:=top 34
noncomputable abbrev s_law:Stmt:=top 35
theorem sc_is_whole:FnScope ["thing"] ["thing"] (defScope s_is_whole):=⟨rfl,rfl,rfl,by decide +kernel,rfl,by decide +kernel,by decide +kernel⟩
theorem sc_is_many:FnScope ["thing"] ["thing"] (defScope s_is_many):=⟨rfl,rfl,rfl,by decide +kernel,rfl,by decide +kernel,by decide +kernel⟩
theorem sc_is_place:FnScope ["many","thing"] ["many","thing"] (defScope s_is_place):=⟨rfl,rfl,rfl,by decide +kernel,rfl,by decide +kernel,by decide +kernel⟩
theorem sc_is_pair:FnScope ["many","thing"] ["many","thing"] (defScope s_is_pair):=⟨rfl,rfl,rfl,by decide +kernel,rfl,by decide +kernel,by decide +kernel⟩
theorem sc_is_rising:FnScope ["things","at"] ["things"] (defScope s_is_rising):=⟨rfl,rfl,rfl,by decide +kernel,rfl,by decide +kernel,by decide +kernel⟩
theorem sc_are_rising_pairs:FnScope ["many","thing","pair"] ["many","thing"] (defScope s_are_rising_pairs):=⟨rfl,rfl,rfl,by decide +kernel,rfl,by decide +kernel,by decide +kernel⟩
theorem sc_are_places:FnScope ["many","thing","place"] ["many","thing"] (defScope s_are_places):=⟨rfl,rfl,rfl,by decide +kernel,rfl,by decide +kernel,by decide +kernel⟩
theorem sc_is_one_way:FnScope ["thing"] ["thing"] (defScope s_is_one_way):=⟨rfl,rfl,rfl,by decide +kernel,rfl,by decide +kernel,by decide +kernel⟩
theorem sc_check_one_way:FnScope ["thing"] ["thing"] (defScope s_check_one_way):=⟨rfl,rfl,rfl,by decide +kernel,rfl,by decide +kernel,by decide +kernel⟩
theorem sc_is_pairs:FnScope ["web","thing","known","begins","ends"] ["web","thing"] (defScope s_is_pairs):=⟨rfl,rfl,rfl,by decide +kernel,rfl,by decide +kernel,by decide +kernel⟩
theorem sc_is_marks:FnScope ["web","thing","begins","ends"] ["web","thing"] (defScope s_is_marks):=⟨rfl,rfl,rfl,by decide +kernel,rfl,by decide +kernel,by decide +kernel⟩
theorem sc_law_cell_at:FnScope ["_law_script","_law_k"] ["_law_script","_law_k"] (defScope s_law_cell_at):=⟨rfl,rfl,rfl,by decide +kernel,rfl,by decide +kernel,by decide +kernel⟩
theorem sc_law_draw:FnScope ["_law_cell","_law_k","_law_bound","_law_left","_law_j","_law_stir"] ["_law_cell","_law_k","_law_bound"] (defScope s_law_draw):=⟨rfl,rfl,rfl,by decide +kernel,rfl,by decide +kernel,by decide +kernel⟩
theorem sc_law_whole:FnScope ["_law_found"] ["_law_found"] (defScope s_law_whole):=⟨rfl,rfl,rfl,by decide +kernel,rfl,by decide +kernel,by decide +kernel⟩
theorem sc_law_turn:FnScope ["_law_cell","_law_many","_law_found","_law_place"] ["_law_cell","_law_many"] (defScope s_law_turn):=⟨rfl,rfl,rfl,by decide +kernel,rfl,by decide +kernel,by decide +kernel⟩
theorem sc_law_one_way:FnScope ["_law_cell","_law_most","_law_many","_law_kind","_law_thick","_law_order","_law_arrows","_law_spot","_law_j","_law_i","_law_here"] ["_law_cell","_law_most"] (defScope s_law_one_way):=⟨rfl,rfl,rfl,by decide +kernel,rfl,by decide +kernel,by decide +kernel⟩
theorem sc_law_odd:FnScope ["_law_cell","_law_some"] ["_law_cell"] (defScope s_law_odd):=⟨rfl,rfl,rfl,by decide +kernel,rfl,by decide +kernel,by decide +kernel⟩
theorem sc_law_rising:FnScope ["_law_row"] ["_law_row"] (defScope s_law_rising):=⟨rfl,rfl,rfl,by decide +kernel,rfl,by decide +kernel,by decide +kernel⟩
theorem sc_law_places:FnScope ["_law_cell","_law_spot","_law_many","_law_thick"] ["_law_cell","_law_spot","_law_many"] (defScope s_law_places):=⟨rfl,rfl,rfl,by decide +kernel,rfl,by decide +kernel,by decide +kernel⟩
theorem sc_law_are_places:FnScope ["_law_thing","_law_many"] ["_law_thing","_law_many"] (defScope s_law_are_places):=⟨rfl,rfl,rfl,by decide +kernel,rfl,by decide +kernel,by decide +kernel⟩
theorem sc_law_is_arrow:FnScope ["_law_thing","_law_many"] ["_law_thing","_law_many"] (defScope s_law_is_arrow):=⟨rfl,rfl,rfl,by decide +kernel,rfl,by decide +kernel,by decide +kernel⟩
theorem sc_law_are_pairs:FnScope ["_law_web","_law_thing"] ["_law_web","_law_thing"] (defScope s_law_are_pairs):=⟨rfl,rfl,rfl,by decide +kernel,rfl,by decide +kernel,by decide +kernel⟩
theorem sc_law_are_marks:FnScope ["_law_web","_law_thing"] ["_law_web","_law_thing"] (defScope s_law_are_marks):=⟨rfl,rfl,rfl,by decide +kernel,rfl,by decide +kernel,by decide +kernel⟩
theorem sc_law_drawn_pairs:FnScope ["_law_cell","_law_web","_law_found","_law_k","_law_arrow"] ["_law_cell","_law_web"] (defScope s_law_drawn_pairs):=⟨rfl,rfl,rfl,by decide +kernel,rfl,by decide +kernel,by decide +kernel⟩
theorem sc_law_bent_row:FnScope ["_law_cell","_law_spot","_law_row","_law_many","_law_at","_law_odd_here","_law_some"] ["_law_cell","_law_spot","_law_row","_law_many"] (defScope s_law_bent_row):=⟨rfl,rfl,rfl,by decide +kernel,rfl,by decide +kernel,by decide +kernel⟩
theorem sc_law_other_pairs:FnScope ["_law_cell","_law_pairs","_law_web","_law_at","_law_odd_here","_law_some"] ["_law_cell","_law_pairs","_law_web"] (defScope s_law_other_pairs):=⟨rfl,rfl,rfl,by decide +kernel,rfl,by decide +kernel,by decide +kernel⟩
theorem sc_law_other_marks:FnScope ["_law_cell","_law_marks","_law_many","_law_one","_law_some"] ["_law_cell","_law_marks","_law_many"] (defScope s_law_other_marks):=⟨rfl,rfl,rfl,by decide +kernel,rfl,by decide +kernel,by decide +kernel⟩
theorem sc_law:FnScope ["_law_script","_law_k","_law_cell","_law_web","_law_pairs","_law_every","_law_marks","_law_things","_law_thing","_law_found"] ["_law_script"] (defScope s_law):=⟨rfl,rfl,rfl,by decide +kernel,rfl,by decide +kernel,by decide +kernel⟩
set_option genInjectivity false in
set_option genSizeOf false in
set_option genInjectivity false in
structure Adr where
 f_is_whole:Addr
 d_is_whole:FuncData
 f_is_many:Addr
 d_is_many:FuncData
 f_is_place:Addr
 d_is_place:FuncData
 f_is_pair:Addr
 d_is_pair:FuncData
 f_is_rising:Addr
 d_is_rising:FuncData
 f_are_rising_pairs:Addr
 d_are_rising_pairs:FuncData
 f_are_places:Addr
 d_are_places:FuncData
 f_is_one_way:Addr
 d_is_one_way:FuncData
 f_check_one_way:Addr
 d_check_one_way:FuncData
 f_is_pairs:Addr
 d_is_pairs:FuncData
 f_is_marks:Addr
 d_is_marks:FuncData
 f_law_cell_at:Addr
 d_law_cell_at:FuncData
 f_law_draw:Addr
 d_law_draw:FuncData
 f_law_whole:Addr
 d_law_whole:FuncData
 f_law_turn:Addr
 d_law_turn:FuncData
 f_law_one_way:Addr
 d_law_one_way:FuncData
 f_law_odd:Addr
 d_law_odd:FuncData
 f_law_rising:Addr
 d_law_rising:FuncData
 f_law_places:Addr
 d_law_places:FuncData
 f_law_are_places:Addr
 d_law_are_places:FuncData
 f_law_is_arrow:Addr
 d_law_is_arrow:FuncData
 f_law_are_pairs:Addr
 d_law_are_pairs:FuncData
 f_law_are_marks:Addr
 d_law_are_marks:FuncData
 f_law_drawn_pairs:Addr
 d_law_drawn_pairs:FuncData
 f_law_bent_row:Addr
 d_law_bent_row:FuncData
 f_law_other_pairs:Addr
 d_law_other_pairs:FuncData
 f_law_other_marks:Addr
 d_law_other_marks:FuncData
 f_law:Addr
 d_law:FuncData
 u_MOST_PLACES:Value
 c_FewError:Addr
 c_NoOneWay:Addr
structure Txt (K:PySem.W.Frag) (mg:Str->Option Value) (t:Adr):Prop where
 F_is_whole:L2.Fun K "is_whole" "is_whole" s_is_whole t.f_is_whole t.d_is_whole
 m_is_whole:mg "is_whole" = some (.ref t.f_is_whole)
 b_is_whole:L2.Binds K t.d_is_whole ["thing"] []
 F_is_many:L2.Fun K "is_many" "is_many" s_is_many t.f_is_many t.d_is_many
 m_is_many:mg "is_many" = some (.ref t.f_is_many)
 b_is_many:L2.Binds K t.d_is_many ["thing"] []
 F_is_place:L2.Fun K "is_place" "is_place" s_is_place t.f_is_place t.d_is_place
 m_is_place:mg "is_place" = some (.ref t.f_is_place)
 b_is_place:L2.Binds K t.d_is_place ["many","thing"] []
 F_is_pair:L2.Fun K "is_pair" "is_pair" s_is_pair t.f_is_pair t.d_is_pair
 m_is_pair:mg "is_pair" = some (.ref t.f_is_pair)
 b_is_pair:L2.Binds K t.d_is_pair ["many","thing"] []
 F_is_rising:L2.Fun K "is_rising" "is_rising" s_is_rising t.f_is_rising t.d_is_rising
 m_is_rising:mg "is_rising" = some (.ref t.f_is_rising)
 b_is_rising:L2.Binds K t.d_is_rising ["things"] []
 F_are_rising_pairs:L2.Fun K "are_rising_pairs" "are_rising_pairs" s_are_rising_pairs t.f_are_rising_pairs t.d_are_rising_pairs
 m_are_rising_pairs:mg "are_rising_pairs" = some (.ref t.f_are_rising_pairs)
 b_are_rising_pairs:L2.Binds K t.d_are_rising_pairs ["many","thing"] []
 F_are_places:L2.Fun K "are_places" "are_places" s_are_places t.f_are_places t.d_are_places
 m_are_places:mg "are_places" = some (.ref t.f_are_places)
 b_are_places:L2.Binds K t.d_are_places ["many","thing"] []
 F_is_one_way:L2.Fun K "is_one_way" "is_one_way" s_is_one_way t.f_is_one_way t.d_is_one_way
 m_is_one_way:mg "is_one_way" = some (.ref t.f_is_one_way)
 b_is_one_way:L2.Binds K t.d_is_one_way ["thing"] []
 F_check_one_way:L2.Fun K "check_one_way" "check_one_way" s_check_one_way t.f_check_one_way t.d_check_one_way
 m_check_one_way:mg "check_one_way" = some (.ref t.f_check_one_way)
 b_check_one_way:L2.Binds K t.d_check_one_way ["thing"] []
 F_is_pairs:L2.Fun K "is_pairs" "is_pairs" s_is_pairs t.f_is_pairs t.d_is_pairs
 m_is_pairs:mg "is_pairs" = some (.ref t.f_is_pairs)
 b_is_pairs:L2.Binds K t.d_is_pairs ["web","thing"] []
 F_is_marks:L2.Fun K "is_marks" "is_marks" s_is_marks t.f_is_marks t.d_is_marks
 m_is_marks:mg "is_marks" = some (.ref t.f_is_marks)
 b_is_marks:L2.Binds K t.d_is_marks ["web","thing"] []
 F_law_cell_at:L2.Fun K "_law_cell_at" "_law_cell_at" s_law_cell_at t.f_law_cell_at t.d_law_cell_at
 m_law_cell_at:mg "_law_cell_at" = some (.ref t.f_law_cell_at)
 b_law_cell_at:L2.Binds K t.d_law_cell_at ["_law_script","_law_k"] []
 F_law_draw:L2.Fun K "_law_draw" "_law_draw" s_law_draw t.f_law_draw t.d_law_draw
 m_law_draw:mg "_law_draw" = some (.ref t.f_law_draw)
 b_law_draw:L2.Binds K t.d_law_draw ["_law_cell","_law_k","_law_bound"] []
 F_law_whole:L2.Fun K "_law_whole" "_law_whole" s_law_whole t.f_law_whole t.d_law_whole
 m_law_whole:mg "_law_whole" = some (.ref t.f_law_whole)
 b_law_whole:L2.Binds K t.d_law_whole ["_law_found"] []
 F_law_turn:L2.Fun K "_law_turn" "_law_turn" s_law_turn t.f_law_turn t.d_law_turn
 m_law_turn:mg "_law_turn" = some (.ref t.f_law_turn)
 b_law_turn:L2.Binds K t.d_law_turn ["_law_cell","_law_many"] []
 F_law_one_way:L2.Fun K "_law_one_way" "_law_one_way" s_law_one_way t.f_law_one_way t.d_law_one_way
 m_law_one_way:mg "_law_one_way" = some (.ref t.f_law_one_way)
 b_law_one_way:L2.Binds K t.d_law_one_way ["_law_cell","_law_most"] []
 F_law_odd:L2.Fun K "_law_odd" "_law_odd" s_law_odd t.f_law_odd t.d_law_odd
 m_law_odd:mg "_law_odd" = some (.ref t.f_law_odd)
 b_law_odd:L2.Binds K t.d_law_odd ["_law_cell"] []
 F_law_rising:L2.Fun K "_law_rising" "_law_rising" s_law_rising t.f_law_rising t.d_law_rising
 m_law_rising:mg "_law_rising" = some (.ref t.f_law_rising)
 b_law_rising:L2.Binds K t.d_law_rising ["_law_row"] []
 F_law_places:L2.Fun K "_law_places" "_law_places" s_law_places t.f_law_places t.d_law_places
 m_law_places:mg "_law_places" = some (.ref t.f_law_places)
 b_law_places:L2.Binds K t.d_law_places ["_law_cell","_law_spot","_law_many"] []
 F_law_are_places:L2.Fun K "_law_are_places" "_law_are_places" s_law_are_places t.f_law_are_places t.d_law_are_places
 m_law_are_places:mg "_law_are_places" = some (.ref t.f_law_are_places)
 b_law_are_places:L2.Binds K t.d_law_are_places ["_law_thing","_law_many"] []
 F_law_is_arrow:L2.Fun K "_law_is_arrow" "_law_is_arrow" s_law_is_arrow t.f_law_is_arrow t.d_law_is_arrow
 m_law_is_arrow:mg "_law_is_arrow" = some (.ref t.f_law_is_arrow)
 b_law_is_arrow:L2.Binds K t.d_law_is_arrow ["_law_thing","_law_many"] []
 F_law_are_pairs:L2.Fun K "_law_are_pairs" "_law_are_pairs" s_law_are_pairs t.f_law_are_pairs t.d_law_are_pairs
 m_law_are_pairs:mg "_law_are_pairs" = some (.ref t.f_law_are_pairs)
 b_law_are_pairs:L2.Binds K t.d_law_are_pairs ["_law_web","_law_thing"] []
 F_law_are_marks:L2.Fun K "_law_are_marks" "_law_are_marks" s_law_are_marks t.f_law_are_marks t.d_law_are_marks
 m_law_are_marks:mg "_law_are_marks" = some (.ref t.f_law_are_marks)
 b_law_are_marks:L2.Binds K t.d_law_are_marks ["_law_web","_law_thing"] []
 F_law_drawn_pairs:L2.Fun K "_law_drawn_pairs" "_law_drawn_pairs" s_law_drawn_pairs t.f_law_drawn_pairs t.d_law_drawn_pairs
 m_law_drawn_pairs:mg "_law_drawn_pairs" = some (.ref t.f_law_drawn_pairs)
 b_law_drawn_pairs:L2.Binds K t.d_law_drawn_pairs ["_law_cell","_law_web"] []
 F_law_bent_row:L2.Fun K "_law_bent_row" "_law_bent_row" s_law_bent_row t.f_law_bent_row t.d_law_bent_row
 m_law_bent_row:mg "_law_bent_row" = some (.ref t.f_law_bent_row)
 b_law_bent_row:L2.Binds K t.d_law_bent_row ["_law_cell","_law_spot","_law_row","_law_many"] []
 F_law_other_pairs:L2.Fun K "_law_other_pairs" "_law_other_pairs" s_law_other_pairs t.f_law_other_pairs t.d_law_other_pairs
 m_law_other_pairs:mg "_law_other_pairs" = some (.ref t.f_law_other_pairs)
 b_law_other_pairs:L2.Binds K t.d_law_other_pairs ["_law_cell","_law_pairs","_law_web"] []
 F_law_other_marks:L2.Fun K "_law_other_marks" "_law_other_marks" s_law_other_marks t.f_law_other_marks t.d_law_other_marks
 m_law_other_marks:mg "_law_other_marks" = some (.ref t.f_law_other_marks)
 b_law_other_marks:L2.Binds K t.d_law_other_marks ["_law_cell","_law_marks","_law_many"] []
 F_law:L2.Fun K "law" "law" s_law t.f_law t.d_law
 m_law:mg "law" = some (.ref t.f_law)
 b_law:L2.Binds K t.d_law ["_law_script"] []
 g_MOST_PLACES:mg "MOST_PLACES" = some t.u_MOST_PLACES
 r_MOST_PLACES:RelV (.int 60) t.u_MOST_PLACES
 m_FewError:mg "FewError" = some (.ref t.c_FewError)
 l_FewError:clOf mg "FewError" = t.c_FewError
 x_FewError:ExcC K t.c_FewError
 m_NoOneWay:mg "NoOneWay" = some (.ref t.c_NoOneWay)
 l_NoOneWay:clOf mg "NoOneWay" = t.c_NoOneWay
 x_NoOneWay:ExcC K t.c_NoOneWay
 n_all:mg "all" = none
 n_bool:mg "bool" = none
 n_enumerate:mg "enumerate" = none
 n_int:mg "int" = none
 n_isinstance:mg "isinstance" = none
 n_len:mg "len" = none
 n_list:mg "list" = none
 n_max:mg "max" = none
 n_min:mg "min" = none
 n_range:mg "range" = none
 n_set:mg "set" = none
 n_sorted:mg "sorted" = none
 n_tuple:mg "tuple" = none
theorem boot_all':bootBuiltins "all" = some (.builtin "all"):=by decide +kernel
theorem boot_bool':bootBuiltins "bool" = some (.type "bool"):=by decide +kernel
theorem boot_enumerate':bootBuiltins "enumerate" = some (.type "enumerate"):=by decide +kernel
theorem boot_int':bootBuiltins "int" = some (.type "int"):=by decide +kernel
theorem boot_isinstance':bootBuiltins "isinstance" = some (.builtin "isinstance"):=by decide +kernel
theorem boot_list':bootBuiltins "list" = some (.type "list"):=by decide +kernel
theorem boot_max':bootBuiltins "max" = some (.builtin "max"):=by decide +kernel
theorem boot_min':bootBuiltins "min" = some (.builtin "min"):=by decide +kernel
theorem boot_set':bootBuiltins "set" = some (.type "set"):=by decide +kernel
theorem boot_sorted':bootBuiltins "sorted" = some (.builtin "sorted"):=by decide +kernel
theorem boot_tuple':bootBuiltins "tuple" = some (.type "tuple"):=by decide +kernel
section
variable {P:Program} {w:World} {K:PySem.W.Frag} {mg:Str->Option Value} {base:Heap} {t:Adr}
theorem b_is_whole (T:Txt K mg t) (cdv A outer s H E hr):SSs (ctD P w K mg base ["thing"] "is_whole" (defScope s_is_whole) t.f_is_whole cdv A outer s H E 0 hr) (defBody s_is_whole) d_is_whole :=
  (sss_one (ss_ret (se_and (se_isi (se_varS 0) (fun _=>rfl) T.n_isinstance boot_isinstance' (fun _=>rfl) T.n_int boot_int') (se_one (se_not (se_isi (se_varS 0) (fun _=>rfl) T.n_isinstance boot_isinstance' (fun _=>rfl) T.n_bool boot_bool'))))))
theorem ok_is_whole (T:Txt K mg t):FnOk P w K mg base (CX1 P w) 1 t.f_is_whole t.d_is_whole ["thing"] (spF K (clOf mg) 1 F_is_whole) :=
 fn_simE (N:=["thing"]) (ps:=["thing"]) (k:=0) (f:=d_is_whole) T.F_is_whole sc_is_whole (fun cdv A outer s H E hr=>b_is_whole T cdv A outer s H E hr) rfl rfl
theorem b_is_rising (T:Txt K mg t) (cdv A outer s H E hr):SSs (ctD P w K mg base ["things","at"] "is_rising" (defScope s_is_rising) t.f_is_rising cdv A outer s H E 0 hr) (defBody s_is_rising) d_is_rising :=
  (sss_cons (ss_for (si_rng2 (sa_cons se_int (sa_cons (se_len (fun _=>rfl) T.n_len (sa_cons (se_varS 0) sa_nil)) sa_nil)) (fun _=>rfl) T.n_range) (sg_name (i:=1) (ks:=[1]) (fun _=>sc_is_rising.nd) (by decide))
   (sss_one (ss_if (st_not (st_lt (se_sub_ix (se_varS 0) (se_sub (se_varS 1) se_int)) (se_sub_ix (se_varS 0) (se_varS 1))))
    (sss_one (ss_ret se_bl))
    sss_nil)))
  (sss_one (ss_ret se_bl)))
theorem ok_is_rising (T:Txt K mg t):FnOk P w K mg base (CX1 P w) 1 t.f_is_rising t.d_is_rising ["things"] (spF K (clOf mg) 1 F_is_rising) :=
 fn_simE (N:=["things","at"]) (ps:=["things"]) (k:=0) (f:=d_is_rising) T.F_is_rising sc_is_rising (fun cdv A outer s H E hr=>b_is_rising T cdv A outer s H E hr) rfl rfl
theorem b_law_cell_at (T:Txt K mg t) (cdv A outer s H E hr):SSs (ctD P w K mg base ["_law_script","_law_k"] "_law_cell_at" (defScope s_law_cell_at) t.f_law_cell_at cdv A outer s H E 0 hr) (defBody s_law_cell_at) d_law_cell_at :=
  (sss_cons (ss_if (st_lt (se_varS 1) (se_len (fun _=>rfl) T.n_len (sa_cons (se_varS 0) sa_nil)))
   (sss_one (ss_ret (se_imm (se_sub_ix (se_varS 0) (se_varS 1)))))
   sss_nil)
  (sss_one (ss_ret se_int)))
theorem ok_law_cell_at (T:Txt K mg t):FnOk P w K mg base (CX1 P w) 1 t.f_law_cell_at t.d_law_cell_at ["_law_script","_law_k"] (spF K (clOf mg) 2 F_law_cell_at) :=
 fn_simE (N:=["_law_script","_law_k"]) (ps:=["_law_script","_law_k"]) (k:=0) (f:=d_law_cell_at) T.F_law_cell_at sc_law_cell_at (fun cdv A outer s H E hr=>b_law_cell_at T cdv A outer s H E hr) rfl rfl
theorem b_law_draw (T:Txt K mg t) (cdv A outer s H E hr):SSs (ctD P w K mg base ["_law_cell","_law_k","_law_bound","_law_left","_law_j","_law_stir"] "_law_draw" (defScope s_law_draw) t.f_law_draw cdv A outer s H E 0 hr) (defBody s_law_draw) d_law_draw :=
  (sss_cons (ss_if (st_ge (se_varS 0) (se_pow se_int se_int))
   (sss_cons (ss_setS (i:=3) (sv_e (i:=3) (fun _=>sc_law_draw.nd) (se_varS 0)))
   (sss_cons (ss_for (si_rng1 (sa_cons (se_varS 1) sa_nil) (fun _=>rfl) T.n_range) (sg_name (i:=4) (ks:=[4]) (fun _=>sc_law_draw.nd) (by decide))
    (sss_one (ss_setS (i:=3) (sv_e (i:=3) (fun _=>sc_law_draw.nd) (se_fdiv (se_varS 3) (se_varS 2))))))
   (sss_one (ss_ret (se_mod (se_varS 3) (se_varS 2))))))
   sss_nil)
  (sss_cons (ss_setS (i:=5) (sv_e (i:=5) (fun _=>sc_law_draw.nd) (se_mod (se_mul (se_add (se_add (se_mod (se_varS 0) se_int) (se_mul se_int (se_varS 1))) se_int) se_int) se_int)))
  (sss_cons (ss_setS (i:=5) (sv_e (i:=5) (fun _=>sc_law_draw.nd) (se_mod (se_add (se_add (se_mul (se_varS 5) (se_varS 5)) (se_mul se_int (se_varS 1))) se_int) se_int)))
  (sss_one (ss_ret (se_mod (se_fdiv (se_mod (se_mul (se_varS 5) se_int) se_int) se_int) (se_varS 2)))))))
theorem ok_law_draw (T:Txt K mg t):FnOk P w K mg base (CX1 P w) 1 t.f_law_draw t.d_law_draw ["_law_cell","_law_k","_law_bound"] (spF K (clOf mg) 3 F_law_draw) :=
 fn_simE (N:=["_law_cell","_law_k","_law_bound","_law_left","_law_j","_law_stir"]) (ps:=["_law_cell","_law_k","_law_bound"]) (k:=0) (f:=d_law_draw) T.F_law_draw sc_law_draw (fun cdv A outer s H E hr=>b_law_draw T cdv A outer s H E hr) rfl rfl
theorem b_law_whole (T:Txt K mg t) (cdv A outer s H E hr):SSs (ctD P w K mg base ["_law_found"] "_law_whole" (defScope s_law_whole) t.f_law_whole cdv A outer s H E 0 hr) (defBody s_law_whole) d_law_whole :=
  (sss_one (ss_ret (se_and (se_isi (se_varS 0) (fun _=>rfl) T.n_isinstance boot_isinstance' (fun _=>rfl) T.n_int boot_int') (se_one (se_not (se_isi (se_varS 0) (fun _=>rfl) T.n_isinstance boot_isinstance' (fun _=>rfl) T.n_bool boot_bool'))))))
theorem ok_law_whole (T:Txt K mg t):FnOk P w K mg base (CX1 P w) 1 t.f_law_whole t.d_law_whole ["_law_found"] (spF K (clOf mg) 1 F_law_whole) :=
 fn_simE (N:=["_law_found"]) (ps:=["_law_found"]) (k:=0) (f:=d_law_whole) T.F_law_whole sc_law_whole (fun cdv A outer s H E hr=>b_law_whole T cdv A outer s H E hr) rfl rfl
theorem b_law_rising (T:Txt K mg t) (cdv A outer s H E hr):SSs (ctD P w K mg base ["_law_row"] "_law_rising" (defScope s_law_rising) t.f_law_rising cdv A outer s H E 0 hr) (defBody s_law_rising) d_law_rising :=
  (sss_one (ss_ret (se_all (fun _=>rfl) T.n_all boot_all' (sa_cons (se_lc (N:=["_law_k","_law_row"]) (js:=[none,some 0]) (ks:=[0]) (fun _=>blk_mk rfl rfl rfl rfl rfl rfl) (si_rng2 (sa_cons se_int (sa_cons (se_len (fun _=>rfl) T.n_len (sa_cons (se_varS 0) sa_nil)) sa_nil)) (fun _=>rfl) T.n_range) (sg_name (i:=0) (ks:=[0]) (fun _=>(by decide +kernel:List.Nodup (["_law_k","_law_row"]:List Str))) (by decide)) sf_nil (se_lt (se_sub_ix (se_varS 1) (se_sub (se_varS 0) se_int)) (se_sub_ix (se_varS 1) (se_varS 0)))) sa_nil))))
theorem ok_law_rising (T:Txt K mg t):FnOk P w K mg base (CX1 P w) 1 t.f_law_rising t.d_law_rising ["_law_row"] (spF K (clOf mg) 1 F_law_rising) :=
 fn_simE (N:=["_law_row"]) (ps:=["_law_row"]) (k:=0) (f:=d_law_rising) T.F_law_rising sc_law_rising (fun cdv A outer s H E hr=>b_law_rising T cdv A outer s H E hr) rfl rfl
theorem b_is_many (T:Txt K mg t) (cdv A outer s H E hr):SSs (ctD P w K mg base ["thing"] "is_many" (defScope s_is_many) t.f_is_many cdv A outer s H E 1 hr) (defBody s_is_many) d_is_many :=
  (sss_one (ss_ret (se_and (se_call (ok_is_whole T) (Nat.le_of_ble_eq_true rfl) (fun _=>rfl) T.m_is_whole T.F_is_whole.kp T.b_is_whole (sa_cons (se_varS 0) sa_nil) (len_cons (fun _ _ h=>len_nil h))) (se_one (se_lele se_int (se_varS 0) (se_glob (fun _=>rfl) T.g_MOST_PLACES T.r_MOST_PLACES (fun _ _=>.int _)))))))
theorem ok_is_many (T:Txt K mg t):FnOk P w K mg base (CX1 P w) 2 t.f_is_many t.d_is_many ["thing"] (spF K (clOf mg) 1 F_is_many) :=
 fn_simE (N:=["thing"]) (ps:=["thing"]) (k:=1) (f:=d_is_many) T.F_is_many sc_is_many (fun cdv A outer s H E hr=>b_is_many T cdv A outer s H E hr) rfl rfl
theorem b_is_place (T:Txt K mg t) (cdv A outer s H E hr):SSs (ctD P w K mg base ["many","thing"] "is_place" (defScope s_is_place) t.f_is_place cdv A outer s H E 1 hr) (defBody s_is_place) d_is_place :=
  (sss_one (ss_ret (se_and (se_call (ok_is_whole T) (Nat.le_of_ble_eq_true rfl) (fun _=>rfl) T.m_is_whole T.F_is_whole.kp T.b_is_whole (sa_cons (se_varS 1) sa_nil) (len_cons (fun _ _ h=>len_nil h))) (se_one (se_lelt se_int (se_varS 1) (se_varS 0))))))
theorem ok_is_place (T:Txt K mg t):FnOk P w K mg base (CX1 P w) 2 t.f_is_place t.d_is_place ["many","thing"] (spF K (clOf mg) 2 F_is_place) :=
 fn_simE (N:=["many","thing"]) (ps:=["many","thing"]) (k:=1) (f:=d_is_place) T.F_is_place sc_is_place (fun cdv A outer s H E hr=>b_is_place T cdv A outer s H E hr) rfl rfl
theorem b_law_turn (T:Txt K mg t) (cdv A outer s H E hr):SSs (ctD P w K mg base ["_law_cell","_law_many","_law_found","_law_place"] "_law_turn" (defScope s_law_turn) t.f_law_turn cdv A outer s H E 1 hr) (defBody s_law_turn) d_law_turn :=
  (sss_cons (ss_setO (i:=2) (svf_e (i:=2) (fun _=>sc_law_turn.nd) (sf_lst sa_nil)))
  (sss_cons (ss_for (si_rng1 (sa_cons (se_varS 1) sa_nil) (fun _=>rfl) T.n_range) (sg_name (i:=3) (ks:=[3]) (fun _=>sc_law_turn.nd) (by decide))
   (sss_one (ss_insert 2 (se_call (ok_law_draw T) (Nat.le_of_ble_eq_true rfl) (fun _=>rfl) T.m_law_draw T.F_law_draw.kp T.b_law_draw (sa_cons (se_varS 0) (sa_cons (se_add se_int (se_varS 3)) (sa_cons (se_add (se_varS 3) se_int) sa_nil))) (len_cons (len_cons (len_cons (fun _ _ h=>len_nil h))))) (se_imm (se_varS 3)))))
  (sss_one (ss_ret (se_varO 2)))))
theorem ok_law_turn (T:Txt K mg t):FnOk P w K mg base (CX1 P w) 2 t.f_law_turn t.d_law_turn ["_law_cell","_law_many"] (spF K (clOf mg) 2 F_law_turn) :=
 fn_simE (N:=["_law_cell","_law_many","_law_found","_law_place"]) (ps:=["_law_cell","_law_many"]) (k:=1) (f:=d_law_turn) T.F_law_turn sc_law_turn (fun cdv A outer s H E hr=>b_law_turn T cdv A outer s H E hr) rfl rfl
theorem b_law_odd (T:Txt K mg t) (cdv A outer s H E hr):SSs (ctD P w K mg base ["_law_cell","_law_some"] "_law_odd" (defScope s_law_odd) t.f_law_odd cdv A outer s H E 1 hr) (defBody s_law_odd) d_law_odd :=
  (sss_cons (ss_setN (i:=1) (sv_e (i:=1) (fun _=>sc_law_odd.nd) (se_lst (sa_cons se_non (sa_cons se_bl (sa_cons se_int (sa_cons (se_neg se_int) (sa_cons se_str (sa_cons se_str (sa_cons (se_tup sa_nil) (sa_cons (se_lst sa_nil) (sa_cons se_dct0 (sa_cons (se_tup (sa_cons (se_tup sa_nil) sa_nil)) (sa_cons (se_tup (sa_cons se_int sa_nil)) (sa_cons (se_tup (sa_cons (se_tup (sa_cons se_int (sa_cons se_int sa_nil))) sa_nil)) (sa_cons (se_lst (sa_cons se_int (sa_cons se_int sa_nil))) (sa_cons (se_tup (sa_cons se_non sa_nil)) (sa_cons (se_tup (sa_cons se_str (sa_cons se_str sa_nil))) (sa_cons (se_pow se_int se_int) sa_nil)))))))))))))))))))
  (sss_one (ss_ret (se_sub_ix (se_varN 1) (se_call (ok_law_draw T) (Nat.le_of_ble_eq_true rfl) (fun _=>rfl) T.m_law_draw T.F_law_draw.kp T.b_law_draw (sa_cons (se_varS 0) (sa_cons se_int (sa_cons se_int sa_nil))) (len_cons (len_cons (len_cons (fun _ _ h=>len_nil h)))))))))
theorem ok_law_odd (T:Txt K mg t):FnOk P w K mg base (CX1 P w) 2 t.f_law_odd t.d_law_odd ["_law_cell"] (spF K (clOf mg) 1 F_law_odd) :=
 fn_simE (N:=["_law_cell","_law_some"]) (ps:=["_law_cell"]) (k:=1) (f:=d_law_odd) T.F_law_odd sc_law_odd (fun cdv A outer s H E hr=>b_law_odd T cdv A outer s H E hr) rfl rfl
theorem b_law_places (T:Txt K mg t) (cdv A outer s H E hr):SSs (ctD P w K mg base ["_law_cell","_law_spot","_law_many","_law_thick"] "_law_places" (defScope s_law_places) t.f_law_places cdv A outer s H E 1 hr) (defBody s_law_places) d_law_places :=
  (sss_cons (ss_setS (i:=3) (sv_e (i:=3) (fun _=>sc_law_places.nd) (se_add se_int (se_call (ok_law_draw T) (Nat.le_of_ble_eq_true rfl) (fun _=>rfl) T.m_law_draw T.F_law_draw.kp T.b_law_draw (sa_cons (se_varS 0) (sa_cons (se_varS 1) (sa_cons se_int sa_nil))) (len_cons (len_cons (len_cons (fun _ _ h=>len_nil h))))))))
  (sss_one (ss_ret (se_tuple (fun _=>rfl) T.n_tuple boot_tuple' (sa_cons (se_lc (N:=["_law_place","_law_cell","_law_spot","_law_thick"]) (js:=[none,some 0,some 1,some 3]) (ks:=[0]) (fun _=>blk_mk rfl rfl rfl rfl rfl rfl) (si_rng1 (sa_cons (se_varS 2) sa_nil) (fun _=>rfl) T.n_range) (sg_name (i:=0) (ks:=[0]) (fun _=>(by decide +kernel:List.Nodup (["_law_place","_law_cell","_law_spot","_law_thick"]:List Str))) (by decide)) (sf_one (st_lt (se_call (ok_law_draw T) (Nat.le_of_ble_eq_true rfl) (fun _=>rfl) T.m_law_draw T.F_law_draw.kp T.b_law_draw (sa_cons (se_varS 1) (sa_cons (se_add (se_add (se_varS 2) se_int) (se_varS 0)) (sa_cons se_int sa_nil))) (len_cons (len_cons (len_cons (fun _ _ h=>len_nil h))))) (se_varS 3))) (se_imm (se_varS 0))) sa_nil)))))
theorem ok_law_places (T:Txt K mg t):FnOk P w K mg base (CX1 P w) 2 t.f_law_places t.d_law_places ["_law_cell","_law_spot","_law_many"] (spF K (clOf mg) 3 F_law_places) :=
 fn_simE (N:=["_law_cell","_law_spot","_law_many","_law_thick"]) (ps:=["_law_cell","_law_spot","_law_many"]) (k:=1) (f:=d_law_places) T.F_law_places sc_law_places (fun cdv A outer s H E hr=>b_law_places T cdv A outer s H E hr) rfl rfl
theorem b_law_are_places (T:Txt K mg t) (cdv A outer s H E hr):SSs (ctD P w K mg base ["_law_thing","_law_many"] "_law_are_places" (defScope s_law_are_places) t.f_law_are_places cdv A outer s H E 1 hr) (defBody s_law_are_places) d_law_are_places :=
  (sss_cons (ss_if (SW.st (sw_or (st_not (st_val (se_isi (se_varS 0) (fun _=>rfl) T.n_isinstance boot_isinstance' (fun _=>rfl) T.n_tuple boot_tuple'))) (sw_or1 (st_not (st_val (se_all (fun _=>rfl) T.n_all boot_all' (sa_cons (se_lc (N:=["_law_one","_law_many"]) (js:=[none,some 1]) (ks:=[0]) (fun _=>blk_mk rfl rfl rfl rfl rfl rfl) (si_seq (se_varS 0)) (sg_name (i:=0) (ks:=[0]) (fun _=>(by decide +kernel:List.Nodup (["_law_one","_law_many"]:List Str))) (by decide)) sf_nil (se_and (se_call (ok_law_whole T) (Nat.le_of_ble_eq_true rfl) (fun _=>rfl) T.m_law_whole T.F_law_whole.kp T.b_law_whole (sa_cons (se_varS 0) sa_nil) (len_cons (fun _ _ h=>len_nil h))) (se_one (se_lelt se_int (se_varS 0) (se_varS 1))))) sa_nil)))))))
   (sss_one (ss_ret se_bl))
   sss_nil)
  (sss_one (ss_ret (se_call (ok_law_rising T) (Nat.le_of_ble_eq_true rfl) (fun _=>rfl) T.m_law_rising T.F_law_rising.kp T.b_law_rising (sa_cons (se_varS 0) sa_nil) (len_cons (fun _ _ h=>len_nil h))))))
theorem ok_law_are_places (T:Txt K mg t):FnOk P w K mg base (CX1 P w) 2 t.f_law_are_places t.d_law_are_places ["_law_thing","_law_many"] (spF K (clOf mg) 2 F_law_are_places) :=
 fn_simE (N:=["_law_thing","_law_many"]) (ps:=["_law_thing","_law_many"]) (k:=1) (f:=d_law_are_places) T.F_law_are_places sc_law_are_places (fun cdv A outer s H E hr=>b_law_are_places T cdv A outer s H E hr) rfl rfl
theorem b_law_is_arrow (T:Txt K mg t) (cdv A outer s H E hr):SSs (ctD P w K mg base ["_law_thing","_law_many"] "_law_is_arrow" (defScope s_law_is_arrow) t.f_law_is_arrow cdv A outer s H E 1 hr) (defBody s_law_is_arrow) d_law_is_arrow :=
  (sss_cons (ss_if (SW.st (sw_or (st_not (st_val (se_isi (se_varS 0) (fun _=>rfl) T.n_isinstance boot_isinstance' (fun _=>rfl) T.n_tuple boot_tuple'))) (sw_or1 (st_ne (se_len (fun _=>rfl) T.n_len (sa_cons (se_varS 0) sa_nil)) se_int))))
   (sss_one (ss_ret se_bl))
   sss_nil)
  (sss_one (ss_ret (se_and (se_all (fun _=>rfl) T.n_all boot_all' (sa_cons (se_lc (N:=["_law_one","_law_many"]) (js:=[none,some 1]) (ks:=[0]) (fun _=>blk_mk rfl rfl rfl rfl rfl rfl) (si_seq (se_varS 0)) (sg_name (i:=0) (ks:=[0]) (fun _=>(by decide +kernel:List.Nodup (["_law_one","_law_many"]:List Str))) (by decide)) sf_nil (se_and (se_call (ok_law_whole T) (Nat.le_of_ble_eq_true rfl) (fun _=>rfl) T.m_law_whole T.F_law_whole.kp T.b_law_whole (sa_cons (se_varS 0) sa_nil) (len_cons (fun _ _ h=>len_nil h))) (se_one (se_lelt se_int (se_varS 0) (se_varS 1))))) sa_nil)) (se_one (se_ne (se_sub_ix (se_varS 0) se_int) (se_sub_ix (se_varS 0) se_int)))))))
theorem ok_law_is_arrow (T:Txt K mg t):FnOk P w K mg base (CX1 P w) 2 t.f_law_is_arrow t.d_law_is_arrow ["_law_thing","_law_many"] (spF K (clOf mg) 2 F_law_is_arrow) :=
 fn_simE (N:=["_law_thing","_law_many"]) (ps:=["_law_thing","_law_many"]) (k:=1) (f:=d_law_is_arrow) T.F_law_is_arrow sc_law_is_arrow (fun cdv A outer s H E hr=>b_law_is_arrow T cdv A outer s H E hr) rfl rfl
theorem b_law_drawn_pairs (T:Txt K mg t) (cdv A outer s H E hr):SSs (ctD P w K mg base ["_law_cell","_law_web","_law_found","_law_k","_law_arrow"] "_law_drawn_pairs" (defScope s_law_drawn_pairs) t.f_law_drawn_pairs cdv A outer s H E 1 hr) (defBody s_law_drawn_pairs) d_law_drawn_pairs :=
  (sss_cons (ss_setO (i:=2) (svf_e (i:=2) (fun _=>sc_law_drawn_pairs.nd) (sf_lst sa_nil)))
  (sss_cons (ss_for (si_enum (sa_cons (se_sub_ix (se_varS 1) se_int) sa_nil) (fun _=>rfl) T.n_enumerate boot_enumerate') (sg_tup (n:=2) (sgs_cons (sg_name (i:=3) (ks:=[3,4]) (fun _=>sc_law_drawn_pairs.nd) (by decide)) (sgs_cons (sg_name (i:=4) (ks:=[3,4]) (fun _=>sc_law_drawn_pairs.nd) (by decide)) sgs_nil)))
   (sss_one (ss_if (st_gt (se_call (ok_law_draw T) (Nat.le_of_ble_eq_true rfl) (fun _=>rfl) T.m_law_draw T.F_law_draw.kp T.b_law_draw (sa_cons (se_varS 0) (sa_cons (se_add se_int (se_mod (se_varS 3) se_int)) (sa_cons se_int sa_nil))) (len_cons (len_cons (len_cons (fun _ _ h=>len_nil h))))) se_int)
    (sss_one (ss_if (st_eq (se_lc (N:=["_law_one","_law_arrow"]) (js:=[none,some 4]) (ks:=[0]) (fun _=>blk_mk rfl rfl rfl rfl rfl rfl) (si_seq (se_varS 2)) (sg_name (i:=0) (ks:=[0]) (fun _=>(by decide +kernel:List.Nodup (["_law_one","_law_arrow"]:List Str))) (by decide)) (sf_one (SW.st (sw_or (st_eq (se_sub_ix (se_varS 0) se_int) (se_sub_ix (se_varS 1) se_int)) (sw_or1 (st_eq (se_sub_ix (se_varS 0) se_int) (se_sub_ix (se_varS 1) se_int)))))) (se_imm (se_varS 0))) (se_lst sa_nil))
     (sss_one (ss_append 2 (se_imm (se_varS 4))))
     sss_nil))
    sss_nil)))
  (sss_one (ss_ret (se_tuple (fun _=>rfl) T.n_tuple boot_tuple' (sa_cons (se_varO 2) sa_nil))))))
theorem ok_law_drawn_pairs (T:Txt K mg t):FnOk P w K mg base (CX1 P w) 2 t.f_law_drawn_pairs t.d_law_drawn_pairs ["_law_cell","_law_web"] (spF K (clOf mg) 2 F_law_drawn_pairs) :=
 fn_simE (N:=["_law_cell","_law_web","_law_found","_law_k","_law_arrow"]) (ps:=["_law_cell","_law_web"]) (k:=1) (f:=d_law_drawn_pairs) T.F_law_drawn_pairs sc_law_drawn_pairs (fun cdv A outer s H E hr=>b_law_drawn_pairs T cdv A outer s H E hr) rfl rfl
theorem b_law_bent_row (T:Txt K mg t) (cdv A outer s H E hr):SSs (ctD P w K mg base ["_law_cell","_law_spot","_law_row","_law_many","_law_at","_law_odd_here","_law_some"] "_law_bent_row" (defScope s_law_bent_row) t.f_law_bent_row cdv A outer s H E 1 hr) (defBody s_law_bent_row) d_law_bent_row :=
  (sss_cons (ss_setS (i:=4) (sv_e (i:=4) (fun _=>sc_law_bent_row.nd) (se_call (ok_law_draw T) (Nat.le_of_ble_eq_true rfl) (fun _=>rfl) T.m_law_draw T.F_law_draw.kp T.b_law_draw (sa_cons (se_varS 0) (sa_cons (se_varS 1) (sa_cons (se_add (se_len (fun _=>rfl) T.n_len (sa_cons (se_varS 2) sa_nil)) se_int) sa_nil))) (len_cons (len_cons (len_cons (fun _ _ h=>len_nil h)))))))
  (sss_cons (ss_setN (i:=5) (sv_e (i:=5) (fun _=>sc_law_bent_row.nd) (se_sub_ix (se_lst (sa_cons se_int (sa_cons (se_imm (se_varS 3)) (sa_cons (se_neg se_int) (sa_cons se_bl (sa_cons se_non (sa_cons se_str (sa_cons (se_lst (sa_cons se_int sa_nil)) (sa_cons (se_sub (se_varS 3) se_int) (sa_cons se_int sa_nil)))))))))) (se_call (ok_law_draw T) (Nat.le_of_ble_eq_true rfl) (fun _=>rfl) T.m_law_draw T.F_law_draw.kp T.b_law_draw (sa_cons (se_varS 0) (sa_cons (se_add (se_varS 1) se_int) (sa_cons se_int sa_nil))) (len_cons (len_cons (len_cons (fun _ _ h=>len_nil h))))))))
  (sss_cons (ss_setN (i:=6) (sv_e (i:=6) (fun _=>sc_law_bent_row.nd) (se_lst (sa_cons (se_add (se_add (se_imm (se_slice (se_varS 2) so_none (so_some (se_varS 4)))) (se_tup (sa_cons (se_varN 5) sa_nil))) (se_imm (se_slice (se_varS 2) (so_some (se_add (se_varS 4) se_int)) so_none))) (sa_cons (se_add (se_imm (se_slice (se_varS 2) so_none (so_some (se_varS 4)))) (se_imm (se_slice (se_varS 2) (so_some (se_add (se_varS 4) se_int)) so_none))) (sa_cons (se_add (se_add (se_imm (se_slice (se_varS 2) so_none (so_some (se_varS 4)))) (se_tup (sa_cons (se_varN 5) sa_nil))) (se_imm (se_slice (se_varS 2) (so_some (se_varS 4)) so_none))) (sa_cons (se_imm (se_rev (se_varS 2))) sa_nil)))))))
  (sss_cons (ss_setN (i:=6) (sv_e (i:=6) (fun _=>sc_law_bent_row.nd) (se_add (se_varN 6) (se_lst (sa_cons (se_list (fun _=>rfl) T.n_list boot_list' (sa_cons (se_imm (se_varS 2)) sa_nil)) (sa_cons (se_add (se_imm (se_varS 2)) (se_imm (se_slice (se_varS 2) so_none (so_some se_int)))) (sa_cons (se_add (se_imm (se_slice (se_varS 2) (so_some se_int) so_none)) (se_imm (se_slice (se_varS 2) so_none (so_some se_int)))) (sa_cons (se_tup sa_nil) (sa_cons se_non (sa_cons (se_tup (sa_cons (se_imm (se_varS 2)) sa_nil)) sa_nil))))))))))
  (sss_one (ss_ret (se_sub_ix (se_varN 6) (se_call (ok_law_draw T) (Nat.le_of_ble_eq_true rfl) (fun _=>rfl) T.m_law_draw T.F_law_draw.kp T.b_law_draw (sa_cons (se_varS 0) (sa_cons (se_add (se_varS 1) se_int) (sa_cons se_int sa_nil))) (len_cons (len_cons (len_cons (fun _ _ h=>len_nil h))))))))))))
theorem ok_law_bent_row (T:Txt K mg t):FnOk P w K mg base (CX1 P w) 2 t.f_law_bent_row t.d_law_bent_row ["_law_cell","_law_spot","_law_row","_law_many"] (spF K (clOf mg) 4 F_law_bent_row) :=
 fn_simE (N:=["_law_cell","_law_spot","_law_row","_law_many","_law_at","_law_odd_here","_law_some"]) (ps:=["_law_cell","_law_spot","_law_row","_law_many"]) (k:=1) (f:=d_law_bent_row) T.F_law_bent_row sc_law_bent_row (fun cdv A outer s H E hr=>b_law_bent_row T cdv A outer s H E hr) rfl rfl
theorem b_law_other_pairs (T:Txt K mg t) (cdv A outer s H E hr):SSs (ctD P w K mg base ["_law_cell","_law_pairs","_law_web","_law_at","_law_odd_here","_law_some"] "_law_other_pairs" (defScope s_law_other_pairs) t.f_law_other_pairs cdv A outer s H E 1 hr) (defBody s_law_other_pairs) d_law_other_pairs :=
  (sss_cons (ss_setS (i:=3) (sv_e (i:=3) (fun _=>sc_law_other_pairs.nd) (se_call (ok_law_draw T) (Nat.le_of_ble_eq_true rfl) (fun _=>rfl) T.m_law_draw T.F_law_draw.kp T.b_law_draw (sa_cons (se_varS 0) (sa_cons se_int (sa_cons (se_add (se_len (fun _=>rfl) T.n_len (sa_cons (se_varS 1) sa_nil)) se_int) sa_nil))) (len_cons (len_cons (len_cons (fun _ _ h=>len_nil h)))))))
  (sss_cons (ss_setN (i:=4) (sv_e (i:=4) (fun _=>sc_law_other_pairs.nd) (se_sub_ix (se_lst (sa_cons (se_tup (sa_cons se_int (sa_cons se_int sa_nil))) (sa_cons (se_tup (sa_cons se_int (sa_cons se_int sa_nil))) (sa_cons (se_tup (sa_cons se_int (sa_cons se_int sa_nil))) (sa_cons (se_tup (sa_cons se_int (sa_cons se_int sa_nil))) (sa_cons se_non (sa_cons (se_lst (sa_cons se_int (sa_cons se_int sa_nil))) (sa_cons (se_tup (sa_cons se_int (sa_cons se_int (sa_cons se_int sa_nil)))) (sa_cons (se_tup (sa_cons se_bl (sa_cons se_int sa_nil))) sa_nil))))))))) (se_call (ok_law_draw T) (Nat.le_of_ble_eq_true rfl) (fun _=>rfl) T.m_law_draw T.F_law_draw.kp T.b_law_draw (sa_cons (se_varS 0) (sa_cons se_int (sa_cons se_int sa_nil))) (len_cons (len_cons (len_cons (fun _ _ h=>len_nil h))))))))
  (sss_cons (ss_setN (i:=5) (sv_e (i:=5) (fun _=>sc_law_other_pairs.nd) (se_lst (sa_cons (se_add (se_add (se_imm (se_slice (se_varS 1) so_none (so_some (se_varS 3)))) (se_tup (sa_cons (se_varN 4) sa_nil))) (se_imm (se_slice (se_varS 1) (so_some (se_add (se_varS 3) se_int)) so_none))) (sa_cons (se_imm (se_rev (se_varS 1))) (sa_cons (se_list (fun _=>rfl) T.n_list boot_list' (sa_cons (se_imm (se_varS 1)) sa_nil)) (sa_cons (se_imm (se_sub_ix (se_varS 2) se_int)) (sa_cons (se_add (se_imm (se_varS 1)) (se_imm (se_slice (se_varS 1) so_none (so_some se_int)))) (sa_cons (se_imm (se_slice (se_sub_ix (se_varS 2) se_int) so_none (so_some se_int))) (sa_cons se_non sa_nil))))))))))
  (sss_one (ss_ret (se_sub_ix (se_varN 5) (se_call (ok_law_draw T) (Nat.le_of_ble_eq_true rfl) (fun _=>rfl) T.m_law_draw T.F_law_draw.kp T.b_law_draw (sa_cons (se_varS 0) (sa_cons se_int (sa_cons se_int sa_nil))) (len_cons (len_cons (len_cons (fun _ _ h=>len_nil h)))))))))))
theorem ok_law_other_pairs (T:Txt K mg t):FnOk P w K mg base (CX1 P w) 2 t.f_law_other_pairs t.d_law_other_pairs ["_law_cell","_law_pairs","_law_web"] (spF K (clOf mg) 3 F_law_other_pairs) :=
 fn_simE (N:=["_law_cell","_law_pairs","_law_web","_law_at","_law_odd_here","_law_some"]) (ps:=["_law_cell","_law_pairs","_law_web"]) (k:=1) (f:=d_law_other_pairs) T.F_law_other_pairs sc_law_other_pairs (fun cdv A outer s H E hr=>b_law_other_pairs T cdv A outer s H E hr) rfl rfl
theorem b_is_pair (T:Txt K mg t) (cdv A outer s H E hr):SSs (ctD P w K mg base ["many","thing"] "is_pair" (defScope s_is_pair) t.f_is_pair cdv A outer s H E 2 hr) (defBody s_is_pair) d_is_pair :=
  (sss_cons (ss_if (SW.st (sw_or (st_not (st_val (se_isi (se_varS 1) (fun _=>rfl) T.n_isinstance boot_isinstance' (fun _=>rfl) T.n_tuple boot_tuple'))) (sw_or1 (st_ne (se_len (fun _=>rfl) T.n_len (sa_cons (se_varS 1) sa_nil)) se_int))))
   (sss_one (ss_ret se_bl))
   sss_nil)
  (sss_one (ss_ret (se_and (se_call (ok_is_place T) (Nat.le_of_ble_eq_true rfl) (fun _=>rfl) T.m_is_place T.F_is_place.kp T.b_is_place (sa_cons (se_varS 0) (sa_cons (se_sub_ix (se_varS 1) se_int) sa_nil)) (len_cons (len_cons (fun _ _ h=>len_nil h)))) (se_and (se_call (ok_is_place T) (Nat.le_of_ble_eq_true rfl) (fun _=>rfl) T.m_is_place T.F_is_place.kp T.b_is_place (sa_cons (se_varS 0) (sa_cons (se_sub_ix (se_varS 1) se_int) sa_nil)) (len_cons (len_cons (fun _ _ h=>len_nil h)))) (se_one (se_ne (se_sub_ix (se_varS 1) se_int) (se_sub_ix (se_varS 1) se_int))))))))
theorem ok_is_pair (T:Txt K mg t):FnOk P w K mg base (CX1 P w) 3 t.f_is_pair t.d_is_pair ["many","thing"] (spF K (clOf mg) 2 F_is_pair) :=
 fn_simE (N:=["many","thing"]) (ps:=["many","thing"]) (k:=2) (f:=d_is_pair) T.F_is_pair sc_is_pair (fun cdv A outer s H E hr=>b_is_pair T cdv A outer s H E hr) rfl rfl
theorem b_are_places (T:Txt K mg t) (cdv A outer s H E hr):SSs (ctD P w K mg base ["many","thing","place"] "are_places" (defScope s_are_places) t.f_are_places cdv A outer s H E 2 hr) (defBody s_are_places) d_are_places :=
  (sss_cons (ss_if (st_not (st_val (se_isi (se_varS 1) (fun _=>rfl) T.n_isinstance boot_isinstance' (fun _=>rfl) T.n_tuple boot_tuple')))
   (sss_one (ss_ret se_bl))
   sss_nil)
  (sss_cons (ss_for (si_seq (se_varS 1)) (sg_name (i:=2) (ks:=[2]) (fun _=>sc_are_places.nd) (by decide))
   (sss_one (ss_if (st_not (st_val (se_call (ok_is_place T) (Nat.le_of_ble_eq_true rfl) (fun _=>rfl) T.m_is_place T.F_is_place.kp T.b_is_place (sa_cons (se_varS 0) (sa_cons (se_varS 2) sa_nil)) (len_cons (len_cons (fun _ _ h=>len_nil h))))))
    (sss_one (ss_ret se_bl))
    sss_nil)))
  (sss_one (ss_ret (se_call (ok_is_rising T) (Nat.le_of_ble_eq_true rfl) (fun _=>rfl) T.m_is_rising T.F_is_rising.kp T.b_is_rising (sa_cons (se_varS 1) sa_nil) (len_cons (fun _ _ h=>len_nil h)))))))
theorem ok_are_places (T:Txt K mg t):FnOk P w K mg base (CX1 P w) 3 t.f_are_places t.d_are_places ["many","thing"] (spF K (clOf mg) 2 F_are_places) :=
 fn_simE (N:=["many","thing","place"]) (ps:=["many","thing"]) (k:=2) (f:=d_are_places) T.F_are_places sc_are_places (fun cdv A outer s H E hr=>b_are_places T cdv A outer s H E hr) rfl rfl
theorem b_law_one_way (T:Txt K mg t) (cdv A outer s H E hr):SSs (ctD P w K mg base ["_law_cell","_law_most","_law_many","_law_kind","_law_thick","_law_order","_law_arrows","_law_spot","_law_j","_law_i","_law_here"] "_law_one_way" (defScope s_law_one_way) t.f_law_one_way cdv A outer s H E 2 hr) (defBody s_law_one_way) d_law_one_way :=
  (sss_cons (ss_setS (i:=2) (sv_e (i:=2) (fun _=>sc_law_one_way.nd) (se_call (ok_law_draw T) (Nat.le_of_ble_eq_true rfl) (fun _=>rfl) T.m_law_draw T.F_law_draw.kp T.b_law_draw (sa_cons (se_varS 0) (sa_cons se_int (sa_cons (se_add (se_varS 1) se_int) sa_nil))) (len_cons (len_cons (len_cons (fun _ _ h=>len_nil h)))))))
  (sss_cons (ss_setS (i:=3) (sv_e (i:=3) (fun _=>sc_law_one_way.nd) (se_call (ok_law_draw T) (Nat.le_of_ble_eq_true rfl) (fun _=>rfl) T.m_law_draw T.F_law_draw.kp T.b_law_draw (sa_cons (se_varS 0) (sa_cons se_int (sa_cons se_int sa_nil))) (len_cons (len_cons (len_cons (fun _ _ h=>len_nil h)))))))
  (sss_cons (ss_setN (i:=4) (sv_e (i:=4) (fun _=>sc_law_one_way.nd) (se_sub_ix (se_lst (sa_cons se_int (sa_cons se_int (sa_cons se_int (sa_cons se_int (sa_cons se_int (sa_cons se_int (sa_cons se_int (sa_cons se_int sa_nil))))))))) (se_varS 3))))
  (sss_cons (ss_setS (i:=5) (sv_e (i:=5) (fun _=>sc_law_one_way.nd) (se_call (ok_law_turn T) (Nat.le_of_ble_eq_true rfl) (fun _=>rfl) T.m_law_turn T.F_law_turn.kp T.b_law_turn (sa_cons (se_varS 0) (sa_cons (se_varS 2) sa_nil)) (len_cons (len_cons (fun _ _ h=>len_nil h))))))
  (sss_cons (ss_setO (i:=6) (svf_e (i:=6) (fun _=>sc_law_one_way.nd) (sf_lst sa_nil)))
  (sss_cons (ss_setS (i:=7) (sv_e (i:=7) (fun _=>sc_law_one_way.nd) se_int))
  (sss_cons (ss_for (si_rng1 (sa_cons (se_varS 2) sa_nil) (fun _=>rfl) T.n_range) (sg_name (i:=8) (ks:=[8]) (fun _=>sc_law_one_way.nd) (by decide))
   (sss_one (ss_for (si_rng1 (sa_cons (se_varS 8) sa_nil) (fun _=>rfl) T.n_range) (sg_name (i:=9) (ks:=[9]) (fun _=>sc_law_one_way.nd) (by decide))
    (sss_cons (ss_setS (i:=7) (sv_e (i:=7) (fun _=>sc_law_one_way.nd) (se_add (se_varS 7) se_int)))
    (sss_cons (ss_setS (i:=10) (sv_e (i:=10) (fun _=>sc_law_one_way.nd) (se_call (ok_law_draw T) (Nat.le_of_ble_eq_true rfl) (fun _=>rfl) T.m_law_draw T.F_law_draw.kp T.b_law_draw (sa_cons (se_varS 0) (sa_cons (se_varS 7) (sa_cons se_int sa_nil))) (len_cons (len_cons (len_cons (fun _ _ h=>len_nil h)))))))
    (sss_cons (ss_if (SW.st (sw_or (st_lt (se_varS 10) (se_varN 4)) (sw_or1 (SW.st (sw_and (st_eq (se_varS 3) se_int) (sw_and1 (st_eq (se_varS 8) (se_add (se_varS 9) se_int))))))))
     (sss_one (ss_append 6 (se_tup (sa_cons (se_imm (se_sub_ix (se_varS 5) (se_varS 9))) (sa_cons (se_imm (se_sub_ix (se_varS 5) (se_varS 8))) sa_nil)))))
     sss_nil)
    (sss_one (ss_if (SW.st (sw_or (SW.st (sw_and (st_gt (se_varS 3) se_int) (sw_and (st_ne (se_varS 3) se_int) (sw_and1 (st_lt (se_call (ok_law_draw T) (Nat.le_of_ble_eq_true rfl) (fun _=>rfl) T.m_law_draw T.F_law_draw.kp T.b_law_draw (sa_cons (se_varS 0) (sa_cons (se_add (se_varS 7) se_int) (sa_cons se_int sa_nil))) (len_cons (len_cons (len_cons (fun _ _ h=>len_nil h))))) (se_sub (se_varN 4) se_int)))))) (sw_or1 (SW.st (sw_and (st_eq (se_varS 3) se_int) (sw_and1 (st_lt (se_varS 10) se_int)))))))
     (sss_one (ss_append 6 (se_tup (sa_cons (se_imm (se_sub_ix (se_varS 5) (se_varS 8))) (sa_cons (se_imm (se_sub_ix (se_varS 5) (se_varS 9))) sa_nil)))))
     sss_nil))))))))
  (sss_cons (ss_if (SW.st (sw_and (st_eq (se_varS 3) se_int) (sw_and1 (st_gt (se_varS 2) se_int))))
   (sss_one (ss_append 6 (se_tup (sa_cons (se_imm (se_sub_ix (se_varS 5) (se_sub (se_varS 2) se_int))) (sa_cons (se_imm (se_sub_ix (se_varS 5) se_int)) sa_nil)))))
   sss_nil)
  (sss_one (ss_ret (se_tup (sa_cons (se_imm (se_varS 2)) (sa_cons (se_tuple (fun _=>rfl) T.n_tuple boot_tuple' (sa_cons (se_sortedSet (fun _=>rfl) T.n_sorted boot_sorted' (fun _=>rfl) T.n_set boot_set' (sa_cons (se_var 6) sa_nil)) sa_nil)) sa_nil)))))))))))))
theorem ok_law_one_way (T:Txt K mg t):FnOk P w K mg base (CX1 P w) 3 t.f_law_one_way t.d_law_one_way ["_law_cell","_law_most"] (spF K (clOf mg) 2 F_law_one_way) :=
 fn_simE (N:=["_law_cell","_law_most","_law_many","_law_kind","_law_thick","_law_order","_law_arrows","_law_spot","_law_j","_law_i","_law_here"]) (ps:=["_law_cell","_law_most"]) (k:=2) (f:=d_law_one_way) T.F_law_one_way sc_law_one_way (fun cdv A outer s H E hr=>b_law_one_way T cdv A outer s H E hr) rfl rfl
theorem b_law_are_pairs (T:Txt K mg t) (cdv A outer s H E hr):SSs (ctD P w K mg base ["_law_web","_law_thing"] "_law_are_pairs" (defScope s_law_are_pairs) t.f_law_are_pairs cdv A outer s H E 2 hr) (defBody s_law_are_pairs) d_law_are_pairs :=
  (sss_cons (ss_if (SW.st (sw_or (st_not (st_val (se_isi (se_varS 1) (fun _=>rfl) T.n_isinstance boot_isinstance' (fun _=>rfl) T.n_tuple boot_tuple'))) (sw_or1 (st_not (st_val (se_all (fun _=>rfl) T.n_all boot_all' (sa_cons (se_lc (N:=["_law_one","_law_web"]) (js:=[none,some 0]) (ks:=[0]) (fun _=>blk_mk rfl rfl rfl rfl rfl rfl) (si_seq (se_varS 1)) (sg_name (i:=0) (ks:=[0]) (fun _=>(by decide +kernel:List.Nodup (["_law_one","_law_web"]:List Str))) (by decide)) sf_nil (se_and (se_call (ok_law_is_arrow T) (Nat.le_of_ble_eq_true rfl) (fun _=>rfl) T.m_law_is_arrow T.F_law_is_arrow.kp T.b_law_is_arrow (sa_cons (se_varS 0) (sa_cons (se_sub_ix (se_varS 1) se_int) sa_nil)) (len_cons (len_cons (fun _ _ h=>len_nil h)))) (se_one (se_in (se_varS 0) (se_sub_ix (se_varS 1) se_int))))) sa_nil)))))))
   (sss_one (ss_ret se_bl))
   sss_nil)
  (sss_cons (ss_if (SW.st (sw_or (st_not (st_val (se_call (ok_law_rising T) (Nat.le_of_ble_eq_true rfl) (fun _=>rfl) T.m_law_rising T.F_law_rising.kp T.b_law_rising (sa_cons (se_varS 1) sa_nil) (len_cons (fun _ _ h=>len_nil h))))) (sw_or1 (st_lt (se_lenX (fun _=>rfl) T.n_len (sa_cons (se_set (fun _=>rfl) T.n_set boot_set' (sa_cons (se_lc (N:=["_law_one","_law_other"]) (js:=[none,none]) (ks:=[0,1]) (fun _=>blk_mk rfl rfl rfl rfl rfl rfl) (si_seq (se_varS 1)) (sg_tup (n:=2) (sgs_cons (sg_name (i:=0) (ks:=[0,1]) (fun _=>(by decide +kernel:List.Nodup (["_law_one","_law_other"]:List Str))) (by decide)) (sgs_cons (sg_name (i:=1) (ks:=[0,1]) (fun _=>(by decide +kernel:List.Nodup (["_law_one","_law_other"]:List Str))) (by decide)) sgs_nil))) sf_nil (se_imm (se_varS 0))) sa_nil)) sa_nil)) (se_len (fun _=>rfl) T.n_len (sa_cons (se_varS 1) sa_nil))))))
   (sss_one (ss_ret se_bl))
   sss_nil)
  (sss_one (ss_ret (se_eq (se_lenX (fun _=>rfl) T.n_len (sa_cons (se_set (fun _=>rfl) T.n_set boot_set' (sa_cons (se_lc (N:=["_law_one","_law_other"]) (js:=[none,none]) (ks:=[0,1]) (fun _=>blk_mk rfl rfl rfl rfl rfl rfl) (si_seq (se_varS 1)) (sg_tup (n:=2) (sgs_cons (sg_name (i:=0) (ks:=[0,1]) (fun _=>(by decide +kernel:List.Nodup (["_law_one","_law_other"]:List Str))) (by decide)) (sgs_cons (sg_name (i:=1) (ks:=[0,1]) (fun _=>(by decide +kernel:List.Nodup (["_law_one","_law_other"]:List Str))) (by decide)) sgs_nil))) sf_nil (se_imm (se_varS 1))) sa_nil)) sa_nil)) (se_len (fun _=>rfl) T.n_len (sa_cons (se_varS 1) sa_nil)))))))
theorem ok_law_are_pairs (T:Txt K mg t):FnOk P w K mg base (CX1 P w) 3 t.f_law_are_pairs t.d_law_are_pairs ["_law_web","_law_thing"] (spF K (clOf mg) 2 F_law_are_pairs) :=
 fn_simE (N:=["_law_web","_law_thing"]) (ps:=["_law_web","_law_thing"]) (k:=2) (f:=d_law_are_pairs) T.F_law_are_pairs sc_law_are_pairs (fun cdv A outer s H E hr=>b_law_are_pairs T cdv A outer s H E hr) rfl rfl
theorem b_law_are_marks (T:Txt K mg t) (cdv A outer s H E hr):SSs (ctD P w K mg base ["_law_web","_law_thing"] "_law_are_marks" (defScope s_law_are_marks) t.f_law_are_marks cdv A outer s H E 2 hr) (defBody s_law_are_marks) d_law_are_marks :=
  (sss_cons (ss_if (SW.st (sw_or (st_not (st_val (se_isi (se_varS 1) (fun _=>rfl) T.n_isinstance boot_isinstance' (fun _=>rfl) T.n_tuple boot_tuple'))) (sw_or (st_ne (se_len (fun _=>rfl) T.n_len (sa_cons (se_varS 1) sa_nil)) se_int) (sw_or1 (st_not (st_val (se_all (fun _=>rfl) T.n_all boot_all' (sa_cons (se_lc (N:=["_law_part","_law_web"]) (js:=[none,some 0]) (ks:=[0]) (fun _=>blk_mk rfl rfl rfl rfl rfl rfl) (si_seq (se_varS 1)) (sg_name (i:=0) (ks:=[0]) (fun _=>(by decide +kernel:List.Nodup (["_law_part","_law_web"]:List Str))) (by decide)) sf_nil (se_call (ok_law_are_places T) (Nat.le_of_ble_eq_true rfl) (fun _=>rfl) T.m_law_are_places T.F_law_are_places.kp T.b_law_are_places (sa_cons (se_varS 0) (sa_cons (se_sub_ix (se_varS 1) se_int) sa_nil)) (len_cons (len_cons (fun _ _ h=>len_nil h))))) sa_nil))))))))
   (sss_one (ss_ret se_bl))
   sss_nil)
  (sss_one (ss_ret (se_eq (se_lc (N:=["_law_arrow","_law_thing"]) (js:=[none,some 1]) (ks:=[0]) (fun _=>blk_mk rfl rfl rfl rfl rfl rfl) (si_seq (se_sub_ix (se_varS 0) se_int)) (sg_name (i:=0) (ks:=[0]) (fun _=>(by decide +kernel:List.Nodup (["_law_arrow","_law_thing"]:List Str))) (by decide)) (sf_one (SW.st (sw_and (st_nin (se_sub_ix (se_varS 0) se_int) (se_sub_ix (se_varS 1) se_int)) (sw_and1 (st_nin (se_sub_ix (se_varS 0) se_int) (se_sub_ix (se_varS 1) se_int)))))) (se_imm (se_varS 0))) (se_lst sa_nil)))))
theorem ok_law_are_marks (T:Txt K mg t):FnOk P w K mg base (CX1 P w) 3 t.f_law_are_marks t.d_law_are_marks ["_law_web","_law_thing"] (spF K (clOf mg) 2 F_law_are_marks) :=
 fn_simE (N:=["_law_web","_law_thing"]) (ps:=["_law_web","_law_thing"]) (k:=2) (f:=d_law_are_marks) T.F_law_are_marks sc_law_are_marks (fun cdv A outer s H E hr=>b_law_are_marks T cdv A outer s H E hr) rfl rfl
theorem b_law_other_marks (T:Txt K mg t) (cdv A outer s H E hr):SSs (ctD P w K mg base ["_law_cell","_law_marks","_law_many","_law_one","_law_some"] "_law_other_marks" (defScope s_law_other_marks) t.f_law_other_marks cdv A outer s H E 2 hr) (defBody s_law_other_marks) d_law_other_marks :=
  (sss_cons (ss_setN (i:=3) (sv_e (i:=3) (fun _=>sc_law_other_marks.nd) (se_call (ok_law_bent_row T) (Nat.le_of_ble_eq_true rfl) (fun _=>rfl) T.m_law_bent_row T.F_law_bent_row.kp T.b_law_bent_row (sa_cons (se_varS 0) (sa_cons se_int (sa_cons (se_sub_ix (se_varS 1) se_int) (sa_cons (se_varS 2) sa_nil)))) (len_cons (len_cons (len_cons (len_cons (fun _ _ h=>len_nil h))))))))
  (sss_cons (ss_setN (i:=4) (sv_e (i:=4) (fun _=>sc_law_other_marks.nd) (se_lst (sa_cons (se_tup (sa_cons (se_varN 3) (sa_cons (se_imm (se_sub_ix (se_varS 1) se_int)) sa_nil))) (sa_cons (se_tup (sa_cons (se_imm (se_sub_ix (se_varS 1) se_int)) (sa_cons (se_varN 3) sa_nil))) (sa_cons (se_tup (sa_cons (se_imm (se_sub_ix (se_varS 1) se_int)) (sa_cons (se_imm (se_sub_ix (se_varS 1) se_int)) sa_nil))) (sa_cons (se_imm (se_slice (se_varS 1) so_none (so_some se_int))) (sa_cons (se_add (se_imm (se_varS 1)) (se_tup (sa_cons (se_tup sa_nil) sa_nil))) (sa_cons (se_list (fun _=>rfl) T.n_list boot_list' (sa_cons (se_imm (se_varS 1)) sa_nil)) (sa_cons (se_tup (sa_cons (se_imm (se_sub_ix (se_varS 1) se_int)) sa_nil)) sa_nil))))))))))
  (sss_one (ss_ret (se_sub_ix (se_varN 4) (se_call (ok_law_draw T) (Nat.le_of_ble_eq_true rfl) (fun _=>rfl) T.m_law_draw T.F_law_draw.kp T.b_law_draw (sa_cons (se_varS 0) (sa_cons se_int (sa_cons se_int sa_nil))) (len_cons (len_cons (len_cons (fun _ _ h=>len_nil h))))))))))
theorem ok_law_other_marks (T:Txt K mg t):FnOk P w K mg base (CX1 P w) 3 t.f_law_other_marks t.d_law_other_marks ["_law_cell","_law_marks","_law_many"] (spF K (clOf mg) 3 F_law_other_marks) :=
 fn_simE (N:=["_law_cell","_law_marks","_law_many","_law_one","_law_some"]) (ps:=["_law_cell","_law_marks","_law_many"]) (k:=2) (f:=d_law_other_marks) T.F_law_other_marks sc_law_other_marks (fun cdv A outer s H E hr=>b_law_other_marks T cdv A outer s H E hr) rfl rfl
theorem b_are_rising_pairs (T:Txt K mg t) (cdv A outer s H E hr):SSs (ctD P w K mg base ["many","thing","pair"] "are_rising_pairs" (defScope s_are_rising_pairs) t.f_are_rising_pairs cdv A outer s H E 3 hr) (defBody s_are_rising_pairs) d_are_rising_pairs :=
  (sss_cons (ss_if (st_not (st_val (se_isi (se_varS 1) (fun _=>rfl) T.n_isinstance boot_isinstance' (fun _=>rfl) T.n_tuple boot_tuple')))
   (sss_one (ss_ret se_bl))
   sss_nil)
  (sss_cons (ss_for (si_seq (se_varS 1)) (sg_name (i:=2) (ks:=[2]) (fun _=>sc_are_rising_pairs.nd) (by decide))
   (sss_one (ss_if (st_not (st_val (se_call (ok_is_pair T) (Nat.le_of_ble_eq_true rfl) (fun _=>rfl) T.m_is_pair T.F_is_pair.kp T.b_is_pair (sa_cons (se_varS 0) (sa_cons (se_varS 2) sa_nil)) (len_cons (len_cons (fun _ _ h=>len_nil h))))))
    (sss_one (ss_ret se_bl))
    sss_nil)))
  (sss_one (ss_ret (se_call (ok_is_rising T) (Nat.le_of_ble_eq_true rfl) (fun _=>rfl) T.m_is_rising T.F_is_rising.kp T.b_is_rising (sa_cons (se_varS 1) sa_nil) (len_cons (fun _ _ h=>len_nil h)))))))
theorem ok_are_rising_pairs (T:Txt K mg t):FnOk P w K mg base (CX1 P w) 4 t.f_are_rising_pairs t.d_are_rising_pairs ["many","thing"] (spF K (clOf mg) 2 F_are_rising_pairs) :=
 fn_simE (N:=["many","thing","pair"]) (ps:=["many","thing"]) (k:=3) (f:=d_are_rising_pairs) T.F_are_rising_pairs sc_are_rising_pairs (fun cdv A outer s H E hr=>b_are_rising_pairs T cdv A outer s H E hr) rfl rfl
theorem b_is_one_way (T:Txt K mg t) (cdv A outer s H E hr):SSs (ctD P w K mg base ["thing"] "is_one_way" (defScope s_is_one_way) t.f_is_one_way cdv A outer s H E 4 hr) (defBody s_is_one_way) d_is_one_way :=
  (sss_cons (ss_if (SW.st (sw_or (st_not (st_val (se_isi (se_varS 0) (fun _=>rfl) T.n_isinstance boot_isinstance' (fun _=>rfl) T.n_tuple boot_tuple'))) (sw_or1 (st_ne (se_len (fun _=>rfl) T.n_len (sa_cons (se_varS 0) sa_nil)) se_int))))
   (sss_one (ss_ret se_bl))
   sss_nil)
  (sss_one (ss_ret (se_and (se_call (ok_is_many T) (Nat.le_of_ble_eq_true rfl) (fun _=>rfl) T.m_is_many T.F_is_many.kp T.b_is_many (sa_cons (se_sub_ix (se_varS 0) se_int) sa_nil) (len_cons (fun _ _ h=>len_nil h))) (se_one (se_call (ok_are_rising_pairs T) (Nat.le_of_ble_eq_true rfl) (fun _=>rfl) T.m_are_rising_pairs T.F_are_rising_pairs.kp T.b_are_rising_pairs (sa_cons (se_sub_ix (se_varS 0) se_int) (sa_cons (se_sub_ix (se_varS 0) se_int) sa_nil)) (len_cons (len_cons (fun _ _ h=>len_nil h)))))))))
theorem ok_is_one_way (T:Txt K mg t):FnOk P w K mg base (CX1 P w) 5 t.f_is_one_way t.d_is_one_way ["thing"] (spF K (clOf mg) 1 F_is_one_way) :=
 fn_simE (N:=["thing"]) (ps:=["thing"]) (k:=4) (f:=d_is_one_way) T.F_is_one_way sc_is_one_way (fun cdv A outer s H E hr=>b_is_one_way T cdv A outer s H E hr) rfl rfl
theorem b_check_one_way (T:Txt K mg t) (cdv A outer s H E hr):SSs (ctD P w K mg base ["thing"] "check_one_way" (defScope s_check_one_way) t.f_check_one_way cdv A outer s H E 5 hr) (defBody s_check_one_way) d_check_one_way :=
  (sss_one (ss_if (st_not (st_val (se_call (ok_is_one_way T) (Nat.le_of_ble_eq_true rfl) (fun _=>rfl) T.m_is_one_way T.F_is_one_way.kp T.b_is_one_way (sa_cons (se_varS 0) sa_nil) (len_cons (fun _ _ h=>len_nil h)))))
   (sss_one (ss_raise rfl T.m_NoOneWay T.l_NoOneWay T.x_NoOneWay (fun _=>rfl) (sa_cons se_str sa_nil)))
   sss_nil))
theorem ok_check_one_way (T:Txt K mg t):FnOk P w K mg base (CX1 P w) 6 t.f_check_one_way t.d_check_one_way ["thing"] (spF K (clOf mg) 1 F_check_one_way) :=
 fn_simE (N:=["thing"]) (ps:=["thing"]) (k:=5) (f:=d_check_one_way) T.F_check_one_way sc_check_one_way (fun cdv A outer s H E hr=>b_check_one_way T cdv A outer s H E hr) rfl rfl
theorem b_is_pairs (T:Txt K mg t) (cdv A outer s H E hr):SSs (ctD P w K mg base ["web","thing","known","begins","ends"] "is_pairs" (defScope s_is_pairs) t.f_is_pairs cdv A outer s H E 6 hr) (defBody s_is_pairs) d_is_pairs :=
  (sss_cons (ss_expr (se_call (ok_check_one_way T) (Nat.le_of_ble_eq_true rfl) (fun _=>rfl) T.m_check_one_way T.F_check_one_way.kp T.b_check_one_way (sa_cons (se_varS 0) sa_nil) (len_cons (fun _ _ h=>len_nil h))))
  (sss_cons (ss_if (st_not (st_val (se_call (ok_are_rising_pairs T) (Nat.le_of_ble_eq_true rfl) (fun _=>rfl) T.m_are_rising_pairs T.F_are_rising_pairs.kp T.b_are_rising_pairs (sa_cons (se_sub_ix (se_varS 0) se_int) (sa_cons (se_varS 1) sa_nil)) (len_cons (len_cons (fun _ _ h=>len_nil h))))))
   (sss_one (ss_ret se_bl))
   sss_nil)
  (sss_cons (ss_setS (i:=2) (sv_e (i:=2) (fun _=>sc_is_pairs.nd) (se_dT (N:=["arrow"]) (js:=[none]) (ks:=[0]) (fun _=>blk_mk rfl rfl rfl rfl rfl rfl) (si_seq (se_sub_ix (se_varS 0) se_int)) (sg_name (i:=0) (ks:=[0]) (fun _=>(by decide +kernel:List.Nodup (["arrow"]:List Str))) (by decide)) sf_nil (se_imm (se_varS 0)) se_bl)))
  (sss_cons (ss_if (st_not (st_val (se_all (fun _=>rfl) T.n_all boot_all' (sa_cons (se_lc (N:=["arrow","known"]) (js:=[none,some 2]) (ks:=[0]) (fun _=>blk_mk rfl rfl rfl rfl rfl rfl) (si_seq (se_varS 1)) (sg_name (i:=0) (ks:=[0]) (fun _=>(by decide +kernel:List.Nodup (["arrow","known"]:List Str))) (by decide)) sf_nil (se_inK (se_varS 0) (se_varS 1))) sa_nil))))
   (sss_one (ss_ret se_bl))
   sss_nil)
  (sss_cons (ss_setS (i:=3) (sv_e (i:=3) (fun _=>sc_is_pairs.nd) (se_lenX (fun _=>rfl) T.n_len (sa_cons (se_setc (N:=["begin","end"]) (js:=[none,none]) (ks:=[0,1]) (fun _=>blk_mk rfl rfl rfl rfl rfl rfl) (si_seq (se_varS 1)) (sg_tup (n:=2) (sgs_cons (sg_name (i:=0) (ks:=[0,1]) (fun _=>(by decide +kernel:List.Nodup (["begin","end"]:List Str))) (by decide)) (sgs_cons (sg_name (i:=1) (ks:=[0,1]) (fun _=>(by decide +kernel:List.Nodup (["begin","end"]:List Str))) (by decide)) sgs_nil))) sf_nil (se_imm (se_varS 0))) sa_nil))))
  (sss_cons (ss_setS (i:=4) (sv_e (i:=4) (fun _=>sc_is_pairs.nd) (se_lenX (fun _=>rfl) T.n_len (sa_cons (se_setc (N:=["begin","end"]) (js:=[none,none]) (ks:=[0,1]) (fun _=>blk_mk rfl rfl rfl rfl rfl rfl) (si_seq (se_varS 1)) (sg_tup (n:=2) (sgs_cons (sg_name (i:=0) (ks:=[0,1]) (fun _=>(by decide +kernel:List.Nodup (["begin","end"]:List Str))) (by decide)) (sgs_cons (sg_name (i:=1) (ks:=[0,1]) (fun _=>(by decide +kernel:List.Nodup (["begin","end"]:List Str))) (by decide)) sgs_nil))) sf_nil (se_imm (se_varS 1))) sa_nil))))
  (sss_one (ss_ret (se_and (se_eq (se_varS 3) (se_len (fun _=>rfl) T.n_len (sa_cons (se_varS 1) sa_nil))) (se_one (se_eq (se_varS 4) (se_len (fun _=>rfl) T.n_len (sa_cons (se_varS 1) sa_nil)))))))))))))
theorem ok_is_pairs (T:Txt K mg t):FnOk P w K mg base (CX1 P w) 7 t.f_is_pairs t.d_is_pairs ["web","thing"] (spF K (clOf mg) 2 F_is_pairs) :=
 fn_simE (N:=["web","thing","known","begins","ends"]) (ps:=["web","thing"]) (k:=6) (f:=d_is_pairs) T.F_is_pairs sc_is_pairs (fun cdv A outer s H E hr=>b_is_pairs T cdv A outer s H E hr) rfl rfl
theorem b_is_marks (T:Txt K mg t) (cdv A outer s H E hr):SSs (ctD P w K mg base ["web","thing","begins","ends"] "is_marks" (defScope s_is_marks) t.f_is_marks cdv A outer s H E 6 hr) (defBody s_is_marks) d_is_marks :=
  (sss_cons (ss_expr (se_call (ok_check_one_way T) (Nat.le_of_ble_eq_true rfl) (fun _=>rfl) T.m_check_one_way T.F_check_one_way.kp T.b_check_one_way (sa_cons (se_varS 0) sa_nil) (len_cons (fun _ _ h=>len_nil h))))
  (sss_cons (ss_if (SW.st (sw_or (st_not (st_val (se_isi (se_varS 1) (fun _=>rfl) T.n_isinstance boot_isinstance' (fun _=>rfl) T.n_tuple boot_tuple'))) (sw_or1 (st_ne (se_len (fun _=>rfl) T.n_len (sa_cons (se_varS 1) sa_nil)) se_int))))
   (sss_one (ss_ret se_bl))
   sss_nil)
  (sss_cons (ss_asg (se_varS 1) (sg_tup (n:=2) (sgs_cons (sg_name (i:=2) (ks:=[2,3]) (fun _=>sc_is_marks.nd) (by decide)) (sgs_cons (sg_name (i:=3) (ks:=[2,3]) (fun _=>sc_is_marks.nd) (by decide)) sgs_nil))))
  (sss_cons (ss_if (SW.st (sw_or (st_not (st_val (se_call (ok_are_places T) (Nat.le_of_ble_eq_true rfl) (fun _=>rfl) T.m_are_places T.F_are_places.kp T.b_are_places (sa_cons (se_sub_ix (se_varS 0) se_int) (sa_cons (se_varS 2) sa_nil)) (len_cons (len_cons (fun _ _ h=>len_nil h)))))) (sw_or1 (st_not (st_val (se_call (ok_are_places T) (Nat.le_of_ble_eq_true rfl) (fun _=>rfl) T.m_are_places T.F_are_places.kp T.b_are_places (sa_cons (se_sub_ix (se_varS 0) se_int) (sa_cons (se_varS 3) sa_nil)) (len_cons (len_cons (fun _ _ h=>len_nil h)))))))))
   (sss_one (ss_ret se_bl))
   sss_nil)
  (sss_one (ss_ret (se_all (fun _=>rfl) T.n_all boot_all' (sa_cons (se_lc (N:=["begin","end","begins","ends"]) (js:=[none,none,some 2,some 3]) (ks:=[0,1]) (fun _=>blk_mk rfl rfl rfl rfl rfl rfl) (si_seq (se_sub_ix (se_varS 0) se_int)) (sg_tup (n:=2) (sgs_cons (sg_name (i:=0) (ks:=[0,1]) (fun _=>(by decide +kernel:List.Nodup (["begin","end","begins","ends"]:List Str))) (by decide)) (sgs_cons (sg_name (i:=1) (ks:=[0,1]) (fun _=>(by decide +kernel:List.Nodup (["begin","end","begins","ends"]:List Str))) (by decide)) sgs_nil))) sf_nil (se_or (se_in (se_varS 0) (se_varS 2)) (se_one (se_in (se_varS 1) (se_varS 3))))) sa_nil))))))))
theorem ok_is_marks (T:Txt K mg t):FnOk P w K mg base (CX1 P w) 7 t.f_is_marks t.d_is_marks ["web","thing"] (spF K (clOf mg) 2 F_is_marks) :=
 fn_simE (N:=["web","thing","begins","ends"]) (ps:=["web","thing"]) (k:=6) (f:=d_is_marks) T.F_is_marks sc_is_marks (fun cdv A outer s H E hr=>b_is_marks T cdv A outer s H E hr) rfl rfl
theorem b_law (T:Txt K mg t) (cdv A outer s H E hr):SSs (ctD P w K mg base ["_law_script","_law_k","_law_cell","_law_web","_law_pairs","_law_every","_law_marks","_law_things","_law_thing","_law_found"] "law" (defScope s_law) t.f_law cdv A outer s H E 7 hr) (defBody s_law) d_law :=
  (sss_cons (ss_for (si_rng1 (sa_cons (se_max2 (fun _=>rfl) T.n_max boot_max' (sa_cons se_int (sa_cons (se_min2 (fun _=>rfl) T.n_min boot_min' (sa_cons (se_len (fun _=>rfl) T.n_len (sa_cons (se_varS 0) sa_nil)) (sa_cons se_int sa_nil))) sa_nil))) sa_nil) (fun _=>rfl) T.n_range) (sg_name (i:=1) (ks:=[1]) (fun _=>sc_law.nd) (by decide))
   (sss_cons (ss_setS (i:=2) (sv_e (i:=2) (fun _=>sc_law.nd) (se_call (ok_law_cell_at T) (Nat.le_of_ble_eq_true rfl) (fun _=>rfl) T.m_law_cell_at T.F_law_cell_at.kp T.b_law_cell_at (sa_cons (se_varS 0) (sa_cons (se_varS 1) sa_nil)) (len_cons (len_cons (fun _ _ h=>len_nil h))))))
   (sss_cons (ss_setS (i:=3) (sv_e (i:=3) (fun _=>sc_law.nd) (se_call (ok_law_one_way T) (Nat.le_of_ble_eq_true rfl) (fun _=>rfl) T.m_law_one_way T.F_law_one_way.kp T.b_law_one_way (sa_cons (se_varS 2) (sa_cons se_int sa_nil)) (len_cons (len_cons (fun _ _ h=>len_nil h))))))
   (sss_cons (ss_setS (i:=4) (sv_e (i:=4) (fun _=>sc_law.nd) (se_call (ok_law_drawn_pairs T) (Nat.le_of_ble_eq_true rfl) (fun _=>rfl) T.m_law_drawn_pairs T.F_law_drawn_pairs.kp T.b_law_drawn_pairs (sa_cons (se_varS 2) (sa_cons (se_varS 3) sa_nil)) (len_cons (len_cons (fun _ _ h=>len_nil h))))))
   (sss_cons (ss_setS (i:=5) (sv_e (i:=5) (fun _=>sc_law.nd) (se_tupRng (fun _=>rfl) T.n_tuple boot_tuple' (fun _=>rfl) T.n_range (se_sub_ix (se_varS 3) se_int))))
   (sss_cons (ss_setO (i:=6) (svf_e (i:=6) (fun _=>sc_law.nd) (sf_lst (sa_cons (se_tup (sa_cons (se_imm (se_varS 5)) (sa_cons (se_tup sa_nil) sa_nil))) (sa_cons (se_tup (sa_cons (se_tup sa_nil) (sa_cons (se_imm (se_varS 5)) sa_nil))) (sa_cons (se_tup (sa_cons (se_call (ok_law_places T) (Nat.le_of_ble_eq_true rfl) (fun _=>rfl) T.m_law_places T.F_law_places.kp T.b_law_places (sa_cons (se_varS 2) (sa_cons se_int (sa_cons (se_sub_ix (se_varS 3) se_int) sa_nil))) (len_cons (len_cons (len_cons (fun _ _ h=>len_nil h))))) (sa_cons (se_call (ok_law_places T) (Nat.le_of_ble_eq_true rfl) (fun _=>rfl) T.m_law_places T.F_law_places.kp T.b_law_places (sa_cons (se_varS 2) (sa_cons se_int (sa_cons (se_sub_ix (se_varS 3) se_int) sa_nil))) (len_cons (len_cons (len_cons (fun _ _ h=>len_nil h))))) sa_nil))) sa_nil))))))
   (sss_cons (ss_append 6 (se_tup (sa_cons (se_tuple (fun _=>rfl) T.n_tuple boot_tuple' (sa_cons (se_sortedSetI (fun _=>rfl) T.n_sorted boot_sorted' (fun _=>rfl) T.n_set boot_set' (sa_cons (se_lc (N:=["_law_one","_law_other"]) (js:=[none,none]) (ks:=[0,1]) (fun _=>blk_mk rfl rfl rfl rfl rfl rfl) (si_seq (se_sub_ix (se_varS 3) se_int)) (sg_tup (n:=2) (sgs_cons (sg_name (i:=0) (ks:=[0,1]) (fun _=>(by decide +kernel:List.Nodup (["_law_one","_law_other"]:List Str))) (by decide)) (sgs_cons (sg_name (i:=1) (ks:=[0,1]) (fun _=>(by decide +kernel:List.Nodup (["_law_one","_law_other"]:List Str))) (by decide)) sgs_nil))) sf_nil (se_imm (se_varS 0))) sa_nil)) sa_nil)) (sa_cons (se_tup sa_nil) sa_nil))))
   (sss_cons (ss_setN (i:=7) (sv_e (i:=7) (fun _=>sc_law.nd) (se_addI (se_lst (sa_cons (se_imm (se_varS 4)) (sa_cons (se_imm (se_sub_ix (se_varS 3) se_int)) (sa_cons (se_tup sa_nil) (sa_cons (se_call (ok_law_other_pairs T) (Nat.le_of_ble_eq_true rfl) (fun _=>rfl) T.m_law_other_pairs T.F_law_other_pairs.kp T.b_law_other_pairs (sa_cons (se_varS 2) (sa_cons (se_varS 4) (sa_cons (se_varS 3) sa_nil))) (len_cons (len_cons (len_cons (fun _ _ h=>len_nil h))))) (sa_cons (se_call (ok_law_odd T) (Nat.le_of_ble_eq_true rfl) (fun _=>rfl) T.m_law_odd T.F_law_odd.kp T.b_law_odd (sa_cons (se_varS 2) sa_nil) (len_cons (fun _ _ h=>len_nil h))) sa_nil)))))) (se_var 6))))
   (sss_one (ss_for (si_seq (se_add (se_varN 7) (se_lc (N:=["_law_one","_law_cell","_law_web"]) (js:=[none,some 2,some 3]) (ks:=[0]) (fun _=>blk_mk rfl rfl rfl rfl rfl rfl) (si_seq (se_varS 6)) (sg_name (i:=0) (ks:=[0]) (fun _=>(by decide +kernel:List.Nodup (["_law_one","_law_cell","_law_web"]:List Str))) (by decide)) sf_nil (se_call (ok_law_other_marks T) (Nat.le_of_ble_eq_true rfl) (fun _=>rfl) T.m_law_other_marks T.F_law_other_marks.kp T.b_law_other_marks (sa_cons (se_varS 1) (sa_cons (se_varS 0) (sa_cons (se_sub_ix (se_varS 2) se_int) sa_nil))) (len_cons (len_cons (len_cons (fun _ _ h=>len_nil h)))))))) (sg_name (i:=8) (ks:=[8]) (fun _=>sc_law.nd) (by decide))
    (sss_cons (ss_setS (i:=9) (sv_e (i:=9) (fun _=>sc_law.nd) (se_tup (sa_cons (se_call (ok_is_pairs T) (Nat.le_of_ble_eq_true rfl) (fun _=>rfl) T.m_is_pairs T.F_is_pairs.kp T.b_is_pairs (sa_cons (se_varS 3) (sa_cons (se_varS 8) sa_nil)) (len_cons (len_cons (fun _ _ h=>len_nil h)))) (sa_cons (se_call (ok_is_marks T) (Nat.le_of_ble_eq_true rfl) (fun _=>rfl) T.m_is_marks T.F_is_marks.kp T.b_is_marks (sa_cons (se_varS 3) (sa_cons (se_varS 8) sa_nil)) (len_cons (len_cons (fun _ _ h=>len_nil h)))) sa_nil)))))
    (sss_cons (ss_if (SW.st (sw_or (st_not (st_val (se_isi (se_sub_ix (se_varS 9) se_int) (fun _=>rfl) T.n_isinstance boot_isinstance' (fun _=>rfl) T.n_bool boot_bool'))) (sw_or1 (st_not (st_val (se_isi (se_sub_ix (se_varS 9) se_int) (fun _=>rfl) T.n_isinstance boot_isinstance' (fun _=>rfl) T.n_bool boot_bool'))))))
     (sss_one (ss_ret se_bl))
     sss_nil)
    (sss_one (ss_if (st_ne (se_varS 9) (se_tup (sa_cons (se_call (ok_law_are_pairs T) (Nat.le_of_ble_eq_true rfl) (fun _=>rfl) T.m_law_are_pairs T.F_law_are_pairs.kp T.b_law_are_pairs (sa_cons (se_varS 3) (sa_cons (se_varS 8) sa_nil)) (len_cons (len_cons (fun _ _ h=>len_nil h)))) (sa_cons (se_call (ok_law_are_marks T) (Nat.le_of_ble_eq_true rfl) (fun _=>rfl) T.m_law_are_marks T.F_law_are_marks.kp T.b_law_are_marks (sa_cons (se_varS 3) (sa_cons (se_varS 8) sa_nil)) (len_cons (len_cons (fun _ _ h=>len_nil h)))) sa_nil))))
     (sss_one (ss_ret se_bl))
     sss_nil))))))))))))))
  (sss_one (ss_ret (se_and (se_is (se_call (ok_is_pairs T) (Nat.le_of_ble_eq_true rfl) (fun _=>rfl) T.m_is_pairs T.F_is_pairs.kp T.b_is_pairs (sa_cons (se_tup (sa_cons se_int (sa_cons (se_tup sa_nil) sa_nil))) (sa_cons (se_tup sa_nil) sa_nil)) (len_cons (len_cons (fun _ _ h=>len_nil h)))) se_bl) (se_one (se_is (se_call (ok_is_marks T) (Nat.le_of_ble_eq_true rfl) (fun _=>rfl) T.m_is_marks T.F_is_marks.kp T.b_is_marks (sa_cons (se_tup (sa_cons se_int (sa_cons (se_tup sa_nil) sa_nil))) (sa_cons (se_tup (sa_cons (se_tup sa_nil) (sa_cons (se_tup sa_nil) sa_nil))) sa_nil)) (len_cons (len_cons (fun _ _ h=>len_nil h)))) se_bl))))))
theorem ok_law (T:Txt K mg t):FnOk P w K mg base (CX1 P w) 8 t.f_law t.d_law ["_law_script"] (spF K (clOf mg) 1 F_law) :=
 fn_simE (N:=["_law_script","_law_k","_law_cell","_law_web","_law_pairs","_law_every","_law_marks","_law_things","_law_thing","_law_found"]) (ps:=["_law_script"]) (k:=7) (f:=d_law) T.F_law sc_law (fun cdv A outer s H E hr=>b_law T cdv A outer s H E hr) rfl rfl
end
end VL.My
namespace VL.My
open PySem L2
theorem txt_mk {K:PySem.W.Frag} {h:Heap} {mg:Str->Option Value} {f0:Addr} {od0 an0:Option Addr} {sl0:Array (Option Value)} {oc0 kV0 dc0 pm0 cd0 ct0:Value} {f1:Addr} {od1 an1:Option Addr} {sl1:Array (Option Value)} {oc1 kV1 dc1 pm1 cd1 ct1:Value} {f2:Addr} {od2 an2:Option Addr} {sl2:Array (Option Value)} {oc2 kV2 dc2 pm2 cd2 ct2:Value} {f3:Addr} {od3 an3:Option Addr} {sl3:Array (Option Value)} {oc3 kV3 dc3 pm3 cd3 ct3:Value} {f4:Addr} {od4 an4:Option Addr} {sl4:Array (Option Value)} {oc4 kV4 dc4 pm4 cd4 ct4:Value} {f5:Addr} {od5 an5:Option Addr} {sl5:Array (Option Value)} {oc5 kV5 dc5 pm5 cd5 ct5:Value} {f6:Addr} {od6 an6:Option Addr} {sl6:Array (Option Value)} {oc6 kV6 dc6 pm6 cd6 ct6:Value} {f7:Addr} {od7 an7:Option Addr} {sl7:Array (Option Value)} {oc7 kV7 dc7 pm7 cd7 ct7:Value} {f8:Addr} {od8 an8:Option Addr} {sl8:Array (Option Value)} {oc8 kV8 dc8 pm8 cd8 ct8:Value} {f9:Addr} {od9 an9:Option Addr} {sl9:Array (Option Value)} {oc9 kV9 dc9 pm9 cd9 ct9:Value} {f10:Addr} {od10 an10:Option Addr} {sl10:Array (Option Value)} {oc10 kV10 dc10 pm10 cd10 ct10:Value} {f11:Addr} {od11 an11:Option Addr} {sl11:Array (Option Value)} {oc11 kV11 dc11 pm11 cd11 ct11:Value} {f12:Addr} {od12 an12:Option Addr} {sl12:Array (Option Value)} {oc12 kV12 dc12 pm12 cd12 ct12:Value} {f13:Addr} {od13 an13:Option Addr} {sl13:Array (Option Value)} {oc13 kV13 dc13 pm13 cd13 ct13:Value} {f14:Addr} {od14 an14:Option Addr} {sl14:Array (Option Value)} {oc14 kV14 dc14 pm14 cd14 ct14:Value} {f15:Addr} {od15 an15:Option Addr} {sl15:Array (Option Value)} {oc15 kV15 dc15 pm15 cd15 ct15:Value} {f16:Addr} {od16 an16:Option Addr} {sl16:Array (Option Value)} {oc16 kV16 dc16 pm16 cd16 ct16:Value} {f17:Addr} {od17 an17:Option Addr} {sl17:Array (Option Value)} {oc17 kV17 dc17 pm17 cd17 ct17:Value} {f18:Addr} {od18 an18:Option Addr} {sl18:Array (Option Value)} {oc18 kV18 dc18 pm18 cd18 ct18:Value} {f19:Addr} {od19 an19:Option Addr} {sl19:Array (Option Value)} {oc19 kV19 dc19 pm19 cd19 ct19:Value} {f20:Addr} {od20 an20:Option Addr} {sl20:Array (Option Value)} {oc20 kV20 dc20 pm20 cd20 ct20:Value} {f21:Addr} {od21 an21:Option Addr} {sl21:Array (Option Value)} {oc21 kV21 dc21 pm21 cd21 ct21:Value} {f22:Addr} {od22 an22:Option Addr} {sl22:Array (Option Value)} {oc22 kV22 dc22 pm22 cd22 ct22:Value} {f23:Addr} {od23 an23:Option Addr} {sl23:Array (Option Value)} {oc23 kV23 dc23 pm23 cd23 ct23:Value} {f24:Addr} {od24 an24:Option Addr} {sl24:Array (Option Value)} {oc24 kV24 dc24 pm24 cd24 ct24:Value} {f25:Addr} {od25 an25:Option Addr} {sl25:Array (Option Value)} {oc25 kV25 dc25 pm25 cd25 ct25:Value} {f26:Addr} {od26 an26:Option Addr} {sl26:Array (Option Value)} {oc26 kV26 dc26 pm26 cd26 ct26:Value} {f27:Addr} {od27 an27:Option Addr} {sl27:Array (Option Value)} {oc27 kV27 dc27 pm27 cd27 ct27:Value} {tk_MOST_PLACES:Tok} {q_FewError:Addr} {q_NoOneWay:Addr} (X:K.In h) (G:h.Ns mainGlobals mg)
  (a0:PySem.W.nsIn K mainGlobals "is_whole" = some (some (.ref f0)))
  (l0:K.lookup f0=some ⟨oc0,od0,.func (PySem.W.fnOf "is_whole" "is_whole" (defArgs s_is_whole) (defBody s_is_whole) (defScope s_is_whole) .none kV0 dc0 pm0 an0 cd0 ct0),sl0⟩)
  (c0:PySem.W.codeIn K cd0 "is_whole" = true)
  (k0:PySem.W.keepIn K (.ref f0)=true)
  (a1:PySem.W.nsIn K mainGlobals "is_many" = some (some (.ref f1)))
  (l1:K.lookup f1=some ⟨oc1,od1,.func (PySem.W.fnOf "is_many" "is_many" (defArgs s_is_many) (defBody s_is_many) (defScope s_is_many) .none kV1 dc1 pm1 an1 cd1 ct1),sl1⟩)
  (c1:PySem.W.codeIn K cd1 "is_many" = true)
  (k1:PySem.W.keepIn K (.ref f1)=true)
  (a2:PySem.W.nsIn K mainGlobals "is_place" = some (some (.ref f2)))
  (l2:K.lookup f2=some ⟨oc2,od2,.func (PySem.W.fnOf "is_place" "is_place" (defArgs s_is_place) (defBody s_is_place) (defScope s_is_place) .none kV2 dc2 pm2 an2 cd2 ct2),sl2⟩)
  (c2:PySem.W.codeIn K cd2 "is_place" = true)
  (k2:PySem.W.keepIn K (.ref f2)=true)
  (a3:PySem.W.nsIn K mainGlobals "is_pair" = some (some (.ref f3)))
  (l3:K.lookup f3=some ⟨oc3,od3,.func (PySem.W.fnOf "is_pair" "is_pair" (defArgs s_is_pair) (defBody s_is_pair) (defScope s_is_pair) .none kV3 dc3 pm3 an3 cd3 ct3),sl3⟩)
  (c3:PySem.W.codeIn K cd3 "is_pair" = true)
  (k3:PySem.W.keepIn K (.ref f3)=true)
  (a4:PySem.W.nsIn K mainGlobals "is_rising" = some (some (.ref f4)))
  (l4:K.lookup f4=some ⟨oc4,od4,.func (PySem.W.fnOf "is_rising" "is_rising" (defArgs s_is_rising) (defBody s_is_rising) (defScope s_is_rising) .none kV4 dc4 pm4 an4 cd4 ct4),sl4⟩)
  (c4:PySem.W.codeIn K cd4 "is_rising" = true)
  (k4:PySem.W.keepIn K (.ref f4)=true)
  (a5:PySem.W.nsIn K mainGlobals "are_rising_pairs" = some (some (.ref f5)))
  (l5:K.lookup f5=some ⟨oc5,od5,.func (PySem.W.fnOf "are_rising_pairs" "are_rising_pairs" (defArgs s_are_rising_pairs) (defBody s_are_rising_pairs) (defScope s_are_rising_pairs) .none kV5 dc5 pm5 an5 cd5 ct5),sl5⟩)
  (c5:PySem.W.codeIn K cd5 "are_rising_pairs" = true)
  (k5:PySem.W.keepIn K (.ref f5)=true)
  (a6:PySem.W.nsIn K mainGlobals "are_places" = some (some (.ref f6)))
  (l6:K.lookup f6=some ⟨oc6,od6,.func (PySem.W.fnOf "are_places" "are_places" (defArgs s_are_places) (defBody s_are_places) (defScope s_are_places) .none kV6 dc6 pm6 an6 cd6 ct6),sl6⟩)
  (c6:PySem.W.codeIn K cd6 "are_places" = true)
  (k6:PySem.W.keepIn K (.ref f6)=true)
  (a7:PySem.W.nsIn K mainGlobals "is_one_way" = some (some (.ref f7)))
  (l7:K.lookup f7=some ⟨oc7,od7,.func (PySem.W.fnOf "is_one_way" "is_one_way" (defArgs s_is_one_way) (defBody s_is_one_way) (defScope s_is_one_way) .none kV7 dc7 pm7 an7 cd7 ct7),sl7⟩)
  (c7:PySem.W.codeIn K cd7 "is_one_way" = true)
  (k7:PySem.W.keepIn K (.ref f7)=true)
  (a8:PySem.W.nsIn K mainGlobals "check_one_way" = some (some (.ref f8)))
  (l8:K.lookup f8=some ⟨oc8,od8,.func (PySem.W.fnOf "check_one_way" "check_one_way" (defArgs s_check_one_way) (defBody s_check_one_way) (defScope s_check_one_way) .none kV8 dc8 pm8 an8 cd8 ct8),sl8⟩)
  (c8:PySem.W.codeIn K cd8 "check_one_way" = true)
  (k8:PySem.W.keepIn K (.ref f8)=true)
  (a9:PySem.W.nsIn K mainGlobals "is_pairs" = some (some (.ref f9)))
  (l9:K.lookup f9=some ⟨oc9,od9,.func (PySem.W.fnOf "is_pairs" "is_pairs" (defArgs s_is_pairs) (defBody s_is_pairs) (defScope s_is_pairs) .none kV9 dc9 pm9 an9 cd9 ct9),sl9⟩)
  (c9:PySem.W.codeIn K cd9 "is_pairs" = true)
  (k9:PySem.W.keepIn K (.ref f9)=true)
  (a10:PySem.W.nsIn K mainGlobals "is_marks" = some (some (.ref f10)))
  (l10:K.lookup f10=some ⟨oc10,od10,.func (PySem.W.fnOf "is_marks" "is_marks" (defArgs s_is_marks) (defBody s_is_marks) (defScope s_is_marks) .none kV10 dc10 pm10 an10 cd10 ct10),sl10⟩)
  (c10:PySem.W.codeIn K cd10 "is_marks" = true)
  (k10:PySem.W.keepIn K (.ref f10)=true)
  (a11:PySem.W.nsIn K mainGlobals "_law_cell_at" = some (some (.ref f11)))
  (l11:K.lookup f11=some ⟨oc11,od11,.func (PySem.W.fnOf "_law_cell_at" "_law_cell_at" (defArgs s_law_cell_at) (defBody s_law_cell_at) (defScope s_law_cell_at) .none kV11 dc11 pm11 an11 cd11 ct11),sl11⟩)
  (c11:PySem.W.codeIn K cd11 "_law_cell_at" = true)
  (k11:PySem.W.keepIn K (.ref f11)=true)
  (a12:PySem.W.nsIn K mainGlobals "_law_draw" = some (some (.ref f12)))
  (l12:K.lookup f12=some ⟨oc12,od12,.func (PySem.W.fnOf "_law_draw" "_law_draw" (defArgs s_law_draw) (defBody s_law_draw) (defScope s_law_draw) .none kV12 dc12 pm12 an12 cd12 ct12),sl12⟩)
  (c12:PySem.W.codeIn K cd12 "_law_draw" = true)
  (k12:PySem.W.keepIn K (.ref f12)=true)
  (a13:PySem.W.nsIn K mainGlobals "_law_whole" = some (some (.ref f13)))
  (l13:K.lookup f13=some ⟨oc13,od13,.func (PySem.W.fnOf "_law_whole" "_law_whole" (defArgs s_law_whole) (defBody s_law_whole) (defScope s_law_whole) .none kV13 dc13 pm13 an13 cd13 ct13),sl13⟩)
  (c13:PySem.W.codeIn K cd13 "_law_whole" = true)
  (k13:PySem.W.keepIn K (.ref f13)=true)
  (a14:PySem.W.nsIn K mainGlobals "_law_turn" = some (some (.ref f14)))
  (l14:K.lookup f14=some ⟨oc14,od14,.func (PySem.W.fnOf "_law_turn" "_law_turn" (defArgs s_law_turn) (defBody s_law_turn) (defScope s_law_turn) .none kV14 dc14 pm14 an14 cd14 ct14),sl14⟩)
  (c14:PySem.W.codeIn K cd14 "_law_turn" = true)
  (k14:PySem.W.keepIn K (.ref f14)=true)
  (a15:PySem.W.nsIn K mainGlobals "_law_one_way" = some (some (.ref f15)))
  (l15:K.lookup f15=some ⟨oc15,od15,.func (PySem.W.fnOf "_law_one_way" "_law_one_way" (defArgs s_law_one_way) (defBody s_law_one_way) (defScope s_law_one_way) .none kV15 dc15 pm15 an15 cd15 ct15),sl15⟩)
  (c15:PySem.W.codeIn K cd15 "_law_one_way" = true)
  (k15:PySem.W.keepIn K (.ref f15)=true)
  (a16:PySem.W.nsIn K mainGlobals "_law_odd" = some (some (.ref f16)))
  (l16:K.lookup f16=some ⟨oc16,od16,.func (PySem.W.fnOf "_law_odd" "_law_odd" (defArgs s_law_odd) (defBody s_law_odd) (defScope s_law_odd) .none kV16 dc16 pm16 an16 cd16 ct16),sl16⟩)
  (c16:PySem.W.codeIn K cd16 "_law_odd" = true)
  (k16:PySem.W.keepIn K (.ref f16)=true)
  (a17:PySem.W.nsIn K mainGlobals "_law_rising" = some (some (.ref f17)))
  (l17:K.lookup f17=some ⟨oc17,od17,.func (PySem.W.fnOf "_law_rising" "_law_rising" (defArgs s_law_rising) (defBody s_law_rising) (defScope s_law_rising) .none kV17 dc17 pm17 an17 cd17 ct17),sl17⟩)
  (c17:PySem.W.codeIn K cd17 "_law_rising" = true)
  (k17:PySem.W.keepIn K (.ref f17)=true)
  (a18:PySem.W.nsIn K mainGlobals "_law_places" = some (some (.ref f18)))
  (l18:K.lookup f18=some ⟨oc18,od18,.func (PySem.W.fnOf "_law_places" "_law_places" (defArgs s_law_places) (defBody s_law_places) (defScope s_law_places) .none kV18 dc18 pm18 an18 cd18 ct18),sl18⟩)
  (c18:PySem.W.codeIn K cd18 "_law_places" = true)
  (k18:PySem.W.keepIn K (.ref f18)=true)
  (a19:PySem.W.nsIn K mainGlobals "_law_are_places" = some (some (.ref f19)))
  (l19:K.lookup f19=some ⟨oc19,od19,.func (PySem.W.fnOf "_law_are_places" "_law_are_places" (defArgs s_law_are_places) (defBody s_law_are_places) (defScope s_law_are_places) .none kV19 dc19 pm19 an19 cd19 ct19),sl19⟩)
  (c19:PySem.W.codeIn K cd19 "_law_are_places" = true)
  (k19:PySem.W.keepIn K (.ref f19)=true)
  (a20:PySem.W.nsIn K mainGlobals "_law_is_arrow" = some (some (.ref f20)))
  (l20:K.lookup f20=some ⟨oc20,od20,.func (PySem.W.fnOf "_law_is_arrow" "_law_is_arrow" (defArgs s_law_is_arrow) (defBody s_law_is_arrow) (defScope s_law_is_arrow) .none kV20 dc20 pm20 an20 cd20 ct20),sl20⟩)
  (c20:PySem.W.codeIn K cd20 "_law_is_arrow" = true)
  (k20:PySem.W.keepIn K (.ref f20)=true)
  (a21:PySem.W.nsIn K mainGlobals "_law_are_pairs" = some (some (.ref f21)))
  (l21:K.lookup f21=some ⟨oc21,od21,.func (PySem.W.fnOf "_law_are_pairs" "_law_are_pairs" (defArgs s_law_are_pairs) (defBody s_law_are_pairs) (defScope s_law_are_pairs) .none kV21 dc21 pm21 an21 cd21 ct21),sl21⟩)
  (c21:PySem.W.codeIn K cd21 "_law_are_pairs" = true)
  (k21:PySem.W.keepIn K (.ref f21)=true)
  (a22:PySem.W.nsIn K mainGlobals "_law_are_marks" = some (some (.ref f22)))
  (l22:K.lookup f22=some ⟨oc22,od22,.func (PySem.W.fnOf "_law_are_marks" "_law_are_marks" (defArgs s_law_are_marks) (defBody s_law_are_marks) (defScope s_law_are_marks) .none kV22 dc22 pm22 an22 cd22 ct22),sl22⟩)
  (c22:PySem.W.codeIn K cd22 "_law_are_marks" = true)
  (k22:PySem.W.keepIn K (.ref f22)=true)
  (a23:PySem.W.nsIn K mainGlobals "_law_drawn_pairs" = some (some (.ref f23)))
  (l23:K.lookup f23=some ⟨oc23,od23,.func (PySem.W.fnOf "_law_drawn_pairs" "_law_drawn_pairs" (defArgs s_law_drawn_pairs) (defBody s_law_drawn_pairs) (defScope s_law_drawn_pairs) .none kV23 dc23 pm23 an23 cd23 ct23),sl23⟩)
  (c23:PySem.W.codeIn K cd23 "_law_drawn_pairs" = true)
  (k23:PySem.W.keepIn K (.ref f23)=true)
  (a24:PySem.W.nsIn K mainGlobals "_law_bent_row" = some (some (.ref f24)))
  (l24:K.lookup f24=some ⟨oc24,od24,.func (PySem.W.fnOf "_law_bent_row" "_law_bent_row" (defArgs s_law_bent_row) (defBody s_law_bent_row) (defScope s_law_bent_row) .none kV24 dc24 pm24 an24 cd24 ct24),sl24⟩)
  (c24:PySem.W.codeIn K cd24 "_law_bent_row" = true)
  (k24:PySem.W.keepIn K (.ref f24)=true)
  (a25:PySem.W.nsIn K mainGlobals "_law_other_pairs" = some (some (.ref f25)))
  (l25:K.lookup f25=some ⟨oc25,od25,.func (PySem.W.fnOf "_law_other_pairs" "_law_other_pairs" (defArgs s_law_other_pairs) (defBody s_law_other_pairs) (defScope s_law_other_pairs) .none kV25 dc25 pm25 an25 cd25 ct25),sl25⟩)
  (c25:PySem.W.codeIn K cd25 "_law_other_pairs" = true)
  (k25:PySem.W.keepIn K (.ref f25)=true)
  (a26:PySem.W.nsIn K mainGlobals "_law_other_marks" = some (some (.ref f26)))
  (l26:K.lookup f26=some ⟨oc26,od26,.func (PySem.W.fnOf "_law_other_marks" "_law_other_marks" (defArgs s_law_other_marks) (defBody s_law_other_marks) (defScope s_law_other_marks) .none kV26 dc26 pm26 an26 cd26 ct26),sl26⟩)
  (c26:PySem.W.codeIn K cd26 "_law_other_marks" = true)
  (k26:PySem.W.keepIn K (.ref f26)=true)
  (a27:PySem.W.nsIn K mainGlobals "law" = some (some (.ref f27)))
  (l27:K.lookup f27=some ⟨oc27,od27,.func (PySem.W.fnOf "law" "law" (defArgs s_law) (defBody s_law) (defScope s_law) .none kV27 dc27 pm27 an27 cd27 ct27),sl27⟩)
  (c27:PySem.W.codeIn K cd27 "law" = true)
  (k27:PySem.W.keepIn K (.ref f27)=true)
  (g_MOST_PLACES:PySem.W.nsIn K mainGlobals "MOST_PLACES" = some (some (.int 60 tk_MOST_PLACES)))
  (y_FewError:PySem.W.nsIn K mainGlobals "FewError" = some (some (.ref q_FewError)))
  (x_FewError:PySem.W.excIn K q_FewError [.type "ValueError",.type "Exception",.type "BaseException",.type "object"] "ValueError.__new__" = true)
  (y_NoOneWay:PySem.W.nsIn K mainGlobals "NoOneWay" = some (some (.ref q_NoOneWay)))
  (x_NoOneWay:PySem.W.excIn K q_NoOneWay [.type "ValueError",.type "Exception",.type "BaseException",.type "object"] "ValueError.__new__" = true)
  (z_all:PySem.W.nsIn K mainGlobals "all" = some none)
  (z_bool:PySem.W.nsIn K mainGlobals "bool" = some none)
  (z_enumerate:PySem.W.nsIn K mainGlobals "enumerate" = some none)
  (z_int:PySem.W.nsIn K mainGlobals "int" = some none)
  (z_isinstance:PySem.W.nsIn K mainGlobals "isinstance" = some none)
  (z_len:PySem.W.nsIn K mainGlobals "len" = some none)
  (z_list:PySem.W.nsIn K mainGlobals "list" = some none)
  (z_max:PySem.W.nsIn K mainGlobals "max" = some none)
  (z_min:PySem.W.nsIn K mainGlobals "min" = some none)
  (z_range:PySem.W.nsIn K mainGlobals "range" = some none)
  (z_set:PySem.W.nsIn K mainGlobals "set" = some none)
  (z_sorted:PySem.W.nsIn K mainGlobals "sorted" = some none)
  (z_tuple:PySem.W.nsIn K mainGlobals "tuple" = some none) :
  ∃ t,Txt K mg t:=by
 have F0:=fun_mk (st:=s_is_whole) l0 c0 k0
 have B0:=F0.binds (ps:=["thing"]) fun _ _ _ _ _ _ us hl=>by obtain ⟨_,rfl⟩:=len1 hl; rfl
 have F1:=fun_mk (st:=s_is_many) l1 c1 k1
 have B1:=F1.binds (ps:=["thing"]) fun _ _ _ _ _ _ us hl=>by obtain ⟨_,rfl⟩:=len1 hl; rfl
 have F2:=fun_mk (st:=s_is_place) l2 c2 k2
 have B2:=F2.binds (ps:=["many","thing"]) fun _ _ _ _ _ _ us hl=>by obtain ⟨_,_,rfl⟩:=len2 hl; rfl
 have F3:=fun_mk (st:=s_is_pair) l3 c3 k3
 have B3:=F3.binds (ps:=["many","thing"]) fun _ _ _ _ _ _ us hl=>by obtain ⟨_,_,rfl⟩:=len2 hl; rfl
 have F4:=fun_mk (st:=s_is_rising) l4 c4 k4
 have B4:=F4.binds (ps:=["things"]) fun _ _ _ _ _ _ us hl=>by obtain ⟨_,rfl⟩:=len1 hl; rfl
 have F5:=fun_mk (st:=s_are_rising_pairs) l5 c5 k5
 have B5:=F5.binds (ps:=["many","thing"]) fun _ _ _ _ _ _ us hl=>by obtain ⟨_,_,rfl⟩:=len2 hl; rfl
 have F6:=fun_mk (st:=s_are_places) l6 c6 k6
 have B6:=F6.binds (ps:=["many","thing"]) fun _ _ _ _ _ _ us hl=>by obtain ⟨_,_,rfl⟩:=len2 hl; rfl
 have F7:=fun_mk (st:=s_is_one_way) l7 c7 k7
 have B7:=F7.binds (ps:=["thing"]) fun _ _ _ _ _ _ us hl=>by obtain ⟨_,rfl⟩:=len1 hl; rfl
 have F8:=fun_mk (st:=s_check_one_way) l8 c8 k8
 have B8:=F8.binds (ps:=["thing"]) fun _ _ _ _ _ _ us hl=>by obtain ⟨_,rfl⟩:=len1 hl; rfl
 have F9:=fun_mk (st:=s_is_pairs) l9 c9 k9
 have B9:=F9.binds (ps:=["web","thing"]) fun _ _ _ _ _ _ us hl=>by obtain ⟨_,_,rfl⟩:=len2 hl; rfl
 have F10:=fun_mk (st:=s_is_marks) l10 c10 k10
 have B10:=F10.binds (ps:=["web","thing"]) fun _ _ _ _ _ _ us hl=>by obtain ⟨_,_,rfl⟩:=len2 hl; rfl
 have F11:=fun_mk (st:=s_law_cell_at) l11 c11 k11
 have B11:=F11.binds (ps:=["_law_script","_law_k"]) fun _ _ _ _ _ _ us hl=>by obtain ⟨_,_,rfl⟩:=len2 hl; rfl
 have F12:=fun_mk (st:=s_law_draw) l12 c12 k12
 have B12:=F12.binds (ps:=["_law_cell","_law_k","_law_bound"]) fun _ _ _ _ _ _ us hl=>by obtain ⟨_,_,_,rfl⟩:=len3 hl; rfl
 have F13:=fun_mk (st:=s_law_whole) l13 c13 k13
 have B13:=F13.binds (ps:=["_law_found"]) fun _ _ _ _ _ _ us hl=>by obtain ⟨_,rfl⟩:=len1 hl; rfl
 have F14:=fun_mk (st:=s_law_turn) l14 c14 k14
 have B14:=F14.binds (ps:=["_law_cell","_law_many"]) fun _ _ _ _ _ _ us hl=>by obtain ⟨_,_,rfl⟩:=len2 hl; rfl
 have F15:=fun_mk (st:=s_law_one_way) l15 c15 k15
 have B15:=F15.binds (ps:=["_law_cell","_law_most"]) fun _ _ _ _ _ _ us hl=>by obtain ⟨_,_,rfl⟩:=len2 hl; rfl
 have F16:=fun_mk (st:=s_law_odd) l16 c16 k16
 have B16:=F16.binds (ps:=["_law_cell"]) fun _ _ _ _ _ _ us hl=>by obtain ⟨_,rfl⟩:=len1 hl; rfl
 have F17:=fun_mk (st:=s_law_rising) l17 c17 k17
 have B17:=F17.binds (ps:=["_law_row"]) fun _ _ _ _ _ _ us hl=>by obtain ⟨_,rfl⟩:=len1 hl; rfl
 have F18:=fun_mk (st:=s_law_places) l18 c18 k18
 have B18:=F18.binds (ps:=["_law_cell","_law_spot","_law_many"]) fun _ _ _ _ _ _ us hl=>by obtain ⟨_,_,_,rfl⟩:=len3 hl; rfl
 have F19:=fun_mk (st:=s_law_are_places) l19 c19 k19
 have B19:=F19.binds (ps:=["_law_thing","_law_many"]) fun _ _ _ _ _ _ us hl=>by obtain ⟨_,_,rfl⟩:=len2 hl; rfl
 have F20:=fun_mk (st:=s_law_is_arrow) l20 c20 k20
 have B20:=F20.binds (ps:=["_law_thing","_law_many"]) fun _ _ _ _ _ _ us hl=>by obtain ⟨_,_,rfl⟩:=len2 hl; rfl
 have F21:=fun_mk (st:=s_law_are_pairs) l21 c21 k21
 have B21:=F21.binds (ps:=["_law_web","_law_thing"]) fun _ _ _ _ _ _ us hl=>by obtain ⟨_,_,rfl⟩:=len2 hl; rfl
 have F22:=fun_mk (st:=s_law_are_marks) l22 c22 k22
 have B22:=F22.binds (ps:=["_law_web","_law_thing"]) fun _ _ _ _ _ _ us hl=>by obtain ⟨_,_,rfl⟩:=len2 hl; rfl
 have F23:=fun_mk (st:=s_law_drawn_pairs) l23 c23 k23
 have B23:=F23.binds (ps:=["_law_cell","_law_web"]) fun _ _ _ _ _ _ us hl=>by obtain ⟨_,_,rfl⟩:=len2 hl; rfl
 have F24:=fun_mk (st:=s_law_bent_row) l24 c24 k24
 have B24:=F24.binds (ps:=["_law_cell","_law_spot","_law_row","_law_many"]) fun _ _ _ _ _ _ us hl=>by obtain ⟨_,_,_,_,rfl⟩:=len4 hl; rfl
 have F25:=fun_mk (st:=s_law_other_pairs) l25 c25 k25
 have B25:=F25.binds (ps:=["_law_cell","_law_pairs","_law_web"]) fun _ _ _ _ _ _ us hl=>by obtain ⟨_,_,_,rfl⟩:=len3 hl; rfl
 have F26:=fun_mk (st:=s_law_other_marks) l26 c26 k26
 have B26:=F26.binds (ps:=["_law_cell","_law_marks","_law_many"]) fun _ _ _ _ _ _ us hl=>by obtain ⟨_,_,_,rfl⟩:=len3 hl; rfl
 have F27:=fun_mk (st:=s_law) l27 c27 k27
 have B27:=F27.binds (ps:=["_law_script"]) fun _ _ _ _ _ _ us hl=>by obtain ⟨_,rfl⟩:=len1 hl; rfl
 exact ⟨⟨f0,_,f1,_,f2,_,f3,_,f4,_,f5,_,f6,_,f7,_,f8,_,f9,_,f10,_,f11,_,f12,_,f13,_,f14,_,f15,_,f16,_,f17,_,f18,_,f19,_,f20,_,f21,_,f22,_,f23,_,f24,_,f25,_,f26,_,f27,_,_,q_FewError,q_NoOneWay⟩,⟨F0,PySem.W.mg_of X G a0,B0,F1,PySem.W.mg_of X G a1,B1,F2,PySem.W.mg_of X G a2,B2,F3,PySem.W.mg_of X G a3,B3,F4,PySem.W.mg_of X G a4,B4,F5,PySem.W.mg_of X G a5,B5,F6,PySem.W.mg_of X G a6,B6,F7,PySem.W.mg_of X G a7,B7,F8,PySem.W.mg_of X G a8,B8,F9,PySem.W.mg_of X G a9,B9,F10,PySem.W.mg_of X G a10,B10,F11,PySem.W.mg_of X G a11,B11,F12,PySem.W.mg_of X G a12,B12,F13,PySem.W.mg_of X G a13,B13,F14,PySem.W.mg_of X G a14,B14,F15,PySem.W.mg_of X G a15,B15,F16,PySem.W.mg_of X G a16,B16,F17,PySem.W.mg_of X G a17,B17,F18,PySem.W.mg_of X G a18,B18,F19,PySem.W.mg_of X G a19,B19,F20,PySem.W.mg_of X G a20,B20,F21,PySem.W.mg_of X G a21,B21,F22,PySem.W.mg_of X G a22,B22,F23,PySem.W.mg_of X G a23,B23,F24,PySem.W.mg_of X G a24,B24,F25,PySem.W.mg_of X G a25,B25,F26,PySem.W.mg_of X G a26,B26,F27,PySem.W.mg_of X G a27,B27,PySem.W.mg_of X G g_MOST_PLACES,⟨_,rfl⟩,PySem.W.mg_of X G y_FewError,(by unfold clOf; rw [PySem.W.mg_of X G y_FewError]),x_FewError,PySem.W.mg_of X G y_NoOneWay,(by unfold clOf; rw [PySem.W.mg_of X G y_NoOneWay]),x_NoOneWay,PySem.W.mg_none_of X G z_all,PySem.W.mg_none_of X G z_bool,PySem.W.mg_none_of X G z_enumerate,PySem.W.mg_none_of X G z_int,PySem.W.mg_none_of X G z_isinstance,PySem.W.mg_none_of X G z_len,PySem.W.mg_none_of X G z_list,PySem.W.mg_none_of X G z_max,PySem.W.mg_none_of X G z_min,PySem.W.mg_none_of X G z_range,PySem.W.mg_none_of X G z_set,PySem.W.mg_none_of X G z_sorted,PySem.W.mg_none_of X G z_tuple⟩⟩
theorem all_mk {l:PySem.W.OpenLaw} {w:World} {K:PySem.W.Frag} {h:Heap} {mg:Str->Option Value} {fa:Addr} (X:K.In h) (G:h.Ns mainGlobals mg) (hfa:mg "law" = some (.ref fa)) (ht:∃ t,Txt K mg t) :
  ∃ fd:FuncData,(∀ (s:Shared) (v:Value),BindsTo s fd ⟨[v],[]⟩ [("_law_script",v)])/\∀ base:Heap,K.In base->base.Ns mainGlobals mg->FnOk l.prog w K mg base (CX1 l.prog w) 8 fa fd ["_law_script"] (spLaw K):=by
 obtain ⟨t,T⟩:=ht
 have e:=hfa.symm.trans T.m_law
 cases e
 refine ⟨t.d_law,fun s v=>?_,fun base _ _=>(ok_law T).imp (law_imp law_true)⟩
 obtain ⟨oc,od,kV,doc,pm,an,cdv,ct,osl,e,lk,hcd⟩:=T.F_law.ex
 rw [e]
 exact .of_eq rfl
theorem walk {l:PySem.W.OpenLaw} {q:Program} {loose:List Str} {XP:(Str->Option Value)->Heap->Prop} {YP:World->Heap->Prop} {d:DefRec} {K:Params->PySem.W.Frag} (hn:l.most=some 63) (hdf:d.params.defaults=[])
  (hY:∀ (w:World) (h:Heap),YP w h->(K w.params).In h)
  (F:∀ (w:World) (mg:Str->Option Value) (fa:Addr) (h:Heap),(K w.params).In h->h.Ns mainGlobals mg->mg d.name=some (.ref fa) ->
   ∃ fd:FuncData,(∀ (s:Shared) (u:Value),BindsTo s fd ⟨[u],[]⟩ [("_law_script",u)])/\∀ base:Heap,(K w.params).In base->base.Ns mainGlobals mg->FnOk l.prog w (K w.params) mg base (CX1 l.prog w) 8 fa fd ["_law_script"] (spLaw (K w.params))) :
  PySem.W.WalkO q loose XP YP l.row.toRowW d [] (fun f vs=>PySem.call f vs) :=
 L2.walk_of (n:=63) (k:=8) (x:="_law_script") (CX:=fun w=>CX1 l.prog w) (sp:=fun w=>spLaw (K w.params)) hn (by decide) hdf ⟨rfl,by decide,by decide⟩ hY F (fun _ _ a ns hl hO hS=>⟨a,ns,rfl,scr_of hO hS,hl,fun _=>rfl⟩) fun _ _ _ _ _ ⟨_,_,_,_,_,_,_,_,_,_,_,_,_,z⟩=>z
end VL.My
open PySem PySem.W PyProof.Rows
set_option maxRecDepth 100000 in
set_option maxHeartbeats 0 in
theorem PySem.Challenge.cw_fewways_k54_pairs_and_marks_looked_at_holds : PySem.Challenge.rw_fewways_k54_pairs_and_marks_looked_at.Holds := by
 w_on; o_law; k_head; (case hw=>w_witness2)
 k_fill
 refine VL.My.walk (l:=PySem.Challenge.rw_fewways_k54_pairs_and_marks_looked_at) rfl rfl (fun w h Y=>PySem.W.kIn_of Y) ?F
 case F =>
  intro w mg fa h KX G hmg
  refine VL.My.all_mk KX G hmg ?T
  case T =>
   refine' VL.My.txt_mk KX G ?a0 ?l0 ?c0 ?k0 ?a1 ?l1 ?c1 ?k1 ?a2 ?l2 ?c2 ?k2 ?a3 ?l3 ?c3 ?k3 ?a4 ?l4 ?c4 ?k4 ?a5 ?l5 ?c5 ?k5 ?a6 ?l6 ?c6 ?k6 ?a7 ?l7 ?c7 ?k7 ?a8 ?l8 ?c8 ?k8 ?a9 ?l9 ?c9 ?k9 ?a10 ?l10 ?c10 ?k10 ?a11 ?l11 ?c11 ?k11 ?a12 ?l12 ?c12 ?k12 ?a13 ?l13 ?c13 ?k13 ?a14 ?l14 ?c14 ?k14 ?a15 ?l15 ?c15 ?k15 ?a16 ?l16 ?c16 ?k16 ?a17 ?l17 ?c17 ?k17 ?a18 ?l18 ?c18 ?k18 ?a19 ?l19 ?c19 ?k19 ?a20 ?l20 ?c20 ?k20 ?a21 ?l21 ?c21 ?k21 ?a22 ?l22 ?c22 ?k22 ?a23 ?l23 ?c23 ?k23 ?a24 ?l24 ?c24 ?k24 ?a25 ?l25 ?c25 ?k25 ?a26 ?l26 ?c26 ?k26 ?a27 ?l27 ?c27 ?k27 ?g_MOST_PLACES ?y_FewError ?x_FewError ?y_NoOneWay ?x_NoOneWay ?z_all ?z_bool ?z_enumerate ?z_int ?z_isinstance ?z_len ?z_list ?z_max ?z_min ?z_range ?z_set ?z_sorted ?z_tuple
   (case a0=>k_is)
   (case l0=>k_is)
   (case c0=>k_is)
   (case k0=>k_is)
   (case a1=>k_is)
   (case l1=>k_is)
   (case c1=>k_is)
   (case k1=>k_is)
   (case a2=>k_is)
   (case l2=>k_is)
   (case c2=>k_is)
   (case k2=>k_is)
   (case a3=>k_is)
   (case l3=>k_is)
   (case c3=>k_is)
   (case k3=>k_is)
   (case a4=>k_is)
   (case l4=>k_is)
   (case c4=>k_is)
   (case k4=>k_is)
   (case a5=>k_is)
   (case l5=>k_is)
   (case c5=>k_is)
   (case k5=>k_is)
   (case a6=>k_is)
   (case l6=>k_is)
   (case c6=>k_is)
   (case k6=>k_is)
   (case a7=>k_is)
   (case l7=>k_is)
   (case c7=>k_is)
   (case k7=>k_is)
   (case a8=>k_is)
   (case l8=>k_is)
   (case c8=>k_is)
   (case k8=>k_is)
   (case a9=>k_is)
   (case l9=>k_is)
   (case c9=>k_is)
   (case k9=>k_is)
   (case a10=>k_is)
   (case l10=>k_is)
   (case c10=>k_is)
   (case k10=>k_is)
   (case a11=>k_is)
   (case l11=>k_is)
   (case c11=>k_is)
   (case k11=>k_is)
   (case a12=>k_is)
   (case l12=>k_is)
   (case c12=>k_is)
   (case k12=>k_is)
   (case a13=>k_is)
   (case l13=>k_is)
   (case c13=>k_is)
   (case k13=>k_is)
   (case a14=>k_is)
   (case l14=>k_is)
   (case c14=>k_is)
   (case k14=>k_is)
   (case a15=>k_is)
   (case l15=>k_is)
   (case c15=>k_is)
   (case k15=>k_is)
   (case a16=>k_is)
   (case l16=>k_is)
   (case c16=>k_is)
   (case k16=>k_is)
   (case a17=>k_is)
   (case l17=>k_is)
   (case c17=>k_is)
   (case k17=>k_is)
   (case a18=>k_is)
   (case l18=>k_is)
   (case c18=>k_is)
   (case k18=>k_is)
   (case a19=>k_is)
   (case l19=>k_is)
   (case c19=>k_is)
   (case k19=>k_is)
   (case a20=>k_is)
   (case l20=>k_is)
   (case c20=>k_is)
   (case k20=>k_is)
   (case a21=>k_is)
   (case l21=>k_is)
   (case c21=>k_is)
   (case k21=>k_is)
   (case a22=>k_is)
   (case l22=>k_is)
   (case c22=>k_is)
   (case k22=>k_is)
   (case a23=>k_is)
   (case l23=>k_is)
   (case c23=>k_is)
   (case k23=>k_is)
   (case a24=>k_is)
   (case l24=>k_is)
   (case c24=>k_is)
   (case k24=>k_is)
   (case a25=>k_is)
   (case l25=>k_is)
   (case c25=>k_is)
   (case k25=>k_is)
   (case a26=>k_is)
   (case l26=>k_is)
   (case c26=>k_is)
   (case k26=>k_is)
   (case a27=>k_is)
   (case l27=>k_is)
   (case c27=>k_is)
   (case k27=>k_is)
   (case g_MOST_PLACES=>k_is)
   (case y_FewError=>k_is)
   (case x_FewError=>k_exc)
   (case y_NoOneWay=>k_is)
   (case x_NoOneWay=>k_exc)
   (case z_all=>k_is)
   (case z_bool=>k_is)
   (case z_enumerate=>k_is)
   (case z_int=>k_is)
   (case z_isinstance=>k_is)
   (case z_len=>k_is)
   (case z_list=>k_is)
   (case z_max=>k_is)
   (case z_min=>k_is)
   (case z_range=>k_is)
   (case z_set=>k_is)
   (case z_sorted=>k_is)
   (case z_tuple=>k_is)
