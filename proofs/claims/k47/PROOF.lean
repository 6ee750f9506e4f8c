import PyProof.Rows.All
import Wide.All
import OpenK.AllK
import Wide.FinOn
import Lean
import PyProof.EqAt
import PyProof.EqKinds
import PyProof.TupleCall
import PyProof.NeKinds
import PyProof.EnumFor
import PyProof.EnumMake
import PyProof.Rows.EnumRows
import PyProof.Rows.Range3
import PyProof.NoPylong
import PyProof.ListRange
import PyProof.TupleOfSeq
import PyProof.TupleOfStr
import PyProof.Draws
import PyProof.ZipIter
import PyProof.Rows.ZipGen
import PyProof.Rows.SortStr
import PyProof.Rows.TupAdd
import PyProof.SetRoads
import PyProof.Rows.SetFrom
import PyProof.StrWalks
import PyProof.CollectWalk
import KE.KDictList
import PyProof.Tail
import PyProof.TupleIter
import PyProof.AttrMiss
import KE.KDictOf
import OpenK.KTop
import PyProof.Rows.SortRev
import PyProof.Rows.CallKwBuiltin
import PyProof.Rows.CallKw2
import KE.KRevIter
import PyProof.SumWalkG
import Wide.Seal
import PyProof.AttrMissHeap
import PySem.Challenge.RW_lassoscribe_k47_denied_rows
open Option renaming bind_eq_some_iff → qaA, map_eq_some_iff → qoB, bind_assoc → quB
open PySem renaming wpAny_bind → qbA, wpAny_pure → qcA, wpAny_rule → qdA, wpAny_holding → qeA, sizeLine_eq → qtB, builtinLookup_eq_fast → qbC, wpAny_call_entry → qoC, wpAny_setState_of → qpC
open List renaming length_map → qfA, length_append → qgA, length_cons → qhA, length_singleton → qiA, length_range → qjA, length_take → qkA, mem_append → qmA, mem_cons → qnA, mem_map → qoA, mem_filter → qpA, mem_singleton → qqA, mem_cons_self → qrA, mem_cons_of_mem → qsA, mem_range → qtA, mem_of_getElem? → quA, getElem?_eq_some_iff → qvA, getElem?_eq_getElem → qwA, getElem?_append_left → qxA, getElem?_append_right → qyA, getElem?_eq_none → qzA, getElem?_map → qaB, getD_eq_getElem?_getD → qbB, map_cons → qcB, map_append → qdB, append_assoc → qeB, append_nil → qfB, nodup_append → qgB, filter_append → qhB, filter_cons_of_pos → qiB, filter_cons_of_neg → qjB, size_toArray → qaC, not_mem_nil → qkC, mem_append_right → qnC, foldl_cons → qqC
open Nat renaming le_refl → qkB, le_trans → qmB, lt_irrefl → qnB, ne_of_lt → qjC, lt_of_lt_of_le → qmC, zero_le → qrC, ne_of_gt → qsC
open Option.some renaming inj → qpB
open PySem.Heap renaming lt_size → qqB, get?_push_of_some → qrB, get?_push_size → qsB
open Int renaming toNat_natCast → qvB, eq_ofNat_of_zero_le → qwB, emod_nonneg → qxB, emod_lt_of_pos → qyB
open Bool renaming false_ne_true → qzB, and_eq_true → qtC
open PySem.W renaming nsIn → qcC, mg_of → qdC, keepIn → qeC, codeIn → qfC, fnOf → qgC
open List.cons renaming inj → qhC
open Array renaming length_toList → qiC
noncomputable section
set_option Elab.async false
set_option linter.all false
set_option maxRecDepth 100000
set_option maxHeartbeats 4000000
theorem bE {α β : Type} {o : Option α} {f : α -> Option β} {b : β} {C : Prop} (h : o.bind f = some b) (k : ∀ a, o = some a -> f a = some b -> C) : C := by
 obtain ⟨a, h1, h2⟩ := qaA.mp h
 exact k a h1 h2
abbrev FZ9 := PySem.W.Frag
namespace L2
open PySem PySem.Spec PyProof.Rows
abbrev Key:=Sum Int Str
def DN:Key->Value->Bool
 | .inl k,v=>Value.isInt k v
 | .inr x,v=>Value.isStrOf x v
def keyH (w:World):Key->Int
 | .inl k=>hashInt k
 | .inr x=>hashStr w x
theorem BH:∀ {k:Key}{v:Value},DN k v=true->(∃ i t,k=Sum.inl i/\v=Value.int i t)\/(∃ x t,k=Sum.inr x/\v=Value.str x t)
 | .inl i,v,h=>by
  obtain ⟨t,e⟩:=Value.isInt_shape (k:=i) (v:=v) h
  exact .inl ⟨i,t,rfl,e⟩
 | .inr x,v,h=>by
  obtain ⟨t,e⟩:=Value.isStrOf_shape (x:=x) (v:=v) h
  exact .inr ⟨x,t,rfl,e⟩
theorem keyIs_int (i:Int)(t:Tok):DN (.inl i) (.int i t)=true:=by simp [DN,Value.isInt]
theorem keyIs_str (x:Str)(t:Tok):DN (.inr x) (.str x t)=true:=by simp [DN,Value.isStrOf]
theorem key_ll (a b:Int):decide ((Sum.inl a:Key)=Sum.inl b)=(a == b):=by
 by_cases e:a=b
 ·subst e;simp
 ·have h:¬ (Sum.inl a:Key)=Sum.inl b:=fun q=>e (Sum.inl.inj q)
  rw [decide_eq_false h]
  exact (beq_eq_false_iff_ne.mpr e).symm
theorem key_rr (a b:Str):decide ((Sum.inr a:Key)=Sum.inr b)=decide (a=b):=by
 by_cases e:a=b
 ·subst e;simp
 ·have h:¬ (Sum.inr a:Key)=Sum.inr b:=fun q=>e (Sum.inr.inj q)
  rw [decide_eq_false h,decide_eq_false e]
theorem key_lr (a:Int)(b:Str):decide ((Sum.inl a:Key)=Sum.inr b)=false:=decide_eq_false (fun q=>nomatch q)
theorem key_rl (a:Str)(b:Int):decide ((Sum.inr a:Key)=Sum.inl b)=false:=decide_eq_false (fun q=>nomatch q)
def B6 (prog:Program)(w:World):PySem.KeyKind prog w Key where
 is:=DN
 hash:=keyH w
 inj:=fun v a b ha hb=>by
  rcases BH ha with ⟨i,t,rfl,rfl⟩ | ⟨x,t,rfl,rfl⟩
  ·rcases BH hb with ⟨j,u,rfl,e⟩ | ⟨y,u,rfl,e⟩
   ·injection e with e1 _;rw [e1]
   ·exact nomatch e
  ·rcases BH hb with ⟨j,u,rfl,e⟩ | ⟨y,u,rfl,e⟩
   ·exact nomatch e
   ·injection e with e1 _;rw [e1]
 byValue:=fun k v h=>by
  rcases BH h with ⟨i,t,rfl,rfl⟩ | ⟨x,t,rfl,rfl⟩<;>rfl
 pyHash:=fun hv h=>by
  rcases BH hv with ⟨i,t,rfl,rfl⟩ | ⟨x,t,rfl,rfl⟩
  ·exact wpAny_pyHash_int h
  ·exact wpAny_pyHash_str h
 eqBool:=fun hu hv h=>by
  rcases BH hu with ⟨i,t,rfl,rfl⟩ | ⟨x,t,rfl,rfl⟩
  ·rcases BH hv with ⟨j,u,rfl,rfl⟩ | ⟨y,u,rfl,rfl⟩
   ·rw [key_ll] at h;exact wpAny_eqBool_int h
   ·rw [key_lr] at h;exact SeqAt.EqAt.int_str i t y u _ _ _ _ h
  ·rcases BH hv with ⟨j,u,rfl,rfl⟩ | ⟨y,u,rfl,rfl⟩
   ·rw [key_rl] at h;exact SeqAt.EqAt.str_int x t j u _ _ _ _ h
   ·rw [key_rr] at h;exact wpAny_eqBool_str h
 «strs»:=fun k x t v h=>by
  rcases BH h with ⟨i,u,rfl,e⟩ | ⟨y,u,rfl,e⟩
  ·exact nomatch e
  ·injection e with e1 _
   subst e1
   cases v<;>rfl
theorem mixKind_int (prog:Program)(w:World)(i:Int)(t:Tok):(B6 prog w).is (.inl i) (.int i t)=true:=keyIs_int i t
theorem mixKind_str (prog:Program)(w:World)(x:Str)(t:Tok):(B6 prog w).is (.inr x) (.str x t)=true:=keyIs_str x t
inductive V where
 | non|bl (b:Bool)|int (i:Int)|str (x:Str)|byt (b:Array UInt8)|flt (b:UInt64)|ref (a:Addr)|ty (n:String)
 deriving DecidableEq
def RelV:V->Value->Prop
 | .non,u=>u=Value.none
 | .bl b,u=>u=Value.bool b
 | .int i,u=>∃ t,u=Value.int i t
 | .str x,u=>∃ t,u=Value.str x t
 | .byt b,u=>∃ t,u=Value.bytes b t
 | .flt b,u=>∃ t,u=Value.float b t
 | .ref a,u=>u=Value.ref a
 | .ty n,u=>u=Value.type n
abbrev Vals:List V->List Value->Prop:=Paired RelV
theorem Vals.length {xs:List V}{us:List Value}(r:Vals xs us):xs.length=us.length:=Paired.length r
theorem Vals.get:∀ {xs:List V}{us:List Value}{i:Nat}{x:V},Vals xs us->xs[i]? = some x->∃ u,us[i]? = some u/\RelV x u
 | _,_,_,_,.nil,e=>by simp at e
 | _,_,0,_,.cons r _,e=>by simp at e;subst e;exact ⟨_,rfl,r⟩
 | _,_,i+1,x,.cons _ t,e=>by
  obtain ⟨u,h1,h2⟩:=Vals.get (i:=i) (x:=x) t (by simpa using e)
  exact ⟨u,by simpa using h1,h2⟩
theorem Vals.append:∀ {xs ys:List V}{us ws:List Value},Vals xs us->Vals ys ws->Vals (xs++ys) (us++ws)
 | _,_,_,_,.nil,s=>s
 | _,_,_,_,.cons r t,s=>.cons r (Vals.append t s)
theorem Vals.take:∀ {xs:List V}{us:List Value}(n:Nat),Vals xs us->Vals (xs.take n) (us.take n)
 | _,_,0,_=>.nil
 | _,_,_+1,.nil=>.nil
 | _,_,n+1,.cons r t=>.cons r (Vals.take n t)
theorem Vals.drop:∀ {xs:List V}{us:List Value}(n:Nat),Vals xs us->Vals (xs.drop n) (us.drop n)
 | _,_,0,r=>r
 | _,_,_+1,.nil=>.nil
 | _,_,n+1,.cons _ t=>Vals.drop n t
def RelO:Option V->Option Value->Prop
 | some v,some u=>RelV v u
 | none,none=>True
 | _,_=>False
def KV {κ:Type}:List (κ × V)->List (κ × Value)->Prop:=Paired fun (p:κ × V) (q:κ × Value)=>p.1=q.1/\RelV p.2 q.2
def kV:Key->V
 | .inl i=>.int i
 | .inr x=>.str x
inductive HO where
 | lst (xs:List V)
 | tup (xs:List V)
 | dK (kvs:List (Key × V))|dT (kvs:List (List Key × V))
 | set (S:Int->Bool) (n:Nat)
 | ins (C dx:Addr) (fs:List (Str × V))
 | own (x:Addr)
 | xd (fs:List (Str × V))
 | met (f x:Addr)
 | rng (lo hi:Int)
 | frz (o:Obj) (u:HO)
 | tbl (ps:Array Value)
 | ext (φ:Heap->Prop)
abbrev Hp:=Addr->Option HO
def upd (H:Hp)(a:Addr)(o:HO):Hp:=fun b=>if b=a then some o else H b
theorem AJ {H:Hp}{a:Addr}{o:HO}:upd H a o a=some o:=by unfold upd;rw [if_pos rfl]
theorem Aq {H:Hp}{a b:Addr}{o:HO}(h:b≠a):upd H a o b=H b:=by unfold upd;rw [if_neg h]
theorem ne_of {H:Hp}{a b:Addr}{o u:HO}(h:H a=some o)(h':H b=some u)(d:o≠u):a≠b:=by
 intro e;subst e;rw [h] at h';exact d (qpB h')
theorem Ci {H:Hp}{a b:Addr}{o:HO}(h:H a=some o)(h':H b=none):a≠b:=by
 intro e;subst e;rw [h] at h';cases h'
section
variable (P:Program)(w:World)
def ObjOk (H:Hp)(h:Heap)(a:Addr):HO->Prop
 | .lst xs=>xs.length<=sizeLine/\∃ (its:List Value) (n:Nat),Vals xs its/\h.get? a=some { cls:=.type "list",data:=.seq its.toArray n }
 | .tup xs=>xs.length<=sizeLine/\∃ its:List Value,Vals xs its/\IsTup h a its.toArray
 | .dK kvs=>kvs.length<=sizeLine/\(a == sysModules)=false/\∃ vs,KV kvs vs/\h.DictOf (B6 P w) a vs
 | .dT kvs=>kvs.length<=sizeLine/\(a == sysModules)=false/\∃ xs:List (List Key × Addr × Value),
   Paired (fun (p:List Key × V) (q:List Key × Addr × Value)=>p.1=q.1/\H q.2.1=some (.tup (p.1.map kV))/\RelV p.2 q.2.2) kvs xs /\
   ∃ o es ep,h.get? a=some o/\o.ExactDict/\o.data = .dict es ep/\es.toList=xs.map (entryOfKey (tupleKind (B6 P w)))/\(xs.map (·.1)).Nodup
 | .set S n=>h.SetOf (intKind P w) a S n
 | .ins C dx fs=>H dx=some (.own a)/\fs.length<=1000/\dx≠a/\h.get? a=some (PySem.W.instObj C dx) /\
   ∃ mA,h.Ns1 dx mA/\(∀ f,RelO (fs.lookup f) (mA f))/\PySem.Within mA (fs.map (·.1))
 | .own _=>∃ o,h.get? a=some o
 | .xd fs=>∃ mA,h.Ns1 a mA/\∀ f,RelO (fs.lookup f) (mA f)
 | .rng lo hi=>∃ t u v,h.get? a=some { cls:=.type "range",data:=.fields #[.int lo t,.int hi u,.int 1 v] }
 | .frz o u=>h.get? a=some o/\ObjOk H h a u
 | .tbl ps=>h.get? a=some { cls:=.none,data:=.fields ps }
 | .met f x=>h.get? a=some (PySem.W.methodObj (.ref f) (.ref x))
 | .ext φ=>φ h/\(∃ o,h.get? a=some o)/\∀ h1 h2:Heap,φ h1->(∀ o,h1.get? a=some o->h2.get? a=some o)->φ h2
def HOk (H:Hp)(h:Heap):Prop:=∀ a o,H a=some o->ObjOk P w H h a o
end
section
variable {P:Program}{w:World}{H H':Hp}{h h':Heap}{a:Addr}{o:HO}
theorem ObjOk.lt (x:ObjOk P w H h a o):a<h.objs.size:=by
 cases o with
 | lst xs=>obtain ⟨_,_,_,_,e⟩:=x;exact qqB e
 | tup xs=>obtain ⟨_,_,_,p⟩:=x;exact p.lt
 | dK kvs=>obtain ⟨_,_,_,_,o,_,_,e,_⟩:=x;exact qqB e
 | dT kvs=>obtain ⟨_,_,_,_,o,_,_,e,_⟩:=x;exact qqB e
 | set S n=>obtain ⟨o,_,_,_,e,_⟩:=x;exact qqB e
 | ins C dx fs=>obtain ⟨_,_,_,e,_⟩:=x;exact qqB e
 | own y=>obtain ⟨_,e⟩:=x;exact qqB e
 | xd fs=>obtain ⟨_,⟨_,_,_,e,_⟩,_⟩:=x;exact qqB e
 | rng lo hi=>obtain ⟨_,_,_,e⟩:=x;exact qqB e
 | frz ob u=>obtain ⟨e,_⟩:=x;exact qqB e
 | tbl ps=>exact qqB (show h.get? a=some _ from x)
 | met f y=>exact qqB (show h.get? a=some _ from x)
 | ext φ=>obtain ⟨_,⟨_,e⟩,_⟩:=x;exact qqB e
theorem Paired.mapP {α β:Type}{F G:α->β->Prop}:∀ {l₁:List α}{l₂:List β},Paired F l₁ l₂->(∀ a b,F a b->G a b)->Paired G l₁ l₂
 | _,_,.nil,_=>.nil
 | _,_,.cons r t,f=>.cons (f _ _ r) (Paired.mapP t f)
theorem Paired.imp' {α β:Type}{F G:α->β->Prop}(f:∀ a b,F a b->G a b){l₁:List α}{l₂:List β}(r:Paired F l₁ l₂):Paired G l₁ l₂:=Paired.mapP r f
theorem ObjOk.stay (x:ObjOk P w H h a o)(k:∀ b u,(b=a\/H b=some (.own a))->h.get? b=some u->h'.get? b=some u)
  (ho:∀ b,H b=some (.own a)->H' b=some (.own a)) (ht:∀ b xs,H b=some (.tup xs)->H' b=some (.tup xs)):ObjOk P w H' h' a o:=by
 induction o with
 | lst xs=>obtain ⟨z,its,n,r,e⟩:=x;exact ⟨z,its,n,r,k _ _ (.inl rfl) e⟩
 | tup xs=>obtain ⟨z,its,r,ob,e,c⟩:=x;exact ⟨z,its,r,ob,k _ _ (.inl rfl) e,c⟩
 | dK kvs=>obtain ⟨z,y,vs,r,ob,es,ep,e,c⟩:=x;exact ⟨z,y,vs,r,ob,es,ep,k _ _ (.inl rfl) e,c⟩
 | dT kvs =>
  obtain ⟨z,y,xs,r,ob,es,ep,e,c⟩:=x
  exact ⟨z,y,xs,Paired.mapP r fun p q z=>⟨z.1,ht _ _ z.2.1,z.2.2⟩,ob,es,ep,k _ _ (.inl rfl) e,c⟩
 | set S n=>obtain ⟨ob,es,ep,t,e,c⟩:=x;exact ⟨ob,es,ep,t,k _ _ (.inl rfl) e,c⟩
 | ins C dx fs =>
  obtain ⟨d,z,ne,e,mA,⟨od,es,ep,e2,c⟩,r⟩:=x
  exact ⟨ho _ d,z,ne,k _ _ (.inl rfl) e,mA,⟨od,es,ep,k _ _ (.inr d) e2,c⟩,r⟩
 | own y=>obtain ⟨ob,e⟩:=x;exact ⟨ob,k _ _ (.inl rfl) e⟩
 | xd fs=>obtain ⟨mA,⟨od,es,ep,e,c⟩,r⟩:=x;exact ⟨mA,⟨od,es,ep,k _ _ (.inl rfl) e,c⟩,r⟩
 | rng lo hi=>obtain ⟨t,u,v,e⟩:=x;exact ⟨t,u,v,k _ _ (.inl rfl) e⟩
 | frz ob u ih=>obtain ⟨e,q⟩:=x;exact ⟨k _ _ (.inl rfl) e,ih q⟩
 | tbl ps =>
  have e:h.get? a=some { cls:=.none,data:=.fields ps }:=x
  show h'.get? a=some { cls:=.none,data:=.fields ps }
  exact k a _ (.inl rfl) e
 | met f y =>
  have e:h.get? a=some (PySem.W.methodObj (.ref f) (.ref y)):=x
  show h'.get? a=some (PySem.W.methodObj (.ref f) (.ref y))
  exact k a _ (.inl rfl) e
 | ext φ=>obtain ⟨p,⟨o,e⟩,st⟩:=x;exact ⟨st _ _ p fun o q=>k _ _ (.inl rfl) q,⟨o,k _ _ (.inl rfl) e⟩,st⟩
theorem HOk.lt (x:HOk P w H h)(e:H a=some o):a<h.objs.size:=(x a o e).lt
theorem HOk.fresh (x:HOk P w H h)(e:h.objs.size<=a):H a=none:=by
 cases q:H a with
 | none=>rfl
 | some u=>exact absurd (qmC (x.lt q) e) (qnB _)
theorem HOk.kept (x:HOk P w H h)(k:∀ b u,h.get? b=some u->h'.get? b=some u):HOk P w H h':=fun a o e =>
 (x a o e).stay (fun b u _ q=>k b u q) (fun _ q=>q) fun _ _ q=>q
theorem HOk.laid (x:HOk P w H h)(k:∀ b u,h.get? b=some u->h'.get? b=some u)(hp:h.objs.size<=a)(new:ObjOk P w (upd H a o) h' a o):HOk P w (upd H a o) h':=fun b u e=>by
 have hn:=x.fresh hp
 by_cases hb:b=a
 ·subst hb;rw [AJ] at e;cases e;exact new
 ·rw [Aq hb] at e
  exact (x b u e).stay (fun c v _ q=>k c v q) (fun c q=>by rw [Aq (Ci q hn)];exact q) fun c xs q=>by rw [Aq (Ci q hn)];exact q
end
def Rd (H:Hp)(a:Addr)(u:HO):Prop:=H a=some u\/∃ o,H a=some (.frz o u)
theorem Rd.ok {P:Program}{w:World}{H:Hp}{h:Heap}{a:Addr}{u:HO}(r:Rd H a u)(x:HOk P w H h):ObjOk P w H h a u:=by
 rcases r with r | ⟨o,r⟩
 ·exact x a u r
 ·obtain ⟨_,q⟩:=x a _ r
  exact q
def Mut:Option HO->Prop
 | some (.lst _)=>True
 | some (.dK _)=>True
 | some (.dT _)=>True
 | some (.set _ _)=>True
 | some (.ins _ _ _)=>True
 | some (.ext _)=>True
 | _=>False
section
variable {P:Program}{w:World}{H:Hp}{h h':Heap}{x e:Addr}{o':HO}
theorem HOk.write (ok:HOk P w H h)(mu:Mut (H x))(he:e=x\/H e=some (.own x))(k:∀ b u,b≠e->h.get? b=some u->h'.get? b=some u)(heo:∃ u,h'.get? e=some u)
  (new:ObjOk P w (upd H x o') h' x o'):HOk P w (upd H x o') h':=fun b u q=>by
 have nown:∀ c y,H c=some (.own y)->c≠x:=fun c y r z=>by subst z;rw [r] at mu;exact mu
 have ntup:∀ c xs,H c=some (.tup xs)->c≠x:=fun c xs r z=>by subst z;rw [r] at mu;exact mu
 by_cases hb:b=x
 ·subst hb;rw [AJ] at q;cases q;exact new
 ·rw [Aq hb] at q
  by_cases hbe:b=e
  ·have q':H b=some (.own x):=by
    rcases he with z|z
    ·exact absurd (hbe.trans z) hb
    ·rw [hbe];exact z
   rw [q] at q';cases q'
   obtain ⟨v,hv⟩:=heo
   exact ⟨v,by rw [hbe];exact hv⟩
  ·refine (ok b u q).stay (fun c v hc r=>k c v ?_ r) (fun c r=>by rw [Aq (nown c b r)];exact r) fun c xs r=>by rw [Aq (ntup c xs r)];exact r
   rcases hc with rfl|hc
   ·exact hbe
   ·rintro rfl
    rcases he with z|z
    ·exact nown c b hc z
    ·rw [hc] at z;cases z;exact hb rfl
end
structure Un (fs ex:List Addr)(H H':Hp)(h h':Heap):Prop where
 keep:∀ b o,h.get? b=some o->H b=none->b ∉ fs->b ∉ ex->h'.get? b=some o
 slot:∀ b o,h.get? b=some o->H b=none->b∈fs->b ∉ ex->∃ sl,h'.get? b=some { o with slots:=sl }
 free:∀ b o,h.get? b=some o->H b=none->b ∉ ex->H' b=none
 there:∀ b o,h.get? b=some o->b ∉ ex->∃ o',h'.get? b=some o'
 tups:∀ b xs,H b=some (.tup xs)->H' b=some (.tup xs)
 frzs:∀ b o u,H b=some (.frz o u)->H' b=some (.frz o u)
 tbls:∀ b ps,H b=some (.tbl ps)->∃ more,H' b=some (.tbl (ps++more))
section
variable {fs fs' ex ex':List Addr}{H H1 H2:Hp}{h h1 h2 h':Heap}{a x e:Addr}{o:HO}
theorem Un.any (u:Un fs ex H H1 h h1){b:Addr}{ob:Obj}(q:h.get? b=some ob)(n:H b=none)(hx:b ∉ ex):∃ sl,h1.get? b=some { ob with slots:=sl }:=by
 by_cases hb:b∈fs
 ·exact u.slot b ob q n hb hx
 ·exact ⟨ob.slots,u.keep b ob q n hb hx⟩
theorem Un.kept (k:∀ b u,h.get? b=some u->h'.get? b=some u):Un fs ex H H h h' :=
 ⟨fun b ob q _ _ _=>k b ob q,fun b ob q _ _ _=>⟨ob.slots,k b ob q⟩,fun _ _ _ n _=>n,fun b ob q _=>⟨ob,k b ob q⟩,fun _ _ q=>q,fun _ _ _ q=>q,fun _ ps q=>⟨#[],by rw [q];simp⟩⟩
theorem Un.refl:Un fs ex H H h h:=Un.kept fun _ _ q=>q
theorem Un.laid (k:∀ b u,h.get? b=some u->h'.get? b=some u)(hp:h.objs.size<=a)(hn:H a=none):Un fs ex H (upd H a o) h h' where
 keep:=fun b u q _ _ _=>k b u q
 slot:=fun b u q _ _ _=>⟨u.slots,k b u q⟩
 free:=fun b u q n _=>by rw [Aq (qjC (qmC (qqB q) hp))];exact n
 there:=fun b u q _=>⟨u,k b u q⟩
 tups:=fun b xs q=>by rw [Aq (Ci q hn)];exact q
 frzs:=fun b u xs q=>by rw [Aq (Ci q hn)];exact q
 tbls:=fun b ps q=>⟨#[],by rw [Aq (Ci q hn),q];simp⟩
theorem Un.write (mu:Mut (H x))(he:e=x\/H e=some (.own x))(k:∀ b u,b≠e->h.get? b=some u->h'.get? b=some u)(heo:∃ u,h'.get? e=some u):Un fs ex H (upd H x o) h h':=by
 have hx:∀ b,H b=none->b≠x:=fun b n z=>by subst z;rw [n] at mu;exact mu
 have hb:∀ b,H b=none->b≠e:=fun b n z=>by
  subst z
  rcases he with r|r
  ·exact hx b n r
  ·rw [n] at r;cases r
 have hm:∀ b u,H b=some u->¬ Mut (some u)->b≠x:=fun b u q nm z=>by subst z;rw [q] at mu;exact nm mu
 refine ⟨fun b u q n _ _=>k b u (hb b n) q,fun b u q n _ _=>⟨u.slots,k b u (hb b n) q⟩,fun b u q n _=>by rw [Aq (hx b n)];exact n,fun b u q _=>?_,
  fun b xs q=>by rw [Aq (hm b _ q fun z=>z)];exact q,fun b u xs q=>by rw [Aq (hm b _ q fun z=>z)];exact q,fun b ps q=>⟨#[],by rw [Aq (hm b _ q fun z=>z),q];simp⟩⟩
 by_cases hbe:b=e
 ·subst hbe;exact heo
 ·exact ⟨u,k b u hbe q⟩
end
def trk (h:Heap)(H:Hp):List Addr:=(List.range h.objs.size).filter fun a=>(H a).isSome
def hidT (h:Heap)(H:Hp):Heap:=PySem.W.hideAll h (trk h H)
theorem hidT_size (h:Heap)(H:Hp):(hidT h H).objs.size=h.objs.size:=PySem.W.hideAll_size _ _
theorem hidT_get {h:Heap}{H:Hp}{b:Addr}{o:Obj}(e:h.get? b=some o)(n:H b=none):(hidT h H).get? b=some o :=
 PySem.W.hideAll_get _ e fun hm=>by
  have q:(H b).isSome=true:=(qpA.mp hm).2
  rw [n] at q;simp at q
theorem of_hidT {h:Heap}{H:Hp}{b:Addr}{o:Obj}(e:(hidT h H).get? b=some o):h.get? b=some o/\H b=none:=by
 have e':h.get? b=some o:=PySem.W.of_hideAll (trk h H) e
 refine ⟨e',?_⟩
 cases q:H b with
 | none=>rfl
 | some x =>
  have hm:b∈trk h H:=qpA.mpr ⟨qtA.mpr (qqB e'),by simp [q]⟩
  have z:(hidT h H).get? b=none:=PySem.W.hideAll_none (trk h H) hm
  rw [z] at e;cases e
structure Mod (K:FZ9)(mg:Str->Option Value)(base:Heap):Prop where
 kin:K.In base
 glob:base.Ns mainGlobals mg
 blt:∃ mb,base.Ns builtinsNs mb/\∀ x:Str,x ≠ "__name__" -> mb x=bootBuiltins x
 nolimit:base.NoLimit
structure Cx where
 prog:Program
 w:World
 K:FZ9
 mg:Str->Option Value
 base:Heap
 A:Around
 N:List Str
 s₀:Shared
 H₀:Hp
 env:Env
 outer:List Env
 stack:List Env
 ex:List Addr
 fn:Str->Bool
 calm:Bool
 pn:List (Addr × Obj)
 xe:Value->Shared->Prop
def frs (l:List Env):List Addr:=l.filterMap (·.frame)
abbrev Cx.fs (X:Cx):List Addr:=frs X.outer
def Vis (sc:Scope)(x:Str):Prop:=sc.names.lookup x=some .local \/ sc.names.lookup x=some .cell\/sc.names.lookup x=some .free
def Loc (sc:Scope)(x:Str):Prop:=sc.names.lookup x=some .local \/ sc.names.lookup x=some .cell
def Look (env:Env)(h:Heap)(m:Str->Option Value)(x:Str)(u:Value):Prop :=
 (env.kindOf x=some .local /\ m x=some u)\/((env.kindOf x=some .cell\/env.kindOf x=some .free)/\∃ c,env.cells.lookup x=some c/\h.IsCell c (some u))
structure Cx.Ok (X:Cx):Prop where
 mod:Mod X.K X.mg X.base
 kind:X.env.scope.kind = .function
 glob:X.env.globals=mainGlobals
 blt:X.env.builtins=builtinsNs
 above:X.s₀.heap.objs.size<=X.env.locals
 inj:∀ x y c,X.env.cells.lookup x=some c->X.env.cells.lookup y=some c->x=y
 has:∀ x,(X.env.kindOf x=some .cell\/X.env.kindOf x=some .free)->∃ c,X.env.cells.lookup x=some c
 cab:∀ x c,X.fn x=true->X.env.cells.lookup x=some c->X.s₀.heap.objs.size<=c
 hd:X.calm=true->X.A.handled=none
 frames:X.A.frames=some X.stack
 stk:X.stack=X.outer\/(X.stack=X.env::X.outer/\X.env.frame=some X.env.locals)
 exf:∀ b∈X.ex,b≠X.env.locals/\∀ x c,X.env.cells.lookup x=some c->c≠b
 bs:∀ b o,X.base.get? b=some o->X.s₀.heap.get? b=some o/\X.H₀ b=none
 bsz:X.base.objs.size<=X.s₀.heap.objs.size
 noex:∀ b o,X.base.get? b=some o->b ∉ X.ex
 exfs:∀ b∈X.ex,b ∉ X.fs
 funs:X.s₀.heap.FunFrames X.base X.outer
 frf:∀ b∈X.fs,X.H₀ b=none
structure Inv (X:Cx)(pins:List (Addr × Obj))(σ:List (Option V))(H:Hp)(s:Shared):Prop where
 ok:X.Ok
 os:s.os=X.s₀.os
 bare:AllBare s.gens
 base:Un X.fs X.ex X.H₀ H X.s₀.heap s.heap
 loc:∃ m,s.heap.Ns X.env.locals m/\∀ (i:Nat) (x:Str) (v:V),X.N[i]? = some x->σ[i]? = some (some v)->Vis X.env.scope x->∃ u,RelV v u/\Look X.env s.heap m x u
 cell:∀ x c,X.env.cells.lookup x=some c->∃ v,s.heap.IsCell c v
 free:H X.env.locals=none
 freeC:∀ x c,X.env.cells.lookup x=some c->H c=none
 pin:∀ p∈X.pn++pins,s.heap.get? p.1=some p.2/\H p.1=none/\p.1≠X.env.locals/\p.1 ∉ X.fs/\∀ v,p.2.data ≠ .cell v
 hok:HOk X.prog X.w H s.heap
 len:σ.length=X.N.length
section
variable {X:Cx}{pins:List (Addr × Obj)}{σ:List (Option V)}{H H':Hp}{s:Shared}{h':Heap}
theorem Cx.Ok.nofr (ok:X.Ok){b:Addr}{o:Obj}(e:X.base.get? b=some o):b ∉ X.fs:=fun hb=>by
 have:=(ok.funs.mem hb).1
 rw [e] at this;cases this
theorem Inv.bs (I:Inv X pins σ H s):∀ b o,X.base.get? b=some o->s.heap.get? b=some o/\H b=none:=fun b o e =>
 ⟨I.base.keep b o (I.ok.bs b o e).1 (I.ok.bs b o e).2 (I.ok.nofr e) (I.ok.noex b o e),I.base.free b o (I.ok.bs b o e).1 (I.ok.bs b o e).2 (I.ok.noex b o e)⟩
theorem Inv.bk (I:Inv X pins σ H s):∀ b o,X.base.get? b=some o->s.heap.get? b=some o:=fun b o e=>(I.bs b o e).1
theorem Inv.mod (I:Inv X pins σ H s):Mod X.K X.mg X.base:=I.ok.mod
theorem Inv.kIn (I:Inv X pins σ H s):X.K.In s.heap:=I.ok.mod.kin.keeps I.bk
theorem Inv.lt (I:Inv X pins σ H s):X.env.locals<s.heap.objs.size:=let ⟨_,hn,_⟩:=I.loc;hn.lt
theorem Inv.sz (I:Inv X pins σ H s):X.s₀.heap.objs.size<=s.heap.objs.size:=qmB I.ok.above (Nat.le_of_lt I.lt)
theorem Inv.nofs (I:Inv X pins σ H s){a:Addr}(h:s.heap.objs.size<=a):a ∉ X.fs:=fun hb=>by
 obtain ⟨_,o,ho,_⟩:=I.ok.funs.mem hb
 exact absurd (qmC (qqB ho) (qmB I.sz h)) (qnB _)
theorem Inv.cne (I:Inv X pins σ H s):∀ x c,X.env.cells.lookup x=some c->c≠X.env.locals:=fun x c e z=>by
 obtain ⟨v,o,ho,hd⟩:=I.cell x c e
 obtain ⟨m,⟨o',es,ep,ho',hd',_⟩,_⟩:=I.loc
 rw [z,ho'] at ho;cases ho;rw [hd'] at hd;cases hd
theorem Inv.funs (I:Inv X pins σ H s):s.heap.FunFrames X.base X.outer:=by
 have all:∀ (l:List Env),(∀ b∈frs l,b∈X.fs)->X.s₀.heap.FunFrames X.base l->s.heap.FunFrames X.base l:=by
  intro l
  induction l with
  | nil=>intro _ _;trivial
  | cons env r ih =>
   intro hs hl
   obtain ⟨hk,⟨L,o,hf,hn,ho,hd⟩,hr⟩:=hl
   have hL:L∈X.fs:=hs L (by unfold frs;rw [List.filterMap_cons,hf];exact qrA)
   obtain ⟨sl,e⟩:=I.base.slot L o ho (I.ok.frf L hL) hL fun z=>I.ok.exfs L z hL
   exact ⟨hk,⟨L,_,hf,hn,e,hd⟩,ih (fun b hb=>hs b (by unfold frs;rw [List.filterMap_cons,hf];exact qsA _ hb)) hr⟩
 exact all X.outer (fun _ hb=>hb) I.ok.funs
theorem Inv.stack (I:Inv X pins σ H s):s.heap.FunFrames X.base X.stack:=by
 rcases I.ok.stk with e | ⟨e,hf⟩
 ·rw [e];exact I.funs
 ·rw [e]
  obtain ⟨m,hn,_⟩:=I.loc
  refine .cons (by rw [I.ok.kind];decide) hf hn ?_ I.funs
  exact Heap.get?_none_of_le (qmB I.ok.bsz I.ok.above)
theorem Inv.stkSub (I:Inv X pins σ H s):∀ b∈frs X.stack,b∈X.env.locals::X.fs:=fun b hb=>by
 rcases I.ok.stk with e | ⟨e,hf⟩
 ·rw [e] at hb;exact qsA _ hb
 ·rw [e] at hb
  unfold frs at hb
  rw [List.filterMap_cons,hf] at hb
  exact hb
theorem Inv.stkFree (I:Inv X pins σ H s):∀ b∈frs X.stack,H b=none:=fun b hb=>by
 rcases qnA.mp (I.stkSub b hb) with e|hb
 ·rw [e];exact I.free
 ·obtain ⟨_,o,ho,_⟩:=I.ok.funs.mem hb
  exact I.base.free b o ho (I.ok.frf b hb) fun z=>I.ok.exfs b z hb
theorem Inv.step {g':Array GenState}{t':Nat}{d':Drawn}{ch:List Addr}(I:Inv X pins σ H s)
  (hch:∀ b∈ch,(b∈X.ex\/X.s₀.heap.objs.size<=b)/\b≠X.env.locals/\(∀ x c,X.env.cells.lookup x=some c->c≠b)/\∀ p∈X.pn++pins,p.1≠b)
  (keep:∀ b o,b≠X.env.locals->b ∉ X.fs->b ∉ ch->s.heap.get? b=some o->H b=none->h'.get? b=some o)
  (slot:∀ b o,b≠X.env.locals->b∈X.fs->b ∉ ch->s.heap.get? b=some o->H b=none->∃ sl,h'.get? b=some { o with slots:=sl }) (free:∀ b o,b ∉ ch->s.heap.get? b=some o->H b=none->H' b=none)
  (there:∀ b o,b ∉ ch->s.heap.get? b=some o->∃ o',h'.get? b=some o')
  (tups:∀ b xs,H b=some (.tup xs)->H' b=some (.tup xs)) (frzs:∀ b o u,H b=some (.frz o u)->H' b=some (.frz o u)) (tbls:∀ b ps,H b=some (.tbl ps)->∃ more,H' b=some (.tbl (ps++more)))
  (ns:∀ m,s.heap.Ns X.env.locals m->h'.Ns X.env.locals m) (hok:HOk X.prog X.w H' h') (hg:AllBare g') :
  Inv X pins σ H' { s with heap:=h',gens:=g',drawn:=d',toks:=t' }:=by
 have neL:∀ b o,X.s₀.heap.get? b=some o->b≠X.env.locals:=fun b o e=>qjC (qmC (qqB e) I.ok.above)
 have neC:∀ b o,X.s₀.heap.get? b=some o->b ∉ X.ex->b ∉ ch:=fun b o e hx hb=>by
  rcases (hch b hb).1 with z|z
  ·exact hx z
  ·exact absurd (qmC (qqB e) z) (qnB _)
 have cellK:∀ x c,X.env.cells.lookup x=some c->∀ v,s.heap.IsCell c v->h'.IsCell c v:=fun x c e v ⟨o,ho,hd⟩=>by
  have nch:c ∉ ch:=fun z=>(hch c z).2.2.1 x c e rfl
  by_cases hc:c∈X.fs
  ·obtain ⟨sl,q⟩:=slot c o (I.cne x c e) hc nch ho (I.freeC x c e)
   exact ⟨_,q,hd⟩
  ·exact ⟨o,keep c o (I.cne x c e) hc nch ho (I.freeC x c e),hd⟩
 refine ⟨I.ok,I.os,hg,⟨fun b o e n hb hx=>?_,fun b o e n hb hx=>?_,fun b o e n hx=>?_,fun b o e hx=>?_,fun b xs e=>tups b xs (I.base.tups b xs e),fun b o xs e=>frzs b o xs (I.base.frzs b o xs e),fun b ps e=>?_⟩,?_,fun x c e=>?_,?_,fun x c e=>?_,fun p hp=>?_,hok,I.len⟩
 ·exact keep b o (neL b o e) hb (neC b o e hx) (I.base.keep b o e n hb hx) (I.base.free b o e n hx)
 ·obtain ⟨sl,e1⟩:=I.base.slot b o e n hb hx
  obtain ⟨sl',e2⟩:=slot b _ (neL b o e) hb (neC b o e hx) e1 (I.base.free b o e n hx)
  exact ⟨sl',e2⟩
 ·obtain ⟨o',e1⟩:=I.base.there b o e hx
  exact free b o' (neC b o e hx) e1 (I.base.free b o e n hx)
 ·obtain ⟨o',e1⟩:=I.base.there b o e hx
  exact there b o' (neC b o e hx) e1
 ·obtain ⟨m1,e1⟩:=I.base.tbls b ps e
  obtain ⟨m2,e2⟩:=tbls b _ e1
  exact ⟨m1++m2,by rw [e2,Array.append_assoc]⟩
 ·obtain ⟨m,hn,hl⟩:=I.loc
  refine ⟨m,ns m hn,fun i x v e1 e2 e3=>?_⟩
  obtain ⟨u,r,l⟩:=hl i x v e1 e2 e3
  refine ⟨u,r,?_⟩
  rcases l with l | ⟨k,c,e,z⟩
  ·exact .inl l
  ·exact .inr ⟨k,c,e,cellK x c e _ z⟩
 ·obtain ⟨v,z⟩:=I.cell x c e
  exact ⟨v,cellK x c e v z⟩
 ·obtain ⟨m,⟨o,_,_,ho,_⟩,_⟩:=I.loc
  exact free _ o (fun z=>(hch _ z).2.1 rfl) ho I.free
 ·obtain ⟨v,o,ho,hd⟩:=I.cell x c e
  exact free c o (fun z=>(hch c z).2.2.1 x c e rfl) ho (I.freeC x c e)
 ·obtain ⟨e,n,ne,nf,d⟩:=I.pin p hp
  have nch:p.1 ∉ ch:=fun z=>(hch p.1 z).2.2.2 p hp rfl
  exact ⟨keep p.1 p.2 ne nf nch e n,free p.1 p.2 nch e n,ne,nf,d⟩
theorem Inv.un {t':Nat}(I:Inv X pins σ H s)(u:Un X.fs [] H H' s.heap h')(hok:HOk X.prog X.w H' h'):Inv X pins σ H' { s with heap:=h',toks:=t' }:=by
 obtain ⟨m,⟨o,es,ep,ho,r⟩,_⟩:=id I.loc
 obtain ⟨sl,hL⟩:=u.any ho I.free (by simp)
 exact I.step (g':=s.gens) (d':=s.drawn) (ch:=[]) (fun _ z=>nomatch z) (fun b o _ hb _ e n=>u.keep b o e n hb (by simp)) (fun b o _ hb _ e n=>u.slot b o e n hb (by simp)) (fun b o _ e n=>u.free b o e n (by simp)) (fun b o _ e=>u.there b o e (by simp)) u.tups u.frzs u.tbls (fun m' hm=>by
  obtain ⟨o',es',ep',ho',r'⟩:=hm
  rw [ho] at ho';cases ho'
  exact ⟨_,es',ep',hL,r'⟩) hok I.bare
theorem Inv.call {g':Array GenState}{t':Nat}{d':Drawn}{ch:List Addr}(I:Inv X pins σ H s)(u:Un (frs X.stack) ch H H' s.heap h')(hok:HOk X.prog X.w H' h')(hg:AllBare g')
  (hch:∀ b∈ch,(b∈X.ex\/X.s₀.heap.objs.size<=b)/\b≠X.env.locals/\(∀ x c,X.env.cells.lookup x=some c->c≠b)/\∀ p∈X.pn++pins,p.1≠b) :
  Inv X pins σ H' { s with heap:=h',gens:=g',drawn:=d',toks:=t' }:=by
 obtain ⟨m,⟨o,es,ep,ho,r⟩,_⟩:=id I.loc
 obtain ⟨sl,hL⟩:=u.any ho I.free fun z=>(hch _ z).2.1 rfl
 exact I.step (ch:=ch) hch (fun b o hL hb hc e n=>u.keep b o e n (fun z=>(qnA.mp (I.stkSub b z)).elim hL hb) hc) (fun b o _ _ hc e n=>u.any e n hc) (fun b o hc e n=>u.free b o e n hc) (fun b o hc e=>u.there b o e hc) u.tups u.frzs u.tbls (fun m' hm=>by
  obtain ⟨o',es',ep',ho',r'⟩:=hm
  rw [ho] at ho';cases ho'
  exact ⟨_,es',ep',hL,r'⟩) hok hg
theorem Inv.turned {t':Nat}{it:Addr}(I:Inv X pins σ H s)(k:∀ b o,b≠it->s.heap.get? b=some o->h'.get? b=some o)(hn:H it=none)(hL:it≠X.env.locals)
  (h1:it∈X.ex\/X.s₀.heap.objs.size<=it) (h2:∀ x c,X.env.cells.lookup x=some c->c≠it) (h3:∀ p∈X.pn++pins,p.1≠it):Inv X pins σ H { s with heap:=h',toks:=t' }:=by
 have nit:∀ b u,H b=some u->b≠it:=fun b u e z=>by rw [z,hn] at e;cases e
 refine I.step (g':=s.gens) (d':=s.drawn) (ch:=[it]) (fun b hb=>?_) (fun b o _ _ hc e _=>k b o (fun z=>hc (by simp [z])) e) (fun b o _ _ hc e _=>⟨o.slots,k b o (fun z=>hc (by simp [z])) e⟩) (fun _ _ _ _ n=>n)
  (fun b o hc e=>⟨o,k b o (fun z=>hc (by simp [z])) e⟩) (fun _ _ e=>e) (fun _ _ _ e=>e) (fun b ps e=>⟨#[],by rw [e];simp⟩) (fun m hm=>?_) (fun b u e=>?_) I.bare
 ·have e:b=it:=by simpa using hb
  subst e
  exact ⟨h1,hL,h2,h3⟩
 ·obtain ⟨o,es,ep,ho,r⟩:=hm
  exact ⟨o,es,ep,k _ o (Ne.symm hL) ho,r⟩
 ·refine (I.hok b u e).stay (fun c v hc q=>k c v ?_ q) (fun _ q=>q) fun _ _ q=>q
  rcases hc with z|z
  ·rw [z];exact nit b u e
  ·exact nit c _ z
theorem Inv.tok (I:Inv X pins σ H s)(t:Nat):Inv X pins σ H { s with toks:=t }:=I.un (h':=s.heap) (t':=t) Un.refl I.hok
theorem Inv.kept {t':Nat}(I:Inv X pins σ H s)(k:∀ b u,s.heap.get? b=some u->h'.get? b=some u):Inv X pins σ H { s with heap:=h',toks:=t' }:=I.un (Un.kept k) (I.hok.kept k)
theorem Inv.laid {a:Addr}{o:HO}{t':Nat}(I:Inv X pins σ H s)(k:∀ b u,s.heap.get? b=some u->h'.get? b=some u)(hp:s.heap.objs.size<=a)(new:ObjOk X.prog X.w (upd H a o) h' a o) :
  Inv X pins σ (upd H a o) { s with heap:=h',toks:=t' }:=I.un (Un.laid k hp (I.hok.fresh hp)) (I.hok.laid k hp new)
theorem Inv.write {x e:Addr}{o:HO}{t':Nat}(I:Inv X pins σ H s)(mu:Mut (H x))(he:e=x\/H e=some (.own x))(k:∀ b u,b≠e->s.heap.get? b=some u->h'.get? b=some u)(heo:∃ u,h'.get? e=some u)
  (new:ObjOk X.prog X.w (upd H x o) h' x o):Inv X pins σ (upd H x o) { s with heap:=h',toks:=t' }:=I.un (Un.write mu he k heo) (I.hok.write mu he k heo new)
theorem Inv.weak {σ':List (Option V)}(I:Inv X pins σ H s)(hl:σ'.length=σ.length)(w:∀ (i:Nat) v,σ'[i]? = some (some v)->σ[i]? = some (some v)):Inv X pins σ' H s :=
 ⟨I.ok,I.os,I.bare,I.base,let ⟨m,hn,hl'⟩:=I.loc;⟨m,hn,fun i x v e1 e2 e3=>hl' i x v e1 (w i v e2) e3⟩,I.cell,I.free,I.freeC,I.pin,I.hok,hl.trans I.len⟩
theorem Inv.pins_of {pins':List (Addr × Obj)}(I:Inv X pins σ H s)(h:∀ p∈pins',s.heap.get? p.1=some p.2/\H p.1=none/\p.1≠X.env.locals/\p.1 ∉ X.fs/\∀ v,p.2.data ≠ .cell v):Inv X pins' σ H s :=
 ⟨I.ok,I.os,I.bare,I.base,I.loc,I.cell,I.free,I.freeC,fun p hp=>(qmA.mp hp).elim (fun z=>I.pin p (List.mem_append_left _ z)) (h p),I.hok,I.len⟩
theorem nodup_ix {N:List Str}(hN:N.Nodup){i j:Nat}{x:Str}(a:N[i]? = some x)(b:N[j]? = some x):i=j:=by
 obtain ⟨h1,e1⟩:=qvA.mp a
 obtain ⟨h2,e2⟩:=qvA.mp b
 exact (List.getElem_inj hN).mp (e1.trans e2.symm)
theorem store_ok2 {M:Model}{A:Around}{E:Value->Shared->Prop}{i:Nat}{x:Str}{v:V}{u:Value}{Q:Unit->Shared->Prop}(I:Inv X pins σ H s)(hN:X.N.Nodup)(hi:X.N[i]? = some x)(hx:Loc X.env.scope x)(r:RelV v u)
  (h:∀ s',Inv X pins (σ.set i (some v)) H s'->(∃ a,Heap.SameBut a s.heap s'.heap/\(a=X.env.locals\/X.env.cells.lookup x=some a))->Q () s') (hf:X.fn x=true\/X.env.scope.names.lookup x=some .local := by first|exact .inl rfl|exact .inr rfl|assumption):wpAny M A (storeName X.env x u) Q E s:=by
 obtain ⟨m,hn,hl⟩:=id I.loc
 have hcls:(X.env.scope.kind == .class || (X.env.scope.kind == .module && X.env.locals != X.env.globals))=false:=by rw [I.ok.kind];rfl
 have hiσ:i<σ.length:=by rw [I.len];exact (qvA.mp hi).1
 have cne:=I.cne
 have tracked:∀ {a:Addr}{h':Heap},(∃ o,s.heap.get? a=some o/\H a=none)->Heap.SameBut a s.heap h'->HOk X.prog X.w H h':=fun {a h'} ha hs b ob e=>by
  obtain ⟨_,_,hfree⟩:=ha
  refine (I.hok b ob e).stay (fun c w' hc q=>(hs.2 c ?_).trans q) (fun _ q=>q) fun _ _ q=>q
  rintro rfl
  rcases hc with rfl|hc
  ·rw [hfree] at e;cases e
  ·rw [hfree] at hc;cases hc
 rcases hx with hk|hk
 ·refine wpAny_storeName_local hk hn (fun h' hn' hs=>?_) hcls
  obtain ⟨oL,_,_,hoL,_⟩:=id hn
  refine h _ ⟨I.ok,I.os,I.bare,⟨fun b o e n hb hx=>?_,fun b o e n hb hx=>?_,I.base.free,fun b o e hx=>?_,I.base.tups,I.base.frzs,I.base.tbls⟩,⟨_,hn',fun j y v' e1 e2 e3=>?_⟩,fun y c e=>?_,I.free,I.freeC,fun p hp=>?_,tracked ⟨oL,hoL,I.free⟩ hs,by simpa using I.len⟩ ⟨_,hs,.inl rfl⟩
  ·exact (hs.2 b (qjC (qmC (qqB e) I.ok.above))).trans (I.base.keep b o e n hb hx)
  ·obtain ⟨sl,e1⟩:=I.base.slot b o e n hb hx
   exact ⟨sl,(hs.2 b (qjC (qmC (qqB e) I.ok.above))).trans e1⟩
  ·obtain ⟨o',e1⟩:=I.base.there b o e hx
   exact ⟨o',(hs.2 b (qjC (qmC (qqB e) I.ok.above))).trans e1⟩
  ·by_cases hj:j=i
   ·subst hj
    rw [hi] at e1;cases e1
    rw [List.getElem?_set_self hiσ] at e2
    cases e2
    exact ⟨u,r,.inl ⟨hk,by simp⟩⟩
   ·rw [List.getElem?_set_ne (Ne.symm hj)] at e2
    obtain ⟨u',r',q⟩:=hl j y v' e1 e2 e3
    refine ⟨u',r',?_⟩
    rcases q with ⟨k,e⟩ | ⟨k,c,e,z⟩
    ·refine .inl ⟨k,?_⟩
     have:y≠x:=fun e=>hj (nodup_ix hN e1 (e ▸ hi))
     simp [this,e]
    ·exact .inr ⟨k,c,e,z.sameBut hs (cne y c e)⟩
  ·obtain ⟨w',z⟩:=I.cell y c e
   exact ⟨w',z.sameBut hs (cne y c e)⟩
  ·obtain ⟨e,n,ne,nf,d⟩:=I.pin p hp
   exact ⟨(hs.2 p.1 ne).trans e,n,ne,nf,d⟩
 ·have hfn:X.fn x=true:=by
   rcases hf with z|z
   ·exact z
   ·rw [z] at hk;cases hk
  obtain ⟨c,hc⟩:=I.ok.has x (.inl hk)
  obtain ⟨w',z⟩:=I.cell x c hc
  refine wpAny_storeName_cell I.ok.kind hk hc z (fun h' hc' hs=>?_)
  obtain ⟨oc,hoc,hocd⟩:=id z
  refine h { s with heap:=h' } ⟨I.ok,I.os,I.bare,⟨fun b o e n hb hx=>?_,fun b o e n hb hx=>?_,I.base.free,fun b o e hx=>?_,I.base.tups,I.base.frzs,I.base.tbls⟩,⟨m,hn.sameBut hs (Ne.symm (cne x c hc)),fun j y v' e1 e2 e3=>?_⟩,fun y c' e=>?_,I.free,I.freeC,fun p hp=>?_,tracked ⟨oc,hoc,I.freeC x c hc⟩ hs,by simpa using I.len⟩ ⟨c,hs,.inr hc⟩
  ·exact (hs.2 b (qjC (qmC (qqB e) (I.ok.cab x c hfn hc)))).trans (I.base.keep b o e n hb hx)
  ·obtain ⟨sl,e1⟩:=I.base.slot b o e n hb hx
   exact ⟨sl,(hs.2 b (qjC (qmC (qqB e) (I.ok.cab x c hfn hc)))).trans e1⟩
  ·obtain ⟨o',e1⟩:=I.base.there b o e hx
   exact ⟨o',(hs.2 b (qjC (qmC (qqB e) (I.ok.cab x c hfn hc)))).trans e1⟩
  ·by_cases hj:j=i
   ·subst hj
    rw [hi] at e1;cases e1
    rw [List.getElem?_set_self hiσ] at e2
    cases e2
    exact ⟨u,r,.inr ⟨.inl hk,c,hc,hc'⟩⟩
   ·rw [List.getElem?_set_ne (Ne.symm hj)] at e2
    obtain ⟨u',r',q⟩:=hl j y v' e1 e2 e3
    refine ⟨u',r',?_⟩
    rcases q with q | ⟨k,c',e,z'⟩
    ·exact .inl q
    ·refine .inr ⟨k,c',e,z'.sameBut hs ?_⟩
     rintro rfl
     exact hj (nodup_ix hN e1 (I.ok.inj _ _ _ e hc ▸ hi))
  ·by_cases hcc:c'=c
   ·subst hcc;exact ⟨_,hc'⟩
   ·obtain ⟨w2,z2⟩:=I.cell y c' e
    exact ⟨w2,z2.sameBut hs hcc⟩
  ·obtain ⟨e,n,ne,nf,d⟩:=I.pin p hp
   refine ⟨(hs.2 p.1 ?_).trans e,n,ne,nf,d⟩
   intro q
   rw [q,hoc] at e
   have q':oc=p.2:=qpB e
   exact d w' (by rw [<- q'];exact hocd)
theorem store_ok {M:Model}{A:Around}{E:Value->Shared->Prop}{i:Nat}{x:Str}{v:V}{u:Value}{Q:Unit->Shared->Prop}(I:Inv X pins σ H s)(hN:X.N.Nodup)(hi:X.N[i]? = some x)(hx:Loc X.env.scope x)(r:RelV v u)
  (h:∀ s',Inv X pins (σ.set i (some v)) H s'->Q () s') (hf:X.fn x=true\/X.env.scope.names.lookup x=some .local := by first|exact .inl rfl|exact .inr rfl|assumption):wpAny M A (storeName X.env x u) Q E s :=
 store_ok2 I hN hi hx r (fun s' I' _=>h s' I') hf
theorem Inv.call' {s':Shared}{ch:List Addr}(I:Inv X pins σ H s)(ho:s'.os=s.os)(u:Un (frs X.stack) ch H H' s.heap s'.heap)(hok:HOk X.prog X.w H' s'.heap)(hg:AllBare s'.gens)
  (hch:∀ b∈ch,(b∈X.ex\/X.s₀.heap.objs.size<=b)/\b≠X.env.locals/\(∀ x c,X.env.cells.lookup x=some c->c≠b)/\∀ p∈X.pn++pins,p.1≠b):Inv X pins σ H' s':=by
 obtain ⟨h',g',d',t',o'⟩:=s'
 have e:o'=s.os:=ho
 subst e
 exact I.call (g':=g') (t':=t') (d':=d') u hok hg hch
end
abbrev XK:=Value->Option Addr->Hp->Prop
abbrev St:=List (Option V)
abbrev VK:=V->Hp->Prop
abbrev TE:=St->Hp->VK->Prop
abbrev TT:=St->Hp->(Bool->Hp->Prop)->Prop
abbrev TA:=St->Hp->(List V->Hp->Prop)->Prop
structure Ends where
 nx:St->Hp->Prop
 rt:VK
 bk:St->Hp->Prop:=fun _ _=>False
 ct:St->Hp->Prop:=fun _ _=>False
abbrev TS:=Ends->St->Hp->Prop
def EP (X:Cx)(pins:List (Addr × Obj))(σ:St)(Q:VK)(u:Value)(s':Shared):Prop:=∃ v H',Inv X pins σ H' s'/\RelV v u/\Q v H'
def TP (X:Cx)(pins:List (Addr × Obj))(σ:St)(Q:Bool->Hp->Prop)(b:Bool)(s':Shared):Prop:=∃ H',Inv X pins σ H' s'/\Q b H'
def AP (X:Cx)(pins:List (Addr × Obj))(σ:St)(Q:List V->Hp->Prop)(us:List Value)(s':Shared):Prop:=∃ vs H',Inv X pins σ H' s'/\Vals vs us/\Q vs H'
def SP (X:Cx)(pins:List (Addr × Obj))(D:Ends)(f:Flow)(s':Shared):Prop :=
 match f with
 | .next=>∃ σ' H',Inv X pins σ' H' s'/\D.nx σ' H'
 | .brk=>∃ σ' H',Inv X pins σ' H' s'/\D.bk σ' H'
 | .cont=>∃ σ' H',Inv X pins σ' H' s'/\D.ct σ' H'
 | .ret u=>∃ v σ' H',Inv X pins σ' H' s'/\RelV v u/\D.rt v H'
def PE (X:Cx)(e:Expr)(t:TE):Prop :=
 ∀ (pins:List (Addr × Obj)) (s:Shared) (σ:St) (H:Hp) (Q:VK),Inv X pins σ H s->t σ H Q->wpAny (model X.prog X.w) X.A (eval e X.env) (EP X pins σ Q) X.xe s
def PT (X:Cx)(e:Expr)(t:TT):Prop :=
 ∀ (pins:List (Addr × Obj)) (s:Shared) (σ:St) (H:Hp) (Q:Bool->Hp->Prop),Inv X pins σ H s->t σ H Q->wpAny (model X.prog X.w) X.A (isTrue e X.env (eval e X.env)) (TP X pins σ Q) X.xe s
def PW (X:Cx)(e:Expr)(t:TT):Prop :=
 ∀ (whole:Sem Value) (pins:List (Addr × Obj)) (s:Shared) (σ:St) (H:Hp) (Q:Bool->Hp->Prop),Inv X pins σ H s->t σ H Q->wpAny (model X.prog X.w) X.A (isTrue e X.env whole) (TP X pins σ Q) X.xe s
theorem PW.pt {X:Cx}{e:Expr}{t:TT}(h:PW X e t):PT X e t:=h _
def PA (X:Cx)(es:List Expr)(t:TA):Prop :=
 ∀ (pos:Pos) (pins:List (Addr × Obj)) (s:Shared) (σ:St) (H:Hp) (Q:List V->Hp->Prop),Inv X pins σ H s->t σ H Q->wpAny (model X.prog X.w) X.A (spliced (backTo pos (starEach es X.env))) (AP X pins σ Q) X.xe s
def PS (X:Cx)(st:Stmt)(t:TS):Prop :=
 ∀ (pins:List (Addr × Obj)) (s:Shared) (σ:St) (H:Hp) (D:Ends),Inv X pins σ H s->t D σ H->wpAny (model X.prog X.w) X.A (exec st X.env) (SP X pins D) X.xe s
def PSs (X:Cx)(st:List Stmt)(t:TS):Prop :=
 ∀ (pins:List (Addr × Obj)) (s:Shared) (σ:St) (H:Hp) (D:Ends),Inv X pins σ H s->t D σ H->wpAny (model X.prog X.w) X.A (execs st X.env) (SP X pins D) X.xe s
theorem thn {α:Type}{t:Sem α}{Q Q':α->Shared->Prop}{M:Model}{A:Around}{E:Value->Shared->Prop}{s:Shared}(h:wpAny M A t Q E s)(hQ:∀ a s,Q a s->Q' a s):wpAny M A t Q' E s:=wpAny_mono h hQ fun _ _ x=>x
section
variable {X:Cx}
abbrev Bc (i:Nat):TE:=fun σ H Q=>∃ v,σ[i]? = some (some v)/\Q v H
abbrev tC (v:V):TE:=fun _ H Q=>Q v H
theorem pe_var {i:Nat}{x:Str}{pos:Pos}(hN:X.N[i]? = some x)(hv:Vis X.env.scope x)(hd:(x == ("__debug__" : Str))=false:=by decide)(hcd:(x == ("__classdict__" : Str))=false:=by decide):PE X (.Name x pos) (Bc i):=by
 intro pins s σ H Q I h
 obtain ⟨v,e,h⟩:=h
 obtain ⟨m,hn,hl⟩:=I.loc
 obtain ⟨u,r,l⟩:=hl i x v hN e hv
 have fin:EP X pins σ Q u s:=⟨v,H,I,r,h⟩
 rcases l with ⟨hk,hm⟩ | ⟨hk,c,hc,hcell⟩
 ·exact wpAny_Name (wpAny_loadName_local I.ok.kind hk hn hm fin) hd
 ·rcases hk with hk|hk
  ·exact wpAny_Name (wpAny_loadName_cell I.ok.kind hk hc hcell fin) hd
  ·exact wpAny_Name (wpAny_loadName_free I.ok.kind hk hc hcell fin hcd) hd
theorem AA {i j pos}:PE X (.Constant (.int i) j pos) (tC (.int i)):=fun _ _ _ H _ I h=>wpAny_Constant_int ⟨.int i,H,I.tok _,⟨_,rfl⟩,h⟩
theorem Ew {b j pos}:PE X (.Constant (.bool b) j pos) (tC (.bl b)):=fun _ _ _ H _ I h=>Constant_bool ⟨.bl b,H,I,rfl,h⟩
theorem AM {x j pos}:PE X (.Constant (.str x) j pos) (tC (.str x)):=fun _ _ _ H _ I h=>Calls.Constant_str ⟨.str x,H,I.tok _,⟨_,rfl⟩,h⟩
def Gl (X:Cx)(x:Str):Prop:=X.env.kindOf x=some .globalImplicit
theorem ld_glob {E:Value->Shared->Prop}{pins:List (Addr × Obj)}{s:Shared}{σ:St}{H:Hp}{x:Str}{u:Value}{pos:Pos}{Q:Value->Shared->Prop}(I:Inv X pins σ H s)(hg:Gl X x)(hm:X.mg x=some u)(h:Q u s)
  (hd:(x == ("__debug__" : Str))=false:=by decide):wpAny (model X.prog X.w) X.A (eval (.Name x pos) X.env) Q E s :=
 Calls.Name_function_global I.ok.kind hg (Calls.loadGlobal_global (by rw [I.ok.glob];exact I.mod.glob.keeps I.bk) hm h) hd
theorem GG {E:Value->Shared->Prop}{pins:List (Addr × Obj)}{s:Shared}{σ:St}{H:Hp}{x:Str}{u:Value}{pos:Pos}{Q:Value->Shared->Prop}(I:Inv X pins σ H s)(hg:Gl X x)(hm:X.mg x=none)(hv:bootBuiltins x=some u)(h:Q u s)
  (hn:x ≠ "__name__" := by decide) (hd:(x == ("__debug__" : Str))=false:=by decide):wpAny (model X.prog X.w) X.A (eval (.Name x pos) X.env) Q E s:=by
 obtain ⟨mb,h1,h2⟩:=I.mod.blt
 exact Calls.Name_function_global I.ok.kind hg (Calls.loadGlobal_builtin (by rw [I.ok.glob];exact I.mod.glob.keeps I.bk) hm (by rw [I.ok.blt];exact h1.keeps I.bk) ((h2 x hn).trans hv) h) hd
theorem pe_glob {x:Str}{v:V}{u:Value}{pos:Pos}(hg:Gl X x)(hm:X.mg x=some u)(r:RelV v u)(hd:(x == ("__debug__" : Str))=false:=by decide):PE X (.Name x pos) (tC v) :=
 fun _ _ _ H _ I h=>ld_glob I hg hm ⟨v,H,I,r,h⟩ hd
theorem pe_bltn {x:Str}{v:V}{u:Value}{pos:Pos}(hg:Gl X x)(hm:X.mg x=none)(hv:bootBuiltins x=some u)(r:RelV v u)(hn:x ≠ "__name__" := by decide)(hd:(x == ("__debug__" : Str))=false:=by decide):PE X (.Name x pos) (tC v) :=
 fun _ _ _ H _ I h=>GG I hg hm hv ⟨v,H,I,r,h⟩ hn hd
variable {a b:Expr}{ta tb:TE}{pos:Pos}
def PC (X:Cx)(op:CmpOp)(a b:Expr)(t:TE):Prop :=
 ∀ (pins:List (Addr × Obj)) (s:Shared) (σ:St) (H:Hp) (Q:VK),Inv X pins σ H s->t σ H Q ->
  wpAny (model X.prog X.w) X.A (eval a X.env) (fun v s₁=>wpAny (model X.prog X.w) X.A (eval b X.env) (fun u s₂=>wpAny (model X.prog X.w) X.A (compareOp op v u) (EP X pins σ Q) X.xe s₂) X.xe s₁) X.xe s
def tB (t:TE):TT:=fun σ H Q=>t σ H fun x H1=>∃ c,x = .bl c/\Q c H1
theorem pe_cmp {op:CmpOp}{t:TE}(h:PC X op a b t)(h1:behindInMarks op b=false:=by first|exact nobehind _ (by decide) (by decide)|rfl):PE X (.Compare a [op] [b] pos) t:=fun pins s σ H Q I hw=>wpAny_Compare1 (h pins s σ H Q I hw) h1
theorem pt_cmp {op:CmpOp}{t:TE}(h:PC X op a b t)(h1:behindInMarks op b=false:=by first|exact nobehind _ (by decide) (by decide)|rfl):PT X (.Compare a [op] [b] pos) (tB t):=by
 intro pins s σ H Q I hw
 refine wpAny_isTrue_Compare1 (thn (h pins s σ H _ I hw) fun v s1 h1=>thn h1 fun u s2 h2=>thn h2 fun c s3 ⟨x,H1,I1,r1,q1⟩=>?_) h1
 obtain ⟨d,rfl,q⟩:=q1
 cases r1
 exact wpAny_truthy_bool ⟨H1,I1,q⟩
variable {tA tB':TT}{rest:List Expr}
abbrev tAnd (t u:TT):TT:=fun σ H Q=>t σ H fun c H1=>if c=true then u σ H1 Q else Q false H1
abbrev tOr (t u:TT):TT:=fun σ H Q=>t σ H fun c H1=>if c=true then Q true H1 else u σ H1 Q
abbrev tNot (t:TT):TT:=fun σ H Q=>t σ H fun c H1=>Q (!c) H1
theorem pw_and1 (ha:PT X a tA):PW X (.BoolOp .And [a] pos) tA:=by
 intro wh pins s σ H Q I h
 refine isTrue_and (thn (ha pins s σ H Q I h) fun c s1 e=>?_)
 cases c with
 | true=>exact isTrue_and_nil e
 | false=>exact e
theorem HP (ha:PT X a tA):PW X (.BoolOp .Or [a] pos) tA:=by
 intro wh pins s σ H Q I h
 refine isTrue_or (thn (ha pins s σ H Q I h) fun c s1 e=>?_)
 cases c with
 | false=>exact isTrue_or_nil e
 | true=>exact e
theorem pw_and (ha:PT X a tA)(hb:PW X (.BoolOp .And (b::rest) pos) tB'):PW X (.BoolOp .And (a::b::rest) pos) (tAnd tA tB'):=by
 intro wh pins s σ H Q I h
 refine isTrue_and (thn (ha pins s σ H _ I h) fun c s1 ⟨H1,I1,q1⟩=>?_)
 cases c with
 | true=>exact hb wh pins s1 σ H1 Q I1 q1
 | false=>exact ⟨H1,I1,q1⟩
theorem GY (ha:PT X a tA)(hb:PW X (.BoolOp .Or (b::rest) pos) tB'):PW X (.BoolOp .Or (a::b::rest) pos) (tOr tA tB'):=by
 intro wh pins s σ H Q I h
 refine isTrue_or (thn (ha pins s σ H _ I h) fun c s1 ⟨H1,I1,q1⟩=>?_)
 cases c with
 | true=>exact ⟨H1,I1,q1⟩
 | false=>exact hb wh pins s1 σ H1 Q I1 q1
theorem pt_not (ha:PT X a tA):PT X (.UnaryOp .Not a pos) (tNot tA):=by
 intro pins s σ H Q I h
 exact isTrue_not (ha pins s σ H (fun c H1=>Q (!c) H1) I h)
abbrev tAndV (ta tb:TE):TE:=fun σ H Q=>ta σ H fun x H1=>∃ c,x = .bl c/\if c=true then tb σ H1 Q else Q (.bl false) H1
abbrev tOrV (ta tb:TE):TE:=fun σ H Q=>ta σ H fun x H1=>∃ c,x = .bl c/\if c=true then Q (.bl true) H1 else tb σ H1 Q
abbrev tNotV (ta:TE):TE:=fun σ H Q=>ta σ H fun x H1=>∃ c,x = .bl c/\Q (.bl (!c)) H1
theorem Gk {op}{t:TE}(h:PE X a t):PE X (.BoolOp op [a] pos) t:=fun pins s σ H Q I hw=>BoolOp_one (h pins s σ H Q I hw)
theorem pe_and (ha:PE X a ta)(hb:PE X (.BoolOp .And (b::rest) pos) tb):PE X (.BoolOp .And (a::b::rest) pos) (tAndV ta tb):=by
 intro pins s σ H Q I h
 refine BoolOp_and (thn (ha pins s σ H _ I h) fun v s1 ⟨x,H1,I1,r1,q1⟩=>?_)
 obtain ⟨c,rfl,q1⟩:=q1
 cases r1
 refine wpAny_truthy_bool ?_
 cases c with
 | true=>exact hb pins s1 σ H1 Q I1 q1
 | false=>exact ⟨.bl false,H1,I1,rfl,q1⟩
theorem pe_or (ha:PE X a ta)(hb:PE X (.BoolOp .Or (b::rest) pos) tb):PE X (.BoolOp .Or (a::b::rest) pos) (tOrV ta tb):=by
 intro pins s σ H Q I h
 refine BoolOp_or (thn (ha pins s σ H _ I h) fun v s1 ⟨x,H1,I1,r1,q1⟩=>?_)
 obtain ⟨c,rfl,q1⟩:=q1
 cases r1
 refine wpAny_truthy_bool ?_
 cases c with
 | false=>exact hb pins s1 σ H1 Q I1 q1
 | true=>exact ⟨.bl true,H1,I1,rfl,q1⟩
theorem pe_not (ha:PE X a ta):PE X (.UnaryOp .Not a pos) (tNotV ta):=by
 intro pins s σ H Q I h
 refine UnaryOp_ (thn (ha pins s σ H _ I h) fun v s1 ⟨x,H1,I1,r1,q1⟩=>?_)
 obtain ⟨c,rfl,q1⟩:=q1
 cases r1
 exact not_of (wpAny_truthy_bool ⟨.bl (!c),H1,I1,rfl,q1⟩)
end
def SqL (K:FZ9)(H:Hp)(a:Addr)(xs:List V):Prop :=
 Rd H a (.lst xs) \/
  ∃ (o:Obj) (its:Array Value) (n:Nat),K.lookup a=some o/\o.cls = .type "list" /\ o.dict=none/\o.data = .seq its n/\its.size<=sizeLine/\Vals xs its.toList
def SqT (K:FZ9)(H:Hp)(a:Addr)(xs:List V):Prop :=
 Rd H a (.tup xs) \/
  ∃ (o:Obj) (its:Array Value) (n:Nat),K.lookup a=some o/\o.cls = .type "tuple" /\ o.data = .seq its n/\its.size<=sizeLine/\Vals xs its.toList
def absV:Value->Option V
 | .none=>some .non
 | .bool b=>some (.bl b)
 | .int i _=>some (.int i)
 | .str x _=>some (.str x)
 | .bytes b _=>some (.byt b)
 | .float b _=>some (.flt b)
 | .ref a=>some (.ref a)
 | .type n=>some (.ty n)
 | _=>none
theorem RelV.abs {x:V}{u:Value}(r:RelV x u):absV u=some x:=by
 cases x with
 | non=>cases r;rfl
 | bl _=>cases r;rfl
 | int _=>obtain ⟨t,rfl⟩:=r;rfl
 | str _=>obtain ⟨t,rfl⟩:=r;rfl
 | byt _=>obtain ⟨t,rfl⟩:=r;rfl
 | flt _=>obtain ⟨t,rfl⟩:=r;rfl
 | ref _=>cases r;rfl
 | ty _=>cases r;rfl
theorem RelV.inj {x y:V}{u:Value}(r:RelV x u)(q:RelV y u):x=y:=qpB (r.abs.symm.trans q.abs)
theorem Vals.inj:∀ {xs ys:List V}{us:List Value},Vals xs us->Vals ys us->xs=ys
 | _,_,_,.nil,.nil=>rfl
 | _,_,_,.cons r t,.cons r' t'=>by rw [r.inj r',Vals.inj t t']
section
variable {X:Cx}{pins:List (Addr × Obj)}{σ:St}{H:Hp}{s:Shared}{a:Addr}{xs ys:List V}
theorem SqL.of {K:FZ9}(h:H a=some (.lst xs)):SqL K H a xs:=.inl (.inl h)
theorem SqT.of {K:FZ9}(h:H a=some (.tup xs)):SqT K H a xs:=.inl (.inl h)
theorem Inv.list (I:Inv X pins σ H s)(h:SqL X.K H a xs):∃ its:List Value,Vals xs its/\PlainL s.heap a its.toArray/\xs.length<=sizeLine:=by
 rcases h with h | ⟨o,its,n,hk,hc,hd,hs,hz,r⟩
 ·obtain ⟨z,its,n,r,e⟩:=h.ok I.hok
  exact ⟨its,r,⟨_,n,e,rfl,rfl,rfl⟩,z⟩
 ·refine ⟨its.toList,r,⟨o,n,I.kIn a o hk,hc,hd,by simpa using hs⟩,?_⟩
  have e:=r.length
  simp only [qiC] at e
  omega
theorem Inv.tuple (I:Inv X pins σ H s)(h:SqT X.K H a xs):∃ its:List Value,Vals xs its/\IsTup s.heap a its.toArray/\xs.length<=sizeLine:=by
 rcases h with h | ⟨o,its,n,hk,hc,hs,hz,r⟩
 ·obtain ⟨z,its,r,p⟩:=h.ok I.hok
  exact ⟨its,r,p,z⟩
 ·refine ⟨its.toList,r,⟨o,I.kIn a o hk,hc,n,by simpa using hs⟩,?_⟩
  have e:=r.length
  simp only [qiC] at e
  omega
theorem Inv.list_inj (I:Inv X pins σ H s)(h:SqL X.K H a xs)(h':SqL X.K H a ys):xs=ys:=by
 obtain ⟨its,r,⟨o,n,e,_,_,d⟩,_⟩:=I.list h
 obtain ⟨its',r',⟨o',n',e',_,_,d'⟩,_⟩:=I.list h'
 rw [e] at e';cases e'
 rw [d] at d'
 injection d' with d1 _
 have:its=its':=by simpa using congrArg Array.toList d1
 subst this
 exact r.inj r'
theorem Inv.tuple_inj (I:Inv X pins σ H s)(h:SqT X.K H a xs)(h':SqT X.K H a ys):xs=ys:=by
 obtain ⟨its,r,⟨o,e,_,n,d⟩,_⟩:=I.tuple h
 obtain ⟨its',r',⟨o',e',_,n',d'⟩,_⟩:=I.tuple h'
 rw [e] at e';cases e'
 rw [d] at d'
 injection d' with d1 _
 have:its=its':=by simpa using congrArg Array.toList d1
 subst this
 exact r.inj r'
end
abbrev Cx.wish (X:Cx)(E:Value->Shared->Prop):Cx:={ X with xe:=E }
abbrev Cx.nox (X:Cx):Cx:=X.wish fun _ _=>False
theorem Cx.Ok.wish {X:Cx}(ok:X.Ok)(E:Value->Shared->Prop):(X.wish E).Ok :=
 ⟨ok.mod,ok.kind,ok.glob,ok.blt,ok.above,ok.inj,ok.has,ok.cab,ok.hd,ok.frames,ok.stk,ok.exf,ok.bs,ok.bsz,ok.noex,ok.exfs,ok.funs,ok.frf⟩
theorem Cx.Ok.unwish {X:Cx}{E:Value->Shared->Prop}(ok:(X.wish E).Ok):X.Ok :=
 ⟨ok.mod,ok.kind,ok.glob,ok.blt,ok.above,ok.inj,ok.has,ok.cab,ok.hd,ok.frames,ok.stk,ok.exf,ok.bs,ok.bsz,ok.noex,ok.exfs,ok.funs,ok.frf⟩
section
variable {X:Cx}{pins:List (Addr × Obj)}{σ:St}{H:Hp}{s:Shared}{E:Value->Shared->Prop}
theorem Inv.wish (I:Inv X pins σ H s)(E:Value->Shared->Prop):Inv (X.wish E) pins σ H s:=⟨I.ok.wish E,I.os,I.bare,I.base,I.loc,I.cell,I.free,I.freeC,I.pin,I.hok,I.len⟩
theorem Inv.unwish (I:Inv (X.wish E) pins σ H s):Inv X pins σ H s:=⟨I.ok.unwish,I.os,I.bare,I.base,I.loc,I.cell,I.free,I.freeC,I.pin,I.hok,I.len⟩
theorem SP.unwish {D:Ends}{f:Flow}{s':Shared}(h:SP (X.wish E) pins D f s'):SP X pins D f s':=by
 cases f with
 | next=>obtain ⟨σ',H',I,q⟩:=h;exact ⟨σ',H',I.unwish,q⟩
 | brk=>obtain ⟨σ',H',I,q⟩:=h;exact ⟨σ',H',I.unwish,q⟩
 | cont=>obtain ⟨σ',H',I,q⟩:=h;exact ⟨σ',H',I.unwish,q⟩
 | ret u=>obtain ⟨v,σ',H',I,r,q⟩:=h;exact ⟨v,σ',H',I.unwish,r,q⟩
theorem PSs.nox {st:List Stmt}{t:TS}(h:PSs X.nox st t):PSs X st t:=fun pins s σ H D I hw =>
 wpAny_mono (h pins s σ H D (I.wish _) hw) (fun _ _ q=>q.unwish) fun _ _ z=>False.elim z
end
section
variable {X:Cx}{st:Stmt}{rest:List Stmt}{t u:TS}{e:Expr}{te:TE}{pos:Pos}
abbrev CI:TS:=fun D σ H=>D.nx σ H
abbrev CA (t u:TS):TS:=fun D σ H=>t { D with nx:=u D } σ H
theorem A9:PSs X [] CI:=fun _ _ σ H _ I h=>wpAny_execs_nil ⟨σ,H,I,h⟩
theorem A7 (h1:PS X st t)(h2:PSs X rest u):PSs X (st::rest) (CA t u):=by
 intro pins s σ H D I h
 refine wpAny_execs_cons (thn (h1 pins s σ H { D with nx:=u D } I h) fun f s1 q=>?_)
 cases f with
 | next =>
  obtain ⟨σ',H',I',q⟩:=q
  exact h2 pins s1 σ' H' D I' q
 | ret v=>exact q
 | brk=>exact q
 | cont=>exact q
theorem Inv.quiet {pins:List (Addr × Obj)}{σ:St}{H:Hp}{s:Shared}(I:Inv X pins σ H s):interactive X.env=false:=by simp [interactive,I.ok.kind]
abbrev HW (te:TE):TS:=fun D σ H=>te σ H fun _ H1=>D.nx σ H1
theorem Da (he:PE X e te)(hs:swapsWith e none pos.line X.env=pure false:=by rfl):PS X (.Expr e pos) (HW te):=by
 intro pins s σ H D I h
 exact wpAny_Expr_any (thn (he pins s σ H _ I h) fun v s1 ⟨x,H1,I1,r1,q1⟩=>⟨σ,H1,I1,q1⟩) I.quiet hs
abbrev Hj (te:TE):TS:=fun D σ H=>te σ H D.rt
theorem AN (he:PE X e te):PS X (.Return (some e) pos) (Hj te):=by
 intro pins s σ H D I h
 exact wpAny_Return_some (thn (he pins s σ H _ I h) fun v s1 ⟨x,H1,I1,r1,q1⟩=>⟨x,σ,H1,I1,r1,q1⟩)
abbrev Hh (c:TT)(t u:TS):TS:=fun D σ H=>c σ H fun b H1=>if b=true then t D σ H1 else u D σ H1
theorem BE {c:Expr}{a b:List Stmt}{tc:TT}(hc:PT X c tc)(ha:PSs X a t)(hb:PSs X b u):PS X (.If c a b pos) (Hh tc t u):=by
 intro pins s σ H D I h
 refine wpAny_If (thn (hc pins s σ H _ I h) fun d s1 ⟨H1,I1,q1⟩=>?_)
 cases d with
 | true=>exact ha pins s1 σ H1 D I1 q1
 | false=>exact hb pins s1 σ H1 D I1 q1
def tNever:TS:=fun _ _ _=>False
theorem ps_never:PS X st tNever:=fun _ _ _ _ _ _ h=>h.elim
end
abbrev TG:=V->St->Hp->(St->Hp->Prop)->Prop
abbrev TGs:=List V->St->Hp->(St->Hp->Prop)->Prop
def PG (X:Cx)(target:Expr)(t:TG):Prop :=
 ∀ (pins:List (Addr × Obj)) (s:Shared) (σ:St) (H:Hp) (v:V) (u:Value) (Q:St->Hp->Prop),Inv X pins σ H s->RelV v u->t v σ H Q ->
  wpAny (model X.prog X.w) X.A (assign target X.env u) (fun _ s'=>∃ σ' H',Inv X pins σ' H' s'/\Q σ' H') X.xe s
def PGs (X:Cx)(ts:List Expr)(t:TGs):Prop :=
 ∀ (pins:List (Addr × Obj)) (s:Shared) (σ:St) (H:Hp) (vs:List V) (us:List Value) (Q:St->Hp->Prop),Inv X pins σ H s->Vals vs us->t vs σ H Q ->
  wpAny (model X.prog X.w) X.A (assignInOrder ((assignEach ts X.env).map (·.2)) us) (fun _ s'=>∃ σ' H',Inv X pins σ' H' s'/\Q σ' H') X.xe s
section
variable {X:Cx}{pos:Pos}
abbrev Bh (i:Nat):TG:=fun v σ H Q=>Q (σ.set i (some v)) H
theorem BD {i:Nat}{x:Str}(hN:X.N.Nodup)(hi:X.N[i]? = some x)(hx:Loc X.env.scope x)(hf:X.fn x=true\/X.env.scope.names.lookup x=some .local := by first|exact .inl rfl|exact .inr rfl|assumption):PG X (.Name x pos) (Bh i):=by
 intro pins s σ H v u Q I r h
 exact wpAny_assign_Name (store_ok I hN hi hx r (fun s' I'=>⟨_,H,I',h⟩) hf)
def gNil:TGs:=fun vs σ H Q=>vs=[]/\Q σ H
def GX (t:TG)(u:TGs):TGs:=fun vs σ H Q=>∃ v r,vs=v::r/\t v σ H fun σ' H'=>u r σ' H' Q
theorem pgs_nil:PGs X [] gNil:=by
 intro pins s σ H vs us Q I r h
 obtain ⟨e,h⟩:=h
 subst e
 cases r
 exact assignInOrder_nil ⟨σ,H,I,h⟩
theorem Dp {e:Expr}{es:List Expr}{t:TG}{u:TGs}(h1:PG X e t)(h2:PGs X es u)
  (hs:(assignEach (e::es) X.env).map (·.2)=assign e X.env::(assignEach es X.env).map (·.2):=by rfl):PGs X (e::es) (GX t u):=by
 intro pins s σ H vs us Q I r h
 obtain ⟨v,vr,e1,h⟩:=h
 subst e1
 cases r with
 | cons r rr =>
  rw [hs]
  refine assignInOrder_cons (thn (h1 pins s σ H _ _ _ I r h) fun _ s1 ⟨σ1,H1,I1,q1⟩=>?_)
  exact h2 pins s1 σ1 H1 _ _ Q I1 rr q1
def gTup (K:FZ9)(n:Nat)(t:TGs):TG:=fun v σ H Q=>∃ a xs,v = .ref a/\SqT K H a xs/\xs.length=n/\t xs σ H Q
theorem pg_tup {es:List Expr}{k:Nat}{t:TGs}{n:Nat}(hc:X.calm=true)(h:PGs X es t)
  (hn:(assignEach es X.env).length=n:=by rfl) (hst:(assignEach es X.env).findIdx? (·.1)=none:=by rfl):PG X (.Tuple es k pos) (gTup X.K n t):=by
 intro pins s σ H v u Q I r hw
 obtain ⟨a,xs,e1,hq,hl,hw⟩:=hw
 subst e1
 cases r
 obtain ⟨its,rv,ht,hz⟩:=I.tuple hq
 refine assign_Tuple_tuple (I.ok.hd hc) ht (by simp [hn,<- hl,rv.length]) hst fun h' hx=>?_
 have I1:Inv X pins σ H { s with heap:=h' }:=I.kept (t':=s.toks) fun b o e=>hx b o (qjC (qqB e)) e
 exact h pins _ σ H xs _ Q I1 (by simpa using rv) hw
abbrev GV (te:TE)(g:TG):TS:=fun D σ H=>te σ H fun x H1=>g x σ H1 D.nx
theorem Ad {i:Nat}{x:Str}{e:Expr}{te:TE}{pos':Pos}(hN:X.N.Nodup)(hi:X.N[i]? = some x)(hx:Loc X.env.scope x)(he:PE X e te)(hs:swapsWith e (some (.Name x pos')) pos.line X.env=pure false:=by rfl)(hf:X.fn x=true\/X.env.scope.names.lookup x=some .local := by first|exact .inl rfl|exact .inr rfl|assumption) :
  PS X (.Assign [.Name x pos'] e pos) (GV te (Bh i)):=by
 intro pins s σ H D I h
 refine wpAny_Assign_Name (thn (he pins s σ H _ I h) fun v s1 ⟨y,H1,I1,r1,q1⟩=>?_) hs
 exact store_ok I1 hN hi hx r1 (fun s2 I2=>⟨_,H1,I2,q1⟩) hf
def tPar (i j:Nat)(ta:TA):TS:=fun D σ H=>ta σ H fun vs H1=>∃ v w,vs=[v,w]/\D.nx ((σ.set i (some v)).set j (some w)) H1
theorem ps_par {i j:Nat}{x y:Str}{a b:Expr}{ta:TA}{px py pt:Pos}{kt k2 pt2}(hc:X.calm=true)(hN:X.N.Nodup)(hi:X.N[i]? = some x)(hj:X.N[j]? = some y)(hij:i≠j)
  (hx:X.env.scope.names.lookup x=some .local) (hy:X.env.scope.names.lookup y=some .local) (ha:PA X [a,b] ta)
  (hw:swappedStores [.Tuple [.Name x px,.Name y py] kt pt] (.Tuple [a,b] k2 pt2) X.env=pure (some [x,y]))
  (hs:swapsWithSole [.Tuple [.Name x px,.Name y py] kt pt] (.Tuple [a,b] k2 pt2) pos.line X.env=pure false:=by rfl) :
  PS X (.Assign [.Tuple [.Name x px,.Name y py] kt pt] (.Tuple [a,b] k2 pt2) pos) (tPar i j ta):=by
 intro pins s σ H D I h
 rw [exec_Assign_arm]
 refine qbA (wpAny_standAt ?_)
 rw [hs]
 refine qbA (qcA ?_)
 rw [if_neg (by decide)]
 refine qbA (Tuple_ (thn (ha _ pins s σ H _ I h) fun us s1 ⟨vs,H1,I1,r1,q1⟩=>?_))
 obtain ⟨v,w,e1,q1⟩:=q1
 subst e1
 obtain ⟨u1,u2,rfl,rv,rw'⟩:∃ u1 u2,us=[u1,u2]/\RelV v u1/\RelV w u2:=by
  cases r1 with
  | cons p q =>
   cases q with
   | cons p' q' =>
    cases q'
    exact ⟨_,_,rfl,p,p'⟩
 refine wpAny_newObj_type ?_ (by show 2<=sizeLine;decide)
 have I2:Inv X pins σ H1 { s1 with heap:=s1.heap.push { cls:=.type "tuple",data:=.seq [u1,u2].toArray } }:=I1.kept (t':=s1.toks) fun b o e=>qrB _ e
 rw [hw]
 refine qbA (qcA ?_)
 show wpAny (model X.prog X.w) X.A (do rule "assign.swapped-stores";let items <- unpackItems (.ref s1.heap.objs.size) 2 none;assignInOrder [fun v=>bindName X.env y v,fun v=>bindName X.env x v] items.reverse;pure Flow.next) _ _ _
 refine qbA (qdA (qbA (unpackItems_tuple (items:=#[u1,u2]) (I.ok.hd hc) (IsTup.new s1.heap _) fun h' hx'=>?_)))
 have I3:=I2.kept (h':=h') (t':=s1.toks) fun b o e=>hx' b o (qjC (qqB e)) e
 show wpAny _ _ (assignInOrder [fun v=>bindName X.env y v,fun v=>bindName X.env x v] [u2,u1] >>= fun _=>pure Flow.next) _ _ _
 refine qbA (assignInOrder_cons (wpAny_bindName (store_ok I3 hN hj (.inl hy) rw' (fun s2 I4=>?_) (.inr hy))))
 refine assignInOrder_cons (wpAny_bindName (store_ok I4 hN hi (.inl hx) rv (fun s3 I5=>assignInOrder_nil (qcA ?_)) (.inr hx)))
 rw [List.set_comm _ _ (Ne.symm hij)] at I5
 exact ⟨_,H1,I5,q1⟩
end
section
variable {X:Cx}{pos:Pos}
def tWhile (c:TT)(tb:TS):TS:=fun D σ H=>∃ W:Nat->St->Hp->Prop,(∃ m,W m σ H)/\∀ m σ H,W m σ H ->
 c σ H fun b H1=>if b=true then ∃ N:St->Hp->Prop,(∀ σ' H',N σ' H'->∃ m',m'<m/\W m' σ' H')/\tb { D with nx:=N,ct:=N,bk:=D.nx } σ H1 else D.nx σ H1
theorem ps_while {c:Expr}{body:List Stmt}{tc:TT}{tb:TS}(hp:PassesOwn (model X.prog X.w) X.A X.env X.xe)(hc:PT X c tc)(hb:PSs X body tb):PS X (.While c body [] pos) (tWhile tc tb):=by
 intro pins s σ H D I h
 obtain ⟨W,⟨m0,w0⟩,turn⟩:=h
 refine wpAny_While (codeAny_whileLoop (fun n s'=>∃ σ' H',Inv X pins σ' H' s'/\W n σ' H') ?_ m0 ⟨σ,H,I,w0⟩)
 rintro n s1 ⟨σ1,H1,I1,w1⟩
 refine wpAny_passesOwn hp (thn (hc pins s1 σ1 H1 _ I1 (turn n σ1 H1 w1)) fun b s2 ⟨H2,I2,q2⟩=>?_)
 cases b with
 | true =>
  obtain ⟨N,hN,q2⟩:=q2
  rw [if_pos rfl]
  refine wpAny_passesOwn hp (thn (hb pins s2 σ1 H2 _ I2 q2) fun f s3 q3=>?_)
  cases f with
  | next =>
   obtain ⟨σ3,H3,I3,n3⟩:=q3
   obtain ⟨m',hm,w3⟩:=hN σ3 H3 n3
   exact ⟨m',hm,σ3,H3,I3,w3⟩
  | cont =>
   obtain ⟨σ3,H3,I3,n3⟩:=q3
   obtain ⟨m',hm,w3⟩:=hN σ3 H3 n3
   exact ⟨m',hm,σ3,H3,I3,w3⟩
  | brk=>exact q3
  | ret v=>exact q3
 | false =>
  rw [if_neg qzB]
  exact wpAny_execs_nil ⟨σ1,H2,I2,q2⟩
end
structure It where
 go:Nat->Hp->Prop
 yld:Nat->Hp->V->Hp->Prop
 stop:Nat->Hp->Prop
def HF (X:Cx)(pins:List (Addr × Obj))(H:Hp)(b:Addr):Prop :=
 H b=none/\b≠X.env.locals/\b ∉ X.fs/\(b∈X.ex\/X.s₀.heap.objs.size<=b)/\(∀ x c,X.env.cells.lookup x=some c->c≠b)/\∀ p∈X.pn++pins,p.1≠b
theorem Inv.fpOk {X:Cx}{pins:List (Addr × Obj)}{σ:St}{H H':Hp}{s:Shared}{b:Addr}(I:Inv X pins σ H s)(hb:s.heap.objs.size<=b)(hn:H' b=none):HF X pins H' b:=by
 refine ⟨hn,qsC (qmC I.lt hb),I.nofs hb,.inr (qmB I.sz hb),fun x c e z=>?_,fun p hp z=>?_⟩
 ·obtain ⟨v,q⟩:=I.cell x c e
  exact absurd (qmC q.lt (by rw [z];exact hb)) (qnB _)
 ·exact absurd (qmC (qqB (I.pin p hp).1) (by rw [z];exact hb)) (qnB _)
structure Turn (P:Program)(w:World)(K:FZ9)(tg:Expr)(J:It)(fp:List Addr)(it:Addr)(tn:Nat->Heap->Prop):Prop where
 mem:it∈fp
 obj:∀ i h,tn i h->∀ b∈fp,∃ o,h.get? b=some o/\∀ v,o.data ≠ .cell v
 keep:∀ i h h',tn i h->(∀ b∈fp,∀ o,h.get? b=some o->h'.get? b=some o)->tn i h'
 item:∀ (X:Cx),X.prog=P->X.w=w->X.K=K->X.calm=true->∀ (i:Nat) (pins:List (Addr × Obj)) (s:Shared) (σ:St) (H:Hp) (E:Value->Shared->Prop),Inv X pins σ H s->(∀ b∈fp,HF X pins H b)->tn i s.heap->J.go i H ->
  wpAny (model P w) X.A (pyNext (.ref it)) (fun r s1=>∃ u,r=some u /\
   wpAny (model P w) X.A (letOwnedTupleGo tg (.ref it) u) (fun _ s2=>∃ x H',Inv X pins σ H' s2/\RelV x u/\J.yld i H x H'/\tn (i+1) s2.heap/\∀ b∈fp,H' b=none) E s1) E s
 done:∀ (X:Cx),X.prog=P->X.w=w->X.K=K->X.calm=true->∀ (i:Nat) (pins:List (Addr × Obj)) (s:Shared) (σ:St) (H:Hp) (E:Value->Shared->Prop),Inv X pins σ H s->(∀ b∈fp,HF X pins H b)->tn i s.heap->J.stop i H ->
  wpAny (model P w) X.A (pyNext (.ref it)) (fun r s1=>r=none/\Inv X pins σ H s1) E s
 self:∀ (A:Around) (i:Nat) (s:Shared) (Q:Value->Shared->Prop) (E:Value->Shared->Prop),tn i s.heap->Q (.ref it) s->wpAny (model P w) A (pyIter (.ref it)) Q E s
abbrev TI:=St->Hp->(It->Hp->Prop)->Prop
def PIE (X:Cx)(pins:List (Addr × Obj))(σ:St)(tg:Expr)(R:It->Hp->Prop)(itv:Value)(s2:Shared):Prop :=
 ∃ (it:Addr) (fp:List Addr) (tn:Nat->Heap->Prop) (J:It) (H':Hp),itv = .ref it/\Inv X pins σ H' s2/\Turn X.prog X.w X.K tg J fp it tn/\tn 0 s2.heap/\(∀ b∈fp,HF X pins H' b)/\R J H'
def PI (X:Cx)(tg iter:Expr)(wi:TI):Prop :=
 ∀ (pins:List (Addr × Obj)) (s:Shared) (σ:St) (H:Hp) (R:It->Hp->Prop),Inv X pins σ H s->wi σ H R ->
  wpAny (model X.prog X.w) X.A (eval iter X.env) (fun v s1=>wpAny (model X.prog X.w) X.A (pyIter v) (PIE X pins σ tg R) X.xe s1) X.xe s
theorem go_of {M:Model}{A:Around}{E:Value->Shared->Prop}{s:Shared}{tg:Expr}{it:Addr}{u:Value}{o:Obj}{n:String}{vs:Array Value}{Q:Unit->Shared->Prop}(ho:s.heap.get? it=some o)(hc:o.cls = .type n)(hd:o.data = .fields vs)
  (hn:["enumerate","zip","dict_itemiterator","dict_reverseitemiterator","odict_iterator","itertools.zip_longest","itertools.pairwise"].contains n=false) (hQ:Q () s):wpAny M A (letOwnedTupleGo tg (.ref it) u) Q E s:=by
 unfold letOwnedTupleGo
 cases tg<;>first
  | exact qcA hQ
  | (cases u<;>first
    | exact qcA hQ
    | (refine qbA (wpAny_load ho ?_)
       rw [hc,hd]
       show wpAny M A (if (["enumerate","zip","dict_itemiterator","dict_reverseitemiterator","odict_iterator","itertools.zip_longest","itertools.pairwise"].contains n && vs[0]? == some (rawInt _))=true then _ else _) Q E s
       rw [if_neg (by intro h;rw [hn,Bool.false_and] at h;cases h)]
       exact qcA hQ))
def Itl (K:FZ9)(a:Addr):It :=
 ⟨fun i H=>∃ xs x,SqL K H a xs/\xs[i]? = some x,fun i H x H'=>H'=H/\∀ xs,SqL K H a xs->xs[i]? = some x,fun i H=>∃ xs,SqL K H a xs/\xs.length<=i⟩
def Itt (K:FZ9)(a:Addr):It :=
 ⟨fun i H=>∃ xs x,SqT K H a xs/\xs[i]? = some x,fun i H x H'=>H'=H/\∀ xs,SqT K H a xs->xs[i]? = some x,fun i H=>∃ xs,SqT K H a xs/\xs.length<=i⟩
def Itr (lo:Int)(n:Nat):It:=⟨fun i _=>i<n,fun i H x H'=>H'=H/\x = .int (lo+i),fun i _=>n<=i⟩
theorem turn_list {P:Program}{w:World}{K:FZ9}{tg:Expr}(a it:Addr):Turn P w K tg (Itl K a) [it] it (fun i h=>h.IsListIter it a i) where
 mem:=by simp
 obj:=fun i h st b hb=>by
  have e:b=it:=by simpa using hb
  subst e
  obtain ⟨o,e,c,d⟩:=st
  exact ⟨o,e,fun v z=>by rw [d] at z;cases z⟩
 keep:=fun i h h' st k=>st.at fun o e=>k it (by simp) o e
 item:=by
  intro X hP hw hK hc i pins s σ H E I hf st hg
  subst hP hw hK
  obtain ⟨xs,x,hq,hx⟩:=hg
  obtain ⟨its,rv,p,hz⟩:=I.list hq
  obtain ⟨u,hu,ru⟩:=rv.get hx
  obtain ⟨f0,f1,f2,f3,f4,f5⟩:=hf it (by simp)
  refine wpAny_pyNext_list_item st p.isList (x:=u) (by simpa using hu) fun h' st' sb=>?_
  have I1:Inv X pins σ H { s with heap:=h' }:=I.turned (t':=s.toks) (fun b o hb e=>(sb.2 b hb).trans e) f0 f1 f3 f4 f5
  obtain ⟨o,e,c,d⟩:=id st'
  exact ⟨u,rfl,go_of (s:={ s with heap:=h' }) e c d (by decide) ⟨x,H,I1,ru,⟨rfl,fun ys hy=>by rw [I.list_inj hy hq];exact hx⟩,st',fun b hb=>(hf b hb).1⟩⟩
 done:=by
  intro X hP hw hK hc i pins s σ H E I hf st hg
  subst hP hw hK
  obtain ⟨xs,hq,hx⟩:=hg
  obtain ⟨its,rv,p,hz⟩:=I.list hq
  obtain ⟨f0,f1,f2,f3,f4,f5⟩:=hf it (by simp)
  have hl:=rv.length
  exact wpAny_pyNext_list_end (I.ok.hd hc) st p.isList (by simp;omega) fun h' eb=>⟨rfl,I.turned (t':=s.toks) (fun b o hb e=>eb b o hb e) f0 f1 f3 f4 f5⟩
 self:=fun _ _ _ _ _ st h=>wpAny_pyIter_listiter st h
theorem turn_tuple {P:Program}{w:World}{K:FZ9}{tg:Expr}(a it:Addr):Turn P w K tg (Itt K a) [it] it (fun i h=>h.IsTupleIter it a i) where
 mem:=by simp
 obj:=fun i h st b hb=>by
  have e:b=it:=by simpa using hb
  subst e
  obtain ⟨o,e,c,d⟩:=st
  exact ⟨o,e,fun v z=>by rw [d] at z;cases z⟩
 keep:=fun i h h' st k=>st.at fun o e=>k it (by simp) o e
 item:=by
  intro X hP hw hK hc i pins s σ H E I hf st hg
  subst hP hw hK
  obtain ⟨xs,x,hq,hx⟩:=hg
  obtain ⟨its,rv,p,hz⟩:=I.tuple hq
  obtain ⟨u,hu,ru⟩:=rv.get hx
  obtain ⟨f0,f1,f2,f3,f4,f5⟩:=hf it (by simp)
  refine wpAny_pyNext_tuple_item st (show s.heap.IsTuple a its.toArray from p) (x:=u) (by simpa using hu) fun h' st' sb=>?_
  have I1:Inv X pins σ H { s with heap:=h' }:=I.turned (t':=s.toks) (fun b o hb e=>(sb.2 b hb).trans e) f0 f1 f3 f4 f5
  obtain ⟨o,e,c,d⟩:=id st'
  exact ⟨u,rfl,go_of (s:={ s with heap:=h' }) e c d (by decide) ⟨x,H,I1,ru,⟨rfl,fun ys hy=>by rw [I.tuple_inj hy hq];exact hx⟩,st',fun b hb=>(hf b hb).1⟩⟩
 done:=by
  intro X hP hw hK hc i pins s σ H E I hf st hg
  subst hP hw hK
  obtain ⟨xs,hq,hx⟩:=hg
  obtain ⟨its,rv,p,hz⟩:=I.tuple hq
  obtain ⟨f0,f1,f2,f3,f4,f5⟩:=hf it (by simp)
  have hl:=rv.length
  exact wpAny_pyNext_tuple_end (I.ok.hd hc) st (show s.heap.IsTuple a its.toArray from p) (by simp;omega) fun h' eb=>⟨rfl,I.turned (t':=s.toks) (fun b o hb e=>eb b o hb e) f0 f1 f3 f4 f5⟩
 self:=fun _ _ _ _ _ st h=>wpAny_pyIter_tupleiter st h
theorem turn_range {P:Program}{w:World}{K:FZ9}{tg:Expr}(it:Addr)(lo:Int)(n:Nat):Turn P w K tg (Itr lo n) [it] it (fun i h=>IsRangeIter h it (lo+(i:Nat) * 1) ((n:Int) - (i:Nat)) 1) where
 mem:=by simp
 obj:=fun i h st b hb=>by
  have e:b=it:=by simpa using hb
  subst e
  exact ⟨_,st,fun v z=>by
   have z':Data.fields _=Data.cell v:=z
   cases z'⟩
 keep:=fun i h h' st k=>k it (by simp) _ st
 item:=by
  intro X hP hw hK hc i pins s σ H E I hf st hg
  subst hP hw hK
  obtain ⟨f0,f1,f2,f3,f4,f5⟩:=hf it (by simp)
  have W:=Walks.range (prog:=X.prog) (w:=X.w) (I.ok.hd hc) it lo 1 n
  refine W.item i s _ _ hg st fun v h' tk hv st' kk=>?_
  obtain ⟨t,rfl⟩:=hv
  have I1:Inv X pins σ H { s with heap:=h',toks:=tk }:=I.turned (fun b o hb e=>kk b o (by simpa using hb) e) f0 f1 f3 f4 f5
  refine ⟨_,rfl,go_of (s:={ s with heap:=h',toks:=tk }) (n := "range_iterator") st' rfl rfl (by decide) ⟨.int (lo+i),H,I1,⟨t,?_⟩,⟨rfl,rfl⟩,st',fun b hb=>(hf b hb).1⟩⟩
  rw [Int.mul_one]
 done:=by
  intro X hP hw hK hc i pins s σ H E I hf st hg
  subst hP hw hK
  obtain ⟨f0,f1,f2,f3,f4,f5⟩:=hf it (by simp)
  exact wpAny_pyNext_range_end (I.ok.hd hc) st (by have:n<=i:=hg;omega) fun h' eb=>⟨rfl,I.turned (t':=s.toks) (fun b o hb e=>eb b o hb e) f0 f1 f3 f4 f5⟩
 self:=fun _ _ _ _ _ st h=>wpAny_pyIter_rangeiter st h
section
variable {X:Cx}{tg:Expr}
theorem range_it {pins:List (Addr × Obj)}{σ:St}{H:Hp}{s:Shared}{R:It->Hp->Prop}{E:Value->Shared->Prop}{lo hi:Int}{t u v:Tok}{tk:Nat}(I:Inv X pins σ H s)(h1:-(2 ^ 62)<=lo)(h2:lo<2 ^ 62)(h3:-(2 ^ 62)<=hi)(h4:hi<2 ^ 62)
  (q:R (Itr lo (hi - lo).toNat) H):wpAny (model X.prog X.w) X.A (pyIter (.ref s.heap.objs.size)) (PIE X pins σ tg R) E { s with heap:=s.heap.push { cls:=.type "range",data:=.fields #[.int lo t,.int hi u,.int 1 v] },toks:=tk }:=by
 refine wpAny_pyIter_range (IsRange.new ..) (small_one h1 h2 h3 h4) ?_
 have I1:Inv X pins σ H { s with heap:=s.heap.push { cls:=.type "range",data:=.fields #[.int lo t,.int hi u,.int 1 v] },toks:=tk }:=I.kept fun b o e=>qrB _ e
 refine ⟨(s.heap.push { cls:=.type "range",data:=.fields #[.int lo t,.int hi u,.int 1 v] }).objs.size,[(s.heap.push { cls:=.type "range",data:=.fields #[.int lo t,.int hi u,.int 1 v] }).objs.size],_,_,H,rfl,
  I1.kept (t':=tk) fun b o e=>qrB _ e,turn_range _ lo (hi - lo).toNat,?_,fun b hb=>?_,q⟩
 ·have e1:lo+((0:Nat):Int) * 1=lo:=by simp
  have e2:(((hi - lo).toNat:Nat):Int) - ((0:Nat):Int)=Builtin.Range.rangeSize lo hi 1:=by rw [rangeSize_one];split<;>omega
  show IsRangeIter _ _ (lo+((0:Nat):Int) * 1) ((((hi - lo).toNat:Nat):Int) - ((0:Nat):Int)) 1
  rw [e1,e2]
  exact qsB _ rfl
 ·have e:b=(s.heap.push { cls:=.type "range",data:=.fields #[.int lo t,.int hi u,.int 1 v] }).objs.size:=by simpa using hb
  subst e
  exact I1.fpOk (qkB _) (I1.hok.fresh (qkB _))
def iRng1 (ta:TA):TI:=fun σ H R=>ta σ H fun vs H1=>∃ j:Int,vs=[.int j]/\-(2 ^ 62)<=j/\j<2 ^ 62/\R (Itr 0 j.toNat) H1
def iRng2 (ta:TA):TI:=fun σ H R=>ta σ H fun vs H1=>∃ i j:Int,vs=[.int i,.int j]/\(-(2 ^ 62)<=i/\i<2 ^ 62/\-(2 ^ 62)<=j/\j<2 ^ 62)/\R (Itr i (j - i).toNat) H1
theorem GU {a:Expr}{ta:TA}{p pos:Pos}(hg:Gl X "range")(hm:X.mg "range" = none)(ha:PA X [a] ta)(hs:starEach [a] X.env=[(false,eval a X.env)]:=by rfl):PI X tg (.Call (.Name "range" p) [a] [] pos) (iRng1 ta):=by
 intro pins s σ H R I h
 refine Call_ (GG I hg hm boot_range (PyProof.Rows.callWith_type1 (thn (ha pos pins s σ H _ I h) fun us s1 ⟨vs,H1,I1,r1,q1⟩=>?_) hs rfl))
 obtain ⟨j,e,q1,q2,q⟩:=q1
 subst e
 cases r1 with
 | cons r rr =>
  cases rr
  obtain ⟨t,rfl⟩:=r
  exact call_range_1 (range_it I1 (by omega) (by omega) q1 q2 (by simpa using q))
theorem pi_range2 {a b:Expr}{ta:TA}{p pos:Pos}(hg:Gl X "range")(hm:X.mg "range" = none)(ha:PA X [a,b] ta)(hs:starEach [a,b] X.env=[(false,eval a X.env),(false,eval b X.env)]:=by rfl)(hs2:starEach [b] X.env=[(false,eval b X.env)]:=by rfl) :
  PI X tg (.Call (.Name "range" p) [a,b] [] pos) (iRng2 ta):=by
 intro pins s σ H R I h
 refine Call_ (GG I hg hm boot_range (PyProof.Rows.callWith_type1 (thn (ha pos pins s σ H _ I h) fun us s1 ⟨vs,H1,I1,r1,q1⟩=>?_) (by rw [hs,hs2]) (by rw [hs2];rfl)))
 obtain ⟨i,j,e,⟨q1,q2,q3,q4⟩,q⟩:=q1
 subst e
 cases r1 with
 | cons r rr =>
  cases rr with
  | cons r' rr =>
   cases rr
   obtain ⟨t,rfl⟩:=r
   obtain ⟨t',rfl⟩:=r'
   exact call_range_2 (range_it I1 q1 q2 q3 q4 q)
def tFor (wi:TI)(g:TG)(tb:TS):TS:=fun D σ H=>wi σ H fun J H1=>∃ W:Nat->Nat->St->Hp->Prop,(∃ m,W 0 m σ H1)/\∀ i m σ H,W i m σ H ->
 (J.stop i H/\D.nx σ H)\/(J.go i H/\∃ N:St->Hp->Prop,(∀ σ' H',N σ' H'->∃ m',m'<m/\W (i+1) m' σ' H')/\∀ x H',J.yld i H x H'->g x σ H' fun σ2 H2=>tb { D with nx:=N,ct:=N,bk:=D.nx } σ2 H2)
def pinsAt (fp:List Addr)(h:Heap):List (Addr × Obj):=fp.filterMap fun b=>(h.get? b).map fun o=>(b,o)
theorem Fv {fp:List Addr}{h:Heap}{b:Addr}{o:Obj}(hb:b∈fp)(e:h.get? b=some o):(b,o)∈pinsAt fp h:=List.mem_filterMap.mpr ⟨b,hb,by rw [e];rfl⟩
theorem of_pinsAt {fp:List Addr}{h:Heap}{p:Addr × Obj}(hp:p∈pinsAt fp h):p.1∈fp/\h.get? p.1=some p.2:=by
 obtain ⟨b,hb,e⟩:=List.mem_filterMap.mp hp
 cases q:h.get? b with
 | none=>rw [q] at e;cases e
 | some o =>
  rw [q] at e
  have e':(b,o)=p:=qpB e
  subst e'
  exact ⟨hb,q⟩
theorem Inv.pinned {pins:List (Addr × Obj)}{σ:St}{H:Hp}{s:Shared}{fp:List Addr}(I:Inv X pins σ H s)(hf:∀ b∈fp,HF X pins H b)(ho:∀ b∈fp,∃ o,s.heap.get? b=some o/\∀ v,o.data ≠ .cell v):Inv X (pins++pinsAt fp s.heap) σ H s :=
 I.pins_of fun p hp=>(qmA.mp hp).elim (fun z=>I.pin p (qnC _ z)) fun z=>by
  obtain ⟨hb,e⟩:=of_pinsAt z
  obtain ⟨f0,f1,f2,_⟩:=hf p.1 hb
  obtain ⟨o,e',d⟩:=ho p.1 hb
  rw [e] at e';cases e'
  exact ⟨e,f0,f1,f2,d⟩
theorem Inv.unpinned {pins pl:List (Addr × Obj)}{σ:St}{H:Hp}{s:Shared}(I:Inv X (pins++pl) σ H s):Inv X pins σ H s:=I.pins_of fun p hp=>I.pin p (qnC _ (List.mem_append_left _ hp))
theorem D6 {iter:Expr}{body:List Stmt}{wi:TI}{g:TG}{tb:TS}{pos:Pos}(hp:PassesOwn (model X.prog X.w) X.A X.env X.xe)(hc:X.calm=true)(hi:PI X tg iter wi)(hg:PG X tg g)(hb:PSs X body tb)
  (hs:∀ x,foldedSetIterable iter X.env x=pure x:=by intro _;rfl):PS X (.For tg iter body [] pos) (tFor wi g tb):=by
 intro pins s σ H D I h
 refine wpAny_For (thn (hi pins s σ H _ I h) fun v s1 h1=>thn h1 fun itv s2 h2=>?_) hs
 obtain ⟨it,fp,tn,J,H2,e,I2,T,st2,f2,W,⟨m0,w0⟩,turn⟩:=h2
 subst e
 have stat:∀ {H':Hp},(∀ b∈fp,H' b=none)->∀ b∈fp,HF X pins H' b:=fun hn b hb=>⟨hn b hb,(f2 b hb).2⟩
 refine codeAny_forLoop_any (fun n s'=>∃ i σ' H',Inv X pins σ' H' s'/\tn i s'.heap/\(∀ b∈fp,H' b=none)/\W i n σ' H') ?_ m0 ⟨0,σ,H2,I2,st2,fun b hb=>(f2 b hb).1,w0⟩
 rintro n s3 ⟨i,σ3,H3,I3,st3,fr3,w3⟩
 rcases turn i n σ3 H3 w3 with ⟨stop,qn⟩ | ⟨go,N,hN,step⟩
 ·refine wpAny_passesOwn hp (thn (T.done X rfl rfl rfl hc i pins s3 σ3 H3 X.xe I3 (stat fr3) st3 stop) fun r s4 ⟨hr,I4⟩=>?_)
  subst hr
  exact wpAny_execs_nil ⟨σ3,H3,I4,qn⟩
 ·refine wpAny_passesOwn hp (thn (T.item X rfl rfl rfl hc i pins s3 σ3 H3 X.xe I3 (stat fr3) st3 go) fun r s4 ⟨u,hr,h4⟩=>?_)
  subst hr
  refine wpAny_passesOwn hp (thn h4 fun _ s5 ⟨x,H5,I5,r5,y5,st5,fr5⟩=>?_)
  have I5':=I5.pinned (stat fr5) (T.obj _ _ st5)
  refine wpAny_passesOwn hp (thn (hg _ s5 σ3 H5 x u _ I5' r5 (step x H5 y5)) fun _ s6 ⟨σ6,H6,I6,q6⟩=>?_)
  refine wpAny_passesOwn hp (thn (hb _ s6 σ6 H6 _ I6 q6) fun f s7 q7=>?_)
  have again:∀ {σ7:St}{H7:Hp},Inv X (pins++pinsAt fp s5.heap) σ7 H7 s7->N σ7 H7->∃ m,m<n/\∃ i σ' H',Inv X pins σ' H' s7/\tn i s7.heap/\(∀ b∈fp,H' b=none)/\W i m σ' H':=fun {σ7 H7} I7 n7=>by
   obtain ⟨m',hm,w7⟩:=hN σ7 H7 n7
   refine ⟨m',hm,i+1,σ7,H7,I7.unpinned,T.keep _ _ _ st5 fun b hb o e=>(I7.pin (b,o) (qnC _ (qnC _ (Fv hb e)))).1,fun b hb=>?_,w7⟩
   obtain ⟨o,e,d⟩:=T.obj _ _ st5 b hb
   exact (I7.pin (b,o) (qnC _ (qnC _ (Fv hb e)))).2.1
  cases f with
  | next=>obtain ⟨σ7,H7,I7,n7⟩:=q7;exact again I7 n7
  | cont=>obtain ⟨σ7,H7,I7,n7⟩:=q7;exact again I7 n7
  | brk=>obtain ⟨σ7,H7,I7,q7⟩:=q7;exact ⟨σ7,H7,I7.unpinned,q7⟩
  | ret v=>obtain ⟨x7,σ7,H7,I7,r7,q7⟩:=q7;exact ⟨x7,σ7,H7,I7.unpinned,r7,q7⟩
end
abbrev R2:=V->V->Hp->VK->Prop
def OpR (X:Cx)(f:Value->Value->Sem Value)(r:R2):Prop :=
 ∀ (pins:List (Addr × Obj)) (s:Shared) (σ:St) (H:Hp) (x y:V) (v u:Value) (Q:VK),Inv X pins σ H s->RelV x v->RelV y u->r x y H Q ->
  wpAny (model X.prog X.w) X.A (f v u) (EP X pins σ Q) X.xe s
def UnR (X:Cx)(f:Value->Sem Value)(r:V->Hp->VK->Prop):Prop :=
 ∀ (pins:List (Addr × Obj)) (s:Shared) (σ:St) (H:Hp) (x:V) (v:Value) (Q:VK),Inv X pins σ H s->RelV x v->r x H Q ->
  wpAny (model X.prog X.w) X.A (f v) (EP X pins σ Q) X.xe s
def EM (X:Cx)(f:Value)(r:List V->Hp->VK->Prop):Prop :=
 ∀ (pins:List (Addr × Obj)) (s:Shared) (σ:St) (H:Hp) (xs:List V) (us:List Value) (Q:VK),Inv X pins σ H s->Vals xs us->r xs H Q ->
  wpAny (model X.prog X.w) X.A (call f us) (EP X pins σ Q) X.xe s
def TruR (X:Cx)(r:V->Hp->(Bool->Hp->Prop)->Prop):Prop :=
 ∀ (pins:List (Addr × Obj)) (s:Shared) (σ:St) (H:Hp) (x:V) (v:Value) (Q:Bool->Hp->Prop),Inv X pins σ H s->RelV x v->r x H Q ->
  wpAny (model X.prog X.w) X.A (truthy v) (TP X pins σ Q) X.xe s
abbrev tOp (r:R2)(ta tb:TE):TE:=fun σ H Q=>ta σ H fun x H1=>tb σ H1 fun y H2=>r x y H2 Q
abbrev tUn (r:V->Hp->VK->Prop)(ta:TE):TE:=fun σ H Q=>ta σ H fun x H1=>r x H1 Q
def rI (C:Int->Int->Prop)(g:Int->Int->V):R2:=fun x y H Q=>∃ i j,x = .int i/\y = .int j/\C i j/\Q (g i j) H
def rI0 (g:Int->Int->V):R2:=fun x y H Q=>∃ i j,x = .int i/\y = .int j/\Q (g i j) H
def rU (g:Int->V):V->Hp->VK->Prop:=fun x H Q=>∃ i,x = .int i/\Q (g i) H
section
variable {X:Cx}{a b c:Expr}{ta tb tc:TE}{pos:Pos}
theorem binT (ha:PE X a ta)(hb:PE X b tb){pins:List (Addr × Obj)}{s:Shared}{σ:St}{H:Hp}{R:V->V->Hp->Prop}(I:Inv X pins σ H s)
  (h:ta σ H fun x H1=>tb σ H1 fun y H2=>R x y H2) {Q:Value->Shared->Prop}{f:Value->Value->Sem Value}
  (hf:∀ v u s2 x y H2,Inv X pins σ H2 s2->RelV x v->RelV y u->R x y H2->wpAny (model X.prog X.w) X.A (f v u) Q X.xe s2) :
  wpAny (model X.prog X.w) X.A (eval a X.env) (fun v s₁=>wpAny (model X.prog X.w) X.A (eval b X.env) (fun u s₂=>wpAny (model X.prog X.w) X.A (f v u) Q X.xe s₂) X.xe s₁) X.xe s:=by
 refine thn (ha pins s σ H _ I h) fun v s1 ⟨x,H1,I1,r1,q1⟩=>?_
 refine thn (hb pins s1 σ H1 _ I1 q1) fun u s2 ⟨y,H2,I2,r2,q2⟩=>?_
 exact hf v u s2 x y H2 I2 r1 r2 q2
theorem Ao {op:Operator}{r:R2}(ho:OpR X (binaryOp op) r)(ha:PE X a ta)(hb:PE X b tb):PE X (.BinOp a op b pos) (tOp r ta tb):=by
 intro pins s σ H Q I h
 exact wpAny_BinOp (binT ha hb I h fun v u s2 x y H2 I2 rx ry q=>ho pins s2 σ H2 x y v u Q I2 rx ry q)
theorem pe_un {op:UnaryOp}{r:V->Hp->VK->Prop}(ho:UnR X (unaryOp op) r)(ha:PE X a ta):PE X (.UnaryOp op a pos) (tUn r ta):=by
 intro pins s σ H Q I h
 exact UnaryOp_ (thn (ha pins s σ H _ I h) fun v s1 ⟨x,H1,I1,r1,q1⟩=>ho pins s1 σ H1 x v Q I1 r1 q1)
theorem opI {f:Value->Value->Sem Value}{C:Int->Int->Prop}{g:Int->Int->Int}
  (rule:∀ (i j:Int) (t u:Tok) (s:Shared) (Q:Value->Shared->Prop) (E:Value->Shared->Prop),C i j->Q (.int (g i j) s.toks) { s with toks:=s.toks+1 }->wpAny (model X.prog X.w) X.A (f (.int i t) (.int j u)) Q E s) :
  OpR X f (rI C fun i j=>.int (g i j)):=by
 intro pins s σ H x y v u Q I rx ry h
 obtain ⟨i,j,rfl,rfl,hc,q⟩:=h
 obtain ⟨t,rfl⟩:=rx
 obtain ⟨t',rfl⟩:=ry
 exact rule i j t t' s _ _ hc ⟨.int (g i j),H,I.tok _,⟨_,rfl⟩,q⟩
theorem opI0 {f:Value->Value->Sem Value}{g:Int->Int->Int}
  (rule:∀ (i j:Int) (t u:Tok) (s:Shared) (Q:Value->Shared->Prop) (E:Value->Shared->Prop),Q (.int (g i j) s.toks) { s with toks:=s.toks+1 }->wpAny (model X.prog X.w) X.A (f (.int i t) (.int j u)) Q E s) :
  OpR X f (rI0 fun i j=>.int (g i j)):=by
 intro pins s σ H x y v u Q I rx ry h
 obtain ⟨i,j,rfl,rfl,q⟩:=h
 obtain ⟨t,rfl⟩:=rx
 obtain ⟨t',rfl⟩:=ry
 exact rule i j t t' s _ _ ⟨.int (g i j),H,I.tok _,⟨_,rfl⟩,q⟩
theorem opB0 {f:Value->Value->Sem Value}{g:Int->Int->Bool}
  (rule:∀ (i j:Int) (t u:Tok) (s:Shared) (Q:Value->Shared->Prop) (E:Value->Shared->Prop),Q (.bool (g i j)) s->wpAny (model X.prog X.w) X.A (f (.int i t) (.int j u)) Q E s) :
  OpR X f (rI0 fun i j=>.bl (g i j)):=by
 intro pins s σ H x y v u Q I rx ry h
 obtain ⟨i,j,rfl,rfl,q⟩:=h
 obtain ⟨t,rfl⟩:=rx
 obtain ⟨t',rfl⟩:=ry
 exact rule i j t t' s _ _ ⟨.bl (g i j),H,I,rfl,q⟩
def CDiv (i j:Int):Prop:=0<j/\j<1073741824
def CPow (i j:Int):Prop:=0<=j/\j<=1000000/\i.natAbs<2 ^ 64
def CMul (i j:Int):Prop:=(-(2 ^ 64)<i/\i<2 ^ 64)\/(-(2 ^ 64)<j/\j<2 ^ 64)
theorem CMul.ok {i j:Int}(h:CMul i j):IntMulOk i j:=by
 rcases h with ⟨h1,h2⟩ | ⟨h1,h2⟩
 ·exact .of_left (intBits_le_64 h1 h2)
 ·exact .of_right (intBits_le_64 h1 h2)
theorem op_add:OpR X (binaryOp .Add) (rI0 fun i j=>.int (i+j)):=opI0 fun _ _ _ _ _ _ _ q=>add_int q
theorem op_sub:OpR X (binaryOp .Sub) (rI0 fun i j=>.int (i - j)):=opI0 fun _ _ _ _ _ _ _ q=>sub_int q
theorem op_mul:OpR X (binaryOp .Mult) (rI CMul fun i j=>.int (i * j)):=opI fun _ _ _ _ _ _ _ hc q=>mul_int q hc.ok
theorem op_fdiv:OpR X (binaryOp .FloorDiv) (rI CDiv fun i j=>.int (i / j)):=opI fun i j _ _ _ _ _ hc q=>by
 have h1:(0:Int)<j:=hc.1
 have h2:j<1073741824:=hc.2
 exact floordiv_int (by omega) (by rw [Int.fdiv_eq_ediv_of_nonneg i (by omega)];exact q) (.inl (PyProof.noPylong_small (by omega)))
theorem DJ:OpR X (binaryOp .Mod) (rI (fun _ j=>0<j) fun i j=>.int (i % j)):=opI fun i j _ _ _ _ _ hc q=>by
 have h1:(0:Int)<j:=hc
 exact mod_int' (by omega) (by rw [Int.fmod_eq_emod_of_nonneg i (by omega)];exact q)
theorem op_pow:OpR X (binaryOp .Pow) (rI CPow fun i j=>.int (i ^ j.toNat)):=opI fun _ _ _ _ _ _ _ hc q=>pow_int_small hc.1 hc.2.1 hc.2.2 q
theorem unI {f:Value->Sem Value}{g:Int->Int}
  (rule:∀ (i:Int) (t:Tok) (s:Shared) (Q:Value->Shared->Prop) (E:Value->Shared->Prop),Q (.int (g i) s.toks) { s with toks:=s.toks+1 }->wpAny (model X.prog X.w) X.A (f (.int i t)) Q E s) :
  UnR X f (rU fun i=>.int (g i)):=by
 intro pins s σ H x v Q I rx h
 obtain ⟨i,rfl,q⟩:=h
 obtain ⟨t,rfl⟩:=rx
 exact rule i t s _ _ ⟨.int (g i),H,I.tok _,⟨_,rfl⟩,q⟩
theorem un_neg:UnR X (unaryOp .USub) (rU fun i=>.int (-i)):=unI fun _ _ _ _ _ q=>neg_int q
end
def scal:V->V->Bool
 | .non,.non=>true | .non,.int _=>true | .int _,.non=>true | .non,.bl _=>true | .bl _,.non=>true | .non,.str _=>true | .str _,.non=>true
 | .int _,.int _=>true | .bl _,.bl _=>true | .str _,.str _=>true | .byt _,.byt _=>true
 | .int _,.str _=>true | .str _,.int _=>true | .bl _,.str _=>true | .str _,.bl _=>true
 | _,_=>false
def rEq:R2:=fun x y H Q=>scal x y=true/\Q (.bl (decide (x=y))) H
def rNe:R2:=fun x y H Q=>scal x y=true/\Q (.bl (!decide (x=y))) H
theorem dec_int {i j:Int}:decide (V.int i=V.int j)=(i == j):=by
 rw [Bool.eq_iff_iff]
 simp
theorem dec_bl {i j:Bool}:decide (V.bl i=V.bl j)=(i == j):=by
 rw [Bool.eq_iff_iff]
 simp
theorem dec_str {i j:Str}:decide (V.str i=V.str j)=(i == j):=by
 rw [Bool.eq_iff_iff]
 simp
theorem dec_byt {i j:Array UInt8}:decide (V.byt i=V.byt j)=(i.toList == j.toList):=by
 rw [Bool.eq_iff_iff]
 cases i
 cases j
 simp
section
variable {X:Cx}{a b c:Expr}{ta tb tc:TE}{pos:Pos}
theorem BF {pins:List (Addr × Obj)}{σ:St}{H:Hp}{s:Shared}{Q:VK}{k k':Bool}(I:Inv X pins σ H s)(q:Q (.bl k) H)(e:k=k'):EP X pins σ Q (.bool k') s:=by
 subst e
 exact ⟨.bl k,H,I,rfl,q⟩
theorem BZ:OpR X (compareOp .Eq) rEq:=by
 intro pins s σ H x y v u Q I rx ry h
 obtain ⟨hs,q⟩:=h
 cases x with
 | non =>
  cases rx
  cases y with
  | non=>cases ry;exact PySem.EqNone.eq_none_none (BF I q (by simp))
  | bl j=>cases ry;exact PySem.EqNone.eq_none_bool (BF I q (by simp))
  | int j=>obtain ⟨t',rfl⟩:=ry;exact PySem.EqNone.eq_none_int (BF I q (by simp))
  | str j=>obtain ⟨t',rfl⟩:=ry;exact PySem.EqNone.eq_none_str (BF I q (by simp))
  | _=>exact absurd (show false=true from hs) qzB
 | bl i =>
  cases rx
  cases y with
  | non=>cases ry;exact PySem.EqNone.eq_bool_none (BF I q (by simp))
  | bl j=>cases ry;exact eq_bool (BF I q dec_bl)
  | str j=>obtain ⟨t',rfl⟩:=ry;exact PySem.EqMixed.eq_bool_str (BF I q (by simp))
  | _=>exact absurd (show false=true from hs) qzB
 | int i =>
  obtain ⟨t,rfl⟩:=rx
  cases y with
  | non=>cases ry;exact PySem.EqNone.eq_int_none (BF I q (by simp))
  | int j=>obtain ⟨t',rfl⟩:=ry;exact eq_int (BF I q dec_int)
  | str j=>obtain ⟨t',rfl⟩:=ry;exact PySem.EqMixed.eq_int_str (BF I q (by simp))
  | _=>exact absurd (show false=true from hs) qzB
 | str i =>
  obtain ⟨t,rfl⟩:=rx
  cases y with
  | non=>cases ry;exact PySem.EqNone.eq_str_none (BF I q (by simp))
  | bl j=>cases ry;exact PySem.EqMixed.eq_str_bool (BF I q (by simp))
  | int j=>obtain ⟨t',rfl⟩:=ry;exact PySem.EqMixed.eq_str_int (BF I q (by simp))
  | str j=>obtain ⟨t',rfl⟩:=ry;exact eq_str (BF I q dec_str)
  | _=>exact absurd (show false=true from hs) qzB
 | byt i =>
  obtain ⟨t,rfl⟩:=rx
  cases y with
  | byt j=>obtain ⟨t',rfl⟩:=ry;exact PySem.W.eq_bytes (BF I q dec_byt)
  | _=>exact absurd (show false=true from hs) qzB
 | _=>cases y<;>exact absurd (show false=true from hs) qzB
theorem op_ne:OpR X (compareOp .NotEq) rNe:=by
 intro pins s σ H x y v u Q I rx ry h
 obtain ⟨hs,q⟩:=h
 cases x with
 | non =>
  cases rx
  cases y with
  | non=>cases ry;exact PySem.EqNone.ne_none_none (BF I q (by simp))
  | bl j=>cases ry;exact PySem.EqNone.ne_none_bool (BF I q (by simp))
  | int j=>obtain ⟨t',rfl⟩:=ry;exact PySem.EqNone.ne_none_int (BF I q (by simp))
  | str j=>obtain ⟨t',rfl⟩:=ry;exact PySem.EqNone.ne_none_str (BF I q (by simp))
  | _=>exact absurd (show false=true from hs) qzB
 | bl i =>
  cases rx
  cases y with
  | non=>cases ry;exact PySem.EqNone.ne_bool_none (BF I q (by simp))
  | bl j=>cases ry;exact ne_bool (BF I q (congrArg not dec_bl))
  | str j=>obtain ⟨t',rfl⟩:=ry;exact PySem.EqMixed.ne_bool_str (BF I q (by simp))
  | _=>exact absurd (show false=true from hs) qzB
 | int i =>
  obtain ⟨t,rfl⟩:=rx
  cases y with
  | non=>cases ry;exact PySem.EqNone.ne_int_none (BF I q (by simp))
  | int j=>obtain ⟨t',rfl⟩:=ry;exact ne_int (BF I q (congrArg not dec_int))
  | str j=>obtain ⟨t',rfl⟩:=ry;exact PySem.EqMixed.ne_int_str (BF I q (by simp))
  | _=>exact absurd (show false=true from hs) qzB
 | str i =>
  obtain ⟨t,rfl⟩:=rx
  cases y with
  | non=>cases ry;exact PySem.EqNone.ne_str_none (BF I q (by simp))
  | bl j=>cases ry;exact PySem.EqMixed.ne_str_bool (BF I q (by simp))
  | int j=>obtain ⟨t',rfl⟩:=ry;exact PySem.EqMixed.ne_str_int (BF I q (by simp))
  | str j=>obtain ⟨t',rfl⟩:=ry;exact ne_str (BF I q (congrArg not dec_str))
  | _=>exact absurd (show false=true from hs) qzB
 | byt i =>
  obtain ⟨t,rfl⟩:=rx
  cases y with
  | byt j=>obtain ⟨t',rfl⟩:=ry;exact PySem.W.ne_bytes (BF I q (congrArg not dec_byt))
  | _=>exact absurd (show false=true from hs) qzB
 | _=>cases y<;>exact absurd (show false=true from hs) qzB
theorem op_lt:OpR X (compareOp .Lt) (rI0 fun i j=>.bl (decide (i<j))):=opB0 fun _ _ _ _ _ _ _ q=>lt_int q
theorem op_le:OpR X (compareOp .LtE) (rI0 fun i j=>.bl (decide (i<=j))):=opB0 fun _ _ _ _ _ _ _ q=>le_int q
theorem op_gt:OpR X (compareOp .Gt) (rI0 fun i j=>.bl (decide (j<i))):=opB0 fun _ _ _ _ _ _ _ q=>gt_int q
theorem op_in_str:OpR X (compareOp .In) (fun x y H Q=>∃ i j,x = .str i/\y = .str j/\Q (.bl (!(Builtin.Str.occurrences j i 0 j.length 1).isEmpty)) H):=by
 intro pins s σ H x y v u Q I rx ry h
 obtain ⟨i,j,rfl,rfl,q⟩:=h
 obtain ⟨t,rfl⟩:=rx
 obtain ⟨t',rfl⟩:=ry
 exact in_str (BF I q rfl)
theorem Aa (b:Expr){op:CmpOp}(h:op ≠ .In:=by decide)(h2:op ≠ .NotIn:=by decide):behindInMarks op b=false:=by
 have e1:(op == CmpOp.In)=false:=by cases op<;>first|rfl|exact absurd rfl h
 have e2:(op == CmpOp.NotIn)=false:=by cases op<;>first|rfl|exact absurd rfl h2
 cases b<;>simp [behindInMarks,e1,e2]
theorem GM {op:CmpOp}{r:R2}(ho:OpR X (compareOp op) r)(ha:PE X a ta)(hb:PE X b tb)(hm:behindInMarks op b=false):PE X (.Compare a [op] [b] pos) (tOp r ta tb):=by
 intro pins s σ H Q I h
 exact wpAny_Compare1 (binT ha hb I h fun v u s2 x y H2 I2 rx ry q=>ho pins s2 σ H2 x y v u Q I2 rx ry q) hm
abbrev tTest (t:TE):TT:=fun σ H Q=>t σ H fun x H'=>∃ k,x = .bl k/\Q k H'
theorem AU {op:CmpOp}{r:R2}(ho:OpR X (compareOp op) r)(ha:PE X a ta)(hb:PE X b tb)(hm:behindInMarks op b=false):PT X (.Compare a [op] [b] pos) (tTest (tOp r ta tb)):=by
 intro pins s σ H Q I h
 refine wpAny_isTrue_Compare1 (thn (ha pins s σ H _ I h) fun v s1 ⟨x,H1,I1,r1,q1⟩=>thn (hb pins s1 σ H1 _ I1 q1) fun u s2 ⟨y,H2,I2,r2,q2⟩ =>
  thn (ho pins s2 σ H2 x y v u _ I2 r1 r2 q2) fun c s3 ⟨z,H3,I3,r3,k,e,q3⟩=>?_) hm
 subst e
 cases r3
 exact wpAny_truthy_bool ⟨H3,I3,q3⟩
def TruV (K:FZ9)(x:V)(H:Hp)(k:Bool):Prop :=
 match x with
 | .non=>k=false
 | .bl b=>k=b
 | .int i=>k=(i != 0)
 | .str y=>y.length<=sizeLine/\k=((y.length:Int) != 0)
 | .byt y=>y.size<=sizeLine/\k=((y.size:Int) != 0)
 | .ref p=>(∃ xs,SqL K H p xs/\k = !xs.isEmpty)\/(∃ xs,SqT K H p xs/\k = !xs.isEmpty)\/∃ kvs,H p=some (.dK kvs)/\k = !kvs.isEmpty
 | _=>False
theorem isEmpty_kv {κ:Type}{kvs:List (κ × V)}{vs:List (κ × Value)}(r:KV kvs vs):(!vs.isEmpty) = !kvs.isEmpty:=by
 cases r<;>rfl
theorem isEmpty_of {xs:List V}{its:List Value}(r:Vals xs its):(!its.toArray.isEmpty) = !xs.isEmpty:=by
 cases r<;>simp
theorem HK:(sizeLine:Nat)<2 ^ 63:=by rw [qtB];decide
theorem tru_ok:TruR X (fun x H Q=>∃ k,TruV X.K x H k/\Q k H):=by
 intro pins s σ H x v Q I rx h
 obtain ⟨k,e,q⟩:=h
 have hl:=HK
 have hs:sizeLine=16777216:=qtB
 cases x with
 | non =>
  cases rx
  have e':k=false:=e
  subst e'
  exact truthy_none ⟨H,I,q⟩
 | bl b =>
  cases rx
  have e':k=b:=e
  subst e'
  exact wpAny_truthy_bool ⟨H,I,q⟩
 | int i =>
  obtain ⟨t,rfl⟩:=rx
  have e':k=(i != 0):=e
  subst e'
  exact PySem.P.truthy_int ⟨H,I,q⟩
 | str y =>
  obtain ⟨t,rfl⟩:=rx
  obtain ⟨hy,e'⟩:y.length<=sizeLine/\k=((y.length:Int) != 0):=e
  subst e'
  exact PySem.P.truthy_str (by omega) ⟨H,I.tok _,q⟩
 | byt y =>
  obtain ⟨t,rfl⟩:=rx
  obtain ⟨hy,e'⟩:y.size<=sizeLine/\k=((y.size:Int) != 0):=e
  subst e'
  exact PySem.W.truthy_bytes (by omega) ⟨H,I.tok _,q⟩
 | ref p =>
  cases rx
  have e':(∃ xs,SqL X.K H p xs/\k = !xs.isEmpty)\/(∃ xs,SqT X.K H p xs/\k = !xs.isEmpty)\/∃ kvs,H p=some (.dK kvs)/\k = !kvs.isEmpty:=e
  rcases e' with ⟨xs,hx,e'⟩ | ⟨xs,hx,e'⟩ | ⟨kvs,hx,e'⟩
  ·subst e'
   obtain ⟨its,r,pl,hz⟩:=I.list hx
   have hlen:=r.length
   exact wpAny_truthy_list pl.isList (by simp only [qaC];omega) ⟨H,I.tok _,by rw [isEmpty_of r];exact q⟩
  ·subst e'
   obtain ⟨its,r,pl,hz⟩:=I.tuple hx
   have hlen:=r.length
   exact truthy_tuple pl (by simp only [qaC];omega) ⟨H,I.tok _,by rw [isEmpty_of r];exact q⟩
  ·subst e'
   obtain ⟨hz,hS,vs,r,m⟩:kvs.length<=sizeLine/\(p == sysModules)=false/\∃ vs,KV kvs vs/\s.heap.DictOf (B6 X.prog X.w) p vs:=I.hok p _ hx
   have hlen:kvs.length=vs.length:=Paired.length r
   exact wpAny_truthy_dict hS m (by omega) ⟨H,I.tok _,by rw [isEmpty_kv r];exact q⟩
 | _=>exact (show False from e).elim
theorem pt_truth (ha:PE X a ta)(he:∀ whole,isTrue a X.env whole=(do let v <- whole;standAt a.pos;holding [v] (truthy v))) :
  PT X a (fun σ H Q=>ta σ H fun x H'=>∃ k,TruV X.K x H' k/\Q k H'):=by
 intro pins s σ H Q I h
 exact isTrue_plain (thn (ha pins s σ H _ I h) fun v s1 ⟨x,H1,I1,r1,q1⟩=>tru_ok pins s1 σ H1 x v Q I1 r1 q1) (he _)
theorem op_add_str:OpR X (binaryOp .Add) (fun x y H Q=>∃ i j,x = .str i/\y = .str j/\i.length+j.length<=sizeLine/\Q (.str (i++j)) H):=by
 intro pins s σ H x y v u Q I rx ry h
 obtain ⟨i,j,rfl,rfl,hz,q⟩:=h
 obtain ⟨t,rfl⟩:=rx
 obtain ⟨t',rfl⟩:=ry
 exact add_str (fun t' tk=>⟨.str (i++j),H,I.tok _,⟨_,rfl⟩,q⟩) hz
theorem Fz {x:V}{us:List Value}(r:Vals [x] us):∃ u,us=[u]/\RelV x u:=by
 cases r with
 | cons r1 r2=>cases r2;exact ⟨_,rfl,r1⟩
theorem vals2 {x y:V}{us:List Value}(r:Vals [x,y] us):∃ u w',us=[u,w']/\RelV x u/\RelV y w':=by
 cases r with
 | cons r1 r2 =>
  cases r2 with
  | cons r3 r4=>cases r4;exact ⟨_,_,rfl,r1,r3⟩
end
theorem RelO.some_of {v:V}{o:Option Value}(r:RelO (some v) o):∃ u,o=some u/\RelV v u:=by
 cases o with
 | none=>exact (show False from r).elim
 | some u=>exact ⟨u,rfl,r⟩
structure Room (k:Nat)(A:Around):Prop where
 hd:A.handled=none
 dp:A.depth+3 * k+5<recursionLimit
 un:A.units+16 * k+200<cLine
theorem Room.mono {j k:Nat}{A:Around}(r:Room k A)(h:j<=k):Room j A:=⟨r.hd,by have:=r.dp;omega,by have:=r.un;omega⟩
theorem Room.deeper {k:Nat}{A:Around}(r:Room (k+1) A)(env:Env):Room k (A.deeper env) :=
 ⟨r.hd,by have:=r.dp;show A.depth+1+3 * k+5<_;omega,by have:=r.un;show A.units+3+16 * k+200<_;omega⟩
theorem Room.depth {k:Nat}{A:Around}(r:Room k A):A.depth<recursionLimit:=by have:=r.dp;omega
abbrev BL:TA:=fun _ H Q=>Q [] H
abbrev AQ (ta:TE)(tr:TA):TA:=fun σ H Q=>ta σ H fun x H1=>tr σ H1 fun xs H2=>Q (x::xs) H2
section
variable {X:Cx}{e:Expr}{es:List Expr}{te:TE}{t:TA}{pos:Pos}
theorem A8:PA X [] BL:=fun _ _ _ _ H Q I h=>Calls.spliced_nil ⟨[],H,I,.nil,h⟩
theorem A5 (ha:PE X e te)(hr:PA X es t)(hs:starEach (e::es) X.env=(false,eval e X.env)::starEach es X.env:=by rfl):PA X (e::es) (AQ te t):=by
 intro pos pins s σ H Q I h
 rw [hs]
 show wpAny _ _ (spliced ((false,eval e X.env)::backTo pos (starEach es X.env))) _ _ s
 refine Calls.spliced_cons (thn (ha pins s σ H _ I h) fun u s1 ⟨x,H1,I1,r1,q1⟩=>?_)
 exact thn (hr pos pins s1 σ H1 _ I1 q1) fun us s2 ⟨xs,H2,I2,r2,q2⟩=>⟨x::xs,H2,I2,.cons r1 r2,q2⟩
abbrev HH (t:TA):TE:=fun σ H Q=>t σ H fun xs H1=>xs.length<=sizeLine/\∀ p,H1 p=none->Q (.ref p) (upd H1 p (.tup xs))
abbrev tLst (t:TA):TE:=fun σ H Q=>t σ H fun xs H1=>xs.length<=sizeLine/\∀ p,H1 p=none->Q (.ref p) (upd H1 p (.lst xs))
theorem Am {x1}(h:PA X es t):PE X (.Tuple es x1 pos) (HH t):=by
 intro pins s σ H Q I hq
 refine wpAny_Tuple_spliced (thn (h pos pins s σ H _ I hq) fun us s1 ⟨xs,H1,I1,r,z,q⟩=>⟨by rw [<- r.length];exact z,?_⟩)
 have hf:H1 s1.heap.objs.size=none:=I1.hok.fresh (qkB _)
 refine ⟨.ref s1.heap.objs.size,upd H1 s1.heap.objs.size (.tup xs),I1.laid (t':=s1.toks) (fun b u e=>qrB _ e) (qkB _) ?_,rfl,q _ hf⟩
 exact ⟨z,us,r,⟨_,qsB _ rfl,rfl,_,rfl⟩⟩
theorem CL (h:PA X es t):PE X (.List es pos) (tLst t):=by
 intro pins s σ H Q I hq
 refine wpAny_List_spliced (thn (h pos pins s σ H _ I hq) fun us s1 ⟨xs,H1,I1,r,z,q⟩=>⟨by rw [<- r.length];exact z,?_⟩)
 have hf:H1 s1.heap.objs.size=none:=I1.hok.fresh (qkB _)
 refine ⟨.ref s1.heap.objs.size,upd H1 s1.heap.objs.size (.lst xs),I1.laid (t':=s1.toks) (fun b u e=>qrB _ e) (qkB _) ?_,rfl,q _ hf⟩
 exact ⟨z,us,0,r,qsB _ rfl⟩
end
abbrev Sp:=List V->Hp->VK->XK->Prop
abbrev CXT:=List Env->Hp->Shared->XK->Value->Shared->Prop
structure Env0 (P:Program)(w:World)(K:FZ9)(mg:Str->Option Value)(base:Heap)(A:Around)(outer:List Env)(s:Shared)(H:Hp):Prop where
 frames:A.frames=some outer
 mod:Mod K mg base
 bs:∀ b o,base.get? b=some o->s.heap.get? b=some o/\H b=none
 bsz:base.objs.size<=s.heap.objs.size
 funs:s.heap.FunFrames base outer
 frf:∀ b∈frs outer,H b=none
 hok:HOk P w H s.heap
 bare:AllBare s.gens
def CE (outer:List Env)(P:Program)(w:World)(H:Hp)(s:Shared)(Q:VK)(u:Value)(s':Shared):Prop :=
 ∃ v H',s'.os=s.os/\AllBare s'.gens/\Un (frs outer) [] H H' s.heap s'.heap/\HOk P w H' s'.heap/\RelV v u/\Q v H'
def CR (CX:CXT)(outer:List Env)(P:Program)(w:World)(H:Hp)(s:Shared)(Q:VK)(E:XK)(r:Result)(s':Shared):Prop :=
 match r with
 | .ok (.ret u)=>CE outer P w H s Q u s'
 | .ok _=>False
 | .error e=>CX outer H s E e s'
structure FnOk (P:Program)(w:World)(K:FZ9)(mg:Str->Option Value)(base:Heap)(CX:CXT)(k:Nat)(f:Addr)(fd:FuncData)(ps:List Str)(sp:Sp):Prop where
 len:∀ vs H Q E,sp vs H Q E->vs.length=ps.length
 run:∀ (A:Around) (outer:List Env) (s:Shared) (H:Hp) (args:Args) (us:List Value) (vs:List V) (Q:VK) (E:XK),Room k A->Env0 P w K mg base A outer s H->BindsTo s fd args (ps.zip us)->Vals vs us->sp vs H Q E ->
  codeAny (model P w) A (.call (.ref f) args) (CR CX outer P w H s Q E) s
theorem FnOk.imp {P:Program}{w:World}{K:FZ9}{mg:Str->Option Value}{base:Heap}{CX:CXT}{k:Nat}{f:Addr}{fd:FuncData}{ps:List Str}{sp sp':Sp}(F:FnOk P w K mg base CX k f fd ps sp)
  (h:∀ vs H Q E,sp' vs H Q E->sp vs H Q E):FnOk P w K mg base CX k f fd ps sp' :=
 ⟨fun vs H Q E q=>F.len vs H Q E (h _ _ _ _ q),fun A outer s H args us vs Q E hr he hb hv hs=>F.run A outer s H args us vs Q E hr he hb hv (h _ _ _ _ hs)⟩
section
variable {X:Cx}{pins:List (Addr × Obj)}{σ:St}{H:Hp}{s s':Shared}
theorem Inv.env0 (I:Inv X pins σ H s):Env0 X.prog X.w X.K X.mg X.base X.A X.stack s H :=
 ⟨I.ok.frames,I.ok.mod,I.bs,qmB I.ok.bsz I.sz,I.stack,I.stkFree,I.hok,I.bare⟩
theorem Inv.after {Q:VK}{u:Value}(I:Inv X pins σ H s)(h:CE X.stack X.prog X.w H s Q u s'):EP X pins σ Q u s':=by
 obtain ⟨v,H',os,bare,un,hok,r,q⟩:=h
 obtain ⟨hh,g,d,t,os'⟩:=s'
 obtain rfl:os'=s.os:=os
 exact ⟨v,H',I.call (h':=hh) (g':=g) (d':=d) (t':=t) (ch:=[]) un hok bare (fun b z=>absurd z (by simp)),r,q⟩
end
abbrev ES (sp:Sp)(dvs:List V)(E:XK)(t:TA):TE:=fun σ H Q=>t σ H fun vs H1=>sp (vs++dvs) H1 Q E
def Binds (K:FZ9)(fd:FuncData)(ps:List Str)(ds:List Value):Prop :=
 ∀ (s:Shared) (us:List Value),K.In s.heap->(us++ds).length=ps.length->BindsTo s fd ⟨us,[]⟩ (ps.zip (us++ds))
theorem Binds.all {K:FZ9}{fd:FuncData}{ps:List Str}(h:∀ us:List Value,us.length=ps.length->bindArgs fd ⟨us,[]⟩=pure (ps.zip us)):Binds K fd ps []:=fun s us _ hl=>by
 rw [qfB] at hl ⊢
 exact .of_eq (h us hl)
def Passes (CX:CXT)(X:Cx)(E:XK):Prop:=∀ (pins:List (Addr × Obj)) (σ:St) (H:Hp) (s:Shared) (e:Value) (s':Shared),Inv X pins σ H s->CX X.stack H s E e s'->X.xe e s'
section
variable {X:Cx}{CX:CXT}{k:Nat}{f C:Addr}{fd:FuncData}{ps:List Str}{sp:Sp}{dvs:List V}{ds:List Value}{E:XK}{x m:Str}{p pos apos:Pos}{e o:Expr}{es:List Expr}{ta:TE}{t:TA}
theorem run_fn {pins:List (Addr × Obj)}{σ:St}{H:Hp}{s:Shared}{Q:VK}{us:List Value}{vs:List V}(F:FnOk X.prog X.w X.K X.mg X.base CX k f fd ps sp)(hr:Room k X.A)(hb:Binds X.K fd ps ds)(hd:Vals dvs ds)(hx:Passes CX X E)
  (I:Inv X pins σ H s) (r:Vals vs us) (h:sp (vs++dvs) H Q E):wpAny (model X.prog X.w) X.A (call (.ref f) us) (EP X pins σ Q) X.xe s:=by
 have r2:Vals (vs++dvs) (us++ds):=r.append hd
 have hl:(us++ds).length=ps.length:=by rw [<- r2.length];exact F.len _ _ _ _ h
 refine wpAny_call (codeAny_mono (F.run X.A X.stack s H ⟨us,[]⟩ (us++ds) (vs++dvs) Q E hr I.env0 (hb s us I.kIn hl) r2 h) fun r s' hq=>?_)
 cases r with
 | error e=>exact hx pins σ H s e s' I hq
 | ok fl =>
  cases fl with
  | ret u=>exact I.after hq
  | next=>exact False.elim hq
  | brk=>exact False.elim hq
  | cont=>exact False.elim hq
theorem pe_call (F:FnOk X.prog X.w X.K X.mg X.base CX k f fd ps sp)(hr:Room k X.A)(hg:Gl X x)(hm:X.mg x=some (.ref f))(hk:qeC X.K (.ref f)=true)(hb:Binds X.K fd ps ds)(hd:Vals dvs ds)(hx:Passes CX X E)
  (ha:PA X (e::es) t) (hdb:(x == ("__debug__" : Str))=false:=by decide) (he:starEach (e::es) X.env=(false,eval e X.env)::starEach es X.env:=by rfl) (hpl:(backTo pos (starEach es X.env)).any (·.1)=false:=by rfl) :
  PE X (.Call (.Name x p) (e::es) [] pos) (ES sp dvs E t):=by
 intro pins s σ H Q I h
 refine wpAny_Call_Name_kw (ld_glob I hg hm ?_ hdb)
 refine PySem.W.callWith_K (h₀:=X.base) I.ok.mod.kin hk (thn (ha pos pins s σ H _ I h) fun us s1 ⟨vs,H1,I1,r,q⟩=>⟨I1.kIn,?_⟩) he hpl
 exact run_fn F hr hb hd hx I1 r q
end
structure FnScope (N P:List Str)(sc:Scope):Prop where
 kind:sc.kind = .function
 co:sc.isCoroutine=false
 gen:sc.isGenerator=false
 nd:N.Nodup
 pre:N.take P.length=P
 par:∀ x∈P,sc.names.lookup x=some .local \/ sc.names.lookup x=some .cell
 nofree:∀ y∈sc.names,y.2 ≠ .free
theorem bindL_out {kindOf:Str->Option NameKind}{x:Str}:∀ {binds:List (Str × Value)}{m:Str->Option Value},(∀ v,(x,v) ∉ binds)->bindL kindOf binds m x=m x
 | [],_,_=>rfl
 | (n,v)::r,m,h=>by
  unfold bindL
  rw [bindL_out fun w hw=>h w (qsA _ hw)]
  split
  ·have:x≠n:=by rintro rfl;exact h v qrA
   simp [this]
  ·rfl
theorem bindC_out {kindOf:Str->Option NameKind}{x:Str}:∀ {binds:List (Str × Value)}{m:Str->Option Value},(∀ v,(x,v) ∉ binds)->bindC kindOf binds m x=m x
 | [],_,_=>rfl
 | (n,v)::r,m,h=>by
  unfold bindC
  rw [bindC_out fun w hw=>h w (qsA _ hw)]
  split
  ·rfl
  ·have:x≠n:=by rintro rfl;exact h v qrA
   simp [this]
theorem bindL_get {kindOf:Str->Option NameKind}{x:Str}{v:Value}:∀ {P:List Str}{vs:List Value}{i:Nat}{m:Str->Option Value},P.Nodup->P[i]? = some x->vs[i]? = some v->kindOf x=some .local ->
  bindL kindOf (P.zip vs) m x=some v
 | [],_,_,_,_,h,_,_=>by simp at h
 | _::_,[],_,_,_,_,h,_=>by simp at h
 | p::P,w::vs,0,m,nd,h1,h2,hk=>by
  simp at h1 h2;subst h1;subst h2
  show bindL kindOf ((p,w)::P.zip vs) m p=_
  unfold bindL
  rw [bindL_out fun v hv=>(List.nodup_cons.mp nd).1 (List.of_mem_zip hv).1,if_pos hk]
  simp
 | p::P,w::vs,i+1,m,nd,h1,h2,hk=>by
  show bindL kindOf ((p,w)::P.zip vs) m x=_
  unfold bindL
  exact bindL_get (i:=i) (List.nodup_cons.mp nd).2 (by simpa using h1) (by simpa using h2) hk
theorem bindC_get {kindOf:Str->Option NameKind}{x:Str}{v:Value}:∀ {P:List Str}{vs:List Value}{i:Nat}{m:Str->Option Value},P.Nodup->P[i]? = some x->vs[i]? = some v->kindOf x≠some .local ->
  bindC kindOf (P.zip vs) m x=some v
 | [],_,_,_,_,h,_,_=>by simp at h
 | _::_,[],_,_,_,_,h,_=>by simp at h
 | p::P,w::vs,0,m,nd,h1,h2,hk=>by
  simp at h1 h2;subst h1;subst h2
  show bindC kindOf ((p,w)::P.zip vs) m p=_
  unfold bindC
  rw [bindC_out fun v hv=>(List.nodup_cons.mp nd).1 (List.of_mem_zip hv).1,if_neg hk]
  simp
 | p::P,w::vs,i+1,m,nd,h1,h2,hk=>by
  show bindC kindOf ((p,w)::P.zip vs) m x=_
  unfold bindC
  exact bindC_get (i:=i) (List.nodup_cons.mp nd).2 (by simpa using h1) (by simpa using h2) hk
def start (N:List Str)(vs:List V):St:=vs.map some++List.replicate (N.length - vs.length) none
def cxOf (CX:CXT)(P:Program)(w:World)(K:FZ9)(mg:Str->Option Value)(base:Heap)(N:List Str)(qual:Str)(scope:Scope)(f:Addr)(cd:Value)(A:Around)(outer:List Env)(s:Shared)(H:Hp)(E:XK):Cx where
 prog:=P
 w:=w
 K:=K
 mg:=mg
 base:=base
 A:=A.deeper (envOfC qual scope s.heap.objs.size f cd)
 N:=N
 s₀:=s
 H₀:=H
 env:=envOfC qual scope s.heap.objs.size f cd
 outer:=outer
 stack:=envOfC qual scope s.heap.objs.size f cd::outer
 ex:=[]
 calm:=true
 fn:=fun _=>true
 pn:=[]
 xe:=fun e s'=>wpAny (model P w) (A.deeper (envOfC qual scope s.heap.objs.size f cd)) (leaving (envOfC qual scope s.heap.objs.size f cd) e) (fun _ s''=>CX outer H s E e s'') (fun e' s''=>CX outer H s E e' s'') s'
theorem cell_has {sc:Scope}{n:Nat}{x:Str}(h:sc.names.lookup x=some .cell):∃ c,(cellsFrom n sc.names []).lookup x=some c:=by
 have q:=PySem.W.cellsFrom_some sc.names n [] (.inl h)
 exact Option.isSome_iff_exists.mp q
theorem inv_start {CX:CXT}{P:Program}{w:World}{K:FZ9}{mg:Str->Option Value}{base:Heap}{N ps:List Str}{qual:Str}{scope:Scope}{f:Addr}{cd:Value}{A:Around}{outer:List Env}{s s1:Shared}{H:Hp}{E:XK}{us:List Value}{vs:List V}
  (S:FnScope N ps scope) (hd:A.handled=none) (e0:Env0 P w K mg base A outer s H) (hl:vs.length=ps.length) (r:Vals vs us)
  (x:InCallC s s.heap.objs.size (bindL (envOfC qual scope s.heap.objs.size f cd).kindOf (ps.zip us) fun _=>none) (cellsFrom (s.heap.objs.size+1) scope.names []) (bindC (envOfC qual scope s.heap.objs.size f cd).kindOf (ps.zip us) fun _=>none) s1) :
  Inv (cxOf CX P w K mg base N qual scope f cd A outer s H E) [] (start N vs) H s1:=by
 have hpl:ps.length<=N.length:=by have:=congrArg List.length S.pre;rw [qkA] at this;omega
 obtain ⟨h1,tk,rfl,hk⟩:=x.done
 have noA:∀ b:Addr,b ∉ (cxOf CX P w K mg base N qual scope f cd A outer s H E).ex:=fun b z=>absurd (show b∈([]:List Addr) from z) (by simp)
 refine ⟨⟨e0.mod,S.kind,rfl,rfl,qkB _,fun y z c h1 h2=>?_,fun y hy=>?_,fun y c _ h=>?_,fun _=>hd,Around.frames_deeper e0.frames,.inr ⟨rfl,rfl⟩,fun b z=>absurd z (noA b),e0.bs,e0.bsz,fun b _ _=>noA b,fun b z=>absurd z (noA b),e0.funs,e0.frf⟩,
  rfl,e0.bare,Un.kept hk,⟨_,x.toInCall.ns,fun i y v h1 h2 h3=>?_⟩,fun y c h=>⟨_,x.cell y c h⟩,e0.hok.fresh (qkB _),fun y c h=>?_,fun p hp=>absurd (show p∈([]:List (Addr × Obj)) from hp) (by simp),e0.hok.kept hk,?_⟩
 ·exact name_of_addr x.apart (PySem.mem_of_lookup h1) (PySem.mem_of_lookup h2)
 ·have hy:scope.names.lookup y=some .cell\/scope.names.lookup y=some .free:=hy
  rcases hy with hy|hy
  ·exact cell_has hy
  ·exact absurd rfl (S.nofree _ (PySem.mem_of_lookup hy))
 ·exact Nat.le_of_lt (x.above y c (PySem.mem_of_lookup h))
 ·have hi:i<vs.length:=by
   unfold start at h2
   by_cases hi:i<vs.length
   ·exact hi
   ·rw [qyA (by simpa using hi)] at h2
    rw [List.getElem?_replicate] at h2
    split at h2<;>cases h2
  have ha:vs[i]? = some v:=by
   unfold start at h2
   rw [qxA (by simpa using hi),qaB] at h2
   cases e:vs[i]? with
   | none=>rw [e] at h2;cases h2
   | some a=>rw [e] at h2;cases h2;rfl
  obtain ⟨u,hu,rv⟩:=r.get ha
  have hp:ps[i]? = some y:=by
   rw [<- S.pre,List.getElem?_take_of_lt (by omega)];exact h1
  have ndP:ps.Nodup:=by rw [<- S.pre];exact S.nd.sublist (List.take_sublist _ _)
  refine ⟨u,rv,?_⟩
  rcases S.par y (quA hp) with k|k
  ·exact .inl ⟨k,bindL_get ndP hp hu k⟩
  ·obtain ⟨c,e⟩:=cell_has (n:=s.heap.objs.size+1) k
   refine .inr ⟨.inl k,c,e,?_⟩
   have q:=x.cell y c e
   rw [bindC_get ndP hp hu (by show scope.names.lookup y≠_;rw [k];decide)] at q
   exact q
 ·exact e0.hok.fresh (Nat.le_of_lt (x.above y c (PySem.mem_of_lookup h)))
 ·unfold start
  show _=N.length
  rw [qgA,qfA,List.length_replicate]
  omega
theorem fn_of {CX:CXT}{P:Program}{w:World}{K:FZ9}{mg:Str->Option Value}{base:Heap}{k:Nat}{f:Addr}{name qual:Str}{params:Arguments}{body:List Stmt}{scope:Scope}{dV kV doc pm cdv ct oc:Value}{an od:Option Addr}
  {osl:Array (Option Value)}{N ps:List Str}{sp:Sp}(lk:K.lookup f=some ⟨oc,od,.func (qgC name qual params body scope dV kV doc pm an cdv ct),osl⟩) (hcd:qfC K cdv qual=true) (S:FnScope N ps scope)
  (len:∀ vs H Q E,sp vs H Q E->vs.length=ps.length)
  (hbody:∀ (A:Around) (outer:List Env) (s:Shared) (H:Hp) (vs:List V) (Q:VK) (E:XK),Room k (A.deeper (envOfC qual scope s.heap.objs.size f cdv))->sp vs H Q E ->
   ∃ t,PSs (cxOf CX P w K mg base N qual scope f cdv A outer s H E) body t/\t { nx:=fun _ H'=>Q .non H',rt:=Q } (start N vs) H) :
  FnOk P w K mg base CX (k+1) f (qgC name qual params body scope dV kV doc pm an cdv ct) ps sp:=by
 refine ⟨len,fun A outer s H args us vs Q E hr e0 hb r hsp=>?_⟩
 have hl:=len _ _ _ _ hsp
 have KX:K.In s.heap:=e0.mod.kin.keeps fun b o e=>(e0.bs b o e).1
 have lim:s.heap.NoLimit:=e0.mod.nolimit.keeps fun b o e=>(e0.bs b o e).1
 have hkind:∀ y∈ps.zip us,scope.names.lookup y.1=some .local \/ (scope.names.lookup y.1=some .cell/\((cellsFrom (s.heap.objs.size+1) scope.names []).lookup y.1).isSome=true):=fun ⟨n,v⟩ hy=>by
  rcases S.par n (List.of_mem_zip hy).1 with q|q
  ·exact .inl q
  ·exact .inr ⟨q,PySem.W.cellsFrom_some _ _ _ (.inl q)⟩
 refine codeAny_call_function hr.depth (KX _ _ lk) rfl S.co S.gen rfl (PySem.W.codeRec_of KX hcd) (hb _ _ _ _ ?_)
 refine wpAny_newFunctionEnv_cells S.kind hkind fun env he s1 x=>?_
 subst he
 refine ⟨lim.keeps x.toInCall.keep,codeAny_func ?_⟩
 obtain ⟨t,ht,hq⟩:=hbody A outer s H vs Q E (hr.deeper _) hsp
 have I:Inv (cxOf CX P w K mg base N qual scope f cdv A outer s H E) [] (start N vs) H s1:=inv_start S hr.hd e0 hl r x
 refine wpAny_mono (ht [] s1 (start N vs) H _ I hq) (fun fl s' hs=>?_) fun e s' hs=>hs
 have fin:∀ {σ':St}{H':Hp}{v:V}{u:Value},Inv (cxOf CX P w K mg base N qual scope f cdv A outer s H E) [] σ' H' s'->RelV v u->Q v H'->CE outer P w H s Q u s' :=
  fun {σ' H' v u} J rv q=>⟨v,H',J.os,J.bare,J.base,J.hok,rv,q⟩
 cases fl with
 | ret u =>
  obtain ⟨v,σ',H',J,rv,q⟩:=hs
  exact fin J rv q
 | next =>
  obtain ⟨σ',H',J,q⟩:=hs
  exact fin (v:=V.non) (u:=Value.none) J rfl q
 | brk =>
  obtain ⟨_,_,_,q⟩:=hs
  exact False.elim q
 | cont =>
  obtain ⟨_,_,_,q⟩:=hs
  exact False.elim q
section
variable {X:Cx}{x:Str}{p pos:Pos}{e:Expr}{es:List Expr}{t:TA}{id T:String}{r:List V->Hp->VK->Prop}
abbrev tCB (r:List V->Hp->VK->Prop)(t:TA):TE:=fun σ H Q=>t σ H fun vs H1=>r vs H1 Q
theorem An (hc:EM X (.builtin id) r)(hg:Gl X x)(hm:X.mg x=none)(hv:bootBuiltins x=some (.builtin id))(ha:PA X (e::es) t)(hn:x ≠ "__name__" := by decide)(hdb:(x == ("__debug__" : Str))=false:=by decide)
  (he:starEach (e::es) X.env=(false,eval e X.env)::starEach es X.env:=by rfl) (hpl:(backTo pos (starEach es X.env)).any (·.1)=false:=by rfl):PE X (.Call (.Name x p) (e::es) [] pos) (tCB r t):=by
 intro pins s σ H Q I h
 refine wpAny_Call_Name_kw (GG I hg hm hv ?_ hn hdb)
 exact PyProof.Rows.callWith_builtin1 (thn (ha pos pins s σ H _ I h) fun us s1 ⟨vs,H1,I1,r1,q1⟩=>hc pins s1 σ H1 vs us Q I1 r1 q1) he hpl
theorem DQ (hc:EM X (.type T) r)(hg:Gl X x)(hm:X.mg x=none)(hv:bootBuiltins x=some (.type T))(ha:PA X (e::es) t)(hn:x ≠ "__name__" := by decide)(hdb:(x == ("__debug__" : Str))=false:=by decide)
  (he:starEach (e::es) X.env=(false,eval e X.env)::starEach es X.env:=by rfl) (hpl:(backTo pos (starEach es X.env)).any (·.1)=false:=by rfl):PE X (.Call (.Name x p) (e::es) [] pos) (tCB r t):=by
 intro pins s σ H Q I h
 refine wpAny_Call_Name_kw (GG I hg hm hv ?_ hn hdb)
 exact PyProof.Rows.callWith_type1 (thn (ha pos pins s σ H _ I h) fun us s1 ⟨vs,H1,I1,r1,q1⟩=>hc pins s1 σ H1 vs us Q I1 r1 q1) he hpl
end
end L2
namespace HT
open PySem PyProof.Rows
section
open PySem.SeqAt
open PySem.AutoSeq1 (wpAny_loadPart')
open PySem.MeetsSeq PySem.MeetsSeq2 PySem.MeetsSeq3
end
section
variable {prog:Program}{w:World}{A:Around}{E:Value->Shared->Prop}{s:Shared}
def sIx (n d:Nat):Option Int->Nat
 | none=>d
 | some v=>if v<0 then (v+(n:Int)).toNat else min v.toNat n
theorem sIx_le (n d:Nat)(hd:d<=n)(o:Option Int):sIx n d o<=n:=by
 cases o with
 | none=>exact hd
 | some v =>
  show (if v<0 then (v+(n:Int)).toNat else min v.toNat n)<=n
  by_cases hv:v<0
  ·rw [if_pos hv];omega
  ·rw [if_neg hv];exact Nat.min_le_right _ _
theorem clip_eq (v:Int)(n d:Nat):(if v<0 then max (v+(n:Int)) 0 else min v (n:Int))=((sIx n d (some v):Nat):Int):=by
 show (if v<0 then max (v+(n:Int)) 0 else min v (n:Int))=(((if v<0 then (v+(n:Int)).toNat else min v.toNat n):Nat):Int)
 by_cases hv:v<0
 ·simp only [if_pos hv];omega
 ·simp only [if_neg hv];omega
theorem adjust_gen (lo hi:Option Int)(n:Nat):Builtin.Slice.sliceAdjust lo hi 1 (n:Int)=(((sIx n 0 lo:Nat):Int),((sIx n n hi:Nat):Int)):=by
 have h1:¬ ((1:Int)<0):=by omega
 unfold Builtin.Slice.sliceAdjust
 simp only [h1,if_false]
 refine Prod.ext ?_ ?_
 ·cases lo with
  | none=>rfl
  | some v=>exact clip_eq v n 0
 ·cases hi with
  | none=>rfl
  | some v=>exact clip_eq v n n
theorem places_gen (i j:Nat):Builtin.Slice.slicePlaces (i:Int) (j:Int) 1=j - i:=by
 unfold Builtin.Slice.slicePlaces
 have h1:(1:Int) > 0:=by omega
 simp only [h1,if_true,Int.ediv_one]
 split<;>omega
theorem slicePart_ {v:Value}{o:Option Int}{Q:Option Int->Shared->Prop}(p:IsPart v o)(h:Q o s):wpAny (model prog w) A (Builtin.Slice.slicePartIndex v) Q E s:=by
 cases p with
 | none=>exact slicePart_none h
 | int i t=>exact slicePart_int h
theorem FP {sl:Addr}{vl vu:Value}{lo hi:Option Int}{n:Nat}{Q:Int × Int × Nat->Shared->Prop}(hs:s.heap.IsSliceOf sl vl vu .none)(pl:IsPart vl lo)(pu:IsPart vu hi)
  (h:Q (((sIx n 0 lo:Nat):Int),1,sIx n n hi - sIx n 0 lo) s):wpAny (model prog w) A (Builtin.Slice.sliceApplied (.ref sl) (pure (n:Int))) Q E s:=by
 obtain ⟨os,hos,hcs,hds⟩:=id hs
 unfold Builtin.Slice.sliceApplied Builtin.Slice.sliceFields
 refine qbA (qbA (wpAny_field hos hds (x:=vl) rfl (qbA (wpAny_field hos hds (x:=vu) rfl (qbA (wpAny_field hos hds (x:=.none) rfl (qcA ?_)))))))
 refine qbA (slicePart_none ?_)
 show wpAny _ _ (if ((1:Int) == 0)=true then _ else _) _ _ s
 rw [if_neg (by decide)]
 refine qbA (slicePart_ pl (qbA (slicePart_ pu (qbA (qcA ?_)))))
 show wpAny _ _ (match Builtin.Slice.sliceAdjust lo hi 1 (n:Int) with | (lo,hi)=>pure (lo,(1:Int),Builtin.Slice.slicePlaces lo hi 1)) _ _ s
 rw [adjust_gen lo hi n]
 show wpAny _ _ (pure (((sIx n 0 lo:Nat):Int),(1:Int),Builtin.Slice.slicePlaces ((sIx n 0 lo:Nat):Int) ((sIx n n hi:Nat):Int) 1)) _ _ s
 rw [places_gen]
 exact qcA h
theorem pick_gen (xs:Array Value)(i k:Nat):((List.range k).filterMap fun (m:Nat)=>xs[((i:Int)+(m:Int) * 1).toNat]?).toArray=((xs.toList.drop i).take k).toArray:=by
 have e:(fun (m:Nat)=>xs[((i:Int)+(m:Int) * 1).toNat]?)=fun m=>xs[i+m]?:=by
  funext m
  have:((i:Int)+(m:Int) * 1).toNat=i+m:=by omega
  rw [this]
 rw [e]
 have:=pick_run xs i k
 rw [List.filterMap_map] at this
 have e2:((fun x=>xs[x]?)∘fun x=>i+x)=fun m=>xs[i+m]?:=rfl
 rw [e2] at this
 rw [this]
theorem getItem_tuple_cut {t sl:Addr}{items:Array Value}{vl vu:Value}{lo hi:Option Int}{Q:Value->Shared->Prop}(ht:IsTup s.heap t items)(hs:s.heap.IsSliceOf sl vl vu .none)(pl:IsPart vl lo)(pu:IsPart vu hi)
  (hw:¬ (sIx items.size 0 lo=0/\sIx items.size items.size hi=items.size))
  (h:Q (.ref s.heap.objs.size) { s with heap:=s.heap.push { cls:=.type "tuple",data:=.seq ((items.toList.drop (sIx items.size 0 lo)).take (sIx items.size items.size hi - sIx items.size 0 lo)).toArray } })
  (hsz:items.size<=sizeLine):wpAny (model prog w) A (getItem (.ref t) (.ref sl)) Q E s:=by
 have htake:sizeOk (.seq ((items.toList.drop (sIx items.size 0 lo)).take (sIx items.size items.size hi - sIx items.size 0 lo)).toArray):=by
  show ((items.toList.drop (sIx items.size 0 lo)).take (sIx items.size items.size hi - sIx items.size 0 lo)).toArray.size<=sizeLine
  rw [qaC,qkA,List.length_drop,qiC]
  omega
 have hj:sIx items.size items.size hi<=items.size:=sIx_le _ _ (qkB _) hi
 obtain ⟨os,hos,hcs,hds⟩:=id hs
 have hTs:s.TypeIs (.ref sl) "slice" := ⟨os,hos,hcs⟩
 unfold getItem
 try with_reducible refine qeA ?_
 first|refine qbA (qcA ?_)|skip
 refine qbA (wpAny_sequenceKey ht.typeIs (by decide) ?_)
 refine qbA (wpAny_callSpecial?_slot (name:=Str.ofString "__getitem__") ht.typeIs PyProof.Rows.slot_tuple_getitem
  (qoC PyProof.Rows.slot_tuple_getitem ht.typeIs entry_tuple_getitem ?_ (args_tuple_getitem _ _)))
 show wpAny _ _ (Builtin.Tuple.tupleItemsOf (.ref t) >>= _) _ _ s
 refine qbA (tupleItemsOf_ ht ?_)
 refine qbA (wpAny_typeOf hTs ?_)
 rw [if_pos (by decide)]
 refine qbA (FP hs pl pu ?_)
 have hno:¬ ((((sIx items.size 0 lo:Nat):Int) == 0 && (1:Int) == 1 && (sIx items.size items.size hi - sIx items.size 0 lo) == items.size)=true):=by
  intro q
  rw [qtC,qtC] at q
  have q1:((sIx items.size 0 lo:Nat):Int)=0:=eq_of_beq q.1.1
  have q2:sIx items.size items.size hi - sIx items.size 0 lo=items.size:=eq_of_beq q.2
  exact hw ⟨by omega,by omega⟩
 show wpAny _ _ (if (((sIx items.size 0 lo:Nat):Int) == 0 && (1:Int) == 1 && (sIx items.size items.size hi - sIx items.size 0 lo) == items.size)=true then _ else _) _ _ s
 rw [if_neg hno,pick_gen]
 first
  | exact qbA (m:=Builtin.Tuple.tupleExact _) (wpAny_newObj_type (qcA ⟨_,rfl,qcA h⟩) htake)
  | exact qbA (m:=Builtin.Tuple.tupleExact _) (wpAny_newObj_type (qbA (qcA (qcA ⟨_,rfl,qcA h⟩))) htake)
  | exact qbA (qbA (m:=Builtin.Tuple.tupleExact _) (wpAny_newObj_type (qcA (qcA ⟨_,rfl,qcA h⟩)) htake))
  | exact qbA (qbA (m:=Builtin.Tuple.tupleExact _) (wpAny_newObj_type (qcA ⟨_,rfl,qcA h⟩) htake))
end
end HT
namespace L2
open PySem PySem.Spec PyProof.Rows
abbrev TO:=St->Hp->(Option Int->Hp->Prop)->Prop
def PO (X:Cx)(e:Option Expr)(t:TO):Prop :=
 ∀ (pins:List (Addr × Obj)) (s:Shared) (σ:St) (H:Hp) (Q:Option Int->Hp->Prop),Inv X pins σ H s->t σ H Q ->
  wpAny (model X.prog X.w) X.A (evalPart e X.env) (fun u s'=>∃ o H',Inv X pins σ H' s'/\IsPart u o/\Q o H') X.xe s
abbrev tNoPart:TO:=fun _ H Q=>Q none H
abbrev tPart (t:TE):TO:=fun σ H Q=>t σ H fun x H1=>∃ i,x = .int i/\Q (some i) H1
section
variable {X:Cx}{e:Expr}{te:TE}{lo hi:Option Expr}{tl th:TO}{pos p2:Pos}
theorem Gs:PO X none tNoPart:=by
 intro pins s σ H Q I h
 rw [evalPart_none]
 exact qcA ⟨none,H,I,.none,h⟩
theorem Gy (h:PE X e te):PO X (some e) (tPart te):=by
 intro pins s σ H Q I hw
 rw [evalPart_some]
 refine thn (h pins s σ H _ I hw) fun u s1 ⟨x,H1,I1,r1,q1⟩=>?_
 obtain ⟨i,rfl,q⟩:=q1
 obtain ⟨t,rfl⟩:=r1
 exact ⟨some i,H1,I1,.int i t,q⟩
def SlR (X:Cx)(r:V->Option Int->Option Int->Hp->VK->Prop):Prop :=
 ∀ (pins:List (Addr × Obj)) (s:Shared) (σ:St) (H:Hp) (x:V) (v vl vu:Value) (lo hi:Option Int) (sl:Addr) (Q:VK),Inv X pins σ H s->RelV x v->s.heap.IsSliceOf sl vl vu .none->IsPart vl lo->IsPart vu hi->r x lo hi H Q ->
  ∃ T id,typeLookup (.type T) "__getitem__" = pure (some (.builtin id))/\s.TypeIs v T/\wpAny (model X.prog X.w) X.A (getItem v (.ref sl)) (EP X pins σ Q) X.xe s
abbrev tSl (r:V->Option Int->Option Int->Hp->VK->Prop)(te:TE)(tl th:TO):TE:=fun σ H Q=>te σ H fun x H1=>tl σ H1 fun l H2=>th σ H2 fun u H3=>r x l u H3 Q
theorem GJ {r:V->Option Int->Option Int->Hp->VK->Prop}(hr:SlR X r)(he:PE X e te)(hl:PO X lo tl)(hu:PO X hi th):PE X (.Subscript e (.Slice lo hi none p2) pos) (tSl r te tl th):=by
 intro pins s σ H Q I h
 refine Subscript_ (thn (he pins s σ H _ I h) fun v s1 ⟨x,H1,I1,r1,q1⟩=>?_)
 refine wpAny_Slice (thn (hl pins s1 σ H1 _ I1 q1) fun vl s2 ⟨l,H2,I2,pl,q2⟩=>thn (hu pins s2 σ H2 _ I2 q2) fun vu s3 ⟨u,H3,I3,pu,q3⟩=>?_)
 rw [evalPart_none]
 refine qcA ?_
 have I4:Inv X pins σ H3 { s3 with heap:=s3.heap.push { cls:=.type "slice",data:=.fields #[vl,vu,.none] } }:=I3.kept (t':=s3.toks) fun b ob q=>qrB _ q
 obtain ⟨T,id,hT,ht,hg⟩:=hr pins { s3 with heap:=s3.heap.push { cls:=.type "slice",data:=.fields #[vl,vu,.none] } } σ H3 x v vl vu l u s3.heap.objs.size Q I4 r1 (Heap.IsSliceOf.new ..) pl pu q3
 show wpAny (model X.prog X.w) X.A (subscriptTail e (.Slice lo hi none p2) v (.ref s3.heap.objs.size)) (EP X pins σ Q) X.xe { s3 with heap:=s3.heap.push { cls:=.type "slice",data:=.fields #[vl,vu,.none] } }
 exact tail_any (ops:=[.ref s3.heap.objs.size,v]) ht hT hg (by with_unfolding_all rfl)
def cutV (xs:List V)(lo hi:Option Int):List V:=(xs.drop (HT.sIx xs.length 0 lo)).take (HT.sIx xs.length xs.length hi - HT.sIx xs.length 0 lo)
theorem cutV_length (xs:List V)(lo hi:Option Int):(cutV xs lo hi).length<=xs.length:=by
 unfold cutV
 rw [qkA,List.length_drop]
 omega
def rSlT (K:FZ9):V->Option Int->Option Int->Hp->VK->Prop:=fun x lo hi H Q=>∃ a xs,x = .ref a/\SqT K H a xs /\
 ¬ (HT.sIx xs.length 0 lo=0/\HT.sIx xs.length xs.length hi=xs.length)/\∀ p,H p=none->Q (.ref p) (upd H p (.tup (cutV xs lo hi)))
theorem sl_tup:SlR X (rSlT X.K):=by
 intro pins s σ H x v vl vu lo hi sl Q I rx hs pl pu h
 obtain ⟨a,xs,rfl,hx,hw,q⟩:=h
 cases rx
 obtain ⟨its,r,ht,hz⟩:=I.tuple hx
 have hlen:its.toArray.size=xs.length:=by rw [qaC];exact r.length.symm
 refine ⟨"tuple",_,PyProof.Rows.slot_tuple_getitem.lookup,ht.typeIs,?_⟩
 refine HT.getItem_tuple_cut ht hs pl pu (by rw [hlen];exact hw) ?_ (by rw [hlen];exact hz)
 rw [hlen]
 refine ⟨.ref s.heap.objs.size,_,I.laid (t':=s.toks) (o:=.tup (cutV xs lo hi)) (fun b ob q=>qrB _ q) (qkB _) ?_,rfl,q _ (I.hok.fresh (qkB _))⟩
 exact ⟨qmB (cutV_length xs lo hi) hz,_,(r.drop (HT.sIx xs.length 0 lo)).take (HT.sIx xs.length xs.length hi - HT.sIx xs.length 0 lo),IsTup.new _ _⟩
end
def ixN (n:Nat)(i:Int):Option Nat:=if 0<=i then (if i<n then some i.toNat else none) else if -(n:Int)<=i then some (i+n).toNat else none
def atI {α:Type}(xs:List α)(i:Int):Option α:=(ixN xs.length i).bind fun j=>xs[j]?
theorem ixN_seq {n:Nat}{i:Int}{j:Nat}(h:ixN n i=some j):seqIndex? i n=some j/\j<n/\-(n:Int)<=i/\i<n:=by
 unfold ixN at h
 by_cases h0:0<=i
 ·rw [if_pos h0] at h
  by_cases h1:i<n
  ·rw [if_pos h1] at h
   have e:i.toNat=j:=qpB h
   exact ⟨by rw [seqIndex_of h0 h1,e],by omega,by omega,h1⟩
  ·rw [if_neg h1] at h;cases h
 ·rw [if_neg h0] at h
  by_cases h1:-(n:Int)<=i
  ·rw [if_pos h1] at h
   have e:(i+n).toNat=j:=qpB h
   exact ⟨by rw [seqIndex_neg (by omega) h1,e],by omega,h1,by omega⟩
  ·rw [if_neg h1] at h;cases h
theorem atI_get {α:Type}{xs:List α}{i:Int}{v:α}(h:atI xs i=some v):∃ j,seqIndex? i xs.length=some j/\xs[j]? = some v/\j<xs.length/\-(xs.length:Int)<=i/\i<xs.length:=by
 unfold atI at h
 cases e:ixN xs.length i with
 | none=>rw [e] at h;cases h
 | some j =>
  rw [e] at h
  obtain ⟨h1,h2,h3,h4⟩:=ixN_seq e
  exact ⟨j,h1,h,h2,h3,h4⟩
theorem BS {α:Type}{xs:List α}{j:Nat}{v:α}(h:xs[j]? = some v):atI xs (j:Int)=some v:=by
 have hj:j<xs.length:=(qvA.mp h).1
 have e:ixN xs.length (j:Int)=some j:=by
  unfold ixN
  rw [if_pos (by omega),if_pos (by omega)];simp
 unfold atI;rw [e];exact h
theorem atI_last {α:Type}(xs:List α)(v:α):atI (xs++[v]) (-1)=some v:=by
 have hl:(xs++[v]).length=xs.length+1:=by simp
 have e:ixN (xs++[v]).length (-1)=some xs.length:=by
  unfold ixN
  rw [hl,if_neg (by decide),if_pos (by omega)]
  congr 1
  omega
 unfold atI
 rw [e]
 show (xs++[v])[xs.length]? = some v
 simp
def PlainIx (b:Expr):Prop:=∀ o i,subscripted b false o i=operate [o,i] (getItem o i)
def IxR (X:Cx)(r:R2):Prop :=
 ∀ (value slice:Expr) (pins:List (Addr × Obj)) (s:Shared) (σ:St) (H:Hp) (x y:V) (v u:Value) (Q:VK),Inv X pins σ H s->RelV x v->RelV y u->r x y H Q ->
  subscripted slice false v u=operate [v,u] (getItem v u)->wpAny (model X.prog X.w) X.A (subscriptTail value slice v u) (EP X pins σ Q) X.xe s
def MtR (X:Cx)(id:String)(r:V->List V->Hp->VK->Prop):Prop :=
 ∀ (pins:List (Addr × Obj)) (s:Shared) (σ:St) (H:Hp) (x:V) (xs:List V) (v:Value) (us:List Value) (Q:VK),Inv X pins σ H s->RelV x v->Vals xs us->r x xs H Q ->
  wpAny (model X.prog X.w) X.A (call (.builtin id) (v::us)) (EP X pins σ Q) X.xe s
section
variable {X:Cx}{a b:Expr}{ta tb:TE}{pos:Pos}
theorem AR {r:R2}(hr:IxR X r)(ha:PE X a ta)(hb:PE X b tb)(hs:PlainIx b):PE X (.Subscript a b pos) (tOp r ta tb):=by
 intro pins s σ H Q I h
 exact Subscript_ (binT ha hb I h fun v u s2 x y H2 I2 rx ry q=>hr a b pins s2 σ H2 x y v u Q I2 rx ry q (hs _ _))
def rIxL (K:FZ9):R2:=fun x y H Q=>∃ p xs i v,x = .ref p/\y = .int i/\SqL K H p xs/\atI xs i=some v/\Q v H
def rIxT (K:FZ9):R2:=fun x y H Q=>∃ p xs i v,x = .ref p/\y = .int i/\SqT K H p xs/\atI xs i=some v/\Q v H
def rIxS:R2:=fun x y H Q=>∃ z i c,x = .str z/\y = .int i/\z.length<=sizeLine/\atI z.cps.toList i=some c/\Q (.str ⟨#[c]⟩) H
theorem ix_list:IxR X (rIxL X.K):=by
 intro value slice pins s σ H x y v u Q I rx ry h hs
 obtain ⟨p,xs,i,z,rfl,rfl,hq,he,q⟩:=h
 cases rx
 obtain ⟨t,rfl⟩:=ry
 obtain ⟨its,r,pl,hz⟩:=I.list hq
 obtain ⟨j,h1,h2,h3,h4,h5⟩:=atI_get he
 obtain ⟨w,ew,rw'⟩:=r.get h2
 have hl:=r.length
 have hn:=HK
 have fin:EP X pins σ Q w s:=⟨z,H,I,rw',q⟩
 by_cases h0:0<=i
 ·have hj:i.toNat=j:=by
   rw [seqIndex_of h0 h5] at h1
   exact qpB h1
  exact item_listR pl.isList h0 (by omega) (by rw [hj];simpa using ew) fin hs
 ·have hj:(i+(its.toArray.size:Int)).toNat=j:=by
   rw [seqIndex_neg (by omega) h4] at h1
   rw [qaC,<- hl]
   exact qpB h1
  exact subscriptTail_builtinR (x:=w) pl.isList.typeIs slot_list_getitem.lookup
   (wpAny_getItem_list_neg (Q:=fun r s'=>r=w/\EP X pins σ Q r s') pl.isList (by omega) (by rw [qaC]<;>omega) (by omega) (by rw [hj];simpa using ew) ⟨rfl,fin⟩) hs
theorem ix_tup:IxR X (rIxT X.K):=by
 intro value slice pins s σ H x y v u Q I rx ry h hs
 obtain ⟨p,xs,i,z,rfl,rfl,hq,he,q⟩:=h
 cases rx
 obtain ⟨t,rfl⟩:=ry
 obtain ⟨its,r,pl,hz⟩:=I.tuple hq
 obtain ⟨j,h1,h2,h3,h4,h5⟩:=atI_get he
 obtain ⟨w,ew,rw'⟩:=r.get h2
 have hl:=r.length
 have hn:=HK
 have fin:EP X pins σ Q w s:=⟨z,H,I,rw',q⟩
 exact subscriptTail_builtinR (x:=w) pl.typeIs slot_tuple_getitem.lookup
  (getItem_tuple (j:=j) (Q:=fun r s'=>r=w/\EP X pins σ Q r s') pl (by omega) (by omega) (by rw [qaC,<- hl];exact h1) (by simpa using ew) ⟨rfl,fin⟩) hs
theorem ix_str:IxR X rIxS:=by
 intro value slice pins s σ H x y v u Q I rx ry h hs
 obtain ⟨z,i,c,rfl,rfl,hz,he,q⟩:=h
 obtain ⟨t,rfl⟩:=rx
 obtain ⟨t',rfl⟩:=ry
 obtain ⟨j,h1,h2,h3,h4,h5⟩:=atI_get he
 have hl:z.cps.toList.length=z.length:=by simp [Str.length]
 rw [hl] at h1 h4 h5
 have hn:=HK
 exact tail_any (typeIs_str s z t) slot_str_getitem.lookup (getItem_str (c:=c) (by
  have e1:decide (i < -(2 ^ 63:Int))=false:=decide_eq_false (by omega)
  have e2:decide (i>=2 ^ 63)=false:=decide_eq_false (by omega)
  rw [e1,e2,Bool.or_false]) (by rw [h1];simpa using h2) ⟨.str ⟨#[c]⟩,H,I.tok _,⟨_,rfl⟩,q⟩) hs
def eqV:V->V->Bool
 | .non,.non=>true
 | .bl a,.bl b=>a == b
 | .bl a,.int b=>(if a then 1 else 0) == b
 | .int a,.bl b=>a == (if b then 1 else 0)
 | .int a,.int b=>a == b
 | .str a,.str b=>a == b
 | _,_=>false
theorem call_len_seq:EM X (.builtin "len") (fun xs H Q=>∃ p ys,xs=[.ref p]/\(SqL X.K H p ys\/SqT X.K H p ys)/\Q (.int ys.length) H):=by
 intro pins s σ H xs us Q I r h
 obtain ⟨p,ys,rfl,hq,q⟩:=h
 obtain ⟨u,rfl,rx⟩:=Fz r
 cases rx
 have hn:=HK
 rcases hq with hq|hq
 ·obtain ⟨its,r',pl,hz⟩:=I.list hq
  have hlen:=r'.length
  exact Calls.call_len_list pl.isList (by simp only [qaC]<;>omega) ⟨.int ys.length,H,I.tok _,⟨s.toks+1,by rw [qaC,hlen]⟩,q⟩
 ·obtain ⟨its,r',pl,hz⟩:=I.tuple hq
  have hlen:=r'.length
  exact len_tuple pl (by simp only [qaC]<;>omega) ⟨.int ys.length,H,I.tok _,⟨s.toks+1,by rw [qaC,hlen]⟩,q⟩
theorem call_len_str:EM X (.builtin "len") (fun xs H Q=>∃ z,xs=[.str z]/\z.length<=sizeLine/\Q (.int z.length) H):=by
 intro pins s σ H xs us Q I r h
 obtain ⟨z,rfl,hz,q⟩:=h
 obtain ⟨u,rfl,t,rfl⟩:=Fz r
 have hn:=HK
 exact len_str (by omega) ⟨.int z.length,H,I.tok _,⟨_,rfl⟩,q⟩
theorem call_tuple_of:EM X (.type "tuple") (fun xs H Q=>∃ p ys,xs=[.ref p]/\((SqL X.K H p ys/\∀ l,H l=none->Q (.ref l) (upd H l (.tup ys)))\/(SqT X.K H p ys/\Q (.ref p) H))):=by
 intro pins s σ H xs us Q I r h
 obtain ⟨p,ys,rfl,h⟩:=h
 obtain ⟨u,rfl,rx⟩:=Fz r
 cases rx
 rcases h with ⟨hq,q⟩ | ⟨hq,q⟩
 ·obtain ⟨its,r',pl,hz⟩:=I.list hq
  have hlen:=r'.length
  refine call_tuple_list pl.isList (fun h' kp=>?_) (by simp only [qaC]<;>omega)
  have I1:Inv X pins σ H { s with heap:=h' }:=I.kept (t':=s.toks) kp
  have I2:Inv X pins σ (upd H h'.objs.size (.tup ys)) { s with heap:=h'.push { cls:=.type "tuple",data:=.seq its.toArray } } :=
   I1.laid (t':=s.toks) (fun b o e=>qrB _ e) (qkB _) (show ObjOk X.prog X.w _ _ _ (.tup ys) from ⟨hz,its,r',IsTup.new _ _⟩)
  exact ⟨.ref h'.objs.size,_,I2,rfl,q _ (I1.hok.fresh (qkB _))⟩
 ·obtain ⟨its,r',pl,hz⟩:=I.tuple hq
  exact call_tuple_same pl ⟨.ref p,H,I,rfl,q⟩
def tyV (K:FZ9)(T:String)(x:V)(H:Hp):Prop:=match x with
 | .str _=>T = "str"
 | .int _=>T = "int"
 | .ref p=>(T = "list" /\ ∃ xs,SqL K H p xs)\/(T = "tuple" /\ ∃ o,K.lookup p=some o/\o.cls = .type "tuple" /\ o.dict=none) \/
   (T = "dict" /\ ((∃ kvs,H p=some (.dK kvs))\/∃ kvs,H p=some (.dT kvs)))\/(T = "set" /\ ∃ S n,H p=some (.set S n))
 | _=>False
theorem tyV_is {pins:List (Addr × Obj)}{σ:St}{H:Hp}{s:Shared}{T:String}{x:V}{v:Value}(I:Inv X pins σ H s)(r:RelV x v)(ty:tyV X.K T x H) :
  s.TypeIs v T/\∀ a,v = .ref a->∃ ob,s.heap.get? a=some ob/\ob.dict=none:=by
 cases x with
 | str z =>
  obtain ⟨t,rfl⟩:=r
  cases (show T = "str" from ty)
  exact ⟨typeIs_str s z t,fun _ e=>nomatch e⟩
 | int i =>
  obtain ⟨t,rfl⟩:=r
  cases (show T = "int" from ty)
  exact ⟨typeIs_int s i t,fun _ e=>nomatch e⟩
 | ref p =>
  cases r
  rcases ty with ⟨rfl,xs,hq⟩ | ⟨rfl,o,hk,hc,hd⟩ | ⟨rfl,hk⟩ | ⟨rfl,S,n,hk⟩
  ·obtain ⟨its,_,pl,_⟩:=I.list hq
   refine ⟨pl.isList.typeIs,fun a e=>?_⟩
   cases e
   obtain ⟨o,n,e,c,hd,_⟩:=pl
   exact ⟨o,e,hd⟩
  ·refine ⟨⟨o,I.kIn p o hk,hc⟩,fun a e=>?_⟩
   cases e
   exact ⟨o,I.kIn _ o hk,hd⟩
  ·have z:∃ o,s.heap.get? p=some o/\o.ExactDict:=by
    rcases hk with ⟨kvs,hk⟩ | ⟨kvs,hk⟩
    ·obtain ⟨_,_,_,_,o,_,_,e,ex,_⟩:=I.hok p _ hk
     exact ⟨o,e,ex⟩
    ·obtain ⟨_,_,_,_,o,_,_,e,ex,_⟩:=I.hok p _ hk
     exact ⟨o,e,ex⟩
   obtain ⟨o,e,ex⟩:=z
   refine ⟨⟨o,e,ex.1⟩,fun a e2=>?_⟩
   cases e2
   exact ⟨o,e,ex.2.1⟩
  ·obtain ⟨o,_,_,_,e,ex,_⟩:=I.hok p _ hk
   refine ⟨⟨o,e,ex.1⟩,fun a e2=>?_⟩
   cases e2
   exact ⟨o,e,ex.2.1⟩
 | _=>exact False.elim ty
abbrev tBM (K:FZ9)(T:String)(r:V->List V->Hp->VK->Prop)(to:TE)(t:TA):TE:=fun σ H Q=>to σ H fun x H1=>tyV K T x H1/\t σ H1 fun xs H2=>r x xs H2 Q
variable {o e:Expr}{es:List Expr}{to:TE}{t:TA}{name:Str}{apos cpos:Pos}{T id:String}{r:V->List V->Hp->VK->Prop}
theorem pe_bm (pa:PlainAttrs T)(slot:Slot T name id)(hty:typeOf (.builtin id)=pure (.type "method_descriptor"))(hm:MtR X id r)(ho:PE X o to)(ha:PA X (e::es) t)
  (hbase:attributeBase o name X.env (eval o X.env)=eval o X.env:=by rfl)
  (hfew:((backTo cpos (starEach (e::es) X.env)).all (fun x=>!x.1) && (backToKw cpos (keywordEach [] X.env)).all (fun x=>x.1.isSome)
   && decide ((e::es).length+([]:List Keyword).length+(if ([]:List Keyword).isEmpty then 0 else 1)<30))=true:=by rfl)
  (hline:(apos.endLine == cpos.line)=true:=by rfl) (hs:starEach (e::es) X.env=(false,eval e X.env)::starEach es X.env:=by rfl) (hplain:(backTo cpos (starEach es X.env)).any (·.1)=false:=by rfl) :
  PE X (.Call (.Attribute o name apos) (e::es) [] cpos) (tBM X.K T r to t):=by
 intro pins s σ H Q I h
 refine wpAny_Call_method_late hbase hfew hline rfl (thn (ho pins s σ H _ I h) fun v s1 ⟨x,H1,I1,r1,ty,q1⟩=>?_)
 obtain ⟨h1,h2⟩:=tyV_is I1 r1 ty
 refine ⟨T,id,pa,slot,hty,h1,h2,?_⟩
 have hA:=ha cpos pins s1 σ H1 _ I1 q1
 rw [hs] at hA ⊢
 refine Calls.callWith_builtin (by show (false || (backTo cpos (starEach es X.env)).any (·.1))=false;rw [hplain]<;>rfl) (Calls.evalArgs_plain ?_)
 exact thn hA fun us s2 ⟨vs,H2,I2,r2,q2⟩=>hm pins s2 σ H2 x vs v us Q I2 r1 r2 q2
end
def MtM (X:Cx)(id:String)(r:V->List V->Hp->VK->Prop):Prop :=
 ∀ (pins:List (Addr × Obj)) (s:Shared) (σ:St) (H:Hp) (x:V) (xs:List V) (v:Value) (us:List Value) (Q:VK),Inv X pins σ H s->RelV x v->Vals xs us->r x xs H Q ->
  wpAny (model X.prog X.w) X.A (call (.builtin id) (v::us)) (EP X pins σ Q) X.xe s
theorem Vals.one:∀ {x:V}{us:List Value},Vals [x] us->∃ u,us=[u]/\RelV x u
 | _,_,.cons r .nil=>⟨_,rfl,r⟩
theorem Vals.rep {xs:List V}{us:List Value}(h:Vals xs us):∀ k:Nat,Vals (List.replicate k xs).flatten (List.replicate k us).flatten
 | 0=>.nil
 | k+1=>by
  rw [List.replicate_succ,List.replicate_succ,List.flatten_cons,List.flatten_cons]
  exact Vals.append h (Vals.rep h k)
theorem foldl_rep (its:List Value):∀ (k:Nat) (acc:List Value),
  List.foldl (fun x1 x2=>x1++x2) acc.toArray (List.replicate k its.toArray)=(acc++(List.replicate k its).flatten).toArray
 | 0,acc=>by simp
 | k+1,acc=>by
  have e:acc.toArray++its.toArray=(acc++its).toArray:=by simp
  have e2:(acc++its)++(List.replicate k its).flatten=acc++(List.replicate (k+1) its).flatten:=by
   rw [List.replicate_succ,List.flatten_cons,qeB]
  rw [<- e2,<- foldl_rep its k (acc++its),<- e,List.replicate_succ,qqC]
section
variable {X:Cx}{pins:List (Addr × Obj)}{σ:St}{H:Hp}{s:Shared}{l b:Addr}{xs ys zs:List V}
theorem Inv.lset {its its':List Value}{n:Nat}{f:Array Value->Array Value}{t':Nat}(I:Inv X pins σ H s)(hH:H l=some (.lst xs))
  (e:s.heap.get? l=some { cls:=.type "list",data:=.seq its.toArray n }) (hf:f its.toArray=its'.toArray) (hv:Vals ys its') (hz:ys.length<=sizeLine) :
  Inv X pins σ (upd H l (.lst ys)) { s with heap:=s.heap.update l (Obj.mapSeq f),toks:=t' }:=by
 have q:=PySem.IsL.update e f
 rw [hf] at q
 refine I.write (x:=l) (e:=l) (by rw [hH];exact trivial) (.inl rfl) (fun b' u hb hu=>(Heap.get?_update_other s.heap (Obj.mapSeq f) (Ne.symm hb)).trans hu) ⟨_,q⟩ ?_
 exact ⟨hz,its',_,hv,q⟩
theorem Inv.lnew {its:List Value}{t':Nat}(I:Inv X pins σ H s)(hv:Vals ys its)(hz:ys.length<=sizeLine) :
  Inv X pins σ (upd H s.heap.objs.size (.lst ys)) { s with heap:=s.heap.push { cls:=.type "list",data:=.seq its.toArray },toks:=t' } :=
 I.laid (fun _ _ q=>qrB _ q) (qkB _) ⟨hz,its,0,hv,qsB _ rfl⟩
theorem Inv.fresh (I:Inv X pins σ H s):H s.heap.objs.size=none:=I.hok.fresh (qkB _)
theorem Inv.lstM (I:Inv X pins σ H s)(hH:H l=some (.lst xs)):xs.length<=sizeLine/\∃ (its:List Value) (n:Nat),Vals xs its/\xs.length=its.length/\s.heap.get? l=some { cls:=.type "list",data:=.seq its.toArray n }:=by
 obtain ⟨z,its,n,r,e⟩:=I.hok l _ hH
 exact ⟨z,its,n,r,r.length,e⟩
theorem notLongL {n:Nat}(h:n<=sizeLine):Builtin.List.listTooLong n=false:=by
 unfold Builtin.List.listTooLong
 exact decide_eq_false (by omega)
end
section
variable {X:Cx}
def Gr:V->List V->Hp->VK->Prop:=fun x vs H Q=>∃ l xs y,x = .ref l/\vs=[y]/\H l=some (.lst xs)/\xs.length<sizeLine/\Q .non (upd H l (.lst (xs++[y])))
theorem Cy:MtM X "list.append" Gr:=by
 intro pins s σ H x vs v us Q I rx rv h
 obtain ⟨l,xs,y,rfl,rfl,hH,hz,q⟩:=h
 cases rx
 obtain ⟨u,rfl,ru⟩:=rv.one
 obtain ⟨z,its,n,r,hl,e⟩:=I.lstM hH
 refine call_meets F.slot_list_append ⟨_,e,rfl⟩ F.entry_list_append (F.args_list_append_2 _ _) (PySem.list_append l its.toArray n u (by rw [qaC];omega)) ⟨e,?_⟩
 refine ⟨.non,_,I.lset (its':=its++[u]) hH e (by simp) (r.append (.cons ru .nil)) ?_,rfl,q⟩
 rw [qgA,qiA]
 omega
def rRep:R2:=fun x y H Q=>∃ l k xs,x = .ref l/\y = .int k/\H l=some (.lst xs)/\-(2 ^ 63)<=k/\k<2 ^ 63/\xs.length * k.toNat<=sizeLine /\
 ∀ p,H p=none->Q (.ref p) (upd H p (.lst (List.replicate k.toNat xs).flatten))
theorem len_rep {α:Type}(xs:List α)(k:Nat):(List.replicate k xs).flatten.length=k * xs.length:=by
 induction k with
 | zero=>simp
 | succ k ih=>rw [List.replicate_succ,List.flatten_cons,qgA,ih,Nat.succ_mul,Nat.add_comm]
theorem op_rep:OpR X (binaryOp .Mult) rRep:=by
 intro pins s σ H x y v u Q I rx ry h
 obtain ⟨l,k,xs,rfl,rfl,hH,h1,h2,hz,q⟩:=h
 cases rx
 obtain ⟨t,rfl⟩:=ry
 obtain ⟨z,its,n,r,hl,e⟩:=I.lstM hH
 have hlen:its.toArray.size * k.toNat<=sizeLine:=by rw [qaC,<- hl];exact hz
 have hcap:¬ its.toArray.size * k.toNat > (2 ^ 63 - 1) / 8:=by
  have:(sizeLine:Nat)<=(2 ^ 63 - 1) / 8:=by decide
  omega
 have hfit:¬ (!Builtin.List.listFitsIndex k)=true:=by
  rw [fitsIndex_both h1 h2]
  exact qzB
 have hlong:¬ Builtin.List.listTooLong (its.toArray.size * k.toNat)=true:=by
  rw [notLongL hlen]
  exact qzB
 have hnew:List.foldl (fun x1 x2=>x1++x2) #[] (List.replicate (if its.toArray.isEmpty=true then 0 else k.toNat) its.toArray)=(List.replicate k.toNat its).flatten.toArray:=by
  have f0:∀ m:Nat,List.foldl (fun x1 x2=>x1++x2) #[] (List.replicate m its.toArray)=(List.replicate m its).flatten.toArray:=fun m=>by
   have:=foldl_rep its m []
   rw [List.nil_append] at this
   exact this
  rw [f0]
  cases its with
  | nil=>simp
  | cons a r'=>rw [if_neg (by simp)]
 refine wpAny_binaryOp_repeat_ref (T := "list") (U := "int") (by decide) ⟨_,e,rfl⟩ (fun s'=>typeIs_int s' k t) noFill_list_mul F.fills_int_mul F.slot_int_rmul repeat_list F.slot_int_index.lookup
  (call_meets F.slot_int_rmul (typeIs_int s k t) F.entry_int_rmul (F.args_int_rmul_2 _ _) (int___rmul___int_list k t l its.toArray n)
   ⟨e,rfl,⟨_,e,rfl⟩,call_meets F.slot_list_mul ⟨_,e,rfl⟩ F.entry_list_mul (F.args_list_mul_2 _ _) (AutoListH.list___mul___list_int_3 l its.toArray n k t hfit hcap hlong) ⟨e,?_⟩⟩)
 rw [hnew]
 exact ⟨.ref _,_,I.lnew (t':=s.toks) (r.rep k.toNat) (by rw [len_rep,Nat.mul_comm];exact hz),rfl,q _ I.fresh⟩
end
end L2
namespace Att
open PySem PySem.W PySem.Calls PyProof.Rows
theorem ints_of_wellAll {P:Params}{h:Heap}:∀ (ns:List Int) (vs:List Value),WellAll P h vs (ns.map WData.int)->IntsAre vs ns:=by
 intro ns
 induction ns with
 | nil =>
  intro vs w
  rw [List.map_nil] at w
  cases w
  exact .nil
 | cons n ns ih =>
  intro vs w
  rw [qcB] at w
  cases w with
  | cons a b =>
   cases a
   exact .cons _ _ (ih _ b)
theorem script_of {l:OpenLaw}{n:Nat}(hn:l.most=some n){P:Params}{h:Heap}{args:List WData}{vals:List Value}
  (hpre:l.row.toRowW.claim.pre args=true) (hwl:WellAll P h vals args) :
  ∃ a vs ns,vals=[Value.ref a]/\args=[WData.list (ns.map WData.int)]/\h.get? a=some { cls:=.type "list",data:=.seq vs.toArray }/\IntsAre vs ns/\ns.length<=n:=by
 have hsh:WShape.hasAll [] args [.list .int]=true:=(pre_splitW hpre).1
 have hc:l.pre.holds [] { args:=args }=true:=(pre_splitW hpre).2
 obtain ⟨d,r,rfl,h1,h2⟩:=hasAllW_cons hsh
 obtain rfl:=hasAllW_nil h2
 obtain ⟨xs,rfl,h3⟩:=hasW_list h1
 obtain ⟨ns,rfl⟩:=items_int h3
 have hlen:ns.length<=n:=by
  unfold OpenLaw.pre at hc
  have h4:(WTm.not (.lt (.lit (.int (n:Int))) (.len (.arg 0)))).holds [] { args:=[.list (ns.map .int)] }=true:=by
   have h4:=(holds_andW hc).1
   rw [hn] at h4
   exact h4
  have h5:=condW_of h4 (w_not (w_lt w_lit (w_len_list (w_arg rfl))))
  rw [qfA] at h5
  refine Nat.le_of_not_lt fun q=>?_
  have q':(n:Int)<((ns.length:Nat):Int):=by omega
  first
   | (rw [decide_eq_true q'] at h5;exact absurd h5 (by decide))
   | (simp at h5;omega)
 cases hwl with
 | cons w1 w2 =>
  cases w2
  cases w1 with
  | list ho hall=>exact ⟨_,_,ns,rfl,rfl,ho,ints_of_wellAll ns _ hall,hlen⟩
theorem post_true (l:OpenLaw)(args:List WData):l.row.toRowW.claim.post args (.bool true) args=true :=
 postW_of (r:=l.row.toRowW) (X:=(true == true))
  (show WShape.has [] (.bool true) .bool=true by first|rfl|decide|simp [WShape.has,WShape.arms,WShape.armsAll])
  (show (WTm.eq .res (.lit (.bool true))).value [] { args:=args,res:=some (.bool true),after:=args }=some (.bool (true == true)) from w_eq_bool (w_res rfl) w_lit) rfl
theorem attach_call {l:OpenLaw}{n:Nat}{q:Program}{loose:List Str}{XP:(Str->Option Value)->Heap->Prop}{YP:World->Heap->Prop}{d:DefRec}
  (hn:l.most=some n) (hdf:d.params.defaults=[])
  (call:∀ (w:World) (s₀ s₁:Shared) (mg mb:Str->Option Value) (fa:Addr) (o:Obj) (pm cd doc:Value) (a:Addr) (vs:List Value) (ns:List Int),
   Ground q loose [] XP w s₀ mg mb s₁.heap->YP w s₁.heap ->
   s₁.heap.get? fa=some o->o.data = .func (docDef d.name d.params d.body d.scope pm cd doc)->s₁.heap.CodeRec cd d.name->mg d.name=some (.ref fa) ->
   s₁.heap.get? a=some { cls:=.type "list",data:=.seq vs.toArray }->IntsAre vs ns->ns.length<=n->s₁.gens = #[] ->
   codeAny (model l.prog w) callerA (.call (.ref fa) ⟨[.ref a],[]⟩) (fun r s'=>r = .ok (.ret (.bool true))/\OldK s₁.heap s'.heap/\s'.os=s₁.os/\AllBare s'.gens) s₁) :
  WalkO q loose XP YP l.row.toRowW d [] (fun f vs=>PySem.call f vs):=by
 intro w s₀ s₁ mg mb G Y fa o pm cd doc dV kV ho hd hcd hD hmg hg args vals as hpre hlay hrd hwl hlo
 obtain rfl:dV = .none:=Dflts.none hD hdf
 obtain rfl:kV = .none:=Dflts.noKw hD
 obtain ⟨a,vs,ns,rfl,rfl,hobj,hints,hlen⟩:=script_of hn hpre hwl
 refine enter_call (codeAny_mono (call w s₀ s₁ mg mb fa o pm cd doc a vs ns G Y ho (fd_plain hd) hcd hmg hobj hints hlen hg) fun r s' hq=>?_)
 obtain ⟨rfl,h2,h3,h4⟩:=hq
 exact ⟨.inl ⟨.bool true,.bool true,[],rfl,fun _=>rfl,.bool true,post_true l _,fun _=>⟨List.Pairwise.nil,fun _ hm=>(nomatch hm)⟩⟩,h2,h3,h4⟩
end Att
namespace L2
open PySem PySem.Spec PyProof.Rows
theorem vals_ints:∀ {vs:List Value}{ns:List Int},IntsAre vs ns->Vals (ns.map V.int) vs
 | _,_,.nil=>.nil
 | _,_,.cons n t h=>.cons ⟨t,rfl⟩ (vals_ints h)
def Only (H:Hp):Prop:=∀ b,H b=none\/∃ o xs,H b=some (.frz o (.lst xs))
theorem law_call {P:Program}{w:World}{K:FZ9}{mg mb:Str->Option Value}{CX:CXT}{k:Nat}{fa a:Addr}{fd:FuncData}{x:Str}{sp:Sp}{s₁:Shared}{vs:List Value}{ns:List Int}
  (KX:K.In s₁.heap) (hns:s₁.heap.Ns mainGlobals mg) (hb:s₁.heap.Ns builtinsNs mb) (hbb:∀ x:Str,x ≠ "__name__" -> mb x=bootBuiltins x) (hlim:s₁.heap.NoLimit) (hg:s₁.gens = #[])
  (ha:s₁.heap.get? a=some { cls:=.type "list",data:=.seq vs.toArray }) (hi:IntsAre vs ns) (hl:ns.length<=sizeLine) (hr:Room k callerA)
  (F:∀ base:Heap,K.In base->base.Ns mainGlobals mg->FnOk P w K mg base CX k fa fd [x] sp) (hbind:∀ (s:Shared) (u:Value),BindsTo s fd ⟨[u],[]⟩ [(x,u)])
  (hsp:∀ H:Hp,Only H->SqL K H a (ns.map V.int)->sp [.ref a] H (fun v _=>v = .bl true) fun _ _ _=>False)
  (hCX:∀ H e s',CX [] H s₁ (fun _ _ _=>False) e s'->False) :
  codeAny (model P w) callerA (.call (.ref fa) ⟨[.ref a],[]⟩) (fun r s'=>r = .ok (.ret (.bool true))/\OldK s₁.heap s'.heap/\s'.os=s₁.os/\AllBare s'.gens) s₁:=by
 have rv:=vals_ints hi
 have lenV:=hi.length
 have core:∀ H:Hp,Only H->SqL K H a (ns.map V.int)->HOk P w H s₁.heap->(∀ b,H b≠none->b=a)->(H a≠none->K.lookup a=none) ->
   codeAny (model P w) callerA (.call (.ref fa) ⟨[.ref a],[]⟩) (fun r s'=>r = .ok (.ret (.bool true))/\OldK s₁.heap s'.heap/\s'.os=s₁.os/\AllBare s'.gens) s₁:=by
  intro H hO hS hok hA hK
  have base_of:∀ {b:Addr}{o:Obj},s₁.heap.get? b=some o->H b=none->(hidT s₁.heap H).get? b=some o:=fun e n=>hidT_get e n
  have noA:∀ {b:Addr}{o:Obj}{es:Array DictEntry}{ep:Nat},s₁.heap.get? b=some o->o.data = .dict es ep->H b=none:=fun {b o es ep} e d=>by
   cases q:H b with
   | none=>rfl
   | some u =>
    have e':b=a:=hA b (by rw [q];simp)
    subst e'
    rw [ha] at e;cases e
    have d':Data.seq vs.toArray _=Data.dict es ep:=d
    cases d'
  have nsK:∀ {b:Addr}{m:Str->Option Value},s₁.heap.Ns b m->(hidT s₁.heap H).Ns b m:=fun {b m} ⟨o,es,ep,e,d,r⟩=>⟨o,es,ep,base_of e (noA e d),d,r⟩
  have hKb:K.In (hidT s₁.heap H):=fun b o e=>base_of (KX b o e) (by
   cases q:H b with
   | none=>rfl
   | some u =>
    have e':b=a:=hA b (by rw [q];simp)
    subst e'
    rw [hK (by rw [q];simp)] at e;cases e)
  have hM:Mod K mg (hidT s₁.heap H):=⟨hKb,nsK hns,⟨mb,nsK hb,hbb⟩,let ⟨mc,h1,h2⟩:=hlim;⟨mc,nsK h1,h2⟩⟩
  have e0:Env0 P w K mg (hidT s₁.heap H) callerA [] s₁ H:=⟨rfl,hM,fun b o e=>of_hidT e,Nat.le_of_eq (hidT_size _ _),trivial,fun b hb=>absurd (show b∈([]:List Addr) from hb) (by simp),hok,.of_eq hg⟩
  refine codeAny_mono ((F _ hKb (nsK hns)).run callerA [] s₁ H ⟨[.ref a],[]⟩ [.ref a] [.ref a] _ _ hr e0 (hbind s₁ (.ref a)) (.cons rfl .nil) (hsp H hO hS)) fun r s' h=>?_
  cases r with
  | error e=>exact (hCX H e s' h).elim
  | ok fl =>
   cases fl with
   | next=>exact False.elim h
   | brk=>exact False.elim h
   | cont=>exact False.elim h
   | ret u =>
    obtain ⟨v,H',os,bare,un,hok',r',q⟩:=h
    have q':v = .bl true:=q
    subst q'
    obtain rfl:u=Value.bool true:=r'
    refine ⟨rfl,OldK.of_keep fun b o e=>?_,os,bare⟩
    cases q:H b with
    | none=>exact un.keep b o e q (by intro z;exact absurd (show b∈([]:List Addr) from z) (by simp)) (by simp)
    | some u =>
     rcases hO b with z | ⟨ob,xs,z⟩
     ·rw [q] at z;cases z
     ·have z2:=un.frzs b ob _ z
      obtain ⟨e1,_⟩:=hok b _ z
      obtain ⟨e2,_⟩:=hok' b _ z2
      rw [e] at e1;cases e1
      exact e2
 cases hk:K.lookup a with
 | some o =>
  have e:=KX a o hk
  rw [ha] at e
  cases e
  refine core (fun _=>none) (fun _=>.inl rfl) (.inr ⟨_,vs.toArray,_,hk,rfl,rfl,rfl,by rw [qaC,lenV];exact hl,by simpa using rv⟩) (fun b u z=>by have z':(none:Option HO)=some u:=z;cases z') (fun b z=>absurd rfl z) fun z=>absurd rfl z
 | none =>
  refine core (fun b=>if b=a then some (.frz { cls:=.type "list",data:=.seq vs.toArray } (.lst (ns.map V.int))) else none) (fun b=>?_) (.inl (.inr ⟨{ cls:=.type "list",data:=.seq vs.toArray },if_pos rfl⟩)) (fun b u z=>?_) (fun b z=>?_) fun _=>hk
  ·by_cases hb:b=a
   ·exact .inr ⟨_,_,if_pos hb⟩
   ·exact .inl (if_neg hb)
  ·by_cases hb:b=a
   ·have z':=(if_pos hb).symm.trans z
    cases z'
    subst hb
    exact ⟨ha,by rw [qfA];exact hl,vs,_,rv,ha⟩
   ·have z':=(if_neg hb).symm.trans z
    cases z'
  ·by_cases hb:b=a
   ·exact hb
   ·exact absurd (if_neg hb) z
theorem walk_of {l:PySem.W.OpenLaw}{n k:Nat}{q:Program}{loose:List Str}{XP:(Str->Option Value)->Heap->Prop}{YP:World->Heap->Prop}{d:DefRec}{K:Params->FZ9}{CX:World->CXT}{sp:World->Sp}{x:Str}
  (hn:l.most=some n) (hn2:n<=sizeLine) (hdf:d.params.defaults=[]) (hr:Room k callerA)
  (hY:∀ (w:World) (h:Heap),YP w h->(K w.params).In h)
  (F:∀ (w:World) (mg:Str->Option Value) (fa:Addr) (h:Heap),(K w.params).In h->h.Ns mainGlobals mg->mg d.name=some (.ref fa) ->
   ∃ fd:FuncData,(∀ (s:Shared) (u:Value),BindsTo s fd ⟨[u],[]⟩ [(x,u)]) /\
    ∀ base:Heap,(K w.params).In base->base.Ns mainGlobals mg->FnOk l.prog w (K w.params) mg base (CX w) k fa fd [x] (sp w))
  (hsp:∀ (w:World) (H:Hp) (a:Addr) (ns:List Int),ns.length<=n->Only H->SqL (K w.params) H a (ns.map V.int)->sp w [.ref a] H (fun v _=>v = .bl true) fun _ _ _=>False)
  (hCX:∀ (w:World) (H:Hp) (s:Shared) (e:Value) (s':Shared),CX w [] H s (fun _ _ _=>False) e s'->False) :
  PySem.W.WalkO q loose XP YP l.row.toRowW d [] (fun f vs=>PySem.call f vs):=by
 refine Att.attach_call hn hdf fun w s₀ s₁ mg mb fa o pm cd doc a vs ns G Y ho hd hcd hmg hobj hints hlen hg=>?_
 have KX:=hY w _ Y
 obtain ⟨fd,hb,hF⟩:=F w mg fa _ KX G.T.g hmg
 exact law_call KX G.T.g G.T.b G.T.builtins G.T.nolimit hg hobj hints (qmB hlen hn2) hr hF hb (fun H hO hS=>hsp w H a ns hlen hO hS) fun H e s'=>hCX w H s₁ e s'
def AY (s:Stmt):Arguments:=match s with
 | .FunctionDef _ a _ _ _ _ _ _ _ _=>a
 | _=>{ posonlyargs:=[],args:=[],vararg:=none,kwonlyargs:=[],kw_defaults:=[],kwarg:=none,defaults:=[] }
def AX (s:Stmt):List Stmt:=match s with
 | .FunctionDef _ _ b _ _ _ _ _ _ _=>b
 | _=>[]
def AB (s:Stmt):Scope:=match s with
 | .FunctionDef _ _ _ _ _ _ sc _ _ _=>sc
 | _=>{ kind:=.function,names:=[],isGenerator:=false,isCoroutine:=false }
abbrev CX0:CXT:=fun _ _ _ _ _ _=>False
abbrev E0:XK:=fun _ _ _=>False
theorem pass0 {X:Cx}:Passes CX0 X E0:=fun _ _ _ _ _ _ _ h=>h.elim
structure Fun (K:FZ9)(x qual:Str)(st:Stmt)(f:Addr)(fd:FuncData):Prop where
 ex:∃ (oc:Value) (od:Option Addr) (kV doc pm:Value) (an:Option Addr) (cdv ct:Value) (osl:Array (Option Value)),
  fd=qgC x qual (AY st) (AX st) (AB st) .none kV doc pm an cdv ct/\K.lookup f=some ⟨oc,od,.func fd,osl⟩/\qfC K cdv qual=true
 kp:qeC K (.ref f)=true
section
variable {P:Program}{w:World}{K:FZ9}{mg:Str->Option Value}{base:Heap}
theorem Fun.ok {x qual:Str}{st:Stmt}{f:Addr}{fd:FuncData}{N ps:List Str}{k:Nat}{sp:Sp}(F:Fun K x qual st f fd)(S:FnScope N ps (AB st))(len:∀ vs H Q E,sp vs H Q E->vs.length=ps.length)
  (hbody:∀ (cdv:Value) (A:Around) (outer:List Env) (s:Shared) (H:Hp) (vs:List V) (Q:VK) (E:XK),Room k (A.deeper (envOfC qual (AB st) s.heap.objs.size f cdv))->sp vs H Q E ->
   ∃ t,PSs (cxOf CX0 P w K mg base N qual (AB st) f cdv A outer s H E).nox (AX st) t/\t { nx:=fun _ H'=>Q .non H',rt:=Q } (start N vs) H):FnOk P w K mg base CX0 (k+1) f fd ps sp:=by
 obtain ⟨oc,od,kV,doc,pm,an,cdv,ct,osl,rfl,lk,hcd⟩:=F.ex
 refine fn_of lk hcd S len fun A outer s H vs Q E hr hsp=>?_
 obtain ⟨t,h,q⟩:=hbody cdv A outer s H vs Q E hr hsp
 exact ⟨t,h.nox,q⟩
theorem Fun.binds {x qual:Str}{st:Stmt}{f:Addr}{fd:FuncData}{ps:List Str}(F:Fun K x qual st f fd)
  (h:∀ (kV doc pm:Value) (an:Option Addr) (cdv ct:Value) (us:List Value),us.length=ps.length->bindArgs (qgC x qual (AY st) (AX st) (AB st) .none kV doc pm an cdv ct) ⟨us,[]⟩=pure (ps.zip us)):Binds K fd ps []:=by
 obtain ⟨oc,od,kV,doc,pm,an,cdv,ct,osl,rfl,lk,hcd⟩:=F.ex
 exact .all (h kV doc pm an cdv ct)
theorem B0 {x qual:Str}{st:Stmt}{f:Addr}{oc:Value}{od an:Option Addr}{osl:Array (Option Value)}{kV doc pm cdv ct:Value}(l:K.lookup f=some ⟨oc,od,.func (qgC x qual (AY st) (AX st) (AB st) .none kV doc pm an cdv ct),osl⟩)
  (c:qfC K cdv qual=true) (k:qeC K (.ref f)=true):Fun K x qual st f (qgC x qual (AY st) (AX st) (AB st) .none kV doc pm an cdv ct):=⟨⟨oc,od,kV,doc,pm,an,cdv,ct,osl,rfl,l,c⟩,k⟩
end
section
variable {X:Cx}
theorem pv (i:Nat){x:Str}{pos:Pos}(hN:X.N[i]? = some x:=by rfl)(hv:Vis X.env.scope x:=by first|exact Or.inl rfl|exact Or.inr (Or.inl rfl)|exact Or.inr (Or.inr rfl))(hd:(x == ("__debug__" : Str))=false:=by decide)
  (hcd:(x == ("__classdict__" : Str))=false:=by decide):PE X (.Name x pos) (Bc i):=pe_var hN hv hd hcd
end
theorem Bs {A B:Prop}(h:B):if false=true then A else B:=by
 rw [if_neg qzB]
 exact h
theorem Bw {A B:Prop}(h:A):if true=true then A else B:=by
 rw [if_pos rfl]
 exact h
def Same (H H':Hp):Prop:=∀ b o,H b=some o->H' b=some o
theorem Same.refl (H:Hp):Same H H:=fun _ _ h=>h
theorem Same.trans {H H1 H2:Hp}(a:Same H H1)(b:Same H1 H2):Same H H2:=fun c o h=>b c o (a c o h)
theorem Same.free {H H':Hp}(e:Same H H'){l:Addr}(h:H' l=Option.none):H l=Option.none:=by
 cases q:H l with
 | none=>rfl
 | some o =>
  rw [e l o q] at h
  cases h
theorem Same.seq {K:FZ9}{H H':Hp}{a:Addr}{xs:List V}(e:Same H H')(h:SqL K H a xs):SqL K H' a xs:=by
 rcases h with (h | ⟨o,h⟩)|h
 ·exact .inl (.inl (e _ _ h))
 ·exact .inl (.inr ⟨o,e _ _ h⟩)
 ·exact .inr h
section
variable {κ:Type}[DecidableEq κ]
def D7 (kvs:List (κ × V))(k:κ):Option V:=(kvs.find? fun kv=>decide (kv.1=k)).map (·.2)
def Ct (kvs:List (κ × V))(k:κ)(v:V):List (κ × V) :=
 if (kvs.any fun kv=>decide (kv.1=k))=true then kvs.map (fun kv=>if kv.1=k then (kv.1,v) else kv) else kvs++[(k,v)]
theorem C5 {p:κ × V}{r:List (κ × V)}{k:κ}(e:p.1=k):D7 (p::r) k=some p.2:=by simp [D7,List.find?_cons,e]
theorem Bx {p:κ × V}{r:List (κ × V)}{k:κ}(e:¬ p.1=k):D7 (p::r) k=D7 r k:=by simp [D7,List.find?_cons,e]
theorem valV_any (k:κ):∀ kvs:List (κ × V),(kvs.any fun kv=>decide (kv.1=k))=(D7 kvs k).isSome
 | []=>rfl
 | p::r=>by
  rw [List.any_cons]
  by_cases e:p.1=k
  ·simp only [C5 e,decide_eq_true e,Bool.true_or,Option.isSome_some]
  ·rw [Bx e,decide_eq_false e,Bool.false_or];exact valV_any k r
theorem valV_snoc (k j:κ)(y:V):∀ kvs:List (κ × V),D7 kvs k=none->D7 (kvs++[(k,y)]) j=if j=k then some y else D7 kvs j
 | [],_=>by
  by_cases e:k=j
  ·rw [if_pos e.symm];exact C5 (p:=(k,y)) e
  ·rw [if_neg (fun z=>e z.symm)];exact Bx (p:=(k,y)) e
 | p::r,hn=>by
  rw [List.cons_append]
  have hk:¬ p.1=k:=fun z=>by rw [C5 z] at hn;cases hn
  rw [Bx hk] at hn
  have ih:=valV_snoc k j y r hn
  by_cases e:p.1=j
  ·rw [C5 e,C5 e,if_neg (fun z=>hk (e.trans z))]
  ·rw [Bx e,Bx e,ih]
theorem GH (kvs:List (κ × V))(k:κ)(v:V):(Ct kvs k v).length<=kvs.length+1:=by
 unfold Ct
 split
 ·rw [qfA];omega
 ·rw [qgA,qhA,List.length_nil];omega
theorem putK_new {kvs:List (κ × V)}{k:κ}(v:V)(h:D7 kvs k=none):Ct kvs k v=kvs++[(k,v)]:=by
 unfold Ct
 rw [valV_any,h]
 exact if_neg (by decide)
theorem RelO.isSome_eq {o:Option V}{u:Option Value}(r:RelO o u):o.isSome=u.isSome:=by
 cases o with
 | none=>cases u with
  | none=>rfl
  | some _=>exact (show False from r).elim
 | some _=>cases u with
  | none=>exact (show False from r).elim
  | some _=>rfl
theorem RelO.getD {o:Option V}{u:Option Value}{d:V}{d':Value}(r:RelO o u)(rd:RelV d d'):RelV (o.getD d) (u.getD d'):=by
 cases o with
 | none=>cases u with
  | none=>exact rd
  | some _=>exact (show False from r).elim
 | some _=>cases u with
  | none=>exact (show False from r).elim
  | some _=>exact r
theorem KV.val {kvs:List (κ × V)}{vs:List (κ × Value)}(r:KV kvs vs)(k:κ):RelO (D7 kvs k) (valueAt vs k):=by
 unfold KV at r
 induction r with
 | nil=>exact True.intro
 | @cons p q ps qs h t ih =>
  obtain ⟨h1,h2⟩:=h
  by_cases e:p.1=k
  ·have e':q.1=k:=h1.symm.trans e
   have b:valueAt (q::qs) k=some q.2:=by simp [valueAt,List.find?_cons,e']
   rw [C5 e,b];exact h2
  ·have e':¬ q.1=k:=fun z=>e (h1.trans z)
   have b:valueAt (q::qs) k=valueAt qs k:=by simp [valueAt,List.find?_cons,e']
   rw [Bx e,b];exact ih
theorem KV.any {kvs:List (κ × V)}{vs:List (κ × Value)}(r:KV kvs vs)(k:κ):(kvs.any fun kv=>decide (kv.1=k))=vs.any fun kv=>decide (kv.1=k):=by
 unfold KV at r
 induction r with
 | nil=>rfl
 | cons h t ih=>rw [List.any_cons,List.any_cons,ih,h.1]
theorem KV.repl {kvs:List (κ × V)}{vs:List (κ × Value)}(r:KV kvs vs)(k:κ){y:V}{u:Value}(ry:RelV y u) :
  KV (kvs.map fun kv=>if kv.1=k then (kv.1,y) else kv) (vs.map fun kv=>if kv.1=k then (kv.1,u) else kv):=by
 unfold KV at r ⊢
 induction r with
 | nil=>exact .nil
 | @cons p q ps qs h t ih =>
  rw [qcB,qcB]
  refine .cons ?_ ih
  obtain ⟨h1,h2⟩:=h
  by_cases e:p.1=k
  ·rw [if_pos e,if_pos (h1.symm.trans e)];exact ⟨h1,ry⟩
  ·rw [if_neg e,if_neg (fun z=>e (h1.trans z))];exact ⟨h1,h2⟩
theorem KV.put {kvs:List (κ × V)}{vs:List (κ × Value)}(r:KV kvs vs)(k:κ){y:V}{u:Value}(ry:RelV y u):KV (Ct kvs k y) (stored vs k u):=by
 unfold Ct stored
 rw [r.any k]
 by_cases e:(vs.any fun kv=>decide (kv.1=k))=true
 ·rw [if_pos e,if_pos e];exact r.repl k ry
 ·rw [if_neg e,if_neg e];exact Paired.snoc r ⟨rfl,ry⟩
theorem KV.length {kvs:List (κ × V)}{vs:List (κ × Value)}(r:KV kvs vs):kvs.length=vs.length:=Paired.length r
end
theorem kV_is {P:Program}{w:World}{k:Key}{u:Value}(r:RelV (kV k) u):(B6 P w).is k u=true:=by
 cases k with
 | inl i=>obtain ⟨t,e⟩:=(show ∃ t,u=Value.int i t from r);subst e;exact mixKind_int P w i t
 | inr x=>obtain ⟨t,e⟩:=(show ∃ t,u=Value.str x t from r);subst e;exact mixKind_str P w x t
theorem items_are {P:Program}{w:World}:∀ {ks:List Key}{us:List Value},Vals (ks.map kV) us->ItemsAre (B6 P w) ks us
 | [],_,r=>by rw [List.map_nil] at r;cases r;exact .nil
 | k::ks,_,r=>by
  rw [qcB] at r
  cases r with
  | cons h t=>exact .cons (kV_is h) (items_are t)
abbrev KT (H:Hp):List (List Key × V)->List (List Key × Addr × Value)->Prop:=Paired fun p q=>p.1=q.1/\H q.2.1=some (.tup (p.1.map kV))/\RelV p.2 q.2.2
theorem KT.val {H:Hp}{kvs:List (List Key × V)}{xs:List (List Key × Addr × Value)}(r:KT H kvs xs)(k:List Key):RelO (D7 kvs k) ((atKey xs k).map (·.2)):=by
 induction r with
 | nil=>exact True.intro
 | @cons p q ps qs h t ih =>
  obtain ⟨h1,_,h2⟩:=h
  by_cases e:p.1=k
  ·have e':q.1=k:=h1.symm.trans e
   have b:atKey (q::qs) k=some q.2:=by simp [atKey,List.find?_cons,e']
   rw [C5 e,b];exact h2
  ·have e':¬ q.1=k:=fun z=>e (h1.trans z)
   have b:atKey (q::qs) k=atKey qs k:=by simp [atKey,List.find?_cons,e']
   rw [Bx e,b];exact ih
theorem KT.repl {H:Hp}{kvs:List (List Key × V)}{xs:List (List Key × Addr × Value)}(r:KT H kvs xs)(k:List Key){y:V}{u:Value}(ry:RelV y u) :
  KT H (kvs.map fun kv=>if kv.1=k then (kv.1,y) else kv) (xs.map (putAt k u)):=by
 induction r with
 | nil=>exact .nil
 | @cons p q ps qs h t ih =>
  rw [qcB,qcB]
  refine .cons ?_ ih
  obtain ⟨h1,h2,h3⟩:=h
  unfold putAt
  by_cases e:p.1=k
  ·rw [if_pos e,if_pos (h1.symm.trans e)];exact ⟨h1,h2,ry⟩
  ·rw [if_neg e,if_neg (fun z=>e (h1.trans z))];exact ⟨h1,h2,h3⟩
theorem KT.put {H:Hp}{kvs:List (List Key × V)}{xs:List (List Key × Addr × Value)}(r:KT H kvs xs)(k:List Key){b:Addr}{y:V}{u:Value}(hb:H b=some (.tup (k.map kV)))(ry:RelV y u) :
  KT H (Ct kvs k y) (storedH xs k b u):=by
 have e:(kvs.any fun kv=>decide (kv.1=k))=(atKey xs k).isSome:=by
  rw [valV_any,(r.val k).isSome_eq,Option.isSome_map]
 unfold Ct storedH
 rw [e]
 by_cases q:(atKey xs k).isSome=true
 ·rw [if_pos q,if_pos q];exact r.repl k ry
 ·rw [if_neg q,if_neg q];exact Paired.snoc r ⟨rfl,hb,ry⟩
theorem KT.keeps {H H':Hp}{kvs:List (List Key × V)}{xs:List (List Key × Addr × Value)}(r:KT H kvs xs)(ht:∀ b ys,H b=some (.tup ys)->H' b=some (.tup ys)):KT H' kvs xs :=
 Paired.mapP r fun _ _ z=>⟨z.1,ht _ _ z.2.1,z.2.2⟩
section
variable {P:Program}{w:World}{H:Hp}{h:Heap}{a:Addr}
theorem rd_of {u:HO}(ok:HOk P w H h)(e:Rd H a u):ObjOk P w H h a u:=e.ok ok
theorem dk_rd {kvs:List (Key × V)}(ok:HOk P w H h)(e:Rd H a (.dK kvs)):kvs.length<=sizeLine/\(a == sysModules)=false/\∃ vs,KV kvs vs/\h.DictOf (B6 P w) a vs :=
 show ObjOk P w H h a (.dK kvs) from rd_of ok e
theorem dk_of {kvs:List (Key × V)}(ok:HOk P w H h)(e:H a=some (.dK kvs)):kvs.length<=sizeLine/\(a == sysModules)=false/\∃ vs,KV kvs vs/\h.DictOf (B6 P w) a vs:=dk_rd ok (.inl e)
theorem HV {ks:List Key}(ok:HOk P w H h)(e:H a=some (.tup (ks.map kV))):(tupleKind (B6 P w)).is h ks a:=by
 obtain ⟨_,its,r,o,h1,h2,n,h3⟩:=(show ObjOk P w H h a (.tup (ks.map kV)) from ok a _ e)
 exact ⟨o,its.toArray,n,h1,h2,h3,by simpa using items_are r⟩
theorem dt_rd {kvs:List (List Key × V)}(ok:HOk P w H h)(e:Rd H a (.dT kvs)):kvs.length<=sizeLine/\(a == sysModules)=false /\
  ∃ xs,KT H kvs xs/\h.DictOfH (tupleKind (B6 P w)) a xs:=by
 obtain ⟨z,y,xs,r,o,es,ep,h1,h2,h3,h4,h5⟩:=(show ObjOk P w H h a (.dT kvs) from rd_of ok e)
 refine ⟨z,y,xs,r,o,es,ep,h1,h2,h3,h4,fun x hx=>?_,h5⟩
 have all:∀ {l:List (List Key × V)}{m:List (List Key × Addr × Value)},KT H l m->∀ x∈m,(tupleKind (B6 P w)).is h x.1 x.2.1:=by
  intro l m q
  induction q with
  | nil=>intro x hx;exact nomatch hx
  | @cons p q ps qs hq t ih =>
   intro x hx
   rcases qnA.mp hx with e|hx
   ·subst e
    exact HV ok (by rw [<- hq.1];exact hq.2.1)
   ·exact ih x hx
 exact all r x hx
theorem dt_of {kvs:List (List Key × V)}(ok:HOk P w H h)(e:H a=some (.dT kvs)):kvs.length<=sizeLine/\(a == sysModules)=false /\
  ∃ xs,KT H kvs xs/\h.DictOfH (tupleKind (B6 P w)) a xs:=dt_rd ok (.inl e)
end
def DGet (H:Hp)(a:Addr)(y:V)(r:Option V):Prop :=
 (∃ kvs k,Rd H a (.dK kvs)/\y=kV k/\r=D7 kvs k)\/∃ kvs k b,Rd H a (.dT kvs)/\y = .ref b/\H b=some (.tup (k.map kV))/\r=D7 kvs k
def DPut (H:Hp)(a:Addr)(y v:V)(H':Hp):Prop :=
 (∃ kvs k,H a=some (.dK kvs)/\y=kV k/\kvs.length<sizeLine/\H'=upd H a (.dK (Ct kvs k v))) \/
 ∃ kvs k b,H a=some (.dT kvs)/\y = .ref b/\H b=some (.tup (k.map kV))/\kvs.length<sizeLine/\H'=upd H a (.dT (Ct kvs k v))
theorem DGet.t {H:Hp}{a b:Addr}{kvs:List (List Key × V)}{k:List Key}(e:H a=some (.dT kvs))(eb:H b=some (.tup (k.map kV))):DGet H a (.ref b) (D7 kvs k):=.inr ⟨kvs,k,b,.inl e,rfl,eb,rfl⟩
theorem DPut.t {H:Hp}{a b:Addr}{kvs:List (List Key × V)}{k:List Key}{v:V}(e:H a=some (.dT kvs))(eb:H b=some (.tup (k.map kV)))(hl:kvs.length<sizeLine) :
  DPut H a (.ref b) v (upd H a (.dT (Ct kvs k v))):=.inr ⟨kvs,k,b,e,rfl,eb,hl,rfl⟩
section
variable {X:Cx}{pins:List (Addr × Obj)}{σ:St}{H:Hp}{s:Shared}{a:Addr}{y v:V}{u r:Value}{o:Option V}{A:Around}{E:Value->Shared->Prop}
theorem Inv.big (I:Inv X pins σ H s):sysModules<s.heap.objs.size:=by
 have h:mainGlobals<s.heap.objs.size:=(I.mod.glob.keeps I.bk).lt
 exact Nat.lt_trans (by decide) h
theorem d_getItem {Q:Value->Shared->Prop}(hu:A.units+1<cLine)(I:Inv X pins σ H s)(g:DGet H a y (some v))(ry:RelV y u)(h:∀ w' s',Inv X pins σ H s'->RelV v w'->Q w' s') :
  wpAny (model X.prog X.w) A (getItem (.ref a) u) Q E s:=by
 rcases g with ⟨kvs,k,e,ey,l⟩ | ⟨kvs,k,b,e,ey,eb,l⟩
 ·subst ey
  obtain ⟨z,hd,vs,rel,dd⟩:=dk_rd I.hok e
  obtain ⟨w',hw,rw'⟩:=RelO.some_of (v:=v) (o:=valueAt vs k) (by rw [l];exact rel.val k)
  exact wpAny_getItem_of (kV_is ry) dd.mapOf hw (h w' _ (I.tok _) rw')
 ·subst ey
  cases (show u=Value.ref b from ry)
  obtain ⟨z,hd,xs,rel,dd⟩:=dt_rd I.hok e
  obtain ⟨w',hw,rw'⟩:=RelO.some_of (v:=v) (o:=(atKey xs k).map (·.2)) (by rw [l];exact rel.val k)
  obtain ⟨p,hp,hp2⟩:=qoB.mp hw
  refine wpAny_getItem_heap (tupleKind_room_in1 hu) (HV I.hok eb) dd hp ?_
  rw [hp2]
  exact h w' _ (I.tok _) rw'
theorem d_notIn {Q:Value->Shared->Prop}(hu:A.units+1<cLine)(I:Inv X pins σ H s)(g:DGet H a y o)(ry:RelV y u)(h:∀ s',Inv X pins σ H s'->Q (.bool (!o.isSome)) s') :
  wpAny (model X.prog X.w) A (compareOp .NotIn u (.ref a)) Q E s:=by
 rcases g with ⟨kvs,k,e,ey,l⟩ | ⟨kvs,k,b,e,ey,eb,l⟩
 ·subst ey
  obtain ⟨z,hd,vs,rel,dd⟩:=dk_rd I.hok e
  refine wpAny_notIn_of (kV_is ry) hd dd.mapOf ?_
  rw [<- (rel.val k).isSome_eq,<- l]
  exact h _ (I.tok _)
 ·subst ey
  cases (show u=Value.ref b from ry)
  obtain ⟨z,hd,xs,rel,dd⟩:=dt_rd I.hok e
  refine wpAny_notIn_heap (tupleKind_room_in1 hu) (HV I.hok eb) hd dd ?_
  have q:=(rel.val k).isSome_eq
  rw [Option.isSome_map] at q
  rw [<- q,<- l]
  exact h _ (I.tok _)
theorem d_write {h':Heap}{t':Nat}{ob:HO}(I:Inv X pins σ H s)(mu:Mut (H a))(hs:Heap.SameBut a s.heap h')(he:∃ q,h'.get? a=some q)(new:ObjOk X.prog X.w (upd H a ob) h' a ob) :
  Inv X pins σ (upd H a ob) { s with heap:=h',toks:=t' } :=
 I.write (x:=a) (e:=a) mu (.inl rfl) (fun b q hb z=>(hs.2 b hb).trans z) he new
theorem dk_new {P:Program}{w:World}{H':Hp}{h':Heap}{kvs:List (Key × V)}{vs:List (Key × Value)}(z:kvs.length<=sizeLine)(hd:(a == sysModules)=false)(rel:KV kvs vs)(dd:h'.DictOf (B6 P w) a vs) :
  ObjOk P w H' h' a (.dK kvs):=⟨z,hd,vs,rel,dd⟩
theorem d_setItem {H':Hp}{Q:Unit->Shared->Prop}(hu:A.units+1<cLine)(I:Inv X pins σ H s)(g:DPut H a y v H')(ry:RelV y u)(rv:RelV v r)(h:∀ s',Inv X pins σ H' s'->Q () s') :
  wpAny (model X.prog X.w) A (setItem (.ref a) u r) Q E s:=by
 rcases g with ⟨kvs,k,e,ey,l,eH⟩ | ⟨kvs,k,b,e,ey,eb,l,eH⟩
 ·subst ey eH
  obtain ⟨z,hd,vs,rel,dd⟩:=dk_of I.hok e
  have hz:vs.length<=sizeLine:=by rw [<- rel.length];exact z
  have hl:(Ct kvs k v).length<=sizeLine:=by have:=GH kvs k v;omega
  refine wpAny_setItem_pairs (hsz:=hz) (kV_is ry) dd fun h' dd' hs=>h _ ?_
  have he:∃ q,h'.get? a=some q:=let ⟨q,_,_,hq,_⟩:=dd';⟨q,hq⟩
  exact d_write I (by rw [e];exact True.intro) hs he (dk_new hl hd (rel.put k rv) dd')
 ·subst ey eH
  cases (show u=Value.ref b from ry)
  obtain ⟨z,hd,xs,rel,dd⟩:=dt_of I.hok e
  have hz:xs.length<=sizeLine:=by rw [<- Paired.length rel];exact z
  have hl:(Ct kvs k v).length<=sizeLine:=by have:=GH kvs k v;omega
  refine wpAny_setItem_heap (hsz:=hz) (tupleKind_room_in1 hu) (HV I.hok eb) dd fun h' dd' hs=>h _ ?_
  obtain ⟨q,es,ep,hq,h2,h3,h4,_,h5⟩:=dd'
  refine d_write I (by rw [e];exact True.intro) hs ⟨q,hq⟩ ⟨hl,hd,_,(rel.put k eb rv).keeps fun c ys ec=>?_,q,es,ep,hq,h2,h3,h4,h5⟩
  rw [Aq (ne_of ec e (fun z=>nomatch z))]
  exact ec
end
def NoSl (i:Expr):Prop:=∀ ov iv,subscripted i false ov iv=operate [ov,iv] (getItem ov iv)
theorem subD_of {prog:Program}{w:World}{A:Around}{E:Value->Shared->Prop}{s:Shared}{env:Env}{value slice:Expr}{pos:Pos}{T id:String}{Q:Value->Shared->Prop}
  (hl:typeLookup (.type T) "__getitem__" = pure (some (.builtin id))) (hs:NoSl slice)
  (h:wpAny (model prog w) A (eval value env) (fun o s₁=>wpAny (model prog w) A (eval slice env) (fun i s₂=>s₂.TypeIs o T/\wpAny (model prog w) A (getItem o i) Q E s₂) E s₁) E s) :
  wpAny (model prog w) A (eval (.Subscript value slice pos) env) Q E s:=by
 refine Subscript_ (wpAny_mono h (fun o s₁ h₁=>wpAny_mono h₁ (fun i s₂ h₂=>?_) fun _ _ x=>x) fun _ _ x=>x)
 obtain ⟨hT,h₂⟩:=h₂
 unfold subscriptTail
 refine qbA ?_
 rw [getitemInPython_of_ne hT.not_modules]
 refine qbA (wpAny_specialOf hT hl ?_)
 have fin:wpAny (model prog w) A (subscripted slice false o i) (fun r s₃=>wpAny (model prog w) A (letTemporaryGo value o r >>= fun _=>pure r) Q E s₃) E s₂:=by
  rw [hs o i]
  exact wpAny_operating (wpAny_mono h₂ (fun r s₃ h₃=>qbA (wpAny_letTemporaryGo (qcA h₃))) fun _ _ x=>x)
 first
  | exact qcA (qbA fin)
  | exact qbA (qcA (qbA fin))
  | exact qbA fin
theorem dict_typeIs {X:Cx}{pins:List (Addr × Obj)}{σ:St}{H:Hp}{s:Shared}{a:Addr}{y:V}{o:Option V}(I:Inv X pins σ H s)(g:DGet H a y o):s.TypeIs (.ref a) "dict" := by
 rcases g with ⟨kvs,k,e,_,_⟩ | ⟨kvs,k,b,e,_,_,_⟩
 ·obtain ⟨_,_,vs,_,dd⟩:=dk_rd I.hok e
  exact dd.typeIs
 ·obtain ⟨_,_,xs,_,dd⟩:=dt_rd I.hok e
  exact dd.typeIs
def tDGet (td ty:TE):TE:=fun σ H Q=>td σ H fun x H1=>ty σ H1 fun y H2=>∃ a v,x = .ref a/\DGet H2 a y (some v)/\Q v H2
def tDNotIn (ty td:TE):TE:=fun σ H Q=>ty σ H fun y H1=>td σ H1 fun x H2=>∃ a o,x = .ref a/\DGet H2 a y o/\Q (.bl (!o.isSome)) H2
def sDPut (td ty tv:TE):TS:=fun D σ H=>tv σ H fun v H1=>td σ H1 fun x H2=>ty σ H2 fun y H3=>∃ a H4,x = .ref a/\DPut H3 a y v H4/\D.nx σ H4
section
variable {X:Cx}{o i e value:Expr}{pos pos' tpos:Pos}{td ty tv:TE}
theorem pe_dget (hu:X.A.units+1<cLine)(ho:PE X o td)(hi:PE X i ty)(hs:NoSl i):PE X (.Subscript o i pos) (tDGet td ty):=by
 intro pins s σ H Q I h
 refine subD_of PySem.F.slot_dict_getitem.lookup hs (thn (ho pins s σ H _ I h) fun u s1 ⟨x,H1,I1,rx,q1⟩=>thn (hi pins s1 σ H1 _ I1 q1) fun iv s2 ⟨y,H2,I2,ry,a,v,ex,g,q2⟩=>?_)
 subst ex
 obtain rfl:u=Value.ref a:=rx
 exact ⟨dict_typeIs I2 g,d_getItem hu I2 g ry fun w' s3 I3 rw'=>⟨v,H2,I3,rw',q2⟩⟩
theorem pc_dnotin (hu:X.A.units+1<cLine)(hi:PE X i ty)(ho:PE X o td):PC X .NotIn i o (tDNotIn ty td):=by
 intro pins s σ H Q I h
 refine thn (hi pins s σ H _ I h) fun iv s1 ⟨y,H1,I1,ry,q1⟩=>thn (ho pins s1 σ H1 _ I1 q1) fun u s2 ⟨x,H2,I2,rx,a,ov,ex,g,q2⟩=>?_
 subst ex
 obtain rfl:u=Value.ref a:=rx
 exact d_notIn hu I2 g ry fun s3 I3=>⟨.bl (!ov.isSome),H2,I3,rfl,q2⟩
theorem ps_dput (hu:X.A.units+1<cLine)(ho:PE X o td)(hi:PE X i ty)(hv:PE X value tv)(hs:swapsWith value (some (.Subscript o i pos')) pos.line X.env=pure false) :
  PS X (.Assign [.Subscript o i pos'] value pos) (sDPut td ty tv):=by
 intro pins s σ H D I h
 refine wpAny_Assign_Subscript (thn (hv pins s σ H _ I h) fun r s1 ⟨v,H1,I1,rv,q1⟩=>thn (ho pins s1 σ H1 _ I1 q1) fun u s2 ⟨x,H2,I2,rx,q2⟩=>thn (hi pins s2 σ H2 _ I2 q2) fun iv s3 ⟨y,H3,I3,ry,a,H4,ex,g,q3⟩=>?_) hs
 subst ex
 obtain rfl:u=Value.ref a:=rx
 exact d_setItem hu I3 g ry rv fun s4 I4=>⟨σ,H4,I4,q3⟩
end
theorem dt_empty {P:Program}{w:World}{H:Hp}(h:Heap)(hb:sysModules<h.objs.size):ObjOk P w H (h.push { cls:=.type "dict",data:=.dict #[] }) h.objs.size (.dT []) :=
 ⟨qrC _,beq_eq_false_iff_ne.mpr (Ne.symm (qjC hb)),[],.nil,_,#[],0,qsB _ rfl,⟨rfl,rfl,rfl⟩,rfl,rfl,List.nodup_nil⟩
def tDNewT:TE:=fun _ H Q=>∀ p,H p=none->Q (.ref p) (upd H p (.dT []))
section
variable {X:Cx}{pos:Pos}
theorem pe_dnewT:PE X (.Dict [] [] pos) tDNewT:=fun pins s σ H Q I h =>
 wpAny_Dict_empty ⟨.ref s.heap.objs.size,_,I.laid (a:=s.heap.objs.size) (o:=.dT []) (t':=s.toks) (fun _ _ q=>qrB _ q) (qkB _) (dt_empty s.heap I.big),rfl,h _ (I.hok.fresh (qkB _))⟩
end
structure M2 (X:Cx)(o:Expr)(m:Str)(apos:Pos)(e f:Expr)(cpos:Pos):Prop where
 base:attributeBase o m X.env (eval o X.env)=eval o X.env
 few:((backTo cpos (starEach [e,f] X.env)).all (fun x=>!x.1) && (backToKw cpos (keywordEach [] X.env)).all (fun x=>x.1.isSome)
  && decide (([e,f]:List Expr).length+([]:List Keyword).length+(if ([]:List Keyword).isEmpty then 0 else 1)<30))=true
 line:(apos.endLine == cpos.line)=true
 trees:backTo cpos (starEach [e,f] X.env)=[(false,eval e X.env),(false,eval f X.env)]
def IsD (H:Hp)(a:Addr):Prop:=(∃ kvs,Rd H a (.dK kvs))\/∃ kvs,Rd H a (.dT kvs)
theorem isD_at {X:Cx}{pins:List (Addr × Obj)}{σ:St}{H:Hp}{s:Shared}{a:Addr}(I:Inv X pins σ H s)(d:IsD H a) :
  s.TypeIs (.ref a) "dict" /\ (∀ b,Value.ref a = .ref b->∃ ob,s.heap.get? b=some ob/\ob.dict=none)/\(a == sysModules)=false:=by
 rcases d with ⟨kvs,e⟩ | ⟨kvs,e⟩
 ·obtain ⟨_,hd,vs,_,dd⟩:=dk_rd I.hok e
  refine ⟨dd.typeIs,fun b q=>?_,hd⟩
  cases q
  obtain ⟨ob,_,_,h1,h2,_⟩:=dd
  exact ⟨ob,h1,h2.2.1⟩
 ·obtain ⟨_,hd,xs,_,dd⟩:=dt_rd I.hok e
  refine ⟨dd.typeIs,fun b q=>?_,hd⟩
  cases q
  obtain ⟨ob,_,_,h1,h2,_⟩:=dd
  exact ⟨ob,h1,h2.2.1⟩
section
variable {X:Cx}{pins:List (Addr × Obj)}{σ:St}{H:Hp}{s:Shared}{a:Addr}{y d:V}{u r:Value}{o:Option V}{A:Around}{E:Value->Shared->Prop}
theorem d_get2 {Q:Value->Shared->Prop}(hu:A.units+1<cLine)(I:Inv X pins σ H s)(g:DGet H a y o)(ry:RelV y u)(rd:RelV d r)(h:∀ w' s',Inv X pins σ H s'->RelV (o.getD d) w'->Q w' s') :
  wpAny (model X.prog X.w) A (call (.builtin "dict.get") [.ref a,u,r]) Q E s:=by
 rcases g with ⟨kvs,k,e,ey,l⟩ | ⟨kvs,k,b,e,ey,eb,l⟩
 ·subst ey
  obtain ⟨z,hd,vs,rel,dd⟩:=dk_rd I.hok e
  refine call_meetsIn PySem.F.slot_dict_get dd.typeIs PySem.F.entry_dict_get (PySem.F.args_dict_get_3 _ _ _) (meets_dict_get_default (B6 X.prog X.w) a (kV_is ry) hd r) ⟨_,dd.mapOf,h _ _ (I.tok _) ?_⟩
  rw [l]
  exact (rel.val k).getD rd
 ·subst ey
  cases (show u=Value.ref b from ry)
  obtain ⟨z,hd,xs,rel,dd⟩:=dt_rd I.hok e
  refine call_meetsIn PySem.F.slot_dict_get dd.typeIs PySem.F.entry_dict_get (PySem.F.args_dict_get_3 _ _ _) (meetsH_dict_get_default (tupleKind (B6 X.prog X.w)) a b hd r) ⟨tupleKind_room_in1 hu,k,xs,HV I.hok eb,dd,h _ _ (I.tok _) ?_⟩
  rw [l]
  exact (rel.val k).getD rd
end
def tDGet2 (td ty tx:TE):TE:=fun σ H Q=>td σ H fun x H1=>∃ a,x = .ref a/\IsD H1 a/\ty σ H1 fun y H2=>tx σ H2 fun z H3=>∃ o,DGet H3 a y o/\Q (o.getD z) H3
section
variable {X:Cx}{o e f:Expr}{apos cpos:Pos}{td ty tx:TE}
theorem pe_dget2 (hu:X.A.units+1<cLine)(ho:PE X o td)(he:PE X e ty)(hf:PE X f tx)(m:M2 X o "get" apos e f cpos):PE X (.Call (.Attribute o "get" apos) [e,f] [] cpos) (tDGet2 td ty tx):=by
 intro pins s σ H Q I h
 refine wpAny_Call_method m.base m.few m.line PySem.F.plainAttrs_dict PySem.F.slot_dict_get PySem.F.type_dict_get (thn (ho pins s σ H _ I h) fun u s1 ⟨x,H1,I1,rx,a,ex,d,q1⟩=>?_)
 subst ex
 obtain rfl:u=Value.ref a:=rx
 obtain ⟨t1,t2,_⟩:=isD_at I1 d
 refine ⟨t1,t2,?_⟩
 rw [m.trees]
 refine Calls.callWith_builtin rfl (Calls.evalArgs_plain (Calls.spliced_cons (thn (he pins s1 σ H1 _ I1 q1) fun iv s2 ⟨y,H2,I2,ry,q2⟩ =>
  Calls.spliced_cons (thn (hf pins s2 σ H2 _ I2 q2) fun fv s3 ⟨z,H3,I3,rz,ov,g,q3⟩=>Calls.spliced_nil ?_))))
 exact d_get2 hu I3 g ry rz fun w' s4 I4 rw'=>⟨_,H3,I4,rw',q3⟩
end
theorem len_app (x y:Str):(x++y).length=x.length+y.length:=by
 show (x.cps++y.cps).size=_
 rw [Array.size_append]
 rfl
theorem cps_app (x y:Str):(x++y).cps.toList=x.cps.toList++y.cps.toList:=by
 show (x.cps++y.cps).toList=_
 rw [Array.toList_append]
theorem str_ext {x y:Str}(h:x.cps.toList=y.cps.toList):x=y:=by
 cases x;cases y
 simp only [Str.mk.injEq]
 exact Array.ext' h
theorem empty_cps:("" : Str).cps = #[]:=by decide +kernel
theorem glue_nil:∀ (ps:List Str) (acc:Array Nat),(ps.foldl (fun acc p=>acc++("" : Str).cps++p.cps) acc).toList=acc.toList++(ps.map (·.cps.toList)).flatten
 | [],acc=>by simp
 | p::ps,acc=>by
  rw [qqC,glue_nil ps]
  simp [empty_cps]
theorem join_cps (ys:List Str):(Txt.join "" ys).cps.toList=(ys.map (·.cps.toList)).flatten:=by
 show ((ys.drop 1).foldl (fun acc p=>acc++("" : Str).cps++p.cps) (ys.headD Str.empty).cps).toList=_
 rw [glue_nil]
 cases ys with
 | nil=>rfl
 | cons a r=>simp
theorem flat_ones:∀ (cs:List Nat),((cs.map fun c=>(⟨#[c]⟩:Str)).map (·.cps.toList)).flatten=cs
 | []=>rfl
 | c::cs=>by
  have:=flat_ones cs
  simp only [qcB,List.flatten_cons]
  rw [this]
  rfl
theorem join_ones' (cs:List Nat):(Txt.join "" (cs.map fun c=>(⟨#[c]⟩:Str))).cps.toList=cs:=by
 rw [join_cps,flat_ones]
theorem sum_ones:∀ (cs:List Nat),((cs.map fun c=>(⟨#[c]⟩:Str)).map (·.length)).sum=cs.length
 | []=>rfl
 | c::cs=>by
  have:=sum_ones cs
  simp only [qcB,List.sum_cons,this,qhA]
  show 1+cs.length=_
  omega
theorem sing_lt (a b:Nat):([a] < [b]) ↔ a<b:=by
 rw [List.cons_lt_cons_iff]
 simp
def Hb (scope:Scope)(env:Env):List (Str × Addr) :=
 (scope.names.filterMap fun p=>if p.2 == NameKind.free then (env.cells.lookup p.1).map fun c=>(p.1,c) else none).reverse
theorem Fg {env:Env}:∀ (names:List (Str × NameKind)) (acc:List (Str × Addr)),(∀ y∈names,y.2 = .free->∃ c,env.cells.lookup y.1=some c) ->
  (forIn names acc fun (x:Str × NameKind) (cs:List (Str × Addr))=>(match x with
   | (name,kind)=>if (kind == NameKind.free)=true then do
     let c <- cellOf env name
     pure (ForInStep.yield ((name,c)::cs))
    else pure (ForInStep.yield cs):Sem (ForInStep (List (Str × Addr))))) =
   pure ((names.filterMap fun p=>if p.2 == NameKind.free then (env.cells.lookup p.1).map fun c=>(p.1,c) else none).reverse++acc)
 | [],acc,_=>rfl
 | (n,k)::r,acc,h=>by
  rw [List.forIn_cons]
  by_cases hk:k = .free
  ·subst hk
   obtain ⟨c,hc⟩:=h (n,.free) qrA rfl
   have e1:cellOf env n=pure c:=by unfold cellOf;rw [hc]
   have ih:=Fg r ((n,c)::acc) fun y hy=>h y (qsA _ hy)
   simp only [beq_self_eq_true,if_true,e1,pure_bind,List.filterMap_cons,hc,Option.map_some,List.reverse_cons,qeB,List.singleton_append]
   exact ih
  ·have hb:(k == NameKind.free)=false:=by simpa using hk
   have ih:=Fg r acc fun y hy=>h y (qsA _ hy)
   simp only [hb,Bool.false_eq_true,if_false,pure_bind,List.filterMap_cons]
   exact ih
theorem closureFor_eq {scope:Scope}{env:Env}(h:∀ y∈scope.names,y.2 = .free->∃ c,env.cells.lookup y.1=some c):closureFor scope env=pure (Hb scope env):=by
 have e:=Fg (env:=env) scope.names [] h
 unfold closureFor
 rw [qfB] at e
 exact (congrArg (· >>= pure) e).trans (by rfl)
theorem clOf_mem {scope:Scope}{env:Env}{y:Str}{c:Addr}(h:(y,c)∈Hb scope env):(y,NameKind.free)∈scope.names/\env.cells.lookup y=some c:=by
 unfold Hb at h
 obtain ⟨⟨n,k⟩,hp,e⟩:=List.mem_filterMap.mp (List.mem_reverse.mp h)
 by_cases hk:k = .free
 ·subst hk
  simp only [beq_self_eq_true,if_true] at e
  cases hc:env.cells.lookup n with
  | none=>rw [hc] at e;cases e
  | some c' =>
   rw [hc] at e
   have e':(n,c')=(y,c):=qpB e
   cases e'
   exact ⟨hp,hc⟩
 ·have hb:(k == NameKind.free)=false:=by simpa using hk
  simp only [hb,Bool.false_eq_true,if_false] at e
  cases e
theorem FT {scope:Scope}{env:Env}{y:Str}{c:Addr}(h:(Hb scope env).lookup y=some c):env.cells.lookup y=some c:=(clOf_mem (PySem.mem_of_lookup h)).2
theorem lookup_of_mem {α:Type}{y:Str}:∀ {l:List (Str × α)}{c:α},(y,c)∈l->∃ c',l.lookup y=some c'
 | (n,a)::r,c,h=>by
  by_cases e:y=n
  ·subst e;exact ⟨a,by simp [List.lookup_cons]⟩
  ·have hb:(y == n)=false:=by simpa using e
   rcases qnA.mp h with h|h
   ·cases h;exact absurd rfl e
   ·obtain ⟨c',h'⟩:=lookup_of_mem h
    exact ⟨c',by simp [List.lookup_cons,hb,h']⟩
theorem clOf_has {scope:Scope}{env:Env}{y:Str}{c:Addr}(h1:(y,NameKind.free)∈scope.names)(h2:env.cells.lookup y=some c):(Hb scope env).lookup y=some c:=by
 have m:(y,c)∈Hb scope env:=by
  unfold Hb
  exact List.mem_reverse.mpr (List.mem_filterMap.mpr ⟨(y,.free),h1,by simp [h2]⟩)
 obtain ⟨c',h'⟩:=lookup_of_mem m
 have:=FT h'
 rw [h2] at this
 cases this
 exact h'
theorem relabel_free {scope:Scope}{env:Env}(hcell:∀ y∈scope.names,y.2 ≠ .cell){y:Str}(h:(relabel scope env).names.lookup y=some .cell\/(relabel scope env).names.lookup y=some .free):(y,NameKind.free)∈scope.names:=by
 have m:∃ k,(k = .cell\/k = .free)/\(y,k)∈(relabel scope env).names:=by
  rcases h with h|h
  ·exact ⟨_,.inl rfl,PySem.mem_of_lookup h⟩
  ·exact ⟨_,.inr rfl,PySem.mem_of_lookup h⟩
 obtain ⟨k,hk,hm⟩:=m
 unfold relabel at hm
 obtain ⟨⟨n,k'⟩,hp,e⟩:=qoA.mp hm
 dsimp only at e
 by_cases hf:k' = .free
 ·subst hf
  split at e<;>(cases e;exact hp)
 ·have hb:(k' == NameKind.free)=false:=by simpa using hf
  rw [hb,Bool.false_and,Bool.false_and,if_neg (by decide)] at e
  cases e
  rcases hk with hk|hk
  ·exact absurd hk (hcell _ hp)
  ·exact absurd hk hf
def Bd (X:Cx)(N:List Str)(scope:Scope)(C:Addr)(s:Shared)(H:Hp)(fp:List Addr):Cx where
 prog:=X.prog
 w:=X.w
 K:=X.K
 mg:=X.mg
 base:=X.base
 A:=X.A
 N:=N
 s₀:=s
 H₀:=H
 env:=compEnvC scope (Hb scope X.env) C X.env
 outer:=X.stack
 stack:=X.stack
 ex:=fp
 fn:=fun _=>false
 calm:=true
 pn:=[]
 xe:=fun _ _=>False
def Caps (X:Cx)(scope:Scope):List Str->List Nat->Prop
 | [],[]=>True
 | x::xs,i::is=>(X.N[i]? = some x/\(X.env.scope.names.lookup x=some .cell\/X.env.scope.names.lookup x=some .free)/\scope.names.lookup x=some .free)/\Caps X scope xs is
 | _,_=>False
theorem Caps.len {X:Cx}{scope:Scope}:∀ {xs:List Str}{is:List Nat},Caps X scope xs is->is.length=xs.length
 | [],[],_=>rfl
 | _::_,_::_,h=>congrArg (· + 1) (Caps.len h.2)
 | [],_::_,h=>h.elim
 | _::_,[],h=>h.elim
theorem Caps.at {X:Cx}{scope:Scope}:∀ {xs:List Str}{is:List Nat}{j:Nat}{x:Str},Caps X scope xs is->xs[j]? = some x->∃ i,is[j]? = some i/\X.N[i]? = some x/\(X.env.scope.names.lookup x=some .cell\/X.env.scope.names.lookup x=some .free)/\scope.names.lookup x=some .free
 | [],[],_,_,_,e=>by simp at e
 | y::_,i::_,0,x,h,e=>by
  simp at e;subst e
  exact ⟨i,rfl,h.1⟩
 | _::xs,_::is,j+1,x,h,e=>by
  obtain ⟨i,h1,h2⟩:=Caps.at (j:=j) h.2 (by simpa using e)
  exact ⟨i,by simpa using h1,h2⟩
 | [],_::_,_,_,h,_=>h.elim
 | _::_,[],_,_,h,_=>h.elim
def inner (cap:List Nat)(σ:St):St:=none::cap.map fun i=>(σ[i]?).join
def PTs (X:Cx)(ifs:List Expr)(t:TT):Prop :=
 ∀ (pins:List (Addr × Obj)) (s:Shared) (σ:St) (H:Hp) (Q:Bool->Hp->Prop),Inv X pins σ H s->t σ H Q ->
  wpAny (model X.prog X.w) X.A (forIn ifs true fun c r=>if r=true then do let ok <- isTrue c X.env (eval c X.env);pure (ForInStep.yield ok) else pure (ForInStep.yield r)) (TP X pins σ Q) X.xe s
def Hm:TT:=fun _ H Q=>Q true H
theorem EF {X:Cx}:PTs X [] Hm:=fun _ _ _ H _ I h=>wpAny_tests_nil ⟨H,I,h⟩
theorem Fi {X:Cx}{c:Expr}{t:TT}(h:PT X c t):PTs X [c] t:=fun pins s σ H Q I q=>wpAny_tests_one (h pins s σ H Q I q)
theorem compLoop_any {prog:Program}{w:World}{A:Around}{R:Result->Shared->Prop}{s:Shared}{elt target iter:Expr}{ifs:List Expr}{scope:Scope}{pos:Pos}{it acc:Value}{env:Env}(I:Nat->Shared->Prop)
  (turn:∀ n s,I n s->wpAny (model prog w) A (pyNext it) (fun r s₁=>match r with
   | none=>R (.ok .next) s₁
   | some v=>wpAny (model prog w) A (letOwnedTupleGo target it v) (fun _ s₁'=>wpAny (model prog w) A (assign target env v) (fun _ s₂ =>
     wpAny (model prog w) A (forIn ifs true fun c r=>if r=true then do let ok <- isTrue c env (eval c env);pure (ForInStep.yield ok) else pure (ForInStep.yield r)) (fun ok s₃ =>
      if ok=true then wpAny (model prog w) A (eval elt env) (fun x s₄ =>
       wpAny (model prog w) A (call (.builtin "list.append") [acc,x]) (fun _ s₅=>∃ m,m<n/\I m s₅) (fun _ _=>False) s₄) (fun _ _=>False) s₃
      else ∃ m,m<n/\I m s₃) (fun _ _=>False) s₂) (fun _ _=>False) s₁') (fun _ _=>False) s₁) (fun _ _=>False) s)
  (n:Nat) (h:I n s) :
  codeAny (model prog w) A (.compLoop (.ListComp elt [⟨target,iter,ifs,0⟩] scope pos) 0 it acc env) R s:=by
 refine codeAny_loop rfl I (fun n s hI=>?_) n h
 show wpAny _ A ((compTurn (.ListComp elt [⟨target,iter,ifs,0⟩] scope pos) 0 it acc env).onRaise (fun x=>do noteFrame x env;theTreesLotGoes x)) _ _ s
 refine wpAny_noted ?_
 rw [compTurn_list]
 refine qbA (wpAny_standAt (qbA (wpAny_mono (turn n s hI) (fun r s₁ h₁=>?_) fun _ _ h'=>h'.elim)))
 cases r with
 | none=>exact qcA h₁
 | some v =>
  refine qbA (wpAny_mono h₁ (fun _ s₁' h₁'=>?_) fun _ _ h'=>h'.elim)
  refine qbA (wpAny_mono h₁' (fun _ s₂ h₂=>qbA (wpAny_mono h₂ (fun ok s₃ h₃=>?_) fun _ _ h'=>h'.elim)) fun _ _ h'=>h'.elim)
  cases ok with
  | false=>exact qcA ⟨rfl,h₃⟩
  | true =>
   exact qbA (qbA (wpAny_mono h₃ (fun x s₄ h₄=>qbA (wpAny_mono h₄ (fun _ s₅ h₅=>qcA (qcA ⟨rfl,h₅⟩)) fun _ _ h'=>h'.elim)) fun _ _ h'=>h'.elim))
def tComp (cap:List Nat)(wi:TI)(tc:TT)(te:TE):TE:=fun σ H Q=>wi σ H fun J H1=>∀ p,H1 p=none ->
 ∃ W:Nat->Nat->List V->Hp->Prop,(∃ m,W 0 m [] (upd H1 p (.lst [])))/\∀ i m xs H2,W i m xs H2 ->
  (J.stop i H2/\Q (.ref p) H2)\/(J.go i H2/\∃ N:List V->Hp->Prop,(∀ xs' H',N xs' H'->∃ m',m'<m/\W (i+1) m' xs' H') /\
   ∀ x H3,J.yld i H2 x H3->tc ((inner cap σ).set 0 (some x)) H3 fun b H5=>if b=true then te ((inner cap σ).set 0 (some x)) H5 fun v H6=>H6 p=some (.lst xs)/\xs.length<sizeLine/\N (xs++[v]) (upd H6 p (.lst (xs++[v]))) else N xs H5)
section
variable {X:Cx}{pins:List (Addr × Obj)}{σ:St}
structure CompScope (X:Cx)(scope:Scope):Prop where
 cell:∀ y∈scope.names,y.2 ≠ .cell
 kind:scope.kind = .function
 names:∀ y∈scope.names,y.2 = .local -> scope.names.lookup y.1=some .local
 free:∀ y∈scope.names,y.2 = .free->X.env.scope.names.lookup y.1=some .cell\/X.env.scope.names.lookup y.1=some .free
theorem CompScope.clos {scope:Scope}{H:Hp}{s:Shared}(S:CompScope X scope)(I:Inv X pins σ H s):closureFor scope X.env=pure (Hb scope X.env) :=
 closureFor_eq fun y hy hf=>I.ok.has y.1 (S.free y hy hf)
theorem comp_out {scope:Scope}{N:List Str}{C:Addr}{s3 s':Shared}{H2 H3 Hf:Hp}{fp:List Addr}{pins':List (Addr × Obj)}{σ':St}(I:Inv X pins σ H3 s3)(J:Inv (Bd X N scope C s3 H3 fp) pins' σ' Hf s')(f2:∀ b∈fp,HF X pins H2 b):Inv X pins σ Hf s' :=
 I.call' (ch:=fp) J.os J.base J.hok J.bare fun b hb=>⟨(f2 b hb).2.2.2.1,(f2 b hb).2.1,(f2 b hb).2.2.2.2.1,(f2 b hb).2.2.2.2.2⟩
end
def DK (n:Nat)(cap:List Nat)(σ:St):St:=List.replicate n none++cap.map fun i=>(σ[i]?).join
def GAt (n:Nat)(g:TG):Prop:=∀ v σ H Q,g v σ H Q->g v σ H fun σ2 H2=>(σ2.length=σ.length/\∀ j,n<=j->σ2[j]? = σ[j]?)/\Q σ2 H2
def tCompN (g:TG)(n:Nat)(cap:List Nat)(wi:TI)(tc:TT)(te:TE):TE:=fun σ H Q=>wi σ H fun J H1=>∀ p,H1 p=none ->
 ∃ W:Nat->Nat->List V->Hp->Prop,(∃ m,W 0 m [] (upd H1 p (.lst [])))/\∀ i m xs H2,W i m xs H2 ->
  (J.stop i H2/\Q (.ref p) H2)\/(J.go i H2/\∃ N:List V->Hp->Prop,(∀ xs' H',N xs' H'->∃ m',m'<m/\W (i+1) m' xs' H') /\
   ∀ x H3,J.yld i H2 x H3->g x (DK n cap σ) H3 fun σ2 H4=>tc σ2 H4 fun b H5=>if b=true then te σ2 H5 fun v H6=>H6 p=some (.lst xs)/\xs.length<sizeLine/\N (xs++[v]) (upd H6 p (.lst (xs++[v]))) else N xs H5)
section
variable {X:Cx}{pins:List (Addr × Obj)}{σ:St}
theorem comp_startN {scope:Scope}{xn:List Str}{cn:List Str}{cap:List Nat}{s3:Shared}{H3:Hp}{fp:List Addr}{h₁:Heap}{tk:Nat}{H2:Hp}(S:CompScope X scope)(I:Inv X pins σ H3 s3)(hc:X.calm=true)(hcap:Caps X scope cn cap)
  (f2:∀ b∈fp,HF X pins H2 b) (lt:∀ b∈fp,b<s3.heap.objs.size) (keep:∀ b o,s3.heap.get? b=some o->h₁.get? b=some o) (hns:h₁.Ns s3.heap.objs.size fun _=>none) :
  Inv (Bd X (xn++cn) scope s3.heap.objs.size s3 H3 fp) [] (DK xn.length cap σ) H3 { s3 with heap:=h₁,toks:=tk }:=by
 have noS:∀ b o,X.base.get? b=some o->b<X.s₀.heap.objs.size:=fun b o e=>qmC (qqB e) I.ok.bsz
 refine ⟨⟨I.ok.mod,S.kind,I.ok.glob,I.ok.blt,qkB _,fun y z c h1 h2=>I.ok.inj y z c (FT h1) (FT h2),fun y hy=>?_,fun y c h=>?_,fun _=>I.ok.hd hc,I.ok.frames,.inl rfl,fun b hb=>⟨qjC (lt b hb),fun y c h=>(f2 b hb).2.2.2.2.1 y c (FT h)⟩,
  I.bs,qmB I.ok.bsz I.sz,fun b o e hb=>?_,fun b hb z=>?_,I.stack,I.stkFree⟩,rfl,I.bare,Un.kept keep,⟨_,hns,fun i y v e1 e2 e3=>?_⟩,fun y c e=>?_,I.hok.fresh (qkB _),fun y c e=>I.freeC y c (FT e),fun p hp=>absurd (show p∈([]:List (Addr × Obj)) from hp) (by simp),I.hok.kept keep,?_⟩
 ·have m:=relabel_free S.cell hy
  obtain ⟨c,hc'⟩:=I.ok.has y (S.free _ m rfl)
  exact ⟨c,clOf_has m hc'⟩
 ·cases h
 ·rcases (f2 b hb).2.2.2.1 with z|z
  ·exact I.ok.noex b o e z
  ·exact absurd (qmC (noS b o e) z) (qnB _)
 ·rcases qnA.mp (I.stkSub b z) with e|e
  ·exact (f2 b hb).2.1 e
  ·exact (f2 b hb).2.2.1 e
 ·by_cases hi:i<xn.length
  ·exfalso
   unfold DK at e2
   rw [qxA (by rw [List.length_replicate];exact hi),List.getElem?_replicate,if_pos hi] at e2
   cases e2
  ·obtain ⟨j,rfl⟩:∃ j,i=xn.length+j:=⟨i - xn.length,by omega⟩
   have e1:(xn++cn)[xn.length+j]? = some y:=e1
   rw [qyA (by omega),Nat.add_sub_cancel_left] at e1
   have e2:(DK xn.length cap σ)[xn.length+j]? = some (some v):=e2
   unfold DK at e2
   rw [qyA (by rw [List.length_replicate];omega),List.length_replicate,Nat.add_sub_cancel_left] at e2
   have e1:cn[j]? = some y:=e1
   obtain ⟨k,hk,hN,hkind,hfr⟩:=hcap.at e1
   have e2:(cap.map fun i=>(σ[i]?).join)[j]? = some (some v):=e2
   rw [qaB,hk] at e2
   have e2:(σ[k]?).join=some v:=qpB e2
   have e2:σ[k]? = some (some v):=by
    cases q:σ[k]? with
    | none=>rw [q] at e2;cases e2
    | some o=>rw [q] at e2;cases o with
     | none=>cases e2
     | some v'=>have e2:some v'=some v:=e2;rw [e2]
   obtain ⟨m,hn,hl⟩:=I.loc
   obtain ⟨u,r,l⟩:=hl k y v hN e2 (.inr hkind)
   refine ⟨u,r,?_⟩
   rcases l with ⟨kl,_⟩ | ⟨_,c,hc',o,ho,hd⟩
   ·have kl:X.env.scope.names.lookup y=some .local := kl
    rw [kl] at hkind
    rcases hkind with z|z<;>cases z
   ·refine .inr ⟨?_,c,clOf_has (PySem.mem_of_lookup hfr) hc',o,keep c o ho,hd⟩
    rcases e3 with z|z
    ·
     exfalso
     have z:(relabel scope X.env).names.lookup y=some .local := z
     have hm:=PySem.mem_of_lookup z
     unfold relabel at hm
     obtain ⟨⟨n,k'⟩,hp,e⟩:=qoA.mp hm
     dsimp only at e
     have hl2:(y,NameKind.local)∈scope.names:=by
      split at e
      ·cases e
      ·cases e;exact hp
     have:=S.names _ hl2 rfl
     rw [hfr] at this
     cases this
    ·exact z
 ·obtain ⟨v,o,ho,hd⟩:=I.cell y c (FT e)
  exact ⟨v,o,keep c o ho,hd⟩
 ·show (DK xn.length cap σ).length=(xn++cn).length
  unfold DK
  rw [qgA,qgA,List.length_replicate,qfA,hcap.len]
theorem comp_coreN {scope:Scope}{xn:List Str}{pos:Pos}{tg:Expr}{g:TG}{elt iter:Expr}{ifs:List Expr}{cn:List Str}{cap:List Nat}{s2:Shared}{H2:Hp}{it:Addr}{fp:List Addr}{tn:Nat->Heap->Prop}{J:It}{tc:TT}{te:TE}{Q:VK}{RR:Value->Addr->Result->Shared->Prop}{E:Value->Shared->Prop}
  (S:CompScope X scope) (I2:Inv X pins σ H2 s2) (hc:X.calm=true) (hcap:Caps X scope cn cap) (gat:GAt xn.length g) (hg:∀ (C:Addr) (s:Shared) (H:Hp) (fp:List Addr),PG (Bd X (xn++cn) scope C s H fp) tg g) (hnd:(xn++cn).Nodup)
  (T:Turn X.prog X.w X.K tg J fp it tn) (st2:tn 0 s2.heap) (f2:∀ b∈fp,HF X pins H2 b)
  (body:∀ (C:Addr) (s:Shared) (H:Hp) (fp:List Addr),PTs (Bd X (xn++cn) scope C s H fp) ifs tc/\PE (Bd X (xn++cn) scope C s H fp) elt te)
  (q:∀ p,H2 p=none->∃ W:Nat->Nat->List V->Hp->Prop,(∃ m,W 0 m [] (upd H2 p (.lst [])))/\∀ i m xs H3,W i m xs H3 ->
   (J.stop i H3/\Q (.ref p) H3)\/(J.go i H3/\∃ N:List V->Hp->Prop,(∀ xs' H',N xs' H'->∃ m',m'<m/\W (i+1) m' xs' H') /\
    ∀ v H4,J.yld i H3 v H4->g v (DK xn.length cap σ) H4 fun σ2 H4=>tc σ2 H4 fun b H5=>if b=true then te σ2 H5 fun v H6=>H6 p=some (.lst xs)/\xs.length<sizeLine/\N (xs++[v]) (upd H6 p (.lst (xs++[v]))) else N xs H5))
  (hRR:∀ (p C:Addr) (s3 s':Shared) (H3 Hf:Hp) (σ':St),Inv X pins σ H3 s3->s3.heap.objs.size=C->Inv (Bd X (xn++cn) scope C s3 H3 fp) [] σ' Hf s'->Q (.ref p) Hf->RR (.ref p) C (.ok .next) s') :
  wpAny (model X.prog X.w) X.A (newList []) (fun acc s₃=>wpAny (model X.prog X.w) X.A (newFunctionEnv scope X.env.globals (Hb scope X.env) [] X.env.qual none .none (some X.env)) (fun cenv s₄ =>
   codeAny (model X.prog X.w) X.A (.compStart (.ListComp elt [⟨tg,iter,ifs,0⟩] scope pos) 0 (.ref it) acc { cenv with scope:=relabel scope X.env }) (RR acc cenv.locals) s₄) E s₃) E s2:=by
 refine wpAny_newObj_type (wpAny_newFunctionEnv S.cell (by intro y hy;simp at hy) (fun h₁ hns₁ hsb₁=>?_) S.kind)
 dsimp only at hns₁ hsb₁ ⊢
 have hfr:H2 s2.heap.objs.size=none:=I2.hok.fresh (qkB _)
 obtain ⟨W,⟨m0,w0⟩,turn⟩:=q _ hfr
 have I3:Inv X pins σ (upd H2 s2.heap.objs.size (.lst [])) { s2 with heap:=s2.heap.push { cls:=.type "list",data:=.seq ([]:List Value).toArray } } :=
  I2.lnew (its:=[]) (t':=s2.toks) .nil (qrC _)
 generalize hs3:({ s2 with heap:=s2.heap.push { cls:=.type "list",data:=.seq ([]:List Value).toArray } }:Shared)=s3 at I3
 have hs3h:s3.heap=s2.heap.push { cls:=.type "list",data:=.seq ([]:List Value).toArray }:=by rw [<- hs3]
 have hst3:tn 0 s3.heap:=T.keep _ _ _ st2 fun b hb o e=>by rw [hs3h];exact qrB _ e
 have ltf:∀ b∈fp,b<s3.heap.objs.size:=fun b hb=>by
  obtain ⟨o,e,_⟩:=T.obj _ _ hst3 b hb
  exact qqB e
 have hC:(s2.heap.push { cls:=.type "list",dict:=none,data:=.seq ([]:List Value).toArray }).objs.size=s3.heap.objs.size:=by rw [hs3h]
 rw [hC] at hns₁ hsb₁ ⊢
 have keep:∀ b o,s3.heap.get? b=some o->h₁.get? b=some o:=fun b o e=>by
  refine hsb₁.extBut b o (qjC (qqB e)) (qrB _ ?_)
  rw [hs3h] at e
  exact e
 have J4:Inv (Bd X (xn++cn) scope s3.heap.objs.size s3 (upd H2 s2.heap.objs.size (.lst [])) fp) [] (DK xn.length cap σ) (upd H2 s2.heap.objs.size (.lst [])) { s3 with heap:=h₁,toks:=s2.toks+([]:List (Str × Value)).length } :=
  comp_startN S I3 hc hcap f2 ltf keep hns₁
 have st4:tn 0 h₁:=T.keep _ _ _ hst3 fun b hb o e=>keep b o e
 have fr4:∀ b∈fp,(upd H2 s2.heap.objs.size (.lst [])) b=none:=fun b hb=>by
  obtain ⟨o,e,_⟩:=T.obj _ _ st2 b hb
  rw [Aq (qjC (qqB e))]
  exact (f2 b hb).1
 have hst:({ s2 with heap:=h₁,toks:=s2.toks+([]:List (Str × Value)).length }:Shared) = { s3 with heap:=h₁,toks:=s2.toks+([]:List (Str × Value)).length }:=by rw [<- hs3]
 have loop:codeAny (model X.prog X.w) X.A (.compLoop (.ListComp elt [⟨tg,iter,ifs,0⟩] scope pos) 0 (.ref it) (.ref s2.heap.objs.size) (compEnvC scope (Hb scope X.env) s3.heap.objs.size X.env))
   (RR (.ref s2.heap.objs.size) s3.heap.objs.size) { s2 with heap:=h₁,toks:=s2.toks+([]:List (Str × Value)).length }:=by
  rw [hst]
  generalize hX':Bd X (xn++cn) scope s3.heap.objs.size s3 (upd H2 s2.heap.objs.size (.lst [])) fp=X' at J4
  have hfpk:∀ {Hc:Hp},(∀ b∈fp,Hc b=none)->∀ b∈fp,HF X' [] Hc b:=fun {Hc} hn b hb=>by
   subst hX'
   refine ⟨hn b hb,(J4.ok.exf b hb).1,J4.ok.exfs b hb,.inl hb,(J4.ok.exf b hb).2,fun p hp=>absurd (show p∈([]:List (Addr × Obj)) from hp) (by simp)⟩
  refine compLoop_any (fun n s'=>∃ i xs Hc,Inv X' [] (DK xn.length cap σ) Hc s'/\tn i s'.heap/\(∀ b∈fp,Hc b=none)/\W i n xs Hc) ?_ m0 ⟨0,[],_,J4,st4,fr4,w0⟩
  rintro n s5 ⟨i,xs,Hc,I5,st5,fr5,w5⟩
  have B:=body s3.heap.objs.size s3 (upd H2 s2.heap.objs.size (.lst [])) fp
  rcases turn i n xs Hc w5 with ⟨stop,qn⟩ | ⟨go,N,hN,step⟩
  ·subst hX'
   refine thn (T.done (Bd X (xn++cn) scope s3.heap.objs.size s3 (upd H2 s2.heap.objs.size (.lst [])) fp) rfl rfl rfl rfl i [] s5 (DK xn.length cap σ) Hc (fun _ _=>False) I5 (hfpk fr5) st5 stop) fun r s6 ⟨hr,I6⟩=>?_
   subst hr
   exact hRR _ _ s3 s6 _ Hc _ I3 rfl I6 qn
  ·subst hX'
   refine thn (T.item (Bd X (xn++cn) scope s3.heap.objs.size s3 (upd H2 s2.heap.objs.size (.lst [])) fp) rfl rfl rfl rfl i [] s5 (DK xn.length cap σ) Hc (fun _ _=>False) I5 (hfpk fr5) st5 go) fun r s6 ⟨u,hr,h6⟩=>?_
   subst hr
   refine thn h6 fun _ s7 ⟨v,H7,I7,r7,y7,st7,fr7⟩=>?_
   have I7':=I7.pinned (hfpk fr7) (T.obj _ _ st7)
   have hg:=hg s3.heap.objs.size s3 (upd H2 s2.heap.objs.size (.lst [])) fp
   refine thn (hg _ s7 _ H7 v u _ I7' r7 (gat v (DK xn.length cap σ) H7 _ (step v H7 y7))) fun _ s8 ⟨σ8,H8,I8,e8,q8⟩=>?_
   have again:∀ {s9:Shared}{H9:Hp}{ys:List V},Inv (Bd X (xn++cn) scope s3.heap.objs.size s3 (upd H2 s2.heap.objs.size (.lst [])) fp) ([]++pinsAt fp s7.heap) σ8 H9 s9->N ys H9 ->
     ∃ m,m<n/\∃ i xs Hc,Inv (Bd X (xn++cn) scope s3.heap.objs.size s3 (upd H2 s2.heap.objs.size (.lst [])) fp) [] (DK xn.length cap σ) Hc s9/\tn i s9.heap/\(∀ b∈fp,Hc b=none)/\W i m xs Hc:=fun {s9 H9 ys} I9 n9=>by
    obtain ⟨m',hm,w9⟩:=hN ys H9 n9
    refine ⟨m',hm,i+1,ys,H9,(I9.unpinned (pins:=[])).weak e8.1.symm (fun j w e=>?_),T.keep _ _ _ st7 fun b hb o e=>(I9.pin (b,o) (qnC _ (qnC _ (Fv hb e)))).1,fun b hb=>?_,w9⟩
    ·by_cases hj:j<xn.length
     ·exfalso
      unfold DK at e
      rw [qxA (by rw [List.length_replicate];exact hj),List.getElem?_replicate,if_pos hj] at e
      cases e
     ·rw [e8.2 j (by omega)]
      exact e
    ·obtain ⟨o,e,_⟩:=T.obj _ _ st7 b hb
     exact (I9.pin (b,o) (qnC _ (qnC _ (Fv hb e)))).2.1
   refine thn (B.1 _ s8 _ H8 _ I8 q8) fun ok s9 ⟨H9,I9,q9⟩=>?_
   cases ok with
   | false =>
    rw [if_neg qzB] at q9 ⊢
    exact again I9 q9
   | true =>
    rw [if_pos rfl] at q9 ⊢
    refine thn (B.2 _ s9 _ H9 _ I9 q9) fun uy s10 ⟨y,H10,I10,r10,hp,hl,n10⟩=>?_
    refine thn (Cy _ s10 _ H10 (.ref s2.heap.objs.size) [y] (.ref s2.heap.objs.size) [uy] (fun _ H11=>N (xs++[y]) H11) I10 rfl (.cons r10 .nil) ⟨_,xs,y,rfl,rfl,hp,hl,n10⟩) fun _ s11 ⟨_,H11,I11,_,n11⟩=>?_
    exact again I11 n11
 exact codeAny_compStart_list loop (T.self _ _ _ _ _ st4 loop)
theorem pe_compN {scope:Scope}{xn:List Str}{pos:Pos}{tg:Expr}{g:TG}{elt iter:Expr}{ifs:List Expr}{cn:List Str}{cap:List Nat}{wi:TI}{tc:TT}{te:TE}
  (hc:X.calm=true) (S:CompScope X scope) (gat:GAt xn.length g) (hg:∀ (C:Addr) (s:Shared) (H:Hp) (fp:List Addr),PG (Bd X (xn++cn) scope C s H fp) tg g) (hnd:(xn++cn).Nodup) (hcap:Caps X scope cn cap) (hi:PI X tg iter wi)
  (body:∀ (C:Addr) (s:Shared) (H:Hp) (fp:List Addr),PTs (Bd X (xn++cn) scope C s H fp) ifs tc/\PE (Bd X (xn++cn) scope C s H fp) elt te)
  (hs:∀ x,foldedSetIterable iter X.env x=pure x:=by intro _;rfl):PE X (.ListComp elt [⟨tg,iter,ifs,0⟩] scope pos) (tCompN g xn.length cap wi tc te):=by
 intro pins s σ H Q I h
 rw [eval_ListComp]
 refine wpAny_comprehension_free (use:=none) rfl hs (S.clos I) S.kind S.names (thn (hi pins s σ H _ I h) fun xv s1 h1=>thn h1 fun itv s2 h2=>?_)
 obtain ⟨it,fp,tn,J,H2,e,I2,T,st2,f2,q⟩:=h2
 subst e
 refine comp_coreN (RR:=fun acc C=>compPost (model X.prog X.w) X.A X.xe none (EP X pins σ Q) acc C) S I2 hc hcap gat hg hnd T st2 f2 body q ?_
 intro p C s3 s' H3 Hf σ' I3 hC J' qf
 subst hC
 have I4:=comp_out I3 J' f2
 obtain ⟨m,hn,_⟩:=J'.loc
 refine ⟨m,hn,fun h' hs'=>?_⟩
 refine ⟨.ref p,Hf,?_,rfl,qf⟩
 have f:=I3.fpOk (H':=Hf) (qkB _) J'.free
 exact I4.turned (t':=s'.toks) (it:=s3.heap.objs.size) (fun b o hb e=>(hs'.2 b hb).trans e) f.1 f.2.1 f.2.2.2.1 f.2.2.2.2.1 f.2.2.2.2.2
theorem ps_setcompN {scope:Scope}{xn:List Str}{y:Str}{py pos spos:Pos}{tg:Expr}{g:TG}{elt iter:Expr}{ifs:List Expr}{cn:List Str}{cap:List Nat}{wi:TI}{tc:TT}{te:TE}{i:Nat}
  (hN:X.N.Nodup) (hi:X.N[i]? = some y) (hy:Loc X.env.scope y) (hc:X.calm=true) (S:CompScope X scope) (gat:GAt xn.length g) (hg:∀ (C:Addr) (s:Shared) (H:Hp) (fp:List Addr),PG (Bd X (xn++cn) scope C s H fp) tg g) (hnd:(xn++cn).Nodup) (hcap:Caps X scope cn cap) (hit:PI X tg iter wi)
  (body:∀ (C:Addr) (s:Shared) (H:Hp) (fp:List Addr),PTs (Bd X (xn++cn) scope C s H fp) ifs tc/\PE (Bd X (xn++cn) scope C s H fp) elt te)
  (hsw:swapsWith (.ListComp elt [⟨tg,iter,ifs,0⟩] scope pos) (some (.Name y py)) spos.line X.env=pure true:=by rfl)
  (hf:X.fn y=true\/X.env.scope.names.lookup y=some .local := by first|exact .inl rfl|exact .inr rfl|assumption)
  (hs:∀ x,foldedSetIterable iter X.env x=pure x:=by intro _;rfl):PS X (.Assign [.Name y py] (.ListComp elt [⟨tg,iter,ifs,0⟩] scope pos) spos) (GV (tCompN g xn.length cap wi tc te) (Bh i)):=by
 intro pins s σ H D I h
 rw [exec_Assign_Name_used _ _ _ _ hsw]
 refine qbA (wpAny_standAt (qbA ?_))
 show wpAny _ X.A (do let _ <- comprehension (.ListComp elt [⟨tg,iter,ifs,0⟩] scope pos) scope X.env _ (newList []) false (eval iter X.env) (some (assign (.Name y py) X.env))) _ _ s
 refine qbA (wpAny_mono (wpAny_comprehension_free (use:=some (assign (.Name y py) X.env)) (Q:=fun _ s'=>SP X pins D .next s') rfl hs (S.clos I) S.kind S.names
  (thn (hit pins s σ H _ I h) fun xv s1 h1=>thn h1 fun itv s2 h2=>?_)) (fun _ s' hq=>qcA (qcA hq)) fun _ _ e=>e)
 obtain ⟨it,fp,tn,J,H2,e,I2,T,st2,f2,q⟩:=h2
 subst e
 refine comp_coreN (Q:=fun v H1=>Bh i v σ H1 D.nx) (RR:=fun acc C=>compPost (model X.prog X.w) X.A X.xe (some (assign (.Name y py) X.env)) (fun _ s'=>SP X pins D .next s') acc C) S I2 hc hcap gat hg hnd T st2 f2 body q ?_
 intro p C s3 s' H3 Hf σ' I3 hC J' qf
 subst hC
 have I4:=comp_out I3 J' f2
 obtain ⟨m,hn,_⟩:=J'.loc
 have f:=I3.fpOk (H':=Hf) (qkB _) J'.free
 show wpAny _ X.A (assign (.Name y py) X.env (.ref p)) _ _ _
 refine wpAny_assign_Name (store_ok2 (v:=V.ref p) I4 hN hi hy rfl (fun s'' I5 ch=>?_) hf)
 obtain ⟨a,hsb,ha⟩:=ch
 have hCa:s3.heap.objs.size≠a:=by
  rcases ha with rfl|ha
  ·exact f.2.1
  ·exact fun z=>f.2.2.2.2.1 y a ha z.symm
 refine ⟨m,hn.sameBut hsb hCa,fun h' hs'=>?_⟩
 exact ⟨_,Hf,I5.turned (t':=s''.toks) (it:=s3.heap.objs.size) (fun b o hb e=>(hs'.2 b hb).trans e) f.1 f.2.1 f.2.2.2.1 f.2.2.2.2.1 f.2.2.2.2.2,qf⟩
end
section
variable {X:Cx}{pins:List (Addr × Obj)}{σ:St}
theorem gat1:GAt 1 (Bh 0):=fun v σ H Q h=>⟨⟨List.length_set,fun j hj=>List.getElem?_set_ne (by omega)⟩,h⟩
theorem DC {scope:Scope}{x:Str}{px pos:Pos}{elt iter:Expr}{ifs:List Expr}{cn:List Str}{cap:List Nat}{wi:TI}{tc:TT}{te:TE}
  (hc:X.calm=true) (S:CompScope X scope) (hx:scope.names.lookup x=some .local) (hnd:(x::cn).Nodup) (hcap:Caps X scope cn cap) (hi:PI X (.Name x px) iter wi)
  (body:∀ (C:Addr) (s:Shared) (H:Hp) (fp:List Addr),PTs (Bd X (x::cn) scope C s H fp) ifs tc/\PE (Bd X (x::cn) scope C s H fp) elt te)
  (hs:∀ x,foldedSetIterable iter X.env x=pure x:=by intro _;rfl):PE X (.ListComp elt [⟨.Name x px,iter,ifs,0⟩] scope pos) (tComp cap wi tc te):=by
 have h:=pe_compN (xn:=[x]) (tg:=.Name x px) (g:=Bh 0) (pos:=pos) (elt:=elt) hc S gat1 (fun C s H fp=>BD (i:=0) hnd rfl (.inl (lookup_relabel_local hx)) (.inr (lookup_relabel_local hx))) hnd hcap hi body hs
 exact h
theorem ps_setcomp {scope:Scope}{x y:Str}{px py pos spos:Pos}{elt iter:Expr}{ifs:List Expr}{cn:List Str}{cap:List Nat}{wi:TI}{tc:TT}{te:TE}{i:Nat}
  (hN:X.N.Nodup) (hi:X.N[i]? = some y) (hy:Loc X.env.scope y) (hc:X.calm=true) (S:CompScope X scope) (hx:scope.names.lookup x=some .local) (hnd:(x::cn).Nodup) (hcap:Caps X scope cn cap) (hit:PI X (.Name x px) iter wi)
  (body:∀ (C:Addr) (s:Shared) (H:Hp) (fp:List Addr),PTs (Bd X (x::cn) scope C s H fp) ifs tc/\PE (Bd X (x::cn) scope C s H fp) elt te)
  (hsw:swapsWith (.ListComp elt [⟨.Name x px,iter,ifs,0⟩] scope pos) (some (.Name y py)) spos.line X.env=pure true:=by rfl)
  (hf:X.fn y=true\/X.env.scope.names.lookup y=some .local := by first|exact .inl rfl|exact .inr rfl|assumption)
  (hs:∀ x,foldedSetIterable iter X.env x=pure x:=by intro _;rfl):PS X (.Assign [.Name y py] (.ListComp elt [⟨.Name x px,iter,ifs,0⟩] scope pos) spos) (GV (tComp cap wi tc te) (Bh i)):=by
 have h:=ps_setcompN (xn:=[x]) (tg:=.Name x px) (g:=Bh 0) (pos:=pos) (spos:=spos) (py:=py) (elt:=elt) hN hi hy hc S gat1 (fun C s H fp=>BD (i:=0) hnd rfl (.inl (lookup_relabel_local hx)) (.inr (lookup_relabel_local hx))) hnd hcap hit body hsw hf hs
 exact h
end
theorem Bu:bootBuiltins "len" = some (.builtin "len"):=by decide +kernel
theorem FK:bootBuiltins "isinstance" = some (.builtin "isinstance"):=by decide +kernel
theorem GL:bootBuiltins "sorted" = some (.builtin "sorted"):=by decide +kernel
theorem bt_tuple:bootBuiltins "tuple" = some (.type "tuple"):=by decide +kernel
theorem bt_str:bootBuiltins "str" = some (.type "str"):=by decide +kernel
theorem bt_dict:bootBuiltins "dict" = some (.type "dict"):=by decide +kernel
theorem bt_set:bootBuiltins "set" = some (.type "set"):=by decide +kernel
theorem pe_globI {X:Cx}{x:Str}{i:Int}{pos:Pos}(hg:Gl X x)(h:∃ t,X.mg x=some (.int i t))(hd:(x == ("__debug__" : Str))=false:=by decide):PE X (.Name x pos) (tC (.int i)):=by
 obtain ⟨t,h⟩:=h
 exact pe_glob (u:=.int i t) hg h ⟨t,rfl⟩ hd
def kitC (T c:String):Option Bool:=if (T == c)=true then some true else if PySem.W.kitMeta c=true then (fastBuiltinMro T).map (·.contains (.type c)) else none
theorem kit_of {K:FZ9}{T c:String}{b:Bool}(h:kitC T c=some b):PySem.W.kitOne K (.type T) (.type c)=some b:=by
 unfold kitC at h
 unfold PySem.W.kitOne
 by_cases e:T=c
 ·subst e
  rw [if_pos (by simp)] at h
  rw [if_pos (by simp)]
  exact h
 ·rw [if_neg (by simpa using e)] at h
  rw [if_neg (by intro z;exact e (by simpa using z))]
  exact h
structure DefOk (P:Program)(w:World)(K:FZ9)(mg:Str->Option Value)(base:Heap)(x:Str)(k:Nat)(ps:List Str)(sp:Sp):Prop where
 ex:∃ f fd,FnOk P w K mg base CX0 k f fd ps sp/\mg x=some (.ref f)/\qeC K (.ref f)=true/\Binds K fd ps []
section
variable {X:Cx}{x:Str}{k j:Nat}{ps:List Str}{sp:Sp}{e:Expr}{es:List Expr}{t:TA}{p pos:Pos}
theorem AS (F:DefOk X.prog X.w X.K X.mg X.base x k ps sp)(hr:Room j X.A)(hj:k<=j)(hg:Gl X x)(ha:PA X (e::es) t)(hdb:(x == ("__debug__" : Str))=false:=by decide)
  (he:starEach (e::es) X.env=(false,eval e X.env)::starEach es X.env:=by rfl) (hpl:(backTo pos (starEach es X.env)).any (·.1)=false:=by rfl) :
  PE X (.Call (.Name x p) (e::es) [] pos) (ES sp [] E0 t):=by
 obtain ⟨f,fd,G,m,kp,b⟩:=F.ex
 exact pe_call G (hr.mono hj) hg m kp b .nil pass0 ha hdb he hpl
end
theorem As {P:Program}{w:World}{K:FZ9}{mg:Str->Option Value}{base:Heap}{x:Str}{st:Stmt}{f:Addr}{fd:FuncData}{k:Nat}{ps:List Str}{sp:Sp}(F:Fun K x x st f fd)(m:mg x=some (.ref f))(b:Binds K fd ps [])(G:FnOk P w K mg base CX0 k f fd ps sp):DefOk P w K mg base x k ps sp :=
 ⟨f,fd,G,m,F.kp,b⟩
theorem C4 {X:Cx}{scope:Scope}(h:(scope.names.all fun p=>p.2 != .free || X.env.scope.names.lookup p.1 == some .cell || X.env.scope.names.lookup p.1 == some .free)=true) :
  ∀ y∈scope.names,y.2 = .free->X.env.scope.names.lookup y.1=some .cell\/X.env.scope.names.lookup y.1=some .free:=fun y hy hf=>by
 have:=List.all_eq_true.mp h y hy
 rw [hf] at this
 simpa using this
theorem Same.new {H:Hp}{p:Addr}{o:HO}(h:H p=none):Same H (upd H p o):=fun b u e=>by rw [Aq (Ci e h)];exact e
theorem Same.put {H H':Hp}{p:Addr}{o:HO}(s:Same H H')(h:H p=none):Same H (upd H' p o):=fun b u e=>by rw [Aq (Ci e h)];exact s b u e
def Its (x:Str):It:=⟨fun i _=>i<x.cps.size,fun i H v H'=>H'=H/\∃ c,x.cps[i]? = some c/\v = .str ⟨#[c]⟩,fun i _=>i=x.cps.size⟩
def StrIt (it:Addr)(x:Str)(t:Tok)(i:Nat)(h:Heap):Prop:=h.IsStrIter it "str_ascii_iterator" x t i\/h.IsStrIter it "str_iterator" x t i
theorem turn_str {P:Program}{w:World}{K:FZ9}{tg:Expr}(x:Str)(t:Tok)(it:Addr):Turn P w K tg (Its x) [it] it (StrIt it x t) where
 mem:=by simp
 obj:=fun i h st b hb=>by
  have e:b=it:=by simpa using hb
  subst e
  rcases st with ⟨o,e,c,d⟩ | ⟨o,e,c,d⟩<;>exact ⟨o,e,fun v z=>by rw [d] at z;cases z⟩
 keep:=fun i h h' st k=>by
  rcases st with ⟨o,e,r⟩ | ⟨o,e,r⟩
  ·exact .inl ⟨o,k it (by simp) o e,r⟩
  ·exact .inr ⟨o,k it (by simp) o e,r⟩
 item:=by
  intro X hP hw hK hc i pins s σ H E I hf st hg
  subst hP hw hK
  obtain ⟨f0,f1,f2,f3,f4,f5⟩:=hf it (by simp)
  rcases st with st|st
  ·refine (Walks.strAscii (prog:=X.prog) (w:=X.w) (I.ok.hd hc) it x t).item i s _ _ hg st fun v h' tk hv st' kk=>?_
   obtain ⟨c,u,hcx,rfl⟩:=hv
   have I1:=I.turned (h':=h') (t':=tk) (fun b o hb e=>kk b o (by simpa using hb) e) f0 f1 f3 f4 f5
   obtain ⟨o,e,hc',d⟩:=id st'
   exact ⟨_,rfl,go_of (s:={ s with heap:=h',toks:=tk }) e hc' d (by decide) ⟨.str ⟨#[c]⟩,H,I1,⟨u,rfl⟩,⟨rfl,c,hcx,rfl⟩,.inl st',fun b hb=>(hf b hb).1⟩⟩
  ·refine (Walks.strWide (prog:=X.prog) (w:=X.w) (I.ok.hd hc) it x t).item i s _ _ hg st fun v h' tk hv st' kk=>?_
   obtain ⟨c,u,hcx,rfl⟩:=hv
   have I1:=I.turned (h':=h') (t':=tk) (fun b o hb e=>kk b o (by simpa using hb) e) f0 f1 f3 f4 f5
   obtain ⟨o,e,hc',d⟩:=id st'
   exact ⟨_,rfl,go_of (s:={ s with heap:=h',toks:=tk }) e hc' d (by decide) ⟨.str ⟨#[c]⟩,H,I1,⟨u,rfl⟩,⟨rfl,c,hcx,rfl⟩,.inr st',fun b hb=>(hf b hb).1⟩⟩
 done:=by
  intro X hP hw hK hc i pins s σ H E I hf st hg
  subst hP hw hK
  obtain ⟨f0,f1,f2,f3,f4,f5⟩:=hf it (by simp)
  have hg:i=x.cps.size:=hg
  subst hg
  rcases st with st|st
  ·exact (Walks.strAscii (prog:=X.prog) (w:=X.w) (I.ok.hd hc) it x t).done s _ _ st fun h' tk kk=>⟨rfl,I.turned (fun b o hb e=>kk b o (by simpa using hb) e) f0 f1 f3 f4 f5⟩
  ·exact (Walks.strWide (prog:=X.prog) (w:=X.w) (I.ok.hd hc) it x t).done s _ _ st fun h' tk kk=>⟨rfl,I.turned (fun b o hb e=>kk b o (by simpa using hb) e) f0 f1 f3 f4 f5⟩
 self:=fun _ _ _ _ _ st h=>by
  rcases st with st|st
  ·exact wpAny_pyIter_striter_ascii st h
  ·exact wpAny_pyIter_striter_wide st h
section
variable {X:Cx}{tg:Expr}
def Hi (K:FZ9)(tl:TE):TI:=fun σ H R=>tl σ H fun v H1=>match v with
 | .str x=>R (Its x) H1
 | .ref a=>((∃ xs,SqL K H1 a xs)/\R (Itl K a) H1)\/((∃ xs,SqT K H1 a xs)/\R (Itt K a) H1)
 | _=>False
theorem pi_any {l:Expr}{tl:TE}(hl:PE X l tl):PI X tg l (Hi X.K tl):=by
 intro pins s σ H R I h
 refine thn (hl pins s σ H _ I h) fun v s1 ⟨x,H1,I1,r1,q1⟩=>?_
 have one:∀ b∈[s1.heap.objs.size],HF X pins H1 b:=fun b hb=>by
  have e:b=s1.heap.objs.size:=by simpa using hb
  subst e
  exact I1.fpOk (qkB _) (I1.hok.fresh (qkB _))
 cases x with
 | str z =>
  obtain ⟨t,rfl⟩:=r1
  have q1:R (Its z) H1:=q1
  cases ha:z.cps.all (· < 128)
  ·exact wpAny_pyIter_wide ha ⟨s1.heap.objs.size,[s1.heap.objs.size],_,_,H1,rfl,I1.kept (t':=s1.toks) fun b o e=>qrB _ e,turn_str z t _,.inr ⟨_,qsB _ rfl,rfl,rfl⟩,one,q1⟩
  ·exact wpAny_pyIter_ascii ha ⟨s1.heap.objs.size,[s1.heap.objs.size],_,_,H1,rfl,I1.kept (t':=s1.toks) fun b o e=>qrB _ e,turn_str z t _,.inl ⟨_,qsB _ rfl,rfl,rfl⟩,one,q1⟩
 | ref a =>
  cases r1
  have q1:((∃ xs,SqL X.K H1 a xs)/\R (Itl X.K a) H1)\/((∃ xs,SqT X.K H1 a xs)/\R (Itt X.K a) H1):=q1
  rcases q1 with ⟨⟨xs,hq⟩,q⟩ | ⟨⟨xs,hq⟩,q⟩
  ·obtain ⟨its,rv,p,hz⟩:=I1.list hq
   exact wpAny_pyIter_list p.isList ⟨s1.heap.objs.size,[s1.heap.objs.size],_,_,H1,rfl,I1.kept (t':=s1.toks) fun b o e=>qrB _ e,turn_list a _,⟨_,qsB _ rfl,rfl,rfl⟩,one,q⟩
  ·obtain ⟨its,rv,p,hz⟩:=I1.tuple hq
   exact wpAny_pyIter_tuple (show s1.heap.IsTuple a its.toArray from p) ⟨s1.heap.objs.size,[s1.heap.objs.size],_,_,H1,rfl,I1.kept (t':=s1.toks) fun b o e=>qrB _ e,turn_tuple a _,⟨_,qsB _ rfl,rfl,rfl⟩,one,q⟩
 | _=>exact (show False from q1).elim
end
structure Yields (J:It)(H:Hp)(xs:List V):Prop where
 go:∀ i H',Same H H'->i<xs.length->J.go i H'
 stop:∀ H',Same H H'->J.stop xs.length H'
 yld:∀ i H' x H'',Same H H'->i<xs.length->J.yld i H' x H''->H''=H'/\xs[i]? = some x
def FO (x:Str):List V:=x.cps.toList.map fun c=>.str ⟨#[c]⟩
theorem yields_str (x:Str)(H:Hp):Yields (Its x) H (FO x) where
 go:=fun i H' _ hi=>by
  have:(FO x).length=x.cps.size:=by simp [FO]
  show i<x.cps.size
  omega
 stop:=fun H' _=>by
  show (FO x).length=x.cps.size
  simp [FO]
 yld:=fun i H' v H'' _ _ y=>by
  obtain ⟨rfl,c,hc,rfl⟩:=y
  refine ⟨rfl,?_⟩
  simp only [FO,qaB,Array.getElem?_toList,hc,Option.map_some]
theorem yields_range (lo:Int)(n:Nat)(H:Hp):Yields (Itr lo n) H ((List.range n).map fun (i:Nat)=>V.int (lo+(i:Int))) where
 go:=fun i H' _ hi=>by
  show i<n
  simpa using hi
 stop:=fun H' _=>by
  show n<=((List.range n).map fun (i:Nat)=>V.int (lo+(i:Int))).length
  simp
 yld:=fun i H' v H'' _ hi y=>by
  obtain ⟨rfl,rfl⟩:=y
  rw [qfA,qjA] at hi
  refine ⟨rfl,?_⟩
  simp [hi]
theorem yields_list {K:FZ9}{a:Addr}{xs:List V}{H:Hp}(h:SqL K H a xs):Yields (Itl K a) H xs where
 go:=fun i H' s hi=>⟨xs,xs[i],s.seq h,by simp [hi]⟩
 stop:=fun H' s=>⟨xs,s.seq h,qkB _⟩
 yld:=fun i H' v H'' s _ y=>⟨y.1,y.2 xs (s.seq h)⟩
section
variable {X:Cx}
def rPlus (K:FZ9):R2:=fun x y H Q=>match x,y with
 | .int i,.int j=>Q (.int (i+j)) H
 | .str a,.str b=>a.length+b.length<=sizeLine/\Q (.str (a++b)) H
 | .ref a,.ref b=>∃ xs ys,Rd H a (.lst xs)/\Rd H b (.lst ys)/\xs.length+ys.length<=sizeLine/\∀ p,H p=none->Q (.ref p) (upd H p (.lst (xs++ys)))
 | _,_=>False
theorem op_catS:OpR X (binaryOp .Add) (fun x y H Q=>∃ a b xs ys,x = .ref a/\y = .ref b/\Rd H a (.lst xs)/\Rd H b (.lst ys)/\xs.length+ys.length<=sizeLine/\∀ p,H p=none->Q (.ref p) (upd H p (.lst (xs++ys)))):=by
 intro pins s σ H x y v u Q I rx ry h
 obtain ⟨l,b,xs,zs,rfl,rfl,hH,hB,hz,q⟩:=h
 cases rx
 cases ry
 obtain ⟨z,its,n,r,e⟩:=hH.ok I.hok
 obtain ⟨z2,its2,n2,r2,e2⟩:=hB.ok I.hok
 have hl:=r.length
 have hl2:=r2.length
 refine PySem.P.add_list e e2 ?_ (by rw [qaC,qaC];omega)
 have ea:its.toArray++its2.toArray=(its++its2).toArray:=by simp
 rw [ea]
 exact ⟨.ref _,_,I.lnew (t':=s.toks) (r.append r2) (by rw [qgA];omega),rfl,q _ I.fresh⟩
theorem op_plus:OpR X (binaryOp .Add) (rPlus X.K):=by
 intro pins s σ H x y v u Q I rx ry h
 cases x with
 | int i=>cases y with
  | int j=>exact op_add pins s σ H _ _ v u Q I rx ry ⟨i,j,rfl,rfl,h⟩
  | _=>exact (show False from h).elim
 | str a=>cases y with
  | str b=>exact op_add_str pins s σ H _ _ v u Q I rx ry ⟨a,b,rfl,rfl,h.1,h.2⟩
  | _=>exact (show False from h).elim
 | ref a=>cases y with
  | ref b =>
   obtain ⟨xs,ys,h1,h2,h3,h4⟩:=h
   exact op_catS pins s σ H _ _ v u Q I rx ry ⟨a,b,xs,ys,rfl,rfl,h1,h2,h3,h4⟩
  | _=>exact (show False from h).elim
 | _=>exact (show False from h).elim
def rOrd (fi:Int->Int->Bool)(fs:List Nat->List Nat->Bool):R2:=fun x y H Q=>match x,y with
 | .int i,.int j=>Q (.bl (fi i j)) H
 | .str a,.str b=>Q (.bl (fs a.cps.toList b.cps.toList)) H
 | _,_=>False
theorem ord_of {f:Value->Value->Sem Value}{fi:Int->Int->Bool}{fs:List Nat->List Nat->Bool}(hi:OpR X f (rI0 fun i j=>.bl (fi i j)))
  (hs:∀ (s:Shared) (a b:Str) (t u:Tok) (Q:Value->Shared->Prop),Q (.bool (fs a.cps.toList b.cps.toList)) s->wpAny (model X.prog X.w) X.A (f (.str a t) (.str b u)) Q X.xe s):OpR X f (rOrd fi fs):=by
 intro pins s σ H x y v u Q I rx ry h
 cases x with
 | int i=>cases y with
  | int j=>exact hi pins s σ H _ _ v u Q I rx ry ⟨i,j,rfl,rfl,h⟩
  | _=>exact (show False from h).elim
 | str a=>cases y with
  | str b =>
   obtain ⟨t,rfl⟩:=rx
   obtain ⟨t',rfl⟩:=ry
   exact hs s a b t t' _ ⟨.bl _,H,I,rfl,h⟩
  | _=>exact (show False from h).elim
 | _=>exact (show False from h).elim
theorem op_ltU:OpR X (compareOp .Lt) (rOrd (fun i j=>decide (i<j)) fun a b=>decide (a<b)):=ord_of op_lt fun _ _ _ _ _ _ h=>lt_str h
theorem op_leU:OpR X (compareOp .LtE) (rOrd (fun i j=>decide (i<=j)) fun a b=>!decide (b<a)):=ord_of op_le fun _ _ _ _ _ _ h=>PySem.P.le_str h
theorem Fj:OpR X (compareOp .Gt) (rOrd (fun i j=>decide (j<i)) fun a b=>decide (b<a)):=ord_of op_gt fun _ _ _ _ _ _ h=>PySem.P.gt_str h
def rMul (K:FZ9):R2:=fun x y H Q=>match x,y with
 | .int i,.int j=>CMul i j/\Q (.int (i * j)) H
 | .ref l,.int k=>∃ xs,H l=some (.lst xs)/\-(2 ^ 63)<=k/\k<2 ^ 63/\xs.length * k.toNat<=sizeLine/\∀ p,H p=none->Q (.ref p) (upd H p (.lst (List.replicate k.toNat xs).flatten))
 | _,_=>False
theorem op_mulU:OpR X (binaryOp .Mult) (rMul X.K):=by
 intro pins s σ H x y v u Q I rx ry h
 cases x with
 | int i=>cases y with
  | int j=>exact op_mul pins s σ H _ _ v u Q I rx ry ⟨i,j,rfl,rfl,h.1,h.2⟩
  | _=>exact (show False from h).elim
 | ref l=>cases y with
  | int k =>
   obtain ⟨xs,h1,h2,h3,h4,h5⟩:=h
   exact op_rep pins s σ H _ _ v u Q I rx ry ⟨l,k,xs,rfl,rfl,h1,h2,h3,h4,h5⟩
  | _=>exact (show False from h).elim
 | _=>exact (show False from h).elim
def rAt (K:FZ9):R2:=fun x y H Q=>match x,y with
 | .str z,.int i=>z.length<=sizeLine/\∃ c,atI z.cps.toList i=some c/\Q (.str ⟨#[c]⟩) H
 | .ref p,.int i=>(∃ xs v,SqL K H p xs/\atI xs i=some v/\Q v H)\/(∃ xs v,SqT K H p xs/\atI xs i=some v/\Q v H)
 | _,_=>False
theorem ix_any:IxR X (rAt X.K):=by
 intro value slice pins s σ H x y v u Q I rx ry q hs
 cases x with
 | str z=>cases y with
  | int i =>
   obtain ⟨hz,c,hc,q⟩:=q
   exact ix_str value slice pins s σ H _ _ v u Q I rx ry ⟨z,i,c,rfl,rfl,hz,hc,q⟩ hs
  | _=>exact (show False from q).elim
 | ref p=>cases y with
  | int i =>
   rcases q with ⟨xs,w',h1,h2,h3⟩ | ⟨xs,w',h1,h2,h3⟩
   ·exact ix_list value slice pins s σ H _ _ v u Q I rx ry ⟨p,xs,i,w',rfl,rfl,h1,h2,h3⟩ hs
   ·exact ix_tup value slice pins s σ H _ _ v u Q I rx ry ⟨p,xs,i,w',rfl,rfl,h1,h2,h3⟩ hs
  | _=>exact (show False from q).elim
 | _=>exact (show False from q).elim
def rLen (K:FZ9):List V->Hp->VK->Prop:=fun vs H Q=>match vs with
 | [.str z]=>z.length<=sizeLine/\Q (.int z.length) H
 | [.ref p]=>∃ ys,(SqL K H p ys\/SqT K H p ys)/\Q (.int ys.length) H
 | _=>False
theorem call_lenU:EM X (.builtin "len") (rLen X.K):=by
 intro pins s σ H vs us Q I r h
 match vs,h with
 | [.str z],h=>exact call_len_str pins s σ H _ us Q I r ⟨z,rfl,h.1,h.2⟩
 | [.ref p],h =>
  obtain ⟨ys,h1,h2⟩:=h
  exact call_len_seq pins s σ H _ us Q I r ⟨p,ys,rfl,h1,h2⟩
theorem strsAre_of {ys:List Str}:∀ {us:List Value},Vals (ys.map V.str) us->StrsAre us ys:=by
 induction ys with
 | nil=>intro us r;rw [List.map_nil] at r;cases r;exact .nil
 | cons n ns ih =>
  intro us r
  rw [qcB] at r
  cases r with
  | cons r1 r2 =>
   obtain ⟨t,e⟩:=r1
   subst e
   exact .cons n t (ih r2)
def rJoin (K:FZ9):V->List V->Hp->VK->Prop:=fun x vs H Q=>∃ z l ys,x = .str z/\vs=[.ref l]/\SqL K H l (ys.map V.str)/\(ys.map (·.length)).sum+ys.length * z.length<=16777216/\Q (.str (Txt.join z ys)) H
theorem mt_join:MtR X "str.join" (rJoin X.K):=by
 intro pins s σ H x vs v us Q I rx rv h
 obtain ⟨z,l,ys,rfl,rfl,hl,hz,q⟩:=h
 obtain ⟨t,rfl⟩:=rx
 obtain ⟨u,rfl,ru⟩:=Fz rv
 cases ru
 obtain ⟨its,r,pl,_⟩:=I.list hl
 exact join_list pl.isList (by simpa using strsAre_of r) hz fun t' k=>⟨.str _,H,I.tok k,⟨t',rfl⟩,q⟩
end
structure EqTy (K:FZ9)(k:Nat){α:Type}[DecidableEq α](R:Hp->V->α->Prop):Prop where
 fn:∀ {X:Cx}{pins:List (Addr × Obj)}{σ:St}{H:Hp}{s:Shared}{x:V}{a b:α},X.K=K->Inv X pins σ H s->R H x a->R H x b->a=b
 eq:∀ {X:Cx}{pins:List (Addr × Obj)}{σ:St}{H:Hp}{s:Shared}{x y:V}{u v:Value}{a b:α}(A:Around),X.K=K->Inv X pins σ H s->A.units+k<cLine->RelV x u->RelV y v->R H x a->R H y b->SeqAt.EqAt A s u v (decide (a=b))
 rc:∀ {X:Cx}{pins:List (Addr × Obj)}{σ:St}{H:Hp}{s:Shared}{x y:V}{u v:Value}{a b:α}(A:Around),X.K=K->Inv X pins σ H s->A.units+k<cLine->RelV x u->RelV y v->R H x a->R H y b->SeqAt.RcAt A s u v (decide (a=b))/\SeqAt.RcNeAt A s u v (!decide (a=b))
def isStr:Hp->V->Str->Prop:=fun _ x a=>x = .str a
def isInt:Hp->V->Int->Prop:=fun _ x a=>x = .int a
theorem dec_beq {α:Type}[DecidableEq α][BEq α][LawfulBEq α](a b:α):(a == b)=decide (a=b):=by
 by_cases h:a=b
 ·subst h;simp
 ·rw [decide_eq_false h];simpa using h
theorem eqStr {K:FZ9}:EqTy K 0 isStr where
 fn:=fun _ _ h1 h2=>by cases h1;cases h2;rfl
 eq:=fun A _ _ _ r1 r2 h1 h2=>by
  cases h1;cases h2
  obtain ⟨t,rfl⟩:=r1
  obtain ⟨t',rfl⟩:=r2
  rw [<- dec_beq]
  exact SeqAt.EqAt.str_str _ _ _ _
 rc:=fun A _ _ _ r1 r2 h1 h2=>by
  cases h1;cases h2
  obtain ⟨t,rfl⟩:=r1
  obtain ⟨t',rfl⟩:=r2
  rw [<- dec_beq]
  exact ⟨SeqAt.RcAt.str_str _ _ _ _,SeqAt.RcNeAt.str_str _ _ _ _⟩
theorem eqInt {K:FZ9}:EqTy K 0 isInt where
 fn:=fun _ _ h1 h2=>by cases h1;cases h2;rfl
 eq:=fun A _ _ _ r1 r2 h1 h2=>by
  cases h1;cases h2
  obtain ⟨t,rfl⟩:=r1
  obtain ⟨t',rfl⟩:=r2
  rw [<- dec_beq]
  exact SeqAt.EqAt.int_int _ _ _ _
 rc:=fun A _ _ _ r1 r2 h1 h2=>by
  cases h1;cases h2
  obtain ⟨t,rfl⟩:=r1
  obtain ⟨t',rfl⟩:=r2
  rw [<- dec_beq]
  exact ⟨SeqAt.RcAt.int_int _ _ _ _,SeqAt.RcNeAt.int_int _ _ _ _⟩
theorem Paired.at' {α β:Type}{F:α->β->Prop}:∀ {l₁:List α}{l₂:List β}{i:Nat}{a:α}{b:β},Paired F l₁ l₂->l₁[i]? = some a->l₂[i]? = some b->F a b
 | _,_,_,_,_,.nil,e,_=>by simp at e
 | _,_,0,_,_,.cons h _,e1,e2=>by simp at e1 e2;subst e1;subst e2;exact h
 | _,_,i+1,_,_,.cons _ t,e1,e2=>Paired.at' (i:=i) t (by simpa using e1) (by simpa using e2)
theorem paired_fn {α β:Type}{F:α->β->Prop}(hf:∀ a b c,F a b->F a c->b=c):∀ {xs:List α}{as bs:List β},Paired F xs as->Paired F xs bs->as=bs
 | _,_,_,.nil,.nil=>rfl
 | _,_,_,.cons h t,.cons h' t'=>by rw [hf _ _ _ h h',paired_fn hf t t']
theorem all_dec {α:Type}[DecidableEq α]:∀ (as bs:List α) (hl:as.length=bs.length),((List.range as.length).all fun j=>decide (as[j]? = bs[j]?))=decide (as=bs):=by
 intro as bs hl
 apply Bool.eq_iff_iff.mpr
 rw [decide_eq_true_iff,List.all_eq_true]
 constructor
 ·intro h
  apply List.ext_getElem?
  intro i
  by_cases hi:i<as.length
  ·exact of_decide_eq_true (h i (qtA.mpr hi))
  ·rw [qzA (by omega),qzA (by omega)]
 ·rintro rfl i _
  simp
def isLst (K:FZ9){α:Type}(R:Hp->V->α->Prop):Hp->V->List α->Prop:=fun H x as=>∃ l xs,x = .ref l/\SqL K H l xs/\Paired (R H) xs as
theorem items_eqAt {K:FZ9}{k:Nat}{α:Type}[DecidableEq α]{R:Hp->V->α->Prop}(E:EqTy K k R){X:Cx}{pins:List (Addr × Obj)}{σ:St}{H:Hp}{s:Shared}{A:Around}(hK:X.K=K)(I:Inv X pins σ H s)(hu:A.units+(k+1)<cLine)
  {xs ys:List V}{us vs:List Value}{as bs:List α}(rx:Vals xs us) (ry:Vals ys vs) (px:Paired (R H) xs as) (py:Paired (R H) ys bs) :
  ∀ j (h1:j<us.toArray.size) (h2:j<vs.toArray.size),SeqAt.EqAt A.in1 s us.toArray[j] vs.toArray[j] (decide (as[j]? = bs[j]?)):=by
 intro j h1 h2
 have h1':j<us.length:=by simpa using h1
 have h2':j<vs.length:=by simpa using h2
 have lx:=rx.length
 have ly:=ry.length
 have lpx:=Paired.length px
 have lpy:=Paired.length py
 have ex:xs[j]? = some xs[j]:=qwA (by omega)
 have ey:ys[j]? = some ys[j]:=qwA (by omega)
 have ea:as[j]? = some as[j]:=qwA (by omega)
 have eb:bs[j]? = some bs[j]:=qwA (by omega)
 obtain ⟨u,hu',ru⟩:=rx.get ex
 obtain ⟨v,hv',rv⟩:=ry.get ey
 have e1:us.toArray[j]=u:=by
  rw [qwA h1'] at hu'
  simpa using hu'
 have e2:vs.toArray[j]=v:=by
  rw [qwA h2'] at hv'
  simpa using hv'
 rw [e1,e2,ea,eb]
 have:=E.eq A.in1 hK I (show A.units+1+k<cLine by omega) ru rv (Paired.at' px ex ea) (Paired.at' py ey eb)
 have e3:decide (some as[j]=some bs[j])=decide (as[j]=bs[j]):=by simp
 rw [e3]
 exact this
theorem eqLst {K:FZ9}{k:Nat}{α:Type}[DecidableEq α]{R:Hp->V->α->Prop}(E:EqTy K k R):EqTy K (k+1) (isLst K R):=by
 have fn:∀ {X:Cx}{pins:List (Addr × Obj)}{σ:St}{H:Hp}{s:Shared}{x:V}{a b:List α},X.K=K->Inv X pins σ H s->isLst K R H x a->isLst K R H x b->a=b:=by
  intro X pins σ H s x a b hK I ha hb
  obtain ⟨l,xs,rfl,h1,p1⟩:=ha
  obtain ⟨l',ys,e,h2,p2⟩:=hb
  cases e
  subst hK
  have:=I.list_inj h1 h2
  subst this
  exact paired_fn (F:=R H) (fun _ _ _ p q=>E.fn rfl I p q) p1 p2
 have rc:∀ {X:Cx}{pins:List (Addr × Obj)}{σ:St}{H:Hp}{s:Shared}{x y:V}{u v:Value}{a b:List α}(A:Around),X.K=K->Inv X pins σ H s->A.units+(k+1)<cLine->RelV x u->RelV y v->isLst K R H x a->isLst K R H y b ->
   SeqAt.RcAt A s u v (decide (a=b))/\SeqAt.RcNeAt A s u v (!decide (a=b)):=by
  intro X pins σ H s x y u v a b A hK I hu r1 r2 ha hb
  obtain ⟨l,xs,rfl,h1,p1⟩:=ha
  obtain ⟨l',ys,rfl,h2,p2⟩:=hb
  cases r1;cases r2
  subst hK
  obtain ⟨us,rx,plx,_⟩:=I.list h1
  obtain ⟨vs,ry,ply,_⟩:=I.list h2
  have lx:=rx.length
  have ly:=ry.length
  have lpx:=Paired.length p1
  have lpy:=Paired.length p2
  by_cases hl:a.length=b.length
  ·have hsz:us.toArray.size=vs.toArray.size:=by simp;omega
   have it:=items_eqAt E rfl I hu rx ry p1 p2
   have ed:((List.range us.toArray.size).all fun j=>decide (a[j]? = b[j]?))=decide (a=b):=by
    rw [<- all_dec a b hl,qaC,<- lx,lpx]
   rw [<- ed]
   exact ⟨SeqAt.RcAt.lists plx.isList ply.isList hsz (by omega) it,SeqAt.RcNeAt.lists plx.isList ply.isList hsz (by omega) it⟩
  ·have hsz:(us.toArray.size != vs.toArray.size)=true:=by simp;omega
   have ne:a≠b:=fun e=>hl (by rw [e])
   rw [decide_eq_false ne]
   exact ⟨SeqAt.RcAt.lists_lengths plx.isList ply.isList hsz (by omega),SeqAt.RcNeAt.lists_lengths plx.isList ply.isList hsz (by omega)⟩
 refine ⟨fn,?_,rc⟩
 intro X pins σ H s x y u v a b A hK I hu r1 r2 ha hb
 have h:=(rc A hK I hu r1 r2 ha hb).1
 obtain ⟨l,xs,rfl,h1,p1⟩:=id ha
 obtain ⟨l',ys,rfl,h2,p2⟩:=id hb
 cases r1;cases r2
 by_cases e:l=l'
 ·subst e
  have:a=b:=fn hK I ha hb
  rw [decide_eq_true this]
  exact SeqAt.EqAt.same _
 ·exact SeqAt.EqAt.of_refs e h
def isPair (K:FZ9){α β:Type}(R:Hp->V->α->Prop)(S:Hp->V->β->Prop):Hp->V->α × β->Prop:=fun H x p=>∃ t a b,x = .ref t/\SqT K H t [a,b]/\R H a p.1/\S H b p.2
theorem eqPair {K:FZ9}{k:Nat}{α β:Type}[DecidableEq α][DecidableEq β]{R:Hp->V->α->Prop}{S:Hp->V->β->Prop}(E:EqTy K k R)(G:EqTy K k S):EqTy K (k+1) (isPair K R S):=by
 have fn:∀ {X:Cx}{pins:List (Addr × Obj)}{σ:St}{H:Hp}{s:Shared}{x:V}{a b:α × β},X.K=K->Inv X pins σ H s->isPair K R S H x a->isPair K R S H x b->a=b:=by
  intro X pins σ H s x a b hK I ha hb
  obtain ⟨l,x1,x2,rfl,h1,p1,p2⟩:=ha
  obtain ⟨l',y1,y2,e,h2,q1,q2⟩:=hb
  cases e
  subst hK
  have:=I.tuple_inj h1 h2
  cases this
  exact Prod.ext (E.fn rfl I p1 q1) (G.fn rfl I p2 q2)
 have rc:∀ {X:Cx}{pins:List (Addr × Obj)}{σ:St}{H:Hp}{s:Shared}{x y:V}{u v:Value}{a b:α × β}(A:Around),X.K=K->Inv X pins σ H s->A.units+(k+1)<cLine->RelV x u->RelV y v->isPair K R S H x a->isPair K R S H y b ->
   SeqAt.RcAt A s u v (decide (a=b))/\SeqAt.RcNeAt A s u v (!decide (a=b)):=by
  intro X pins σ H s x y u v a b A hK I hu r1 r2 ha hb
  obtain ⟨l,x1,x2,rfl,h1,p1,p2⟩:=ha
  obtain ⟨l',y1,y2,rfl,h2,q1,q2⟩:=hb
  cases r1;cases r2
  subst hK
  obtain ⟨us,rx,plx,_⟩:=I.tuple h1
  obtain ⟨vs,ry,ply,_⟩:=I.tuple h2
  obtain ⟨u1,u2,rfl,ru1,ru2⟩:=vals2 rx
  obtain ⟨v1,v2,rfl,rv1,rv2⟩:=vals2 ry
  have e1:=E.eq A.in1 rfl I (show A.units+1+k<cLine by omega) ru1 rv1 p1 q1
  have e2:=G.eq A.in1 rfl I (show A.units+1+k<cLine by omega) ru2 rv2 p2 q2
  have it:∀ j (h1:j < [u1,u2].toArray.size) (h2:j < [v1,v2].toArray.size),SeqAt.EqAt A.in1 s [u1,u2].toArray[j] [v1,v2].toArray[j] ((fun j=>if j=0 then decide (a.1=b.1) else decide (a.2=b.2)) j):=by
   intro j h1 h2
   match j,h1 with
   | 0,_=>exact e1
   | 1,_=>exact e2
   | j+2,h=>exact absurd h (by simp)
  have ed:((List.range (min [u1,u2].toArray.size [v1,v2].toArray.size)).all (fun j=>if j=0 then decide (a.1=b.1) else decide (a.2=b.2)) && [u1,u2].toArray.size == [v1,v2].toArray.size)=decide (a=b):=by
   apply Bool.eq_iff_iff.mpr
   rw [decide_eq_true_iff]
   constructor
   ·intro h
    have h:(decide (a.1=b.1) && (decide (a.2=b.2) && true) && true)=true:=h
    simp only [Bool.and_true,qtC,decide_eq_true_iff] at h
    exact Prod.ext h.1 h.2
   ·rintro rfl
    show (decide (a.1=a.1) && (decide (a.2=a.2) && true) && true)=true
    simp
  rw [<- ed]
  exact ⟨SeqAt.RcAt.tuples plx ply (by omega) it,SeqAt.RcNeAt.tuples plx ply (by omega) it⟩
 refine ⟨fn,?_,rc⟩
 intro X pins σ H s x y u v a b A hK I hu r1 r2 ha hb
 have h:=(rc A hK I hu r1 r2 ha hb).1
 obtain ⟨l,x1,x2,rfl,h1,p1,p2⟩:=id ha
 obtain ⟨l',y1,y2,rfl,h2,q1,q2⟩:=id hb
 cases r1;cases r2
 by_cases e:l=l'
 ·subst e
  have:a=b:=fn hK I ha hb
  rw [decide_eq_true this]
  exact SeqAt.EqAt.same _
 ·exact SeqAt.EqAt.of_refs e h
section
variable {X:Cx}
theorem op_neD {k j:Nat}{α:Type}[DecidableEq α]{R:Hp->V->α->Prop}(E:EqTy X.K k R)(hr:Room j X.A)(hk:k<=10):OpR X (compareOp .NotEq) (fun x y H Q=>∃ a b,R H x a/\R H y b/\Q (.bl (!decide (a=b))) H):=by
 intro pins s σ H x y v u Q I rx ry h
 obtain ⟨a,b,h1,h2,q⟩:=h
 exact (E.rc X.A rfl I (by have:=hr.un;omega) rx ry h1 h2).2 _ _ _ _ ⟨.bl _,H,I,rfl,q⟩
end
class Rp (α:Type) where
 rel:FZ9->Hp->V->α->Prop
 mono:∀ {K:FZ9}{H H':Hp}{v:V}{a:α},Same H H'->rel K H v a->rel K H' v a
theorem Same.rd {H H':Hp}{a:Addr}{u:HO}(s:Same H H')(h:Rd H a u):Rd H' a u:=by
 rcases h with h | ⟨o,h⟩
 ·exact .inl (s _ _ h)
 ·exact .inr ⟨o,s _ _ h⟩
theorem Same.tup {K:FZ9}{H H':Hp}{a:Addr}{xs:List V}(e:Same H H')(h:SqT K H a xs):SqT K H' a xs:=by
 rcases h with h|h
 ·exact .inl (e.rd h)
 ·exact .inr h
instance rpInt:Rp Int:=⟨fun _ _ v a=>v = .int a,fun _ h=>h⟩
instance rpBool:Rp Bool:=⟨fun _ _ v a=>v = .bl a,fun _ h=>h⟩
instance rpStr:Rp Str:=⟨fun _ _ v a=>v = .str a/\a.length<=sizeLine,fun _ h=>h⟩
instance rpUnit:Rp Unit:=⟨fun _ _ v _=>v = .non,fun _ h=>h⟩
instance rpList {α:Type}[Rp α]:Rp (List α) :=
 ⟨fun K H v as=>∃ l xs,v = .ref l/\Rd H l (.lst xs)/\xs.length<=sizeLine/\Paired (Rp.rel K H) xs as,
  fun s ⟨l,xs,e,h,z,p⟩=>⟨l,xs,e,s.rd h,z,Paired.imp' (fun _ _ r=>Rp.mono s r) p⟩⟩
instance rpPair {α β:Type}[Rp α][Rp β]:Rp (α × β) :=
 ⟨fun K H v p=>∃ t a b,v = .ref t/\SqT K H t [a,b]/\Rp.rel K H a p.1/\Rp.rel K H b p.2,
  fun s ⟨t,a,b,e,h,r1,r2⟩=>⟨t,a,b,e,s.tup h,Rp.mono s r1,Rp.mono s r2⟩⟩
structure T3 (α β γ:Type) where
 a:α
 b:β
 c:γ
 deriving DecidableEq
structure T4 (α β γ δ:Type) where
 a:α
 b:β
 c:γ
 d:δ
 deriving DecidableEq
structure Tp (α:Type) where
 l:List α
 deriving DecidableEq
instance rpT3 {α β γ:Type}[Rp α][Rp β][Rp γ]:Rp (T3 α β γ) :=
 ⟨fun K H v p=>∃ t a b c,v = .ref t/\SqT K H t [a,b,c]/\Rp.rel K H a p.a/\Rp.rel K H b p.b/\Rp.rel K H c p.c,
  fun s ⟨t,a,b,c,e,h,r1,r2,r3⟩=>⟨t,a,b,c,e,s.tup h,Rp.mono s r1,Rp.mono s r2,Rp.mono s r3⟩⟩
instance rpT4 {α β γ δ:Type}[Rp α][Rp β][Rp γ][Rp δ]:Rp (T4 α β γ δ) :=
 ⟨fun K H v p=>∃ t a b c d,v = .ref t/\SqT K H t [a,b,c,d]/\Rp.rel K H a p.a/\Rp.rel K H b p.b/\Rp.rel K H c p.c/\Rp.rel K H d p.d,
  fun s ⟨t,a,b,c,d,e,h,r1,r2,r3,r4⟩=>⟨t,a,b,c,d,e,s.tup h,Rp.mono s r1,Rp.mono s r2,Rp.mono s r3,Rp.mono s r4⟩⟩
instance rpTp {α:Type}[Rp α]:Rp (Tp α) :=
 ⟨fun K H v as=>∃ t xs,v = .ref t/\SqT K H t xs/\xs.length<=sizeLine/\Paired (Rp.rel K H) xs as.l,
  fun s ⟨l,xs,e,h,z,p⟩=>⟨l,xs,e,s.tup h,z,Paired.imp' (fun _ _ r=>Rp.mono s r) p⟩⟩
class RpA (α:Type) where
 n:Nat
 rel:FZ9->Hp->List V->α->Prop
 mono:∀ {K:FZ9}{H H':Hp}{v:List V}{a:α},Same H H'->rel K H v a->rel K H' v a
 len:∀ {K:FZ9}{H:Hp}{v:List V}{a:α},rel K H v a->v.length=n
instance raNil:RpA Unit:=⟨0,fun _ _ vs _=>vs=[],fun _ h=>h,fun h=>by rw [h];rfl⟩
instance raCons {α β:Type}[Rp α][RpA β]:RpA (α × β) :=
 ⟨RpA.n β+1,fun K H vs p=>∃ v r,vs=v::r/\Rp.rel K H v p.1/\RpA.rel K H r p.2,
  fun s ⟨v,r,e,h1,h2⟩=>⟨v,r,e,Rp.mono s h1,RpA.mono s h2⟩,fun ⟨v,r,e,h1,h2⟩=>by rw [e,qhA,RpA.len h2]⟩
structure Ext (G H G' H':Hp):Prop where
 gg:Same G G'
 gh:Same G' H'
 hh:Same H H'
 no:∀ b,G b=none->H b≠none->G' b=none
section
variable {G H G1 H1 G2 H2 G0 H0:Hp}{p:Addr}{o:HO}
theorem Ext.refl (s:Same G H):Ext G H G H:=⟨.refl _,s,.refl _,fun _ h _=>h⟩
theorem Ext.trans (x:Ext G H G1 H1)(y:Ext G1 H1 G2 H2):Ext G H G2 H2 :=
 ⟨x.gg.trans y.gg,y.gh,x.hh.trans y.hh,fun b h1 h2=>y.no b (x.no b h1 h2) fun z=>h2 (x.hh.free z)⟩
theorem Same.both (s:Same G H):Same (upd G p o) (upd H p o):=fun b u e=>by
 by_cases hb:b=p
 ·subst hb
  rw [AJ] at e ⊢
  exact e
 ·rw [Aq hb] at e ⊢
  exact s b u e
theorem Ext.new (s:Same G H)(h:H p=none):Ext G H (upd G p o) (upd H p o) :=
 ⟨Same.new (s.free h),s.both,Same.new h,fun b h1 h2=>by
  have hb:b≠p:=fun z=>h2 (by rw [z];exact h)
  rw [Aq hb]
  exact h1⟩
theorem Ext.own (s:Same G H)(h:H p=none):Ext G H G (upd H p o):=⟨.refl _,s.trans (Same.new h),Same.new h,fun _ h _=>h⟩
theorem Ext.put (x:Ext G0 H0 G H)(h0:H0 p=none)(hg:G p=none):Ext G0 H0 G (upd H p o):=⟨x.gg,x.gh.put hg,x.hh.put h0,x.no⟩
theorem Ext.frz (x:Ext G0 H0 G H)(h0:H0 p=none)(hg:G p=none)(hh:H p=some o):Ext G0 H0 (upd G p o) H :=
 ⟨x.gg.trans (Same.new hg),fun b u e=>by
  by_cases hb:b=p
  ·subst hb
   rw [AJ] at e
   rw [hh]
   exact e
  ·rw [Aq hb] at e
   exact x.gh b u e,x.hh,fun b h1 h2=>by
  have hb:b≠p:=fun z=>h2 (by rw [z];exact h0)
  rw [Aq hb]
  exact x.no b h1 h2⟩
end
section
variable {K:FZ9}{σ:St}{G:Hp}
def EV (K:FZ9){α:Type}[Rp α](te:TE)(σ:St)(G:Hp)(m:Option α):Prop :=
 ∀ G1,Same G G1->∀ a,m=some a->∀ H,Same G1 H->∀ Q:VK,(∀ v G2 H2,Ext G1 H G2 H2->Rp.rel K G2 v a->Q v H2)->te σ H Q
def TV (t:TT)(σ:St)(G:Hp)(m:Option Bool):Prop :=
 ∀ G1,Same G G1->∀ a,m=some a->∀ H,Same G1 H->∀ Q:Bool->Hp->Prop,(∀ G2 H2,Ext G1 H G2 H2->Q a H2)->t σ H Q
def AV (K:FZ9){α:Type}[RpA α](t:TA)(σ:St)(G:Hp)(m:Option α):Prop :=
 ∀ G1,Same G G1->∀ a,m=some a->∀ H,Same G1 H->∀ Q:List V->Hp->Prop,(∀ vs G2 H2,Ext G1 H G2 H2->RpA.rel K G2 vs a->Q vs H2)->t σ H Q
def LV (K:FZ9){α:Type}[Rp α](t:TA)(σ:St)(G:Hp)(n:Nat)(m:Option (List α)):Prop :=
 ∀ G1,Same G G1->∀ a,m=some a->∀ H,Same G1 H->∀ Q:List V->Hp->Prop,(∀ vs G2 H2,Ext G1 H G2 H2->vs.length=n->Paired (Rp.rel K G2) vs a->Q vs H2)->t σ H Q
def OV (t:TO)(σ:St)(G:Hp)(m:Option (Option Int)):Prop :=
 ∀ G1,Same G G1->∀ a,m=some a->∀ H,Same G1 H->∀ Q:Option Int->Hp->Prop,(∀ G2 H2,Ext G1 H G2 H2->Q a H2)->t σ H Q
def FV (K:FZ9){α:Type}[Rp α](te:TE)(σ:St)(G:Hp)(m:Option (List α)):Prop :=
 ∀ G1,Same G G1->∀ a,m=some a->∀ H,Same G1 H->∀ Q:VK,(∀ p vs G2 H2,Ext G1 H G2 H2->H p=none->G2 p=none->H2 p=some (.lst vs)->vs.length<=sizeLine->Paired (Rp.rel K G2) vs a->Q (.ref p) H2)->te σ H Q
section
variable {α β γ δ:Type}[Rp α][Rp β][Rp γ][Rp δ]{ta tb tc td:TE}{ma:Option α}{mb:Option β}{mc:Option γ}
theorem EV.run {te:TE}{H:Hp}{a:α}{Q:VK}{m:Option α}(e:EV K te σ G m)(hm:m=some a)(s:Same G H)(k:∀ v G2 H2,Ext G H G2 H2->Rp.rel K G2 v a->Q v H2):te σ H Q:=e G (.refl G) a hm H s Q k
theorem TV.run {t:TT}{H:Hp}{a:Bool}{Q:Bool->Hp->Prop}{m:Option Bool}(e:TV t σ G m)(hm:m=some a)(s:Same G H)(k:∀ G2 H2,Ext G H G2 H2->Q a H2):t σ H Q:=e G (.refl G) a hm H s Q k
theorem EV.of {te:TE}{m m':Option α}(e:EV K te σ G m)(h:m=m'):EV K te σ G m':=h ▸ e
theorem FV.ev {te:TE}{m:Option (List α)}(e:FV K te σ G m):EV K te σ G m:=by
 intro G1 s1 a ha H sH Q k
 refine e G1 s1 a ha H sH Q fun p vs G2 H2 x h0 hg hh hz hp=>?_
 exact k _ _ _ (x.frz h0 hg hh) ⟨p,vs,rfl,.inl AJ,hz,Paired.imp' (fun _ _ r=>Rp.mono (Same.new hg) r) hp⟩
theorem A6 {i:Nat}{v:V}{a:α}(h:σ[i]? = some (some v))(r:Rp.rel K G v a):EV K (Bc i) σ G (some a):=fun G1 s a' e H sH Q k=>by
 cases e
 exact ⟨v,h,k v G1 H (.refl sH) (Rp.mono s r)⟩
theorem Hk {v:V}{a:α}(h:∀ G,Rp.rel K G v a):EV K (tC v) σ G (some a):=fun G1 s a' e H sH Q k=>by
 cases e
 exact k v G1 H (.refl sH) (h _)
theorem Aj {i:Int}:EV K (tC (.int i)) σ G (some i):=Hk fun _=>rfl
theorem Ge {b:Bool}:EV K (tC (.bl b)) σ G (some b):=Hk fun _=>rfl
theorem B9 {x:Str}(h:x.length<=sizeLine:=by decide +kernel):EV K (tC (.str x)) σ G (some x):=Hk fun _=>⟨rfl,h⟩
theorem C6 {r:R2}{f:α->β->Option γ}
  (h:∀ {G H:Hp}{v u:V}{a:α}{b:β}{c:γ},Same G H->Rp.rel K G v a->Rp.rel K G u b->f a b=some c->∀ {Q:VK},(∀ w G2 H2,Ext G H G2 H2->Rp.rel K G2 w c->Q w H2)->r v u H Q)
  (ea:EV K ta σ G ma) (eb:EV K tb σ G mb):EV K (tOp r ta tb) σ G (ma.bind fun a=>mb.bind fun b=>f a b):=by
 intro G1 s1 c hc H sH Q k
 obtain ⟨a,ha,hc⟩:=qaA.mp hc
 obtain ⟨b,hb,hc⟩:=qaA.mp hc
 refine ea G1 s1 a ha H sH _ fun v G2 H2 x2 r2=>?_
 refine eb G2 (s1.trans x2.gg) b hb H2 x2.gh _ fun u G3 H3 x3 r3=>?_
 exact h x3.gh (Rp.mono x3.gg r2) r3 hc fun w G4 H4 x4 r4=>k w G4 H4 ((x2.trans x3).trans x4) r4
theorem ev_un {r:V->Hp->VK->Prop}{f:α->Option γ}
  (h:∀ {G H:Hp}{v:V}{a:α}{c:γ},Same G H->Rp.rel K G v a->f a=some c->∀ {Q:VK},(∀ w G2 H2,Ext G H G2 H2->Rp.rel K G2 w c->Q w H2)->r v H Q)
  (ea:EV K ta σ G ma):EV K (tUn r ta) σ G (ma.bind fun a=>f a):=by
 intro G1 s1 c hc H sH Q k
 obtain ⟨a,ha,hc⟩:=qaA.mp hc
 refine ea G1 s1 a ha H sH _ fun v G2 H2 x2 r2=>?_
 exact h x2.gh r2 hc fun w G4 H4 x4 r4=>k w G4 H4 (x2.trans x4) r4
instance decMul (i j:Int):Decidable (CMul i j):=by unfold CMul;infer_instance
instance decDiv (i j:Int):Decidable (CDiv i j):=by unfold CDiv;infer_instance
instance decPow (i j:Int):Decidable (CPow i j):=by unfold CPow;infer_instance
def Ho (a b:Int):Option Int:=if CMul a b then some (a * b) else none
def divO (a b:Int):Option Int:=if CDiv a b then some (a / b) else none
def Hn (a b:Int):Option Int:=if 0<b then some (a % b) else none
def powO (a b:Int):Option Int:=if CPow a b then some (a ^ b.toNat) else none
theorem Ay {p:Prop}[Decidable p]{α:Type}{a c:α}(h:(if p then some a else none)=some c):p/\a=c:=by
 by_cases hp:p
 ·rw [if_pos hp] at h
  exact ⟨hp,qpB h⟩
 ·rw [if_neg hp] at h
  cases h
section
variable {ia ib:Option Int}
theorem CO (ea:EV K ta σ G ia)(eb:EV K tb σ G ib):EV K (tOp (rPlus K) ta tb) σ G (ia.bind fun a=>ib.bind fun b=>some (a+b)) :=
 C6 (fun s ra rb e Q k=>by cases ra;cases rb;cases e;exact k _ _ _ (.refl s) rfl) ea eb
theorem ev_sub (ea:EV K ta σ G ia)(eb:EV K tb σ G ib):EV K (tOp (rI0 fun i j=>.int (i - j)) ta tb) σ G (ia.bind fun a=>ib.bind fun b=>some (a - b)) :=
 C6 (fun s ra rb e Q k=>by cases ra;cases rb;cases e;exact ⟨_,_,rfl,rfl,k _ _ _ (.refl s) rfl⟩) ea eb
theorem ev_mul (ea:EV K ta σ G ia)(eb:EV K tb σ G ib):EV K (tOp (rMul K) ta tb) σ G (ia.bind fun a=>ib.bind fun b=>Ho a b) :=
 C6 (fun s ra rb e Q k=>by cases ra;cases rb;obtain ⟨h,rfl⟩:=Ay e;exact ⟨h,k _ _ _ (.refl s) rfl⟩) ea eb
theorem ev_mod (ea:EV K ta σ G ia)(eb:EV K tb σ G ib):EV K (tOp (rI (fun _ j=>0<j) fun i j=>.int (i % j)) ta tb) σ G (ia.bind fun a=>ib.bind fun b=>Hn a b) :=
 C6 (fun s ra rb e Q k=>by cases ra;cases rb;obtain ⟨h,rfl⟩:=Ay e;exact ⟨_,_,rfl,rfl,h,k _ _ _ (.refl s) rfl⟩) ea eb
theorem ev_div (ea:EV K ta σ G ia)(eb:EV K tb σ G ib):EV K (tOp (rI CDiv fun i j=>.int (i / j)) ta tb) σ G (ia.bind fun a=>ib.bind fun b=>divO a b) :=
 C6 (fun s ra rb e Q k=>by cases ra;cases rb;obtain ⟨h,rfl⟩:=Ay e;exact ⟨_,_,rfl,rfl,h,k _ _ _ (.refl s) rfl⟩) ea eb
theorem ev_pow (ea:EV K ta σ G ia)(eb:EV K tb σ G ib):EV K (tOp (rI CPow fun i j=>.int (i ^ j.toNat)) ta tb) σ G (ia.bind fun a=>ib.bind fun b=>powO a b) :=
 C6 (fun s ra rb e Q k=>by cases ra;cases rb;obtain ⟨h,rfl⟩:=Ay e;exact ⟨_,_,rfl,rfl,h,k _ _ _ (.refl s) rfl⟩) ea eb
theorem ev_neg (ea:EV K ta σ G ia):EV K (tUn (rU fun i=>.int (-i)) ta) σ G (ia.bind fun a=>some (-a)) :=
 ev_un (fun s ra e Q k=>by cases ra;cases e;exact ⟨_,rfl,k _ _ _ (.refl s) rfl⟩) ea
theorem EC {p:Int->Int->Bool}{q:List Nat->List Nat->Bool}(ea:EV K ta σ G ia)(eb:EV K tb σ G ib):EV K (tOp (rOrd p q) ta tb) σ G (ia.bind fun a=>ib.bind fun b=>some (p a b)) :=
 C6 (fun s ra rb e Q k=>by cases ra;cases rb;cases e;exact k _ _ _ (.refl s) rfl) ea eb
theorem GC (ea:EV K ta σ G ia)(eb:EV K tb σ G ib):EV K (tOp rEq ta tb) σ G (ia.bind fun a=>ib.bind fun b=>some (decide (a=b))) :=
 C6 (fun s ra rb e Q k=>by cases ra;cases rb;cases e;exact ⟨rfl,k _ _ _ (.refl s) (by show V.bl _=V.bl _;congr 1;simp)⟩) ea eb
theorem ev_neI (ea:EV K ta σ G ia)(eb:EV K tb σ G ib):EV K (tOp rNe ta tb) σ G (ia.bind fun a=>ib.bind fun b=>some (!decide (a=b))) :=
 C6 (fun s ra rb e Q k=>by cases ra;cases rb;cases e;exact ⟨rfl,k _ _ _ (.refl s) (by show V.bl _=V.bl _;congr 1;simp)⟩) ea eb
end
section
variable {ba bb:Option Bool}
theorem ev_eqB (ea:EV K ta σ G ba)(eb:EV K tb σ G bb):EV K (tOp rEq ta tb) σ G (ba.bind fun a=>bb.bind fun b=>some (decide (a=b))) :=
 C6 (fun s ra rb e Q k=>by cases ra;cases rb;cases e;exact ⟨rfl,k _ _ _ (.refl s) (by show V.bl _=V.bl _;congr 1;simp)⟩) ea eb
theorem ev_not (ea:EV K ta σ G ba):EV K (tNotV ta) σ G (ba.bind fun a=>some (!a)):=by
 intro G1 s1 c hc H sH Q k
 obtain ⟨a,ha,hc⟩:=qaA.mp hc
 cases hc
 refine ea G1 s1 a ha H sH _ fun v G2 H2 x2 r2=>?_
 cases r2
 exact ⟨_,rfl,k _ _ _ x2 rfl⟩
theorem ev_and (ea:EV K ta σ G ba)(eb:EV K tb σ G bb):EV K (tAndV ta tb) σ G (ba.bind fun a=>cond a bb (some false)):=by
 intro G1 s1 c hc H sH Q k
 obtain ⟨a,ha,hc⟩:=qaA.mp hc
 refine ea G1 s1 a ha H sH _ fun v G2 H2 x2 r2=>?_
 cases r2
 refine ⟨_,rfl,?_⟩
 cases a with
 | false=>cases hc;exact Bs (k _ _ _ x2 rfl)
 | true=>exact Bw (eb G2 (s1.trans x2.gg) c hc H2 x2.gh _ fun u G3 H3 x3 r3=>k _ _ _ (x2.trans x3) r3)
theorem ev_or (ea:EV K ta σ G ba)(eb:EV K tb σ G bb):EV K (tOrV ta tb) σ G (ba.bind fun a=>cond a (some true) bb):=by
 intro G1 s1 c hc H sH Q k
 obtain ⟨a,ha,hc⟩:=qaA.mp hc
 refine ea G1 s1 a ha H sH _ fun v G2 H2 x2 r2=>?_
 cases r2
 refine ⟨_,rfl,?_⟩
 cases a with
 | true=>cases hc;exact Bw (k _ _ _ x2 rfl)
 | false=>exact Bs (eb G2 (s1.trans x2.gg) c hc H2 x2.gh _ fun u G3 H3 x3 r3=>k _ _ _ (x2.trans x3) r3)
theorem AT (ea:EV K ta σ G ba):TV (tTest ta) σ G ba:=by
 intro G1 s1 c hc H sH Q k
 refine ea G1 s1 c hc H sH _ fun v G2 H2 x2 r2=>?_
 cases r2
 exact ⟨_,rfl,k _ _ x2⟩
theorem tv_not {t:TT}(ea:TV t σ G ba):TV (tNot t) σ G (ba.bind fun a=>some (!a)):=by
 intro G1 s1 c hc H sH Q k
 obtain ⟨a,ha,hc⟩:=qaA.mp hc
 cases hc
 exact ea G1 s1 a ha H sH _ fun G2 H2 x2=>k _ _ x2
theorem tv_and {t u:TT}(ea:TV t σ G ba)(eb:TV u σ G bb):TV (tAnd t u) σ G (ba.bind fun a=>cond a bb (some false)):=by
 intro G1 s1 c hc H sH Q k
 obtain ⟨a,ha,hc⟩:=qaA.mp hc
 refine ea G1 s1 a ha H sH _ fun G2 H2 x2=>?_
 cases a with
 | false=>cases hc;exact Bs (k _ _ x2)
 | true=>exact Bw (eb G2 (s1.trans x2.gg) c hc H2 x2.gh _ fun G3 H3 x3=>k _ _ (x2.trans x3))
theorem HX {t u:TT}(ea:TV t σ G ba)(eb:TV u σ G bb):TV (tOr t u) σ G (ba.bind fun a=>cond a (some true) bb):=by
 intro G1 s1 c hc H sH Q k
 obtain ⟨a,ha,hc⟩:=qaA.mp hc
 refine ea G1 s1 a ha H sH _ fun G2 H2 x2=>?_
 cases a with
 | true=>cases hc;exact Bw (k _ _ x2)
 | false=>exact Bs (eb G2 (s1.trans x2.gg) c hc H2 x2.gh _ fun G3 H3 x3=>k _ _ (x2.trans x3))
theorem tv_tru {f:α->Bool}(h:∀ {G:Hp}{v:V}{a:α},Rp.rel K G v a->TruV K v G (f a))(mn:∀ {G H:Hp}{v:V}{k:Bool},Same G H->TruV K v G k->TruV K v H k)(ea:EV K ta σ G ma) :
  TV (fun σ H Q=>ta σ H fun x H'=>∃ k,TruV K x H' k/\Q k H') σ G (ma.bind fun a=>some (f a)):=by
 intro G1 s1 c hc H sH Q k
 obtain ⟨a,ha,hc⟩:=qaA.mp hc
 cases hc
 refine ea G1 s1 a ha H sH _ fun v G2 H2 x2 r2=>?_
 exact ⟨_,mn x2.gh (h r2),k _ _ x2⟩
end
end
end
section
variable {K:FZ9}{σ:St}{G:Hp}{α β γ δ:Type}[Rp α][Rp β][Rp γ][Rp δ]{ta tb tc td:TE}{ma:Option α}{mb:Option β}{mc:Option γ}{md:Option δ}
section
variable {sa sb:Option Str}{ia ib:Option Int}
def catS (a b:Str):Option Str:=if a.length+b.length<=sizeLine then some (a++b) else none
theorem ev_catS (ea:EV K ta σ G sa)(eb:EV K tb σ G sb):EV K (tOp (rPlus K) ta tb) σ G (sa.bind fun a=>sb.bind fun b=>catS a b) :=
 C6 (fun s ra rb e Q k=>by
  obtain ⟨rfl,z1⟩:=ra;obtain ⟨rfl,z2⟩:=rb;obtain ⟨h,rfl⟩:=Ay e
  exact ⟨h,k _ _ _ (.refl s) ⟨rfl,by rw [len_app];exact h⟩⟩) ea eb
theorem ev_ordS {p:Int->Int->Bool}{q:List Nat->List Nat->Bool}(ea:EV K ta σ G sa)(eb:EV K tb σ G sb):EV K (tOp (rOrd p q) ta tb) σ G (sa.bind fun a=>sb.bind fun b=>some (q a.cps.toList b.cps.toList)) :=
 C6 (fun s ra rb e Q k=>by obtain ⟨rfl,z1⟩:=ra;obtain ⟨rfl,z2⟩:=rb;cases e;exact k _ _ _ (.refl s) rfl) ea eb
theorem Bb (ea:EV K ta σ G sa)(eb:EV K tb σ G sb):EV K (tOp rEq ta tb) σ G (sa.bind fun a=>sb.bind fun b=>some (decide (a=b))) :=
 C6 (fun s ra rb e Q k=>by obtain ⟨rfl,z1⟩:=ra;obtain ⟨rfl,z2⟩:=rb;cases e;exact ⟨rfl,k _ _ _ (.refl s) (by show V.bl _=V.bl _;congr 1;simp)⟩) ea eb
theorem ev_neS (ea:EV K ta σ G sa)(eb:EV K tb σ G sb):EV K (tOp rNe ta tb) σ G (sa.bind fun a=>sb.bind fun b=>some (!decide (a=b))) :=
 C6 (fun s ra rb e Q k=>by obtain ⟨rfl,z1⟩:=ra;obtain ⟨rfl,z2⟩:=rb;cases e;exact ⟨rfl,k _ _ _ (.refl s) (by show V.bl _=V.bl _;congr 1;simp)⟩) ea eb
def inS (a b:Str):Bool:=!(Builtin.Str.occurrences b a 0 b.length 1).isEmpty
theorem ev_inS (ea:EV K ta σ G sa)(eb:EV K tb σ G sb):EV K (tOp (fun x y H Q=>∃ i j,x = .str i/\y = .str j/\Q (.bl (!(Builtin.Str.occurrences j i 0 j.length 1).isEmpty)) H) ta tb) σ G (sa.bind fun a=>sb.bind fun b=>some (inS a b)) :=
 C6 (fun s ra rb e Q k=>by obtain ⟨rfl,z1⟩:=ra;obtain ⟨rfl,z2⟩:=rb;cases e;exact ⟨_,_,rfl,rfl,k _ _ _ (.refl s) rfl⟩) ea eb
theorem ev_atS (ea:EV K ta σ G sa)(eb:EV K tb σ G ib):EV K (tOp (rAt K) ta tb) σ G (sa.bind fun a=>ib.bind fun i=>(atI a.cps.toList i).bind fun c=>some (⟨#[c]⟩:Str)) :=
 C6 (fun s ra rb e Q k=>by
  obtain ⟨rfl,z1⟩:=ra;cases rb
  obtain ⟨c,hc,e⟩:=qaA.mp e
  cases e
  exact ⟨z1,c,hc,k _ _ _ (.refl s) ⟨rfl,by show 1<=sizeLine;decide⟩⟩) ea eb
end
theorem paired_atI {R:V->α->Prop}{xs:List V}{as:List α}{i:Int}{a:α}(p:Paired R xs as)(h:atI as i=some a):∃ v,atI xs i=some v/\R v a:=by
 have hl:=Paired.length p
 unfold atI at h ⊢
 obtain ⟨j,hj,h⟩:=qaA.mp h
 rw [hl,hj]
 have hlt:j<xs.length:=by
  have:=(qvA.mp h).1
  omega
 exact ⟨xs[j],qwA hlt,Paired.at' p (qwA hlt) h⟩
theorem Paired.app {α β:Type}{F:α->β->Prop}:∀ {l1 l2:List α}{m1 m2:List β},Paired F l1 m1->Paired F l2 m2->Paired F (l1++l2) (m1++m2)
 | _,_,_,_,.nil,h=>h
 | _,_,_,_,.cons r t,h=>.cons r (Paired.app t h)
theorem Paired.tk {α β:Type}{F:α->β->Prop}:∀ (n:Nat) {l:List α}{m:List β},Paired F l m->Paired F (l.take n) (m.take n)
 | 0,_,_,_=>by simpa using .nil
 | n+1,_,_,.nil=>by simpa using .nil
 | n+1,_,_,.cons r t=>.cons r (Paired.tk n t)
theorem Paired.dp {α β:Type}{F:α->β->Prop}:∀ (n:Nat) {l:List α}{m:List β},Paired F l m->Paired F (l.drop n) (m.drop n)
 | 0,_,_,h=>h
 | n+1,_,_,.nil=>by simpa using .nil
 | n+1,_,_,.cons r t=>Paired.dp n t
section
variable {la lb:Option (List α)}{ia ib:Option Int}
theorem Dg (ea:EV K ta σ G la)(eb:EV K tb σ G ib):EV K (tOp (rAt K) ta tb) σ G (la.bind fun a=>ib.bind fun i=>atI a i) :=
 C6 (fun s ra rb e Q k=>by
  obtain ⟨l,xs,rfl,h,z,p⟩:=ra;cases rb
  obtain ⟨v,hv,r⟩:=paired_atI p e
  exact .inl ⟨xs,v,.inl (s.rd h),hv,k _ _ _ (.refl s) r⟩) ea eb
theorem B7 {pa:Option (Tp α)}(ea:EV K ta σ G pa)(eb:EV K tb σ G ib):EV K (tOp (rAt K) ta tb) σ G (pa.bind fun a=>ib.bind fun i=>atI a.l i) :=
 C6 (fun s ra rb e Q k=>by
  obtain ⟨l,xs,rfl,h,z,p⟩:=ra;cases rb
  obtain ⟨v,hv,r⟩:=paired_atI p e
  exact .inr ⟨xs,v,s.tup h,hv,k _ _ _ (.refl s) r⟩) ea eb
theorem Ed {τ:Type}[Rp τ]{mt:Option τ}{i:Int}{f:τ->α}(h:∀ {G:Hp}{v:V}{p:τ},Rp.rel K G v p->∃ t xs w,v = .ref t/\SqT K G t xs/\atI xs i=some w/\Rp.rel K G w (f p))(ea:EV K ta σ G mt) :
  EV K (tOp (rAt K) ta (tC (.int i))) σ G (mt.bind fun p=>some (f p)):=by
 intro G1 s1 c hc H sH Q k
 obtain ⟨a,ha,hc⟩:=qaA.mp hc
 cases hc
 refine ea G1 s1 a ha H sH _ fun v G2 H2 x2 r2=>?_
 obtain ⟨t,xs,w,rfl,ht,hw,r⟩:=h r2
 exact .inr ⟨xs,w,x2.gh.tup ht,hw,k _ _ _ x2 r⟩
theorem ev_fst {mt:Option (α × β)}(ea:EV K ta σ G mt):EV K (tOp (rAt K) ta (tC (.int 0))) σ G (mt.bind fun p=>some p.1) :=
 Ed (τ:=α × β) (fun ⟨t,a,b,e,h,r1,r2⟩=>⟨t,_,a,e,h,rfl,r1⟩) ea
theorem ev_snd {mt:Option (α × β)}(ea:EV K ta σ G mt):EV K (tOp (rAt K) ta (tC (.int 1))) σ G (mt.bind fun p=>some p.2) :=
 Ed (τ:=α × β) (fun ⟨t,a,b,e,h,r1,r2⟩=>⟨t,_,b,e,h,rfl,r2⟩) ea
theorem ev_p31 {mt:Option (T3 α β γ)}(ea:EV K ta σ G mt):EV K (tOp (rAt K) ta (tC (.int 0))) σ G (mt.bind fun p=>some p.a) :=
 Ed (τ:=T3 α β γ) (fun ⟨t,a,b,c,e,h,r1,r2,r3⟩=>⟨t,_,a,e,h,rfl,r1⟩) ea
theorem ev_p32 {mt:Option (T3 α β γ)}(ea:EV K ta σ G mt):EV K (tOp (rAt K) ta (tC (.int 1))) σ G (mt.bind fun p=>some p.b) :=
 Ed (τ:=T3 α β γ) (fun ⟨t,a,b,c,e,h,r1,r2,r3⟩=>⟨t,_,b,e,h,rfl,r2⟩) ea
theorem ev_p33 {mt:Option (T3 α β γ)}(ea:EV K ta σ G mt):EV K (tOp (rAt K) ta (tC (.int 2))) σ G (mt.bind fun p=>some p.c) :=
 Ed (τ:=T3 α β γ) (fun ⟨t,a,b,c,e,h,r1,r2,r3⟩=>⟨t,_,c,e,h,rfl,r3⟩) ea
theorem HN {mt:Option (T4 α β γ δ)}(ea:EV K ta σ G mt):EV K (tOp (rAt K) ta (tC (.int 0))) σ G (mt.bind fun p=>some p.a) :=
 Ed (τ:=T4 α β γ δ) (fun ⟨t,a,b,c,d,e,h,r1,r2,r3,r4⟩=>⟨t,_,a,e,h,rfl,r1⟩) ea
theorem ev_p42 {mt:Option (T4 α β γ δ)}(ea:EV K ta σ G mt):EV K (tOp (rAt K) ta (tC (.int 1))) σ G (mt.bind fun p=>some p.b) :=
 Ed (τ:=T4 α β γ δ) (fun ⟨t,a,b,c,d,e,h,r1,r2,r3,r4⟩=>⟨t,_,b,e,h,rfl,r2⟩) ea
theorem HJ {mt:Option (T4 α β γ δ)}(ea:EV K ta σ G mt):EV K (tOp (rAt K) ta (tC (.int 2))) σ G (mt.bind fun p=>some p.c) :=
 Ed (τ:=T4 α β γ δ) (fun ⟨t,a,b,c,d,e,h,r1,r2,r3,r4⟩=>⟨t,_,c,e,h,rfl,r3⟩) ea
theorem ev_p44 {mt:Option (T4 α β γ δ)}(ea:EV K ta σ G mt):EV K (tOp (rAt K) ta (tC (.int 3))) σ G (mt.bind fun p=>some p.d) :=
 Ed (τ:=T4 α β γ δ) (fun ⟨t,a,b,c,d,e,h,r1,r2,r3,r4⟩=>⟨t,_,d,e,h,rfl,r4⟩) ea
theorem fv_of {H:Hp}{Q:VK}{as:List α}{G1:Hp}(s:Same G1 H){vs:List V}(hz:vs.length<=sizeLine)(hp:Paired (Rp.rel K G1) vs as)
  (k:∀ p vs G2 H2,Ext G1 H G2 H2->H p=none->G2 p=none->H2 p=some (.lst vs)->vs.length<=sizeLine->Paired (Rp.rel K G2) vs as->Q (.ref p) H2):∀ p,H p=none->Q (.ref p) (upd H p (.lst vs)) :=
 fun p h=>k p vs G1 _ (.own s h) h (s.free h) AJ hz hp
theorem FV.mono {H H' G1 G2:Hp}{as:List α}{Q:VK}(x:Ext G1 H G2 H')
  (k:∀ p vs G3 H3,Ext G1 H G3 H3->H p=none->G3 p=none->H3 p=some (.lst vs)->vs.length<=sizeLine->Paired (Rp.rel K G3) vs as->Q (.ref p) H3) :
  ∀ p vs G3 H3,Ext G2 H' G3 H3->H' p=none->G3 p=none->H3 p=some (.lst vs)->vs.length<=sizeLine->Paired (Rp.rel K G3) vs as->Q (.ref p) H3 :=
 fun p vs G3 H3 y h0=>k p vs G3 H3 (x.trans y) (x.hh.free h0)
def catL {α:Type}(a b:List α):Option (List α):=if a.length+b.length<=sizeLine then some (a++b) else none
theorem fv_cat (ea:EV K ta σ G la)(eb:EV K tb σ G lb):FV K (tOp (rPlus K) ta tb) σ G (la.bind fun a=>lb.bind fun b=>catL a b):=by
 intro G1 s1 c hc H sH Q k
 obtain ⟨a,ha,hc⟩:=qaA.mp hc
 obtain ⟨b,hb,hc⟩:=qaA.mp hc
 obtain ⟨hl,rfl⟩:=Ay hc
 refine ea G1 s1 a ha H sH _ fun v G2 H2 x2 r2=>?_
 refine eb G2 (s1.trans x2.gg) b hb H2 x2.gh _ fun u G3 H3 x3 r3=>?_
 obtain ⟨l1,xs,rfl,h1,z1,p1⟩:=Rp.mono x3.gg r2
 obtain ⟨l2,ys,rfl,h2,z2,p2⟩:=r3
 have e1:=Paired.length p1
 have e2:=Paired.length p2
 have hz:(xs++ys).length<=sizeLine:=by rw [qgA];omega
 exact ⟨xs,ys,x3.gh.rd h1,x3.gh.rd h2,by rw [qgA] at hz;exact hz,fv_of x3.gh hz (Paired.app p1 p2) (FV.mono (x2.trans x3) k)⟩
def cutA {α:Type}(xs:List α)(lo hi:Option Int):List α:=(xs.drop (HT.sIx xs.length 0 lo)).take (HT.sIx xs.length xs.length hi - HT.sIx xs.length 0 lo)
theorem Paired.cut {α:Type}{R:V->α->Prop}{xs:List V}{as:List α}(p:Paired R xs as)(lo hi:Option Int):Paired R (cutV xs lo hi) (cutA as lo hi):=by
 unfold cutV cutA
 rw [Paired.length p]
 exact Paired.tk _ (Paired.dp _ p)
section
variable {t1 t2:TO}{m1 m2:Option (Option Int)}
theorem ov_none:OV tNoPart σ G (some none):=fun G1 s1 a ha H sH Q k=>by
 cases ha
 exact k _ _ (.refl sH)
theorem ov_some (ea:EV K ta σ G ia):OV (tPart ta) σ G (ia.bind fun i=>some (some i)):=by
 intro G1 s1 c hc H sH Q k
 obtain ⟨a,ha,hc⟩:=qaA.mp hc
 cases hc
 refine ea G1 s1 a ha H sH _ fun v G2 H2 x2 r2=>?_
 cases r2
 exact ⟨_,rfl,k _ _ x2⟩
end
end
section
variable {t:TA}{n:Nat}{ml:Option (List α)}
theorem Af:LV K BL σ G 0 (some ([]:List α)):=fun G1 s1 a ha H sH Q k=>by
 cases ha
 exact k _ _ _ (.refl sH) rfl .nil
theorem AC (ea:EV K ta σ G ma)(er:LV K t σ G n ml):LV K (AQ ta t) σ G (n+1) (ma.bind fun a=>ml.bind fun r=>some (a::r)):=by
 intro G1 s1 c hc H sH Q k
 obtain ⟨a,ha,hc⟩:=qaA.mp hc
 obtain ⟨r,hr,hc⟩:=qaA.mp hc
 cases hc
 refine ea G1 s1 a ha H sH _ fun v G2 H2 x2 r2=>?_
 refine er G2 (s1.trans x2.gg) r hr H2 x2.gh _ fun vs G3 H3 x3 hl hp=>?_
 exact k _ _ _ (x2.trans x3) (by rw [qhA,hl]) (.cons (Rp.mono x3.gg r2) hp)
theorem CZ (e:LV K t σ G n ml)(hn:n<=sizeLine:=by decide):FV K (tLst t) σ G ml:=by
 intro G1 s1 c hc H sH Q k
 refine e G1 s1 c hc H sH _ fun vs G2 H2 x2 hl hp=>?_
 exact ⟨by omega,fv_of x2.gh (by omega) hp (FV.mono x2 k)⟩
theorem ev_tupL (e:LV K t σ G n ml)(hn:n<=sizeLine:=by decide):EV K (HH t) σ G (ml.bind fun l=>some (Tp.mk l)):=by
 intro G1 s1 c hc H sH Q k
 obtain ⟨l,hl,hc⟩:=qaA.mp hc
 cases hc
 refine e G1 s1 l hl H sH _ fun vs G2 H2 x2 hl hp=>⟨by omega,fun p h=>?_⟩
 exact k _ _ _ (x2.trans (.new x2.gh h)) ⟨p,vs,rfl,SqT.of AJ,by omega,Paired.imp' (fun _ _ r=>Rp.mono (Same.new (x2.gh.free h)) r) hp⟩
theorem ev_tup2 (ea:EV K ta σ G ma)(eb:EV K tb σ G mb):EV K (HH (AQ ta (AQ tb BL))) σ G (ma.bind fun a=>mb.bind fun b=>some (a,b)):=by
 intro G1 s1 c hc H sH Q k
 obtain ⟨a,ha,hc⟩:=qaA.mp hc
 obtain ⟨b,hb,hc⟩:=qaA.mp hc
 cases hc
 refine ea G1 s1 a ha H sH _ fun v G2 H2 x2 r2=>?_
 refine eb G2 (s1.trans x2.gg) b hb H2 x2.gh _ fun u G3 H3 x3 r3=>⟨by show 2<=sizeLine;decide,fun p h=>?_⟩
 have s:=Same.new (o:=.tup [v,u]) (x3.gh.free h)
 exact k _ _ _ ((x2.trans x3).trans (.new x3.gh h)) ⟨p,v,u,rfl,SqT.of AJ,Rp.mono (x3.gg.trans s) r2,Rp.mono s r3⟩
theorem HD (ea:EV K ta σ G ma)(eb:EV K tb σ G mb)(ec:EV K tc σ G mc):EV K (HH (AQ ta (AQ tb (AQ tc BL)))) σ G (ma.bind fun a=>mb.bind fun b=>mc.bind fun c=>some (T3.mk a b c)):=by
 intro G1 s1 c hc H sH Q k
 obtain ⟨a,ha,hc⟩:=qaA.mp hc
 obtain ⟨b,hb,hc⟩:=qaA.mp hc
 obtain ⟨c',hc',hc⟩:=qaA.mp hc
 cases hc
 refine ea G1 s1 a ha H sH _ fun v G2 H2 x2 r2=>?_
 refine eb G2 (s1.trans x2.gg) b hb H2 x2.gh _ fun u G3 H3 x3 r3=>?_
 refine ec G3 (s1.trans (x2.trans x3).gg) c' hc' H3 x3.gh _ fun w G4 H4 x4 r4=>⟨by show 3<=sizeLine;decide,fun p h=>?_⟩
 have s:=Same.new (o:=.tup [v,u,w]) (x4.gh.free h)
 exact k _ _ _ (((x2.trans x3).trans x4).trans (.new x4.gh h)) ⟨p,v,u,w,rfl,SqT.of AJ,Rp.mono ((x3.trans x4).gg.trans s) r2,Rp.mono (x4.gg.trans s) r3,Rp.mono s r4⟩
theorem ev_tup4 (ea:EV K ta σ G ma)(eb:EV K tb σ G mb)(ec:EV K tc σ G mc)(ed:EV K td σ G md):EV K (HH (AQ ta (AQ tb (AQ tc (AQ td BL))))) σ G (ma.bind fun a=>mb.bind fun b=>mc.bind fun c=>md.bind fun d=>some (T4.mk a b c d)):=by
 intro G1 s1 c hc H sH Q k
 obtain ⟨a,ha,hc⟩:=qaA.mp hc
 obtain ⟨b,hb,hc⟩:=qaA.mp hc
 obtain ⟨c',hc',hc⟩:=qaA.mp hc
 obtain ⟨d,hd,hc⟩:=qaA.mp hc
 cases hc
 refine ea G1 s1 a ha H sH _ fun v G2 H2 x2 r2=>?_
 refine eb G2 (s1.trans x2.gg) b hb H2 x2.gh _ fun u G3 H3 x3 r3=>?_
 refine ec G3 (s1.trans (x2.trans x3).gg) c' hc' H3 x3.gh _ fun w G4 H4 x4 r4=>?_
 refine ed G4 (s1.trans ((x2.trans x3).trans x4).gg) d hd H4 x4.gh _ fun y G5 H5 x5 r5=>⟨by show 4<=sizeLine;decide,fun p h=>?_⟩
 have s:=Same.new (o:=.tup [v,u,w,y]) (x5.gh.free h)
 exact k _ _ _ ((((x2.trans x3).trans x4).trans x5).trans (.new x5.gh h)) ⟨p,v,u,w,y,rfl,SqT.of AJ,Rp.mono (((x3.trans x4).trans x5).gg.trans s) r2,Rp.mono ((x4.trans x5).gg.trans s) r3,Rp.mono (x5.gg.trans s) r4,Rp.mono s r5⟩
end
section
variable {t:TA}{A B:Type}[RpA A][RpA B]{mA:Option A}
theorem av_nil:AV K BL σ G (some ()):=fun G1 s1 a ha H sH Q k=>by
 cases ha
 exact k _ _ _ (.refl sH) rfl
theorem av_cons (ea:EV K ta σ G ma)(er:AV K t σ G mA):AV K (AQ ta t) σ G (ma.bind fun a=>mA.bind fun r=>some (a,r)):=by
 intro G1 s1 c hc H sH Q k
 obtain ⟨a,ha,hc⟩:=qaA.mp hc
 obtain ⟨r,hr,hc⟩:=qaA.mp hc
 cases hc
 refine ea G1 s1 a ha H sH _ fun v G2 H2 x2 r2=>?_
 refine er G2 (s1.trans x2.gg) r hr H2 x2.gh _ fun vs G3 H3 x3 hp=>?_
 exact k _ _ _ (x2.trans x3) ⟨v,vs,rfl,Rp.mono x3.gg r2,hp⟩
def spM (K:FZ9){A:Type}{ρ:Type}[RpA A][Rp ρ](m:A->Option ρ):Sp:=fun vs H Q _ =>
 ∃ G a r,Same G H/\RpA.rel K G vs a/\m a=some r/\∀ v G2 H2,Ext G H G2 H2->Rp.rel K G2 v r->Q v H2
theorem Ak {A:Type}{ρ:Type}[RpA A][Rp ρ]{m:A->Option ρ}{vs:List V}{H:Hp}{Q:VK}{E:XK}(h:spM K m vs H Q E):vs.length=RpA.n A:=by
 obtain ⟨G,a,r,_,h,_⟩:=h
 exact RpA.len h
theorem ev_def {m:A->Option α}(ea:AV K t σ G mA):EV K (ES (spM K m) [] E0 t) σ G (mA.bind fun a=>m a):=by
 intro G1 s1 c hc H sH Q k
 obtain ⟨a,ha,hc⟩:=qaA.mp hc
 refine ea G1 s1 a ha H sH _ fun vs G2 H2 x2 hp=>?_
 show spM K m (vs++[]) H2 Q E0
 rw [qfB]
 exact ⟨G2,a,c,x2.gh,hp,hc,fun v G3 H3 x3 r3=>k v G3 H3 (x2.trans x3) r3⟩
theorem EA {la:Option (List α)}(ea:EV K ta σ G la):EV K (tCB (rLen K) (AQ ta BL)) σ G (la.bind fun a=>some (a.length:Int)):=by
 intro G1 s1 c hc H sH Q k
 obtain ⟨a,ha,hc⟩:=qaA.mp hc
 cases hc
 refine ea G1 s1 a ha H sH _ fun v G2 H2 x2 r2=>?_
 obtain ⟨l,xs,rfl,h,z,p⟩:=r2
 exact ⟨xs,.inl (.inl (x2.gh.rd h)),by rw [Paired.length p];exact k _ _ _ x2 rfl⟩
theorem ev_lenT {la:Option (Tp α)}(ea:EV K ta σ G la):EV K (tCB (rLen K) (AQ ta BL)) σ G (la.bind fun a=>some (a.l.length:Int)):=by
 intro G1 s1 c hc H sH Q k
 obtain ⟨a,ha,hc⟩:=qaA.mp hc
 cases hc
 refine ea G1 s1 a ha H sH _ fun v G2 H2 x2 r2=>?_
 obtain ⟨l,xs,rfl,h,z,p⟩:=r2
 exact ⟨xs,.inr (x2.gh.tup h),by rw [Paired.length p];exact k _ _ _ x2 rfl⟩
theorem ev_lenS {sa:Option Str}(ea:EV K ta σ G sa):EV K (tCB (rLen K) (AQ ta BL)) σ G (sa.bind fun a=>some (a.length:Int)):=by
 intro G1 s1 c hc H sH Q k
 obtain ⟨a,ha,hc⟩:=qaA.mp hc
 cases hc
 refine ea G1 s1 a ha H sH _ fun v G2 H2 x2 r2=>?_
 obtain ⟨rfl,z⟩:=r2
 exact ⟨z,k _ _ _ x2 rfl⟩
end
inductive TyS (K:FZ9)(H:Hp):V->String->Prop where
 | non:TyS K H .non "NoneType"
 | bl (x:Bool):TyS K H (.bl x) "bool"
 | int (i:Int):TyS K H (.int i) "int"
 | str (x:Str):TyS K H (.str x) "str"
 | lst {a:Addr}{xs:List V}(e:SqL K H a xs):TyS K H (.ref a) "list"
 | tup {a:Addr}{xs:List V}(e:SqT K H a xs):TyS K H (.ref a) "tuple"
 | dK {a:Addr}{kvs:List (Key × V)}(e:Rd H a (.dK kvs)):TyS K H (.ref a) "dict"
 | dT {a:Addr}{kvs:List (List Key × V)}(e:Rd H a (.dT kvs)):TyS K H (.ref a) "dict"
def rInst (K:FZ9):List V->Hp->VK->Prop:=fun vs H Q=>∃ x t T b,vs=[x,.ty T]/\TyS K H x t/\kitC t T=some b/\Q (.bl b) H
theorem call_inst {X:Cx}:EM X (.builtin "isinstance") (rInst X.K):=by
 intro pins s σ H vs us Q I r h
 obtain ⟨x,t,T,b,rfl,ty,e,q⟩:=h
 obtain ⟨u,w',rfl,rx,r2⟩:=vals2 r
 obtain rfl:w'=Value.type T:=r2
 have e:=kit_of (K:=X.K) e
 have fin:∀ tk,EP X pins σ Q (.bool b) { s with toks:=tk }:=fun tk=>⟨.bl b,H,I.tok tk,rfl,q⟩
 cases ty with
 | non=>cases (show u=Value.none from rx);exact PySem.W.kia_one PySem.W.kitx_none I.kIn True.intro e (fun z=>nomatch z) fin
 | bl y=>cases (show u=Value.bool y from rx);exact PySem.W.kia_one PySem.W.kitx_bool I.kIn True.intro e (fun z=>nomatch z) fin
 | int i=>obtain ⟨t,q'⟩:=(show ∃ t,u=Value.int i t from rx);cases q';exact PySem.W.kia_one PySem.W.kitx_int I.kIn True.intro e (fun z=>nomatch z) fin
 | str y=>obtain ⟨t,q'⟩:=(show ∃ t,u=Value.str y t from rx);cases q';exact PySem.W.kia_one PySem.W.kitx_str I.kIn True.intro e (fun z=>nomatch z) fin
 | @lst a xs ea =>
  cases (show u=Value.ref a from rx)
  obtain ⟨its,_,pl,_⟩:=I.list ea
  obtain ⟨o,n,h1,h2,_⟩:=pl
  exact PySem.W.kia_one PySem.W.kitx_list I.kIn ⟨o,h1,h2⟩ e (fun z=>nomatch z) fin
 | @tup a xs ea =>
  cases (show u=Value.ref a from rx)
  obtain ⟨its,_,pl,_⟩:=I.tuple ea
  obtain ⟨o,h1,h2,_⟩:=pl
  exact PySem.W.kia_one PySem.W.kitx_tuple I.kIn ⟨o,h1,h2⟩ e (fun z=>nomatch z) fin
 | @dK a kvs ea =>
  cases (show u=Value.ref a from rx)
  obtain ⟨_,_,vs,_,p⟩:=ea.ok I.hok
  obtain ⟨o,es,ep,h1,h2,_⟩:=p
  exact PySem.W.kia_one PySem.W.kitx_dict I.kIn ⟨o,h1,h2.1⟩ e (fun z=>nomatch z) fin
 | @dT a kvs ea =>
  cases (show u=Value.ref a from rx)
  obtain ⟨_,_,xs,_,o,es,ep,h1,h2,_⟩:=ea.ok I.hok
  exact PySem.W.kia_one PySem.W.kitx_dict I.kIn ⟨o,h1,h2.1⟩ e (fun z=>nomatch z) fin
class RpT (α:Type) [Rp α] where
 tn:String
 ty:∀ {K:FZ9}{H:Hp}{v:V}{a:α},Rp.rel K H v a->TyS K H v tn
instance rtStr:RpT Str:=⟨"str",fun h=>by obtain ⟨rfl,_⟩:=h;exact .str _⟩
theorem TyS.mono {H H':Hp}{v:V}{t:String}(s:Same H H')(h:TyS K H v t):TyS K H' v t:=by
 cases h with
 | non=>exact .non
 | bl=>exact .bl _
 | int=>exact .int _
 | str=>exact .str _
 | lst e=>exact .lst (s.seq e)
 | tup e=>exact .tup (s.tup e)
 | dK e=>exact .dK (s.rd e)
 | dT e=>exact .dT (s.rd e)
theorem ev_inst [RpT α]{T:String}{b:Bool}(h:kitC (RpT.tn α) T=some b)(ea:EV K ta σ G ma):EV K (tCB (rInst K) (AQ ta (AQ (tC (.ty T)) BL))) σ G (ma.bind fun _=>some b):=by
 intro G1 s1 c hc H sH Q k
 obtain ⟨a,ha,hc⟩:=qaA.mp hc
 cases hc
 refine ea G1 s1 a ha H sH _ fun v G2 H2 x2 r2=>?_
 exact ⟨_,_,_,_,rfl,(RpT.ty r2).mono x2.gh,h,k _ _ _ x2 rfl⟩
theorem EqTy.imp {k:Nat}{α:Type}[DecidableEq α]{R R':Hp->V->α->Prop}(E:EqTy K k R)(h:∀ H v a,R' H v a->R H v a):EqTy K k R' :=
 ⟨fun hK I a b=>E.fn hK I (h _ _ _ a) (h _ _ _ b),fun A hK I hu r1 r2 a b=>E.eq A hK I hu r1 r2 (h _ _ _ a) (h _ _ _ b),fun A hK I hu r1 r2 a b=>E.rc A hK I hu r1 r2 (h _ _ _ a) (h _ _ _ b)⟩
class RpE (α:Type) [Rp α] [DecidableEq α] where
 k:Nat
 ty:∀ K:FZ9,EqTy K k (Rp.rel (α:=α) K)
instance reInt:RpE Int:=⟨0,fun _=>eqInt⟩
instance reStr:RpE Str:=⟨0,fun _=>eqStr.imp fun _ _ _ h=>h.1⟩
instance reList {α:Type}[Rp α][DecidableEq α][RpE α]:RpE (List α):=⟨RpE.k α+1,fun K=>(eqLst (RpE.ty K)).imp fun _ _ _ ⟨l,xs,e,h,_,p⟩=>⟨l,xs,e,.inl h,p⟩⟩
theorem EqTy.up {k j:Nat}{α:Type}[DecidableEq α]{R:Hp->V->α->Prop}(E:EqTy K k R)(h:k<=j):EqTy K j R :=
 ⟨fun hK I a b=>E.fn hK I a b,fun A hK I hu r1 r2 a b=>E.eq A hK I (by omega) r1 r2 a b,fun A hK I hu r1 r2 a b=>E.rc A hK I (by omega) r1 r2 a b⟩
instance rePair {α β:Type}[Rp α][DecidableEq α][RpE α][Rp β][DecidableEq β][RpE β]:RpE (α × β) :=
 ⟨max (RpE.k α) (RpE.k β)+1,fun K=>(eqPair ((RpE.ty (α:=α) K).up (Nat.le_max_left _ _)) ((RpE.ty (α:=β) K).up (Nat.le_max_right _ _)))⟩
section
variable {α:Type}[Rp α][DecidableEq α]{m1 m2:Option α}
def rNeD (K:FZ9)(α:Type)[Rp α][DecidableEq α]:R2:=fun x y H Q=>∃ a b:α,Rp.rel K H x a/\Rp.rel K H y b/\Q (.bl (!decide (a=b))) H
theorem op_neM {X:Cx}{j:Nat}(α:Type)[Rp α][DecidableEq α][RpE α](hr:Room j X.A)(hk:RpE.k α<=10):OpR X (compareOp .NotEq) (rNeD X.K α):=op_neD (RpE.ty X.K) hr hk
theorem ev_ne (ea:EV K ta σ G m1)(eb:EV K tb σ G m2):EV K (tOp (rNeD K α) ta tb) σ G (m1.bind fun a=>m2.bind fun b=>some (!decide (a=b))) :=
 C6 (fun s ra rb e Q k=>by cases e;exact ⟨_,_,Rp.mono s ra,Rp.mono s rb,k _ _ _ (.refl s) rfl⟩) ea eb
end
end
inductive Fl (S ρ:Type) where
 | nx (s:S)
 | bk (s:S)
 | rt (r:ρ)
def CH {α S ρ:Type}(f:α->S->Option (Fl S ρ)):List α->S->Option (Fl S ρ)
 | [],s=>some (.nx s)
 | a::as,s=>(f a s).bind fun fl=>match fl with
  | .nx s'=>CH f as s'
  | .bk s'=>some (.nx s')
  | .rt r=>some (.rt r)
def Gi {S ρ:Type}(c:S->Option Bool)(f:S->Option (Fl S ρ)):Nat->S->Option (Fl S ρ)
 | 0,_=>none
 | n+1,s=>(c s).bind fun b=>cond b ((f s).bind fun fl=>match fl with
  | .nx s'=>Gi c f n s'
  | .bk s'=>some (.nx s')
  | .rt r=>some (.rt r)) (some (.nx s))
def fuelW:Nat:=16777216
def Cr {α β:Type}(fc:α->Option Bool)(fe:α->Option β):List α->Option (List β)
 | []=>some []
 | a::r=>(fc a).bind fun b=>cond b ((fe a).bind fun y=>(Cr fc fe r).bind fun ys=>some (y::ys)) (Cr fc fe r)
def Dr {α β:Type}(fe:α->Option β):List α->Option (List β)
 | []=>some []
 | a::r=>(fe a).bind fun y=>(Dr fe r).bind fun ys=>some (y::ys)
theorem compO_true {α β:Type}(fe:α->Option β):∀ as,Cr (fun _=>some true) fe as=Dr fe as
 | []=>rfl
 | a::r=>by
  show ((fe a).bind fun y=>(Cr (fun _=>some true) fe r).bind fun ys=>some (y::ys))=_
  rw [compO_true fe r]
  rfl
def rngO (lo hi:Int):Option (List Int):=if (-(2 ^ 62)<=lo/\lo<2 ^ 62/\-(2 ^ 62)<=hi/\hi<2 ^ 62)/\(hi - lo).toNat<=sizeLine then some ((List.range (hi - lo).toNat).map fun (i:Nat)=>lo+(i:Int)) else none
section
variable {K:FZ9}{σ:St}{G:Hp}{α β γ δ:Type}[Rp α][Rp β][Rp γ][Rp δ]{ta tb tc td:TE}{ma:Option α}{mb:Option β}{mc:Option γ}{md:Option δ}
def IW (K:FZ9){α:Type}[Rp α](wi:TI)(σ:St)(G:Hp)(m:Option (List α)):Prop :=
 ∀ G1,Same G G1->∀ a,m=some a->∀ H,Same G1 H->∀ R:It->Hp->Prop,(∀ J vs G2 H2,Ext G1 H G2 H2->Yields J G2 vs->vs.length<=sizeLine->Paired (Rp.rel K G2) vs a->R J H2)->wi σ H R
theorem yields_tup {a:Addr}{xs:List V}{H:Hp}(h:SqT K H a xs):Yields (Itt K a) H xs where
 go:=fun i H' s hi=>⟨xs,xs[i],s.tup h,by simp [hi]⟩
 stop:=fun H' s=>⟨xs,s.tup h,qkB _⟩
 yld:=fun i H' v H'' s _ y=>⟨y.1,y.2 xs (s.tup h)⟩
theorem CB {la:Option (List α)}(ea:EV K ta σ G la):IW K (Hi K ta) σ G la:=by
 intro G1 s1 a ha H sH R k
 refine ea G1 s1 a ha H sH _ fun v G2 H2 x2 r2=>?_
 obtain ⟨l,xs,rfl,h,z,p⟩:=r2
 exact .inl ⟨⟨xs,.inl (x2.gh.rd h)⟩,k _ xs G2 H2 x2 (yields_list (.inl h)) z p⟩
theorem iw_tup {la:Option (Tp α)}(ea:EV K ta σ G la):IW K (Hi K ta) σ G (la.bind fun a=>some a.l):=by
 intro G1 s1 a ha H sH R k
 obtain ⟨b,hb,ha⟩:=qaA.mp ha
 cases ha
 refine ea G1 s1 b hb H sH _ fun v G2 H2 x2 r2=>?_
 obtain ⟨l,xs,rfl,h,z,p⟩:=r2
 exact .inr ⟨⟨xs,x2.gh.tup h⟩,k _ xs G2 H2 x2 (yields_tup h) z p⟩
def Bv (x:Str):List Str:=x.cps.toList.map fun c=>(⟨#[c]⟩:Str)
theorem paired_signs (x:Str)(H:Hp):Paired (Rp.rel K H) (FO x) (Bv x):=by
 unfold FO Bv
 induction x.cps.toList with
 | nil=>exact .nil
 | cons c r ih=>exact .cons ⟨rfl,by show 1<=sizeLine;decide⟩ ih
theorem iw_str {sa:Option Str}(ea:EV K ta σ G sa):IW K (Hi K ta) σ G (sa.bind fun a=>some (Bv a)):=by
 intro G1 s1 a ha H sH R k
 obtain ⟨b,hb,ha⟩:=qaA.mp ha
 cases ha
 refine ea G1 s1 b hb H sH _ fun v G2 H2 x2 r2=>?_
 obtain ⟨rfl,z⟩:=r2
 exact k _ (FO b) G2 H2 x2 (yields_str b G2) (by unfold FO;rw [qfA];exact z) (paired_signs b G2)
theorem Fy (H:Hp)(f:Nat->Int):∀ l:List Nat,Paired (Rp.rel K H) (l.map fun i=>V.int (f i)) (l.map fun i=>f i)
 | []=>.nil
 | a::r=>.cons rfl (Fy H f r)
theorem iw_rng1 {ia:Option Int}(ea:EV K ta σ G ia):IW K (iRng1 (AQ ta BL)) σ G (ia.bind fun j=>rngO 0 j):=by
 intro G1 s1 a ha H sH R k
 obtain ⟨j,hj,ha⟩:=qaA.mp ha
 obtain ⟨⟨hb,hz⟩,rfl⟩:=Ay ha
 refine ea G1 s1 j hj H sH _ fun v G2 H2 x2 r2=>?_
 cases r2
 refine ⟨j,rfl,hb.2.2.1,hb.2.2.2,?_⟩
 have e:(j - 0).toNat=j.toNat:=by omega
 rw [e] at hz k
 exact k (Itr 0 j.toNat) _ G2 H2 x2 (yields_range 0 j.toNat G2) (by rw [qfA,qjA];exact hz) (Fy G2 (fun i=>(0:Int)+(i:Int)) _)
theorem iw_rng2 {ia ib:Option Int}(ea:EV K ta σ G ia)(eb:EV K tb σ G ib):IW K (iRng2 (AQ ta (AQ tb BL))) σ G (ia.bind fun i=>ib.bind fun j=>rngO i j):=by
 intro G1 s1 a ha H sH R k
 obtain ⟨i,hi,ha⟩:=qaA.mp ha
 obtain ⟨j,hj,ha⟩:=qaA.mp ha
 obtain ⟨⟨hb,hz⟩,rfl⟩:=Ay ha
 refine ea G1 s1 i hi H sH _ fun v G2 H2 x2 r2=>?_
 refine eb G2 (s1.trans x2.gg) j hj H2 x2.gh _ fun u G3 H3 x3 r3=>?_
 cases r2;cases r3
 exact ⟨i,j,rfl,hb,k (Itr i (j - i).toNat) _ G3 H3 (x2.trans x3) (yields_range i (j - i).toNat G3) (by rw [qfA,qjA];exact hz) (Fy G3 (fun n=>i+(n:Int)) _)⟩
theorem tv_yes:TV Hm σ G (some true):=fun G1 s1 a ha H sH Q k=>by
 cases ha
 exact k _ _ (.refl sH)
theorem Paired.getR {F:V->α->Prop}:∀ {xs:List V}{as:List α}{i:Nat}{v:V},Paired F xs as->xs[i]? = some v->∃ a,as[i]? = some a/\F v a
 | _,_,_,_,.nil,e=>by simp at e
 | _,_,0,_,.cons r _,e=>by simp at e;subst e;exact ⟨_,rfl,r⟩
 | _,_,i+1,_,.cons _ t,e=>Paired.getR (i:=i) t (by simpa using e)
theorem GN {cap:List Nat}{wi:TI}{tt:TT}{te:TE}{mi:Option (List α)}{fc:α->Option Bool}{fe:α->Option β}(ei:IW K wi σ G mi)
  (hb:∀ (x:V) (a:α) (G1:Hp),Same G G1->Rp.rel K G1 x a->TV tt ((inner cap σ).set 0 (some x)) G1 (fc a)/\EV K te ((inner cap σ).set 0 (some x)) G1 (fe a)) :
  FV K (tComp cap wi tt te) σ G (mi.bind fun as=>Cr fc fe as):=by
 intro G1 s1 c hc H sH Q k
 obtain ⟨as,has,hc⟩:=qaA.mp hc
 refine ei G1 s1 as has H sH _ fun J vs Ga Ha xa Y hz pr p hp=>?_
 have hla:=Paired.length pr
 refine ⟨fun i m ys H2=>m=vs.length - i/\i<=vs.length/\∃ G2 bs cs,Ext Ga Ha G2 H2/\G2 p=none/\H2 p=some (.lst ys)/\ys.length<=i/\Paired (Rp.rel K G2) ys bs/\Cr fc fe (as.drop i)=some cs/\c=bs++cs,
  ⟨vs.length,by simp,qrC _,Ga,[],c,.own xa.gh hp,xa.gh.free hp,AJ,qkB _,.nil,hc,rfl⟩,?_⟩
 rintro i m ys H2 ⟨rfl,hi,G2,bs,cs,x2,hg,hh,hy,hpr,hcs,rfl⟩
 by_cases hlt:i<vs.length
 ·refine .inr ⟨Y.go i _ (x2.gg.trans x2.gh) hlt,fun ys' H'=>∃ G2 bs' cs',Ext Ga Ha G2 H'/\G2 p=none/\H' p=some (.lst ys')/\ys'.length<=i+1/\Paired (Rp.rel K G2) ys' bs'/\Cr fc fe (as.drop (i+1))=some cs'/\bs++cs=bs'++cs',
   fun ys' H' ⟨G3,bs',cs',h⟩=>⟨vs.length - (i+1),by omega,rfl,hlt,G3,bs',cs',h⟩,fun x H3 y=>?_⟩
  obtain ⟨rfl,hx⟩:=Y.yld i _ x H3 (x2.gg.trans x2.gh) hlt y
  obtain ⟨a,hai,ra⟩:=Paired.getR pr hx
  have hd:as.drop i=a::as.drop (i+1):=by
   obtain ⟨h1,h2⟩:=qvA.mp hai
   rw [List.drop_eq_getElem_cons h1,h2]
  rw [hd] at hcs
  obtain ⟨b,hbb,hcs⟩:=qaA.mp hcs
  have B:=hb x a G2 (s1.trans (xa.gg.trans x2.gg)) (Rp.mono x2.gg ra)
  refine B.1 G2 (.refl _) b hbb _ x2.gh _ fun G5 H5 x5=>?_
  have hp5:H5 p=some (.lst ys):=x5.hh _ _ hh
  have hg5:G5 p=none:=x5.no p hg (by rw [hh];exact fun z=>nomatch z)
  cases b with
  | false =>
   rw [if_neg qzB]
   exact ⟨G5,bs,cs,x2.trans x5,hg5,hp5,by omega,Paired.imp' (fun _ _ r=>Rp.mono x5.gg r) hpr,hcs,rfl⟩
  | true =>
   rw [if_pos rfl]
   obtain ⟨z,hze,hcs⟩:=qaA.mp hcs
   obtain ⟨cs',hcs',hcs⟩:=qaA.mp hcs
   cases hcs
   refine B.2 G5 x5.gg z hze H5 x5.gh _ fun v G6 H6 x6 r6=>?_
   have hp6:H6 p=some (.lst ys):=x6.hh _ _ hp5
   have hg6:G6 p=none:=x6.no p hg5 (by rw [hp5];exact fun z=>nomatch z)
   refine ⟨hp6,by omega,G6,bs++[z],cs',((x2.trans x5).trans x6).put hp hg6,hg6,AJ,?_,Paired.app (Paired.imp' (fun _ _ r=>Rp.mono (x5.trans x6).gg r) hpr) (.cons r6 .nil),hcs',by simp⟩
   rw [qgA,qiA]
   omega
 ·have e:i=vs.length:=by omega
  subst e
  have hd:as.drop vs.length=[]:=List.drop_eq_nil_of_le (by omega)
  rw [hd] at hcs
  cases hcs
  refine .inl ⟨Y.stop _ (x2.gg.trans x2.gh),?_⟩
  rw [qfB] at k
  exact k p ys G2 H2 (xa.trans x2) (xa.hh.free hp) hg hh (by omega) hpr
theorem GD {cap:List Nat}{wi:TI}{te:TE}{mi:Option (List α)}{fe:α->Option β}(ei:IW K wi σ G mi)
  (hb:∀ (x:V) (a:α) (G1:Hp),Same G G1->Rp.rel K G1 x a->EV K te ((inner cap σ).set 0 (some x)) G1 (fe a)) :
  FV K (tComp cap wi Hm te) σ G (mi.bind fun as=>Dr fe as):=by
 have h:=GN (tt:=Hm) (fc:=fun _=>some true) ei fun x a G1 s r=>⟨tv_yes,hb x a G1 s r⟩
 have e:(fun as=>Cr (fun _=>some true) fe as)=fun as=>Dr fe as:=funext (compO_true fe)
 rw [e] at h
 exact h
def GZ (z:Str)(ys:List Str):Option Str:=if (ys.map (·.length)).sum+ys.length * z.length<=16777216 then some (Txt.join z ys) else none
theorem paired_strs {H:Hp}:∀ {xs:List V}{ys:List Str},Paired (Rp.rel K H) xs ys->xs=ys.map V.str
 | _,_,.nil=>rfl
 | _,_,.cons r t=>by
  obtain ⟨rfl,_⟩:=r
  rw [paired_strs t]
  rfl
theorem join_le (z:Str):∀ (ps:List Str) (acc:Array Nat),(ps.foldl (fun acc p=>acc++z.cps++p.cps) acc).size=acc.size+(ps.map (·.length)).sum+ps.length * z.length
 | [],acc=>by simp
 | p::ps,acc=>by
  rw [qqC,join_le z ps]
  simp only [Array.size_append,qcB,List.sum_cons,qhA,Nat.succ_mul]
  have:p.cps.size=p.length:=rfl
  have:z.cps.size=z.length:=rfl
  omega
theorem join_len (z:Str)(ys:List Str):(Txt.join z ys).length<=(ys.map (·.length)).sum+ys.length * z.length:=by
 show ((ys.drop 1).foldl (fun acc p=>acc++z.cps++p.cps) (ys.headD Str.empty).cps).size<=_
 rw [join_le]
 cases ys with
 | nil=>simp;rfl
 | cons a r =>
  simp only [List.headD_cons,List.drop_succ_cons,List.drop_zero,qcB,List.sum_cons,qhA,Nat.succ_mul]
  have:a.cps.size=a.length:=rfl
  omega
theorem ev_join {sa:Option Str}{lb:Option (List Str)}(ea:EV K ta σ G sa)(eb:EV K tb σ G lb):EV K (tBM K "str" (rJoin K) ta (AQ tb BL)) σ G (sa.bind fun z=>lb.bind fun ys=>GZ z ys):=by
 intro G1 s1 c hc H sH Q k
 obtain ⟨a,ha,hc⟩:=qaA.mp hc
 obtain ⟨b,hb,hc⟩:=qaA.mp hc
 obtain ⟨hz,rfl⟩:=Ay hc
 refine ea G1 s1 a ha H sH _ fun v G2 H2 x2 r2=>?_
 obtain ⟨rfl,za⟩:=r2
 refine ⟨rfl,?_⟩
 refine eb G2 (s1.trans x2.gg) b hb H2 x2.gh _ fun u G3 H3 x3 r3=>?_
 obtain ⟨l,xs,rfl,h,z,p⟩:=r3
 obtain rfl:=paired_strs p
 exact ⟨a,l,b,rfl,rfl,.inl (x3.gh.rd h),hz,k _ _ _ (x2.trans x3) ⟨rfl,qmB (join_len _ _) (by rw [qtB];exact hz)⟩⟩
end
section
variable {K:FZ9}{σ:St}{G H:Hp}{α β:Type}[Rp α][Rp β]{te:TE}{tt:TT}{t u rest:TS}{D:Ends}{i:Nat}{a:α}{m:Option α}
theorem Av (e:EV K te σ G m)(hm:m=some a)(s:Same G H)(k:∀ v G2 H2,Ext G H G2 H2->Rp.rel K G2 v a->rest D (σ.set i (some v)) H2):CA (GV te (Bh i)) rest D σ H:=e.run hm s k
theorem sv_drop (e:EV K te σ G m)(hm:m=some a)(s:Same G H)(k:∀ G2 H2,Ext G H G2 H2->rest D σ H2):CA (HW te) rest D σ H:=e.run hm s fun _ G2 H2 x _=>k G2 H2 x
theorem AW (e:EV K te σ G m)(hm:m=some a)(s:Same G H)(k:∀ v G2 H2,Ext G H G2 H2->Rp.rel K G2 v a->D.rt v H2):CA (Hj te) rest D σ H:=e.run hm s k
theorem BJ {b:Bool}{m:Option Bool}(e:TV tt σ G m)(hm:m=some b)(s:Same G H)(k:∀ G2 H2,Ext G H G2 H2->if b=true then t { D with nx:=rest D } σ H2 else u { D with nx:=rest D } σ H2) :
  CA (Hh tt t u) rest D σ H:=e.run hm s k
theorem Gu (Pv:St->Hp->Prop)(h:∀ nx:St->Hp->Prop,(∀ σ' H',Pv σ' H'->nx σ' H')->CA t CI { D with nx:=nx } σ H)(key:∀ σ' H',Pv σ' H'->rest D σ' H'):CA t rest D σ H:=h (rest D) key
structure LoopOb (K:FZ9){α S ρ:Type}[Rp α](RR:ρ->V->Hp->Hp->Prop)(f:α->S->Option (Fl S ρ))(g:TG)(tb:TS)(D:Ends)(σ:St)(G2 H2:Hp)(as:List α)(s0:S)(res:Fl S ρ)(RS:S->St->Hp->Hp->Prop):Prop where
 start:RS s0 σ G2 H2
 keep:∀ s σ' G' H',RS s σ' G' H'->Same G2 G'/\Same G' H'
 step:∀ (x:V) (a:α) (s:S) (σ1:St) (G1 H1:Hp) (fl:Fl S ρ),a∈as->RS s σ1 G1 H1->Rp.rel K G1 x a->f a s=some fl->∀ D':Ends,(∀ s' σ' G' H',fl = .nx s'->RS s' σ' G' H'->D'.nx σ' H')->(∀ s' σ' G' H',fl = .nx s'->RS s' σ' G' H'->D'.ct σ' H') ->
  (∀ s' σ' G' H',fl = .bk s'->RS s' σ' G' H'->D'.bk σ' H')->(∀ r v G' H',fl = .rt r->RR r v G' H'->D'.rt v H')->g x σ1 H1 fun σ2 H2=>tb D' σ2 H2
 nxt:∀ s σ' G' H',res = .nx s->RS s σ' G' H'->D.nx σ' H'
 rtn:∀ r v G' H',res = .rt r->RR r v G' H'->D.rt v H'
theorem DI {S ρ:Type}{RR:ρ->V->Hp->Hp->Prop}{f:α->S->Option (Fl S ρ)}{wi:TI}{g:TG}{tb:TS}{mi:Option (List α)}{as:List α}{s0:S}{res:Fl S ρ}(ei:IW K wi σ G mi)(hm:mi=some as)(hf:CH f as s0=some res)(sg:Same G H)
  (k:∀ G2 H2,Ext G H G2 H2->∃ RS,LoopOb K RR f g tb { D with nx:=rest D } σ G2 H2 as s0 res RS):CA (tFor wi g tb) rest D σ H:=by
 refine ei G (.refl G) as hm H sg _ fun J vs G2 H2 x2 Y hz pr=>?_
 obtain ⟨RS,L⟩:=k G2 H2 x2
 have hla:=Paired.length pr
 refine ⟨fun i m σ' H'=>m=vs.length - i/\i<=vs.length/\∃ s G',RS s σ' G' H'/\CH f (as.drop i) s=some res,⟨vs.length,by simp,qrC _,s0,G2,L.start,hf⟩,?_⟩
 rintro i m σ' H' ⟨rfl,hi,s,G',rs,hfo⟩
 obtain ⟨k1,k2⟩:=L.keep _ _ _ _ rs
 by_cases hlt:i<vs.length
 ·refine .inr ⟨Y.go i _ (k1.trans k2) hlt,fun σ'' H''=>∃ s' G'',RS s' σ'' G'' H''/\CH f (as.drop (i+1)) s'=some res,fun σ'' H'' ⟨s',G'',h⟩=>⟨vs.length - (i+1),by omega,rfl,hlt,s',G'',h⟩,fun x H3 y=>?_⟩
  obtain ⟨rfl,hx⟩:=Y.yld i _ x H3 (k1.trans k2) hlt y
  obtain ⟨a,hai,ra⟩:=Paired.getR pr hx
  have hd:as.drop i=a::as.drop (i+1):=by
   obtain ⟨h1,h2⟩:=qvA.mp hai
   rw [List.drop_eq_getElem_cons h1,h2]
  rw [hd] at hfo
  obtain ⟨fl,hfl,hfo⟩:=qaA.mp hfo
  refine L.step x a s σ' G' _ fl (quA hai) rs (Rp.mono k1 ra) hfl _ ?_ ?_ ?_ ?_
  ·intro s' σ'' G'' H'' e r
   subst e
   exact ⟨s',G'',r,hfo⟩
  ·intro s' σ'' G'' H'' e r
   subst e
   exact ⟨s',G'',r,hfo⟩
  ·intro s' σ'' G'' H'' e r
   subst e
   exact L.nxt s' σ'' G'' H'' (qpB hfo).symm r
  ·intro r v G'' H'' e rl
   subst e
   exact L.rtn r v G'' H'' (qpB hfo).symm rl
 ·have e:i=vs.length:=by omega
  subst e
  have hd:as.drop vs.length=[]:=List.drop_eq_nil_of_le (by omega)
  rw [hd] at hfo
  exact .inl ⟨Y.stop _ (k1.trans k2),L.nxt s σ' G' H' (qpB hfo).symm rs⟩
structure WhileOb (K:FZ9){S ρ:Type}(RR:ρ->V->Hp->Hp->Prop)(c:S->Option Bool)(f:S->Option (Fl S ρ))(tt:TT)(tb:TS)(D:Ends)(σ:St)(G2 H2:Hp)(s0:S)(res:Fl S ρ)(RS:S->St->Hp->Hp->Prop):Prop where
 start:RS s0 σ G2 H2
 keep:∀ s σ' G' H',RS s σ' G' H'->Same G' H'
 test:∀ s σ' G' H' b,RS s σ' G' H'->c s=some b->∀ Q:Bool->Hp->Prop,(∀ G'' H'',RS s σ' G'' H''->Q b H'')->tt σ' H' Q
 step:∀ (s:S) (σ1:St) (G1 H1:Hp) (fl:Fl S ρ),RS s σ1 G1 H1->f s=some fl->c s=some true->∀ D':Ends,(∀ s' σ' G' H',fl = .nx s'->RS s' σ' G' H'->D'.nx σ' H')->(∀ s' σ' G' H',fl = .nx s'->RS s' σ' G' H'->D'.ct σ' H') ->
  (∀ s' σ' G' H',fl = .bk s'->RS s' σ' G' H'->D'.bk σ' H')->(∀ r v G' H',fl = .rt r->RR r v G' H'->D'.rt v H')->tb D' σ1 H1
 nxt:∀ s σ' G' H',res = .nx s->RS s σ' G' H'->D.nx σ' H'
 rtn:∀ r v G' H',res = .rt r->RR r v G' H'->D.rt v H'
theorem sv_while {S ρ:Type}{RR:ρ->V->Hp->Hp->Prop}{c:S->Option Bool}{f:S->Option (Fl S ρ)}{tb:TS}{n:Nat}{s0:S}{res:Fl S ρ}(hf:Gi c f n s0=some res)(RS:S->St->Hp->Hp->Prop)
  (L:WhileOb K RR c f tt tb { D with nx:=rest D } σ G H s0 res RS):CA (tWhile tt tb) rest D σ H:=by
 refine ⟨fun m σ' H'=>∃ s G',RS s σ' G' H'/\Gi c f m s=some res,⟨n,s0,G,L.start,hf⟩,?_⟩
 rintro m σ' H' ⟨s,G',rs,hw⟩
 cases m with
 | zero=>cases hw
 | succ m =>
  obtain ⟨b,hb,hw⟩:=qaA.mp hw
  refine L.test s σ' G' H' b rs hb _ fun G'' H'' rs'=>?_
  cases b with
  | false=>exact Bs (L.nxt s σ' G'' H'' (qpB hw).symm rs')
  | true =>
   obtain ⟨fl,hfl,hw⟩:=qaA.mp hw
   refine Bw ⟨fun σ2 H2=>∃ s' G2,RS s' σ2 G2 H2/\Gi c f m s'=some res,fun σ2 H2 h=>⟨m,Nat.lt_succ_self m,h⟩,?_⟩
   refine L.step s σ' G'' H'' fl rs' hfl hb _ ?_ ?_ ?_ ?_
   ·intro s' σ2 G2 H2 e r
    subst e
    exact ⟨s',G2,r,hw⟩
   ·intro s' σ2 G2 H2 e r
    subst e
    exact ⟨s',G2,r,hw⟩
   ·intro s' σ2 G2 H2 e r
    subst e
    exact L.nxt s' σ2 G2 H2 (qpB hw).symm r
   ·intro r v G2 H2 e rl
    subst e
    exact L.rtn r v G2 H2 (qpB hw).symm rl
end
structure Own (K:FZ9){α:Type}[Rp α](G H:Hp)(v:V)(p:Addr)(vs:List V)(as:List α):Prop where
 v:v = .ref p
 g:G p=none
 h:H p=some (.lst vs)
 z:vs.length<=sizeLine
 p:Paired (Rp.rel K G) vs as
section
variable {K:FZ9}{σ:St}{G H G1 H1 G0 H0:Hp}{α β:Type}[Rp α][Rp β]{te ti:TE}{tt:TT}{t u rest:TS}{D:Ends}{i:Nat}{a:α}{m:Option α}{as:List α}{v:V}{p q:Addr}{vs:List V}
theorem Own.ext (o:Own K G H v p vs as)(x:Ext G H G1 H1):Own K G1 H1 v p vs as :=
 ⟨o.v,x.no p o.g (by rw [o.h];exact fun z=>nomatch z),x.hh _ _ o.h,o.z,Paired.imp' (fun _ _ r=>Rp.mono x.gg r) o.p⟩
theorem Own.put {ho:HO}(o:Own K G H v p vs as)(h:p≠q):Own K G (upd H q ho) v p vs as:=⟨o.v,o.g,by rw [Aq h];exact o.h,o.z,o.p⟩
theorem Own.tell (o:Own K G H v p vs as):Rp.rel K (upd G p (.lst vs)) v as:=⟨p,vs,o.v,.inl AJ,o.z,Paired.imp' (fun _ _ r=>Rp.mono (Same.new o.g) r) o.p⟩
theorem Own.same (o:Own K G H v p vs as)(s:Same G H):Same (upd G p (.lst vs)) H:=fun b x e=>by
 by_cases hb:b=p
 ·subst hb
  rw [AJ] at e
  rw [o.h]
  exact e
 ·rw [Aq hb] at e
  exact s b x e
theorem Gj {m:Option (List α)}{as:List α}(e:FV K te σ G m)(hm:m=some as)(s:Same G H)(k:∀ p vs G2 H2,Ext G H G2 H2->H p=none->Own K G2 H2 (.ref p) p vs as->rest D (σ.set i (some (.ref p))) H2):CA (GV te (Bh i)) rest D σ H :=
 e G (.refl G) as hm H s _ fun p vs G2 H2 x h0 hg hh hz hp=>k p vs G2 H2 x h0 ⟨rfl,hg,hh,hz,hp⟩
def Gq {α:Type}(as:List α)(a:α):Option (List α):=if as.length<sizeLine then some (as++[a]) else none
theorem FX {as':List α}(hσ:σ[i]? = some (some v))(o:Own K G H v p vs as)(e:EV K te σ G m)(hm:m=some a)(hp:Gq as a=some as')(s:Same G H)
  (k:∀ G2 H2 w,Ext G H G2 H2->Own K G2 (upd H2 p (.lst (vs++[w]))) v p (vs++[w]) as'->rest D σ (upd H2 p (.lst (vs++[w])))):CA (HW (tBM K "list" Gr (Bc i) (AQ te BL))) rest D σ H:=by
 obtain ⟨hl,rfl⟩:=Ay hp
 have hlen:=Paired.length o.p
 obtain ⟨rfl,og,oh,oz,op⟩:=o
 refine ⟨_,hσ,.inl ⟨rfl,_,SqL.of oh⟩,?_⟩
 refine e.run hm s fun w G2 H2 x r=>?_
 refine ⟨p,vs,w,rfl,rfl,x.hh _ _ oh,by omega,?_⟩
 refine k G2 H2 w x ⟨rfl,x.no p og (by rw [oh];exact fun z=>nomatch z),AJ,?_,Paired.app (Paired.imp' (fun _ _ r=>Rp.mono x.gg r) op) (.cons r .nil)⟩
 rw [qgA,qiA]
 omega
structure TupK (H H':Hp):Prop where
 rd:∀ b xs,Rd H b (.tup xs)->Rd H' b (.tup xs)
 eq:∀ b xs,H b=some (.tup xs)->H' b=some (.tup xs)
class Imm (α:Type) [Rp α]:Prop where
 im:∀ {K:FZ9}{H H':Hp}{v:V}{a:α},TupK H H'->Rp.rel K H v a->Rp.rel K H' v a
instance imInt:Imm Int:=⟨fun _ h=>h⟩
instance imBool:Imm Bool:=⟨fun _ h=>h⟩
theorem SqT.im {H H':Hp}{t:Addr}{xs:List V}(f:TupK H H')(h:SqT K H t xs):SqT K H' t xs:=by
 rcases h with h|h
 ·exact .inl (f.rd _ _ h)
 ·exact .inr h
instance imT3 {α β γ:Type}[Rp α][Rp β][Rp γ][Imm α][Imm β][Imm γ]:Imm (T3 α β γ):=⟨fun f ⟨t,a,b,c,e,h,r1,r2,r3⟩=>⟨t,a,b,c,e,h.im f,Imm.im f r1,Imm.im f r2,Imm.im f r3⟩⟩
instance imTp {α:Type}[Rp α][Imm α]:Imm (Tp α):=⟨fun f ⟨t,xs,e,h,z,p⟩=>⟨t,xs,e,h.im f,z,Paired.imp' (fun _ _ r=>Imm.im f r) p⟩⟩
def del (G:Hp)(p:Addr):Hp:=fun b=>if b=p then none else G b
theorem HU {G:Hp}{p b:Addr}(h:b≠p):del G p b=G b:=by unfold del;rw [if_neg h]
theorem del_same {G:Hp}{p:Addr}:del G p p=none:=by unfold del;rw [if_pos rfl]
theorem Ext.del {ho:HO}{G2 H2:Hp}(hg:G p=none)(x:Ext (upd G p ho) H G2 H2):Ext G H (L2.del G2 p) H2 :=
 ⟨fun b o e=>by
  have hb:b≠p:=Ci e hg
  rw [HU hb]
  exact x.gg b o (by rw [Aq hb];exact e),fun b o e=>by
  by_cases hb:b=p
  ·subst hb
   rw [del_same] at e
   cases e
  ·rw [HU hb] at e
   exact x.gh b o e,x.hh,fun b h1 h2=>by
  by_cases hb:b=p
  ·subst hb
   exact del_same
  ·rw [HU hb]
   exact x.no b (by rw [Aq hb];exact h1) h2⟩
theorem Imm.del {β:Type}[Rp β][Imm β]{G2:Hp}{w:V}{c:β}{ys:List V}(h:G2 p=some (.lst ys))(r:Rp.rel K G2 w c):Rp.rel K (L2.del G2 p) w c :=
 Imm.im ⟨fun b xs e=>by
  have hb:b≠p:=fun z=>by
   subst z
   rcases e with e | ⟨o,e⟩<;>(rw [h] at e;cases e)
  rcases e with e | ⟨o,e⟩
  ·exact .inl (by rw [HU hb];exact e)
  ·exact .inr ⟨o,by rw [HU hb];exact e⟩,fun b xs e=>by
  have hb:b≠p:=fun z=>by
   subst z
   rw [h] at e
   cases e
  rw [HU hb]
  exact e⟩ r
theorem EV.runB {β:Type}[Rp β][Imm β]{mb:Option β}{b:β}{Q:VK}(o:Own K G H v p vs as)(e:EV K te σ (upd G p (.lst vs)) mb)(hm:mb=some b)(s:Same G H)(k:∀ w G2 H2,Ext G H G2 H2->Rp.rel K G2 w b->Q w H2):te σ H Q :=
 e.run hm (o.same s) fun w G2 H2 x r=>k w (del G2 p) H2 (x.del o.g) (Imm.del (x.gg _ _ AJ) r)
theorem TV.runB {mb:Option Bool}{b:Bool}{Q:Bool->Hp->Prop}(o:Own K G H v p vs as)(e:TV tt σ (upd G p (.lst vs)) mb)(hm:mb=some b)(s:Same G H)(k:∀ G2 H2,Ext G H G2 H2->Q b H2):tt σ H Q :=
 e.run hm (o.same s) fun G2 H2 x=>k (del G2 p) H2 (x.del o.g)
end
section
variable {K:FZ9}{σ:St}{G:Hp}
theorem Ag {ρ A0:Type}[Rp ρ][Rp A0]{t0:TE}{m0:Option A0}{m:A0 × Unit->Option ρ}(e0:EV K t0 σ G m0):EV K (ES (spM K m) [] E0 (AQ t0 BL)) σ G (m0.bind fun a0=>m (a0,())):=by
 intro G1 s1 c hc H sH Q k
 obtain ⟨a0,ha0,hc⟩:=qaA.mp hc
 refine e0 G1 s1 a0 ha0 H sH _ fun v0 G2 H2 x0 r0=>?_
 have y0:=x0
 exact ⟨G2,_,c,y0.gh,⟨v0,_,rfl,r0,rfl⟩,hc,fun v G9 H9 x9 r9=>k v G9 H9 (y0.trans x9) r9⟩
theorem Cd {ρ A0 A1:Type}[Rp ρ][Rp A0][Rp A1]{t0 t1:TE}{m0:Option A0}{m1:Option A1}{m:A0 × A1 × Unit->Option ρ}(e0:EV K t0 σ G m0)(e1:EV K t1 σ G m1):EV K (ES (spM K m) [] E0 (AQ t0 (AQ t1 BL))) σ G (m0.bind fun a0=>m1.bind fun a1=>m (a0,a1,())):=by
 intro G1 s1 c hc H sH Q k
 obtain ⟨a0,ha0,hc⟩:=qaA.mp hc
 obtain ⟨a1,ha1,hc⟩:=qaA.mp hc
 refine e0 G1 s1 a0 ha0 H sH _ fun v0 G2 H2 x0 r0=>?_
 have y0:=x0
 refine e1 G2 (s1.trans y0.gg) a1 ha1 H2 y0.gh _ fun v1 G3 H3 x1 r1=>?_
 have y1:=y0.trans x1
 exact ⟨G3,_,c,y1.gh,⟨v0,_,rfl,(Rp.mono x1.gg r0),⟨v1,_,rfl,r1,rfl⟩⟩,hc,fun v G9 H9 x9 r9=>k v G9 H9 (y1.trans x9) r9⟩
theorem ev_def3 {ρ A0 A1 A2:Type}[Rp ρ][Rp A0][Rp A1][Rp A2]{t0 t1 t2:TE}{m0:Option A0}{m1:Option A1}{m2:Option A2}{m:A0 × A1 × A2 × Unit->Option ρ}(e0:EV K t0 σ G m0)(e1:EV K t1 σ G m1)(e2:EV K t2 σ G m2):EV K (ES (spM K m) [] E0 (AQ t0 (AQ t1 (AQ t2 BL)))) σ G (m0.bind fun a0=>m1.bind fun a1=>m2.bind fun a2=>m (a0,a1,a2,())):=by
 intro G1 s1 c hc H sH Q k
 obtain ⟨a0,ha0,hc⟩:=qaA.mp hc
 obtain ⟨a1,ha1,hc⟩:=qaA.mp hc
 obtain ⟨a2,ha2,hc⟩:=qaA.mp hc
 refine e0 G1 s1 a0 ha0 H sH _ fun v0 G2 H2 x0 r0=>?_
 have y0:=x0
 refine e1 G2 (s1.trans y0.gg) a1 ha1 H2 y0.gh _ fun v1 G3 H3 x1 r1=>?_
 have y1:=y0.trans x1
 refine e2 G3 (s1.trans y1.gg) a2 ha2 H3 y1.gh _ fun v2 G4 H4 x2 r2=>?_
 have y2:=y1.trans x2
 exact ⟨G4,_,c,y2.gh,⟨v0,_,rfl,(Rp.mono x2.gg (Rp.mono x1.gg r0)),⟨v1,_,rfl,(Rp.mono x2.gg r1),⟨v2,_,rfl,r2,rfl⟩⟩⟩,hc,fun v G9 H9 x9 r9=>k v G9 H9 (y2.trans x9) r9⟩
theorem ev_def5 {ρ A0 A1 A2 A3 A4:Type}[Rp ρ][Rp A0][Rp A1][Rp A2][Rp A3][Rp A4]{t0 t1 t2 t3 t4:TE}{m0:Option A0}{m1:Option A1}{m2:Option A2}{m3:Option A3}{m4:Option A4}{m:A0 × A1 × A2 × A3 × A4 × Unit->Option ρ}(e0:EV K t0 σ G m0)(e1:EV K t1 σ G m1)(e2:EV K t2 σ G m2)(e3:EV K t3 σ G m3)(e4:EV K t4 σ G m4):EV K (ES (spM K m) [] E0 (AQ t0 (AQ t1 (AQ t2 (AQ t3 (AQ t4 BL)))))) σ G (m0.bind fun a0=>m1.bind fun a1=>m2.bind fun a2=>m3.bind fun a3=>m4.bind fun a4=>m (a0,a1,a2,a3,a4,())):=by
 intro G1 s1 c hc H sH Q k
 obtain ⟨a0,ha0,hc⟩:=qaA.mp hc
 obtain ⟨a1,ha1,hc⟩:=qaA.mp hc
 obtain ⟨a2,ha2,hc⟩:=qaA.mp hc
 obtain ⟨a3,ha3,hc⟩:=qaA.mp hc
 obtain ⟨a4,ha4,hc⟩:=qaA.mp hc
 refine e0 G1 s1 a0 ha0 H sH _ fun v0 G2 H2 x0 r0=>?_
 have y0:=x0
 refine e1 G2 (s1.trans y0.gg) a1 ha1 H2 y0.gh _ fun v1 G3 H3 x1 r1=>?_
 have y1:=y0.trans x1
 refine e2 G3 (s1.trans y1.gg) a2 ha2 H3 y1.gh _ fun v2 G4 H4 x2 r2=>?_
 have y2:=y1.trans x2
 refine e3 G4 (s1.trans y2.gg) a3 ha3 H4 y2.gh _ fun v3 G5 H5 x3 r3=>?_
 have y3:=y2.trans x3
 refine e4 G5 (s1.trans y3.gg) a4 ha4 H5 y3.gh _ fun v4 G6 H6 x4 r4=>?_
 have y4:=y3.trans x4
 exact ⟨G6,_,c,y4.gh,⟨v0,_,rfl,(Rp.mono x4.gg (Rp.mono x3.gg (Rp.mono x2.gg (Rp.mono x1.gg r0)))),⟨v1,_,rfl,(Rp.mono x4.gg (Rp.mono x3.gg (Rp.mono x2.gg r1))),⟨v2,_,rfl,(Rp.mono x4.gg (Rp.mono x3.gg r2)),⟨v3,_,rfl,(Rp.mono x4.gg r3),⟨v4,_,rfl,r4,rfl⟩⟩⟩⟩⟩,hc,fun v G9 H9 x9 r9=>k v G9 H9 (y4.trans x9) r9⟩
section
variable {ta tb:TE}{a b:Bool}{tt tu:TT}{mb:Option Bool}
theorem TV.of {m m':Option Bool}(e:TV tt σ G m)(h:m=m'):TV tt σ G m':=h ▸ e
theorem tv_andP (ea:TV tt σ G (some a))(eb:TV tu σ G (some b)):TV (tAnd tt tu) σ G (some (a && b)):=(tv_and ea eb).of (by cases a<;>rfl)
theorem tv_orP (ea:TV tt σ G (some a))(eb:TV tu σ G (some b)):TV (tOr tt tu) σ G (some (a || b)):=(HX ea eb).of (by cases a<;>rfl)
theorem TruV.mono {G H:Hp}{v:V}{k:Bool}(s:Same G H)(h:TruV K v G k):TruV K v H k:=by
 cases v with
 | ref p =>
  rcases h with ⟨xs,hx,e⟩ | ⟨xs,hx,e⟩ | ⟨kvs,hx,e⟩
  ·exact .inl ⟨xs,s.seq hx,e⟩
  ·exact .inr (.inl ⟨xs,s.tup hx,e⟩)
  ·exact .inr (.inr ⟨kvs,s _ _ hx,e⟩)
 | _=>exact h
theorem tv_b {mb:Option Bool}(ea:EV K ta σ G mb):TV (fun σ H Q=>ta σ H fun x H'=>∃ k,TruV K x H' k/\Q k H') σ G mb:=by
 have h:=tv_tru (K:=K) (f:=fun (a:Bool)=>a) (fun {G v a}(r:Rp.rel K G v a)=>by cases r;exact rfl) (fun s=>TruV.mono s) ea
 refine h.of ?_
 cases mb<;>rfl
end
theorem cT {α:Type}{A B:Option α}{r:Option α}(h:cond true A B=r):A=r:=h
theorem cF {α:Type}{A B:Option α}{r:Option α}(h:cond false A B=r):B=r:=h
theorem D0 {i:Nat}{x:V}{σ:St}{H:Hp}{tb:TS}{D:Ends}(h:tb D (σ.set i (some x)) H):Bh i x σ H fun σ2 H2=>tb D σ2 H2:=h
end
section
variable {K:FZ9}{σ:St}{G H:Hp}{α β γ:Type}[Rp α][Rp β][Rp γ]{ta tb te:TE}{ia ib:Option Int}{c:Int}{rest t u:TS}{D:Ends}{i j:Nat}{tt:TT}
theorem ev_mulR (ea:EV K ta σ G ia)(hc:-(2 ^ 64)<c/\c<2 ^ 64:=by decide):EV K (tOp (rMul K) ta (tC (.int c))) σ G (ia.bind fun a=>some (a * c)):=by
 have h:=ev_mul ea (Aj (K:=K) (σ:=σ) (G:=G) (i:=c))
 have e:(ia.bind fun a=>(some c).bind fun b=>Ho a b)=ia.bind fun a=>some (a * c):=by
  congr 1;funext a
  show Ho a c=_
  unfold Ho
  rw [if_pos (.inr hc)]
 exact h.of e
theorem ev_mulL (eb:EV K tb σ G ib)(hc:-(2 ^ 64)<c/\c<2 ^ 64:=by decide):EV K (tOp (rMul K) (tC (.int c)) tb) σ G (ib.bind fun b=>some (c * b)):=by
 have h:=ev_mul (Aj (K:=K) (σ:=σ) (G:=G) (i:=c)) eb
 have e:((some c).bind fun a=>ib.bind fun b=>Ho a b)=ib.bind fun b=>some (c * b):=by
  show (ib.bind fun b=>Ho c b)=_
  congr 1;funext b
  unfold Ho
  rw [if_pos (.inl hc)]
 exact h.of e
theorem DE (ea:EV K ta σ G ia)(hc:0<c:=by decide):EV K (tOp (rI (fun _ j=>0<j) fun i j=>.int (i % j)) ta (tC (.int c))) σ G (ia.bind fun a=>some (a % c)):=by
 have h:=ev_mod ea (Aj (K:=K) (σ:=σ) (G:=G) (i:=c))
 have e:(ia.bind fun a=>(some c).bind fun b=>Hn a b)=ia.bind fun a=>some (a % c):=by
  congr 1;funext a
  show Hn a c=_
  unfold Hn
  rw [if_pos hc]
 exact h.of e
theorem ev_modC (ea:EV K ta σ G ia)(eb:EV K tb σ G (some c))(hc:0<c):EV K (tOp (rI (fun _ j=>0<j) fun i j=>.int (i % j)) ta tb) σ G (ia.bind fun a=>some (a % c)):=by
 have h:=ev_mod ea eb
 have e:(ia.bind fun a=>(some c).bind fun b=>Hn a b)=ia.bind fun a=>some (a % c):=by
  congr 1;funext a
  show Hn a c=_
  unfold Hn
  rw [if_pos hc]
 exact h.of e
theorem ev_divR (ea:EV K ta σ G ia)(hc:0<c/\c<1073741824:=by decide):EV K (tOp (rI CDiv fun i j=>.int (i / j)) ta (tC (.int c))) σ G (ia.bind fun a=>some (a / c)):=by
 have h:=ev_div ea (Aj (K:=K) (σ:=σ) (G:=G) (i:=c))
 have e:(ia.bind fun a=>(some c).bind fun b=>divO a b)=ia.bind fun a=>some (a / c):=by
  congr 1;funext a
  show divO a c=_
  unfold divO
  rw [if_pos (show CDiv a c from hc)]
 exact h.of e
structure Scr where
 l:List Int
instance rpScr:Rp Scr:=⟨fun K H v a=>∃ l,v = .ref l/\SqL K H l (a.l.map V.int),fun s ⟨l,e,h⟩=>⟨l,e,s.seq h⟩⟩
theorem ev_lenX {ma:Option Scr}(ea:EV K ta σ G ma):EV K (tCB (rLen K) (AQ ta BL)) σ G (ma.bind fun a=>some (a.l.length:Int)):=by
 intro G1 s1 c hc H sH Q k
 obtain ⟨a,ha,hc⟩:=qaA.mp hc
 cases hc
 refine ea G1 s1 a ha H sH _ fun v G2 H2 x2 r2=>?_
 obtain ⟨l,rfl,h⟩:=r2
 exact ⟨_,.inl (x2.gh.seq h),by rw [qfA];exact k _ _ _ x2 rfl⟩
theorem pairedI {H:Hp}:∀ ns:List Int,Paired (Rp.rel K H) (ns.map V.int) ns
 | []=>.nil
 | _::r=>.cons rfl (pairedI r)
theorem ev_atX {ma:Option Scr}(ea:EV K ta σ G ma)(eb:EV K tb σ G ib):EV K (tOp (rAt K) ta tb) σ G (ma.bind fun a=>ib.bind fun i=>atI a.l i) :=
 C6 (fun s ra rb e Q k=>by
  obtain ⟨l,rfl,h⟩:=ra;cases rb
  obtain ⟨v,hv,r⟩:=paired_atI (pairedI (K:=K) _) e
  exact .inl ⟨_,v,s.seq h,hv,k _ _ _ (.refl s) r⟩) ea eb
theorem sv_setB {a:α}{m:Option α}[Imm α]{v:V}{p:Addr}{vs:List V}{as:List β}(o:Own K G H v p vs as)(e:EV K te σ (upd G p (.lst vs)) m)(hm:m=some a)(s:Same G H)(k:∀ v G2 H2,Ext G H G2 H2->Rp.rel K G2 v a->rest D (σ.set i (some v)) H2) :
  CA (GV te (Bh i)) rest D σ H:=EV.runB o e hm s k
theorem sv_ifB {b:Bool}{m:Option Bool}{v:V}{p:Addr}{vs:List V}{as:List β}(o:Own K G H v p vs as)(e:TV tt σ (upd G p (.lst vs)) m)(hm:m=some b)(s:Same G H)(k:∀ G2 H2,Ext G H G2 H2->if b=true then t { D with nx:=rest D } σ H2 else u { D with nx:=rest D } σ H2) :
  CA (Hh tt t u) rest D σ H:=TV.runB o e hm s k
end
structure Own2 (K:FZ9){α β:Type}[Rp α][Rp β](G H:Hp)(v:V)(p q:Addr)(vs ws:List V)(a:List α × List β):Prop where
 t:∃ t,v = .ref t/\G t=some (.tup [.ref p,.ref q])
 o1:Own K G H (.ref p) p vs a.1
 o2:Own K G H (.ref q) q ws a.2
 ne:p≠q
section
variable {K:FZ9}{σ:St}{G H G1 H1 G0 H0:Hp}{α β γ:Type}[Rp α][Rp β][Rp γ]{ta tb te ti:TE}{tt:TT}{t u rest:TS}{D:Ends}{i j:Nat}{v:V}{p q r:Addr}{vs ws:List V}{a:List α × List β}
def two (G:Hp)(p q:Addr)(vs ws:List V):Hp:=upd (upd G p (.lst vs)) q (.lst ws)
theorem Own2.g2 (o:Own2 K G H v p q vs ws a):(upd G p (.lst vs)) q=none:=by rw [Aq (Ne.symm o.ne)];exact o.o2.g
theorem Own2.up (o:Own2 K G H v p q vs ws a):Same G (two G p q vs ws):=(Same.new o.o1.g).trans (Same.new o.g2)
theorem Own2.tell (o:Own2 K G H v p q vs ws a):Rp.rel K (two G p q vs ws) v a:=by
 obtain ⟨t,rfl,ht⟩:=o.t
 refine ⟨t,.ref p,.ref q,rfl,SqT.of (o.up _ _ ht),⟨p,vs,rfl,.inl ?_,o.o1.z,Paired.imp' (fun _ _ r=>Rp.mono o.up r) o.o1.p⟩,⟨q,ws,rfl,.inl AJ,o.o2.z,Paired.imp' (fun _ _ r=>Rp.mono o.up r) o.o2.p⟩⟩
 unfold two
 rw [Aq o.ne]
 exact AJ
theorem Own2.frz (o:Own2 K G H v p q vs ws a)(x:Ext G0 H0 G H)(h1:H0 p=none)(h2:H0 q=none):Ext G0 H0 (two G p q vs ws) H :=
 (x.frz h1 o.o1.g o.o1.h).frz h2 o.g2 o.o2.h
def NV (K:FZ9){α β:Type}[Rp α][Rp β](te:TE)(σ:St)(G:Hp)(m:Option (List α × List β)):Prop :=
 ∀ G1,Same G G1->∀ a,m=some a->∀ H,Same G1 H->∀ Q:VK,(∀ v p q vs ws G2 H2,Ext G1 H G2 H2->H p=none->H q=none->Own2 K G2 H2 v p q vs ws a->Q v H2)->te σ H Q
theorem NV.ev {m:Option (List α × List β)}(e:NV K te σ G m):EV K te σ G m:=by
 intro G1 s1 a ha H sH Q k
 refine e G1 s1 a ha H sH Q fun v p q vs ws G2 H2 x h1 h2 o=>?_
 exact k v _ H2 (o.frz x h1 h2) o.tell
def spN (K:FZ9){A:Type}[RpA A]{α β:Type}[Rp α][Rp β](m:A->Option (List α × List β)):Sp:=fun vs H Q _ =>
 ∃ G a r,Same G H/\RpA.rel K G vs a/\m a=some r/\∀ v p q vs ws G2 H2,Ext G H G2 H2->H p=none->H q=none->Own2 K G2 H2 v p q vs ws r->Q v H2
def spL (K:FZ9){A:Type}[RpA A]{α:Type}[Rp α](m:A->Option (List α)):Sp:=fun vs H Q _ =>
 ∃ G a r,Same G H/\RpA.rel K G vs a/\m a=some r/\∀ p vs G2 H2,Ext G H G2 H2->H p=none->Own K G2 H2 (.ref p) p vs r->Q (.ref p) H2
theorem spN_len {A:Type}[RpA A]{m:A->Option (List α × List β)}{vs:List V}{H:Hp}{Q:VK}{E:XK}(h:spN K m vs H Q E):vs.length=RpA.n A:=by
 obtain ⟨G,a,r,_,h,_⟩:=h
 exact RpA.len h
theorem spL_len {A:Type}[RpA A]{m:A->Option (List α)}{vs:List V}{H:Hp}{Q:VK}{E:XK}(h:spL K m vs H Q E):vs.length=RpA.n A:=by
 obtain ⟨G,a,r,_,h,_⟩:=h
 exact RpA.len h
theorem nv_def1 {A0:Type}[Rp A0]{t0:TE}{m0:Option A0}{m:A0 × Unit->Option (List α × List β)}(e0:EV K t0 σ G m0):NV K (ES (spN K m) [] E0 (AQ t0 BL)) σ G (m0.bind fun a0=>m (a0,())):=by
 intro G1 s1 c hc H sH Q k
 obtain ⟨a0,ha0,hc⟩:=qaA.mp hc
 refine e0 G1 s1 a0 ha0 H sH _ fun v0 G2 H2 x0 r0=>?_
 have y0:=x0
 exact ⟨G2,_,c,y0.gh,⟨v0,_,rfl,r0,rfl⟩,hc,fun v p q vs ws G9 H9 x9 h1 h2 o=>k v p q vs ws G9 H9 (y0.trans x9) (y0.hh.free h1) (y0.hh.free h2) o⟩
theorem fv_def1 {A0:Type}[Rp A0]{t0:TE}{m0:Option A0}{m:A0 × Unit->Option (List α)}(e0:EV K t0 σ G m0):FV K (ES (spL K m) [] E0 (AQ t0 BL)) σ G (m0.bind fun a0=>m (a0,())):=by
 intro G1 s1 c hc H sH Q k
 obtain ⟨a0,ha0,hc⟩:=qaA.mp hc
 refine e0 G1 s1 a0 ha0 H sH _ fun v0 G2 H2 x0 r0=>?_
 have y0:=x0
 exact ⟨G2,_,c,y0.gh,⟨v0,_,rfl,r0,rfl⟩,hc,fun p vs G9 H9 x9 h1 o=>k p vs G9 H9 (y0.trans x9) (y0.hh.free h1) o.g o.h o.z o.p⟩
theorem sv_retO {as:List α}(hσ:σ[i]? = some (some v))(o:Own K G H v p vs as)(k:D.rt (.ref p) H):CA (Hj (Bc i)) rest D σ H:=⟨v,hσ,by rw [o.v];exact k⟩
theorem sv_retO2 {v1 v2:V}{as:List α}{bs:List β}(h1:σ[i]? = some (some v1))(h2:σ[j]? = some (some v2))(o1:Own K G H v1 p vs as)(o2:Own K G H v2 q ws bs)(ne:p≠q)(s:Same G H)
  (k:∀ v G2 H2,Ext G H G2 H2->Own2 K G2 H2 v p q vs ws (as,bs)->D.rt v H2):CA (Hj (HH (AQ (Bc i) (AQ (Bc j) BL)))) rest D σ H:=by
 obtain ⟨rfl,g1,hh1,z1,p1⟩:=o1
 obtain ⟨rfl,g2,hh2,z2,p2⟩:=o2
 refine ⟨_,h1,_,h2,by show 2<=sizeLine;decide,fun t ht=>?_⟩
 have x4:Ext G H (upd G t (.tup [.ref p,.ref q])) (upd H t (.tup [.ref p,.ref q])):=.new s ht
 exact k (.ref t) _ _ x4 ⟨⟨t,rfl,AJ⟩,Own.ext ⟨rfl,g1,hh1,z1,p1⟩ x4,Own.ext ⟨rfl,g2,hh2,z2,p2⟩ x4,ne⟩
end
section
variable {X:Cx}{K:FZ9}
theorem B2 (h:X.K=K):OpR X (binaryOp .Add) (rPlus K):=h ▸ op_plus
theorem Ey (h:X.K=K):OpR X (binaryOp .Mult) (rMul K):=h ▸ op_mulU
theorem AF (h:X.K=K):IxR X (rAt K):=h ▸ ix_any
theorem Az (h:X.K=K):EM X (.builtin "len") (rLen K):=h ▸ call_lenU
theorem call_instK (h:X.K=K):EM X (.builtin "isinstance") (rInst K):=h ▸ call_inst
theorem mt_joinK (h:X.K=K):MtR X "str.join" (rJoin K):=h ▸ mt_join
theorem op_neK {j:Nat}(h:X.K=K)(α:Type)[Rp α][DecidableEq α][RpE α](hr:Room j X.A)(hk:RpE.k α<=10):OpR X (compareOp .NotEq) (rNeD K α):=h ▸ op_neM α hr hk
theorem BI {tg l:Expr}{tl:TE}(h:X.K=K)(hl:PE X l tl):PI X tg l (Hi K tl):=h ▸ pi_any hl
theorem Dy {a:Expr}{ta:TE}(h:X.K=K)(ha:PE X a ta)(he:∀ whole,isTrue a X.env whole=(do let v <- whole;standAt a.pos;holding [v] (truthy v))) :
  PT X a (fun σ H Q=>ta σ H fun x H'=>∃ k,TruV K x H' k/\Q k H'):=h ▸ pt_truth ha he
section
variable {o e:Expr}{es:List Expr}{to:TE}{t:TA}{name:Str}{apos cpos:Pos}{T id:String}{r:V->List V->Hp->VK->Prop}
theorem Dj (h:X.K=K)(pa:PlainAttrs T)(slot:Slot T name id)(hty:typeOf (.builtin id)=pure (.type "method_descriptor"))(hm:MtR X id r)(ho:PE X o to)(ha:PA X (e::es) t)
  (hbase:attributeBase o name X.env (eval o X.env)=eval o X.env:=by rfl)
  (hfew:((backTo cpos (starEach (e::es) X.env)).all (fun x=>!x.1) && (backToKw cpos (keywordEach [] X.env)).all (fun x=>x.1.isSome)
   && decide ((e::es).length+([]:List Keyword).length+(if ([]:List Keyword).isEmpty then 0 else 1)<30))=true:=by rfl)
  (hline:(apos.endLine == cpos.line)=true:=by rfl) (hs:starEach (e::es) X.env=(false,eval e X.env)::starEach es X.env:=by rfl) (hplain:(backTo cpos (starEach es X.env)).any (·.1)=false:=by rfl) :
  PE X (.Call (.Attribute o name apos) (e::es) [] cpos) (tBM K T r to t):=h ▸ pe_bm pa slot hty hm ho ha hbase hfew hline hs hplain
end
end
theorem ET {f:St->Hp->Prop}{rt:VK}{bk ct:St->Hp->Prop}{σ:St}{H:Hp}(h:f σ H):({ nx:=f,rt:=rt,bk:=bk,ct:=ct }:Ends).nx σ H:=h
section
variable {K:FZ9}{σ:St}{G H:Hp}{α β γ:Type}[Rp α][Rp β][Rp γ]{ta tb te:TE}{rest t u:TS}{D:Ends}{i j:Nat}
def extO {α:Type}(as bs:List α):Option (List α):=if as.length+bs.length<=sizeLine then some (as++bs) else none
end
inductive D where
 | non
 | bl (b:Bool)
 | int (i:Int)
 | str (x:Str)
 | lst (l:List D)
 | tup (l:List D)
 | dic
mutual
inductive RelD (K:FZ9)(H:Hp):V->D->Prop where
 | non:RelD K H .non .non
 | bl (b:Bool):RelD K H (.bl b) (.bl b)
 | int (i:Int):RelD K H (.int i) (.int i)
 | str (x:Str) (z:x.length<=sizeLine):RelD K H (.str x) (.str x)
 | lst {a:Addr}{xs:List V}{ds:List D}(h:Rd H a (.lst xs)) (z:xs.length<=sizeLine) (r:RelDs K H xs ds):RelD K H (.ref a) (.lst ds)
 | tup {a:Addr}{xs:List V}{ds:List D}(h:SqT K H a xs) (z:xs.length<=sizeLine) (r:RelDs K H xs ds):RelD K H (.ref a) (.tup ds)
 | dK {a:Addr}{kvs:List (Key × V)}(h:Rd H a (.dK kvs)):RelD K H (.ref a) .dic
inductive RelDs (K:FZ9)(H:Hp):List V->List D->Prop where
 | nil:RelDs K H [] []
 | cons {x:V}{d:D}{xs:List V}{ds:List D}(h:RelD K H x d) (t:RelDs K H xs ds):RelDs K H (x::xs) (d::ds)
end
mutual
theorem RelD.mono {K:FZ9}{H H':Hp}(s:Same H H'):∀ {v:V}{d:D},RelD K H v d->RelD K H' v d
 | _,_,.non=>.non
 | _,_,.bl b=>.bl b
 | _,_,.int i=>.int i
 | _,_,.str x z=>.str x z
 | _,_,.lst h z r=>.lst (s.rd h) z (RelDs.mono s r)
 | _,_,.tup h z r=>.tup (s.tup h) z (RelDs.mono s r)
 | _,_,.dK h=>.dK (s.rd h)
theorem RelDs.mono {K:FZ9}{H H':Hp}(s:Same H H'):∀ {v:List V}{d:List D},RelDs K H v d->RelDs K H' v d
 | _,_,.nil=>.nil
 | _,_,.cons h t=>.cons (RelD.mono s h) (RelDs.mono s t)
end
instance rpD:Rp D:=⟨RelD,fun s h=>RelD.mono s h⟩
class ToD (α:Type) [Rp α] where
 to:α->D
 rel:∀ {K:FZ9}{H:Hp}{v:V}{a:α},Rp.rel K H v a->RelD K H v (to a)
def dk:D->String
 | .non => "NoneType"
 | .bl _ => "bool"
 | .int _ => "int"
 | .str _ => "str"
 | .lst _ => "list"
 | .tup _ => "tuple"
 | .dic => "dict"
def isK (T:String)(d:D):Bool:=dk d == T || (T == "int" && dk d == "bool")
section
variable {K:FZ9}{σ:St}{G:Hp}{α β:Type}[Rp α][Rp β]{ta tb te:TE}{md:Option D}
theorem ev_toD [ToD α]{m:Option α}(e:EV K te σ G m):EV K te σ G (m.bind fun a=>some (ToD.to a)):=by
 intro G1 s1 c hc H sH Q k
 obtain ⟨a,ha,hc⟩:=qaA.mp hc
 cases hc
 exact e G1 s1 a ha H sH Q fun v G2 H2 x r=>k v G2 H2 x (ToD.rel r)
theorem RelD.ty {H:Hp}{v:V}{d:D}(r:RelD K H v d):TyS K H v (dk d):=by
 cases r with
 | non=>exact .non
 | bl=>exact .bl _
 | int=>exact .int _
 | str=>exact .str _
 | lst h=>exact .lst (.inl h)
 | tup h=>exact .tup h
 | dK h=>exact .dK h
theorem kit_all:∀ n∈["NoneType","bool","int","str","list","tuple","dict"],∀ T∈["str","list","tuple","bool","int","dict"],kitC n T=some (n == T || (T == "int" && n == "bool")):=by decide +kernel
theorem isK_ok {T:String}(hT:T∈["str","list","tuple","bool","int","dict"])(d:D):kitC (dk d) T=some (isK T d):=by
 unfold isK
 exact kit_all (dk d) (by cases d<;>simp [dk]) T hT
theorem ev_instD {T:String}(hT:T∈["str","list","tuple","bool","int","dict"])(ea:EV K ta σ G md):EV K (tCB (rInst K) (AQ ta (AQ (tC (.ty T)) BL))) σ G (md.bind fun d=>some (isK T d)):=by
 intro G1 s1 c hc H sH Q k
 obtain ⟨a,ha,hc⟩:=qaA.mp hc
 cases hc
 refine ea G1 s1 a ha H sH _ fun v G2 H2 x2 r2=>?_
 exact ⟨_,_,_,_,rfl,(RelD.ty r2).mono x2.gh,isK_ok hT a,k _ _ _ x2 rfl⟩
theorem call_tupK {X:Cx}(h:X.K=K):EM X (.type "tuple") (fun xs H Q=>∃ p ys,xs=[.ref p]/\((SqL K H p ys/\∀ l,H l=none->Q (.ref l) (upd H l (.tup ys)))\/(SqT K H p ys/\Q (.ref p) H))):=h ▸ call_tuple_of
theorem ev_tuple {la:Option (List α)}(ea:EV K ta σ G la):EV K (tCB (fun xs H Q=>∃ p ys,xs=[.ref p]/\((SqL K H p ys/\∀ l,H l=none->Q (.ref l) (upd H l (.tup ys)))\/(SqT K H p ys/\Q (.ref p) H))) (AQ ta BL)) σ G (la.bind fun a=>some (Tp.mk a)):=by
 intro G1 s1 c hc H sH Q k
 obtain ⟨a,ha,hc⟩:=qaA.mp hc
 cases hc
 refine ea G1 s1 a ha H sH _ fun v G2 H2 x2 r2=>?_
 obtain ⟨l,xs,rfl,h,z,p⟩:=r2
 refine ⟨l,xs,rfl,.inl ⟨.inl (x2.gh.rd h),fun q hq=>?_⟩⟩
 exact k _ _ _ (x2.trans (.new x2.gh hq)) ⟨q,xs,rfl,SqT.of AJ,z,Paired.imp' (fun _ _ r=>Rp.mono (Same.new (x2.gh.free hq)) r) p⟩
end
def OK {α:Type}(m:Option α)(P:α->Prop):Prop:=∃ a,m=some a/\P a
section
variable {α β S ρ:Type}{m:Option α}{P Q:α->Prop}{R:β->Prop}
theorem OK.mono (h:OK m P)(k:∀ a,P a->Q a):OK m Q:=let ⟨a,e,p⟩:=h;⟨a,e,k a p⟩
theorem AH {a:α}(h:P a):OK (some a) P:=⟨a,rfl,h⟩
theorem AG {f:α->Option β}(h:OK m fun a=>OK (f a) R):OK (m.bind f) R:=by
 obtain ⟨a,rfl,h⟩:=h
 exact h
theorem ok_bC {f:α->Option β}(a:α)(e:m=some a)(h:OK (f a) R):OK (m.bind f) R:=AG ⟨a,e,h⟩
theorem FW {f:α->Option β}(h:OK m P)(k:∀ a,P a->OK (f a) R):OK (m.bind f) R:=AG (h.mono k)
theorem ok_bs {a:α}{f:α->Option β}(h:OK (f a) R):OK ((some a).bind f) R:=h
theorem Ap {b:Bool}{x y:Option α}(h1:b=true->OK x P)(h2:b=false->OK y P):OK (cond b x y) P:=by
 cases b with
 | true=>exact h1 rfl
 | false=>exact h2 rfl
theorem OK.eq {a:α}(h:OK m fun b=>b=a):m=some a:=by obtain ⟨b,e,rfl⟩:=h;exact e
theorem OK.of {a:α}(e:m=some a)(h:P a):OK m P:=⟨a,e,h⟩
theorem Ac {α β:Type}(a:α)(f:α->Option β):(some a).bind f=f a:=by rw [Option.bind_some]
theorem AK {α:Type}(m:Option α):(m.bind fun x=>some x)=m:=by cases m<;>rfl
theorem ok_mod {a b:Int}{P:Int->Prop}(hb:0<b)(h:P (a % b)):OK (Hn a b) P:=⟨_,if_pos hb,h⟩
theorem ok_mul {a b:Int}{P:Int->Prop}(hb:CMul a b)(h:P (a * b)):OK (Ho a b) P:=⟨_,if_pos hb,h⟩
theorem ok_catS {a b:Str}{P:Str->Prop}(hb:a.length+b.length<=sizeLine)(h:P (a++b)):OK (catS a b) P:=⟨_,if_pos hb,h⟩
theorem ok_catL {a b:List α}{P:List α->Prop}(hb:a.length+b.length<=sizeLine)(h:P (a++b)):OK (catL a b) P:=⟨_,if_pos hb,h⟩
theorem GO {a:List α}{b:α}{P:List α->Prop}(hb:a.length<sizeLine)(h:P (a++[b])):OK (Gq a b) P:=⟨_,if_pos hb,h⟩
theorem ok_rng {lo hi:Int}{n:Nat}{P:List Int->Prop}(hn:hi - lo=n)(h0:-1000000000<=lo/\lo<=1000000000)(h1:n<=sizeLine)(h:P ((List.range n).map fun (i:Nat)=>lo+(i:Int))):OK (rngO lo hi) P:=by
 have hs:sizeLine=16777216:=qtB
 have e:(hi - lo).toNat=n:=by omega
 refine ⟨_,if_pos ⟨⟨by omega,by omega,by omega,by omega⟩,by omega⟩,?_⟩
 rw [e]
 exact h
theorem ok_at {a:List α}{i:Int}(h0:0<=i)(h1:i<a.length)(h:∀ x,a[i.toNat]? = some x->P x):OK (atI a i) P:=by
 obtain ⟨k,rfl⟩:=qwB h0
 have hk:k<a.length:=by omega
 refine ⟨a[k],BS (by simp [hk]),h _ ?_⟩
 rw [qvB]
 simp [hk]
theorem ok_last {a:List α}(h:a ≠ [])(k:P (a.getLast h)):OK (atI a (-1)) P:=by
 refine ⟨_,?_,k⟩
 have:=atI_last a.dropLast (a.getLast h)
 rwa [List.dropLast_concat_getLast] at this
theorem ok_for {f:α->S->Option (Fl S ρ)}{as:List α}{s0:S}(I:Nat->S->Prop)(J:S->Prop)(R:ρ->Prop){P:Fl S ρ->Prop}(h0:I 0 s0)
  (hs:∀ (i:Nat) a s,as[i]? = some a->I i s->OK (f a s) fun fl=>match fl with | .nx s'=>I (i+1) s' | .bk s'=>J s' | .rt r=>R r)
  (hn:∀ s,I as.length s->P (.nx s)) (hj:∀ s,J s->P (.nx s)) (hr:∀ r,R r->P (.rt r)):OK (CH f as s0) P:=by
 have key:∀ (n i:Nat) (s:S),n=as.length - i->i<=as.length->I i s->OK (CH f (as.drop i) s) P:=by
  intro n
  induction n with
  | zero =>
   intro i s hn0 hi hI
   have e:i=as.length:=by omega
   subst e
   rw [List.drop_length]
   exact AH (hn s hI)
  | succ n ih =>
   intro i s hn0 hi hI
   have hlt:i<as.length:=by omega
   rw [List.drop_eq_getElem_cons hlt]
   obtain ⟨fl,e,h⟩:=hs i as[i] s (by simp [hlt]) hI
   show OK ((f as[i] s).bind _) P
   rw [e]
   cases fl with
   | nx s'=>exact ih (i+1) s' (by omega) hlt h
   | bk s'=>exact AH (hj s' h)
   | rt r=>exact AH (hr r h)
 exact key as.length 0 s0 (by omega) (qrC _) h0
theorem Eb {f:α->S->Option (Fl S ρ)}{as:List α}{s0:S}(I:Nat->S->Prop){P:Fl S ρ->Prop}(h0:I 0 s0)
  (hs:∀ (i:Nat) a s,as[i]? = some a->I i s->OK (f a s) fun fl=>∃ s',fl = .nx s'/\I (i+1) s') (hn:∀ s,I as.length s->P (.nx s)):OK (CH f as s0) P :=
 ok_for I (fun _=>False) (fun _=>False) h0 (fun i a s ha hI=>(hs i a s ha hI).mono fun fl ⟨s',e,h⟩=>by subst e;exact h) hn (fun _ h=>h.elim) fun _ h=>h.elim
theorem ok_while {c:S->Option Bool}{f:S->Option (Fl S ρ)}{s0:S}(I:S->Prop)(J:S->Prop)(R:ρ->Prop)(μ:S->Nat){P:Fl S ρ->Prop}(h0:I s0)(hμ:μ s0<1000000)
  (hs:∀ s,I s->OK (c s) fun b=>if b=true then OK (f s) fun fl=>match fl with | .nx s'=>I s'/\μ s'<μ s | .bk s'=>J s' | .rt r=>R r else P (.nx s))
  (hj:∀ s,J s->P (.nx s)) (hr:∀ r,R r->P (.rt r)):OK (Gi c f fuelW s0) P:=by
 have key:∀ (n:Nat) (s:S),μ s<n->I s->OK (Gi c f n s) P:=by
  intro n
  induction n with
  | zero=>intro s h;exact absurd h (Nat.not_lt_zero _)
  | succ n ih =>
   intro s hlt hI
   obtain ⟨b,e,h⟩:=hs s hI
   show OK ((c s).bind _) P
   rw [e]
   cases b with
   | false =>
    rw [if_neg qzB] at h
    exact AH h
   | true =>
    rw [if_pos rfl] at h
    obtain ⟨fl,e2,h⟩:=h
    show OK ((f s).bind _) P
    rw [e2]
    cases fl with
    | nx s'=>exact ih s' (by have:=h.2;omega) h.1
    | bk s'=>exact AH (hj s' h)
    | rt r=>exact AH (hr r h)
 exact key fuelW s0 (by unfold fuelW;omega) h0
theorem ok_map {f:α->Option β}{g:α->β}{P:List β->Prop}:∀ {as:List α},(∀ a∈as,f a=some (g a))->P (as.map g)->OK (Dr f as) P:=by
 intro as
 have key:∀ as:List α,(∀ a∈as,f a=some (g a))->Dr f as=some (as.map g):=by
  intro as
  induction as with
  | nil=>intro _;rfl
  | cons a r ih =>
   intro h
   show ((f a).bind fun y=>(Dr f r).bind fun ys=>some (y::ys))=_
   rw [h a qrA,ih fun x hx=>h x (qsA _ hx)]
   rfl
 exact fun h p=>⟨_,key as h,p⟩
theorem Fd {fc:α->Option Bool}{fe:α->Option β}{c:α->Bool}{g:α->β}{P:List β->Prop}{as:List α}(hc:∀ a∈as,fc a=some (c a))(he:∀ a∈as,c a=true->fe a=some (g a))(p:P ((as.filter c).map g)):OK (Cr fc fe as) P:=by
 have key:∀ as:List α,(∀ a∈as,fc a=some (c a))->(∀ a∈as,c a=true->fe a=some (g a))->Cr fc fe as=some ((as.filter c).map g):=by
  intro as
  induction as with
  | nil=>intro _ _;rfl
  | cons a r ih =>
   intro h1 h2
   have i:=ih (fun x hx=>h1 x (qsA _ hx)) fun x hx=>h2 x (qsA _ hx)
   show ((fc a).bind fun b=>cond b ((fe a).bind fun y=>(Cr fc fe r).bind fun ys=>some (y::ys)) (Cr fc fe r))=_
   rw [h1 a qrA,i]
   cases hb:c a with
   | true =>
    show ((fe a).bind fun y=>_)=_
    rw [h2 a qrA hb]
    simp [hb]
   | false=>simp [hb]
 exact ⟨_,key as hc he,p⟩
end
end L2
namespace Lasso
variable {α β:Type}
end Lasso
namespace Lasso
variable {α:Type}[DecidableEq α]
end Lasso
namespace L2
open PySem PySem.Spec PyProof.Rows
section
variable {K:FZ9}{σ:St}{G H G1 H1 G0 H0:Hp}{α β:Type}[Rp α][Rp β]{te ti:TE}{tt:TT}{t u rest:TS}{D:Ends}{i j:Nat}{a:α}{m:Option α}{as:List α}{v:V}{p q:Addr}{vs:List V}
def era (H:Hp)(C:List Addr):Hp:=fun a=>if a∈C then none else H a
theorem era_in {C:List Addr}{b:Addr}(h:b∈C):era H C b=none:=if_pos h
theorem era_out {C:List Addr}{b:Addr}(h:b ∉ C):era H C b=H b:=if_neg h
theorem era_same {C:List Addr}:Same (era H C) H:=fun b o e=>by
 by_cases h:b∈C
 ·rw [era_in h] at e
  cases e
 ·rw [era_out h] at e
  exact e
theorem Ext.begin {C:List Addr}(s:Same G H):Ext G (era H C) G H:=⟨.refl _,s,era_same,fun _ h _=>h⟩
theorem Ext.past {C:List Addr}(x:Ext G0 H0 G H)(h0:∀ b∈C,H0 b=none)(y:Ext G (era H C) G1 H1):Ext G0 H0 G1 H1:=by
 refine ⟨x.gg.trans y.gg,y.gh,fun b o e=>?_,fun b g h=>?_⟩
 ·have hb:b ∉ C:=fun hc=>by
   rw [h0 b hc] at e
   cases e
  exact y.hh b o (by rw [era_out hb];exact x.hh b o e)
 ·have hb:b ∉ C:=fun hc=>h (h0 b hc)
  refine y.no b (x.no b g h) ?_
  rw [era_out hb]
  cases e:H0 b with
  | none=>exact absurd e h
  | some o =>
   rw [x.hh b o e]
   exact fun z=>nomatch z
end
inductive Nt where
 | txt (x:Str)
 | tup (l:List Nt)
 | int (n:Int)
mutual
def Nt.dec:(a b:Nt)->Decidable (a=b)
 | .txt x,.txt y=>if h:x=y then .isTrue (by rw [h]) else .isFalse fun e=>h (by cases e;rfl)
 | .txt _,.tup _=>.isFalse fun e=>by cases e
 | .tup _,.txt _=>.isFalse fun e=>by cases e
 | .int m,.int n=>if h:m=n then .isTrue (by rw [h]) else .isFalse fun e=>h (by cases e;rfl)
 | .int _,.txt _=>.isFalse fun e=>by cases e
 | .int _,.tup _=>.isFalse fun e=>by cases e
 | .txt _,.int _=>.isFalse fun e=>by cases e
 | .tup _,.int _=>.isFalse fun e=>by cases e
 | .tup l,.tup m=>match Nt.decs l m with
  | .isTrue h=>.isTrue (by rw [h])
  | .isFalse h=>.isFalse fun e=>h (by cases e;rfl)
def Nt.decs:(l m:List Nt)->Decidable (l=m)
 | [],[]=>.isTrue rfl
 | [],_::_=>.isFalse fun e=>by cases e
 | _::_,[]=>.isFalse fun e=>by cases e
 | a::l,b::m=>match Nt.dec a b with
  | .isFalse h=>.isFalse fun e=>h (by cases e;rfl)
  | .isTrue h=>match Nt.decs l m with
   | .isTrue h2=>.isTrue (by rw [h,h2])
   | .isFalse h2=>.isFalse fun e=>h2 (by cases e;rfl)
end
mutual
def Nt.dep:Nt->Nat
 | .txt _=>0
 | .int _=>0
 | .tup l=>Nt.deps l+1
def Nt.deps:List Nt->Nat
 | []=>0
 | a::l=>max (Nt.dep a) (Nt.deps l)
end
mutual
inductive RelN (K:FZ9)(H:Hp):V->Nt->Prop where
 | txt (x:Str) (z:x.length<=sizeLine):RelN K H (.str x) (.txt x)
 | int (n:Int):RelN K H (.int n) (.int n)
 | tup {a:Addr}{xs:List V}{ds:List Nt}(h:SqT K H a xs) (z:xs.length<=sizeLine) (r:RelNs K H xs ds) (l:ds[0]? = some (.txt "lamp")->H a=some (.tup xs)):RelN K H (.ref a) (.tup ds)
inductive RelNs (K:FZ9)(H:Hp):List V->List Nt->Prop where
 | nil:RelNs K H [] []
 | cons {x:V}{d:Nt}{xs:List V}{ds:List Nt}(h:RelN K H x d) (t:RelNs K H xs ds):RelNs K H (x::xs) (d::ds)
end
mutual
theorem RelN.mono {K:FZ9}{H H':Hp}(s:Same H H'):∀ {v:V}{d:Nt},RelN K H v d->RelN K H' v d
 | _,_,.txt x z=>.txt x z
 | _,_,.int n=>.int n
 | _,_,.tup h z r l=>.tup (s.tup h) z (RelNs.mono s r) fun e=>s _ _ (l e)
theorem RelNs.mono {K:FZ9}{H H':Hp}(s:Same H H'):∀ {v:List V}{d:List Nt},RelNs K H v d->RelNs K H' v d
 | _,_,.nil=>.nil
 | _,_,.cons h t=>.cons (RelN.mono s h) (RelNs.mono s t)
end
instance rpN:Rp Nt:=⟨RelN,fun s h=>RelN.mono s h⟩
theorem relNs_of {K:FZ9}{H:Hp}:∀ {xs:List V}{ds:List Nt},Paired (Rp.rel K H) xs ds->RelNs K H xs ds
 | _,_,.nil=>.nil
 | _,_,.cons h t=>.cons h (relNs_of t)
theorem of_relNs {K:FZ9}{H:Hp}:∀ {xs:List V}{ds:List Nt},RelNs K H xs ds->Paired (Rp.rel K H) xs ds
 | _,_,.nil=>.nil
 | _,_,.cons h t=>.cons h (of_relNs t)
theorem SqT.keep {K:FZ9}{H H':Hp}{a:Addr}{xs:List V}(s:TupK H H')(h:SqT K H a xs):SqT K H' a xs:=by
 rcases h with h|h
 ·exact .inl (s.rd _ _ h)
 ·exact .inr h
mutual
theorem RelN.keep {K:FZ9}{H H':Hp}(s:TupK H H'):∀ {v:V}{d:Nt},RelN K H v d->RelN K H' v d
 | _,_,.txt x z=>.txt x z
 | _,_,.int n=>.int n
 | _,_,.tup h z r l=>.tup (SqT.keep s h) z (RelNs.keep s r) fun e=>s.eq _ _ (l e)
theorem RelNs.keep {K:FZ9}{H H':Hp}(s:TupK H H'):∀ {v:List V}{d:List Nt},RelNs K H v d->RelNs K H' v d
 | _,_,.nil=>.nil
 | _,_,.cons h t=>.cons (RelN.keep s h) (RelNs.keep s t)
end
instance imN:Imm Nt:=⟨fun s h=>RelN.keep s h⟩
section
variable {K:FZ9}{σ:St}{G:Hp}{ta tb te:TE}{m1 m2 md:Option Nt}
theorem BB {m:Option Str}(e:EV K te σ G m):EV K te σ G (m.bind fun x=>some (Nt.txt x)):=by
 intro G1 s1 c hc H sH Q k
 obtain ⟨x,hx,hc⟩:=qaA.mp hc
 cases hc
 exact e G1 s1 x hx H sH Q fun v G2 H2 x2 ⟨e,z⟩=>k v G2 H2 x2 (by subst e;exact .txt _ z)
def C0:Nt->Option Str
 | .txt x=>some x
 | _=>none
def BC:Nt->Option (Tp Nt)
 | .tup l=>some ⟨l⟩
 | _=>none
theorem CQ (e:EV K te σ G md):EV K te σ G (md.bind fun d=>C0 d):=by
 intro G1 s1 c hc H sH Q k
 obtain ⟨d,hd,hc⟩:=qaA.mp hc
 refine e G1 s1 d hd H sH Q fun v G2 H2 x r=>?_
 cases r with
 | txt y z =>
  cases hc
  exact k _ _ _ x ⟨rfl,z⟩
 | int n=>cases hc
 | tup h z r l=>cases hc
theorem B5 (e:EV K te σ G md):EV K te σ G (md.bind fun d=>BC d):=by
 intro G1 s1 c hc H sH Q k
 obtain ⟨d,hd,hc⟩:=qaA.mp hc
 refine e G1 s1 d hd H sH Q fun v G2 H2 x r=>?_
 cases r with
 | txt y z=>cases hc
 | int n=>cases hc
 | tup h z r l =>
  cases hc
  exact k _ _ _ x ⟨_,_,rfl,h,z,of_relNs r⟩
end
section
variable {X:Cx}{K:FZ9}
theorem sl_tupK (h:X.K=K):SlR X (rSlT K):=h ▸ sl_tup
end
section
variable {K:FZ9}{σ:St}{G:Hp}{α:Type}[Rp α]{ta tb tc te:TE}{t1 t2:TO}{ia ib ic:Option Int}{m1 m2:Option (Option Int)}
def cutT? {α:Type}(l:List α)(lo hi:Option Int):Option (Tp α):=if ¬ (HT.sIx l.length 0 lo=0/\HT.sIx l.length l.length hi=l.length) then some ⟨cutA l lo hi⟩ else none
theorem ev_sliceT {ma:Option (Tp α)}(ea:EV K ta σ G ma)(e1:OV t1 σ G m1)(e2:OV t2 σ G m2):EV K (tSl (rSlT K) ta t1 t2) σ G (ma.bind fun a=>m1.bind fun lo=>m2.bind fun hi=>cutT? a.l lo hi):=by
 intro G1 s1 c hc H sH Q k
 obtain ⟨a,ha,hc⟩:=qaA.mp hc
 obtain ⟨lo,hlo,hc⟩:=qaA.mp hc
 obtain ⟨hi,hhi,hc⟩:=qaA.mp hc
 obtain ⟨hw,rfl⟩:=Ay hc
 refine ea G1 s1 a ha H sH _ fun v G2 H2 x2 r2=>?_
 refine e1 G2 (s1.trans x2.gg) lo hlo H2 x2.gh _ fun G3 H3 x3=>?_
 refine e2 G3 (s1.trans (x2.trans x3).gg) hi hhi H3 x3.gh _ fun G4 H4 x4=>?_
 obtain ⟨l,xs,rfl,h,z,p⟩:=Rp.mono (x3.trans x4).gg r2
 have hl:=Paired.length p
 refine ⟨l,xs,rfl,x4.gh.tup h,by rw [hl];exact hw,fun q hq=>?_⟩
 have hg:G4 q=none:=x4.gh.free hq
 refine k _ (upd G4 q (.tup (cutV xs lo hi))) _ (((x2.trans x3).trans x4).trans ⟨Same.new hg,fun b o e=>?_,Same.new hq,fun b h1 h2=>?_⟩) ⟨q,_,rfl,.inl (.inl AJ),qmB (cutV_length _ _ _) z,Paired.imp' (fun _ _ r=>Rp.mono (Same.new hg) r) (Paired.cut p lo hi)⟩
 ·by_cases hb:b=q
  ·subst hb
   rw [AJ] at e ⊢
   exact e
  ·rw [Aq hb] at e ⊢
   exact x4.gh b o e
 ·have hb:b≠q:=fun e=>h2 (by rw [e];exact hq)
  rw [Aq hb]
  exact h1
end
mutual
def Nt.toD:Nt->D
 | .txt x=>.str x
 | .int n=>.int n
 | .tup l=>.tup (Nt.toDs l)
def Nt.toDs:List Nt->List D
 | []=>[]
 | a::l=>Nt.toD a::Nt.toDs l
end
mutual
theorem RelN.toD {K:FZ9}{H:Hp}:∀ {v:V}{a:Nt},RelN K H v a->RelD K H v a.toD
 | _,_,.txt x z=>by unfold Nt.toD;exact .str x z
 | _,_,.int n=>by unfold Nt.toD;exact .int n
 | _,_,.tup h z r _=>by unfold Nt.toD;exact .tup h z (RelNs.toD r)
theorem RelNs.toD {K:FZ9}{H:Hp}:∀ {xs:List V}{l:List Nt},RelNs K H xs l->RelDs K H xs (Nt.toDs l)
 | _,_,.nil=>by unfold Nt.toDs;exact .nil
 | _,_,.cons h t=>by unfold Nt.toDs;exact .cons (RelN.toD h) (RelNs.toD t)
end
instance tdN:ToD Nt:=⟨Nt.toD,fun h=>RelN.toD h⟩
theorem Dk {X:Cx}{x:Str}{a:Addr}{pos:Pos}(hg:Gl X x)(h:X.mg x=some (.ref a))(hd:(x == ("__debug__" : Str))=false:=by decide):PE X (.Name x pos) (tC (.ref a)) :=
 pe_glob (u:=.ref a) hg h rfl hd
theorem rel_tup1 {K:FZ9}{a:Addr}{od:Option Addr}{n:Nat}{osl:Array (Option Value)}{x:Str}{t:Tok}(h:K.lookup a=some ⟨.type "tuple",od,.seq #[.str x t] n,osl⟩)(z:x.length<=sizeLine)(G:Hp)(hx:x ≠ "lamp" := by decide +kernel) :
  Rp.rel K G (.ref a) (Nt.tup [Nt.txt x]) :=
 RelN.tup (xs:=[.str x]) (.inr ⟨_,_,_,h,rfl,rfl,(by show 1<=sizeLine;decide),.cons ⟨t,rfl⟩ .nil⟩) (by show 1<=sizeLine;decide) (.cons (.txt x z) .nil) fun e=>absurd (Nt.txt.inj (qpB e)) hx
section
variable {K:FZ9}{σ:St}{G:Hp}{ta:TE}
theorem B1 {t:TA}{n:Nat}{ml:Option (List Nt)}(e:LV K t σ G n ml)(z:n<=sizeLine:=by decide):EV K (HH t) σ G (ml.bind fun l=>some (Nt.tup l)) :=
 fun G1 s1 c hc H sH Q k=>by
  obtain ⟨l,hl,hc⟩:=qaA.mp hc
  cases hc
  refine e G1 s1 l hl H sH _ fun vs G2 H2 x2 hl hp=>⟨by omega,fun p h=>?_⟩
  exact k _ _ _ (x2.trans (.new x2.gh h)) (.tup (SqT.of AJ) (by omega) (relNs_of (Paired.imp' (fun _ _ r=>Rp.mono (Same.new (x2.gh.free h)) r) hp)) fun _=>AJ)
end
theorem Inv.turned2 {X:Cx}{pins:List (Addr × Obj)}{σ:List (Option V)}{H:Hp}{s:Shared}{h':Heap}{t':Nat}{e it:Addr}(I:Inv X pins σ H s)(k:∀ b o,b≠e->b≠it->s.heap.get? b=some o->h'.get? b=some o)(fe:HF X pins H e)(fi:HF X pins H it) :
  Inv X pins σ H { s with heap:=h',toks:=t' }:=by
 have nit:∀ b u,H b=some u->b≠e/\b≠it:=fun b u q=>⟨fun z=>(by rw [z,fe.1] at q;cases q),fun z=>(by rw [z,fi.1] at q;cases q)⟩
 have nm:∀ b,b ∉ [e,it]->b≠e/\b≠it:=fun b hb=>⟨fun z=>hb (by simp [z]),fun z=>hb (by simp [z])⟩
 refine I.step (g':=s.gens) (d':=s.drawn) (ch:=[e,it]) (fun b hb=>?_) (fun b o _ _ hc q _=>k b o (nm b hc).1 (nm b hc).2 q) (fun b o _ _ hc q _=>⟨o.slots,k b o (nm b hc).1 (nm b hc).2 q⟩) (fun _ _ _ _ n=>n)
  (fun b o hc q=>⟨o,k b o (nm b hc).1 (nm b hc).2 q⟩) (fun _ _ q=>q) (fun _ _ _ q=>q) (fun b ps q=>⟨#[],by rw [q];simp⟩) (fun m hm=>?_) (fun b u q=>?_) I.bare
 ·simp only [qnA,qkC,or_false] at hb
  rcases hb with z|z
  ·subst z
   exact ⟨fe.2.2.2.1,fe.2.1,fe.2.2.2.2.1,fe.2.2.2.2.2⟩
  ·subst z
   exact ⟨fi.2.2.2.1,fi.2.1,fi.2.2.2.2.1,fi.2.2.2.2.2⟩
 ·obtain ⟨o,es,ep,ho,r⟩:=hm
  exact ⟨o,es,ep,k _ o (Ne.symm fe.2.1) (Ne.symm fi.2.1) ho,r⟩
 ·refine (I.hok b u q).stay (fun c v hc z=>?_) (fun _ z=>z) fun _ _ z=>z
  rcases hc with y|y
  ·rw [y] at z ⊢
   exact k b v (nit b u q).1 (nit b u q).2 z
  ·exact k c v (nit c _ y).1 (nit c _ y).2 z
def Itn (K:FZ9)(a:Addr):It :=
 ⟨fun i H=>∃ xs x,SqL K H a xs/\xs[i]? = some x,fun i H x H'=>∃ t v,x = .ref t/\H t=none/\H'=upd H t (.tup [.int i,v])/\∀ xs,SqL K H a xs->xs[i]? = some v,fun i H=>∃ xs,SqL K H a xs/\xs.length<=i⟩
theorem turn_enum {P:Program}{w:World}{K:FZ9}{elts:List Expr}{x1:_}{pos:Pos}(a e it:Addr)(ne:e≠it):Turn P w K (.Tuple elts x1 pos) (Itn K a) [e,it] e (fun i h=>(∃ old,IsEnum h e it i old)/\h.IsListIter it a i) where
 mem:=by simp
 obj:=fun i h st b hb=>by
  obtain ⟨⟨old,he⟩,o,q,c,d⟩:=st
  simp only [qnA,qkC,or_false] at hb
  rcases hb with z|z
  ·subst z
   exact ⟨_,he,fun v z=>by
    have z':Data.fields _=Data.cell v:=z
    cases z'⟩
  ·subst z
   exact ⟨o,q,fun v z=>by rw [d] at z;cases z⟩
 keep:=fun i h h' st k=>⟨let ⟨old,he⟩:=st.1;⟨old,k e (by simp) _ he⟩,st.2.at fun o q=>k it (by simp) o q⟩
 item:=by
  intro X hP hw hK hc i pins s σ H E I hf st hg
  subst hP hw hK
  obtain ⟨⟨old,he⟩,hit⟩:=st
  obtain ⟨xs,x,hq,hx⟩:=hg
  obtain ⟨its,rv,p,hz⟩:=I.list hq
  obtain ⟨u,hu,ru⟩:=rv.get hx
  have fe:=hf e (by simp)
  have fi:=hf it (by simp)
  refine wpAny_pyNext_enum_item he hit p.isList (x:=u) (by simpa using hu) ne fun h1 heo hit1 ht1 hz1 hk1=>?_
  refine ⟨_,rfl,wpAny_letOwnedTupleGo_enum heo fun h2 he2 hs2=>?_⟩
  replace hs2:Heap.SameBut e h1 h2:=hs2
  have heH:e<s.heap.objs.size:=qqB he
  have hiH:it<s.heap.objs.size:=by obtain ⟨o,q,_⟩:=hit;exact qqB q
  have ht2:h2.get? s.heap.objs.size=some { cls:=.type "tuple",data:=.seq #[.int i s.toks,u] }:=(hs2.2 _ (qsC heH)).trans ht1
  have I1:Inv X pins σ (upd H s.heap.objs.size (.tup [.int i,x])) { s with heap:=s.heap.push { cls:=.type "tuple",data:=.seq #[.int i s.toks,u] },toks:=s.toks } :=
   I.laid (fun b ob q=>qrB _ q) (qkB _) ⟨by show 2<=sizeLine;decide,[.int i s.toks,u],.cons ⟨_,rfl⟩ (.cons ru .nil),IsTup.new _ _⟩
  have fre:∀ b,b∈[e,it]->b≠s.heap.objs.size:=fun b hb=>by
   simp only [qnA,qkC,or_false] at hb
   rcases hb with z|z
   ·rw [z];exact qjC heH
   ·rw [z];exact qjC hiH
  have fn:∀ b∈[e,it],HF X pins (upd H s.heap.objs.size (.tup [.int i,x])) b:=fun b hb=>⟨by rw [Aq (fre b hb)];exact (hf b hb).1,(hf b hb).2⟩
  have I2:Inv X pins σ (upd H s.heap.objs.size (.tup [.int i,x])) { s with heap:=h2,toks:=s.toks+1 }:=I1.turned2 (h':=h2) (t':=s.toks+1) (fun b o h1' h2' q=>by
   replace q:(s.heap.push { cls:=.type "tuple",data:=.seq #[.int i s.toks,u] }).get? b=some o:=q
   by_cases hb:b=s.heap.objs.size
   ·rw [hb] at q ⊢
    rw [qsB _ rfl] at q
    rw [ht2]
    exact q
   ·have q':s.heap.get? b=some o:=by rw [<- q];exact (Heap.get?_push_ne _ _ _ hb).symm
    exact (hs2.2 _ h1').trans (hk1 b o h1' h2' q')) (fn e (by simp)) (fn it (by simp))
  refine ⟨.ref s.heap.objs.size,_,I2,rfl,⟨_,x,rfl,I.hok.fresh (qkB _),rfl,fun ys hy=>by rw [I.list_inj hy hq];exact hx⟩,⟨⟨u,?_⟩,?_⟩,fun b hb=>(fn b hb).1⟩
  ·have:((i+1:Nat):Int)=(i:Int)+1:=by omega
   rw [this]
   exact he2
  ·exact hit1.extBut hs2.extBut (Ne.symm ne)
 done:=by
  intro X hP hw hK hc i pins s σ H E I hf st hg
  subst hP hw hK
  obtain ⟨⟨old,he⟩,hit⟩:=st
  obtain ⟨xs,hq,hx⟩:=hg
  obtain ⟨its,rv,p,hz⟩:=I.list hq
  obtain ⟨f0,f1,f2,f3,f4,f5⟩:=hf it (by simp)
  have hl:=rv.length
  exact wpAny_pyNext_enum_end (I.ok.hd hc) he hit p.isList (by simp;omega) fun h' eb=>⟨rfl,I.turned (t':=s.toks) (fun b o hb q=>eb b o hb q) f0 f1 f3 f4 f5⟩
 self:=fun _ _ _ _ _ st h=>by
  obtain ⟨⟨old,he⟩,_⟩:=st
  exact wpAny_pyIter_enum he h
def iEnum (K:FZ9)(ta:TA):TI:=fun σ H R=>ta σ H fun vs H1=>∃ a,vs=[.ref a]/\(∃ xs,SqL K H1 a xs)/\R (Itn K a) H1
theorem pi_enum {X:Cx}{K:FZ9}{elts:List Expr}{x1:_}{tp:Pos}{a:Expr}{ta:TA}{p pos:Pos}(hK:X.K=K)(hg:Gl X "enumerate")(hm:X.mg "enumerate" = none)(ha:PA X [a] ta)(hs:starEach [a] X.env=[(false,eval a X.env)]:=by rfl) :
  PI X (.Tuple elts x1 tp) (.Call (.Name "enumerate" p) [a] [] pos) (iEnum K ta):=by
 subst hK
 intro pins s σ H R I h
 refine Call_ (GG I hg hm boot_enumerate (PyProof.Rows.callWith_type1 (thn (ha pos pins s σ H _ I h) fun us s1 ⟨vs,H1,I1,r1,q1⟩=>?_) hs rfl))
 obtain ⟨l,e,⟨xs,hq⟩,q⟩:=q1
 subst e
 cases r1 with
 | cons r rr =>
  cases rr
  cases r
  obtain ⟨its,rv,pl,hz⟩:=I1.list hq
  refine call_enumerate_list pl.isList fun h' he hit hz' hk=>?_
  refine wpAny_pyIter_enum (s:={ s1 with heap:=h' }) he ?_
  have I2:Inv X pins σ H1 { s1 with heap:=h' }:=I1.kept (t':=s1.toks) hk
  refine ⟨s1.heap.objs.size+1,[s1.heap.objs.size+1,s1.heap.objs.size],_,_,H1,rfl,I2,turn_enum l (s1.heap.objs.size+1) s1.heap.objs.size (qsC (Nat.lt_succ_self _)),⟨⟨_,he⟩,hit⟩,fun b hb=>?_,q⟩
  simp only [qnA,qkC,or_false] at hb
  rcases hb with z|z
  ·subst z
   exact I1.fpOk (by omega) (I1.hok.fresh (by omega))
  ·subst z
   exact I1.fpOk (qkB _) (I1.hok.fresh (qkB _))
def BM {α:Type}:Nat->List α->List (Int × α)
 | _,[]=>[]
 | n,a::l=>((n:Int),a)::BM (n+1) l
theorem DZ {α:Type}:∀ (l:List α) (n i:Nat),(BM n l)[i]? = (l[i]?).map fun a=>(((n+i:Nat):Int),a)
 | [],n,i=>by simp [BM]
 | a::l,n,0=>by simp [BM]
 | a::l,n,i+1=>by
  show (BM (n+1) l)[i]? = _
  rw [DZ l (n+1) i]
  have:n+1+i=n+(i+1):=by omega
  rw [this]
  rfl
theorem Do {α:Type}:∀ (l:List α) (n:Nat),(BM n l).length=l.length
 | [],_=>rfl
 | a::l,n=>by show (BM (n+1) l).length+1=_;rw [Do l (n+1)];rfl
section
variable {K:FZ9}{σ:St}{G H:Hp}{α β γ:Type}[Rp α][Rp β][Rp γ]{ta tb te:TE}{rest:TS}{D:Ends}{i j:Nat}
def IE (K:FZ9){α:Type}[Rp α](wi:TI)(σ:St)(G:Hp)(m:Option (List α)):Prop :=
 ∀ G1,Same G G1->∀ a,m=some a->∀ H,Same G1 H->∀ R:It->Hp->Prop,(∀ l vs G2 H2,Ext G1 H G2 H2->Rd G2 l (.lst vs)->Paired (Rp.rel K G2) vs a->R (Itn K l) H2)->wi σ H R
theorem ie_list {la:Option (List α)}(ea:EV K ta σ G la):IE K (iEnum K (AQ ta BL)) σ G la:=by
 intro G1 s1 a ha H sH R k
 refine ea G1 s1 a ha H sH _ fun v G2 H2 x2 r2=>?_
 obtain ⟨l,xs,rfl,h,z,p⟩:=r2
 exact ⟨l,rfl,⟨xs,.inl (x2.gh.rd h)⟩,k l xs G2 H2 x2 h p⟩
structure LoopObE (K:FZ9){α S ρ:Type}[Rp α](RR:ρ->V->Hp->Hp->Prop)(f:Int × α->S->Option (Fl S ρ))(g:TG)(tb:TS)(D:Ends)(σ:St)(G2 H2:Hp)(s0:S)(res:Fl S ρ)(RS:S->St->Hp->Hp->Prop):Prop where
 start:RS s0 σ G2 H2
 keep:∀ s σ' G' H',RS s σ' G' H'->Same G2 G'/\Same G' H'
 step:∀ (x:V) (t:Addr) (a:Int × α) (s:S) (σ1:St) (G1 H1:Hp) (fl:Fl S ρ),RS s σ1 G1 H1->H1 t=none->Rp.rel K G1 x a.2->f a s=some fl->∀ D':Ends,(∀ s' σ' G' H',fl = .nx s'->RS s' σ' G' H'->D'.nx σ' H')->(∀ s' σ' G' H',fl = .nx s'->RS s' σ' G' H'->D'.ct σ' H') ->
  (∀ s' σ' G' H',fl = .bk s'->RS s' σ' G' H'->D'.bk σ' H')->(∀ r v G' H',fl = .rt r->RR r v G' H'->D'.rt v H')->g (.ref t) σ1 (upd H1 t (.tup [.int a.1,x])) fun σ2 H2=>tb D' σ2 H2
 nxt:∀ s σ' G' H',res = .nx s->RS s σ' G' H'->D.nx σ' H'
 rtn:∀ r v G' H',res = .rt r->RR r v G' H'->D.rt v H'
theorem sv_forE {S ρ:Type}{RR:ρ->V->Hp->Hp->Prop}{f:Int × α->S->Option (Fl S ρ)}{wi:TI}{g:TG}{tb:TS}{mi:Option (List α)}{as:List α}{s0:S}{res:Fl S ρ}(ei:IE K wi σ G mi)(hm:mi=some as)(hf:CH f (BM 0 as) s0=some res)(sg:Same G H)
  (k:∀ G2 H2,Ext G H G2 H2->∃ RS,LoopObE K RR f g tb { D with nx:=rest D } σ G2 H2 s0 res RS):CA (tFor wi g tb) rest D σ H:=by
 refine ei G (.refl G) as hm H sg _ fun l vs G2 H2 x2 hl pr=>?_
 obtain ⟨RS,L⟩:=k G2 H2 x2
 have hla:=Paired.length pr
 have hle:=Do as 0
 refine ⟨fun i m σ' H'=>m=vs.length - i/\i<=vs.length/\∃ s G',RS s σ' G' H'/\CH f ((BM 0 as).drop i) s=some res,⟨vs.length,by simp,qrC _,s0,G2,L.start,hf⟩,?_⟩
 rintro i m σ' H' ⟨rfl,hi,s,G',rs,hfo⟩
 obtain ⟨k1,k2⟩:=L.keep _ _ _ _ rs
 have hlH:SqL K H' l vs:=.inl ((k1.trans k2).rd hl)
 by_cases hlt:i<vs.length
 ·refine .inr ⟨⟨vs,vs[i],hlH,by simp [hlt]⟩,fun σ'' H''=>∃ s' G'',RS s' σ'' G'' H''/\CH f ((BM 0 as).drop (i+1)) s'=some res,fun σ'' H'' ⟨s',G'',h⟩=>⟨vs.length - (i+1),by omega,rfl,hlt,s',G'',h⟩,fun x H3 y=>?_⟩
  obtain ⟨t,v,rfl,ht,rfl,hv⟩:=y
  obtain ⟨a,hai,ra⟩:=Paired.getR pr (hv vs hlH)
  have hge:(BM 0 as)[i]? = some ((i:Int),a):=by rw [DZ,hai];simp
  have hd:(BM 0 as).drop i=((i:Int),a)::(BM 0 as).drop (i+1):=by
   obtain ⟨h1,h2⟩:=qvA.mp hge
   rw [List.drop_eq_getElem_cons h1,h2]
  rw [hd] at hfo
  obtain ⟨fl,hfl,hfo⟩:=qaA.mp hfo
  refine L.step v t ((i:Int),a) s σ' G' H' fl rs ht (Rp.mono k1 ra) hfl _ ?_ ?_ ?_ ?_
  ·intro s' σ'' G'' H'' e r
   subst e
   exact ⟨s',G'',r,hfo⟩
  ·intro s' σ'' G'' H'' e r
   subst e
   exact ⟨s',G'',r,hfo⟩
  ·intro s' σ'' G'' H'' e r
   subst e
   exact L.nxt s' σ'' G'' H'' (qpB hfo).symm r
  ·intro r v G'' H'' e rl
   subst e
   exact L.rtn r v G'' H'' (qpB hfo).symm rl
 ·have e:i=vs.length:=by omega
  subst e
  have hd:(BM 0 as).drop vs.length=[]:=List.drop_eq_nil_of_le (by omega)
  rw [hd] at hfo
  exact .inl ⟨⟨vs,hlH,qkB _⟩,L.nxt s σ' G' H' (qpB hfo).symm rs⟩
theorem sv_turnE {a:Int × α}{x:V}{t:Addr}{tb:TS}(k:tb D ((σ.set i (some (.int a.1))).set j (some x)) (upd H t (.tup [.int a.1,x]))) :
  gTup K 2 (GX (Bh i) (GX (Bh j) gNil)) (.ref t) σ (upd H t (.tup [.int a.1,x])) fun σ2 H2=>tb D σ2 H2 :=
 ⟨t,_,rfl,SqT.of AJ,rfl,_,_,rfl,_,_,rfl,rfl,k⟩
end
def isTps (K:FZ9){α:Type}(R:Hp->V->α->Prop):Hp->V->Tp α->Prop:=fun H x a=>∃ t xs,x = .ref t/\SqT K H t xs/\Paired (R H) xs a.l
theorem tp_dec {α:Type}[DecidableEq α]{as bs:Tp α}{n m:Nat}(hn:n=as.l.length)(hm:m=bs.l.length):((List.range (min n m)).all (fun j=>decide (as.l[j]? = bs.l[j]?)) && n == m)=decide (as=bs):=by
 obtain ⟨as⟩:=as
 obtain ⟨bs⟩:=bs
 subst hn
 subst hm
 by_cases hl:as.length=bs.length
 ·show ((List.range (min as.length bs.length)).all (fun j=>decide (as[j]? = bs[j]?)) && as.length == bs.length)=_
  rw [<- hl,Nat.min_self,beq_self_eq_true,Bool.and_true,all_dec as bs hl]
  exact decide_eq_decide.mpr ⟨fun e=>by rw [e],fun e=>by cases e;rfl⟩
 ·have h:(as.length == bs.length)=false:=by simpa using hl
  have ne:Tp.mk as≠Tp.mk bs:=fun e=>by
   cases e
   exact hl rfl
  show (_ && as.length == bs.length)=_
  rw [h,Bool.and_false,decide_eq_false ne]
theorem eqTp {K:FZ9}{k:Nat}{α:Type}[DecidableEq α]{R:Hp->V->α->Prop}(E:EqTy K k R):EqTy K (k+1) (isTps K R):=by
 have fn:∀ {X:Cx}{pins:List (Addr × Obj)}{σ:St}{H:Hp}{s:Shared}{x:V}{a b:Tp α},X.K=K->Inv X pins σ H s->isTps K R H x a->isTps K R H x b->a=b:=by
  intro X pins σ H s x a b hK I ha hb
  obtain ⟨a⟩:=a
  obtain ⟨b⟩:=b
  obtain ⟨l,xs,rfl,h1,p1⟩:=ha
  obtain ⟨l',ys,e,h2,p2⟩:=hb
  cases e
  subst hK
  have:=I.tuple_inj h1 h2
  subst this
  exact congrArg Tp.mk (paired_fn (F:=R H) (fun _ _ _ p q=>E.fn rfl I p q) p1 p2)
 have rc:∀ {X:Cx}{pins:List (Addr × Obj)}{σ:St}{H:Hp}{s:Shared}{x y:V}{u v:Value}{a b:Tp α}(A:Around),X.K=K->Inv X pins σ H s->A.units+(k+1)<cLine->RelV x u->RelV y v->isTps K R H x a->isTps K R H y b ->
   SeqAt.RcAt A s u v (decide (a=b))/\SeqAt.RcNeAt A s u v (!decide (a=b)):=by
  intro X pins σ H s x y u v a b A hK I hu r1 r2 ha hb
  obtain ⟨l,xs,rfl,h1,p1⟩:=ha
  obtain ⟨l',ys,rfl,h2,p2⟩:=hb
  cases r1;cases r2
  subst hK
  obtain ⟨us,rx,plx,_⟩:=I.tuple h1
  obtain ⟨vs,ry,ply,_⟩:=I.tuple h2
  have lx:=rx.length
  have ly:=ry.length
  have lpx:=Paired.length p1
  have lpy:=Paired.length p2
  have it:=items_eqAt E rfl I hu rx ry p1 p2
  rw [<- tp_dec (as:=a) (bs:=b) (n:=us.toArray.size) (m:=vs.toArray.size) (by simp;omega) (by simp;omega)]
  exact ⟨SeqAt.RcAt.tuples plx ply (by omega) it,SeqAt.RcNeAt.tuples plx ply (by omega) it⟩
 refine ⟨fn,?_,rc⟩
 intro X pins σ H s x y u v a b A hK I hu r1 r2 ha hb
 have h:=(rc A hK I hu r1 r2 ha hb).1
 obtain ⟨l,xs,rfl,h1,p1⟩:=id ha
 obtain ⟨l',ys,rfl,h2,p2⟩:=id hb
 cases r1;cases r2
 by_cases e:l=l'
 ·subst e
  have:a=b:=fn hK I ha hb
  rw [decide_eq_true this]
  exact SeqAt.EqAt.same _
 ·exact SeqAt.EqAt.of_refs e h
theorem vals3' {x y z:V}{us:List Value}(h:Vals [x,y,z] us):∃ a b c,us=[a,b,c]/\RelV x a/\RelV y b/\RelV z c:=by
 cases h with
 | cons r t=>cases t with
  | cons r' t'=>cases t' with
   | cons r'' t''=>cases t'';exact ⟨_,_,_,rfl,r,r',r''⟩
class NoN (α:Type) [Rp α]:Prop where
 no_non:∀ {K:FZ9}{H:Hp}{x:V}{a:α},Rp.rel K H x a->x ≠ .non
 ne:∀ {K:FZ9}{X:Cx}{pins:List (Addr × Obj)}{σ:St}{H:Hp}{s:Shared}{x:V}{u:Value}{a:α}(A:Around),X.K=K->Inv X pins σ H s->A.units<cLine->RelV x u->Rp.rel K H x a ->
  (SeqAt.EqAt A s .none u false/\SeqAt.RcAt A s .none u false/\SeqAt.RcNeAt A s .none u true)/\SeqAt.EqAt A s u .none false/\SeqAt.RcAt A s u .none false/\SeqAt.RcNeAt A s u .none true
instance reTp {α:Type}[Rp α][DecidableEq α][RpE α]:RpE (Tp α):=⟨RpE.k α+1,fun K=>(eqTp (RpE.ty K)).imp fun _ _ _ ⟨l,xs,e,h,_,p⟩=>⟨l,xs,e,h,p⟩⟩
class Fix (α:Type) [Rp α]:Prop where
 fx:∀ {K:FZ9}{G G':Hp}{v:V}{a:α},Rp.rel K G v a->Rp.rel K G' v a
end L2
namespace L3
open PySem
end L3
namespace L2
open PySem PySem.Spec PyProof.Rows
def inner2 (cap:List Nat)(σ:St):St:=none::none::cap.map fun i=>(σ[i]?).join
abbrev gTwo (K:FZ9):TG:=gTup K 2 (GX (Bh 0) (GX (Bh 1) gNil))
def tComp2 (K:FZ9)(cap:List Nat)(wi:TI)(tc:TT)(te:TE):TE:=fun σ H Q=>wi σ H fun J H1=>∀ p,H1 p=none ->
 ∃ W:Nat->Nat->List V->Hp->Prop,(∃ m,W 0 m [] (upd H1 p (.lst [])))/\∀ i m xs H2,W i m xs H2 ->
  (J.stop i H2/\Q (.ref p) H2)\/(J.go i H2/\∃ N:List V->Hp->Prop,(∀ xs' H',N xs' H'->∃ m',m'<m/\W (i+1) m' xs' H') /\
   ∀ x H3,J.yld i H2 x H3->gTwo K x (inner2 cap σ) H3 fun σ2 H4=>tc σ2 H4 fun b H5=>if b=true then te σ2 H5 fun v H6=>H6 p=some (.lst xs)/\xs.length<sizeLine/\N (xs++[v]) (upd H6 p (.lst (xs++[v]))) else N xs H5)
section
variable {X:Cx}{pins:List (Addr × Obj)}{σ:St}
theorem gat2' {K:FZ9}:GAt 2 (gTwo K):=by
 intro v σ H Q h
 obtain ⟨a,xs,e,hs,hl,v0,r,e1,v1,r',e2,e4,q⟩:=h
 refine ⟨a,xs,e,hs,hl,v0,r,e1,v1,r',e2,e4,⟨by simp,fun j hj=>?_⟩,q⟩
 rw [List.getElem?_set,if_neg (by omega),List.getElem?_set,if_neg (by omega)]
theorem pg2' {X:Cx}{scope:Scope}{x y:Str}{px py pt:Pos}{k0:Nat}{cn:List Str}{C:Addr}{s:Shared}{H:Hp}{fp:List Addr}(hx:scope.names.lookup x=some .local)(hy:scope.names.lookup y=some .local)(hnd:(x::y::cn).Nodup) :
  PG (Bd X (x::y::cn) scope C s H fp) (.Tuple [.Name x px,.Name y py] k0 pt) (gTwo X.K):=by
 have hlx:(relabel scope X.env).names.lookup x=some .local := lookup_relabel_local hx
 have hly:(relabel scope X.env).names.lookup y=some .local := lookup_relabel_local hy
 exact pg_tup rfl (Dp (BD (i:=0) hnd rfl (.inl hlx) (.inr hlx)) (Dp (BD (i:=1) hnd rfl (.inl hly) (.inr hly)) pgs_nil))
theorem pe_comp2 {scope:Scope}{x x':Str}{px px' pt pos:Pos}{k0:Nat}{elt iter:Expr}{ifs:List Expr}{cn:List Str}{cap:List Nat}{wi:TI}{tc:TT}{te:TE}
  (hc:X.calm=true) (S:CompScope X scope) (hx:scope.names.lookup x=some .local) (hx':scope.names.lookup x'=some .local) (hnd:(x::x'::cn).Nodup) (hcap:Caps X scope cn cap) (hi:PI X (.Tuple [.Name x px,.Name x' px'] k0 pt) iter wi)
  (body:∀ (C:Addr) (s:Shared) (H:Hp) (fp:List Addr),PTs (Bd X (x::x'::cn) scope C s H fp) ifs tc/\PE (Bd X (x::x'::cn) scope C s H fp) elt te)
  (hs:∀ x,foldedSetIterable iter X.env x=pure x:=by intro _;rfl):PE X (.ListComp elt [⟨.Tuple [.Name x px,.Name x' px'] k0 pt,iter,ifs,0⟩] scope pos) (tComp2 X.K cap wi tc te):=by
 have h:=pe_compN (xn:=[x,x']) (tg:=.Tuple [.Name x px,.Name x' px'] k0 pt) (g:=gTwo X.K) (pos:=pos) (elt:=elt) hc S gat2' (fun C s H fp=>pg2' hx hx' hnd) hnd hcap hi body hs
 exact h
end
structure YieldsE (J:It)(H:Hp)(xs:List V):Prop where
 go:∀ i H',Same H H'->i<xs.length->J.go i H'
 stop:∀ H',Same H H'->J.stop xs.length H'
 yld:∀ (i:Nat) (H':Hp) (x:V) (H'':Hp),Same H H'->i<xs.length->J.yld i H' x H''->∃ t v,x = .ref t/\H' t=none/\H''=upd H' t (.tup [.int i,v])/\xs[i]? = some v
section
variable {K:FZ9}{σ:St}{G:Hp}{α β:Type}[Rp α][Rp β]{ta:TE}
def IF (K:FZ9){α:Type}[Rp α](wi:TI)(σ:St)(G:Hp)(m:Option (List α)):Prop :=
 ∀ G1,Same G G1->∀ a,m=some a->∀ H,Same G1 H->∀ R:It->Hp->Prop,(∀ J vs G2 H2,Ext G1 H G2 H2->YieldsE J G2 vs->vs.length<=sizeLine->Paired (Rp.rel K G2) vs a->R J H2)->wi σ H R
theorem if_list {la:Option (List α)}(ea:EV K ta σ G la):IF K (iEnum K (AQ ta BL)) σ G la:=by
 intro G1 s1 a ha H sH R k
 refine ea G1 s1 a ha H sH _ fun v G2 H2 x2 r2=>?_
 obtain ⟨l,xs,rfl,h,z,p⟩:=r2
 refine ⟨l,rfl,⟨xs,.inl (x2.gh.rd h)⟩,k _ xs G2 H2 x2 ⟨fun i H' s hi=>⟨xs,xs[i],.inl (s.rd h),by simp [hi]⟩,fun H' s=>⟨xs,.inl (s.rd h),qkB _⟩,fun i H' y H'' s hi hy=>?_⟩ z p⟩
 obtain ⟨t,v,e1,e2,e3,e4⟩:=hy
 exact ⟨t,v,e1,e2,e3,e4 xs (.inl (s.rd h))⟩
theorem rel_i (G:Hp)(i:Int):Rp.rel K G (V.int i) i:=rfl
theorem fv_comp2 {cap:List Nat}{wi:TI}{tt:TT}{te:TE}{mi:Option (List α)}{fc:Int × α->Option Bool}{fe:Int × α->Option β}(ei:IF K wi σ G mi)
  (hb:∀ (x:V) (a:Int × α) (G1:Hp),Same G G1->Rp.rel K G1 x a.2->TV tt (((inner2 cap σ).set 0 (some (.int a.1))).set 1 (some x)) G1 (fc a)/\EV K te (((inner2 cap σ).set 0 (some (.int a.1))).set 1 (some x)) G1 (fe a)) :
  FV K (tComp2 K cap wi tt te) σ G (mi.bind fun as=>Cr fc fe (BM 0 as)):=by
 intro G1 s1 c hc H sH Q k
 obtain ⟨as,has,hc⟩:=qaA.mp hc
 refine ei G1 s1 as has H sH _ fun J vs Ga Ha xa Y hz pr p hp=>?_
 have hla:=Paired.length pr
 have hle:=Do as 0
 refine ⟨fun i m ys H2=>m=vs.length - i/\i<=vs.length/\∃ G2 bs cs,Ext Ga Ha G2 H2/\G2 p=none/\H2 p=some (.lst ys)/\ys.length<=i/\Paired (Rp.rel K G2) ys bs/\Cr fc fe ((BM 0 as).drop i)=some cs/\c=bs++cs,
  ⟨vs.length,by simp,qrC _,Ga,[],c,.own xa.gh hp,xa.gh.free hp,AJ,qkB _,.nil,hc,rfl⟩,?_⟩
 rintro i m ys H2 ⟨rfl,hi,G2,bs,cs,x2,hg,hh,hy,hpr,hcs,rfl⟩
 by_cases hlt:i<vs.length
 ·refine .inr ⟨Y.go i _ (x2.gg.trans x2.gh) hlt,fun ys' H'=>∃ G2 bs' cs',Ext Ga Ha G2 H'/\G2 p=none/\H' p=some (.lst ys')/\ys'.length<=i+1/\Paired (Rp.rel K G2) ys' bs'/\Cr fc fe ((BM 0 as).drop (i+1))=some cs'/\bs++cs=bs'++cs',
   fun ys' H' ⟨G3,bs',cs',h⟩=>⟨vs.length - (i+1),by omega,rfl,hlt,G3,bs',cs',h⟩,fun x H3 y=>?_⟩
  obtain ⟨t,v,rfl,ht,rfl,hv⟩:=Y.yld i _ x H3 (x2.gg.trans x2.gh) hlt y
  obtain ⟨a,hai,ra⟩:=Paired.getR pr hv
  have hge:(BM 0 as)[i]? = some ((i:Int),a):=by rw [DZ,hai];simp
  have hd:(BM 0 as).drop i=((i:Int),a)::(BM 0 as).drop (i+1):=by
   obtain ⟨h1,h2⟩:=qvA.mp hge
   rw [List.drop_eq_getElem_cons h1,h2]
  rw [hd] at hcs
  obtain ⟨b,hbb,hcs⟩:=qaA.mp hcs
  have xn:=Ext.new (o:=.tup [.int i,v]) x2.gh ht
  have x2:=x2.trans xn
  have ne:p≠t:=fun e=>by rw [e,ht] at hh;cases hh
  have hh:(upd H2 t (.tup [.int i,v])) p=some (.lst ys):=by rw [Aq ne];exact hh
  have hg:(upd G2 t (.tup [.int i,v])) p=none:=by rw [Aq ne];exact hg
  have hpr:=Paired.imp' (fun _ _ r=>Rp.mono xn.gg r) hpr
  have B:=hb v ((i:Int),a) _ (s1.trans (xa.gg.trans x2.gg)) (Rp.mono x2.gg ra)
  refine ⟨t,_,rfl,SqT.of AJ,rfl,_,_,rfl,_,_,rfl,rfl,?_⟩
  refine B.1 _ (.refl _) b hbb _ x2.gh _ fun G5 H5 x5=>?_
  have hp5:H5 p=some (.lst ys):=x5.hh _ _ hh
  have hg5:G5 p=none:=x5.no p hg (by rw [hh];exact fun z=>nomatch z)
  cases b with
  | false =>
   rw [if_neg qzB]
   exact ⟨G5,bs,cs,x2.trans x5,hg5,hp5,by omega,Paired.imp' (fun _ _ r=>Rp.mono x5.gg r) hpr,hcs,rfl⟩
  | true =>
   rw [if_pos rfl]
   obtain ⟨z,hze,hcs⟩:=qaA.mp hcs
   obtain ⟨cs',hcs',hcs⟩:=qaA.mp hcs
   cases hcs
   refine B.2 G5 x5.gg z hze H5 x5.gh _ fun v G6 H6 x6 r6=>?_
   have hp6:H6 p=some (.lst ys):=x6.hh _ _ hp5
   have hg6:G6 p=none:=x6.no p hg5 (by rw [hp5];exact fun z=>nomatch z)
   refine ⟨hp6,by omega,G6,bs++[z],cs',((x2.trans x5).trans x6).put hp hg6,hg6,AJ,?_,Paired.app (Paired.imp' (fun _ _ r=>Rp.mono (x5.trans x6).gg r) hpr) (.cons r6 .nil),hcs',by simp⟩
   rw [qgA,qiA]
   omega
 ·have e:i=vs.length:=by omega
  subst e
  have hd:(BM 0 as).drop vs.length=[]:=List.drop_eq_nil_of_le (by omega)
  rw [hd] at hcs
  cases hcs
  refine .inl ⟨Y.stop _ (x2.gg.trans x2.gh),?_⟩
  rw [qfB] at k
  exact k p ys G2 H2 (xa.trans x2) (xa.hh.free hp) hg hh (by omega) hpr
theorem fv_map2 {cap:List Nat}{wi:TI}{te:TE}{mi:Option (List α)}{fe:Int × α->Option β}(ei:IF K wi σ G mi)
  (hb:∀ (x:V) (a:Int × α) (G1:Hp),Same G G1->Rp.rel K G1 x a.2->EV K te (((inner2 cap σ).set 0 (some (.int a.1))).set 1 (some x)) G1 (fe a)) :
  FV K (tComp2 K cap wi Hm te) σ G (mi.bind fun as=>Dr fe (BM 0 as)):=by
 have h:=fv_comp2 (tt:=Hm) (fc:=fun _=>some true) ei fun x a G1 s r=>⟨tv_yes,hb x a G1 s r⟩
 have e:(fun as:List α=>Cr (fun _=>some true) fe (BM 0 as))=fun as=>Dr fe (BM 0 as):=funext fun as=>compO_true fe (BM 0 as)
 rw [e] at h
 exact h
end
inductive SI where
 | s (x:Str)
 | i (n:Int)
 deriving DecidableEq
def RelSI (v:V):SI->Prop
 | .s x=>v = .str x/\x.length<=sizeLine
 | .i n=>v = .int n
instance rpSI:Rp SI:=⟨fun _ _ v a=>RelSI v a,fun _ h=>h⟩
theorem Es {j:Nat}{A:Around}(hr:Room j A):A.units+1<cLine:=by
 have:=hr.un
 omega
def asS:SI->Option Str
 | .s x=>some x
 | .i _=>none
def asI:SI->Option Int
 | .s _=>none
 | .i n=>some n
section
variable {K:FZ9}{σ:St}{G H:Hp}{ta tb te td ti:TE}{α:Type}[Rp α]{md:Option SI}{rest:TS}{D:Ends}{i:Nat}
theorem ev_toS {m:Option Str}(e:EV K te σ G m):EV K te σ G (m.bind fun x=>some (SI.s x)):=by
 intro G1 s1 c hc H sH Q k
 obtain ⟨x,hx,hc⟩:=qaA.mp hc
 cases hc
 exact e G1 s1 x hx H sH Q fun v G2 H2 x2 r=>k v G2 H2 x2 r
theorem ev_toI {m:Option Int}(e:EV K te σ G m):EV K te σ G (m.bind fun x=>some (SI.i x)):=by
 intro G1 s1 c hc H sH Q k
 obtain ⟨x,hx,hc⟩:=qaA.mp hc
 cases hc
 exact e G1 s1 x hx H sH Q fun v G2 H2 x2 r=>k v G2 H2 x2 r
theorem FL (e:EV K te σ G md):EV K te σ G (md.bind fun d=>asS d):=by
 intro G1 s1 c hc H sH Q k
 obtain ⟨d,hd,hc⟩:=qaA.mp hc
 refine e G1 s1 d hd H sH Q fun v G2 H2 x r=>?_
 cases d with
 | s y=>cases hc;exact k _ _ _ x r
 | i n=>cases hc
theorem GF (e:EV K te σ G md):EV K te σ G (md.bind fun d=>asI d):=by
 intro G1 s1 c hc H sH Q k
 obtain ⟨d,hd,hc⟩:=qaA.mp hc
 refine e G1 s1 d hd H sH Q fun v G2 H2 x r=>?_
 cases d with
 | s y=>cases hc
 | i n=>cases hc;exact k _ _ _ x r
end
theorem bt_sum:bootBuiltins "sum" = some (.builtin "sum"):=by decide +kernel
theorem ints_atF {ns:List Int}{its:List Value}(r:Vals (ns.map V.int) its){i:Nat}{v:Value}(h:its.toArray[i]? = some v):∃ t,v = .int (ns.getD i 0) t:=by
 have h:its[i]? = some v:=by simpa using h
 have hl:=r.length
 rw [qfA] at hl
 obtain ⟨hi,_⟩:=qvA.mp h
 have e:(ns.map V.int)[i]? = some (V.int (ns.getD i 0)):=by
  have:i<ns.length:=by omega
  simp [this]
 obtain ⟨u,hu,ru⟩:=r.get e
 rw [h] at hu
 cases hu
 exact ru
theorem preSum_take (ns:List Int):∀ j,j<=ns.length->preSum (fun i=>ns.getD i 0) j=(ns.take j).sum
 | 0,_=>by simp [preSum]
 | j+1,h=>by
  have hj:j<ns.length:=by omega
  show preSum (fun i=>ns.getD i 0) j+ns.getD j 0=_
  rw [preSum_take ns j (by omega),List.take_succ,List.sum_append]
  simp [hj]
theorem Db {K:FZ9}{H:Hp}:∀ {xs:List V}{ns:List Int},Paired (Rp.rel K H) xs ns->xs=ns.map V.int
 | _,_,.nil=>rfl
 | _,_,.cons h t=>by
  cases h
  rw [qcB,Db t]
structure Mp (α:Type) where
 l:List (Int × α)
def Hl {α:Type}:List (Int × α)->Int->Option α
 | [],_=>none
 | (j,a)::r,k=>if j=k then some a else Hl r k
def putM {α:Type}(l:List (Int × α))(k:Int)(a:α):List (Int × α):=if (l.any fun q=>decide (q.1=k))=true then l.map (fun q=>if q.1=k then (q.1,a) else q) else l++[(k,a)]
def RelE (K:FZ9){α:Type}[Rp α](H:Hp)(kv:Key × V)(q:Int × α):Prop:=kv.1 = .inl q.1/\Rp.rel K H kv.2 q.2
instance rpMp {α:Type}[Rp α]:Rp (Mp α):=⟨fun K H v a=>∃ p kvs,v = .ref p/\H p=some (.dK kvs)/\Paired (RelE K H) kvs a.l,
 fun s ⟨p,kvs,e,h,pr⟩=>⟨p,kvs,e,s _ _ h,Paired.imp' (fun _ _ r=>⟨r.1,Rp.mono s r.2⟩) pr⟩⟩
section
variable {K:FZ9}{σ:St}{G H G1 H1 G0 H0:Hp}{α β:Type}[Rp α][Rp β]{td te ti:TE}{rest:TS}{D:Ends}{i:Nat}{a:Mp α}{v:V}{p q:Addr}{kvs:List (Key × V)}
theorem paired_getM {G:Hp}:∀ {kvs:List (Key × V)}{l:List (Int × α)}{k:Int}{b:α},Paired (RelE K G) kvs l->Hl l k=some b->∃ w,D7 kvs (.inl k)=some w/\Rp.rel K G w b
 | _,_,k,b,.nil,e=>by cases e
 | kv::kvs,(j,c)::l,k,b,.cons h t,e=>by
  obtain ⟨h1,h2⟩:=h
  unfold Hl at e
  by_cases hj:j=k
  ·rw [if_pos hj] at e
   cases e
   exact ⟨kv.2,C5 (by rw [h1,hj]),h2⟩
  ·rw [if_neg hj] at e
   obtain ⟨w,e1,e2⟩:=paired_getM t e
   refine ⟨w,?_,e2⟩
   rw [Bx (fun z=>hj (by rw [h1] at z;exact Sum.inl.inj z))]
   exact e1
theorem paired_any {G:Hp}{k:Int}:∀ {kvs:List (Key × V)}{l:List (Int × α)},Paired (RelE K G) kvs l->(kvs.any fun kv=>decide (kv.1 = .inl k))=l.any fun q=>decide (q.1=k)
 | _,_,.nil=>rfl
 | kv::kvs,q::l,.cons h t=>by
  rw [List.any_cons,List.any_cons,paired_any t,h.1]
  congr 1
  exact decide_eq_decide.mpr ⟨fun e=>Sum.inl.inj e,fun e=>by rw [e]⟩
theorem paired_repl {G:Hp}{k:Int}{w:V}{b:α}(r:Rp.rel K G w b):∀ {kvs:List (Key × V)}{l:List (Int × α)},Paired (RelE K G) kvs l->Paired (RelE K G) (kvs.map fun kv=>if kv.1 = .inl k then (kv.1,w) else kv) (l.map fun q=>if q.1=k then (q.1,b) else q)
 | _,_,.nil=>.nil
 | kv::kvs,q::l,.cons h t=>by
  rw [qcB,qcB]
  refine .cons ?_ (paired_repl r t)
  by_cases e:q.1=k
  ·rw [if_pos e,if_pos (by rw [h.1,e])]
   exact ⟨h.1,r⟩
  ·rw [if_neg e,if_neg (fun z=>e (by rw [h.1] at z;exact Sum.inl.inj z))]
   exact h
theorem paired_putM {G:Hp}{k:Int}{w:V}{b:α}{l:List (Int × α)}(r:Rp.rel K G w b)(h:Paired (RelE K G) kvs l):Paired (RelE K G) (Ct kvs (.inl k) w) (putM l k b):=by
 unfold Ct putM
 rw [paired_any h]
 by_cases e:(l.any fun q=>decide (q.1=k))=true
 ·rw [if_pos e,if_pos e]
  exact paired_repl r h
 ·rw [if_neg e,if_neg e]
  exact Paired.app h (.cons ⟨rfl,r⟩ .nil)
theorem ev_getM {md:Option (Mp α)}{mi:Option Int}(ed:EV K td σ G md)(ei:EV K ti σ G mi):EV K (tDGet td ti) σ G (md.bind fun d=>mi.bind fun k=>Hl d.l k):=by
 intro G1 s1 c hc H sH Q k
 obtain ⟨d,hd,hc⟩:=qaA.mp hc
 obtain ⟨j,hj,hc⟩:=qaA.mp hc
 refine ed G1 s1 d hd H sH _ fun v G2 H2 x2 r2=>?_
 refine ei G2 (s1.trans x2.gg) j hj H2 x2.gh _ fun u G3 H3 x3 r3=>?_
 obtain ⟨p,kvs,rfl,h,pr⟩:=Rp.mono x3.gg r2
 cases r3
 obtain ⟨w,e1,e2⟩:=paired_getM pr hc
 exact ⟨p,w,rfl,.inl ⟨kvs,.inl j,.inl (x3.gh _ _ h),rfl,e1.symm⟩,k _ _ _ (x2.trans x3) e2⟩
end
section
variable {K:FZ9}{σ:St}{G H:Hp}{α:Type}[Rp α]{te:TE}{rest:TS}{D:Ends}{i:Nat}{a:α}{m:Option α}{as:List α}{v:V}{p:Addr}{vs:List V}
theorem sv_appendB [Imm α]{as':List α}(hσ:σ[i]? = some (some v))(o:Own K G H v p vs as)(e:EV K te σ (upd G p (.lst vs)) m)(hm:m=some a)(hp:Gq as a=some as')(s:Same G H)
  (k:∀ G2 H2 w,Ext G H G2 H2->Own K G2 (upd H2 p (.lst (vs++[w]))) v p (vs++[w]) as'->rest D σ (upd H2 p (.lst (vs++[w])))):CA (HW (tBM K "list" Gr (Bc i) (AQ te BL))) rest D σ H:=by
 obtain ⟨hl,rfl⟩:=Ay hp
 have hlen:=Paired.length o.p
 have ov:=o.v
 subst ov
 refine ⟨_,hσ,.inl ⟨rfl,_,SqL.of o.h⟩,?_⟩
 refine EV.runB o e hm s fun w G2 H2 x r=>?_
 have o2:=o.ext x
 refine ⟨p,vs,w,rfl,rfl,o2.h,by omega,?_⟩
 refine k G2 H2 w x ⟨rfl,o2.g,AJ,?_,Paired.app o2.p (.cons r .nil)⟩
 rw [qgA,qiA]
 omega
end
section
variable {K:FZ9}{σ:St}{G H:Hp}{ta tb te:TE}{rest:TS}{D:Ends}{i:Nat}{v:V}{p:Addr}{vs:List V}
theorem Fp {G:Hp}:∀ {xs:List V}{ys:List Str},Paired (Rp.rel K G) xs ys->xs=ys.map V.str
 | _,_,.nil=>rfl
 | _,_,.cons h t=>by
  obtain ⟨rfl,_⟩:=h
  rw [qcB,Fp t]
end
def leS (a b:Str):Bool:=!decide (b.cps.toList<a.cps.toList)
theorem leS_iff {a b:Str}:leS a b=true ↔ a.cps.toList<=b.cps.toList:=by
 unfold leS
 rw [Bool.not_eq_true',decide_eq_false_iff_not]
 exact List.not_lt
theorem leS_trans (a b c:Str)(h1:leS a b=true)(h2:leS b c=true):leS a c=true:=leS_iff.mpr (List.le_trans (leS_iff.mp h1) (leS_iff.mp h2))
theorem leS_total (a b:Str):(leS a b || leS b a)=true:=by
 rw [Bool.or_eq_true,leS_iff,leS_iff]
 exact List.le_total _ _
theorem leS_anti {a b:Str}(h1:leS a b=true)(h2:leS b a=true):a=b:=by
 have:=List.le_antisymm (leS_iff.mp h1) (leS_iff.mp h2)
 cases a
 cases b
 congr 1
 exact Array.toList_inj.mp this
def GA (ys:List Str):List Str:=ys.mergeSort leS
theorem BQ (ys:List Str):(GA ys).Perm ys:=List.mergeSort_perm ys leS
theorem rising_pw:∀ (p:Str) (l:List Str),risingS p l=true->(p::l).Pairwise fun a b=>leS a b=true
 | p,[],_=>by simp
 | p,x::r,h=>by
  have h:(!ltCps x.cps.toList p.cps.toList && risingS x r)=true:=h
  rw [qtC,ltCps_eq] at h
  have h1:leS p x=true:=h.1
  have ih:=rising_pw x r h.2
  refine List.pairwise_cons.mpr ⟨fun y hy=>?_,ih⟩
  rcases qnA.mp hy with rfl|hy
  ·exact h1
  ·exact leS_trans _ _ _ h1 (List.rel_of_pairwise_cons ih hy)
theorem sortS_of {ss ss':List Str}(hp:ss'.Perm ss)(hs:sortedS ss'=true):ss'=GA ss:=by
 have pw:ss'.Pairwise fun a b=>leS a b=true:=by
  cases ss' with
  | nil=>exact .nil
  | cons x r=>exact rising_pw x r hs
 exact List.Perm.eq_of_pairwise (fun a b _ _ h1 h2=>leS_anti h1 h2) pw (List.pairwise_mergeSort leS_trans leS_total ss) (hp.trans (BQ ss).symm)
def sortO (ys:List Str):Option (List Str):=if ys.length<64 then some (GA ys) else none
theorem vals_strs:∀ {vs:List Value}{ss:List Str},StrsAre vs ss->Vals (ss.map V.str) vs
 | _,_,.nil=>.nil
 | _,_,.cons x t r=>.cons ⟨t,rfl⟩ (vals_strs r)
def rSortS (K:FZ9):List V->Hp->VK->Prop:=fun vs H Q=>∃ (l:Addr) (ys:List Str),vs=[.ref l]/\SqL K H l (ys.map V.str)/\ys.length<64/\∀ p,H p=none->Q (.ref p) (upd H p (.lst ((GA ys).map V.str)))
theorem call_sortedS {X:Cx}{K:FZ9}(h:X.K=K):EM X (.builtin "sorted") (rSortS K):=by
 subst h
 intro pins s σ H vs us Q I r h
 obtain ⟨l,ys,rfl,hl,h64,q⟩:=h
 obtain ⟨u,rfl,ru⟩:=Fz r
 cases ru
 obtain ⟨its,rv,pl,_⟩:=I.list hl
 have hlen:=rv.length
 rw [qfA] at hlen
 refine sorted_strs pl.isList (strsAre_of rv) (by omega) fun out ss' a1 a2 a3=>?_
 have e:=sortS_of a2 a3
 subst e
 obtain ⟨n,he⟩:=sortedAll_at s.heap its out
 refine ⟨.ref (s.heap.objs.size+1),_,I.laid (a:=s.heap.objs.size+1) (t':=s.toks) (o:=.lst ((GA ys).map V.str)) (fun b ob q=>sortedAll_old q) (Nat.le_succ _) ?_,rfl,q _ (I.hok.fresh (Nat.le_succ _))⟩
 refine ⟨?_,out.toList,n,vals_strs a1,he⟩
 rw [qfA,(BQ ys).length_eq,qtB]
 omega
theorem paired_len {K:FZ9}{G:Hp}:∀ {xs:List V}{ys:List Str},Paired (Rp.rel K G) xs ys->∀ y∈ys,y.length<=sizeLine
 | _,_,.nil=>fun y hy=>by cases hy
 | _,_,.cons h t=>fun y hy=>by
  rcases qnA.mp hy with rfl|hy
  ·exact h.2
  ·exact paired_len t y hy
section
variable {K:FZ9}{σ:St}{G:Hp}{ta:TE}
theorem fv_sortS {la:Option (List Str)}(ea:EV K ta σ G la):FV K (tCB (rSortS K) (AQ ta BL)) σ G (la.bind fun ys=>sortO ys):=by
 intro G1 s1 c hc H sH Q k
 obtain ⟨a,ha,hc⟩:=qaA.mp hc
 obtain ⟨h64,rfl⟩:=Ay hc
 refine ea G1 s1 a ha H sH _ fun v G2 H2 x2 r2=>?_
 obtain ⟨l,xs,rfl,h,z,p⟩:=r2
 have e:=Fp p
 subst e
 refine ⟨l,a,rfl,.inl (x2.gh.rd h),h64,?_⟩
 refine fv_of x2.gh ?_ ?_ (FV.mono x2 k)
 ·rw [qfA,(BQ a).length_eq,qtB]
  omega
 ·have hl:∀ y∈a,y.length<=sizeLine:=fun y hy=>by
   have:=paired_len p y hy
   exact this
  have:∀ zs:List Str,(∀ y∈zs,y.length<=sizeLine)->Paired (Rp.rel K G2) (zs.map V.str) zs:=fun zs=>by
   induction zs with
   | nil=>intro _;exact .nil
   | cons y zs ih=>intro h;exact .cons ⟨rfl,h y qrA⟩ (ih fun w hw=>h w (qsA _ hw))
  exact this _ fun y hy=>hl y ((BQ a).mem_iff.mp hy)
end
def rCatTp (K:FZ9):R2:=fun x y H Q=>∃ a b xs ys,x = .ref a/\y = .ref b/\SqT K H a xs/\SqT K H b ys/\xs.length+ys.length<=sizeLine/\(xs=[]->Q (.ref b) H)/\(ys=[]->Q (.ref a) H)/\∀ p,H p=none->Q (.ref p) (upd H p (.tup (xs++ys)))
theorem op_catTp {X:Cx}{K:FZ9}(h:X.K=K):OpR X (binaryOp .Add) (rCatTp K):=by
 subst h
 intro pins s σ H x y v u Q I rx ry h
 obtain ⟨t,b,xs,ys,rfl,rfl,h1,h2,hz,q0,q1,q2⟩:=h
 cases rx
 cases ry
 obtain ⟨vs,rv,ht,_⟩:=I.tuple h1
 obtain ⟨ws,rw',hb,_⟩:=I.tuple h2
 have l1:=rv.length
 have l2:=rw'.length
 obtain ⟨⟨cls,dd,data,sl⟩,ho,hc,n,hd⟩:=id ht
 obtain ⟨⟨cls2,dd2,data2,sl2⟩,ho2,hc2,n2,hd2⟩:=id hb
 simp only at hc hd hc2 hd2
 subst hc hd hc2 hd2
 have e:vs.toArray++ws.toArray=(vs++ws).toArray:=by simp
 by_cases hv:vs=[]
 ·have hx:xs=[]:=List.length_eq_zero_iff.mp (by rw [l1,hv];rfl)
  exact concat_meets ⟨_,ho,rfl⟩ ⟨_,ho2,rfl⟩ noFill_tuple_add seq_tuple_add PySem.F.slot_tuple_add PySem.F.entry_tuple_add (PySem.F.args_tuple_add_2 _ _)
   (tuple_addW0 t b vs.toArray ws.toArray n n2 dd dd2 sl sl2 (by simp [hv])) ⟨ho,ho2,⟨.ref b,H,I.tok _,rfl,q0 hx⟩⟩
 ·by_cases hw:ws=[]
  ·have hy:ys=[]:=List.length_eq_zero_iff.mp (by rw [l2,hw];rfl)
   exact concat_meets ⟨_,ho,rfl⟩ ⟨_,ho2,rfl⟩ noFill_tuple_add seq_tuple_add PySem.F.slot_tuple_add PySem.F.entry_tuple_add (PySem.F.args_tuple_add_2 _ _)
    (tuple_addW1 t b vs.toArray ws.toArray n n2 dd dd2 sl sl2 (by simpa using hv) (by simp [hw])) ⟨ho,ho2,⟨.ref t,H,I.tok _,rfl,q1 hy⟩⟩
  ·refine concat_meets ⟨_,ho,rfl⟩ ⟨_,ho2,rfl⟩ noFill_tuple_add seq_tuple_add PySem.F.slot_tuple_add PySem.F.entry_tuple_add (PySem.F.args_tuple_add_2 _ _)
    (tuple_addW2 t b vs.toArray ws.toArray n n2 dd dd2 sl sl2 (by simpa using hv) (by simpa using hw) (by rw [qaC,qaC];omega)) ⟨ho,ho2,?_⟩
   rw [e]
   exact ⟨.ref s.heap.objs.size,_,I.laid (t':=s.toks) (o:=.tup (xs++ys)) (fun b ob q=>qrB _ q) (qkB _) ⟨by rw [qgA];exact hz,vs++ws,rv.append rw',IsTup.new _ _⟩,rfl,q2 _ (I.hok.fresh (qkB _))⟩
def catTO {α:Type}(a b:Tp α):Option (Tp α):=if a.l.length+b.l.length<=sizeLine then some ⟨a.l++b.l⟩ else none
section
variable {K:FZ9}{σ:St}{G:Hp}{α:Type}[Rp α]{ta tb:TE}
theorem ev_catTp {m1 m2:Option (Tp α)}(ea:EV K ta σ G m1)(eb:EV K tb σ G m2):EV K (tOp (rCatTp K) ta tb) σ G (m1.bind fun a=>m2.bind fun b=>catTO a b) :=
 C6 (fun {G' H' x y a b c} s ra rb e Q k=>by
  obtain ⟨hz,rfl⟩:=Ay e
  obtain ⟨l,xs,rfl,h,z,p⟩:=ra
  obtain ⟨l',ys,rfl,h',z',p'⟩:=rb
  have e1:=Paired.length p
  have e2:=Paired.length p'
  refine ⟨l,l',xs,ys,rfl,rfl,s.tup h,s.tup h',by omega,fun hx=>?_,fun hy=>?_,fun q hq=>?_⟩
  ·have ea:a.l=[]:=List.length_eq_zero_iff.mp (by rw [<- e1,hx];rfl)
   exact k _ _ _ (.refl s) ⟨l',ys,rfl,h',z',by show Paired _ ys (a.l++b.l);rw [ea];exact p'⟩
  ·have eb:b.l=[]:=List.length_eq_zero_iff.mp (by rw [<- e2,hy];rfl)
   exact k _ _ _ (.refl s) ⟨l,xs,rfl,h,z,by show Paired _ xs (a.l++b.l);rw [eb,qfB];exact p⟩
  ·have sn:=Same.new (o:=.tup (xs++ys)) (s.free hq)
   exact k _ _ _ (.new s hq) ⟨q,xs++ys,rfl,SqT.of AJ,by rw [qgA];omega,Paired.app (Paired.imp' (fun _ _ r=>Rp.mono sn r) p) (Paired.imp' (fun _ _ r=>Rp.mono sn r) p')⟩) ea eb
end
def Ris (xs:Array Nat):Prop:=∀ i j,i<j->(hj:j<xs.size)->xs.getD i 0<xs.getD j 0
theorem below_go (xs:Array Nat)(j:Nat)(hr:Ris xs):∀ fuel lo hi,lo<=hi->hi<=xs.size->hi - lo<=fuel->(∀ i,i<lo->xs.getD i 0<j)->(∀ i,hi<=i->i<xs.size->j<=xs.getD i 0) ->
  (SetTable.below.go xs j fuel lo hi<=xs.size/\(∀ i,i<SetTable.below.go xs j fuel lo hi->xs.getD i 0<j)/\∀ i,SetTable.below.go xs j fuel lo hi<=i->i<xs.size->j<=xs.getD i 0):=by
 intro fuel
 induction fuel with
 | zero =>
  intro lo hi h1 h2 h3 h4 h5
  have e:lo=hi:=by omega
  subst e
  exact ⟨h2,h4,h5⟩
 | succ fuel ih =>
  intro lo hi h1 h2 h3 h4 h5
  unfold SetTable.below.go
  by_cases hlt:lo<hi
  ·rw [if_pos hlt]
   dsimp only
   have hm1:lo<=(lo+hi) / 2:=by omega
   have hm2:(lo+hi) / 2<hi:=by omega
   generalize (lo+hi) / 2=mid at hm1 hm2 ⊢
   have hms:mid<xs.size:=by omega
   have e1:xs.getD mid j=xs.getD mid 0:=by simp [Array.getD,hms]
   rw [e1]
   have mono:∀ a b,a<=b->b<xs.size->xs.getD a 0<=xs.getD b 0:=fun a b hab hb=>by
    rcases Nat.lt_or_eq_of_le hab with h|h
    ·exact Nat.le_of_lt (hr a b h hb)
    ·rw [h];exact qkB _
   by_cases hc:xs.getD mid 0<j
   ·rw [if_pos hc]
    refine ih (mid+1) hi (by omega) h2 (by omega) (fun i hi'=>?_) h5
    exact Nat.lt_of_le_of_lt (mono i mid (by omega) hms) hc
   ·rw [if_neg hc]
    refine ih lo mid hm1 (by omega) (by omega) h4 fun i hi' hs=>?_
    exact qmB (Nat.le_of_not_lt hc) (mono mid i hi' hs)
  ·rw [if_neg hlt]
   have e:lo=hi:=by omega
   subst e
   exact ⟨h2,h4,h5⟩
theorem below_ok {xs:Array Nat}(hr:Ris xs)(j:Nat):SetTable.below xs j<=xs.size/\(∀ i,i<SetTable.below xs j->xs.getD i 0<j)/\∀ i,SetTable.below xs j<=i->i<xs.size->j<=xs.getD i 0 :=
 below_go xs j hr xs.size 0 xs.size (qrC _) (qkB _) (qkB _) (fun i h=>absurd h (Nat.not_lt_zero _)) fun i h h'=>absurd h' (Nat.not_lt.mpr h)
theorem below_eq {xs:Array Nat}(hr:Ris xs){j p:Nat}(hp:p<=xs.size)(h1:∀ i,i<p->xs.getD i 0<j)(h2:∀ i,p<=i->i<xs.size->j<=xs.getD i 0):SetTable.below xs j=p:=by
 obtain ⟨a,b,c⟩:=below_ok hr j
 rcases Nat.lt_trichotomy (SetTable.below xs j) p with h|h|h
 ·have:=c _ (qkB _) (by omega)
  have:=h1 _ h
  omega
 ·exact h
 ·have:=b _ h
  have:=h2 p (qkB _) (by omega)
  omega
theorem below_zero {xs:Array Nat}(hr:Ris xs):SetTable.below xs 0=0:=below_eq hr (qrC _) (fun i h=>absurd h (Nat.not_lt_zero _)) fun i _ _=>qrC _
theorem below_next {xs:Array Nat}(hr:Ris xs){i:Nat}(hi:i<xs.size):SetTable.below xs (xs.getD i 0+1)=i+1 :=
 below_eq hr hi (fun k hk=>by
  rcases Nat.lt_or_eq_of_le (Nat.le_of_lt_succ hk) with h|h
  ·have:=hr k i h hi;omega
  ·rw [h];exact Nat.lt_succ_self _) fun k hk hs=>hr i k hk hs
theorem ris_of_pw {xs:Array Nat}(h:xs.toList.Pairwise (· < ·)):Ris xs:=fun i j hij hj=>by
 have:=List.pairwise_iff_getElem.mp h i j (by simpa using Nat.lt_trans hij hj) (by simpa using hj) hij
 simpa [Array.getD,hj,Nat.lt_trans hij hj] using this
theorem pw_of_ris {xs:Array Nat}(h:Ris xs):xs.toList.Pairwise (· < ·):=by
 rw [List.pairwise_iff_getElem]
 intro i j hi hj hij
 have hi':i<xs.size:=by simpa using hi
 have hj':j<xs.size:=by simpa using hj
 have:=h i j hij hj'
 simpa [Array.getD,hj',hi'] using this
theorem ris_insert {xs:Array Nat}(hr:Ris xs){j:Nat}(hn:xs[SetTable.below xs j]?≠some j):Ris (SetTable.insertAt xs (SetTable.below xs j) j):=by
 apply ris_of_pw
 rw [SetTable.toList_insertAt]
 obtain ⟨a,b,c⟩:=below_ok hr j
 have pw:=pw_of_ris hr
 generalize hp:SetTable.below xs j=p at a b c hn
 have hA:∀ x∈xs.toList.take p,x<j:=fun x hx=>by
  obtain ⟨i,hi,rfl⟩:=List.mem_iff_getElem.mp hx
  rw [qkA] at hi
  have h1:i<p:=by omega
  have h2:i<xs.size:=by rw [qiC] at hi;omega
  have:=b i h1
  rw [List.getElem_take]
  simpa [Array.getD,h2] using this
 have hB:∀ x∈xs.toList.drop p,j<x:=fun x hx=>by
  obtain ⟨i,hi,rfl⟩:=List.mem_iff_getElem.mp hx
  rw [List.length_drop,qiC] at hi
  have h2:p+i<xs.size:=by omega
  have hp2:p<xs.size:=by omega
  have h3:=c (p+i) (Nat.le_add_right _ _) h2
  rw [List.getElem_drop]
  have h4:xs.getD (p+i) 0≠j:=fun e=>by
   have h5:=c p (qkB _) hp2
   have h6:xs.getD p 0<=xs.getD (p+i) 0:=by
    cases i with
    | zero=>exact qkB _
    | succ i=>exact Nat.le_of_lt (hr p (p+(i+1)) (by omega) h2)
   have h7:xs.getD p 0=j:=by omega
   apply hn
   simp only [Array.getD,hp2,dite_true] at h7
   rw [Array.getElem?_eq_getElem hp2]
   exact congrArg some h7
  simp only [Array.getD,h2,dite_true] at h3 h4
  have e:xs.toList[p+i]'(by simpa using h2)=xs[p+i]:=by simp
  rw [e]
  have h3':j<=xs[p+i]:=by simpa using h3
  have h4':xs[p+i]≠j:=by simpa using h4
  omega
 rw [List.pairwise_append]
 refine ⟨pw.take,List.pairwise_cons.mpr ⟨hB,pw.drop⟩,fun x hx y hy=>?_⟩
 have h1:=hA x hx
 rcases qnA.mp hy with rfl|hy
 ·exact h1
 ·exact Nat.lt_trans h1 (hB y hy)
structure RT (t:SetTable):Prop where
 ris:Ris t.place
 dum:t.dummies = #[]
theorem has_empty (j:Nat):SetTable.has #[] j=false:=by
 unfold SetTable.has
 simp
theorem probe_go {t:SetTable}(hd:t.dummies = #[])(f:Nat->Int)(h:Int):∀ fuel p j d,p.dummy=none->SetTable.probe.go t f h fuel p=some (.empty j d)->d=none/\t.place[SetTable.below t.place j]?≠some j:=by
 intro fuel
 induction fuel with
 | zero=>intro p j d _ e;cases e
 | succ fuel ih =>
  intro p j d hp e
  unfold SetTable.probe.go at e
  have hadv:(t.advance p).dummy=none:=by
   unfold SetTable.advance
   split
   ·exact hp
   ·exact hp
  cases hs:t.slot p.j with
  | empty =>
   rw [hs] at e
   dsimp only at e
   cases e
   refine ⟨hp,fun hc=>?_⟩
   unfold SetTable.slot at hs
   dsimp only at hs
   rw [hc] at hs
   simp at hs
  | dummy =>
   unfold SetTable.slot at hs
   dsimp only at hs
   rw [hd,has_empty] at hs
   split at hs<;>simp at hs
  | live i =>
   rw [hs] at e
   dsimp only at e
   split at e
   ·cases e
   ·exact ih _ _ _ hadv e
theorem freeSlot_ok {t:SetTable}(hd:t.dummies = #[]){h:Int}{j:Nat}{b:Bool}(e:t.freeSlot h=some (j,b)):b=false/\t.place[SetTable.below t.place j]?≠some j:=by
 unfold SetTable.freeSlot at e
 cases hp:t.probe (fun _=>h+1) h (t.probeStart h) with
 | none=>rw [hp] at e;cases e
 | some m =>
  rw [hp] at e
  cases m with
  | candidate _ _ _=>cases e
  | empty j' d =>
   obtain ⟨rfl,h2⟩:=probe_go hd _ _ _ _ _ _ rfl hp
   simp only [Option.getD_none,Option.isSome_none,Option.some.injEq,Prod.mk.injEq] at e
   obtain ⟨rfl,rfl⟩:=e
   exact ⟨rfl,h2⟩
theorem Fq (t:SetTable)(n:Nat):RT (t.standIn n):=⟨ris_of_pw (by show (Array.range n).toList.Pairwise _;rw [Array.toList_range];exact List.pairwise_lt_range),rfl⟩
theorem orStandIn_rt {t:SetTable}(h:RT t)(n:Nat):RT (t.orStandIn n):=by
 unfold SetTable.orStandIn
 split
 ·exact h
 ·exact Fq t n
theorem orStandIn_led (t:SetTable)(n:Nat):(t.orStandIn n).led=t.led:=by
 unfold SetTable.orStandIn
 split<;>rfl
theorem layNew_rt {t:SetTable}(ht:RT t)(es:Array (Int × Value))(h:Int)(x:Value):RT (layNew t es h x).2.1/\(layNew t es h x).2.1.led=t.led:=by
 unfold layNew
 split
 ·rename_i slot wd e
  obtain ⟨_,h2⟩:=freeSlot_ok ht.dum e
  refine ⟨orStandIn_rt ⟨?_,?_⟩ _,orStandIn_led _ _⟩
  ·exact ris_insert ht.ris h2
  ·show (if SetTable.has t.dummies slot then _ else t.dummies) = #[]
   rw [ht.dum,has_empty]
   rfl
 ·exact ⟨Fq _ _,rfl⟩
theorem filterMap_pw {β:Type}(f:Nat->Option β):∀ l:List Nat,l.Pairwise (· < ·)->((l.filterMap fun j=>(f j).map (j,·)).map (·.1)).Pairwise (· < ·)
 | [],_=>.nil
 | a::l,h=>by
  have ih:=filterMap_pw f l h.tail
  cases hf:f a with
  | none=>rw [List.filterMap_cons_none (by rw [hf];rfl)];exact ih
  | some b =>
   rw [List.filterMap_cons_some (b:=(a,b)) (by rw [hf];rfl),qcB]
   refine List.pairwise_cons.mpr ⟨fun y hy=>?_,ih⟩
   obtain ⟨⟨j,c⟩,hq,rfl⟩:=qoA.mp hy
   obtain ⟨j',hj',e⟩:=List.mem_filterMap.mp hq
   cases hf':f j' with
   | none=>rw [hf'] at e;cases e
   | some c' =>
    rw [hf'] at e
    cases e
    exact List.rel_of_pairwise_cons h hj'
theorem laid_rt {mask finger moves:Nat}{led plain:Bool}{hs:Array Int}{t:SetTable}{o:Array Nat}(e:SetTable.laid mask finger moves led plain hs=some (t,o)):RT t/\t.led=led/\t.plain=plain/\t.mask=mask:=by
 unfold SetTable.laid at e
 cases hl:SetTable.layClean mask hs with
 | none=>rw [hl] at e;cases e
 | some ow =>
  rw [hl] at e
  simp only [Option.pure_def,Option.bind_eq_bind,Option.bind_some,Option.some.injEq,Prod.mk.injEq] at e
  obtain ⟨rfl,rfl⟩:=e
  refine ⟨⟨ris_of_pw ?_,rfl⟩,rfl,rfl,rfl⟩
  exact filterMap_pw (fun j=>ow.getD j none) _ List.pairwise_lt_range
theorem relayAll_rt (t:SetTable)(ht:RT t)(es:Array (Int × Value))(wanted:Nat):RT (relayAll t es wanted).2.1/\(relayAll t es wanted).2.1.led=t.led:=by
 unfold relayAll
 split
 ·rename_i t' order e
  dsimp only
  split
  ·unfold SetTable.relaid at e
   obtain ⟨a,b,_⟩:=laid_rt e
   exact ⟨a,b⟩
  ·exact ⟨Fq _ _,rfl⟩
 ·exact ⟨Fq _ _,rfl⟩
theorem erase_perm {α:Type}{l:List α}{i:Nat}(h:i<l.length):(l[i]::l.eraseIdx i).Perm l:=by
 rw [List.eraseIdx_eq_take_drop_succ]
 have e:l=l.take i++l[i]::l.drop (i+1):=by rw [List.getElem_cons_drop,List.take_append_drop]
 exact List.perm_middle.symm.trans (List.Perm.of_eq e.symm)
theorem pick_go {α:Type}(next:Nat->Nat):∀ fuel k (left:List α) (out:Array α),left.length=fuel->(pickOrder.go next fuel k left out).toList.Perm (out.toList++left):=by
 intro fuel
 induction fuel with
 | zero =>
  intro k left out h
  have:left=[]:=List.eq_nil_of_length_eq_zero h
  subst this
  unfold pickOrder.go
  rw [qfB]
 | succ fuel ih =>
  intro k left out h
  unfold pickOrder.go
  have hlt:next k % left.length<left.length:=Nat.mod_lt _ (by omega)
  rw [qwA hlt]
  dsimp only
  refine (ih (k+1) _ _ (by rw [List.length_eraseIdx_of_lt hlt];omega)).trans ?_
  rw [Array.toList_push,qeB]
  refine List.Perm.append_left _ ?_
  exact erase_perm hlt
theorem pick_perm {α:Type}(next:Nat->Nat)(xs:Array α):(pickOrder next xs).toList.Perm xs.toList:=by
 unfold pickOrder
 exact (pick_go next xs.size 0 xs.toList #[] (by simp)).trans (by simp)
def byT (w:World):Bool:=w.params.followText "set-order"
def Ent (w:World)(e:Int × Value)(k:Key):Prop:=DN k e.2=true/\e.1=keyH w k
theorem key_scan {k:Key}{v:Value}(h:DN k v=true):v.scannable=true:=by
 rcases BH h with ⟨i,t,rfl,rfl⟩ | ⟨x,t,rfl,rfl⟩<;>rfl
structure SObj (w:World)(o:Obj)(es:Array (Int × Value))(ep:Nat)(t:SetTable)(ks:List Key):Prop where
 exact':o.ExactSet
 data:o.data = .set es ep t
 ent:Paired (Ent w) es.toList ks
 few:ks.length<scanBound
 fit:t.fits es.size=true
 rt:RT t
 led:t.led = !byT w
def SetIs (w:World)(h:Heap)(a:Addr)(ks:List Key):Prop:=∃ o es ep t,h.get? a=some o/\SObj w o es ep t ks
theorem Co {α β:Type}{F:α->β->Prop}:∀ {l₁:List α}{l₂:List β},Paired F l₁ l₂->l₁.length=l₂.length
 | _,_,.nil=>rfl
 | _,_,.cons _ t=>congrArg (· + 1) (Co t)
theorem SObj.size {w:World}{o es ep t ks}(S:SObj w o es ep t ks):es.size=ks.length:=by
 have:=Co S.ent
 rwa [qiC] at this
theorem SObj.elems {prog:Program}{w:World}{o es ep t ks}(S:SObj w o es ep t ks):ElemsOf (B6 prog w) es.toList:=by
 have:∀ {l:List (Int × Value)}{ks:List Key},Paired (Ent w) l ks->ElemsOf (B6 prog w) l:=by
  intro l ks p
  induction p with
  | nil=>intro e he;cases he
  | cons hd _ ih =>
   intro e he
   rcases qnA.mp he with rfl|he
   ·exact ⟨⟨_,hd.1,hd.2⟩,key_scan hd.1⟩
   ·exact ih e he
 exact this S.ent
theorem DY {α β:Type}{F:α->β->Prop}{l l':List α}(hp:l'.Perm l):∀ {m:List β},Paired F l m->∃ m',m'.Perm m/\Paired F l' m':=by
 have:=hp.symm
 clear hp
 induction this with
 | nil=>intro m p;exact ⟨m,.rfl,p⟩
 | cons x _ ih =>
  intro m p
  cases p with
  | cons h t =>
   obtain ⟨m',e,q⟩:=ih t
   exact ⟨_,e.cons _,.cons h q⟩
 | swap x y l =>
  intro m p
  cases p with
  | cons h t=>cases t with
   | cons h2 t2=>exact ⟨_,List.Perm.swap _ _ _,.cons h2 (.cons h t2)⟩
 | trans _ _ ih1 ih2 =>
  intro m p
  obtain ⟨m1,e1,q1⟩:=ih1 p
  obtain ⟨m2,e2,q2⟩:=ih2 q1
  exact ⟨m2,e2.trans e1,q2⟩
theorem ent_find {w:World}{k:Key}:∀ {l:List (Int × Value)}{ks:List Key},Paired (Ent w) l ks->((∃ e∈l,DN k e.2=true) ↔ k∈ks)
 | _,_,.nil=>by simp
 | _,_,.cons (a:=e) (b:=k') h t=>by
  have ih:=ent_find (k:=k) t
  have hk:DN k e.2=true ↔ k=k':=⟨fun q=>(B6 default w).inj _ _ _ q h.1,fun q=>q ▸ h.1⟩
  constructor
  ·rintro ⟨x,hx,q⟩
   rcases qnA.mp hx with rfl|hx
   ·exact qnA.mpr (.inl (hk.mp q))
   ·exact qnA.mpr (.inr (ih.mp ⟨x,hx,q⟩))
  ·intro hm
   rcases qnA.mp hm with rfl|hm
   ·exact ⟨e,qrA,h.1⟩
   ·obtain ⟨x,hx,q⟩:=ih.mpr hm
    exact ⟨x,qsA _ hx,q⟩
def FS (ks:List Key)(k:Key):List Key:=if ks.any (fun y=>decide (y=k)) then ks else ks++[k]
theorem any_mem {ks:List Key}{k:Key}:ks.any (fun y=>decide (y=k))=true ↔ k∈ks:=by
 rw [List.any_eq_true]
 exact ⟨fun ⟨y,hy,e⟩=>(of_decide_eq_true e) ▸ hy,fun h=>⟨k,h,decide_eq_true rfl⟩⟩
theorem HE {ks:List Key}{k:Key}(h:k∈ks):FS ks k=ks:=by unfold FS;rw [if_pos (any_mem.mpr h)]
theorem GB {ks:List Key}{k:Key}(h:k ∉ ks):FS ks k=ks++[k]:=by unfold FS;rw [if_neg (fun q=>h (any_mem.mp q))]
theorem rt_plain_off {t:SetTable}(h:RT t):RT { t with plain:=false }:=⟨h.ris,h.dum⟩
section
variable {prog:Program}{w:World}{A:Around}{E:Value->Shared->Prop}{s:Shared}
theorem Dw {Q:Bool->Shared->Prop}(h:Q (byT w) s):wpAny (model prog w) A setsByText Q E s:=by
 unfold setsByText
 exact qbA (wpAny_askSetting (qcA h))
theorem wp_choose {src:Source}{n:Nat}{Q:Nat->Shared->Prop}(hn:n≠0)(h:∀ i d,i<n->Q i { s with drawn:=d }):wpAny (model prog w) A (choose src n) Q E s :=
 fun Γ p hΓ=>⟨hn,h _ _ (Nat.mod_lt _ (Nat.pos_of_ne_zero hn))⟩
theorem FR {a:Addr}{o:Obj}{es:Array (Int × Value)}{ep:Nat}{t:SetTable}{es':Array (Int × Value)}{t':SetTable}(ho:s.heap.get? a=some o)(hd:o.data = .set es ep t) :
  (s.heap.update a (Obj.putSet es' t')).get? a=some { o with data:=.set es' (ep+1) t' }:=by
 have:=Heap.get?_update_self (Obj.putSet es' t') ho (by rw [putSet_of es' t' hd];rfl)
 rwa [putSet_of es' t' hd] at this
theorem Eu {n:Nat}(h:n<scanBound):n<=sizeLine:=fits_of_scanBound h
theorem add_tail {g:Bool->Sem Unit}(hg:∀ (b:Bool) (s₁:Shared) (Q':Unit->Shared->Prop),Q' () s₁->wpAny (model prog w) A (g b) Q' E s₁)
  {a:Addr}{o:Obj}{es:Array (Int × Value)}{ep:Nat}{t:SetTable}(gA:s.heap.get? a=some o) (xA:o.ExactSet) (dA:o.data = .set es ep t)
  {es1:Array (Int × Value)}{t2:SetTable}{ks:List Key}(p1:Paired (Ent w) es1.toList ks) (f1:ks.length<scanBound) (ft:t2.fits es1.size=true) (r2:RT t2) (l2:t2.led = !byT w) {wd:Bool}{R:Option Bool->Shared->Prop}
  (h:∀ h' ks',Heap.SameBut a s.heap h'->SetIs w h' a ks'->ks'.Perm ks->R (some true) { s with heap:=h' }) :
  wpAny (model prog w) A (do
    storeSet a es1 t2
    if (!wd && t2.tooFull)=true then do
      g (relayAll t2 es1 (SetTable.grown es1.size)).2.2;storeSet a (relayAll t2 es1 (SetTable.grown es1.size)).1 (relayAll t2 es1 (SetTable.grown es1.size)).2.1
      pure (some true)
     else pure (some true)) R E s:=by
 have z1:es1.size=ks.length:=by have:=Co p1;rwa [qiC] at this
 refine qbA (wpAny_storeSet_of gA dA ?_ (Eu (by rw [z1];exact f1)))
 have g1:=FR (es':=es1) (t':=t2) gA dA
 have b1:=Heap.SameBut.update s.heap a (Obj.putSet es1 t2)
 split
 ·have hp:=relayAll_perm t2 es1 (SetTable.grown es1.size)
  have hfr:=relayAll_fits t2 es1 (SetTable.grown es1.size)
  obtain ⟨hrt,hld⟩:=relayAll_rt t2 r2 es1 (SetTable.grown es1.size)
  generalize relayAll t2 es1 (SetTable.grown es1.size)=Rl at hp hfr hrt hld ⊢
  obtain ⟨es2,t3,gave2⟩:=Rl
  dsimp only at hp hfr hrt hld ⊢
  obtain ⟨ks',e',p2⟩:=DY hp p1
  have f2:ks'.length<scanBound:=by rw [e'.length_eq];exact f1
  have z2:es2.size=ks'.length:=by have:=Co p2;rwa [qiC] at this
  refine qbA (hg _ _ _ (qbA (wpAny_storeSet_of (o:={ o with data:=.set es1 (ep+1) t2 }) g1 rfl ?_ (Eu (by rw [z2];exact f2)))))
  have g2:=FR (s:={ s with heap:=s.heap.update a (Obj.putSet es1 t2) }) (es':=es2) (t':=t3) g1 rfl
  exact qcA (h _ ks' (b1.trans (Heap.SameBut.update _ a _)) ⟨_,es2,_,t3,g2,⟨xA,rfl,p2,f2,hfr,hrt,hld.trans l2⟩⟩ e')
 ·exact qcA (h _ ks b1 ⟨_,es1,_,t2,g1,⟨xA,rfl,p1,f1,ft,r2,l2⟩⟩ .rfl)
theorem add_ok {a:Addr}{ks:List Key}{k:Key}{x:Value}{Q:Bool->Shared->Prop}(hk:DN k x=true)(hS:SetIs w s.heap a ks)(hroom:ks.length+1<scanBound)
  (h:∀ h' ks',Heap.SameBut a s.heap h'->SetIs w h' a ks'->ks'.Perm (FS ks k)->∀ b,Q b { s with heap:=h' }) :
  wpAny (model prog w) A (setAddHashed a x (keyH w k)) Q E s:=by
 obtain ⟨o,es,ep,t,gA,S⟩:=hS
 have hel:=S.elems (prog:=prog)
 have hsz:=S.size
 have hsc:=key_scan hk
 unfold setAddHashed setAddHashedIn
 refine qeA (qbA (qpC gA S.data S.fit ?_));dsimp only
 rw [byScan_of hsc (by rw [hsz];exact S.few) hel];simp only [↓reduceIte]
 unfold setAddByScan
 refine qbA (qbA (qdA (qbA (wpAny_setScan_of (knd:=B6 prog w) (k:=k) hk gA S.data S.fit hel ?_))))
 have hf:=ent_find (k:=k) S.ent
 cases hr:List.findIdx? (fun e=>(B6 prog w).is k e.2) es.toList with
 | some j =>
  dsimp only
  obtain ⟨hj,hpj,_⟩:=List.findIdx?_eq_some_iff_getElem.mp hr
  have hm:k∈ks:=hf.mp ⟨es.toList[j],List.getElem_mem hj,hpj⟩
  refine qcA (qcA ?_)
  have e:s = { s with heap:=s.heap }:=by cases s;rfl
  have q:=h s.heap ks (Heap.SameBut.refl a s.heap) ⟨o,es,ep,t,gA,S⟩ (by rw [HE hm]) false
  rw [<- e] at q
  exact q
 | none =>
  dsimp only
  have hm:k ∉ ks:=fun hm=>by
   obtain ⟨e,he,q⟩:=hf.mpr hm
   have:=List.findIdx?_eq_none_iff.mp hr e he
   have q':(B6 prog w).is k e.2=true:=q
   rw [q'] at this
   exact Bool.noConfusion this
  have hgw:∀ (b:Bool) {s₁:Shared}{Q':Unit->Shared->Prop},Q' () s₁->wpAny (model prog w) A (match b with|true=>rule "set.scan.the-table-gave-way" | false=>pure ()) Q' E s₁:=by
   intro b s₁ Q' hq
   cases b
   ·exact qcA hq
   ·exact qdA hq
  have hperm:=layNew_perm t es (keyH w k) x
  have hfits:=layNew_fits t es (keyH w k) x
  obtain ⟨hrt,hld⟩:=layNew_rt S.rt es (keyH w k) x
  generalize hL:layNew t es (keyH w k) x=L at hperm hfits hrt hld
  obtain ⟨es1,t1,wd,gave⟩:=L
  dsimp only at hperm hfits hrt hld ⊢
  rw [Array.toList_push] at hperm
  obtain ⟨ks1,e1,p1⟩:=DY hperm (S.ent.snoc (b:=k) (show Ent w (keyH w k,x) k from ⟨hk,rfl⟩))
  have f1:ks1.length<scanBound:=by rw [e1.length_eq,qgA];exact hroom
  have fin:∀ (h':Heap) (ks':List Key),Heap.SameBut a s.heap h'->SetIs w h' a ks'->ks'.Perm ks1->Q true { s with heap:=h' }:=fun h' ks' b1 b2 b3=>h h' ks' b1 b2 (by rw [GB hm];exact b3.trans e1) true
  refine qbA (hgw _ ?_)
  split
  ·refine qbA ?_;rw [hashByValue_scannable 8 hsc]
   refine qcA (add_tail (fun b s₁ Q' hq=>by cases b<;>first|exact qcA hq|exact qdA hq) gA S.exact' S.data p1 f1 ?_ ?_ ?_ fun h' ks' b1 b2 b3=>?_)
   ·split
    ·exact hfits
    ·exact SetTable.fits_plain_off hfits
   ·split
    ·exact hrt
    ·exact rt_plain_off hrt
   ·split
    ·exact hld.trans S.led
    ·exact hld.trans S.led
   ·exact qcA (fin h' ks' b1 b2 b3)
  ·refine qbA (qcA ?_);simp only [↓reduceIte]
   refine add_tail (fun b s₁ Q' hq=>by cases b<;>first|exact qcA hq|exact qdA hq) gA S.exact' S.data p1 f1 hfits hrt (hld.trans S.led) fun h' ks' b1 b2 b3=>?_
   exact qcA (fin h' ks' b1 b2 b3)
end
def Ee (ks:List Key):List Key:=ks.foldl FS []
theorem addK_perm {a b:List Key}(h:a.Perm b)(k:Key):(FS a k).Perm (FS b k):=by
 by_cases hk:k∈b
 ·rw [HE hk,HE (h.mem_iff.mpr hk)];exact h
 ·rw [GB hk,GB (fun q=>hk (h.mem_iff.mp q))];exact h.append_right _
theorem addK_len (a:List Key)(k:Key):(FS a k).length<=a.length+1:=by
 unfold FS
 split
 ·exact Nat.le_succ _
 ·rw [qgA];exact qkB _
theorem foldK_len (ks:List Key):∀ a:List Key,(ks.foldl FS a).length<=a.length+ks.length:=by
 induction ks with
 | nil=>intro a;exact qkB _
 | cons k ks ih =>
  intro a
  have h1:=ih (FS a k)
  have h2:=addK_len a k
  rw [qqC,qhA]
  omega
theorem dedK_len (ks:List Key):(Ee ks).length<=ks.length:=by
 have:=foldK_len ks []
 rw [List.length_nil] at this
 unfold Ee
 omega
theorem dedK_snoc (ks:List Key)(k:Key):Ee (ks++[k])=FS (Ee ks) k:=by
 unfold Ee
 rw [List.foldl_append]
 rfl
def SetP (w:World)(h:Heap)(a:Addr)(ks:List Key):Prop:=∃ ks',SetIs w h a ks'/\ks'.Perm ks
theorem SetIs.at {w:World}{h h':Heap}{a:Addr}{ks:List Key}(x:SetIs w h a ks)(k:∀ o,h.get? a=some o->h'.get? a=some o):SetIs w h' a ks:=by
 obtain ⟨o,es,ep,t,g,S⟩:=x
 exact ⟨o,es,ep,t,k _ g,S⟩
theorem SetP.at {w:World}{h h':Heap}{a:Addr}{ks:List Key}(x:SetP w h a ks)(k:∀ o,h.get? a=some o->h'.get? a=some o):SetP w h' a ks:=by
 obtain ⟨ks',g,e⟩:=x
 exact ⟨ks',g.at k,e⟩
def Bf (w:World):Obj:={ cls:=.type "set",dict:=none,data:=.set #[] 0 (.fresh 0 0 (!byT w)) }
theorem fresh_is {w:World}{h:Heap}{a:Addr}(g:h.get? a=some (Bf w)):SetIs w h a [] :=
 ⟨_,#[],0,_,g,⟨⟨rfl,rfl,rfl⟩,rfl,.nil,by decide,rfl,⟨fun i j _ hj=>absurd hj (Nat.not_lt_zero _),rfl⟩,rfl⟩⟩
section
variable {prog:Program}{w:World}{A:Around}{R:Result->Shared->Prop}{I:Addr}{fp wr:List Addr}{G:Array GenState->Array GenState->Prop}{n:Nat}{P:Nat->Value->Prop}{St:Nat->Shared->Prop}
theorem upd_loop (W:WalksS prog w A.in1 I fp wr G n P St)(S:Addr)(nS:S ∉ fp)(val:List Key)(hn:val.length=n)(hv:∀ i v,P i v->∃ k,val[i]? = some k/\DN k v=true)(hb:n+1<scanBound) :
  ∀ (k i:Nat) (s:Shared),n - i=k->i<=n->St i s->SetP w s.heap S (Ee (val.take i)) ->
   (∀ s',Moved (S::wr) G s s'->SetP w s'.heap S (Ee val)->R (.ok (.ret .none)) s') ->
   codeAny (model prog w) A (.builtin "set.update.loop" ⟨[.ref S,.ref I],[]⟩) R s:=by
 have nW:S ∉ wr:=fun h=>nS (W.sub _ h)
 have up:∀ b∈wr,b∈S::wr:=fun b hb=>qsA _ hb
 intro k
 induction k with
 | zero =>
  intro i s e1 e2 st hS hR
  have ei:i=n:=by omega
  subst ei
  refine codeAny_builtin PyProof.Rows.F.entry_set_update_loop ?_;rw [Around.under_plainId PyProof.Rows.F.plain_set_update_loop _]
  show wpAny _ A.in1 (pyNext (.ref I) >>= _) _ _ s;refine qbA (W.done s _ _ st fun s' hm=>?_)
  show wpAny _ A.in1 (ret Value.none) _ _ s';refine qcA (hR s' (hm.mono up) ?_)
  rw [List.take_of_length_le (Nat.le_of_eq hn)] at hS
  exact hS.at fun o e=>hm.heap S _ nW e
 | succ k ih =>
  intro i s e1 e2 st hS hR
  have hlt:i<n:=by omega
  refine codeAny_builtin PyProof.Rows.F.entry_set_update_loop ?_;rw [Around.under_plainId PyProof.Rows.F.plain_set_update_loop _]
  show wpAny _ A.in1 (pyNext (.ref I) >>= _) _ _ s;refine qbA (W.item i s _ _ hlt st fun v s' hP st' hm=>?_)
  obtain ⟨kk,hkk,hi⟩:=hv i v hP
  obtain ⟨ks',hS',ep⟩:SetP w s'.heap S (Ee (val.take i)):=hS.at fun o e=>hm.heap S _ nW e
  show wpAny _ A.in1 (holding [v] (setAdd S v) >>= _) _ _ s'
  refine qbA (qeA ?_)
  unfold setAdd
  refine qeA (qbA ((B6 prog w).pyHash (k:=kk) hi ?_))
  have hl:ks'.length<=i:=by
   rw [ep.length_eq]
   exact qmB (dedK_len _) (by rw [qkA];exact Nat.min_le_left _ _)
  refine add_ok (s:={ s' with toks:=s'.toks+1 }) hi hS' (by omega) fun h' ks2 hsb hS2 e2' b=>?_
  have hnext:SetP w h' S (Ee (val.take (i+1))):=by
   refine ⟨ks2,hS2,?_⟩
   rw [List.take_add_one,hkk]
   show ks2.Perm (Ee (val.take i++[kk]))
   rw [dedK_snoc]
   exact e2'.trans (addK_perm ep kk)
  refine qcA ⟨plainId_quiet PyProof.Rows.F.plain_set_update_loop _,ih (i+1) _ (by omega) hlt (W.frame _ s' _ _ st' (Nat.le_succ _) fun b hb o e=>?_) hnext fun s'' hm'' hS''=>?_⟩
  ·exact (hsb.2 b (fun h:b=S=>nS (by rw [<- h];exact hb))).trans e
  ·refine hR s'' (Moved.trans W.gtrans ((hm.mono up).then_heap (Nat.le_succ _) fun b o hb e=>?_) hm'') hS''
   exact (hsb.2 b (fun h:b=S=>hb (by rw [h];exact qrA))).trans e
end
def Src (prog:Program)(w:World)(x:Value)(h0:Heap)(n:Nat)(P:Nat->Value->Prop):Prop :=
 ∀ s₁:Shared,(∀ b o,h0.get? b=some o->s₁.heap.get? b=some o)->∃ (oI:Obj) (fp:List Addr) (St:Nat->Heap->Prop),oI.isFreed=false/\(∀ b∈fp,b=s₁.heap.objs.size\/b<h0.objs.size)/\St 0 (s₁.heap.push oI) /\
  (∀ (A':Around) (Q:Value->Shared->Prop) (E:Value->Shared->Prop),A'.handled=none->Q (.ref s₁.heap.objs.size) { s₁ with heap:=s₁.heap.push oI }->wpAny (model prog w) A' (pyIter x) Q E s₁) /\
  ∀ A':Around,A'.handled=none->Walks prog w A' s₁.heap.objs.size fp [s₁.heap.objs.size] n P St
section
variable {prog:Program}{w:World}{A:Around}{E:Value->Shared->Prop}{s:Shared}
theorem src_list {l:Addr}{items:Array Value}(hl:s.heap.IsList l items):Src prog w (.ref l) s.heap items.size (fun i v=>items[i]? = some v):=fun s₁ hk=>by
 have hl1:s₁.heap.IsList l items:=hl.at fun o e=>hk _ _ e
 obtain ⟨o0,ho0,_⟩:=hl
 have ne:l≠s₁.heap.objs.size:=qjC (qqB (hk _ _ ho0))
 refine ⟨{ cls:=.type "list_iterator",data:=.fields #[.ref l,.int 0 0] },[s₁.heap.objs.size,l],_,rfl,fun b hb=>?_,?_,fun A' Q E' hh q=>wpAny_pyIter_list hl1 q,fun A' hh=>Walks.list hh _ l ne items⟩
 ·rcases qnA.mp hb with e|e
  ·exact .inl e
  ·rw [qqA.mp e];exact .inr (qqB ho0)
 ·exact ⟨⟨_,qsB _ rfl,rfl,rfl⟩,hl1.push _⟩
theorem src_str {x:Str}{t:Tok}:Src prog w (.str x t) s.heap x.cps.size (SignAt x):=fun s₁ hk=>by
 refine ⟨{ cls:=.type (strIterType x),data:=.fields #[.str x t,.int 0 0] },[s₁.heap.objs.size],fun i h=>h.IsStrIter s₁.heap.objs.size (strIterType x) x t i,rfl,fun b hb=>.inl (qqA.mp hb),?_,fun A' Q E' hh q=>wpAny_pyIter_strU q,fun A' hh=>?_⟩
 ·exact ⟨_,qsB _ rfl,rfl,rfl⟩
 ·unfold strIterType
  cases ha:x.cps.all (· < 128)
  ·exact Walks.strWide hh _ x t
  ·exact Walks.strAscii hh _ x t
theorem code_new_set (a:Value){Q₁:Value->Shared->Prop}(h:Q₁ (.ref s.heap.objs.size) { s with heap:=s.heap.push (Bf w) }) :
  codeAny (model prog w) A (.call (.builtin "set.__new__") ⟨[.type "set",a],[]⟩) (wants Q₁ E) s:=by
 refine codeAny_of_tree ?_
 show wpAny _ A.in1 (checkBuiltinCall "set.__new__" ⟨[.type "set",a],[]⟩ >>= fun _=>again (.builtin "set.__new__" ⟨[.type "set",a],[]⟩)) _ _ s
 refine qbA (wpAny_of_eq (PySem.F.newCall_set_1 a) (qcA ⟨plainId_quiet F.plain_set_new _,codeAny_builtin F.entry_set_new ?_⟩));rw [Around.under_plainId F.plain_set_new _]
 unfold Builtin.«set.__new__» Builtin.Frozenset.newClass
 have hsub:=sub_set_self
 obtain ⟨hp,g,d,tk,os⟩:=s
 dsimp only
 wp_walk
 refine wpAny_askSetting (qcA ?_);dsimp only
 simp only [newObj]
 exact qbA (wpAny_alloc (qcA (qcA h)))
end
theorem sub_str_set:isSubtype (.type "str") (.type "set")=pure false:=by rw [isSubtype_type];kernel_rfl
theorem sub_str_frz:isSubtype (.type "str") (.type "frozenset")=pure false:=by rw [isSubtype_type];kernel_rfl
section
variable {prog:Program}{w:World}{A:Around}{E:Value->Shared->Prop}{s:Shared}
theorem call_set_src {x:Value}{T:String}{n:Nat}{P:Nat->Value->Prop}{val:List Key}{Q:Value->Shared->Prop}(hh:A.handled=none)(hx:Src prog w x s.heap n P)
  (tx:∀ s₁:Shared,(∀ b o,s.heap.get? b=some o->s₁.heap.get? b=some o)->s₁.TypeIs x T) (n1:isSubtype (.type T) (.type "set")=pure false) (n2:isSubtype (.type T) (.type "frozenset")=pure false) (n3:(Value.type T == Value.type "dict")=false)
  (hn:val.length=n) (hv:∀ i v,P i v->∃ k,val[i]? = some k/\DN k v=true) (hb:n+1<scanBound)
  (h:∀ (h':Heap) (tk:Nat),SetP w h' s.heap.objs.size (Ee val)->(∀ b o,s.heap.get? b=some o->h'.get? b=some o)->Q (.ref s.heap.objs.size) { s with heap:=h',toks:=tk }) :
  wpAny (model prog w) A (call (.type "set") [x]) Q E s:=by
 obtain ⟨c,tl,hmro⟩:=F.called_set.mro
 have hmade:=F.called_set.made
 have hsub:=F.called_set.sub
 refine wpAny_call (codeAny_of_tree ?_);show wpAny _ _ (callAny (.type "set") _) _ _ _
 refine qcA ⟨Code.quiet_builtin _ (by decide +kernel),codeAny_builtin F.entry_type_call ?_⟩;rw [Around.under_plain (weight_type_call_type "set" [x] []) rfl]
 have h1:=F.called_set.notType
 have h2:=F.called_set.canCreate
 have hct:=PySem.F.typeCall_set_1 x
 repeat (any_goals (first|assumption|wp_step))
 refine codeAny_mono (code_new_set x (E:=E) (Q₁:=fun obj s₁=>obj = .ref s.heap.objs.size/\s₁ = { s with heap:=s.heap.push (Bf w) }) ⟨rfl,rfl⟩) fun r s₁ hr=>?_
 cases r with
 | error e=>exact hr
 | ok fl=>cases fl with
  | ret obj =>
   obtain ⟨rfl,rfl⟩:=hr
   have gS:(s.heap.push (Bf w)).get? s.heap.objs.size=some (Bf w):=qsB _ rfl
   have hT:Shared.TypeIs { s with heap:=s.heap.push (Bf w) } (.ref s.heap.objs.size) "set" := ⟨_,gS,rfl⟩
   have hli:=F.called_set.init.lookup
   have hbi:=F.called_set.init.bind (.ref s.heap.objs.size)
   repeat (any_goals (first|assumption|wp_step))
   refine codeAny_mono (codeAny_call_builtin (R:=wants (fun r s₂=>r = .none/\∃ h' tk,s₂ = { s with heap:=h',toks:=tk }/\SetP w h' s.heap.objs.size (Ee val)/\(∀ b o,s.heap.get? b=some o->h'.get? b=some o)) E) F.called_set.init.plain F.entry_set_init (check_set_init_1 hT ?_)) fun r₂ s₂ hr₂=>?_
   ·obtain ⟨hp,g,d,tk0,os⟩:=s
    dsimp only at *
    have kp:∀ b o,hp.get? b=some o->(hp.push (Bf w)).get? b=some o:=fun b o e=>qrB _ e
    have hTx:Shared.TypeIs { heap:=hp.push (Bf w),gens:=g,drawn:=d,toks:=tk0,os:=os } x T:=tx _ kp
    unfold Builtin.«set.__init__» noKeywords Builtin.Frozenset.updateFrom
    generalize hPI:pyIter=PI
    unfold Bf at *
    wp_walk
    subst hPI
    obtain ⟨oI,fp,St,hf,hfp,st0,hit,hW⟩:=hx { heap:=hp.push (Bf w),gens:=g,drawn:=d,toks:=tk0,os:=os } kp
    refine hit _ _ _ (by simp [hh]) (qbA (wpAny_runValue ?_))
    have eS:(hp.push (Bf w)).objs.size=hp.objs.size+1:=size_push' _ _
    have nS:hp.objs.size ∉ fp:=fun hm=>by
     rcases hfp _ hm with e|e
     ·rw [eS] at e;exact absurd e (qjC (Nat.lt_succ_self _))
     ·exact qnB _ e
    refine upd_loop (hW _ (by simp [hh])).toS hp.objs.size nS val hn hv hb n 0 _ rfl (qrC _) st0 ?_ fun s' hm hS'=>?_
    ·exact ⟨[],fresh_is (qrB _ gS),.rfl⟩
    ·obtain ⟨h',g',d',tk',os'⟩:=s'
     obtain rfl:g'=g:=hm.gens
     obtain rfl:d'=d:=hm.drawn
     obtain rfl:os'=os:=hm.os
     refine qcA ?_
     show wpAny _ _ (ret Value.none) _ _ _
     refine qcA ⟨rfl,h',tk',rfl,hS',fun b o e=>?_⟩
     have lb:b<hp.objs.size:=qqB e
     refine hm.heap b o (fun hmem=>?_) (qrB _ (kp b o e))
     rcases qnA.mp hmem with q|q
     ·exact absurd q (qjC lb)
     ·have q:=qqA.mp q
      rw [eS] at q
      exact absurd q (qjC (Nat.lt_succ_of_lt lb))
   ·cases r₂ with
    | error e=>exact hr₂
    | ok fl₂=>cases fl₂ with
     | ret r =>
      obtain ⟨rfl,h',tk,rfl,hS',hk'⟩:=hr₂
      repeat (any_goals (first|assumption|wp_step))
      exact h _ _ hS' hk'
     | _=>exact hr₂.elim
  | _=>exact hr.elim
end
theorem slot_si_next:Slot "set_iterator" "__next__" "set_iterator.__next__" :=
 .of (owner := "set_iterator") (n := "__next__") (by rw [typeLookup_type,qbC];kernel_rfl) (by decide +kernel) (by decide +kernel) (by decide +kernel) (by first|exact .inl (by decide +kernel)|exact .inr (by decide +kernel)) (by rw [isSubtype_type];kernel_rfl)
theorem EI:entryFor table "set_iterator.__next__" = some Builtin.«set_iterator.__next__»:=entryFor_of_tree (by kernel_rfl)
theorem EX (a:Value):argsOk "set_iterator.__next__" ⟨[a],[]⟩:=by unfold argsOk;kernel_rfl
theorem entry_s_iter:entryFor table "set.__iter__" = some Builtin.«frozenset.__iter__»:=entryFor_alias (id' := "frozenset.__iter__") (by kernel_rfl) rfl (by decide +kernel) (by kernel_rfl)
def SIter (h:Heap)(I:Addr)(f:Value)(i:Nat)(a:Addr)(n ep:Nat):Prop:=∃ o,h.get? I=some o/\o.cls = .type "set_iterator" /\ o.data = .fields #[f,rawInt i,.ref a,rawInt n,rawInt ep]
theorem SIter.type {s:Shared}{I f i a n ep}(x:SIter s.heap I f i a n ep):s.TypeIs (.ref I) "set_iterator" := by
 obtain ⟨o,g,c,_⟩:=x
 exact ⟨o,g,c⟩
def SAt (w:World)(h:Heap)(a:Addr)(es:Array (Int × Value))(ep:Nat)(t:SetTable)(ks:List Key):Prop:=∃ o,h.get? a=some o/\SObj w o es ep t ks
section
variable {prog:Program}{w:World}{A:Around}{E:Value->Shared->Prop}{s:Shared}
theorem fld_upd {h:Heap}{I:Addr}{o:Obj}{fs:Array Value}(k:Nat)(v:Value)(g:h.get? I=some o)(d:o.data = .fields fs) :
  ∃ o',(h.update I (Obj.mapFields (·.setIfInBounds k v))).get? I=some o'/\o'.cls=o.cls/\o'.data = .fields (fs.setIfInBounds k v) :=
 ⟨_,Heap.get?_update_self _ g (Obj.isFreed_of_fields (Obj.data_mapFields d _)),Obj.cls_mapFields ..,Obj.data_mapFields d _⟩
theorem next_item {I a:Addr}{sl i n ep:Nat}{es:Array (Int × Value)}{t:SetTable}{ks:List Key}{x:Value}{nx:Nat}{Q:Option Value->Shared->Prop}(it:SIter s.heap I (rawInt sl) i a n ep)(sa:SAt w s.heap a es ep t ks)(hn:es.size=n)
  (nxt:∀ (A':Around) (E':Value->Shared->Prop) (Q':Option (Value × Nat)->Shared->Prop),Q' (some (x,nx)) s->wpAny (model prog w) A' (setNext a sl i ep) Q' E' s)
  (h:∀ h',SIter h' I (rawInt nx) (i+1) a n ep->Heap.SameBut I s.heap h'->Q (some x) { s with heap:=h' }):wpAny (model prog w) A (pyNext (.ref I)) Q E s:=by
 obtain ⟨o,g,c,dt⟩:=id it
 obtain ⟨os,gs,S⟩:=sa
 unfold pyNext
 refine qbA (wpAny_attempt (wpAny_callSpecial?_slot (name:=Str.ofString "__next__") it.type slot_si_next (qoC slot_si_next it.type EI ?_ (EX _))))
 unfold Builtin.«set_iterator.__next__»
 refine qbA (qcA ?_);dsimp only
 refine qbA (wpAny_fieldsOf g dt ?_);simp only [rawInt]
 refine qbA (wpAny_setEntries_of gs S.data S.fit ?_);rw [if_neg (by rw [hn];simp)]
 simp only [qvB]
 refine qbA (nxt _ _ _ ?_)
 dsimp only
 refine qbA (wpAny_setField g dt (by simp) ?_)
 obtain ⟨o1,g1,c1,d1⟩:=fld_upd 0 (Value.int (nx:Int) 0) g dt
 refine qbA (wpAny_setField (s:={ s with heap:=s.heap.update I (Obj.mapFields (·.setIfInBounds 0 (Value.int (nx:Int) 0))) }) g1 d1 (by simp) ?_)
 obtain ⟨o2,g2,c2,d2⟩:=fld_upd 1 (Value.int ((i:Int)+1) 0) g1 d1
 refine qcA ⟨_,rfl,qcA (h _ ⟨o2,g2,c2.trans (c1.trans c),?_⟩ ((Heap.SameBut.update _ I _).trans (Heap.SameBut.update _ I _)))⟩
 rw [d2]
 simp [rawInt]
theorem stop_here {I:Addr}{o:Obj}{fs:Array Value}{Q:Option Value->Shared->Prop}{Q1:PySem.Fin->Shared->Prop}(hh:A.handled=none)(g:s.heap.get? I=some o)(dt:o.data = .fields fs)(hz:2<fs.size)
  (h:∀ h',Heap.ExtBut I s.heap h'->Q none { s with heap:=h' }) :
  wpAny (model prog w) A.in1 (setField (.ref I) 2 .none >>= fun _=>newExc (.type "StopIteration") [] >>= fun e=>raiseNew e) Q1
   (fun e s'=>wpAny (model prog w) A (isInstance e (.type "StopIteration") >>= fun b=>if b=true then pure none else throw e) Q E s') s:=by
 refine qbA (wpAny_setField g dt hz ?_)
 refine qbA ?_
 simp only [newExc,newTuple]
 refine qbA (wpAny_newObj_type ?_ (by size_fits));refine qbA (m:=firstArgMember _ _) (wpAny_of_eq (a:=Value.none) (by first|rfl | (simp only [firstArgMember];rfl)) ?_)
 refine wpAny_newObj_type ?_ (by size_fits);simp only [raiseNew]
 refine qbA (wpAny_handled ?_);rw [show A.in1.handled=none from hh]
 refine qbA (qcA (wpAny_throw ?_));refine qbA (wpAny_isInstance (T := "StopIteration") (b:=true) ⟨_,qsB _ rfl,rfl⟩ isSubtype_stop ?_)
 exact qcA (h _ (((Heap.SameBut.update ..).extBut.push _).push _))
theorem next_end {I a:Addr}{sl i n ep:Nat}{es:Array (Int × Value)}{t:SetTable}{ks:List Key}{Q:Option Value->Shared->Prop}(hh:A.handled=none)(it:SIter s.heap I (rawInt sl) i a n ep)(sa:SAt w s.heap a es ep t ks)(hn:es.size=n)
  (nxt:∀ (A':Around) (E':Value->Shared->Prop) (Q':Option (Value × Nat)->Shared->Prop),Q' none s->wpAny (model prog w) A' (setNext a sl i ep) Q' E' s)
  (h:∀ h',Heap.ExtBut I s.heap h'->Q none { s with heap:=h' }):wpAny (model prog w) A (pyNext (.ref I)) Q E s:=by
 obtain ⟨o,g,c,dt⟩:=id it
 obtain ⟨os,gs,S⟩:=sa
 unfold pyNext
 refine qbA (wpAny_attempt (wpAny_callSpecial?_slot (name:=Str.ofString "__next__") it.type slot_si_next (qoC slot_si_next it.type EI ?_ (EX _))))
 unfold Builtin.«set_iterator.__next__»
 refine qbA (qcA ?_);dsimp only
 refine qbA (wpAny_fieldsOf g dt ?_);simp only [rawInt]
 refine qbA (wpAny_setEntries_of gs S.data S.fit ?_);rw [if_neg (by rw [hn];simp)]
 simp only [qvB]
 refine qbA (nxt _ _ _ ?_)
 dsimp only
 exact stop_here hh g dt (by simp) h
def TupAt (h:Heap)(T:Addr)(ps:List Nat):Prop:=∃ o n,h.get? T=some o/\o.data = .seq (ps.map fun (p:Nat)=>rawInt p).toArray n
theorem nextD_item {I a T:Addr}{i n ep p:Nat}{ps:List Nat}{es:Array (Int × Value)}{t:SetTable}{ks:List Key}{e:Int × Value}{Q:Option Value->Shared->Prop}(it:SIter s.heap I (.ref T) i a n ep)(tp:TupAt s.heap T ps)(sa:SAt w s.heap a es ep t ks)(hn:es.size=n)
  (hp:ps[i]? = some p) (he:es[p]? = some e) (h:∀ h',SIter h' I (.ref T) (i+1) a n ep->Heap.SameBut I s.heap h'->Q (some e.2) { s with heap:=h' }):wpAny (model prog w) A (pyNext (.ref I)) Q E s:=by
 obtain ⟨o,g,c,dt⟩:=id it
 obtain ⟨os,gs,S⟩:=sa
 obtain ⟨ot,nt,gt,dtt⟩:=tp
 unfold pyNext
 refine qbA (wpAny_attempt (wpAny_callSpecial?_slot (name:=Str.ofString "__next__") it.type slot_si_next (qoC slot_si_next it.type EI ?_ (EX _))))
 unfold Builtin.«set_iterator.__next__»
 refine qbA (qcA ?_);dsimp only
 refine qbA (wpAny_fieldsOf g dt ?_);simp only [rawInt]
 refine qbA (wpAny_setEntries_of gs S.data S.fit ?_);rw [if_neg (by rw [hn];simp)]
 refine qbA (wpAny_seqItems gt dtt ?_)
 dsimp only
 have e1:(ps.map fun (p:Nat)=>rawInt p).toArray[((i:Int)).toNat]? = some (Value.int (p:Int) 0):=by simp [hp,rawInt]
 rw [e1]
 dsimp only
 unfold setNextDrawn
 simp only [qvB]
 refine qbA (qbA (qpC gs S.data S.fit ?_))
 dsimp only
 rw [if_neg (by simp)]
 rw [he]
 refine qcA ?_
 refine qbA (wpAny_setField g dt (by simp) ?_)
 obtain ⟨o2,g2,c2,d2⟩:=fld_upd 1 (Value.int ((i:Int)+1) 0) g dt
 refine qcA ⟨_,rfl,qcA (h _ ⟨o2,g2,c2.trans c,?_⟩ (Heap.SameBut.update _ I _))⟩
 rw [d2]
 simp [rawInt]
theorem nextD_end {I a T:Addr}{i n ep:Nat}{ps:List Nat}{es:Array (Int × Value)}{t:SetTable}{ks:List Key}{Q:Option Value->Shared->Prop}(hh:A.handled=none)(it:SIter s.heap I (.ref T) i a n ep)(tp:TupAt s.heap T ps)(sa:SAt w s.heap a es ep t ks)(hn:es.size=n)
  (hp:ps[i]? = none) (h:∀ h',Heap.ExtBut I s.heap h'->Q none { s with heap:=h' }):wpAny (model prog w) A (pyNext (.ref I)) Q E s:=by
 obtain ⟨o,g,c,dt⟩:=id it
 obtain ⟨os,gs,S⟩:=sa
 obtain ⟨ot,nt,gt,dtt⟩:=tp
 unfold pyNext
 refine qbA (wpAny_attempt (wpAny_callSpecial?_slot (name:=Str.ofString "__next__") it.type slot_si_next (qoC slot_si_next it.type EI ?_ (EX _))))
 unfold Builtin.«set_iterator.__next__»
 refine qbA (qcA ?_);dsimp only
 refine qbA (wpAny_fieldsOf g dt ?_);simp only [rawInt]
 refine qbA (wpAny_setEntries_of gs S.data S.fit ?_);rw [if_neg (by rw [hn];simp)]
 refine qbA (wpAny_seqItems gt dtt ?_)
 dsimp only
 have e1:(ps.map fun (p:Nat)=>rawInt p).toArray[((i:Int)).toNat]? = none:=by
  have:=List.getElem?_eq_none_iff.mp hp
  simp [this]
 rw [e1]
 dsimp only
 refine qbA (wpAny_setField g dt (by simp) ?_)
 obtain ⟨o1,g1,c1,d1⟩:=fld_upd 0 (Value.int 0 0) g dt
 refine stop_here (s:={ s with heap:=s.heap.update I (Obj.mapFields (·.setIfInBounds 0 (Value.int 0 0))) }) hh g1 d1 (by simp) fun h' q=>h h' ?_
 exact fun b o hb e=>q b o hb (((Heap.SameBut.update s.heap I _).2 b hb).trans e)
end
theorem slot_si_iter:Slot "set_iterator" "__iter__" "set_iterator.__iter__" :=
 .of (owner := "set_iterator") (n := "__iter__") (by rw [typeLookup_type,qbC];kernel_rfl) (by decide +kernel) (by decide +kernel) (by decide +kernel) (by first|exact .inl (by decide +kernel)|exact .inr (by decide +kernel)) (by rw [isSubtype_type];kernel_rfl)
theorem entry_si_iter:entryFor table "set_iterator.__iter__" = some Builtin.«dict_keyiterator.__iter__»:=entryFor_alias (id' := "dict_keyiterator.__iter__") (by kernel_rfl) rfl (by decide +kernel) (by kernel_rfl)
theorem args_si_iter (a:Value):argsOk "set_iterator.__iter__" ⟨[a],[]⟩:=by unfold argsOk;kernel_rfl
theorem SAt.at {w:World}{h h':Heap}{a:Addr}{es ep t ks}(x:SAt w h a es ep t ks)(k:∀ o,h.get? a=some o->h'.get? a=some o):SAt w h' a es ep t ks:=by
 obtain ⟨o,g,S⟩:=x
 exact ⟨o,k _ g,S⟩
theorem SIter.at {h h':Heap}{I f i a n ep}(x:SIter h I f i a n ep)(k:∀ o,h.get? I=some o->h'.get? I=some o):SIter h' I f i a n ep:=by
 obtain ⟨o,g,r⟩:=x
 exact ⟨o,k _ g,r⟩
theorem TupAt.at {h h':Heap}{T ps}(x:TupAt h T ps)(k:∀ o,h.get? T=some o->h'.get? T=some o):TupAt h' T ps:=by
 obtain ⟨o,n,g,r⟩:=x
 exact ⟨o,n,k _ g,r⟩
section
variable {prog:Program}{w:World}{A:Around}{E:Value->Shared->Prop}{s:Shared}{I a T:Addr}{es xs:Array (Int × Value)}{ep:Nat}{t:SetTable}{ks:List Key}
theorem iter_self {f:Value}{i n:Nat}{Q:Value->Shared->Prop}(it:SIter s.heap I f i a n ep)(h:Q (.ref I) s):wpAny (model prog w) A (pyIter (.ref I)) Q E s:=by
 refine wpAny_pyIter_slot it.type slot_si_iter (qoC slot_si_iter it.type entry_si_iter ?_ (args_si_iter _))
 show wpAny _ _ (ret (.ref I)) _ _ s;exact qcA ⟨_,rfl,"set_iterator",_,it.type,slot_si_next.lookup,h⟩
theorem walk_int (hne:a≠I)(sl:Nat->Nat)(hx:xs.size=es.size)
  (nx:∀ (i:Nat) (s:Shared) (A':Around) (E':Value->Shared->Prop) (Q':Option (Value × Nat)->Shared->Prop),SAt w s.heap a es ep t ks->i<=es.size->Q' ((xs[i]?).map fun e=>(e.2,sl (i+1))) s->wpAny (model prog w) A' (setNext a (sl i) i ep) Q' E' s) (hh:A.handled=none) :
  Walks prog w A I [I,a] [I] es.size (fun i v=>∃ e,xs[i]? = some e/\e.2=v) (fun i h=>SIter h I (rawInt (sl i)) i a es.size ep/\SAt w h a es ep t ks) where
 sub:=fun b hb=>by simp at hb;simp [hb]
 frame:=fun _ _ _ st hk=>⟨st.1.at fun o e=>hk I (by simp) o e,st.2.at fun o e=>hk a (by simp) o e⟩
 item:=fun i s Q E hi st hQ=>by
  have hi':i<xs.size:=by rw [hx];exact hi
  refine next_item (x:=xs[i].2) (nx:=sl (i+1)) st.1 st.2 rfl (fun A' E' Q' q=>nx i s A' E' Q' st.2 (Nat.le_of_lt hi) ?_) fun h' it' hs=>?_
  ·rw [Array.getElem?_eq_getElem hi'];exact q
  ·exact hQ _ h' s.toks ⟨xs[i],Array.getElem?_eq_getElem hi',rfl⟩ ⟨it',st.2.at fun o e=>(hs.2 a hne).trans e⟩ fun b o hb e=>(hs.2 b (fun q=>hb (by simp [q]))).trans e
 done:=fun s Q E st hQ=>by
  refine next_end hh st.1 st.2 rfl (fun A' E' Q' q=>nx es.size s A' E' Q' st.2 (qkB _) ?_) fun h' hs=>hQ h' s.toks fun b o hb e=>hs b o (fun q=>hb (by simp [q])) e
  rw [Array.getElem?_eq_none (by rw [hx];exact qkB _)];exact q
 self:=fun i s Q E st q=>iter_self st.1 q
theorem walk_drawn (hne:a≠I)(hT:T≠I)(ps:List Nat)(hp:ps.length=es.size)(hb:∀ p∈ps,p<es.size)(hh:A.handled=none) :
  Walks prog w A I [I,a,T] [I] es.size (fun i v=>∃ p e,ps[i]? = some p/\es[p]? = some e/\e.2=v) (fun i h=>SIter h I (.ref T) i a es.size ep/\SAt w h a es ep t ks/\TupAt h T ps) where
 sub:=fun b hb=>by simp at hb;simp [hb]
 frame:=fun _ _ _ st hk=>⟨st.1.at fun o e=>hk I (by simp) o e,st.2.1.at fun o e=>hk a (by simp) o e,st.2.2.at fun o e=>hk T (by simp) o e⟩
 item:=fun i s Q E hi st hQ=>by
  have hi':i<ps.length:=by rw [hp];exact hi
  have h1:ps[i]? = some ps[i]:=qwA hi'
  have h2:ps[i]<es.size:=hb _ (List.getElem_mem hi')
  have h3:es[ps[i]]? = some es[ps[i]]:=Array.getElem?_eq_getElem h2
  refine nextD_item st.1 st.2.2 st.2.1 rfl h1 h3 fun h' it' hs=>?_
  exact hQ _ h' s.toks ⟨_,_,h1,h3,rfl⟩ ⟨it',st.2.1.at fun o e=>(hs.2 a hne).trans e,st.2.2.at fun o e=>(hs.2 T hT).trans e⟩ fun b o hb e=>(hs.2 b (fun q=>hb (by simp [q]))).trans e
 done:=fun s Q E st hQ=>nextD_end hh st.1 st.2.2 st.2.1 rfl (qzA (by rw [hp];exact qkB _)) fun h' hs=>hQ h' s.toks fun b o hb e=>hs b o (fun q=>hb (by simp [q])) e
 self:=fun i s Q E st q=>iter_self st.1 q
theorem nxt_text (hb:byT w=true){sl i:Nat}{Q:Option (Value × Nat)->Shared->Prop}(sa:SAt w s.heap a es ep t ks)(h:Q (((pickOrder (w.params.setOrder a ep) es)[i]?).map fun e=>(e.2,sl)) s):wpAny (model prog w) A (setNext a sl i ep) Q E s:=by
 obtain ⟨o,g,S⟩:=sa
 unfold setNext
 refine qbA (qpC g S.data S.fit (qbA (Dw ?_)));dsimp only
 rw [hb,if_pos rfl,if_neg (by simp)]
 refine qbA ?_
 unfold setWalk
 refine qbA (qpC g S.data S.fit (qbA (Dw ?_)))
 rw [hb,if_pos rfl]
 refine qbA (wpAny_askSetting (qcA (qcA ?_)))
 exact h
def slP (t:SetTable):Nat->Nat
 | 0=>0
 | i+1=>t.place.getD i 0+1
theorem below_slP {t:SetTable}(hr:RT t):∀ {i:Nat},i<=t.place.size->SetTable.below t.place (slP t i)=i
 | 0,_=>below_zero hr.ris
 | i+1,h=>below_next hr.ris h
theorem nxt_place (hb:byT w=false)(hd:t.plain=true\/es.size<=1){i:Nat}{Q:Option (Value × Nat)->Shared->Prop}(sa:SAt w s.heap a es ep t ks)(hi:i<=es.size)(h:Q ((es[i]?).map fun e=>(e.2,slP t (i+1))) s):wpAny (model prog w) A (setNext a (slP t i) i ep) Q E s:=by
 obtain ⟨o,g,S⟩:=sa
 have hps:t.place.size=es.size:=by
  have:=S.fit
  simp only [SetTable.fits,qtC,beq_iff_eq] at this
  exact this.1
 unfold setNext
 refine qbA (qpC g S.data S.fit (qbA (Dw ?_)));dsimp only
 rw [hb,if_neg qzB]
 refine wpAny_ite_split (fun hab=>?_) fun _=>?_
 ·have q:(!t.plain && decide (es.size > 1))=true:=hab
  rw [qtC,decide_eq_true_eq] at q
  rcases hd with e|e
  ·rw [e] at q;exact absurd q.1 (by simp)
  ·omega
 ·refine qbA ?_
  show wpAny _ _ (if (!t.led && !es.isEmpty)=true then unsupported "set:maker-not-led" else pure ()) _ _ _
  rw [S.led,hb]
  simp only [Bool.not_false,Bool.not_true,Bool.false_and,Bool.false_eq_true,if_false]
  refine qcA (qcA ?_)
  rw [below_slP S.rt (by rw [hps];exact hi)]
  rcases Nat.lt_or_eq_of_le hi with hl|hl
  ·have e1:es[i]? = some es[i]:=Array.getElem?_eq_getElem hl
   have e2:t.place[i]? = some (t.place.getD i 0):=by
    have:i<t.place.size:=by rw [hps];exact hl
    simp [Array.getD,this]
   rw [e1] at h ⊢
   rw [e2]
   exact h
  ·have e1:es[i]? = none:=Array.getElem?_eq_none (by omega)
   rw [e1] at h ⊢
   exact h
theorem draw_order {α:Type}{Q:List α->Shared->Prop}:∀ (xs:List α) (s:Shared),(∀ ys d,ys.Perm xs->Q ys { s with drawn:=d })->wpAny (model prog w) A (drawOrder xs.length xs) Q E s:=by
 intro xs
 generalize hn:xs.length=n
 induction n generalizing xs Q with
 | zero =>
  intro s h
  have:xs=[]:=List.eq_nil_of_length_eq_zero hn
  subst this
  unfold drawOrder
  exact qcA (h [] s.drawn .rfl)
 | succ n ih =>
  intro s h
  match xs,hn with
  | x::r,hn =>
   unfold drawOrder
   refine qbA (wp_choose (by simp) fun i d hi=>?_)
   rw [qwA hi]
   dsimp only
   refine qbA (ih _ (by rw [List.length_eraseIdx_of_lt hi];omega) _ fun ys d' hp=>qcA (h _ d' ?_))
   exact (hp.cons _).trans (erase_perm hi)
theorem iter_walk {Q:Value->Shared->Prop}(sa:SAt w s.heap a es ep t ks)
  (h:∀ (s':Shared) (I:Addr) (xs:Array (Int × Value)) (fp:List Addr) (St:Nat->Heap->Prop),xs.toList.Perm es.toList->(∀ b o,s.heap.get? b=some o->s'.heap.get? b=some o)->s'.gens=s.gens->s'.os=s.os->s'.toks=s.toks ->
   s.heap.objs.size<=I->(∀ b∈fp,b<s'.heap.objs.size/\(b=a\/s.heap.objs.size<=b))->(∀ A':Around,A'.handled=none->Walks prog w A' I fp [I] es.size (fun i v=>∃ e,xs[i]? = some e/\e.2=v) St)->St 0 s'.heap->Q (.ref I) s') :
  wpAny (model prog w) A (pyIter (.ref a)) Q E s:=by
 obtain ⟨o,g,S⟩:=id sa
 have la:a<s.heap.objs.size:=qqB g
 have hT:s.TypeIs (.ref a) "set" := ⟨o,g,S.exact'.1⟩
 refine wpAny_pyIter_slot hT F.slot_set_iter (qoC F.slot_set_iter hT entry_s_iter ?_ (F.args_set_iter_1 _))
 unfold Builtin.«frozenset.__iter__» Builtin.Frozenset.slot0 Builtin.Frozenset.sizeOf
 refine qbA (qbA (qcA (qcA ?_)))
 refine qbA (qbA (wpAny_setEntries_of g S.data S.fit (qcA ?_)))
 refine qbA ?_
 unfold setDrawn
 refine qbA (qpC g S.data S.fit (qbA (Dw (qcA ?_))))
 have fin:∀ (d:Drawn) (sl:Nat->Nat) (xs:Array (Int × Value)),sl 0=0->xs.size=es.size->xs.toList.Perm es.toList ->
   (∀ (i:Nat) (s:Shared) (A':Around) (E':Value->Shared->Prop) (Q':Option (Value × Nat)->Shared->Prop),SAt w s.heap a es ep t ks->i<=es.size->Q' ((xs[i]?).map fun e=>(e.2,sl (i+1))) s->wpAny (model prog w) A' (setNext a (sl i) i ep) Q' E' s) ->
   wpAny (model prog w) A.in1 (setEpoch a >>= fun e=>newFields "set_iterator" [rawInt 0,rawInt 0,.ref a,rawInt es.size,rawInt e] >>= fun v=>ret v) (fun fin s'=>∃ v,fin = .done (.ret v)/\∃ T' r,s'.TypeIs v T'/\typeLookup (.type T') "__next__" = pure (some r)/\Q v s') E { s with drawn:=d }:=by
  intro d sl xs e0 ex hp nx
  refine qbA (wpAny_setEpoch_of g S.data S.fit (qbA (wpAny_newObj_type (qcA ⟨_,rfl,"set_iterator",_,⟨_,qsB _ rfl,rfl⟩,slot_si_next.lookup,?_⟩))))
  refine h { s with drawn:=d,heap:=s.heap.push { cls:=.type "set_iterator",data:=.fields #[rawInt 0,rawInt 0,.ref a,rawInt es.size,rawInt ep] } } s.heap.objs.size xs [s.heap.objs.size,a] _ hp (fun b o e=>qrB _ e) rfl rfl rfl (qkB _) (fun b hb=>?_) (fun A' hh=>walk_int (qjC la) sl ex nx hh) ?_
  ·show b<(s.heap.push _).objs.size/\_
   rw [size_push']
   rcases qnA.mp hb with e|e
   ·rw [e];exact ⟨Nat.lt_succ_self _,.inr (qkB _)⟩
   ·rw [qqA.mp e];exact ⟨Nat.lt_succ_of_lt la,.inl rfl⟩
  ·refine ⟨⟨_,qsB _ rfl,rfl,?_⟩,sa.at fun o e=>qrB _ e⟩
   rw [e0];rfl
 dsimp only
 have hps:t.place.size=es.size:=by
  have:=S.fit
  simp only [SetTable.fits,qtC,beq_iff_eq] at this
  exact this.1
 have fewE:es.size<=sizeLine:=Eu (by rw [S.size];exact S.few)
 refine wpAny_ite_split (fun hab=>?_) (fun hab=>?_)
 ·have key:=draw_order (prog:=prog) (w:=w) (A:=A.in1) (E:=E) (List.range es.size) s (Q:=fun ys s'=>wpAny (model prog w) A.in1 (newTuple (ys.map fun (i:Nat)=>rawInt i) >>= fun first=>setEpoch a >>= fun e=>newFields "set_iterator" [first,rawInt 0,.ref a,rawInt es.size,rawInt e] >>= fun v=>ret v) (fun fin s'=>∃ v,fin = .done (.ret v)/\∃ T' r,s'.TypeIs v T'/\typeLookup (.type T') "__next__" = pure (some r)/\Q v s') E s') fun ys d hp=>?_
  ·rw [qjA] at key
   exact qbA key
  ·have hl:ys.length=es.size:=by rw [hp.length_eq,qjA]
   have hlt:∀ p∈ys,p<es.size:=fun p h=>qtA.mp (hp.mem_iff.mp h)
   refine qbA (wpAny_newTuple ?_ (by rw [qfA,hl];exact fewE))
   have gt:(s.heap.push (seqObj "tuple" (ys.map fun (i:Nat)=>rawInt i).toArray 0)).get? s.heap.objs.size=some (seqObj "tuple" (ys.map fun (i:Nat)=>rawInt i).toArray 0):=qsB _ rfl
   refine qbA (wpAny_setEpoch_of (s:={ s with drawn:=d,heap:=s.heap.push (seqObj "tuple" (ys.map fun (i:Nat)=>rawInt i).toArray 0) }) (qrB _ g) S.data S.fit (qbA (wpAny_newObj_type (qcA ⟨_,rfl,"set_iterator",_,⟨_,qsB _ rfl,rfl⟩,slot_si_next.lookup,?_⟩))))
   have z1:(s.heap.push (seqObj "tuple" (ys.map fun (i:Nat)=>rawInt i).toArray 0)).objs.size=s.heap.objs.size+1:=size_push' _ _
   have W:∀ A':Around,A'.handled=none->Walks prog w A' (s.heap.objs.size+1) [s.heap.objs.size+1,a,s.heap.objs.size] [s.heap.objs.size+1] es.size (fun i v=>∃ e,(ys.filterMap (es[·]?)).toArray[i]? = some e/\e.2=v) (fun i h=>SIter h (s.heap.objs.size+1) (.ref s.heap.objs.size) i a es.size ep/\SAt w h a es ep t ks/\TupAt h s.heap.objs.size ys):=fun A' hh=>by
    have W0:=walk_drawn (prog:=prog) (w:=w) (A:=A') (I:=s.heap.objs.size+1) (a:=a) (T:=s.heap.objs.size) (es:=es) (ep:=ep) (t:=t) (ks:=ks) (qjC (Nat.lt_succ_of_lt la)) (qjC (Nat.lt_succ_self _)) ys hl hlt hh
    refine ⟨W0.sub,W0.frame,fun i s Q E hi st hQ=>W0.item i s Q E hi st fun v h' tk hP=>hQ v h' tk ?_,W0.done,W0.self⟩
    obtain ⟨p,e,h1,h2,h3⟩:=hP
    refine ⟨e,?_,h3⟩
    have:∀ (l:List Nat) (i:Nat),(∀ p∈l,p<es.size)->(l.filterMap (es[·]?))[i]? = (l[i]?).bind (es[·]?):=by
     intro l
     induction l with
     | nil=>intro i _;simp
     | cons q l ih =>
      intro i hq
      have lq:q<es.size:=hq q qrA
      have e0:es[q]? = some es[q]:=Array.getElem?_eq_getElem lq
      rw [List.filterMap_cons_some e0]
      cases i with
      | zero=>simp [e0]
      | succ i=>simpa using ih i fun p hp=>hq p (qsA _ hp)
    rw [List.getElem?_toArray,this ys i hlt,h1]
    show es[p]? = some e
    exact h2
   show Q (.ref (s.heap.push (seqObj "tuple" (ys.map fun (i:Nat)=>rawInt i).toArray 0)).objs.size) _
   rw [z1]
   refine h { s with drawn:=d,heap:=(s.heap.push (seqObj "tuple" (ys.map fun (i:Nat)=>rawInt i).toArray 0)).push { cls:=.type "set_iterator",data:=.fields #[.ref s.heap.objs.size,rawInt 0,.ref a,rawInt es.size,rawInt ep] } } (s.heap.objs.size+1) _ _ _ ?_ (fun b o e=>qrB _ (qrB _ e)) rfl rfl rfl (Nat.le_succ _) (fun b hb=>?_) W ?_
   ·show (ys.filterMap (es[·]?)).Perm es.toList
    exact (hp.filterMap _).trans (by rw [filterMap_getElem?_range])
   ·show b<((s.heap.push _).push _).objs.size/\_
    rw [size_push',size_push']
    rcases qnA.mp hb with e|e
    ·rw [e];exact ⟨Nat.lt_succ_self _,.inr (Nat.le_succ _)⟩
    ·rcases qnA.mp e with e|e
     ·rw [e];exact ⟨Nat.lt_succ_of_lt (Nat.lt_succ_of_lt la),.inl rfl⟩
     ·rw [qqA.mp e];exact ⟨Nat.lt_succ_of_lt (Nat.lt_succ_self _),.inr (qkB _)⟩
   ·refine ⟨⟨{ cls:=.type "set_iterator",data:=.fields #[.ref s.heap.objs.size,rawInt 0,.ref a,rawInt es.size,rawInt ep] },?_,rfl,rfl⟩,sa.at fun o e=>qrB _ (qrB _ e),⟨_,_,qrB _ gt,rfl⟩⟩
    rw [<- z1]
    exact qsB _ rfl
 ·refine qbA (qcA ?_)
  cases hb:byT w with
  | true=>exact fin s.drawn (fun _=>0) (pickOrder (w.params.setOrder a ep) es) rfl (by rw [<- qiC,(pick_perm _ es).length_eq,qiC]) (pick_perm _ es) fun i s' A' E' Q' sa' hi q=>nxt_text hb sa' q
  | false =>
   have hd:t.plain=true\/es.size<=1:=by
    have q:¬ (!byT w && (!t.plain && decide (es.size > 1)))=true:=hab
    rw [hb] at q
    cases hp:t.plain with
    | true=>exact .inl rfl
    | false =>
     rw [hp] at q
     simp at q
     exact .inr q
   exact fin s.drawn (slP t) es rfl rfl .rfl fun i s' A' E' Q' sa' hi q=>nxt_place hb hd sa' hi q
end
section
variable {prog:Program}{w:World}{A:Around}{E:Value->Shared->Prop}{s:Shared}{a:Addr}{es:Array (Int × Value)}{ep:Nat}{t:SetTable}{ks:List Key}
theorem hint_set (hT:s.TypeIs (.ref a) "set"){Q:Bool->Shared->Prop}(h:Q false s):wpAny (model prog w) A (Builtin.List.listLengthHint (.ref a)) Q E s:=by
 unfold Builtin.List.listLengthHint
 refine qbA (wpAny_specialOf hT PySem.F.slot_set_len.lookup ?_)
 generalize hid:("set.__len__" : String)=id0
 wp_delta
 rw [show splitId id0=some ("set","__len__") from by subst hid;decide +kernel]
 subst hid
 refine qbA (wpAny_isInstance (T := "set") (b:=true) hT (by rw [isSubtype_type];kernel_rfl) ?_);refine wpAny_ite_split (fun hab=>absurd hab (by decide)) (fun _=>?_)
 refine wpAny_ite_split (fun _=>?_) (fun hab=>absurd (by decide +kernel) hab);exact qbA (wpAny_typeOf hT (qcA h))
def Gz (vs:List Value)(ks:List Key):Prop:=Paired (fun v k=>DN k v=true) vs ks
theorem keysAre_of {w:World}{ps:Array (Int × Value)}{es:Array (Int × Value)}{ks:List Key}{acc:Array Value}(hp:ps.toList.Perm es.toList)(he:Paired (Ent w) es.toList ks)(hi:ItemsOf (fun i v=>∃ e,ps[i]? = some e/\e.2=v) acc es.size) :
  ∃ ks',ks'.Perm ks/\Gz acc.toList ks':=by
 obtain ⟨ks',e1,p1⟩:=DY hp he
 refine ⟨ks',e1,?_⟩
 have e2:acc.toList=ps.toList.map (·.2):=by
  apply List.ext_getElem?
  intro i
  rw [Array.getElem?_toList,qaB,Array.getElem?_toList]
  have hz:acc.size=es.size:=hi.1
  have hz2:ps.size=es.size:=by rw [<- qiC,hp.length_eq,qiC]
  by_cases hl:i<es.size
  ·have h1:acc[i]? = some (acc[i]'(by omega)):=Array.getElem?_eq_getElem (by omega)
   obtain ⟨e,h2,h3⟩:=hi.2 i _ h1
   rw [h1,h2,<- h3]
   rfl
  ·rw [Array.getElem?_eq_none (by omega),Array.getElem?_eq_none (by omega)]
   rfl
 rw [e2]
 have:∀ {l:List (Int × Value)}{ks:List Key},Paired (Ent w) l ks->Gz (l.map (·.2)) ks:=by
  intro l ks p
  induction p with
  | nil=>exact .nil
  | cons h _ ih=>exact .cons h.1 ih
 exact this p1
theorem collect_set {R:List Value->Shared->Prop}(hh:A.handled=none)(sa:SetP w s.heap a ks)
  (h:∀ (s':Shared) (vs:List Value) (ks':List Key),(∀ b o,s.heap.get? b=some o->s'.heap.get? b=some o)->s'.gens=s.gens->s'.os=s.os->s.heap.objs.size<=s'.heap.objs.size->ks'.Perm ks->Gz vs ks'->R vs s') :
  wpAny (model prog w) A (collect (.ref a)) R E s:=by
 obtain ⟨ks0,⟨o,es,ep,t,g,S⟩,ek⟩:=sa
 have la:a<s.heap.objs.size:=qqB g
 have hn:es.size<=sizeLine:=Eu (by rw [S.size];exact S.few)
 unfold collect
 refine qbA (wpAny_runValue (codeAny_builtin entry_proto_collect' ?_));rw [Around.under_plainId PySem.F.plain_proto_collect _]
 show wpAny _ A.in1 (newList [] >>= fun l=>again (.builtin "list.__iadd__" ⟨[l,.ref a],[]⟩)) _ _ s;refine qbA (wpAny_newObj_type ?_)
 refine qcA ⟨plainId_quiet PySem.F.plain_list_iadd _,codeAny_builtin entry_list_iadd' ?_⟩;rw [Around.under_plainId PySem.F.plain_list_iadd _]
 have gL:(s.heap.push { cls:=.type "list",data:=.seq ([]:List Value).toArray }).get? s.heap.objs.size=some { cls:=.type "list",data:=.seq #[] }:=qsB _ rfl
 have zL:(s.heap.push { cls:=.type "list",data:=.seq ([]:List Value).toArray }).objs.size=s.heap.objs.size+1:=size_push' _ _
 show wpAny _ A.in1 (Builtin.List.listExtendWith (.ref s.heap.objs.size) (.ref a) (.ref s.heap.objs.size)) _ _ _
 have gA:(s.heap.push { cls:=.type "list",data:=.seq ([]:List Value).toArray }).get? a=some o:=qrB _ g
 have hTa:Shared.TypeIs { s with heap:=s.heap.push { cls:=.type "list",data:=.seq ([]:List Value).toArray } } (.ref a) "set" := ⟨o,gA,S.exact'.1⟩
 unfold Builtin.List.listExtendWith
 refine qbA (wpAny_typeOf (T := "set") hTa ?_)
 have ne:s.heap.objs.size≠a:=qsC la
 have h1:Builtin.List.listSameRef (.ref s.heap.objs.size) (.ref a)=false:=by simp [Builtin.List.listSameRef,ne]
 have h2:(Value.type "set" == Value.type "list")=false:=by decide
 have h3:(Value.type "set" == Value.type "tuple")=false:=by decide
 simp only [h1,h2,h3,Bool.or_false,Bool.false_eq_true,if_false]
 refine qbA (iter_walk (s:={ s with heap:=s.heap.push { cls:=.type "list",data:=.seq ([]:List Value).toArray } }) ⟨o,gA,S⟩ fun s1 I ps fp St hp hk eg eo et lI hfp W st=>?_)
 have gL1:s1.heap.get? s.heap.objs.size=some { cls:=.type "list",data:=.seq #[] }:=hk _ _ gL
 have nL:s.heap.objs.size ∉ fp:=fun hm=>by
  rcases (hfp _ hm).2 with q|q
  ·exact ne q
  ·exact absurd q (by show ¬ (s.heap.push _).objs.size<=_;rw [zL];exact Nat.not_succ_le_self _)
 have hTa1:s1.TypeIs (.ref a) "set" := ⟨o,hk _ _ gA,S.exact'.1⟩
 refine qbA (qeA (hint_set hTa1 ?_))
 have key:∀ (hp':Heap) (c₁:Nat),St 0 hp'->(∀ b o,b≠s.heap.objs.size->s1.heap.get? b=some o->hp'.get? b=some o)->hp'.get? s.heap.objs.size=some { cls:=.type "list",data:=.seq #[] c₁ } ->
   codeAny (model prog w) A (.builtin "list.extend.loop" ⟨[.ref s.heap.objs.size,.ref I,.ref s.heap.objs.size],[]⟩) (fun x s'=>∃ acc c',x = .ok (.ret (.ref s.heap.objs.size))/\(∀ b o,s.heap.get? b=some o->s'.heap.get? b=some o)/\s'.gens=s.gens/\s'.os=s.os /\
    s'.heap.get? s.heap.objs.size=some { cls:=.type "list",dict:=none,data:=.seq acc c',slots:=#[] }/\ItemsOf (fun i v=>∃ e,ps[i]? = some e/\e.2=v) acc es.size) { s1 with heap:=hp' }:=by
  intro hp' c₁ st' hk' gL'
  refine codeAny_extend_loopS (W A.in1 hh).toS hn s.heap.objs.size nL _ es.size 0 _ #[] c₁ rfl (qrC _) st' gL' (ItemsOf.nil _) fun s' acc c' hm gL'' hi=>?_
  refine ⟨acc,c',rfl,fun b o e=>?_,hm.gens.trans eg,hm.os.trans eo,gL'',hi⟩
  have lb:b<s.heap.objs.size:=qqB e
  refine hm.heap b o (fun hmem=>?_) (hk' b o (qjC lb) (hk b o (qrB _ e)))
  rcases qnA.mp hmem with q|q
  ·exact absurd q (qjC lb)
  ·have q:=qqA.mp q
   have lI':s.heap.objs.size+1<=I:=by rw [<- zL];exact lI
   rw [q] at lb
   exact absurd lb (Nat.not_lt.mpr (Nat.le_of_succ_le lI'))
 have last:∀ (x:Result) (s':Shared),(∃ acc c',x = .ok (.ret (.ref s.heap.objs.size))/\(∀ b o,s.heap.get? b=some o->s'.heap.get? b=some o)/\s'.gens=s.gens/\s'.os=s.os /\
   s'.heap.get? s.heap.objs.size=some { cls:=.type "list",dict:=none,data:=.seq acc c',slots:=#[] }/\ItemsOf (fun i v=>∃ e,ps[i]? = some e/\e.2=v) acc es.size)->∃ v,x = .ok (.ret v)/\wpAny (model prog w) A (match v with
   | Value.ref a=>do
    match (<- load a).data with
     | Data.seq xs _=>pure xs.toList
     | _=>unsupported "internal:collect"
   | _=>unsupported "internal:collect") R E s':=by
  intro x s' q
  obtain ⟨acc,c',rfl,k1,k2,k3,k4,k5⟩:=q
  refine ⟨_,rfl,?_⟩
  show wpAny _ A (load s.heap.objs.size >>= _) _ _ _;refine qbA (wpAny_load k4 (qcA ?_))
  obtain ⟨ks',e1,e2⟩:=keysAre_of hp S.ent k5
  exact h s' acc.toList ks' k1 k2 k3 (Nat.le_of_lt (qqB k4)) (e1.trans ek) e2
 refine wpAny_ite_split (fun _=>?_) (fun _=>?_)
 ·refine qbA (qdA (qbA ?_))
  show wpAny _ _ (updateSeq s.heap.objs.size (·.push .none) >>= fun _=>updateSeq s.heap.objs.size (·.pop)) _ _ _
  refine qbA (wpAny_updateSeq gL1 rfl ?_)
  have gL2:=Heap.get?_update_self (Obj.mapSeq (·.push Value.none)) gL1 rfl
  refine wpAny_updateSeq (hz:=by seq_fits) gL2 rfl ?_
  have gL3:=Heap.get?_update_self (Obj.mapSeq (·.pop)) gL2 rfl
  refine qcA ⟨plainId_quiet PySem.F.plain_extend_loop _,codeAny_mono (key _ _ ?_ (fun b o hb e=>?_) gL3) fun x s' q=>?_⟩
  ·refine (W A.in1 hh).frame 0 _ _ st fun b hb o e=>?_
   have hbS:b≠s.heap.objs.size:=fun q=>nL (q ▸ hb)
   exact (Heap.get?_update_other _ _ (Ne.symm hbS)).trans ((Heap.get?_update_other _ _ (Ne.symm hbS)).trans e)
  ·exact (Heap.get?_update_other _ _ (Ne.symm hb)).trans ((Heap.get?_update_other _ _ (Ne.symm hb)).trans e)
  ·obtain ⟨v,rfl,q'⟩:=last x s' q
   exact q'
 ·refine qcA ⟨plainId_quiet PySem.F.plain_extend_loop _,codeAny_mono (key s1.heap 0 st (fun b o _ e=>e) gL1) fun x s' q=>?_⟩
  obtain ⟨v,rfl,q'⟩:=last x s' q
  exact q'
theorem intsK {ns:List Int}:∀ {vs:List Value},Gz vs (ns.map Sum.inl)->IntsAre vs ns:=by
 induction ns with
 | nil=>intro vs p;cases p;exact .nil
 | cons n ns ih =>
  intro vs p
  cases p with
  | cons h r =>
   rcases BH h with ⟨i,t,e,rfl⟩ | ⟨x,t,e,rfl⟩
   ·cases e;exact .cons _ _ (ih r)
   ·cases e
theorem strsK {ss:List Str}:∀ {vs:List Value},Gz vs (ss.map Sum.inr)->StrsAre vs ss:=by
 induction ss with
 | nil=>intro vs p;cases p;exact .nil
 | cons n ns ih =>
  intro vs p
  cases p with
  | cons h r =>
   rcases BH h with ⟨i,t,e,rfl⟩ | ⟨x,t,e,rfl⟩
   ·cases e
   ·cases e;exact .cons _ _ (ih r)
theorem perm_map_inv {α:Type}{f:α->Key}:∀ {l:List α}{ks:List Key},ks.Perm (l.map f)->∃ l':List α,l'.Perm l/\ks=l'.map f:=by
 have:∀ {ks ks':List Key},ks'.Perm ks->∀ {l:List α},ks'=l.map f->∃ l':List α,l'.Perm l/\ks=l'.map f:=by
  intro ks ks' hp
  induction hp with
  | nil=>intro l e;exact ⟨l,.rfl,e⟩
  | cons x _ ih =>
   intro l e
   match l,e with
   | y::l,e =>
    rw [qcB] at e
    injection e with e1 e2
    obtain ⟨l',h1,h2⟩:=ih e2
    exact ⟨y::l',h1.cons _,by rw [qcB,<- h2,e1]⟩
  | swap x y _ =>
   intro l e
   match l,e with
   | a::b::l,e =>
    simp only [qcB,List.cons.injEq] at e
    obtain ⟨e1,e2,e3⟩:=e
    exact ⟨b::a::l,List.Perm.swap _ _ _,by simp [e1,e2,e3]⟩
  | trans _ _ ih1 ih2 =>
   intro l e
   obtain ⟨l1,h1,h2⟩:=ih1 e
   obtain ⟨l2,h3,h4⟩:=ih2 h2
   exact ⟨l2,h3.trans h1,h4⟩
 intro l ks hp
 exact this hp.symm rfl
theorem sorted_setI {ns:List Int}{Q:Value->Shared->Prop}(hh:A.handled=none)(sa:SetP w s.heap a (ns.map Sum.inl))(h64:ns.length<64)
  (h:∀ (s':Shared) (D n:Nat) (out:Array Value) (ns':List Int),(∀ b o,s.heap.get? b=some o->s'.heap.get? b=some o)->s'.gens=s.gens->s'.os=s.os->s.heap.objs.size<=D->s'.heap.get? D=some (seqObj "list" out n)->IntsAre out.toList ns'->ns'.Perm ns->ns'.Pairwise (· <= ·)->Q (.ref D) s') :
  wpAny (model prog w) A (call (.builtin "sorted") [.ref a]) Q E s:=by
 refine Calls.call_function_entry kind_sorted plain_sorted entry_sorted (args_sorted1 _) ?_;unfold Builtin.«sorted»
 refine qbA (m:=checkCount "sorted" 1 1 _) (qcA (qbA (collect_set (A:=A.in1) hh sa fun s1 vs ks' hk eg eo ez ep kv=>?_)))
 obtain ⟨ns1,p1,rfl⟩:=perm_map_inv ep
 have hi:=intsK kv
 have hl:vs.length<64:=by rw [hi.length,p1.length_eq];exact h64
 refine qbA (wpAny_newList ?_ (by rw [qtB];omega))
 have gD:(s1.heap.push (seqObj "list" vs.toArray 0)).get? s1.heap.objs.size=some (seqObj "list" vs.toArray 0):=qsB _ rfl
 refine qbA (qeA (qoC slot_list_sort ⟨_,gD,rfl⟩ entry_list_sort (list_sort_tree (s:={ s1 with heap:=s1.heap.push (seqObj "list" vs.toArray 0) }) gD hi hl fun out ns' a1 a2 a3=>⟨_,rfl,?_⟩) (args_list_sort _)))
 have lD:∀ b o,s.heap.get? b=some o->b<s1.heap.objs.size:=fun b o e=>qqB (hk b o e)
 obtain ⟨n,gO⟩:∃ n,(sortedHeap (s1.heap.push (seqObj "list" vs.toArray 0)) s1.heap.objs.size vs out).get? s1.heap.objs.size=some (seqObj "list" out n):=sortedHeap_at gD
 refine qcA ⟨_,rfl,h _ s1.heap.objs.size n out ns' (fun b o e=>?_) eg eo ?_ gO a1 (a2.trans p1) a3⟩
 ·have lb:=lD b o e
  refine (sortedHeap_old (qjC lb) (by rw [size_push'];exact Nat.lt_succ_of_lt lb)).trans (qrB _ (hk b o e))
 ·exact ez
theorem sorted_setS {ns:List Str}{Q:Value->Shared->Prop}(hh:A.handled=none)(sa:SetP w s.heap a (ns.map Sum.inr))(h64:ns.length<64)
  (h:∀ (s':Shared) (D n:Nat) (out:Array Value) (ns':List Str),(∀ b o,s.heap.get? b=some o->s'.heap.get? b=some o)->s'.gens=s.gens->s'.os=s.os->s.heap.objs.size<=D->s'.heap.get? D=some (seqObj "list" out n)->StrsAre out.toList ns'->ns'.Perm ns->sortedS ns'=true->Q (.ref D) s') :
  wpAny (model prog w) A (call (.builtin "sorted") [.ref a]) Q E s:=by
 refine Calls.call_function_entry kind_sorted plain_sorted entry_sorted (args_sorted1 _) ?_;unfold Builtin.«sorted»
 refine qbA (m:=checkCount "sorted" 1 1 _) (qcA (qbA (collect_set (A:=A.in1) hh sa fun s1 vs ks' hk eg eo ez ep kv=>?_)))
 obtain ⟨ns1,p1,rfl⟩:=perm_map_inv ep
 have hi:=strsK kv
 have hl:vs.length<64:=by
  have:vs.length=ns1.length:=by
   have:=Co kv
   rwa [qfA] at this
  rw [this,p1.length_eq]
  exact h64
 refine qbA (wpAny_newList ?_ (by rw [qtB];omega))
 have gD:(s1.heap.push (seqObj "list" vs.toArray 0)).get? s1.heap.objs.size=some (seqObj "list" vs.toArray 0):=qsB _ rfl
 refine qbA (qeA (qoC slot_list_sort ⟨_,gD,rfl⟩ entry_list_sort (list_sort_treeK (s:={ s1 with heap:=s1.heap.push (seqObj "list" vs.toArray 0) }) strKind_oneLt gD hi.keysOf (fun v₁ v₂ rest e=>keyKind_strs (by rw [<- e];exact hi)) hl fun st' b1 b2=>⟨_,rfl,?_⟩) (args_list_sort _)))
 obtain ⟨ns',a1,a2,a3⟩:=sorted_out_str hi b1 b2
 have lD:∀ b o,s.heap.get? b=some o->b<s1.heap.objs.size:=fun b o e=>qqB (hk b o e)
 obtain ⟨n,gO⟩:∃ n,(sortedHeap (s1.heap.push (seqObj "list" vs.toArray 0)) s1.heap.objs.size vs ((arrOf st').map (·.2))).get? s1.heap.objs.size=some (seqObj "list" ((arrOf st').map (·.2)) n):=sortedHeap_at gD
 refine qcA ⟨_,rfl,h _ s1.heap.objs.size n _ ns' (fun b o e=>?_) eg eo ez gO a1 (a2.trans p1) a3⟩
 have lb:=lD b o e
 exact (sortedHeap_old (qjC lb) (by rw [size_push'];exact Nat.lt_succ_of_lt lb)).trans (qrB _ (hk b o e))
end
def FY (w:World)(p:Addr)(ks:List Key):HO:=.ext fun h=>SetP w h p ks
theorem setO_ok {P:Program}{w:World}{H:Hp}{h:Heap}{p:Addr}{ks:List Key}(x:SetP w h p ks):ObjOk P w H h p (FY w p ks):=by
 refine ⟨x,?_,fun h1 h2 a b=>a.at b⟩
 obtain ⟨_,⟨o,_,_,_,g,_⟩,_⟩:=x
 exact ⟨o,g⟩
theorem setO_get {P:Program}{w:World}{H:Hp}{h:Heap}{p:Addr}{ks:List Key}(x:HOk P w H h)(e:H p=some (FY w p ks)):SetP w h p ks:=(x p _ e).1
section
variable {X:Cx}{pins:List (Addr × Obj)}{σ:List (Option V)}{H:Hp}{s s':Shared}
theorem Inv.same (I:Inv X pins σ H s)(e1:s'.heap=s.heap)(e2:s'.gens=s.gens)(e3:s'.os=s.os):Inv X pins σ H s':=by
 obtain ⟨h,g,d,t,o⟩:=s
 obtain ⟨h',g',d',t',o'⟩:=s'
 dsimp only at e1 e2 e3
 subst e1;subst e2;subst e3
 exact ⟨I.ok,I.os,I.bare,I.base,I.loc,I.cell,I.free,I.freeC,I.pin,I.hok,I.len⟩
theorem Inv.laid' {a:Addr}{o:HO}(I:Inv X pins σ H s)(k:∀ b u,s.heap.get? b=some u->s'.heap.get? b=some u)(hp:s.heap.objs.size<=a)(new:ObjOk X.prog X.w (upd H a o) s'.heap a o)(e2:s'.gens=s.gens)(e3:s'.os=s.os) :
  Inv X pins σ (upd H a o) s':=(I.laid (t':=s.toks) k hp new).same rfl e2 e3
end
theorem rel_key:∀ {k:Key}{u:Value},RelV (kV k) u->DN k u=true
 | .inl i,u,h=>by obtain ⟨t,rfl⟩:=h;exact keyIs_int i t
 | .inr x,u,h=>by obtain ⟨t,rfl⟩:=h;exact keyIs_str x t
theorem vals_key {ks:List Key}:∀ {us:List Value},Vals (ks.map kV) us->∀ (i:Nat) (v:Value),us[i]? = some v->∃ k,ks[i]? = some k/\DN k v=true:=by
 induction ks with
 | nil=>intro us r i v e;cases r;cases e
 | cons k ks ih =>
  intro us r i v e
  rw [qcB] at r
  cases r with
  | cons h t=>cases i with
   | zero =>
    cases e
    exact ⟨k,rfl,rel_key h⟩
   | succ i=>exact ih t i v e
def rSetK (w:World)(K:FZ9):List V->Hp->VK->Prop:=fun vs H Q=>∃ (l:Addr) (ks:List Key),vs=[.ref l]/\SqL K H l (ks.map kV)/\ks.length<4000/\∀ p,H p=none->Q (.ref p) (upd H p (FY w p (Ee ks)))
theorem call_setL {X:Cx}{w:World}{K:FZ9}(hc:X.calm=true)(hw:X.w=w)(hK:X.K=K):EM X (.type "set") (rSetK w K):=by
 subst hK
 subst hw
 intro pins s σ H vs us Q I r h
 obtain ⟨l,ks,rfl,hl,hz,q⟩:=h
 obtain ⟨u,rfl,ru⟩:=Fz r
 cases ru
 obtain ⟨its,rv,pl,_⟩:=I.list hl
 have hlen:=rv.length
 rw [qfA] at hlen
 have il:=pl.isList
 refine call_set_src (val:=ks) (T := "list") (I.ok.hd hc) (src_list il) (fun s1 k=>(il.at fun o e=>k _ _ e).typeIs) PySem.F.sub_list_set PySem.F.sub_list_frozenset (by decide) ?_ (fun i v e=>vals_key rv i v (by rw [List.getElem?_toArray] at e;exact e)) ?_ fun h' tk hS hk=>?_
 ·rw [qaC];exact hlen
 ·rw [qaC,<- hlen];unfold scanBound;omega
 ·exact ⟨.ref s.heap.objs.size,_,I.laid' (s':={ s with heap:=h',toks:=tk }) (fun b o e=>hk b o e) (qkB _) (setO_ok hS) rfl rfl,rfl,q _ (I.hok.fresh (qkB _))⟩
def rSetSg (w:World):List V->Hp->VK->Prop:=fun vs H Q=>∃ x:Str,vs=[.str x]/\x.length<4000/\∀ p,H p=none->Q (.ref p) (upd H p (FY w p (Ee ((Bv x).map Sum.inr))))
theorem call_setS {X:Cx}{w:World}(hc:X.calm=true)(hw:X.w=w):EM X (.type "set") (rSetSg w):=by
 subst hw
 intro pins s σ H vs us Q I r h
 obtain ⟨x,rfl,hz,q⟩:=h
 obtain ⟨u,rfl,ru⟩:=Fz r
 obtain ⟨t,rfl⟩:=ru
 have e0:(Bv x).length=x.cps.size:=by unfold Bv;rw [qfA,qiC]
 refine call_set_src (val:=(Bv x).map Sum.inr) (T := "str") (I.ok.hd hc) src_str (fun s1 k=>rfl) sub_str_set sub_str_frz (by decide) ?_ (fun i v e=>?_) ?_ fun h' tk hS hk=>?_
 ·rw [qfA];exact e0
 ·obtain ⟨c,u,hc,rfl⟩:=e
  refine ⟨.inr ⟨#[c]⟩,?_,keyIs_str _ _⟩
  unfold Bv
  rw [qaB,qaB,Array.getElem?_toList,hc]
  rfl
 ·have:x.cps.size<4000:=hz
  unfold scanBound;omega
 ·exact ⟨.ref s.heap.objs.size,_,I.laid' (s':={ s with heap:=h',toks:=tk }) (fun b o e=>hk b o e) (qkB _) (setO_ok hS) rfl rfl,rfl,q _ (I.hok.fresh (qkB _))⟩
def leZ (a b:Int):Bool:=decide (a<=b)
def HZ (ys:List Int):List Int:=ys.mergeSort leZ
theorem sortZ_of {ss ss':List Int}(hp:ss'.Perm ss)(hs:ss'.Pairwise (· <= ·)):ss'=HZ ss:=by
 refine List.Perm.eq_of_pairwise (le:=fun a b=>leZ a b=true) (fun a b _ _ h1 h2=>Int.le_antisymm (of_decide_eq_true h1) (of_decide_eq_true h2)) (hs.imp fun h=>decide_eq_true h) (List.pairwise_mergeSort (le:=leZ) (fun a b c h1 h2=>decide_eq_true (Int.le_trans (of_decide_eq_true h1) (of_decide_eq_true h2))) (fun a b=>?_) ss) (hp.trans (List.mergeSort_perm ss leZ).symm)
 unfold leZ
 rcases Int.le_total a b with h|h<;>simp [h]
theorem vals_ints':∀ {vs:List Value}{ss:List Int},IntsAre vs ss->Vals (ss.map V.int) vs
 | _,_,.nil=>.nil
 | _,_,.cons x t r=>.cons ⟨t,rfl⟩ (vals_ints' r)
def rSortPS (w:World):List V->Hp->VK->Prop:=fun vs H Q=>∃ (l:Addr) (ys:List Str),vs=[.ref l]/\H l=some (FY w l (ys.map Sum.inr))/\ys.length<64/\∀ p,H p=none->Q (.ref p) (upd H p (.lst ((GA ys).map V.str)))
theorem call_sortPS {X:Cx}{w:World}(hc:X.calm=true)(hw:X.w=w):EM X (.builtin "sorted") (rSortPS w):=by
 subst hw
 intro pins s σ H vs us Q I r h
 obtain ⟨l,ys,rfl,hl,h64,q⟩:=h
 obtain ⟨u,rfl,ru⟩:=Fz r
 cases ru
 refine sorted_setS (I.ok.hd hc) (setO_get I.hok hl) h64 fun s' D n out ns' hk eg eo lD gD a1 a2 a3=>?_
 have e:=sortS_of a2 a3
 subst e
 refine ⟨.ref D,_,I.laid' (o:=.lst ((GA ys).map V.str)) hk lD ⟨?_,out.toList,n,vals_strs a1,gD⟩ eg eo,rfl,q _ (I.hok.fresh lD)⟩
 rw [qfA,(BQ ys).length_eq,qtB]
 omega
def rSortPI (w:World):List V->Hp->VK->Prop:=fun vs H Q=>∃ (l:Addr) (ys:List Int),vs=[.ref l]/\H l=some (FY w l (ys.map Sum.inl))/\ys.length<64/\∀ p,H p=none->Q (.ref p) (upd H p (.lst ((HZ ys).map V.int)))
theorem call_sortPI {X:Cx}{w:World}(hc:X.calm=true)(hw:X.w=w):EM X (.builtin "sorted") (rSortPI w):=by
 subst hw
 intro pins s σ H vs us Q I r h
 obtain ⟨l,ys,rfl,hl,h64,q⟩:=h
 obtain ⟨u,rfl,ru⟩:=Fz r
 cases ru
 refine sorted_setI (I.ok.hd hc) (setO_get I.hok hl) h64 fun s' D n out ns' hk eg eo lD gD a1 a2 a3=>?_
 have e:=sortZ_of a2 a3
 subst e
 refine ⟨.ref D,_,I.laid' (o:=.lst ((HZ ys).map V.int)) hk lD ⟨?_,out.toList,n,vals_ints' a1,gD⟩ eg eo,rfl,q _ (I.hok.fresh lD)⟩
 rw [qfA,show (HZ ys).length=ys.length from (List.mergeSort_perm ys leZ).length_eq,qtB]
 omega
def HM {α:Type}[DecidableEq α](ks:List α)(k:α):List α:=if ks.any (fun y=>decide (y=k)) then ks else ks++[k]
def DL {α:Type}[DecidableEq α](ks:List α):List α:=ks.foldl HM []
theorem addA_map {α:Type}[DecidableEq α]{f:α->Key}(hf:∀ a b,f a=f b->a=b)(ks:List α)(k:α):FS (ks.map f) (f k)=(HM ks k).map f:=by
 have e:(ks.map f).any (fun y=>decide (y=f k))=ks.any (fun y=>decide (y=k)):=by
  rw [List.any_map]
  congr 1
  funext y
  show decide (f y=f k)=decide (y=k)
  by_cases h:y=k
  ·rw [h,decide_eq_true rfl,decide_eq_true rfl]
  ·rw [decide_eq_false h,decide_eq_false (fun q=>h (hf _ _ q))]
 unfold FS HM
 rw [e]
 split
 ·rfl
 ·rw [qdB];rfl
theorem De {α:Type}[DecidableEq α]{f:α->Key}(hf:∀ a b,f a=f b->a=b)(ks:List α):Ee (ks.map f)=(DL ks).map f:=by
 have:∀ (ks acc:List α),(ks.map f).foldl FS (acc.map f)=(ks.foldl HM acc).map f:=by
  intro ks
  induction ks with
  | nil=>intro acc;rfl
  | cons k ks ih=>intro acc;rw [qcB,qqC,qqC,addA_map hf,ih]
 exact this ks []
theorem inr_inj (a b:Str)(h:(Sum.inr a:Key)=Sum.inr b):a=b:=Sum.inr.inj h
theorem Go (a b:Int)(h:(Sum.inl a:Key)=Sum.inl b):a=b:=Sum.inl.inj h
def sortSetS (ys:List Str):Option (List Str):=if ys.length<4000/\(DL ys).length<64 then some (GA (DL ys)) else none
theorem mem_addA {α:Type}[DecidableEq α]{ks:List α}{k x:α}:x∈HM ks k ↔ x∈ks\/x=k:=by
 unfold HM
 split
 ·rename_i h
  obtain ⟨y,hy,e⟩:=List.any_eq_true.mp h
  have e:=of_decide_eq_true e
  constructor
  ·exact .inl
  ·rintro (h|rfl)
   ·exact h
   ·exact e ▸ hy
 ·rw [qmA,qqA]
theorem mem_dedA {α:Type}[DecidableEq α]{ks:List α}{x:α}:x∈DL ks ↔ x∈ks:=by
 have:∀ (ks acc:List α),x∈ks.foldl HM acc ↔ x∈acc\/x∈ks:=by
  intro ks
  induction ks with
  | nil=>intro acc;simp
  | cons k ks ih=>intro acc;rw [qqC,ih,mem_addA,qnA,or_assoc]
 rw [DL,this]
 simp
theorem nodup_dedA {α:Type}[DecidableEq α](ks:List α):(DL ks).Nodup:=by
 have:∀ (ks acc:List α),acc.Nodup->(ks.foldl HM acc).Nodup:=by
  intro ks
  induction ks with
  | nil=>intro acc h;exact h
  | cons k ks ih =>
   intro acc h
   rw [qqC]
   refine ih _ ?_
   unfold HM
   split
   ·exact h
   ·rename_i hn
    refine qgB.mpr ⟨h,by simp,fun a ha b hb e=>hn ?_⟩
    rw [qqA] at hb
    exact List.any_eq_true.mpr ⟨a,ha,decide_eq_true (e.trans hb)⟩
 exact this ks [] List.nodup_nil
section
variable {K:FZ9}{σ:St}{G:Hp}{ta tb:TE}{w:World}
theorem strs_keys (a:List Str):a.map V.str=(a.map (Sum.inr:Str->Key)).map kV:=by rw [List.map_map];rfl
theorem strs_rel {G2:Hp}(zs:List Str)(h:∀ y∈zs,y.length<=sizeLine):Paired (Rp.rel K G2) (zs.map V.str) zs:=by
 induction zs with
 | nil=>exact .nil
 | cons y zs ih=>exact .cons ⟨rfl,h y qrA⟩ (ih fun w hw=>h w (qsA _ hw))
theorem fv_sortSetS {la:Option (List Str)}(ea:EV K ta σ G la):FV K (tCB (rSortPS w) (AQ (tCB (rSetK w K) (AQ ta BL)) BL)) σ G (la.bind fun ys=>sortSetS ys):=by
 intro G1 s1 c hc H sH Q k
 obtain ⟨a,ha,hc⟩:=qaA.mp hc
 obtain ⟨⟨h4,h64⟩,rfl⟩:=Ay hc
 refine ea G1 s1 a ha H sH _ fun v G2 H2 x2 r2=>?_
 obtain ⟨l,xs,rfl,h,z,p⟩:=r2
 have e:=Fp p
 subst e
 refine ⟨l,a.map Sum.inr,rfl,?_,by rw [qfA];exact h4,fun q hq=>?_⟩
 ·rw [<- strs_keys];exact .inl (x2.gh.rd h)
 ·rw [De inr_inj]
  refine ⟨q,DL a,rfl,AJ,h64,?_⟩
  have x3:Ext G2 H2 G2 (upd H2 q (FY w q ((DL a).map Sum.inr))):=.own x2.gh hq
  refine fv_of x3.gh ?_ (strs_rel _ fun y hy=>paired_len p y (mem_dedA.mp ((BQ _).mem_iff.mp hy))) (FV.mono (x2.trans x3) k)
  rw [qfA,(BQ _).length_eq,qtB]
  omega
end
def lcg:Nat->Nat->Nat
 | 0,x=>x
 | n+1,x=>lcg n (5 * x+1)
def Hd:Nat->Nat
 | 0=>0
 | n+1=>Hd n+5 ^ n
theorem lcg_eq:∀ n x,lcg n x=5 ^ n * x+Hd n
 | 0,x=>by simp [lcg,Hd]
 | n+1,x=>by
  rw [lcg,lcg_eq n,Hd,Nat.pow_succ]
  grind
theorem lcg_add:∀ m n x,lcg (m+n) x=lcg n (lcg m x)
 | 0,n,x=>by rw [Nat.zero_add];rfl
 | m+1,n,x=>by
  have e:m+1+n=(m+n)+1:=by omega
  rw [e,lcg,lcg,lcg_add m n]
theorem sumP_add (m:Nat):∀ n,Hd (m+n)=Hd m+5 ^ m * Hd n
 | 0=>by simp [Hd]
 | n+1=>by
  rw [<- Nat.add_assoc,Hd,Hd,sumP_add m n,Nat.pow_add]
  grind
theorem pow5:∀ k:Nat,(∃ d,5 ^ (2 ^ k)=1+4 * 2 ^ k * d)/\∃ e,Hd (2 ^ k)=2 ^ k+2 * 2 ^ k * e
 | 0=>⟨⟨1,rfl⟩,⟨0,rfl⟩⟩
 | k+1=>by
  obtain ⟨⟨d,hd⟩,⟨e,he⟩⟩:=pow5 k
  have e2:2 ^ (k+1)=2 ^ k+2 ^ k:=by rw [Nat.pow_succ];omega
  refine ⟨⟨d+2 * 2 ^ k * d * d,?_⟩,⟨e+2 ^ k * d+2 * e * 2 ^ k * d,?_⟩⟩
  ·rw [e2,Nat.pow_add,hd]
   generalize 2 ^ k=q
   grind
  ·rw [e2,sumP_add,hd,he]
   generalize 2 ^ k=q
   grind
theorem lcg_turn (k x:Nat):∃ c,lcg (2 ^ k) x=x+2 ^ k+2 * 2 ^ k * c:=by
 obtain ⟨⟨d,hd⟩,⟨e,he⟩⟩:=pow5 k
 refine ⟨2 * d * x+e,?_⟩
 rw [lcg_eq,hd,he]
 generalize 2 ^ k=q
 grind
theorem lcg_reach:∀ k x j:Nat,∃ n,n<2 ^ k/\lcg n x % 2 ^ k=j % 2 ^ k
 | 0,x,j=>⟨0,by simp,by simp [Nat.mod_one]⟩
 | k+1,x,j=>by
  obtain ⟨n,hn,e⟩:=lcg_reach k x j
  have e2:2 ^ (k+1)=2 ^ k * 2:=Nat.pow_succ 2 k
  have hq:0<2 ^ k:=Nat.two_pow_pos k
  obtain ⟨c,hc⟩:=lcg_turn k (lcg n x)
  generalize hy:lcg n x=y at e hc
  generalize 2 ^ k=q at e2 hq hn e hc
  have hM:∀ z,z % (q * 2)=z % q+q * (z / q % 2):=fun z=>Nat.mod_mul
  have h2:(y+q+2 * q * c) % (q * 2)=(y+q) % (q * 2):=by
   rw [show y+q+2 * q * c=y+q+q * 2 * c by rw [Nat.mul_comm 2 q],Nat.add_mul_mod_self_left]
  have hdiv:(y+q) / q=y / q+1:=Nat.add_div_right y hq
  have hmod:(y+q) % q=y % q:=Nat.add_mod_right y q
  rw [e2]
  by_cases hc2:y / q % 2=j / q % 2
  ·exact ⟨n,by omega,by rw [hy,hM,hM,e,hc2]⟩
  ·refine ⟨n+q,by omega,?_⟩
   have:∀ u:Nat,lcg (n+q) x=u->u % (q * 2)=j % (q * 2)->lcg (n+q) x % (q * 2)=j % (q * 2):=fun u h1 h3=>by rw [h1];exact h3
   rw [lcg_add,hy,hc,h2,hM,hM,hmod,hdiv,e]
   have:(y / q+1) % 2=j / q % 2:=by omega
   rw [this]
def Di (mask:Nat):Nat->Nat × Nat->Nat × Nat
 | 0,p=>p
 | n+1,p=>Di mask n (SetTable.leap mask p.1 p.2)
theorem leaps_add (mask:Nat):∀ m n p,Di mask (m+n) p=Di mask n (Di mask m p)
 | 0,n,p=>by rw [Nat.zero_add];rfl
 | m+1,n,p=>by
  have e:m+1+n=(m+n)+1:=by omega
  rw [e,Di,Di,leaps_add mask m n]
theorem leaps_snd (mask:Nat):∀ n p,(Di mask n p).2=p.2 / 32 ^ n
 | 0,p=>by simp [Di]
 | n+1,p=>by
  rw [Di,leaps_snd mask n]
  show p.2 / 32 / 32 ^ n=_
  rw [Nat.div_div_eq_div_mul,Nat.pow_succ,Nat.mul_comm]
theorem leaps_fst_lt {mask:Nat}:∀ n p,p.1<mask+1->(Di mask n p).1<mask+1
 | 0,p,h=>h
 | n+1,p,h=>by
  rw [Di]
  exact leaps_fst_lt n _ (Nat.mod_lt _ (Nat.succ_pos _))
theorem leaps_lcg {mask:Nat}:∀ n i,i<mask+1->(Di mask n (i,0)).1=lcg n i % (mask+1)
 | 0,i,h=>(Nat.mod_eq_of_lt h).symm
 | n+1,i,h=>by
  rw [Di,lcg]
  have e:SetTable.leap mask i 0=((i * 5+1) % (mask+1),0):=by unfold SetTable.leap;simp
  show (Di mask n (SetTable.leap mask i 0)).1=_
  rw [e,leaps_lcg n _ (Nat.mod_lt _ (Nat.succ_pos _))]
  rw [lcg_eq,lcg_eq,Nat.add_mod,Nat.mul_mod,Nat.mod_mod,<- Nat.mul_mod,<- Nat.add_mod,Nat.mul_comm i 5]
theorem leaps_reach {mask k:Nat}(hm:mask+1=2 ^ k){i p j:Nat}(hi:i<mask+1)(hp:p<2 ^ 64)(hj:j<mask+1):∃ n,n<mask+15/\(Di mask n (i,p)).1=j:=by
 have h0:(Di mask 13 (i,p)).2=0:=by
  rw [leaps_snd]
  exact Nat.div_eq_of_lt (qmC hp (by decide))
 have h1:=leaps_fst_lt (mask:=mask) 13 (i,p) hi
 generalize hx:Di mask 13 (i,p)=x at h0 h1
 obtain ⟨a,b⟩:=x
 dsimp only at h0 h1
 subst h0
 obtain ⟨n,hn,e⟩:=lcg_reach k a j
 refine ⟨13+n,by omega,?_⟩
 rw [leaps_add,hx,leaps_lcg n a h1,hm,e,<- hm]
 exact Nat.mod_eq_of_lt hj
theorem free_reach (mask:Nat)(owner:Array (Option Nat)):∀ n fuel i p,n<fuel->(owner.getD (Di mask n (i,p)).1 (some 0)).isNone=true->∃ j,SetTable.layClean.free mask owner fuel i p=some j/\(owner.getD j (some 0)).isNone=true:=by
 intro n
 induction n with
 | zero =>
  intro fuel i p h e
  obtain ⟨fuel,rfl⟩:∃ f,fuel=f+1:=⟨fuel - 1,by omega⟩
  unfold SetTable.layClean.free
  cases hf:(List.range (SetTable.runEnd mask i+1 - i)).find? fun k=>(owner.getD (i+k) (some 0)).isNone with
  | some k=>exact ⟨i+k,rfl,by have:=List.find?_some hf;exact this⟩
  | none =>
   have h0:0∈List.range (SetTable.runEnd mask i+1 - i):=by
    rw [qtA]
    unfold SetTable.runEnd
    split<;>omega
   have:=List.find?_eq_none.mp hf 0 h0
   rw [Nat.add_zero] at this
   exact absurd e this
 | succ n ih =>
  intro fuel i p h e
  obtain ⟨fuel,rfl⟩:∃ f,fuel=f+1:=⟨fuel - 1,by omega⟩
  unfold SetTable.layClean.free
  cases hf:(List.range (SetTable.runEnd mask i+1 - i)).find? fun k=>(owner.getD (i+k) (some 0)).isNone with
  | some k=>exact ⟨i+k,rfl,by have:=List.find?_some hf;exact this⟩
  | none =>
   dsimp only
   rw [Di] at e
   exact ih fuel _ _ (by omega) e
theorem bits_lt (h:Int):SetTable.bits h<2 ^ 64:=by
 unfold SetTable.bits
 have h1:=qxB h (show (2 ^ 64:Int)≠0 by decide)
 have h2:=qyB h (show (0:Int)<2 ^ 64 by decide)
 omega
structure LaidTo (mask n:Nat)(ow:Array (Option Nat)):Prop where
 size:ow.size=mask+1
 perm:(ow.toList.filterMap id).Perm (List.range n)
theorem fm_set:∀ (l:List (Option Nat)) (j k:Nat) (h:j<l.length),l[j]=none->((l.set j (some k)).filterMap id).Perm (k::l.filterMap id):=by
 intro l
 induction l with
 | nil=>intro j k h;exact absurd h (Nat.not_lt_zero _)
 | cons x l ih =>
  intro j k h e
  cases j with
  | zero =>
   have e:x=none:=e
   subst e
   exact .rfl
  | succ j =>
   have q:=ih j k (by simpa using h) (by simpa using e)
   rw [List.set_cons_succ]
   cases x with
   | none=>exact q
   | some y =>
    show (y::(l.set j (some k)).filterMap id).Perm (k::y::l.filterMap id)
    exact (q.cons y).trans (List.Perm.swap _ _ _)
theorem fm_len:∀ l:List (Option Nat),(l.filterMap id).length<l.length->∃ j,∃ h:j<l.length,l[j]=none:=by
 intro l
 induction l with
 | nil=>intro h;exact absurd h (Nat.not_lt_zero _)
 | cons x l ih =>
  intro h
  cases x with
  | none=>exact ⟨0,Nat.succ_pos _,rfl⟩
  | some y =>
   obtain ⟨j,hj,e⟩:=ih (by
    have h:(y::l.filterMap id).length<(some y::l).length:=h
    simp only [qhA] at h
    omega)
   exact ⟨j+1,by simpa using hj,e⟩
theorem lay_go {mask k:Nat}(hm:mask+1=2 ^ k):∀ (hs:List Int) (ow:Array (Option Nat)) (n:Nat),LaidTo mask n ow->n+hs.length<=mask ->
  ∃ ow',(hs.foldl (init:=some (ow,n)) fun acc h=>do
   let (owner,k) <- acc
   let j <- SetTable.layClean.free mask owner (SetTable.turns mask) (SetTable.bits h % (mask+1)) (SetTable.bits h)
   pure (owner.setIfInBounds j (some k),k+1))=some (ow',n+hs.length)/\LaidTo mask (n+hs.length) ow':=by
 intro hs
 induction hs with
 | nil=>intro ow n L _;exact ⟨ow,rfl,L⟩
 | cons h hs ih =>
  intro ow n L hn
  rw [qhA] at hn
  have hlen:(ow.toList.filterMap id).length=n:=by rw [L.perm.length_eq,qjA]
  obtain ⟨j0,hj0,e0⟩:=fm_len ow.toList (by rw [hlen,qiC,L.size];omega)
  rw [qiC] at hj0
  have e0':ow.getD j0 (some 0)=none:=by simp only [Array.getD,hj0,dite_true];simpa using e0
  obtain ⟨m,hm1,hm2⟩:=leaps_reach hm (i:=SetTable.bits h % (mask+1)) (p:=SetTable.bits h) (j:=j0) (Nat.mod_lt _ (Nat.succ_pos _)) (bits_lt h) (by rw [<- L.size];exact hj0)
  obtain ⟨j,hf,hj⟩:=free_reach mask ow m (SetTable.turns mask) (SetTable.bits h % (mask+1)) (SetTable.bits h) hm1 (by rw [hm2,e0'];rfl)
  have hjl:j<ow.size:=by
   rcases Nat.lt_or_ge j ow.size with q|q
   ·exact q
   ·have:ow.getD j (some 0)=some 0:=by simp [Array.getD,Nat.not_lt.mpr q]
    rw [this] at hj;cases hj
  have hjn:ow.toList[j]'(by simpa using hjl)=none:=by
   have:ow.getD j (some 0)=ow[j]:=by simp [Array.getD,hjl]
   rw [this,Option.isNone_iff_eq_none] at hj
   simpa using hj
  have L':LaidTo mask (n+1) (ow.setIfInBounds j (some n)):=by
   refine ⟨by rw [Array.size_setIfInBounds];exact L.size,?_⟩
   rw [Array.toList_setIfInBounds]
   refine (fm_set _ j n (by simpa using hjl) hjn).trans ((L.perm.cons n).trans ?_)
   rw [List.range_succ]
   exact (List.perm_append_singleton n _).symm
  obtain ⟨ow',e1,e2⟩:=ih _ (n+1) L' (by omega)
  refine ⟨ow',?_,?_⟩
  ·rw [qqC]
   simp only [Option.bind_eq_bind,Option.bind_some,hf,Option.pure_def] at e1 ⊢
   rw [e1,qhA]
   congr 2
   omega
  ·rw [qhA,show n+(hs.length+1)=n+1+hs.length by omega];exact e2
theorem lay_ok {mask k:Nat}(hm:mask+1=2 ^ k)(hs:Array Int)(hn:hs.size<=mask):∃ ow,SetTable.layClean mask hs=some ow/\LaidTo mask hs.size ow:=by
 have L0:LaidTo mask 0 (Array.replicate (mask+1) none):=by
  refine ⟨Array.size_replicate,?_⟩
  rw [Array.toList_replicate]
  have:∀ n,(List.replicate n (none:Option Nat)).filterMap id=[]:=fun n=>by
   induction n with
   | zero=>rfl
   | succ n ih=>rw [List.replicate_succ,List.filterMap_cons_none rfl,ih]
  rw [this]
  exact .rfl
 obtain ⟨ow,e1,e2⟩:=lay_go hm hs.toList _ 0 L0 (by rw [qiC];omega)
 rw [Nat.zero_add,qiC] at e1 e2
 refine ⟨ow,?_,e2⟩
 unfold SetTable.layClean
 rw [<- Array.foldl_toList]
 rw [e1]
 rfl
theorem laid_ok {mask k finger moves:Nat}{led plain:Bool}(hm:mask+1=2 ^ k)(hs:Array Int)(hn:hs.size<=mask) :
  ∃ t order,SetTable.laid mask finger moves led plain hs=some (t,order)/\order.toList.Perm (List.range hs.size)/\t.place.size=hs.size:=by
 obtain ⟨ow,e,L⟩:=lay_ok hm hs hn
 have hl:∀ (l:List (Option Nat)) (d:Nat) (f:Nat->Option Nat),(∀ i,i<l.length->f (d+i)=l.getD i none)->(((List.range' d l.length).filterMap fun j=>(f j).map (j,·)).map (·.2))=l.filterMap id:=by
  intro l
  induction l with
  | nil=>intro d f _;rfl
  | cons x l ih =>
   intro d f hf
   rw [qhA,List.range'_succ]
   have h0:=hf 0 (Nat.succ_pos _)
   rw [Nat.add_zero] at h0
   have h0:f d=x:=h0
   have ih':=ih (d+1) f fun i hi=>by
    have:=hf (i+1) (by rw [qhA];omega)
    rw [show d+1+i=d+(i+1) by omega,this]
    rfl
   cases x with
   | none=>rw [List.filterMap_cons_none (by rw [h0];rfl),ih'];rfl
   | some y=>rw [List.filterMap_cons_some (b:=(d,y)) (by rw [h0];rfl),qcB,ih'];rfl
 have e2:(((List.range (mask+1)).filterMap fun j=>(ow.getD j none).map (j,·)).map (·.2))=ow.toList.filterMap id:=by
  have:=hl ow.toList 0 (fun j=>ow.getD j none) fun i hi=>by
   rw [Nat.zero_add]
   simp [Array.getD,List.getD]
   split<;>simp_all
  rw [qiC,L.size] at this
  rw [<- this,List.range_eq_range']
 refine ⟨_,_,by unfold SetTable.laid;rw [e];rfl,?_,?_⟩
 ·show (((List.range (mask+1)).filterMap fun j=>(ow.getD j none).map (j,·)).map (·.2)).Perm _
  rw [e2]
  exact L.perm
 ·show ((((List.range (mask+1)).filterMap fun j=>(ow.getD j none).map (j,·)).map (·.1)).toArray).size=_
  rw [qaC,qfA]
  have:=congrArg List.length e2
  rw [qfA,L.perm.length_eq,qjA] at this
  exact this
theorem size_above_go:∀ fuel (size n:Nat),(∃ k,size=2 ^ k)->0<size->n<size * 2 ^ fuel->(∃ k,SetTable.sizeAbove.go n fuel size=2 ^ k)/\n<SetTable.sizeAbove.go n fuel size:=by
 intro fuel
 induction fuel with
 | zero=>intro size n h _ hn;exact ⟨h,by show n<size;simpa using hn⟩
 | succ fuel ih =>
  intro size n h hp hn
  unfold SetTable.sizeAbove.go
  split
  ·obtain ⟨k,rfl⟩:=h
   exact ih _ _ ⟨k+1,by rw [Nat.pow_succ]⟩ (by omega) (by rw [Nat.pow_succ] at hn;rw [Nat.mul_assoc,Nat.mul_comm 2];exact hn)
  ·rename_i q
   exact ⟨h,by omega⟩
theorem size_above {n:Nat}(h:n<2 ^ 60):(∃ k,SetTable.sizeAbove n=2 ^ k)/\n<SetTable.sizeAbove n :=
 size_above_go 64 8 n ⟨3,rfl⟩ (by decide) (qmC h (by decide))
def Pw (t:SetTable):Prop:=∃ k,t.mask+1=2 ^ k
def SetM (w:World)(h:Heap)(a:Addr)(ks:List Key):Prop:=∃ o es ep t,h.get? a=some o/\SObj w o es ep t ks/\(ks=[]->Pw t)
theorem SetM.is {w:World}{h:Heap}{a:Addr}{ks:List Key}(x:SetM w h a ks):SetIs w h a ks:=by
 obtain ⟨o,es,ep,t,g,S,_⟩:=x
 exact ⟨o,es,ep,t,g,S⟩
theorem SetM.of {w:World}{h:Heap}{a:Addr}{ks:List Key}(x:SetIs w h a ks)(hn:ks ≠ []):SetM w h a ks:=by
 obtain ⟨o,es,ep,t,g,S⟩:=x
 exact ⟨o,es,ep,t,g,S,fun e=>absurd e hn⟩
theorem fresh_m {w:World}{h:Heap}{a:Addr}(g:h.get? a=some (Bf w)):SetM w h a []:=by
 obtain ⟨o,es,ep,t,g',S⟩:=fresh_is g
 rw [g] at g'
 cases g'
 refine ⟨_,es,ep,t,g,S,fun _=>⟨3,?_⟩⟩
 have:=S.data
 cases this
 rfl
section
variable {prog:Program}{w:World}{A:Around}{E:Value->Shared->Prop}{s:Shared}
theorem fills {t:SetTable}{n:Nat}(h:t.fits n=true)(r:RT t):t.fill=n/\t.place.size=n:=by
 simp only [SetTable.fits,qtC,beq_iff_eq] at h
 refine ⟨?_,h.1⟩
 unfold SetTable.fill
 rw [h.1,r.dum]
 rfl
theorem reord {es:Array (Int × Value)}{order:Array Nat}(hp:order.toList.Perm (List.range es.size)):(order.filterMap (es[·]?)).toList.Perm es.toList/\(order.filterMap (es[·]?)).size=es.size:=by
 have h1:(order.filterMap (es[·]?)).toList.Perm es.toList:=by
  rw [Array.toList_filterMap]
  exact (hp.filterMap _).trans (by rw [filterMap_getElem?_range])
 exact ⟨h1,by rw [<- qiC,h1.length_eq,qiC]⟩
theorem relay_ok {a:Addr}{ks:List Key}{wanted:Nat}{Q:Unit->Shared->Prop}(x:SetIs w s.heap a ks)(hw:ks.length<=wanted)(hb:wanted<100000)
  (h:∀ h' ks',Heap.SameBut a s.heap h'->ks'.Perm ks->(∃ o es ep t,h'.get? a=some o/\SObj w o es ep t ks'/\Pw t/\wanted<=t.mask)->Q () { s with heap:=h' }):wpAny (model prog w) A (setRelay a wanted) Q E s:=by
 obtain ⟨o,es,ep,t,g,S⟩:=x
 obtain ⟨⟨k,hk⟩,hlt⟩:=size_above (n:=wanted) (qmC hb (by decide))
 have hk1:SetTable.sizeAbove wanted - 1+1=2 ^ k:=by omega
 have hsz:es.size=ks.length:=S.size
 unfold setRelay
 refine qbA (qpC g S.data S.fit ?_);dsimp only
 have hup:SetTable.sizeAbove wanted<=sizeLine:=by
  have:∀ fuel size,size<=2 * wanted+8->SetTable.sizeAbove.go wanted fuel size<=2 * wanted+8:=by
   intro fuel
   induction fuel with
   | zero=>intro size h;exact h
   | succ fuel ih =>
    intro size h
    unfold SetTable.sizeAbove.go
    split
    ·exact ih _ (by omega)
    ·exact h
  have:=this 64 8 (by omega)
  rw [qtB]
  unfold SetTable.sizeAbove
  omega
 rw [if_neg (Nat.not_lt.mpr hup)]
 obtain ⟨t',order,e1,e2,e3⟩:=laid_ok (mask:=SetTable.sizeAbove wanted - 1) (finger:=t.finger) (moves:=t.movedTo (SetTable.sizeAbove wanted - 1)) (led:=t.led) (plain:=t.plain) hk1 (es.map (·.1)) (by rw [Array.size_map,hsz];omega)
 rw [Array.size_map] at e2 e3
 obtain ⟨r1,r2⟩:=reord e2
 obtain ⟨q1,q2,q3,q4⟩:=laid_rt e1
 have e1':t.relaid (es.map (·.1)) wanted=some (t',order):=e1
 rw [e1']
 refine qbA ?_
 show wpAny _ _ (if ((order.filterMap (es[·]?)).size != es.size)=true then unsupported "internal:set-table-lost-an-element" >>= fun _=>pure (order.filterMap (es[·]?),t') else pure (order.filterMap (es[·]?),t')) _ _ _
 rw [if_neg (by rw [r2];simp)]
 refine qcA ?_
 dsimp only
 obtain ⟨ks',p1,p2⟩:=DY r1 S.ent
 have few':ks'.length<scanBound:=by rw [p1.length_eq];exact S.few
 refine wpAny_storeSet_of g S.data ?_ (Eu (by rw [r2,hsz];exact S.few))
 have g1:=FR (es':=order.filterMap (es[·]?)) (t':=t') g S.data
 refine h _ ks' (Heap.SameBut.update s.heap a _) p1 ⟨_,_,_,_,g1,⟨S.exact',rfl,p2,few',?_,q1,q2.trans S.led⟩,⟨k,by rw [q4];exact hk1⟩,by rw [q4];omega⟩
 simp only [SetTable.fits,SetTable.fill,q1.dum,e3,r2,q4,qtC,beq_iff_eq,decide_eq_true_eq]
 refine ⟨trivial,?_⟩
 show es.size+(#[]:Array Nat).size<=_
 simp only [qaC,List.length_nil]
 omega
theorem room_ok {a:Addr}{ks:List Key}{more:Nat}{Q:Unit->Shared->Prop}(x:SetM w s.heap a ks)(hb:ks.length+more<4096)
  (h:∀ h' ks',Heap.SameBut a s.heap h'->ks'.Perm ks->(∃ o es ep t,h'.get? a=some o/\SObj w o es ep t ks'/\(ks'=[]->Pw t/\more<=t.mask))->Q () { s with heap:=h' }):wpAny (model prog w) A (setRoomFor a more) Q E s:=by
 obtain ⟨o,es,ep,t,g,S,pw⟩:=x
 unfold setRoomFor
 refine qbA (qpC g S.data S.fit ?_);dsimp only
 obtain ⟨f1,f2⟩:=fills S.fit S.rt
 have hsz:es.size=ks.length:=S.size
 unfold SetTable.roomFor
 by_cases hc:(t.fill+more) * 5>=t.mask * 3
 ·rw [if_pos hc]
  dsimp only
  refine relay_ok ⟨o,es,ep,t,g,S⟩ (by rw [f2,hsz];omega) (by rw [f2,hsz];omega) fun h' ks' hs hp ⟨o',es',ep',t',g',S',pw',hm⟩=>h h' ks' hs hp ⟨o',es',ep',t',g',S',fun _=>⟨pw',by rw [f2] at hm;omega⟩⟩
 ·rw [if_neg hc]
  dsimp only
  refine qcA ?_
  have e:s = { s with heap:=s.heap }:=by cases s;rfl
  have q:=h s.heap ks (Heap.SameBut.refl a s.heap) .rfl ⟨o,es,ep,t,g,S,fun e=>⟨pw e,by omega⟩⟩
  rw [<- e] at q
  exact q
end
theorem ent_noref {w:World}{l:List (Int × Value)}{ks:List Key}(p:Paired (Ent w) l ks):∀ e∈l,∀ a,e.2 ≠ .ref a:=by
 induction p with
 | nil=>intro e he;cases he
 | cons h _ ih =>
  intro e he a
  rcases qnA.mp he with rfl|he
  ·rcases BH h.1 with ⟨i,t,_,q⟩ | ⟨x,t,_,q⟩<;>rw [q]<;>intro c<;>cases c
  ·exact ih e he a
section
variable {prog:Program}{w:World}{A:Around}{E:Value->Shared->Prop}{s:Shared}
theorem quiet_one {a:Addr}{ks:List Key}(x:SetIs w s.heap a ks){β γ:Type}{b0:β}{f:(Int × Value)->β->Sem (ForInStep β)}{k:β->Sem γ}(hf:∀ e b,(∀ a,e.2 ≠ .ref a)->f e b=pure (.yield b0)){Q:γ->Shared->Prop}(h:wpAny (model prog w) A (k b0) Q E s) :
  wpAny (model prog w) A (setEntries a >>= fun es=>forIn es b0 f >>= k) Q E s:=by
 obtain ⟨o,es,ep,t,g,S⟩:=x
 refine qbA (wpAny_setEntries_of g S.data S.fit (qbA ?_))
 have hn:=ent_noref S.ent
 refine wpAny_forIn_array' f (fun l b s'=>(∀ e∈l,∀ a,e.2 ≠ .ref a)/\b=b0/\s'=s) _ (fun x rest b s' hI=>?_) (fun b s' hI=>by obtain ⟨_,rfl,rfl⟩:=hI;exact h) es b0 ⟨hn,rfl,rfl⟩
 obtain ⟨h1,rfl,rfl⟩:=hI
 rw [hf x b (h1 x qrA)]
 exact qcA ⟨fun e he=>h1 e (qsA _ he),rfl,rfl⟩
theorem quiet_ok {a b:Addr}{ka kb:List Key}(x:SetIs w s.heap a ka)(y:SetIs w s.heap b kb){Q:Bool->Shared->Prop}(h:Q true s):wpAny (model prog w) A (setsQuiet [a,b]) Q E s:=by
 unfold setsQuiet
 simp only [List.forIn_cons,List.forIn_nil]
 refine qbA (qbA (quiet_one x (fun e b hn=>?_) ?_))
 ·obtain ⟨i,v⟩:=e
  cases v<;>first|rfl|exact absurd rfl (hn _)
 ·refine qcA ?_
  dsimp only
  refine qbA (quiet_one y (fun e b hn=>?_) ?_)
  ·obtain ⟨i,v⟩:=e
   cases v<;>first|rfl|exact absurd rfl (hn _)
  ·exact qcA (qcA (qcA h))
theorem unseen_ok {o f:Addr}{eo:Array (Int × Value)}{po:Nat}{to:SetTable}{ko kf:List Key}(x:SAt w s.heap o eo po to ko)(y:SetIs w s.heap f kf)(ne:f≠o){Q:Array (Int × Value)->Shared->Prop}
  (h:∀ h' ps,ps.toList.Perm eo.toList->Heap.SameBut f s.heap h'->SetIs w h' f kf->Q ps { s with heap:=h' }):wpAny (model prog w) A (setWalkUnseen o [f] (some f)) Q E s:=by
 obtain ⟨ob,g,S⟩:=id x
 have hs:s = { s with heap:=s.heap }:=by cases s;rfl
 have base:∀ ps:Array (Int × Value),ps.toList.Perm eo.toList->Q ps s:=fun ps hp=>by
  have q:=h s.heap ps hp (Heap.SameBut.refl f s.heap) y
  rwa [<- hs] at q
 unfold setWalkUnseen
 refine qbA (qpC g S.data S.fit (qbA (Dw ?_)));dsimp only
 refine wpAny_ite_split (fun hc=>?_) (fun hc=>?_)
 ·unfold setWalk
  refine qbA (qpC g S.data S.fit (qbA (Dw ?_)))
  cases hb:byT w with
  | true =>
   rw [if_pos rfl]
   exact qbA (wpAny_askSetting (qcA (base _ (pick_perm _ eo))))
  | false =>
   rw [if_neg qzB]
   rw [hb] at hc
   have hc':((to.led && to.plain) || decide (eo.size<=1))=true:=by simpa using hc
   refine wpAny_ite_split (fun hab=>?_) fun _=>?_
   ·have q:(!to.plain && decide (eo.size > 1))=true:=hab
    rw [qtC,decide_eq_true_eq,Bool.not_eq_true'] at q
    rw [Bool.or_eq_true,qtC,decide_eq_true_eq,q.1] at hc'
    rcases hc' with h1|h1
    ·exact absurd h1.2 qzB
    ·omega
   ·refine qbA ?_
    show wpAny _ _ (if (!to.led && decide (eo.size > 1))=true then unsupported "set:maker-not-led" else pure ()) _ _ _
    rw [S.led,hb]
    simp only [Bool.not_false,Bool.not_true,Bool.false_and,Bool.false_eq_true,if_false]
    exact qcA (qcA (base eo .rfl))
 ·refine qbA (quiet_ok ⟨ob,eo,po,to,g,S⟩ y ?_)
  rw [if_neg (by simp)]
  refine qbA (qdA ?_)
  obtain ⟨of,ef,pf,tf,gf,F⟩:=y
  refine qbA (qpC gf F.data F.fit ?_);dsimp only
  refine wpAny_ite_split (fun _=>?_) (fun _=>qcA (base eo .rfl))
  refine qbA (wpAny_storeSet_of gf F.data ?_ (Eu (by rw [F.size];exact F.few)))
  have g1:=FR (es':=ef) (t':={ tf with led:=tf.led && to.led,plain:=tf.plain && to.plain }) gf F.data
  refine qcA (h _ eo .rfl (Heap.SameBut.update s.heap f _) ⟨_,ef,_,_,g1,⟨F.exact',rfl,F.ent,F.few,F.fit,⟨F.rt.ris,F.rt.dum⟩,?_⟩⟩)
  show (tf.led && to.led)=_
  rw [F.led,S.led]
  simp
end
theorem mem_addK {ks:List Key}{k x:Key}:x∈FS ks k ↔ x∈ks\/x=k:=by
 by_cases h:k∈ks
 ·rw [HE h]
  exact ⟨.inl,fun q=>q.elim id fun e=>e ▸ h⟩
 ·rw [GB h,qmA,qqA]
theorem nodup_addK {ks:List Key}{k:Key}(hn:ks.Nodup):(FS ks k).Nodup:=by
 by_cases h:k∈ks
 ·rw [HE h];exact hn
 ·rw [GB h]
  refine qgB.mpr ⟨hn,by simp,fun a ha b hb e=>h ?_⟩
  rw [qqA] at hb
  exact hb ▸ e ▸ ha
theorem Ev (ks:List Key):(Ee ks).Nodup:=by
 have:∀ (ks acc:List Key),acc.Nodup->(ks.foldl FS acc).Nodup:=by
  intro ks
  induction ks with
  | nil=>intro acc h;exact h
  | cons k ks ih=>intro acc h;exact ih _ (nodup_addK h)
 exact this ks [] List.nodup_nil
section
variable {prog:Program}{w:World}{A:Around}{E:Value->Shared->Prop}{s:Shared}
theorem merge_ok {a o:Addr}{ks ko:List Key}{each:Sem Unit}{Q:Unit->Shared->Prop}(x:SetM w s.heap a ks)(y:SetIs w s.heap o ko)(ne:a≠o)(n1:ks.Nodup)(n2:ko.Nodup)(hb:ks.length+ko.length+1<4096)
  (he:∀ (s':Shared) (Q':Unit->Shared->Prop),(∀ ob,s.heap.get? o=some ob->s'.heap.get? o=some ob)->Q' () s'->wpAny (model prog w) A each Q' E s')
  (h:∀ h' ks',Heap.SameBut a s.heap h'->SetM w h' a ks'->ks'.Nodup->(∀ k,k∈ks' ↔ k∈ks\/k∈ko)->Q () { s with heap:=h' }):wpAny (model prog w) A (setMerge a o each) Q E s:=by
 obtain ⟨oo,eo,po,to,go,O⟩:=y
 have hs:s = { s with heap:=s.heap }:=by cases s;rfl
 have zo:eo.size=ko.length:=O.size
 unfold setMerge
 rw [if_neg (by simpa using ne)]
 refine qbA (qpC go O.data O.fit ?_);dsimp only
 refine wpAny_ite_split (fun hem=>?_) (fun hem=>?_)
 ·have e0:ko=[]:=by
   rw [Array.isEmpty_iff] at hem
   apply List.eq_nil_of_length_eq_zero
   rw [<- zo,hem]
   rfl
  subst e0
  refine qcA ?_
  have q:=h s.heap ks (Heap.SameBut.refl a s.heap) x n1 (fun k=>by simp)
  rwa [<- hs] at q
 ·have hne:ko ≠ []:=fun e=>hem (by
   subst e
   rw [Array.isEmpty_iff]
   exact Array.eq_empty_of_size_eq_zero zo)
  refine qbA (room_ok x (by rw [zo];omega) fun h1 ks1 s1 p1 ⟨oa,ea,pa,ta,ga,Sa,pw⟩=>?_)
  have go1:h1.get? o=some oo:=(s1.2 o (Ne.symm ne)).trans go
  have O1:SAt w h1 o eo po to ko:=⟨oo,go1,O⟩
  refine qbA (qpC (s:={ s with heap:=h1 }) ga Sa.data Sa.fit ?_);dsimp only
  obtain ⟨f1,f2⟩:=fills Sa.fit Sa.rt
  have za:ea.size=ks1.length:=Sa.size
  have fin0:∀ (es:Array (Int × Value)) (t:SetTable) (k2:List Key),ks1=[]->k2.Perm ko->Paired (Ent w) es.toList k2->t.fits es.size=true->RT t->t.led=(!byT w)->wpAny (model prog w) A (storeSet a es t) Q E { s with heap:=h1 }:=by
   intro es t k2 e1 p2 pr ft rt ld
   have few2:k2.length<scanBound:=by rw [p2.length_eq];unfold scanBound;omega
   have z2:es.size=k2.length:=by have:=Co pr;rwa [qiC] at this
   refine wpAny_storeSet_of ga Sa.data ?_ (Eu (by rw [z2];exact few2))
   have g1:=FR (s:={ s with heap:=h1 }) (es':=es) (t':=t) ga Sa.data
   have ek:ks=[]:=by
    rw [e1] at p1
    exact List.Perm.eq_nil p1.symm
   refine h _ k2 (s1.trans (Heap.SameBut.update h1 a _)) (SetM.of ⟨_,es,_,t,g1,⟨Sa.exact',rfl,pr,few2,ft,rt,ld⟩⟩ ?_) (p2.nodup_iff.mpr n2) (fun k=>?_)
   ·intro e
    rw [e] at p2
    exact hne (List.Perm.eq_nil p2.symm)
   ·rw [p2.mem_iff,ek]
    simp
  cases hr:ta.road to with
  | slotForSlot =>
   dsimp only
   have hfz:ta.fill=0:=by
    unfold SetTable.road at hr
    split at hr
    ·cases hr
    ·rename_i q
     simpa using q
   have e1:ks1=[]:=List.eq_nil_of_length_eq_zero (by omega)
   refine fin0 eo _ ko e1 .rfl O.ent O.fit ⟨O.rt.ris,O.rt.dum⟩ ?_
   show (ta.led && to.led)=_
   rw [Sa.led,O.led]
   simp
  | clean =>
   dsimp only
   have hfz:ta.fill=0:=by
    unfold SetTable.road at hr
    split at hr
    ·cases hr
    ·rename_i q
     simpa using q
   have e1:ks1=[]:=List.eq_nil_of_length_eq_zero (by omega)
   obtain ⟨⟨k,hk⟩,hm⟩:=pw e1
   obtain ⟨t',order,l1,l2,l3⟩:=laid_ok (mask:=ta.mask) (finger:=ta.finger) (moves:=ta.moves) (led:=ta.led && to.led) (plain:=ta.plain && to.plain) hk (eo.map (·.1)) (by rw [Array.size_map];exact hm)
   rw [Array.size_map] at l2 l3
   obtain ⟨r1,r2⟩:=reord l2
   obtain ⟨q1,q2,q3,q4⟩:=laid_rt l1
   rw [l1]
   refine qbA ?_
   show wpAny _ _ (if ((order.filterMap (eo[·]?)).size != eo.size)=true then unsupported "internal:set-table-lost-an-element" >>= fun _=>pure (order.filterMap (eo[·]?),t') else pure (order.filterMap (eo[·]?),t')) _ _ _
   rw [if_neg (by rw [r2];simp)]
   refine qcA ?_
   dsimp only
   obtain ⟨k2,p2,pr⟩:=DY r1 O.ent
   refine fin0 _ t' k2 e1 p2 pr ?_ q1 ?_
   ·simp only [SetTable.fits,SetTable.fill,q1.dum,l3,r2,q4,qtC,beq_iff_eq,decide_eq_true_eq]
    refine ⟨trivial,?_⟩
    show eo.size+(#[]:Array Nat).size<=_
    simp only [qaC,List.length_nil]
    omega
   ·rw [q2,Sa.led,O.led]
    simp
  | oneByOne =>
   dsimp only
   refine qbA (unseen_ok (s:={ s with heap:=h1 }) O1 ⟨oa,ea,pa,ta,ga,Sa⟩ ne fun h2 ps pp s2 S2=>?_)
   obtain ⟨kp,pk,pr⟩:=DY pp O.ent
   have n1':ks1.Nodup:=p1.nodup_iff.mpr n1
   refine qbA (wpAny_forIn_array' _ (fun (l:List (Int × Value)) (b:PUnit) s'=>∃ h' kc kr,s' = { s with heap:=h' }/\Heap.SameBut a s.heap h'/\SetIs w h' a kc/\kc.Nodup/\Paired (Ent w) l kr/\(∀ k,(k∈kc\/k∈kr) ↔ k∈ks\/k∈ko)/\kc.length+kr.length<=ks.length+ko.length) _ (fun e rest b s' hI=>?_) (fun b s' hI=>?_) ps _ ?_)
   ·obtain ⟨h',kc,kr,rfl,sb,SC,nc,pl,mm,ll⟩:=hI
    cases pl with
    | cons he1 pl =>
     rename_i kk kr
     obtain ⟨hx,vx⟩:=e
     rw [qhA] at ll
     refine qbA (qeA ?_)
     have e1:hx=keyH w kk:=he1.2
     subst e1
     refine add_ok (s:={ s with heap:=h' }) he1.1 SC (by unfold scanBound;omega) fun h3 k3 s3 S3 p3 bb=>?_
     have sb3:Heap.SameBut a s.heap h3:=sb.trans s3
     have go3:h3.get? o=some oo:=(sb3.2 o (Ne.symm ne)).trans go
     refine qbA (he _ _ (fun ob e=>(sb3.2 o (Ne.symm ne)).trans e) ?_)
     refine qbA (qpC (s:={ s with heap:=h3 }) go3 O.data O.fit ?_);dsimp only
     rw [if_neg (by simp)]
     refine qcA ⟨h3,k3,kr,rfl,sb3,S3,p3.nodup_iff.mpr (nodup_addK nc),pl,fun k=>?_,?_⟩
     ·rw [<- mm k,p3.mem_iff,mem_addK,qnA,or_assoc]
     ·have:=addK_len kc kk
      rw [p3.length_eq]
      omega
   ·obtain ⟨h',kc,kr,rfl,sb,SC,nc,pl,mm,ll⟩:=hI
    cases pl
    refine qcA (h h' kc sb (SetM.of SC fun e=>?_) nc fun k=>by rw [<- mm k];simp)
    obtain ⟨k0,hk0⟩:=List.exists_mem_of_ne_nil ko hne
    have:=(mm k0).mpr (.inr hk0)
    rw [e] at this
    simp at this
   ·refine ⟨h2,ks1,kp,rfl,s1.trans s2,S2,n1',pr,fun k=>by rw [p1.mem_iff,pk.mem_iff],?_⟩
    rw [p1.length_eq,pk.length_eq]
    exact qkB _
end
theorem entry_s_or:entryFor table "set.__or__" = some Builtin.«frozenset.__or__»:=entryFor_alias (id' := "frozenset.__or__") (by kernel_rfl) rfl (by decide +kernel) (by kernel_rfl)
section
variable {prog:Program}{w:World}{A:Around}{E:Value->Shared->Prop}{s:Shared}
theorem isSet_ok {a:Addr}{ks:List Key}{Q:Bool->Shared->Prop}(x:SetIs w s.heap a ks)(h:Q true s):wpAny (model prog w) A (Builtin.Frozenset.isAnySet (.ref a)) Q E s:=by
 obtain ⟨o,es,ep,t,g,S⟩:=x
 have hT:s.TypeIs (.ref a) "set" := ⟨o,g,S.exact'.1⟩
 unfold Builtin.Frozenset.isAnySet
 refine qbA (wpAny_isInstance hT sub_set_self ?_)
 exact qcA h
theorem copy_ok {a:Addr}{ks:List Key}{Q:Value->Shared->Prop}(x:SetIs w s.heap a ks)(n:ks.Nodup)(hb:ks.length+1<4096)
  (h:∀ h' ks',(∀ b o,s.heap.get? b=some o->h'.get? b=some o)->SetM w h' s.heap.objs.size ks'->ks'.Nodup->(∀ k,k∈ks' ↔ k∈ks)->Q (.ref s.heap.objs.size) { s with heap:=h' }):wpAny (model prog w) A (Builtin.Frozenset.copyOf a) Q E s:=by
 obtain ⟨o,es,ep,t,g,S⟩:=id x
 have hT:s.TypeIs (.ref a) "set" := ⟨o,g,S.exact'.1⟩
 unfold Builtin.Frozenset.copyOf Builtin.Frozenset.baseOf
 refine qbA (qbA (wpAny_isInstance hT sub_set_self (qcA ?_)))
 rw [if_pos rfl]
 unfold newSet
 refine qbA (qbA (Dw ?_));dsimp only
 simp only [newObj]
 refine qbA (wpAny_alloc (qcA ?_))
 have g1:(s.heap.push (Bf w)).get? s.heap.objs.size=some (Bf w):=qsB _ rfl
 have la:a<s.heap.objs.size:=qqB g
 show wpAny _ _ (Builtin.Frozenset.addrOf (.ref s.heap.objs.size) >>= _) _ _ { s with heap:=s.heap.push (Bf w) }
 refine qbA (qcA (qbA (merge_ok (s:={ s with heap:=s.heap.push (Bf w) }) (ks:=[]) (ko:=ks) (fresh_m g1) (x.at fun o e=>qrB _ e) (qsC la) List.nodup_nil n (by rw [List.length_nil];omega) (fun s' Q' _ q=>qcA q) fun h' ks' sb SM nd mm=>?_)))
 refine qcA (h h' ks' (fun b o e=>(sb.2 b (qjC (qqB e))).trans (qrB _ e)) SM nd fun k=>?_)
 rw [mm k]
 simp
theorem or_ok {a b:Addr}{ka kb:List Key}{Q:Value->Shared->Prop}(x:SetIs w s.heap a ka)(y:SetIs w s.heap b kb)(ne:a≠b)(n1:ka.Nodup)(n2:kb.Nodup)(hb:ka.length+kb.length+1<4096)
  (h:∀ h' ks',(∀ b o,s.heap.get? b=some o->h'.get? b=some o)->SetIs w h' s.heap.objs.size ks'->ks'.Nodup->(∀ k,k∈ks' ↔ k∈ka\/k∈kb)->Q (.ref s.heap.objs.size) { s with heap:=h' }):wpAny (model prog w) A (binaryOp .BitOr (.ref a) (.ref b)) Q E s:=by
 obtain ⟨oa,ea,pa,ta,ga,Sa⟩:=id x
 obtain ⟨ob,eb,pb,tb,gb,Sb⟩:=id y
 have hTa:s.TypeIs (.ref a) "set" := ⟨oa,ga,Sa.exact'.1⟩
 have hTb:s.TypeIs (.ref b) "set" := ⟨ob,gb,Sb.exact'.1⟩
 refine wpAny_binaryOp_same (op:=.BitOr) (T := "set") hTa hTb F.fills_set_or F.slot_set_or (qoC F.slot_set_or hTa entry_s_or ?_ (F.args_set_or_2 _ _))
 unfold Builtin.«frozenset.__or__»
 wp_delta
 refine qbA (qcA ?_)
 dsimp only
 rw [if_neg qzB]
 dsimp only
 refine qbA (qbA (isSet_ok x ?_))
 refine isSet_ok y ?_
 rw [if_neg (by simp)]
 refine qbA (qcA (qbA ?_))
 wp_delta
 refine qbA (copy_ok x n1 (by omega) fun h1 k1 kp SM nd mm=>?_)
 have hl:k1.length=ka.length:=((List.perm_ext_iff_of_nodup nd n1).mpr mm).length_eq
 have la:b<s.heap.objs.size:=qqB gb
 rw [if_pos (by simpa using Ne.symm ne)]
 refine qbA (qcA (qbA (qeA ?_)))
 unfold Builtin.Frozenset.updateFrom Builtin.Frozenset.merge
 have y1:SetIs w h1 b kb:=y.at fun o e=>kp _ _ e
 refine qbA (isSet_ok (s:={ s with heap:=h1 }) y1 ?_)
 rw [if_pos rfl]
 refine qbA (qcA (qbA (wpAny_setEpoch_of (s:={ s with heap:=h1 }) (kp _ _ gb) Sb.data Sb.fit ?_)))
 refine merge_ok (s:={ s with heap:=h1 }) SM y1 (qsC la) nd n2 (by omega) (fun s' Q' k q=>?_) fun h2 k2 sb SM2 nd2 mm2=>?_
 ·unfold Builtin.Frozenset.unchanged
  refine qbA (wpAny_setEpoch_of (k _ (kp _ _ gb)) Sb.data Sb.fit ?_)
  rw [if_neg (by simp)]
  exact qcA q
 ·refine qcA ?_
  show wpAny _ _ (ret (Value.ref s.heap.objs.size)) _ _ _
  refine qcA ⟨_,rfl,fun c=>?_,h h2 k2 (fun c o e=>(sb.2 c (qjC (qqB e))).trans (kp _ _ e)) SM2.is nd2 fun k=>?_⟩
  ·cases c
  ·rw [mm2 k,mm k]
end
theorem GK {ks:List Key}{x:Key}:x∈Ee ks ↔ x∈ks:=by
 have:∀ (ks acc:List Key),x∈ks.foldl FS acc ↔ x∈acc\/x∈ks:=by
  intro ks
  induction ks with
  | nil=>intro acc;simp
  | cons k ks ih=>intro acc;rw [qqC,ih,mem_addK,qnA,or_assoc]
 rw [Ee,this]
 simp
def rOrK (w:World):R2:=fun x y H Q=>∃ (p q:Addr) (ka kb:List Key),x = .ref p/\y = .ref q/\p≠q/\H p=some (FY w p ka)/\H q=some (FY w q kb)/\ka.Nodup/\kb.Nodup/\ka.length+kb.length<4000/\∀ r,H r=none->Q (.ref r) (upd H r (FY w r (Ee (ka++kb))))
theorem op_orK {X:Cx}{w:World}(hw:X.w=w):OpR X (binaryOp .BitOr) (rOrK w):=by
 subst hw
 intro pins s σ H x y v u Q I rx ry h
 obtain ⟨p,q,ka,kb,rfl,rfl,ne,hp,hq,n1,n2,hz,k⟩:=h
 cases rx
 cases ry
 obtain ⟨ka',Sa,pa⟩:=setO_get I.hok hp
 obtain ⟨kb',Sb,pb⟩:=setO_get I.hok hq
 refine or_ok Sa Sb ne (pa.nodup_iff.mpr n1) (pb.nodup_iff.mpr n2) (by rw [pa.length_eq,pb.length_eq];omega) fun h' ks' hk S nd mm=>?_
 have hP:ks'.Perm (Ee (ka++kb)):=(List.perm_ext_iff_of_nodup nd (Ev _)).mpr fun k=>by rw [mm k,GK,qmA,pa.mem_iff,pb.mem_iff]
 exact ⟨.ref s.heap.objs.size,_,I.laid' (s':={ s with heap:=h' }) hk (qkB _) (setO_ok ⟨ks',S,hP⟩) rfl rfl,rfl,k _ (I.hok.fresh (qkB _))⟩
def sortOrZ (xs ys:List Int):Option (List Int):=if xs.length<1900/\ys.length<1900/\(DL (xs++ys)).length<64 then some (HZ (DL (xs++ys))) else none
theorem dedA_len {α:Type}[DecidableEq α](ks:List α):(DL ks).length<=ks.length:=by
 have:∀ (ks acc:List α),(ks.foldl HM acc).length<=acc.length+ks.length:=by
  intro ks
  induction ks with
  | nil=>intro acc;exact qkB _
  | cons k ks ih =>
   intro acc
   have h1:=ih (HM acc k)
   have h2:(HM acc k).length<=acc.length+1:=by
    unfold HM
    split
    ·exact Nat.le_succ _
    ·rw [qgA];exact qkB _
   rw [qqC,qhA]
   omega
 have:=this ks []
 rw [List.length_nil] at this
 unfold DL
 omega
theorem dedK_twice {α:Type}[DecidableEq α]{f:α->Key}(hf:∀ a b,f a=f b->a=b)(xs ys:List α):(Ee ((DL xs).map f++(DL ys).map f)).Perm ((DL (xs++ys)).map f):=by
 rw [<- De hf (xs++ys)]
 refine (List.perm_ext_iff_of_nodup (Ev _) (Ev _)).mpr fun k=>?_
 rw [GK,GK,qdB,qmA,qmA,<- De hf xs,<- De hf ys,GK,GK]
theorem SetO_perm {w:World}{p:Addr}{a b:List Key}(h:a.Perm b):FY w p a=FY w p b:=by
 unfold FY
 congr 1
 funext hh
 refine propext ⟨fun ⟨ks,S,e⟩=>⟨ks,S,e.trans h⟩,fun ⟨ks,S,e⟩=>⟨ks,S,e.trans h.symm⟩⟩
section
variable {K:FZ9}{σ:St}{G:Hp}{ta tb:TE}{w:World}
theorem ints_keys (a:List Int):a.map V.int=(a.map (Sum.inl:Int->Key)).map kV:=by rw [List.map_map];rfl
theorem ints_rel {G2:Hp}:∀ zs:List Int,Paired (Rp.rel K G2) (zs.map V.int) zs
 | []=>.nil
 | z::zs=>.cons rfl (ints_rel zs)
theorem sortZ_len (ys:List Int):(HZ ys).length=ys.length:=(List.mergeSort_perm ys leZ).length_eq
theorem fv_sortOrZ {la lb:Option (List Int)}(ea:EV K ta σ G la)(eb:EV K tb σ G lb) :
  FV K (tCB (rSortPI w) (AQ (tOp (rOrK w) (tCB (rSetK w K) (AQ ta BL)) (tCB (rSetK w K) (AQ tb BL))) BL)) σ G (la.bind fun xs=>lb.bind fun ys=>sortOrZ xs ys):=by
 intro G1 s1 c hc H sH Q k
 obtain ⟨a,ha,hc⟩:=qaA.mp hc
 obtain ⟨b,hb,hc⟩:=qaA.mp hc
 obtain ⟨⟨h4,h5,h64⟩,rfl⟩:=Ay hc
 refine ea G1 s1 a ha H sH _ fun v G2 H2 x2 r2=>?_
 obtain ⟨l,xs,rfl,h,z,p⟩:=r2
 have e:=Db p
 subst e
 refine ⟨l,a.map Sum.inl,rfl,?_,by rw [qfA];omega,fun q hq=>?_⟩
 ·rw [<- ints_keys];exact .inl (x2.gh.rd h)
 ·have x3:Ext G2 H2 G2 (upd H2 q (FY w q (Ee (a.map Sum.inl)))):=.own x2.gh hq
  have g2q:G2 q=none:=x2.gh.free hq
  refine eb G2 (s1.trans x2.gg) b hb _ x3.gh _ fun u G4 H4 x4 r4=>?_
  obtain ⟨l2,ys,rfl,h2,z2,p2⟩:=r4
  have e:=Db p2
  subst e
  refine ⟨l2,b.map Sum.inl,rfl,?_,by rw [qfA];omega,fun q2 hq2=>?_⟩
  ·rw [<- ints_keys];exact .inl (x4.gh.rd h2)
  ·have x5:Ext G4 H4 G4 (upd H4 q2 (FY w q2 (Ee (b.map Sum.inl)))):=.own x4.gh hq2
   have h4q:H4 q=some (FY w q (Ee (a.map Sum.inl))):=x4.hh _ _ AJ
   have ne:q≠q2:=fun e=>by rw [<- e,h4q] at hq2;cases hq2
   have l1:=dedA_len a
   have l2:=dedA_len b
   rw [De Go a] at h4q
   rw [De Go b] at x5 ⊢
   refine ⟨q,q2,(DL a).map Sum.inl,(DL b).map Sum.inl,rfl,rfl,ne,?_,AJ,?_,?_,?_,fun q3 hq3=>?_⟩
   ·rw [Aq ne];exact h4q
   ·rw [<- De Go];exact Ev _
   ·rw [<- De Go];exact Ev _
   ·rw [qfA,qfA];omega
   ·have x6:Ext G4 (upd H4 q2 (FY w q2 ((DL b).map Sum.inl))) G4 (upd (upd H4 q2 (FY w q2 ((DL b).map Sum.inl))) q3 (FY w q3 ((DL (a++b)).map Sum.inl))):=.own x5.gh hq3
    rw [SetO_perm (dedK_twice Go a b)]
    refine ⟨q3,DL (a++b),rfl,AJ,h64,?_⟩
    refine fv_of x6.gh ?_ (ints_rel _) (FV.mono (x2.trans (x3.trans (x4.trans (x5.trans x6)))) k)
    rw [qfA,sortZ_len,qtB]
    omega
theorem sign_len {x y:Str}(h:y∈Bv x):y.length<=sizeLine:=by
 unfold Bv at h
 obtain ⟨c,_,rfl⟩:=qoA.mp h
 rw [qtB]
 show (#[c]:Array _).size<=_
 simp
end
def rExtendT (K:FZ9):V->List V->Hp->VK->Prop:=fun x vs H Q=>∃ l b xs zs,x = .ref l/\vs=[.ref b]/\H l=some (.lst xs)/\SqT K H b zs/\xs.length+zs.length<=sizeLine/\Q .non (upd H l (.lst (xs++zs)))
theorem mt_extendT {X:Cx}{K:FZ9}(hK:X.K=K):MtM X "list.extend" (rExtendT K):=by
 subst hK
 intro pins s σ H x vs v us Q I rx rv h
 obtain ⟨l,b,xs,zs,rfl,rfl,hH,hB,hz,q⟩:=h
 cases rx
 obtain ⟨u,rfl,ru⟩:=rv.one
 cases ru
 obtain ⟨z,its,n,r,hl,e⟩:=I.lstM hH
 obtain ⟨its2,r2,⟨o2,g2,c2,n2,d2⟩,_⟩:=I.tuple hB
 have h1:=r.length
 have h2:=r2.length
 have hsz:its.toArray.size+its2.toArray.size<=sizeLine:=by rw [qaC,qaC];omega
 refine qoC F.slot_list_extend ⟨_,e,rfl⟩ F.entry_list_extend ?_ (F.args_list_extend_2 _ _)
 unfold Builtin.«list.extend»
 refine qbA (qcA ?_)
 dsimp only
 unfold Builtin.List.listExtendWith
 refine qbA (wpAny_typeOf (T := "tuple") ⟨o2,g2,c2⟩ ?_)
 have ht:(Value.type "tuple" == Value.type "tuple")=true:=by rfl
 rw [if_pos (by rw [ht];simp)]
 refine qbA (listItems_at g2 d2 (qbA (listItems_at e rfl ?_)))
 rw [if_neg (by rw [notLongL hsz,Bool.and_false];exact qzB)]
 refine qbA (listUpdate_at e rfl ?_ (by omega) (by rw [Array.size_append];omega))
 refine qcA ⟨_,rfl,.non,_,I.lset (its':=its++its2) (t':=s.toks) hH e (by simp) (r.append r2) ?_,rfl,q⟩
 rw [qgA]
 omega
section
variable {K:FZ9}{σ:St}{G H:Hp}{α:Type}[Rp α]{te:TE}{rest:TS}{D:Ends}{i:Nat}{m:Option (Tp α)}{b:Tp α}{as as':List α}{v:V}{p:Addr}{vs:List V}
theorem sv_extendTB [Imm (Tp α)](hσ:σ[i]? = some (some v))(o:Own K G H v p vs as)(e:EV K te σ (upd G p (.lst vs)) m)(hm:m=some b)(hp:extO as b.l=some as')(s:Same G H)
  (k:∀ G2 H2 ws,Ext G H G2 H2->Own K G2 (upd H2 p (.lst (vs++ws))) v p (vs++ws) as'->rest D σ (upd H2 p (.lst (vs++ws)))):CA (HW (tBM K "list" (rExtendT K) (Bc i) (AQ te BL))) rest D σ H:=by
 obtain ⟨hl,rfl⟩:=Ay hp
 have hlen:=Paired.length o.p
 have ov:=o.v
 subst ov
 refine ⟨_,hσ,.inl ⟨rfl,_,SqL.of o.h⟩,?_⟩
 refine EV.runB o e hm s fun w G2 H2 x r=>?_
 have o2:=o.ext x
 obtain ⟨q,ws,rfl,hq,hz,hpr⟩:=r
 have hlw:=Paired.length hpr
 refine ⟨p,q,vs,ws,rfl,rfl,o2.h,x.gh.tup hq,by omega,?_⟩
 refine k G2 H2 ws x ⟨rfl,o2.g,AJ,?_,Paired.app o2.p hpr⟩
 rw [qgA]
 omega
end
structure MpS (α:Type) where
 l:List (Str × α)
section
variable {prog:Program}{w:World}{A:Around}{E:Value->Shared->Prop}{s:Shared}
theorem nextT_item {it t:Addr}{i:Nat}{items:Array Value}{x:Value}{Q:Value->Shared->Prop}(hit:s.heap.IsTupleIter it t i)(ht:s.heap.IsTuple t items)(hx:items[i]? = some x)
  (hQ:∀ h',h'.IsTupleIter it t (i+1)->Heap.SameBut it s.heap h'->Q x { s with heap:=h' }):wpAny (model prog w) A (Builtin.SmallTypes.nextOf (.ref it)) Q E s:=by
 obtain ⟨o,go,co,dO⟩:=id hit
 obtain ⟨ot,gt,_,nt,dt⟩:=ht
 unfold Builtin.SmallTypes.nextOf
 refine qbA (wpAny_callSpecial?_slot (name:=Str.ofString "__next__") hit.typeIs F.slot_tuple_iterator_next (qoC F.slot_tuple_iterator_next hit.typeIs F.entry_tuple_iterator_next ?_ (F.args_tuple_iterator_next_1 _)))
 show wpAny _ _ (field (.ref it) 0 >>= _) _ _ s;refine qbA (wpAny_field go dO (x:=.ref t) rfl ?_)
 show wpAny _ _ (if (Value.ref t == Value.none)=true then _ else _) _ _ s;rw [if_neg (show ¬ ((Value.ref t == Value.none)=true) from qzB)]
 show wpAny _ _ (field (.ref it) 1 >>= _) _ _ s;refine qbA (wpAny_field go dO (x:=.int i 0) rfl ?_)
 show wpAny _ _ (seqItems? (.ref t) >>= _) _ _ s;refine qbA (wpAny_seqItems gt dt ?_)
 simp only [qvB,hx]
 refine qbA (wpAny_setField go dO (by simp) (qcA ⟨x,rfl,qcA (hQ _ ⟨_,Heap.get?_update_self _ go (Obj.isFreed_of_fields (Obj.data_mapFields dO _)),(Obj.cls_mapFields ..).trans co,?_⟩ (Heap.SameBut.update ..))⟩))
 rw [Obj.data_mapFields dO]
 simp [rawInt]
def HC (f0 f1:Value)(TI TO:Addr):Obj:={ cls:=.type "zip",dict:=none,data:=.fields #[f0,f1,.bool false,.ref TI,.ref TO],slots:=#[] }
structure ZAp (z TI TO i1 i2 l t:Addr):Prop where
 a:TI≠z/\TO≠z/\i1≠z/\i2≠z
 b:TI≠TO/\TI≠i1/\TI≠i2/\TO≠i1/\TO≠i2/\i1≠i2
 c:l≠z/\l≠TO/\l≠i1/\l≠i2
 d:t≠z/\t≠TO/\t≠i1/\t≠i2
structure ZS (h:Heap)(z TI TO i1 i2 l t:Addr)(xs ys:Array Value)(k:Nat):Prop where
 z:∃ f0 f1,h.get? z=some (HC f0 f1 TI TO)/\(f0 = .none\/∃ (T:Addr) (o:Obj),f0=rawInt T/\h.get? T=some o)
 ti:IsPair h TI (.ref i1) (.ref i2)
 to:∃ a b,IsPair h TO a b
 i1:h.IsListIter i1 l k
 i2:h.IsTupleIter i2 t k
 l:h.IsList l xs
 t:h.IsTuple t ys
theorem ZS.keep {h h':Heap}{z TI TO i1 i2 l t:Addr}{xs ys:Array Value}{k:Nat}(Z:ZS h z TI TO i1 i2 l t xs ys k)(e:∀ c o,h.get? c=some o->h'.get? c=some o):ZS h' z TI TO i1 i2 l t xs ys k:=by
 obtain ⟨⟨f0,f1,gz,hf⟩,ti,⟨a,b,to⟩,j1,j2,hl,ht⟩:=Z
 refine ⟨⟨f0,f1,e _ _ gz,hf.imp id fun ⟨T,o,q1,q2⟩=>⟨T,o,q1,e _ _ q2⟩⟩,e _ _ ti,⟨a,b,e _ _ to⟩,j1.at fun o q=>e _ _ q,?_,hl.at fun o q=>e _ _ q,?_⟩
 ·obtain ⟨o,g,r⟩:=j2;exact ⟨o,e _ _ g,r⟩
 ·obtain ⟨o,g,r⟩:=ht;exact ⟨o,e _ _ g,r⟩
theorem wp_alive {a:Addr}{Q:Option Obj->Shared->Prop}(h:Q (s.heap.get? a) s):wpAny (model prog w) A (loadIfAlive a) Q E s:=fun Γ p hΓ=>by
 show Sem.wp _ _ (.loadIfAlive a .pure) _ _ _ _
 rw [Sem.wp_loadIfAlive]
 exact h
theorem owned_busy {z TI TO T:Addr}{f1:Value}{oT:Obj}{Q:Bool->Shared->Prop}(gz:s.heap.get? z=some (HC (rawInt T) f1 TI TO))(gT:s.heap.get? T=some oT)
  (h:∀ f1' h₁,h₁.get? z=some (HC (rawInt T) f1' TI TO)->Heap.SameBut z s.heap h₁->Q false { s with heap:=h₁ }):wpAny (model prog w) A (Builtin.SmallTypes.ownedTupleIsFree (.ref z)) Q E s:=by
 unfold Builtin.SmallTypes.ownedTupleIsFree
 refine qbA (wpAny_field gz rfl (x:=rawInt T) rfl ?_)
 show wpAny _ _ (loadIfAlive ((T:Nat):Int).toNat >>= _) _ _ _
 refine qbA (wp_alive ?_)
 rw [qvB,gT]
 rw [if_neg (by simp)]
 refine qbA (wpAny_field gz rfl (x:=f1) rfl ?_)
 dsimp only
 refine wpAny_ite_split (fun _=>?_) fun _=>?_
 ·exact qbA (wpAny_setField_rec gz (by simp) fun h₁ z₁ s₁=>qcA (h _ h₁ z₁ s₁))
 ·have e:s = { s with heap:=s.heap }:=by cases s;rfl
  have q:=h f1 s.heap gz (Heap.SameBut.refl z s.heap)
  rw [<- e] at q
  exact qcA q
theorem zip_item {z TI TO i1 i2 l t:Addr}{xs ys:Array Value}{k:Nat}{x y:Value}{Q:Option Value->Shared->Prop}(D:ZAp z TI TO i1 i2 l t)(Z:ZS s.heap z TI TO i1 i2 l t xs ys k)(hx:xs[k]? = some x)(hy:ys[k]? = some y)
  (hQ:∀ h',ZS h' z TI TO i1 i2 l t xs ys (k+1)->IsPair h' s.heap.objs.size x y->(∀ c o,c ∉ [z,TO,i1,i2]->s.heap.get? c=some o->h'.get? c=some o)->Q (some (.ref s.heap.objs.size)) { s with heap:=h' }) :
  wpAny (model prog w) A (pyNext (.ref z)) Q E s:=by
 obtain ⟨⟨f0,f1,gz,hf⟩,ti,⟨a,b,to⟩,j1,j2,hl,ht⟩:=Z
 obtain ⟨⟨d1,d2,d3,d4⟩,⟨d5,d6,d7,d8,d9,d10⟩,⟨d11,d12,d13,d14⟩,⟨d15,d16,d17,d18⟩⟩:=D
 have hT:s.TypeIs (.ref z) "zip" := ⟨_,gz,rfl⟩
 have tk:∀ {h h':Heap}{c:Addr}{j:Nat},h.IsTupleIter i2 t j->Heap.SameBut c h h'->i2≠c->h'.IsTupleIter i2 t j:=fun ⟨o,g,r⟩ e n=>⟨o,(e.2 _ n).trans g,r⟩
 have tt:∀ {h h':Heap}{c:Addr},h.IsTuple t ys->Heap.SameBut c h h'->t≠c->h'.IsTuple t ys:=fun ⟨o,g,r⟩ e n=>⟨o,(e.2 _ n).trans g,r⟩
 unfold pyNext
 refine qbA (wpAny_attempt (wpAny_callSpecial?_slot (name:=Str.ofString "__next__") hT F.slot_zip_next (qoC F.slot_zip_next hT F.entry_zip_next ?_ (F.args_zip_next_1 _))))
 show wpAny _ _ (field (.ref z) 2 >>= _) _ _ _;refine qbA (wpAny_field gz rfl (x:=.bool false) rfl ?_)
 show wpAny _ _ (field (.ref z) 3 >>= _) _ _ _;refine qbA (wpAny_field gz rfl (x:=.ref TI) rfl ?_)
 refine qbA (wpAny_seqItems ti rfl ?_);show wpAny _ _ (Builtin.SmallTypes.ownedTupleIsFree (.ref z) >>= _) _ _ _
 rcases hf with rfl | ⟨T,oT,rfl,gT⟩
 ·refine qbA ?_
  unfold Builtin.SmallTypes.ownedTupleIsFree
  refine qbA (wpAny_field gz rfl (x:=.none) rfl (qcA ?_));simp only [if_true]
  refine qbA (qdA (qbA (wpAny_field gz rfl (x:=.ref TO) rfl ?_)))
  refine qbA (wpAny_setField_rec gz (by simp) fun h₁ z₁ s₁=>?_)
  replace z₁:h₁.get? z=some (HC .ellipsis f1 TI TO):=z₁
  refine qbA ?_
  simp only [List.zipIdx_cons,List.zipIdx_nil,List.forIn_cons,List.forIn_nil]
  refine qbA (qbA (wpAny_onRaise ?_));show wpAny _ _ (Builtin.SmallTypes.nextOf (.ref i1) >>= _) _ _ _
  refine qbA (wpAny_nextOf_list_item (s:={ s with heap:=h₁ }) (j1.extBut s₁.extBut d3) (hl.extBut s₁.extBut d11) hx fun h₂ j₂ s₂=>qcA ?_)
  replace s₂:Heap.SameBut i1 h₁ h₂:=s₂
  have to₂:IsPair h₂ TO a b:=s₂.extBut _ _ d8 (s₁.extBut _ _ d2 to)
  refine qbA (wpAny_seqItems (s:={ s with heap:=h₂ }) to₂ rfl (qbA (wpAny_updateSeq_pair (s:={ s with heap:=h₂ }) to₂ fun h₃ to₃ s₃=>?_)))
  replace to₃:IsPair h₃ TO x b:=to₃
  replace s₃:Heap.SameBut TO h₂ h₃:=s₃
  refine qbA (wpAny_letGo (qcA ?_))
  refine qbA (qbA (wpAny_onRaise ?_));show wpAny _ _ (Builtin.SmallTypes.nextOf (.ref i2) >>= _) _ _ _
  refine qbA (nextT_item (s:={ s with heap:=h₃ }) (tk (tk (tk j2 s₁ d4) s₂ (Ne.symm d10)) s₃ (Ne.symm d9)) (tt (tt (tt ht s₁ d15) s₂ d17) s₃ d16) hy fun h₄ j₄ s₄=>qcA ?_)
  replace s₄:Heap.SameBut i2 h₃ h₄:=s₄
  have to₄:IsPair h₄ TO x b:=s₄.extBut _ _ d9 to₃
  refine qbA (wpAny_seqItems (s:={ s with heap:=h₄ }) to₄ rfl (qbA (wpAny_updateSeq_pair (s:={ s with heap:=h₄ }) to₄ fun h₅ to₅ s₅=>?_)))
  replace to₅:IsPair h₅ TO x y:=to₅
  replace s₅:Heap.SameBut TO h₄ h₅:=s₅
  refine qbA (wpAny_letGo (qcA (qcA ?_)))
  refine qbA (wpAny_seqItems (s:={ s with heap:=h₅ }) to₅ rfl (qbA (wpAny_newTuple ?_)))
  have hsz:h₅.objs.size=s.heap.objs.size:=by rw [s₅.1,s₄.1,s₃.1,s₂.1,s₁.1]
  have z₅:h₅.get? z=some (HC .ellipsis f1 TI TO):=s₅.extBut _ _ (Ne.symm d2) (s₄.extBut _ _ (Ne.symm d4) (s₃.extBut _ _ (Ne.symm d2) (s₂.extBut _ _ (Ne.symm d3) z₁)))
  have zl:z<h₅.objs.size:=qqB z₅
  show wpAny _ _ (Builtin.SmallTypes.ownedTupleHandOut (.ref z) (.ref h₅.objs.size) >>= _) _ _ _
  refine qbA ?_
  unfold Builtin.SmallTypes.ownedTupleHandOut
  have z₆:(h₅.push { cls:=.type "tuple",data:=.seq #[x,y] }).get? z=some (HC .ellipsis f1 TI TO):=qrB _ z₅
  refine qbA (wpAny_setField_rec (s:={ s with heap:=h₅.push { cls:=.type "tuple",data:=.seq #[x,y] } }) z₆ (by simp) fun h₇ z₇ s₇=>?_)
  replace s₇:Heap.SameBut z (h₅.push { cls:=.type "tuple",data:=.seq #[x,y] }) h₇:=s₇
  refine wpAny_setField_rec (s:={ s with heap:=h₇ }) z₇ (by simp) fun h₈ z₈ s₈=>?_
  replace z₈:h₈.get? z=some (HC (rawInt h₅.objs.size) (.bool false) TI TO):=z₈
  replace s₈:Heap.SameBut z h₇ h₈:=s₈
  have up:∀ c o,c≠z->h₅.get? c=some o->h₈.get? c=some o:=fun c o c1 e=>s₈.extBut _ _ c1 (s₇.extBut _ _ c1 (qrB _ e))
  have T₈:IsPair h₈ h₅.objs.size x y:=s₈.extBut _ _ (qsC zl) (s₇.extBut _ _ (qsC zl) (qsB _ rfl))
  refine qcA ⟨_,rfl,qcA ?_⟩
  show Q (some (.ref h₅.objs.size)) _
  rw [hsz] at z₈ T₈ ⊢
  have kp:∀ c o,c ∉ [z,TO,i1,i2]->s.heap.get? c=some o->h₈.get? c=some o:=fun c o hc e=>by
   simp only [qnA,qkC,or_false,not_or] at hc
   exact up c o hc.1 (s₅.extBut _ _ hc.2.1 (s₄.extBut _ _ hc.2.2.2 (s₃.extBut _ _ hc.2.1 (s₂.extBut _ _ hc.2.2.1 (s₁.extBut _ _ hc.1 e)))))
  refine hQ h₈ ⟨⟨_,_,z₈,.inr ⟨_,_,rfl,T₈⟩⟩,kp _ _ (by simp [d1,d5,d6,d7]) ti,⟨x,y,up _ _ d2 to₅⟩,?_,?_,?_,?_⟩ T₈ kp
  ·exact (((j₂.extBut s₃.extBut (Ne.symm d8)).extBut s₄.extBut d10).extBut s₅.extBut (Ne.symm d8)).at fun o e=>up _ o d3 e
  ·obtain ⟨o,g,r⟩:=tk j₄ s₅ (Ne.symm d9)
   exact ⟨o,up _ _ d4 g,r⟩
  ·exact hl.at fun o e=>kp _ _ (by simp [d11,d12,d13,d14]) e
  ·obtain ⟨o,g,r⟩:=ht
   exact ⟨o,kp _ _ (by simp [d15,d16,d17,d18]) g,r⟩
 ·refine qbA (owned_busy gz gT fun f1' h₁ z₁ s₁=>?_)
  simp only [Bool.false_eq_true,if_false]
  rw [<- Array.forIn_toList]
  simp only [List.forIn_cons,List.forIn_nil]
  refine qbA (qbA (qbA (qeA ?_)));show wpAny _ _ (Builtin.SmallTypes.nextOf (.ref i1) >>= _) _ _ _
  refine qbA (wpAny_nextOf_list_item (s:={ s with heap:=h₁ }) (j1.extBut s₁.extBut d3) (hl.extBut s₁.extBut d11) hx fun h₂ j₂ s₂=>qcA (qcA ?_))
  replace s₂:Heap.SameBut i1 h₁ h₂:=s₂
  dsimp only
  refine qbA (qbA (qeA ?_));show wpAny _ _ (Builtin.SmallTypes.nextOf (.ref i2) >>= _) _ _ _
  refine qbA (nextT_item (s:={ s with heap:=h₂ }) (tk (tk j2 s₁ d4) s₂ (Ne.symm d10)) (tt (tt ht s₁ d15) s₂ d17) hy fun h₃ j₃ s₃=>qcA (qcA ?_))
  replace s₃:Heap.SameBut i2 h₂ h₃:=s₃
  dsimp only
  refine qcA (qbA (wpAny_newTuple ?_ (by show 2<=sizeLine;rw [qtB];omega)))
  have hsz:h₃.objs.size=s.heap.objs.size:=by rw [s₃.1,s₂.1,s₁.1]
  refine qcA ⟨_,rfl,qcA ?_⟩
  show Q (some (.ref h₃.objs.size)) _
  have T₄:IsPair (h₃.push { cls:=.type "tuple",data:=.seq #[x,y] }) h₃.objs.size x y:=qsB _ rfl
  have up:∀ c o,h₃.get? c=some o->(h₃.push { cls:=.type "tuple",data:=.seq #[x,y] }).get? c=some o:=fun c o e=>qrB _ e
  have z₃:h₃.get? z=some (HC (rawInt T) f1' TI TO):=s₃.extBut _ _ (Ne.symm d4) (s₂.extBut _ _ (Ne.symm d3) z₁)
  have kp:∀ c o,c ∉ [z,TO,i1,i2]->s.heap.get? c=some o->(h₃.push { cls:=.type "tuple",data:=.seq #[x,y] }).get? c=some o:=fun c o hc e=>by
   simp only [qnA,qkC,or_false,not_or] at hc
   exact up c o (s₃.extBut _ _ hc.2.2.2 (s₂.extBut _ _ hc.2.2.1 (s₁.extBut _ _ hc.1 e)))
  have any:∀ c o,s.heap.get? c=some o->∃ o',h₃.get? c=some o':=fun c o e=>by
   have e1:∃ o',h₁.get? c=some o':=by
    by_cases q:c=z
    ·rw [q];exact ⟨_,z₁⟩
    ·exact ⟨o,s₁.extBut _ _ q e⟩
   obtain ⟨o1,e1⟩:=e1
   have e2:∃ o',h₂.get? c=some o':=by
    by_cases q:c=i1
    ·rw [q];obtain ⟨o',g,_⟩:=j₂;exact ⟨o',g⟩
    ·exact ⟨o1,s₂.extBut _ _ q e1⟩
   obtain ⟨o2,e2⟩:=e2
   by_cases q:c=i2
   ·rw [q];obtain ⟨o',g,_⟩:=j₃;exact ⟨o',g⟩
   ·exact ⟨o2,s₃.extBut _ _ q e2⟩
  obtain ⟨oT',gT'⟩:=any T _ gT
  rw [hsz] at T₄ ⊢
  refine hQ _ ⟨⟨_,_,up _ _ z₃,.inr ⟨T,oT',rfl,up _ _ gT'⟩⟩,kp _ _ (by simp [d1,d5,d6,d7]) ti,⟨a,b,?_⟩,?_,?_,?_,?_⟩ T₄ kp
  ·exact up _ _ (s₃.extBut _ _ d9 (s₂.extBut _ _ d8 (s₁.extBut _ _ d2 to)))
  ·exact (j₂.extBut s₃.extBut d10).at fun o e=>up _ o e
  ·obtain ⟨o,g,r⟩:=j₃
   exact ⟨o,up _ _ g,r⟩
  ·exact hl.at fun o e=>kp _ _ (by simp [d11,d12,d13,d14]) e
  ·obtain ⟨o,g,r⟩:=ht
   exact ⟨o,kp _ _ (by simp [d15,d16,d17,d18]) g,r⟩
theorem zip_end {z TI TO i1 i2 l t:Addr}{xs ys:Array Value}{k:Nat}{Q:Option Value->Shared->Prop}(hh:A.handled=none)(D:ZAp z TI TO i1 i2 l t)(Z:ZS s.heap z TI TO i1 i2 l t xs ys k)(hx:xs[k]? = none)
  (hQ:∀ h',(∀ c o,c ∉ [z,TO,i1,i2]->s.heap.get? c=some o->h'.get? c=some o)->Q none { s with heap:=h' }):wpAny (model prog w) A (pyNext (.ref z)) Q E s:=by
 obtain ⟨⟨f0,f1,gz,hf⟩,ti,⟨a,b,to⟩,j1,j2,hl,ht⟩:=Z
 obtain ⟨⟨d1,d2,d3,d4⟩,⟨d5,d6,d7,d8,d9,d10⟩,⟨d11,d12,d13,d14⟩,⟨d15,d16,d17,d18⟩⟩:=D
 have hT:s.TypeIs (.ref z) "zip" := ⟨_,gz,rfl⟩
 unfold pyNext
 refine qbA (wpAny_attempt (wpAny_callSpecial?_slot (name:=Str.ofString "__next__") hT F.slot_zip_next (qoC F.slot_zip_next hT F.entry_zip_next ?_ (F.args_zip_next_1 _))))
 show wpAny _ _ (field (.ref z) 2 >>= _) _ _ _;refine qbA (wpAny_field gz rfl (x:=.bool false) rfl ?_)
 show wpAny _ _ (field (.ref z) 3 >>= _) _ _ _;refine qbA (wpAny_field gz rfl (x:=.ref TI) rfl ?_)
 refine qbA (wpAny_seqItems ti rfl ?_);show wpAny _ _ (Builtin.SmallTypes.ownedTupleIsFree (.ref z) >>= _) _ _ _
 rcases hf with rfl | ⟨T,oT,rfl,gT⟩
 ·refine qbA ?_
  unfold Builtin.SmallTypes.ownedTupleIsFree
  refine qbA (wpAny_field gz rfl (x:=.none) rfl (qcA ?_));simp only [if_true]
  refine qbA (qdA (qbA (wpAny_field gz rfl (x:=.ref TO) rfl ?_)))
  refine qbA (wpAny_setField_rec gz (by simp) fun h₁ z₁ s₁=>?_)
  replace z₁:h₁.get? z=some (HC .ellipsis f1 TI TO):=z₁
  refine qbA ?_
  simp only [List.zipIdx_cons,List.zipIdx_nil,List.forIn_cons,List.forIn_nil]
  refine qbA (qbA (wpAny_onRaise ?_));show wpAny _ _ (Builtin.SmallTypes.nextOf (.ref i1) >>= _) _ _ _
  refine qbA (wpAny_nextOf_list_end (s:={ s with heap:=h₁ }) hh (j1.extBut s₁.extBut d3) (hl.extBut s₁.extBut d11) hx fun h₂ e s₂ he=>?_)
  replace s₂:Heap.ExtBut i1 h₁ h₂:=s₂
  obtain ⟨oe,ge,ce⟩:=he
  have z₂:h₂.get? z=some (HC .ellipsis f1 TI TO):=s₂ _ _ (Ne.symm d3) z₁
  have ez:e≠z:=fun q=>by subst q;rw [z₂] at ge;cases ge;have ce:Value.type "zip" = Value.type "StopIteration" := ce;simp at ce
  refine wpAny_setField_rec (s:={ s with heap:=h₂ }) z₂ (by simp) fun h₃ _ s₃=>?_
  replace s₃:Heap.SameBut z h₂ h₃:=s₃
  refine qbA (wpAny_isInstance (T := "StopIteration") (b:=true) ⟨oe,s₃.extBut _ _ ez ge,ce⟩ isSubtype_stop (qcA (hQ h₃ fun c o hc q=>?_)))
  simp only [qnA,qkC,or_false,not_or] at hc
  exact s₃.extBut _ _ hc.1 (s₂ _ _ hc.2.2.1 (s₁.extBut _ _ hc.1 q))
 ·refine qbA (owned_busy gz gT fun f1' h₁ z₁ s₁=>?_)
  simp only [Bool.false_eq_true,if_false]
  rw [<- Array.forIn_toList]
  simp only [List.forIn_cons,List.forIn_nil]
  refine qbA (qbA (qbA (qeA ?_)));show wpAny _ _ (Builtin.SmallTypes.nextOf (.ref i1) >>= _) _ _ _
  refine qbA (wpAny_nextOf_list_end (s:={ s with heap:=h₁ }) hh (j1.extBut s₁.extBut d3) (hl.extBut s₁.extBut d11) hx fun h₂ e s₂ he=>?_)
  replace s₂:Heap.ExtBut i1 h₁ h₂:=s₂
  obtain ⟨oe,ge,ce⟩:=he
  refine qbA (wpAny_isInstance (s:={ s with heap:=h₂ }) (T := "StopIteration") (b:=true) ⟨oe,ge,ce⟩ isSubtype_stop (qcA (hQ h₂ fun c o hc q=>?_)))
  simp only [qnA,qkC,or_false,not_or] at hc
  exact s₂ _ _ hc.2.2.1 (s₁.extBut _ _ hc.1 q)
end
theorem slot_zip_ga:Slot "zip" "__getattribute__" "zip.__getattribute__" :=
 .of (owner := "zip") (n := "__getattribute__") (by rw [typeLookup_type,qbC];kernel_rfl) (by decide +kernel) (by decide +kernel) (by decide +kernel) (by first|exact .inl (by decide +kernel)|exact .inr (by decide +kernel)) (by rw [isSubtype_type];kernel_rfl)
theorem entry_zip_ga:entryFor table "zip.__getattribute__" = some Builtin.«object.__getattribute__»:=entryFor_alias (id' := "object.__getattribute__") (by kernel_rfl) rfl (by decide +kernel) (by kernel_rfl)
theorem args_zip_ga (a b:Value):argsOk "zip.__getattribute__" ⟨[a,b],[]⟩:=by unfold argsOk;kernel_rfl
theorem zip_no_keys:typeLookup (.type "zip") "keys" = pure none:=by rw [typeLookup_type,qbC];kernel_rfl
theorem zip_no_getattr:typeLookup (.type "zip") "__getattr__" = pure none:=by rw [typeLookup_type,qbC];kernel_rfl
section
variable {prog:Program}{w:World}{A:Around}{E:Value->Shared->Prop}{s:Shared}{z TI TO:Addr}{f0 f1:Value}
theorem zip_misses (u:Tok){P:PySem.Fin->Shared->Prop}{R:Value->Shared->Prop}(hh:A.handled=none)(hx:s.heap.get? z=some (HC f0 f1 TI TO))(hR:∀ h' tk e,Heap.NewAttrErr s.heap h' e (.ref z) "keys" -> R (.ref e) { s with heap:=h',toks:=tk }) :
  wpAny (model prog w) A (Builtin.«object.__getattribute__» ⟨[.ref z,.str "keys" u],[]⟩) P R s:=by
 obtain ⟨h,g,d,t,os⟩:=s
 have hT:(⟨h,g,d,t,os⟩:Shared).TypeIs (.ref z) "zip" := ⟨_,hx,rfl⟩
 have q1:=zip_no_keys
 unfold HC at hx
 unfold Builtin.«object.__getattribute__»
 repeat (any_goals (first|assumption|wp_step))
 exact wpAny_raiseAttrError hh hR (attrMsg_fits (by decide +kernel) (by decide))
theorem zip_keys_none {Q:Option Value->Shared->Prop}(hh:A.handled=none)(hx:s.heap.get? z=some (HC f0 f1 TI TO))(hQ:∀ h' tk,(∀ b o,s.heap.get? b=some o->h'.get? b=some o)->Q none { s with heap:=h',toks:=tk }) :
  wpAny (model prog w) A (getAttr? (.ref z) "keys") Q E s:=by
 obtain ⟨h,g,d,t,os⟩:=s
 have hT:(⟨h,g,d,t+1,os⟩:Shared).TypeIs (.ref z) "zip" := ⟨_,hx,rfl⟩
 have q1:=sub_AttributeError
 have q3:=slot_zip_ga.lookup
 have q4:=slot_zip_ga.bind (.ref z)
 have q5:=zip_no_getattr
 unfold getAttr? getAttrBy? getAttrBy
 repeat (any_goals (first|assumption|wp_step))
 refine codeAny_call_builtin slot_zip_ga.plain entry_zip_ga (slot_zip_ga.check _ _ _ _ _ _ _ _ hT (args_zip_ga _ _) (zip_misses (s:=⟨h,g,d,t+1,os⟩) t (by simpa using hh) hx fun h' tk e hx'=>?_))
 obtain ⟨t',u',he⟩:=hx'.there
 show wpAny _ _ (getattributeRaised _ _ _ _ _ _ _) _ _ _
 unfold getattributeRaised
 repeat (any_goals (first|assumption|wp_step))
 exact hQ h' tk hx'.keeps
end
theorem EJ:entryFor table "dict.update.loop" = some Builtin.«dict.update.loop»:=entryFor_of_tree (by kernel_rfl)
theorem Bi:plainId "dict.update.loop" = true:=by decide +kernel
section
variable {prog:Program}{w:World}{A:Around}{E:Value->Shared->Prop}{s:Shared}
def zipD (ks:List (Key × Value))(m:List (Key × Value)):List (Key × Value):=ks.foldl (fun m q=>stored m q.1 q.2) m
theorem stored_len {m:List (Key × Value)}{k:Key}{v:Value}:(stored m k v).length<=m.length+1:=by
 unfold stored
 split
 ·rw [qfA];exact Nat.le_succ _
 ·rw [qgA];exact qkB _
theorem du_loop {R:Result->Shared->Prop}{z TI TO i1 i2 l t dd:Addr}{xs ys:Array Value}{ks:List Key}(hh:A.handled=none)(D:ZAp z TI TO i1 i2 l t)(hd:dd ∉ [z,TI,TO,i1,i2,l,t])(hl:xs.size=ks.length)(hly:ys.size=ks.length)(hk:∀ (i:Nat) (k:Key) (v:Value),ks[i]? = some k->xs[i]? = some v->DN k v=true)(hb:ks.length<4000) :
  ∀ (n i:Nat) (s:Shared) (m:List (Key × Value)),ks.length - i=n->i<=ks.length->m.length<=i->ZS s.heap z TI TO i1 i2 l t xs ys i->s.heap.DictOf (B6 prog w) dd m ->
   (∀ h' tk,(∀ c o,c ∉ [z,TO,i1,i2,dd]->s.heap.get? c=some o->h'.get? c=some o)->h'.DictOf (B6 prog w) dd (zipD ((ks.zip ys.toList).drop i) m)->R (.ok (.ret .none)) { s with heap:=h',toks:=tk }) ->
   codeAny (model prog w) A (.builtin "dict.update.loop" ⟨[.ref dd,.ref z,rawInt i,.none],[]⟩) R s:=by
 intro n
 induction n with
 | zero =>
  intro i s m e1 e2 e3 Z Dd hR
  have ei:i=ks.length:=by omega
  subst ei
  refine codeAny_builtin EJ ?_;rw [Around.under_plainId Bi _]
  show wpAny _ A.in1 (pyNext (.ref z) >>= _) _ _ s
  refine qbA (zip_end (by simpa using hh) D Z (Array.getElem?_eq_none (by omega)) fun h' kp=>?_)
  show wpAny _ A.in1 (Builtin.Dict.addKeywords dd [] >>= _) _ _ _
  refine qbA (qcA (qcA (hR h' s.toks (fun c o hc e=>kp c o (fun q=>hc ?_) e) ?_)))
  ·simp only [qnA,qkC,or_false] at q ⊢
   rcases q with q|q|q|q<;>simp [q]
  ·have ed:(ks.zip ys.toList).drop ks.length=[]:=List.drop_of_length_le (by rw [List.length_zip];exact Nat.min_le_left _ _)
   rw [ed]
   obtain ⟨o,es,ep,g,r⟩:=Dd
   refine ⟨o,es,ep,kp _ _ (fun q=>hd ?_) g,r⟩
   simp only [qnA,qkC,or_false] at q ⊢
   rcases q with q|q|q|q<;>simp [q]
 | succ n ih =>
  intro i s m e1 e2 e3 Z Dd hR
  have hi:i<ks.length:=by omega
  have hx:xs[i]? = some xs[i]:=Array.getElem?_eq_getElem (by omega)
  have hy:ys[i]? = some ys[i]:=Array.getElem?_eq_getElem (by omega)
  have hki:DN ks[i] xs[i]=true:=hk i _ _ (qwA hi) hx
  refine codeAny_builtin EJ ?_;rw [Around.under_plainId Bi _]
  show wpAny _ A.in1 (pyNext (.ref z) >>= _) _ _ s
  refine qbA (zip_item D Z hx hy fun h₁ Z₁ P₁ kp=>?_)
  have Dd₁:h₁.DictOf (B6 prog w) dd m:=by
   obtain ⟨o,es,ep,g,r⟩:=Dd
   refine ⟨o,es,ep,kp _ _ (fun q=>hd ?_) g,r⟩
   simp only [qnA,qkC,or_false] at q ⊢
   rcases q with q|q|q|q<;>simp [q]
  show wpAny _ A.in1 (holding [Value.ref s.heap.objs.size] _ >>= _) _ _ _
  refine qbA (qeA (qbA (wpAny_tryCatch ?_)))
  unfold Builtin.Dict.pairItems
  refine qbA (wpAny_typeOf (T := "tuple") ⟨_,P₁,rfl⟩ ?_)
  have ht:(Value.type "tuple" == Value.type "tuple")=true:=by rfl
  rw [if_pos (by rw [ht];simp)]
  refine qbA (wpAny_seqItems (s:={ s with heap:=h₁ }) P₁ rfl (qcA ?_))
  dsimp only
  show wpAny _ A.in1 (holding [xs[i],ys[i]] (dictSet dd xs[i] ys[i])) _ _ _
  refine qeA (wpAny_dictSet_pairs (s:={ s with heap:=h₁ }) (knd:=B6 prog w) (k:=ks[i]) hki Dd₁ (fun h₂ D₂ s₂=>?_) (by rw [qtB];omega))
  replace s₂:Heap.SameBut dd h₁ h₂:=s₂
  have dne:∀ c,c∈[z,TI,TO,i1,i2,l,t]->c≠dd:=fun c hc e=>hd (e ▸ hc)
  have Z₂:ZS h₂ z TI TO i1 i2 l t xs ys (i+1):=by
   obtain ⟨⟨f0,f1,gz,hf⟩,ti,⟨a,b,to⟩,j1,j2,hl',ht'⟩:=Z₁
   have kk:∀ c,c∈[z,TI,TO,i1,i2,l,t]->∀ o,h₁.get? c=some o->h₂.get? c=some o:=fun c hc o e=>(s₂.2 c (dne c hc)).trans e
   have hf':f0 = .none\/∃ (T:Addr) (o:Obj),f0=rawInt T/\h₂.get? T=some o:=by
    rcases hf with q | ⟨T,o,q1,q2⟩
    ·exact .inl q
    ·by_cases q:T=dd
     ·obtain ⟨o',_,_,g',_⟩:=D₂
      exact .inr ⟨T,o',q1,by rw [q];exact g'⟩
     ·exact .inr ⟨T,o,q1,(s₂.2 T q).trans q2⟩
   refine ⟨⟨f0,f1,kk _ (by simp) _ gz,hf'⟩,kk _ (by simp) _ ti,⟨a,b,kk _ (by simp) _ to⟩,j1.at fun o q=>kk _ (by simp) _ q,?_,hl'.at fun o q=>kk _ (by simp) _ q,?_⟩
   ·obtain ⟨o,g,r⟩:=j2;exact ⟨o,kk _ (by simp) _ g,r⟩
   ·obtain ⟨o,g,r⟩:=ht';exact ⟨o,kk _ (by simp) _ g,r⟩
  refine qcA ⟨plainId_quiet Bi _,ih (i+1) _ _ (by omega) hi (qmB stored_len (by omega)) Z₂ D₂ fun h' tk kp' Df=>?_⟩
  refine hR h' tk (fun c o hc e=>kp' c o hc ?_) ?_
  ·have hc':c ∉ [z,TO,i1,i2]:=fun q=>hc (by
    simp only [qnA,qkC,or_false] at q ⊢
    rcases q with q|q|q|q<;>simp [q])
   have hcd:c≠dd:=fun q=>hc (by simp [q])
   exact (s₂.2 c hcd).trans (kp c o hc' e)
  ·have hq:ys.toList.length=ys.size:=rfl
   have hz:i<(ks.zip ys.toList).length:=by rw [List.length_zip,hq];omega
   have ed:(ks.zip ys.toList).drop i=(ks[i],ys[i])::(ks.zip ys.toList).drop (i+1):=by
    rw [List.drop_eq_getElem_cons hz,List.getElem_zip]
    simp
   rw [ed]
   exact Df
end
abbrev zT1 (h:Heap)(l:Addr):Heap:=h.push { cls:=.type "list_iterator",data:=.fields #[.ref l,.int 0 0] }
abbrev zT2 (h:Heap)(l t:Addr):Heap:=(zT1 h l).push { cls:=.type "tuple_iterator",data:=.fields #[.ref t,.int 0 0] }
abbrev zT3 (h:Heap)(l t:Addr):Heap:=(zT2 h l t).push { cls:=.type "tuple",data:=.seq #[.ref h.objs.size,.ref (zT1 h l).objs.size] }
abbrev zT4 (h:Heap)(l t:Addr):Heap:=(zT3 h l t).push { cls:=.type "tuple",data:=.seq #[.none,.none] }
abbrev zT5 (h:Heap)(l t:Addr):Heap:=(zT4 h l t).push { cls:=.type "zip",data:=.fields #[.none,.bool false,.bool false,.ref (zT2 h l t).objs.size,.ref (zT3 h l t).objs.size] }
theorem meets_zipT (l t:Addr)(xs ys:Array Value):Meets (Builtin.«zip.__new__» ⟨[.type "zip",.ref l,.ref t],[]⟩) (fun _ R s=>s.heap.IsList l xs/\s.heap.IsTuple t ys/\R (.ok (.ret (.ref (zT4 s.heap l t).objs.size))) { s with heap:=zT5 s.heap l t }) :=
 .of_wp fun prog w A R s h=>by
  obtain ⟨hp,g,d,tk,os⟩:=s;obtain ⟨h1,h2,h⟩:=h
  have hsub:=sub_zip
  have q1:Heap.IsList (Shared.heap ⟨hp,g,d,tk,os⟩) l xs:=h1
  have q2:Heap.IsTuple (Shared.heap ⟨hp.push { cls:=.type "list_iterator",data:=.fields #[.ref l,.int 0 0] },g,d,tk,os⟩) t ys:=Heap.IsTuple.push h2 _
  wp_walk using wpAny_pyIter_list q1,wpAny_pyIter_tuple q2
  exact ⟨_,rfl,h⟩
section
variable {prog:Program}{w:World}{A:Around}{E:Value->Shared->Prop}{s:Shared}
theorem call_zipT {l t:Addr}{xs ys:Array Value}{Q:Value->Shared->Prop}(hl:s.heap.IsList l xs)(ht:s.heap.IsTuple t ys)
  (h:∀ h',ZS h' (s.heap.objs.size+4) (s.heap.objs.size+2) (s.heap.objs.size+3) s.heap.objs.size (s.heap.objs.size+1) l t xs ys 0->h'.objs.size=s.heap.objs.size+5->(∀ c o,s.heap.get? c=some o->h'.get? c=some o)->Q (.ref (s.heap.objs.size+4)) { s with heap:=h' }) :
  wpAny (model prog w) A (call (.type "zip") [.ref l,.ref t]) Q E s:=by
 refine callType_new F.called_zip (by decide) (F.typeCall_zip_2 _ _) (F.newCall_zip_2 _ _) (fun obj=>F.args_object_init_3 obj _ _) F.entry_zip_new (meets_zipT l t xs ys) ⟨hl,ht,?_⟩
 have z1:(zT1 s.heap l).objs.size=s.heap.objs.size+1:=Heap.size_push ..
 have z2:(zT2 s.heap l t).objs.size=s.heap.objs.size+2:=by rw [Heap.size_push,z1]
 have z3:(zT3 s.heap l t).objs.size=s.heap.objs.size+3:=by rw [Heap.size_push,z2]
 have z4:(zT4 s.heap l t).objs.size=s.heap.objs.size+4:=by rw [Heap.size_push,z3]
 have z5:(zT5 s.heap l t).objs.size=s.heap.objs.size+5:=by rw [Heap.size_push,z4]
 have g5:(zT5 s.heap l t).get? (zT4 s.heap l t).objs.size=some _:=qsB _ rfl
 have g4:(zT5 s.heap l t).get? (zT3 s.heap l t).objs.size=some _:=qrB _ (qsB _ rfl)
 have g3:(zT5 s.heap l t).get? (zT2 s.heap l t).objs.size=some _:=qrB _ (qrB _ (qsB _ rfl))
 have g2:(zT5 s.heap l t).get? (zT1 s.heap l).objs.size=some _:=qrB _ (qrB _ (qrB _ (qsB _ rfl)))
 have g1:(zT5 s.heap l t).get? s.heap.objs.size=some _:=qrB _ (qrB _ (qrB _ (qrB _ (qsB _ rfl))))
 have kp:∀ c o,s.heap.get? c=some o->(zT5 s.heap l t).get? c=some o:=fun c o x=>qrB _ (qrB _ (qrB _ (qrB _ (qrB _ x))))
 show _/\_
 rw [z2,z3,z4] at g5;rw [z1,z2] at g3;rw [z3] at g4;rw [z1] at g2;rw [z4]
 refine ⟨⟨_,g5,rfl⟩,h _ ⟨⟨.none,.bool false,g5,.inl rfl⟩,g3,⟨_,_,g4⟩,⟨_,g1,rfl,rfl⟩,⟨_,g2,rfl,rfl⟩,hl.at fun o q=>kp _ _ q,?_⟩ z5 kp⟩
 obtain ⟨o,g,r⟩:=ht
 exact ⟨o,kp _ _ g,r⟩
theorem iter_zip {z TI TO:Addr}{f0 f1:Value}{Q:Value->Shared->Prop}(hz:s.heap.get? z=some (HC f0 f1 TI TO))(h:Q (.ref z) s):wpAny (model prog w) A (pyIter (.ref z)) Q E s:=by
 have hT:s.TypeIs (.ref z) "zip" := ⟨_,hz,rfl⟩
 refine wpAny_pyIter_slot hT F.slot_zip_iter (qoC F.slot_zip_iter hT F.entry_zip_iter ?_ (F.args_zip_iter_1 _))
 exact qcA ⟨_,rfl,"zip",_,hT,F.slot_zip_next.lookup,h⟩
theorem call_dictOfZ {Q:Value->Shared->Prop}{z TI TO i1 i2 l t:Addr}{xs ys:Array Value}{ks:List Key}(hh:A.handled=none)(D:ZAp z TI TO i1 i2 l t)(Z:ZS s.heap z TI TO i1 i2 l t xs ys 0)(hl:xs.size=ks.length)(hly:ys.size=ks.length)(hk:∀ (i:Nat) (k:Key) (v:Value),ks[i]? = some k->xs[i]? = some v->DN k v=true)(hb:ks.length<4000)
  (h:∀ h' tk,(∀ c o,c ∉ [z,TO,i1,i2]->s.heap.get? c=some o->h'.get? c=some o)->h'.DictOf (B6 prog w) s.heap.objs.size (zipD (ks.zip ys.toList) [])->Q (.ref s.heap.objs.size) { s with heap:=h',toks:=tk }) :
  wpAny (model prog w) A (call (.type "dict") [.ref z]) Q E s:=by
 refine callType_codes (Q₁:=fun obj s₁=>obj = .ref s.heap.objs.size/\s₁ = { s with heap:=s.heap.push { cls:=.type "dict",data:=.dict #[] } }) F.kt_called_dict (F.kt_typeCall_dict_1 _) F.entry_dict_init (kt_code_dict_new _ ⟨rfl,rfl⟩) ?_
 rintro obj s₁ ⟨rfl,rfl⟩
 have new:(s.heap.push { cls:=.type "dict",data:=.dict #[] }).DictOf (B6 prog w) s.heap.objs.size []:=Heap.DictOf.new s.heap
 have Z1:=Z.keep (h':=s.heap.push { cls:=.type "dict",data:=.dict #[] }) fun c o q=>qrB _ q
 obtain ⟨f0,f1,gz,_⟩:=Z1.z
 refine ⟨new.typeIs,F.args_dict_init_2 _ _,?_⟩
 unfold Builtin.«dict.__init__»
 refine qbA ?_
 unfold Builtin.Dict.selfAndRest
 refine qbA (wpAny_notOrdered_dict new.typeIs ?_)
 show wpAny _ _ (pure (s.heap.objs.size,[Value.ref z])) _ _ _
 refine qcA ?_
 show wpAny _ _ (Builtin.Dict.updateFrom "dict.__init__" s.heap.objs.size (.ref z) [] .none) _ _ _
 unfold Builtin.Dict.updateFrom
 refine qbA (wpAny_typeOf (T := "zip") ⟨_,gz,rfl⟩ ?_)
 rw [if_pos (by decide)]
 refine qbA (zip_keys_none (by simpa using hh) gz fun h₁ t₁ kp=>?_)
 rw [if_pos (show (none:Option Value).isNone=true from rfl)]
 refine qbA (qdA ?_)
 obtain ⟨f0',f1',gz',_⟩:=(Z1.keep kp).z
 refine qbA (iter_zip (s:=_) gz' ?_)
 have hd:s.heap.objs.size ∉ [z,TI,TO,i1,i2,l,t]:=by
  have a1:z<s.heap.objs.size:=by obtain ⟨_,_,g,_⟩:=Z.z;exact qqB g
  have a2:TI<s.heap.objs.size:=qqB Z.ti
  have a3:TO<s.heap.objs.size:=by obtain ⟨_,_,g⟩:=Z.to;exact qqB g
  have a4:i1<s.heap.objs.size:=by obtain ⟨_,g,_⟩:=Z.i1;exact qqB g
  have a5:i2<s.heap.objs.size:=by obtain ⟨_,g,_⟩:=Z.i2;exact qqB g
  have a6:l<s.heap.objs.size:=by obtain ⟨_,g,_⟩:=Z.l;exact qqB g
  have a7:t<s.heap.objs.size:=by obtain ⟨_,g,_⟩:=Z.t;exact qqB g
  intro q
  simp only [qnA,qkC,or_false] at q
  rcases q with q|q|q|q|q|q|q
  ·exact qsC a1 q
  ·exact qsC a2 q
  ·exact qsC a3 q
  ·exact qsC a4 q
  ·exact qsC a5 q
  ·exact qsC a6 q
  ·exact qsC a7 q
 have Dn:h₁.DictOf (B6 prog w) s.heap.objs.size []:=by
  obtain ⟨o,es,ep,g,r⟩:=new
  exact ⟨o,es,ep,kp _ _ g,r⟩
 refine qcA ⟨?_,du_loop (ks:=ks) (by simpa using hh) D hd hl hly hk hb _ 0 _ [] rfl (qrC _) (qrC _) (Z1.keep kp) Dn fun h' tk kp' Df=>?_⟩
 ·exact plainId_quiet Bi _
 ·refine ⟨rfl,h h' tk (fun c o hc e=>kp' c o ?_ (kp _ _ (qrB _ e))) Df⟩
  intro q
  simp only [qnA,qkC,or_false] at q
  rcases q with q|q|q|q|q
  ·exact hc (by simp [q])
  ·exact hc (by simp [q])
  ·exact hc (by simp [q])
  ·exact hc (by simp [q])
  ·rw [q] at e;exact absurd (qqB e) (qnB _)
end
theorem kv_zip:∀ {ks:List Key}{ys:List V}{vs:List Value}{kvs:List (Key × V)}{ms:List (Key × Value)},Vals ys vs->KV kvs ms->KV ((ks.zip ys).foldl (fun m q=>Ct m q.1 q.2) kvs) (zipD (ks.zip vs) ms)
 | [],_,_,_,_,_,h=>by simpa [zipD] using h
 | k::ks,_,_,_,_,.nil,h=>by simpa [zipD] using h
 | k::ks,y::ys,v::vs,kvs,ms,.cons r rs,h=>by
  rw [List.zip_cons_cons,List.zip_cons_cons,qqC]
  exact kv_zip (ks:=ks) rs (h.put k r)
theorem putK_len (m:List (Key × V))(k:Key)(v:V):(Ct m k v).length<=m.length+1:=by
 unfold Ct
 split
 ·rw [qfA];exact Nat.le_succ _
 ·rw [qgA];exact qkB _
theorem zipK_len:∀ (l:List (Key × V)) (m:List (Key × V)),(l.foldl (fun m q=>Ct m q.1 q.2) m).length<=m.length+l.length
 | [],m=>qkB _
 | q::l,m=>by
  rw [qqC,qhA]
  have:=zipK_len l (Ct m q.1 q.2)
  have:=putK_len m q.1 q.2
  omega
def tDictZ (K:FZ9)(ta:TA):TE:=fun σ H Q=>ta σ H fun us H1=>∃ (l t:Addr) (ns:List Int) (ys:List V),us=[.ref l,.ref t]/\SqL K H1 l (ns.map V.int)/\SqT K H1 t ys/\ns.length=ys.length/\ns.length<4000 /\
 ∀ p,H1 p=none->Q (.ref p) (upd H1 p (.dK (((ns.map Sum.inl).zip ys).foldl (fun m q=>Ct m q.1 q.2) [])))
theorem vals_int:∀ {ns:List Int}{vs:List Value},Vals (ns.map V.int) vs->∀ (i:Nat) (k:Key) (v:Value),(ns.map (Sum.inl:Int->Key))[i]? = some k->vs[i]? = some v->DN k v=true
 | [],_,_,i,k,v,h,_=>by simp at h
 | n::ns,_,.cons r rs,0,k,v,h1,h2=>by
  simp at h1 h2
  subst h1 h2
  obtain ⟨t,rfl⟩:=r
  show Value.isInt n (Value.int n t)=true
  simp [Value.isInt]
 | n::ns,_,.cons r rs,i+1,k,v,h1,h2=>vals_int rs i k v (by simpa using h1) (by simpa using h2)
theorem zipZ_len (ns:List Int)(ys:List V)(h:ns.length<4000):List.length (((ns.map (Sum.inl:Int->Key)).zip ys).foldl (fun m q=>Ct m q.1 q.2) ([]:List (Key × V)))<=sizeLine:=by
 have:=zipK_len ((ns.map (Sum.inl:Int->Key)).zip ys) []
 rw [List.length_zip,qfA] at this
 have z:min ns.length ys.length<=ns.length:=Nat.min_le_left _ _
 refine qmB this (qmB (Nat.add_le_add_left z _) (qmB (Nat.add_le_add_left (Nat.le_of_lt h) _) ?_))
 decide
theorem zap_new {n l t:Nat}(h1:l<n)(h2:t<n):ZAp (n+4) (n+2) (n+3) n (n+1) l t:=by
 refine ⟨⟨?_,?_,?_,?_⟩,⟨?_,?_,?_,?_,?_,?_⟩,⟨?_,?_,?_,?_⟩,⟨?_,?_,?_,?_⟩⟩<;>(intro e;replace e:@Eq Nat _ _:=e;omega)
theorem pe_dictZ {X:Cx}{K:FZ9}{a b:Expr}{ta:TA}{p p2 pos pos2:Pos}(hc:X.calm=true)(hK:X.K=K)(hg:Gl X "dict")(hm:X.mg "dict" = none)(hg2:Gl X "zip")(hm2:X.mg "zip" = none)(ha:PA X [a,b] ta)
  (hs:starEach [a,b] X.env=[(false,eval a X.env),(false,eval b X.env)]:=by rfl) (hs2:starEach [b] X.env=[(false,eval b X.env)]:=by rfl)
  (hs3:starEach [.Call (.Name "zip" p2) [a,b] [] pos2] X.env=[(false,eval (.Call (.Name "zip" p2) [a,b] [] pos2) X.env)]:=by rfl) :
  PE X (.Call (.Name "dict" p) [.Call (.Name "zip" p2) [a,b] [] pos2] [] pos) (tDictZ K ta):=by
 subst hK
 intro pins s σ H R I h
 refine Call_ (GG I hg hm bt_dict (PyProof.Rows.callWith_type1 ?_ (by rw [hs3];rfl) rfl))
 rw [hs3]
 refine Calls.spliced_cons ?_
 refine Call_ (GG I hg2 hm2 boot_zip (PyProof.Rows.callWith_type1 (thn (ha pos2 pins s σ H _ I h) fun us s1 ⟨vs,H1,I1,r1,q1⟩=>?_) (by rw [hs,hs2]) (by rw [hs2];rfl)))
 obtain ⟨l,t,ns,ys,e,hq1,hq2,hle,hlt,q⟩:=q1
 subst e
 obtain ⟨u1,u2,rfl,r1,r2⟩:=vals2 r1
 cases r1
 cases r2
 obtain ⟨its1,rv1,pl1,_⟩:=I1.list hq1
 obtain ⟨its2,rv2,pl2,_⟩:=I1.tuple hq2
 have lt1:l<s1.heap.objs.size:=by obtain ⟨_,e,_⟩:=pl1.isList;exact qqB e
 have lt2:t<s1.heap.objs.size:=by obtain ⟨_,e,_⟩:=pl2;exact qqB e
 refine call_zipT pl1.isList pl2 fun h' Z sz kp=>?_
 refine Calls.spliced_nil ?_
 have I2:Inv X pins σ H1 { s1 with heap:=h' }:=I1.kept (t':=s1.toks) kp
 have e1:its1.length=ns.length:=by rw [<- rv1.length,qfA]
 have e2:its2.length=ns.length:=by rw [<- rv2.length];exact hle.symm
 refine call_dictOfZ (s:={ s1 with heap:=h' }) (ks:=ns.map Sum.inl) (I1.ok.hd hc) (zap_new lt1 lt2) Z (by simpa using e1) (by simpa using e2) (fun i k v z1 z2=>vals_int rv1 i k v z1 (by simpa using z2)) (by simpa using hlt) fun h2 tk kp2 Df=>?_
 refine ⟨.ref h'.objs.size,_,?_,rfl,q h'.objs.size (I2.hok.fresh (qkB _))⟩
 have kv:=kv_zip (ks:=ns.map Sum.inl) (kvs:=[]) (ms:=[]) rv2 .nil
 have ok:ObjOk X.prog X.w (upd H1 h'.objs.size (.dK (((ns.map Sum.inl).zip ys).foldl (fun m q=>Ct m q.1 q.2) []))) h2 h'.objs.size (.dK (((ns.map Sum.inl).zip ys).foldl (fun m q=>Ct m q.1 q.2) [])):=by
  refine ⟨?_,beq_eq_false_iff_ne.mpr (Ne.symm (qjC I2.big)),_,kv,Df⟩
  exact zipZ_len ns ys hlt
 refine I1.laid (t':=tk) (fun b u q=>kp2 b u (fun z=>?_) (kp _ _ q)) (by rw [sz];omega) ok
 have lt:=qqB q
 simp only [qnA,qkC,or_false] at z
 rcases z with z|z|z|z
 ·rw [z] at lt;exact absurd lt (Nat.not_lt.mpr (Nat.le_add_right _ 4))
 ·rw [z] at lt;exact absurd lt (Nat.not_lt.mpr (Nat.le_add_right _ 3))
 ·rw [z] at lt;exact absurd lt (Nat.not_lt.mpr (qkB _))
 ·rw [z] at lt;exact absurd lt (Nat.not_lt.mpr (Nat.le_add_right _ 1))
def dictZ {α:Type}(ns:List Int)(bs:List α):Option (Mp α):=if ns.length=bs.length/\ns.length<4000 then some ⟨(ns.zip bs).foldl (fun m q=>putM m q.1 q.2) []⟩ else none
section
variable {K:FZ9}{σ:St}{G H G0 H0:Hp}{α β:Type}[Rp α][Rp β]{ta tb:TE}
theorem paired_zipM {G:Hp}:∀ {ns:List Int}{ys:List V}{bs:List α}{kvs:List (Key × V)}{l:List (Int × α)},Paired (Rp.rel K G) ys bs->Paired (RelE K G) kvs l->Paired (RelE K G) (((ns.map (Sum.inl:Int->Key)).zip ys).foldl (fun m q=>Ct m q.1 q.2) kvs) ((ns.zip bs).foldl (fun m q=>putM m q.1 q.2) l)
 | [],_,_,_,_,_,h=>h
 | n::ns,_,_,_,_,.nil,h=>h
 | n::ns,y::ys,b::bs,kvs,l,.cons r rs,h=>by
  rw [qcB,List.zip_cons_cons,List.zip_cons_cons,qqC,qqC]
  exact paired_zipM (ns:=ns) rs (paired_putM r h)
theorem ev_dictZ {la:Option (List Int)}{lb:Option (Tp α)}(ea:EV K ta σ G la)(eb:EV K tb σ G lb):EV K (tDictZ K (AQ ta (AQ tb BL))) σ G (la.bind fun a=>lb.bind fun b=>dictZ a b.l):=by
 intro G1 s1 c hc H sH Q k
 obtain ⟨a,ha,hc⟩:=qaA.mp hc
 obtain ⟨b,hb,hc⟩:=qaA.mp hc
 unfold dictZ at hc
 split at hc
 ·rename_i hl
  cases hc
  refine ea G1 s1 a ha H sH _ fun v G2 H2 x2 r2=>?_
  refine eb G2 (s1.trans x2.gg) b hb H2 x2.gh _ fun u G3 H3 x3 r3=>?_
  obtain ⟨l,xs,rfl,h,z,p⟩:=Rp.mono x3.gg r2
  obtain ⟨t,ys,rfl,h',z',p'⟩:=r3
  have e:=Db p
  subst e
  have hly:ys.length=b.l.length:=Co p'
  refine ⟨l,t,a,ys,rfl,.inl (x3.gh.rd h),x3.gh.tup h',by rw [hly];exact hl.1,hl.2,fun q hq=>?_⟩
  have gq:G3 q=none:=Same.free x3.gh hq
  exact k _ (upd G3 q _) _ ((x2.trans x3).trans (.new x3.gh hq)) ⟨q,_,rfl,AJ,Paired.imp' (fun _ _ r=>⟨r.1,Rp.mono (Same.new gq) r.2⟩) (paired_zipM (ns:=a) p' .nil)⟩
 ·cases hc
end
def GW:List (Str × Int)->Str->Option Int
 | [],_=>none
 | (y,i)::r,x=>cond (decide (y=x)) (some i) (GW r x)
def EntC:List DictEntry->List (Str × Int)->Prop
 | [],[]=>True
 | e::es,q::l=>(∃ t u,e.key = .str q.1 t/\e.val = .int q.2 u)/\EntC es l
 | _,_=>False
structure CDict (w:World)(K:FZ9)(a:Addr)(l:List (Str × Int)):Prop where
 lo:(a == sysModules)=false
 ex:∃ es n,K.lookup a=some ⟨.type "dict",none,.dict es n,#[]⟩/\PySem.W.KeysLit w.params es.toList/\EntC es.toList l
theorem find_ent:∀ {es:List DictEntry}{l:List (Str × Int)}(x:Str),EntC es l ->
  match GW l x with
  | some i=>∃ u,(es.find? fun e=>Value.isStrOf x e.key).map (·.val)=some (.int i u)
  | none=>(es.find? fun e=>Value.isStrOf x e.key).map (·.val)=none
 | [],[],x,_=>rfl
 | e::es,(y,i)::l,x,⟨⟨t,u,h1,h2⟩,r⟩=>by
  have ih:=find_ent x r
  have hk:Value.isStrOf x e.key=decide (y=x):=by
   rw [h1]
   show Value.isStrOf x (.str y t)=_
   by_cases q:y=x
   ·subst q;simp [Value.isStrOf]
   ·rw [decide_eq_false q]
    simp [Value.isStrOf,q]
  unfold GW
  rw [List.find?_cons,hk]
  by_cases q:y=x
  ·rw [decide_eq_true q]
   exact ⟨u,by rw [<- h2];rfl⟩
  ·rw [decide_eq_false q]
   exact ih
section
variable {X:Cx}{i o:Expr}{ty:TE}{pos:Pos}{a:Addr}{w:World}{K:FZ9}{l:List (Str × Int)}
theorem CDict.map {prog:Program}{h:Heap}(C:CDict w K a l)(X:K.In h):∃ f,h.MapOf (strKind prog w) a f/\∀ x,match GW l x with
  | some i=>∃ u,f x=some (.int i u)
  | none=>f x=none:=by
 obtain ⟨es,n,hl,hk,he⟩:=C.ex
 refine ⟨_,PySem.W.mapOf_K X hl hk,fun x=>?_⟩
 have:=find_ent x he
 obtain ⟨es⟩:=es
 show match GW l x with
  | some i=>∃ u,findBy Value.isStrOf _ x=some (.int i u)
  | none=>findBy Value.isStrOf _ x=none
 unfold findBy
 rw [List.find?_toArray]
 exact this
def tInC (l:List (Str × Int))(ty:TE):TE:=fun σ H Q=>ty σ H fun y H1=>∃ z,y = .str z/\Q (.bl (GW l z).isSome) H1
def tGetC (l:List (Str × Int))(ty:TE):TE:=fun σ H Q=>ty σ H fun y H1=>∃ z v,y = .str z/\GW l z=some v/\Q (.int v) H1
theorem pc_inC (hw:X.w=w)(hK:X.K=K)(C:CDict w K a l)(hi:PE X i ty)(ho:PE X o (tC (.ref a))):PC X .In i o (tInC l ty):=by
 subst hw hK
 intro pins s σ H Q I h
 refine thn (hi pins s σ H _ I h) fun iv s1 ⟨y,H1,I1,ry,z,ey,q1⟩=>thn (ho pins s1 σ H1 (fun v H'=>v = .ref a/\H'=H1) I1 ⟨rfl,rfl⟩) fun u s2 ⟨x,H2,I2,rx,e1,e2⟩=>?_
 subst ey e1 e2
 obtain ⟨t,rfl⟩:=ry
 obtain rfl:u=Value.ref a:=rx
 obtain ⟨f,hf,hx⟩:=C.map (prog:=X.prog) (fun b o e=>I2.kIn b o e)
 refine wpAny_in_of (strKind_is X.prog X.w z t) C.lo hf ⟨.bl (f z).isSome,H2,I2.tok _,rfl,?_⟩
 have hz:=hx z
 cases e:GW l z with
 | some i =>
  rw [e] at hz q1
  obtain ⟨u,hz⟩:=hz
  rw [hz]
  exact q1
 | none =>
  rw [e] at hz q1
  rw [show f z=none from hz]
  exact q1
theorem pe_inC (hw:X.w=w)(hK:X.K=K)(C:CDict w K a l)(hi:PE X i ty)(ho:PE X o (tC (.ref a)))(hm:behindInMarks .In o=false):PE X (.Compare i [.In] [o] pos) (tInC l ty):=pe_cmp (pc_inC hw hK C hi ho) hm
theorem pe_getC (hw:X.w=w)(hK:X.K=K)(C:CDict w K a l)(ho:PE X o (tC (.ref a)))(hi:PE X i ty)(hs:NoSl i):PE X (.Subscript o i pos) (tGetC l ty):=by
 subst hw hK
 intro pins s σ H Q I h
 refine subD_of PySem.F.slot_dict_getitem.lookup hs (thn (ho pins s σ H (fun v H'=>v = .ref a/\H'=H) I ⟨rfl,rfl⟩) fun u s1 ⟨x,H1,I1,rx,e1,e2⟩=>?_)
 subst e1 e2
 refine thn (hi pins s1 σ H1 _ I1 h) fun iv s2 ⟨y,H2,I2,ry,z,v,ey,g,q2⟩=>?_
 subst ey
 obtain ⟨t,rfl⟩:=ry
 obtain rfl:u=Value.ref a:=rx
 obtain ⟨f,hf,hx⟩:=C.map (prog:=X.prog) (fun b o e=>I2.kIn b o e)
 have hz:=hx z
 rw [g] at hz
 obtain ⟨u,hz⟩:=hz
 exact ⟨hf.typeIs,wpAny_getItem_of (strKind_is X.prog X.w z t) hf hz ⟨.int v,H2,I2.tok _,⟨u,rfl⟩,q2⟩⟩
end
section
variable {K:FZ9}{σ:St}{G:Hp}{ty:TE}{l:List (Str × Int)}
theorem ev_inC {mx:Option Str}(e:EV K ty σ G mx):EV K (tInC l ty) σ G (mx.bind fun x=>some (GW l x).isSome):=by
 intro G1 s1 c hc H sH Q k
 obtain ⟨x,hx,hc⟩:=qaA.mp hc
 cases hc
 refine e G1 s1 x hx H sH _ fun v G2 H2 x2 r2=>?_
 exact ⟨x,r2.1,k _ G2 H2 x2 rfl⟩
theorem ev_getC {mx:Option Str}(e:EV K ty σ G mx):EV K (tGetC l ty) σ G (mx.bind fun x=>GW l x):=by
 intro G1 s1 c hc H sH Q k
 obtain ⟨x,hx,hc⟩:=qaA.mp hc
 refine e G1 s1 x hx H sH _ fun v G2 H2 x2 r2=>?_
 exact ⟨x,c,r2.1,hc,k _ G2 H2 x2 rfl⟩
end
end L2
namespace HT
open PySem PySem.Spec PyProof.Rows
section
variable {prog:Program}{w:World}{A:Around}{E:Value->Shared->Prop}{s:Shared}
theorem getItem_tuple_all {t sl:Addr}{items:Array Value}{vl vu:Value}{lo hi:Option Int}{Q:Value->Shared->Prop}(ht:IsTup s.heap t items)(hs:s.heap.IsSliceOf sl vl vu .none)(pl:IsPart vl lo)(pu:IsPart vu hi)
  (hw:sIx items.size 0 lo=0/\sIx items.size items.size hi=items.size) (h:Q (.ref t) s):wpAny (model prog w) A (getItem (.ref t) (.ref sl)) Q E s:=by
 obtain ⟨os,hos,hcs,hds⟩:=id hs
 have hTs:s.TypeIs (.ref sl) "slice" := ⟨os,hos,hcs⟩
 unfold getItem
 try with_reducible refine qeA ?_
 first|refine qbA (qcA ?_)|skip
 refine qbA (wpAny_sequenceKey ht.typeIs (by decide) ?_)
 refine qbA (wpAny_callSpecial?_slot (name:=Str.ofString "__getitem__") ht.typeIs PyProof.Rows.slot_tuple_getitem (qoC PyProof.Rows.slot_tuple_getitem ht.typeIs entry_tuple_getitem ?_ (args_tuple_getitem _ _)))
 show wpAny _ _ (Builtin.Tuple.tupleItemsOf (.ref t) >>= _) _ _ s
 refine qbA (tupleItemsOf_ ht ?_)
 refine qbA (wpAny_typeOf hTs ?_)
 rw [if_pos (by decide)]
 refine qbA (FP hs pl pu ?_)
 show wpAny _ _ (if (((sIx items.size 0 lo:Nat):Int) == 0 && (1:Int) == 1 && (sIx items.size items.size hi - sIx items.size 0 lo) == items.size)=true then _ else _) _ _ s
 rw [if_pos (by rw [hw.1,hw.2];simp)]
 refine qbA ?_
 unfold Builtin.Tuple.tupleIsExact
 refine qbA (wpAny_typeOf ht.typeIs (qcA ?_))
 rw [if_pos (by decide)]
 refine qbA (qdA ?_)
 exact qcA ⟨_,rfl,qcA h⟩
end
end HT
namespace L2
open PySem PySem.Spec PyProof.Rows
def rSlA (K:FZ9):V->Option Int->Option Int->Hp->VK->Prop:=fun x lo hi H Q=>∃ a xs,x = .ref a/\SqT K H a xs /\
 ((HT.sIx xs.length 0 lo=0/\HT.sIx xs.length xs.length hi=xs.length)->Q (.ref a) H) /\
 (¬ (HT.sIx xs.length 0 lo=0/\HT.sIx xs.length xs.length hi=xs.length)->∀ p,H p=none->Q (.ref p) (upd H p (.tup (cutV xs lo hi))))
theorem sl_tupA {X:Cx}{K:FZ9}(h:X.K=K):SlR X (rSlA K):=by
 subst h
 intro pins s σ H x v vl vu lo hi sl Q I rx hs pl pu h
 obtain ⟨a,xs,rfl,hx,q1,q2⟩:=h
 by_cases hw:HT.sIx xs.length 0 lo=0/\HT.sIx xs.length xs.length hi=xs.length
 ·cases rx
  obtain ⟨its,r,ht,hz⟩:=I.tuple hx
  have hlen:its.toArray.size=xs.length:=by rw [qaC];exact r.length.symm
  exact ⟨"tuple",_,PyProof.Rows.slot_tuple_getitem.lookup,ht.typeIs,HT.getItem_tuple_all ht hs pl pu (by rw [hlen];exact hw) ⟨.ref a,H,I,rfl,q1 hw⟩⟩
 ·exact sl_tup pins s σ H _ v vl vu lo hi sl Q I rx hs pl pu ⟨a,xs,rfl,hx,hw,q2 hw⟩
theorem vals4' {x y z w:V}{us:List Value}(h:Vals [x,y,z,w] us):∃ a b c d,us=[a,b,c,d]/\RelV x a/\RelV y b/\RelV z c/\RelV w d:=by
 cases h with
 | cons r t =>
  obtain ⟨a,b,c,rfl,h1,h2,h3⟩:=vals3' t
  exact ⟨_,_,_,_,rfl,r,h1,h2,h3⟩
def isT4 (K:FZ9){α β γ δ:Type}(R:Hp->V->α->Prop)(S:Hp->V->β->Prop)(T:Hp->V->γ->Prop)(U:Hp->V->δ->Prop):Hp->V->T4 α β γ δ->Prop:=fun H x p=>∃ t a b c d,x = .ref t/\SqT K H t [a,b,c,d]/\R H a p.a/\S H b p.b/\T H c p.c/\U H d p.d
theorem eqT4 {K:FZ9}{k:Nat}{α β γ δ:Type}[DecidableEq α][DecidableEq β][DecidableEq γ][DecidableEq δ]{R:Hp->V->α->Prop}{S:Hp->V->β->Prop}{T:Hp->V->γ->Prop}{U:Hp->V->δ->Prop}(E:EqTy K k R)(G:EqTy K k S)(F:EqTy K k T)(D:EqTy K k U):EqTy K (k+1) (isT4 K R S T U):=by
 have fn:∀ {X:Cx}{pins:List (Addr × Obj)}{σ:St}{H:Hp}{s:Shared}{x:V}{a b:T4 α β γ δ},X.K=K->Inv X pins σ H s->isT4 K R S T U H x a->isT4 K R S T U H x b->a=b:=by
  intro X pins σ H s x a b hK I ha hb
  obtain ⟨l,x1,x2,x3,x4,rfl,h1,p1,p2,p3,p4⟩:=ha
  obtain ⟨l',y1,y2,y3,y4,e,h2,q1,q2,q3,q4⟩:=hb
  cases e
  subst hK
  have:=I.tuple_inj h1 h2
  cases this
  obtain ⟨a1,a2,a3,a4⟩:=a
  obtain ⟨b1,b2,b3,b4⟩:=b
  have e1:a1=b1:=E.fn rfl I p1 q1
  have e2:a2=b2:=G.fn rfl I p2 q2
  have e3:a3=b3:=F.fn rfl I p3 q3
  have e4:a4=b4:=D.fn rfl I p4 q4
  rw [e1,e2,e3,e4]
 have rc:∀ {X:Cx}{pins:List (Addr × Obj)}{σ:St}{H:Hp}{s:Shared}{x y:V}{u v:Value}{a b:T4 α β γ δ}(A:Around),X.K=K->Inv X pins σ H s->A.units+(k+1)<cLine->RelV x u->RelV y v->isT4 K R S T U H x a->isT4 K R S T U H y b ->
   SeqAt.RcAt A s u v (decide (a=b))/\SeqAt.RcNeAt A s u v (!decide (a=b)):=by
  intro X pins σ H s x y u v a b A hK I hu r1 r2 ha hb
  obtain ⟨l,x1,x2,x3,x4,rfl,h1,p1,p2,p3,p4⟩:=ha
  obtain ⟨l',y1,y2,y3,y4,rfl,h2,q1,q2,q3,q4⟩:=hb
  cases r1;cases r2
  subst hK
  obtain ⟨us,rx,plx,_⟩:=I.tuple h1
  obtain ⟨vs,ry,ply,_⟩:=I.tuple h2
  obtain ⟨u1,u2,u3,u4,rfl,ru1,ru2,ru3,ru4⟩:=vals4' rx
  obtain ⟨v1,v2,v3,v4,rfl,rv1,rv2,rv3,rv4⟩:=vals4' ry
  have e1:=E.eq A.in1 rfl I (show A.units+1+k<cLine by omega) ru1 rv1 p1 q1
  have e2:=G.eq A.in1 rfl I (show A.units+1+k<cLine by omega) ru2 rv2 p2 q2
  have e3:=F.eq A.in1 rfl I (show A.units+1+k<cLine by omega) ru3 rv3 p3 q3
  have e4:=D.eq A.in1 rfl I (show A.units+1+k<cLine by omega) ru4 rv4 p4 q4
  have it:∀ j (h1:j < [u1,u2,u3,u4].toArray.size) (h2:j < [v1,v2,v3,v4].toArray.size),SeqAt.EqAt A.in1 s [u1,u2,u3,u4].toArray[j] [v1,v2,v3,v4].toArray[j] ((fun j=>if j=0 then decide (a.a=b.a) else if j=1 then decide (a.b=b.b) else if j=2 then decide (a.c=b.c) else decide (a.d=b.d)) j):=by
   intro j h1 h2
   match j,h1 with
   | 0,_=>exact e1
   | 1,_=>exact e2
   | 2,_=>exact e3
   | 3,_=>exact e4
   | j+4,h=>exact absurd h (by simp)
  have ed:((List.range (min [u1,u2,u3,u4].toArray.size [v1,v2,v3,v4].toArray.size)).all (fun j=>if j=0 then decide (a.a=b.a) else if j=1 then decide (a.b=b.b) else if j=2 then decide (a.c=b.c) else decide (a.d=b.d)) && [u1,u2,u3,u4].toArray.size == [v1,v2,v3,v4].toArray.size)=decide (a=b):=by
   apply Bool.eq_iff_iff.mpr
   rw [decide_eq_true_iff]
   constructor
   ·intro h
    have h:(decide (a.a=b.a) && (decide (a.b=b.b) && (decide (a.c=b.c) && (decide (a.d=b.d) && true))) && true)=true:=h
    simp only [Bool.and_true,qtC,decide_eq_true_iff] at h
    obtain ⟨a1,a2,a3,a4⟩:=a
    obtain ⟨b1,b2,b3,b4⟩:=b
    obtain ⟨h1,h2,h3,h4⟩:=h
    dsimp only at h1 h2 h3 h4
    rw [h1,h2,h3,h4]
   ·rintro rfl
    show (decide (a.a=a.a) && (decide (a.b=a.b) && (decide (a.c=a.c) && (decide (a.d=a.d) && true))) && true)=true
    simp
  rw [<- ed]
  exact ⟨SeqAt.RcAt.tuples plx ply (by omega) it,SeqAt.RcNeAt.tuples plx ply (by omega) it⟩
 refine ⟨fn,?_,rc⟩
 intro X pins σ H s x y u v a b A hK I hu r1 r2 ha hb
 have h:=(rc A hK I hu r1 r2 ha hb).1
 obtain ⟨l,x1,x2,x3,x4,rfl,h1,p1,p2,p3,p4⟩:=id ha
 obtain ⟨l',y1,y2,y3,y4,rfl,h2,q1,q2,q3,q4⟩:=id hb
 cases r1;cases r2
 by_cases e:l=l'
 ·subst e
  have:a=b:=fn hK I ha hb
  rw [decide_eq_true this]
  exact SeqAt.EqAt.same _
 ·exact SeqAt.EqAt.of_refs e h
instance reT4 {α β γ δ:Type}[Rp α][DecidableEq α][RpE α][Rp β][DecidableEq β][RpE β][Rp γ][DecidableEq γ][RpE γ][Rp δ][DecidableEq δ][RpE δ]:RpE (T4 α β γ δ) :=
 ⟨max (max (RpE.k α) (RpE.k β)) (max (RpE.k γ) (RpE.k δ))+1,fun K=>eqT4 ((RpE.ty (α:=α) K).up (qmB (Nat.le_max_left _ _) (Nat.le_max_left _ _))) ((RpE.ty (α:=β) K).up (qmB (Nat.le_max_right _ _) (Nat.le_max_left _ _))) ((RpE.ty (α:=γ) K).up (qmB (Nat.le_max_left _ _) (Nat.le_max_right _ _))) ((RpE.ty (α:=δ) K).up (qmB (Nat.le_max_right _ _) (Nat.le_max_right _ _)))⟩
theorem nxt_ {D:Ends}{σ:St}{H:Hp}(h:D.nx σ H):CI D σ H:=h
def siK:SI->Key
 | .s x=>.inr x
 | .i n=>.inl n
theorem siK_inj:∀ {a b:SI},siK a=siK b->a=b
 | .s x,.s y,e=>by rw [Sum.inr.inj e]
 | .s _,.i _,e=>nomatch e
 | .i _,.s _,e=>nomatch e
 | .i m,.i n,e=>by rw [Sum.inl.inj e]
theorem keys_inj:∀ {l m:List SI},l.map siK=m.map siK->l=m
 | [],[],_=>rfl
 | [],_::_,e=>nomatch e
 | _::_,[],e=>nomatch e
 | a::l,b::m,e=>by
  rw [qcB,qcB] at e
  obtain ⟨h1,h2⟩:=qhC e
  rw [siK_inj h1,keys_inj h2]
def D5 (r:Tp SI):List Key:=r.l.map siK
theorem rowK_inj {a b:Tp SI}(e:D5 a=D5 b):a=b:=by
 cases a
 cases b
 exact congrArg Tp.mk (keys_inj e)
def Gh:Nat->List (Tp SI)->List (List Key × V)
 | _,[]=>[]
 | i,r::rs=>(D5 r,.int (i:Int))::Gh (i+1) rs
def Hg:Nat->List (Tp SI)->Tp SI->Option Int
 | _,[],_=>none
 | i,a::rs,r=>if a=r then some (i:Int) else Hg (i+1) rs r
theorem val_enc (r:Tp SI):∀ (rows:List (Tp SI)) (i:Nat),D7 (Gh i rows) (D5 r)=(Hg i rows r).map V.int
 | [],_=>rfl
 | a::rs,i=>by
  unfold Gh Hg
  by_cases h:a=r
  ·rw [if_pos h,C5 (by rw [h])]
   rfl
  ·rw [if_neg h,Bx (fun e=>h (rowK_inj e))]
   exact val_enc r rs (i+1)
theorem encB_len:∀ (rows:List (Tp SI)) (i:Nat),(Gh i rows).length=rows.length
 | [],_=>rfl
 | a::rs,i=>by
  unfold Gh
  rw [qhA,qhA,encB_len rs]
theorem encB_app (r:Tp SI):∀ (rows:List (Tp SI)) (i:Nat),Gh i (rows++[r])=Gh i rows++[(D5 r,.int ((i+rows.length:Nat):Int))]
 | [],_=>rfl
 | a::rs,i=>by
  rw [List.cons_append]
  unfold Gh
  rw [encB_app r rs (i+1),List.cons_append,qhA]
  congr 4
  congr 1
  omega
structure Rk where
 l:List SI
instance rpRk:Rp Rk:=⟨fun K H v r=>∃ t xs,v = .ref t/\H t=some (.tup xs)/\xs.length<=sizeLine/\Paired (Rp.rel K H) xs r.l,
 fun s ⟨t,xs,e,h,z,p⟩=>⟨t,xs,e,s _ _ h,z,Paired.imp' (fun _ _ r=>Rp.mono s r) p⟩⟩
def Rk.tp (r:Rk):Tp SI:=⟨r.l⟩
def Rk.of (r:Tp SI):Rk:=⟨r.l⟩
theorem Rk.rel {K:FZ9}{H:Hp}{v:V}{r:Rk}(h:Rp.rel K H v r):Rp.rel K H v r.tp :=
 let ⟨t,xs,e,h,z,p⟩:=h
 ⟨t,xs,e,SqT.of h,z,p⟩
theorem sis_eq {K:FZ9}{H:Hp}:∀ {xs:List V}{l:List SI},Paired (Rp.rel K H) xs l->xs=(l.map siK).map kV
 | _,_,.nil=>rfl
 | _,_,.cons (b:=.s x) h t=>by
  rw [qcB,qcB,<- sis_eq t]
  exact congrArg (·::_) h.1
 | _,_,.cons (b:=.i n) h t=>by
  rw [qcB,qcB,<- sis_eq t]
  exact congrArg (·::_) (show _=V.int n from h)
def CF (rows:List (Tp SI))(r:Rk):Option (List (Tp SI) × Int):=match Hg 0 rows r.tp with
 | some n=>some (rows,n)
 | none=>if rows.length<sizeLine then some (rows++[r.tp],(rows.length:Int)) else none
structure OwnB (K:FZ9)(G H:Hp)(p q:Addr)(vs:List V)(rows:List (Tp SI)):Prop where
 l:Own K G H (.ref p) p vs rows
 ne:p≠q
 g:G q=none
 h:H q=some (.dT (Gh 0 rows))
 t:Paired (Rp.rel K G) vs (rows.map Rk.of)
def spB (K:FZ9){α:Type}[Rp α](m:List (Tp SI)->α->Option (List (Tp SI) × Int)):Sp:=fun vs H Q _ =>
 ∃ G p q v xs rows a r,vs=[.ref p,.ref q,v]/\Same G H/\OwnB K G H p q xs rows/\Rp.rel K G v a/\m rows a=some r /\
  ∀ G2 H2 xs',Ext G (era H [p,q]) G2 H2->OwnB K G2 H2 p q xs' r.1->Q (.int r.2) H2
section
variable {K:FZ9}{σ:St}{G H G1 H1 G0 H0:Hp}{D:Ends}{p q l:Addr}{xs:List V}{rows:List (Tp SI)}
theorem spB_len {α:Type}[Rp α]{m:List (Tp SI)->α->Option (List (Tp SI) × Int)}{vs:List V}{Q:VK}{E:XK}(h:spB K m vs H Q E):vs.length=3:=by
 obtain ⟨G,p,q,v,xs,rows,a,r,rfl,_⟩:=h
 rfl
theorem OwnB.ext (o:OwnB K G H p q xs rows)(x:Ext G H G1 H1):OwnB K G1 H1 p q xs rows :=
 ⟨o.l.ext x,o.ne,x.no q o.g (by rw [o.h];exact fun z=>nomatch z),x.hh _ _ o.h,Paired.imp' (fun _ _ r=>Rp.mono x.gg r) o.t⟩
theorem OwnB.put {ho:HO}(o:OwnB K G H p q xs rows)(h1:p≠l)(h2:q≠l):OwnB K G (upd H l ho) p q xs rows :=
 ⟨o.l.put h1,o.ne,o.g,by rw [Aq h2];exact o.h,o.t⟩
theorem rown_body {v:V}{row:Rk}{r:List (Tp SI) × Int}(s:Same G H)(o:OwnB K G H p q xs rows)(rv:Rp.rel K G v row)(hm:CF rows row=some r)
  (k:∀ G2 H2 xs',Ext G (era H [p,q]) G2 H2->OwnB K G2 H2 p q xs' r.1->D.rt (.int r.2) H2) :
  CA (Hh (tB (tDNotIn (Bc 2) (Bc 1)))
    (CA (sDPut (Bc 1) (Bc 2) (tCB (rLen K) (AQ (Bc 0) BL))) (CA (HW (tBM K "list" Gr (Bc 0) (AQ (Bc 2) BL))) CI)) CI)
   (CA (Hj (tDGet (Bc 1) (Bc 2))) CI) D [some (.ref p),some (.ref q),some v] H:=by
 obtain ⟨t,ys,rfl,ht,hz,pr⟩:=id rv
 have e1:=sis_eq pr
 have ht':H t=some (.tup ((D5 row.tp).map kV)):=by
  rw [s _ _ ht,e1]
  rfl
 have hv:=val_enc row.tp rows 0
 have b0:=Ext.begin (C:=[p,q]) s
 refine ⟨_,rfl,_,rfl,q,_,rfl,DGet.t o.h ht',_,rfl,?_⟩
 unfold CF at hm
 cases hi:Hg 0 rows row.tp with
 | some n =>
  rw [hi] at hm hv
  cases hm
  rw [hv]
  refine Bs ?_
  exact ⟨_,rfl,_,rfl,q,.int n,rfl,.inr ⟨_,_,t,.inl o.h,rfl,ht',hv.symm⟩,k G H xs b0 o⟩
 | none =>
  rw [hi] at hm hv
  obtain ⟨hl,e⟩:=Ay hm
  cases e
  rw [hv]
  refine Bw ?_
  have oh:=o.l.h
  have hlen:=Paired.length o.l.p
  have npq:p≠q:=o.ne
  refine ⟨_,rfl,xs,.inl (SqL.of oh),?_⟩
  refine ⟨_,rfl,_,rfl,q,_,rfl,DPut.t o.h ht' (by rw [encB_len];exact hl),?_⟩
  have enc:Ct (Gh 0 rows) (D5 row.tp) (.int (xs.length:Int))=Gh 0 (rows++[row.tp]):=by
   rw [putK_new _ hv,encB_app,Nat.zero_add,hlen]
  rw [enc]
  have hp1:upd H q (.dT (Gh 0 (rows++[row.tp]))) p=some (.lst xs):=by
   rw [Aq npq]
   exact oh
  refine ⟨_,rfl,.inl ⟨rfl,_,SqL.of hp1⟩,_,rfl,p,xs,.ref t,rfl,rfl,hp1,by omega,?_⟩
  have tp:t≠p:=fun z=>by
   rw [z,oh] at ht'
   cases ht'
  have tq:t≠q:=fun z=>by
   rw [z,o.h] at ht'
   cases ht'
  have hq2:upd (upd H q (.dT (Gh 0 (rows++[row.tp])))) p (.lst (xs++[.ref t])) q=some (.dT (Gh 0 (rows++[row.tp]))):=by
   rw [Aq (Ne.symm npq)]
   exact AJ
  have ht2:upd (upd H q (.dT (Gh 0 (rows++[row.tp])))) p (.lst (xs++[.ref t])) t=some (.tup ((D5 row.tp).map kV)):=by
   rw [Aq tp,Aq tq]
   exact ht'
  refine ⟨_,rfl,_,rfl,q,.int (rows.length:Int),rfl,.inr ⟨_,_,t,.inl hq2,rfl,ht2,?_⟩,?_⟩
  ·rw [encB_app,valV_snoc _ _ _ _ hv,if_pos rfl,Nat.zero_add]
  ·refine k G _ (xs++[.ref t]) ((b0.put (era_in (by simp)) o.g).put (era_in (by simp)) o.l.g) ⟨⟨rfl,o.l.g,AJ,?_,Paired.app o.l.p (.cons (Rk.rel rv) .nil)⟩,npq,o.g,hq2,by rw [qdB];exact Paired.app o.t (.cons rv .nil)⟩
   rw [qgA,qiA]
   omega
def sisO:List Nt->Option (List SI)
 | []=>some []
 | .txt x::r=>(sisO r).bind fun l=>some (.s x::l)
 | .tup _::_=>none
 | .int _::_=>none
theorem sis_rel:∀ {xs:List V}{l:List Nt}{ks:List SI},RelNs K G xs l->sisO l=some ks->Paired (Rp.rel K G) xs ks
 | _,_,_,.nil,e=>by
  cases e
  exact .nil
 | _,_,_,.cons (.txt x z) t,e=>by
  obtain ⟨l',h,e⟩:=qaA.mp e
  cases e
  exact .cons ⟨rfl,z⟩ (sis_rel t h)
 | _,_,_,.cons (.tup _ _ _ _) t,e=>nomatch (show (none:Option (List SI))=some _ from e)
 | _,_,_,.cons (.int _) t,e=>nomatch (show (none:Option (List SI))=some _ from e)
def HR (lay:List (Tp SI)->Nt->Option (List (Tp SI) × Int))(a:Nt)(s:List (Tp SI) × List SI):Option (Fl (List (Tp SI) × List SI) Unit) :=
 (lay s.1 a).bind fun z=>if s.2.length+1<=sizeLine then some (.nx (z.1,s.2++[.i z.2])) else none
def layE:Fl (List (Tp SI) × List SI) Unit->Option (List (Tp SI) × Int)
 | .nx z=>CF z.1 ⟨z.2⟩
 | _=>none
def BW (pm:Nt->Option (Tp Nt)):Nat->List (Tp SI)->Nt->Option (List (Tp SI) × Int)
 | 0=>fun _ _=>none
 | n+1=>fun rows a=>(BC a).bind fun t=>(atI t.l 0).bind fun b=>(C0 b).bind fun w =>
   cond (decide (w = "lamp")) ((sisO t.l).bind fun l=>CF rows ⟨l⟩)
   ((pm a).bind fun ps=>(CH (HR (BW pm n)) ps.l (rows,[.s w])).bind fun z=>layE z)
theorem lay_body {pm:Nt->Option (Tp Nt)}{mp:Nt × Unit->Option (Tp Nt)}(hpm:∀ a,mp (a,())=pm a){n:Nat}{v:V}{a:Nt}{r:List (Tp SI) × Int}(s:Same G H)(o:OwnB K G H p q xs rows)(rv:Rp.rel K G v a)(hm:BW pm (n+1) rows a=some r)
  (k:∀ G2 H2 xs',Ext G (era H [p,q]) G2 H2->OwnB K G2 H2 p q xs' r.1->D.rt (.int r.2) H2) :
  CA (Hh (tTest (tOp rEq (tOp (rAt K) (Bc 2) (tC (.int 0))) (tC (.str "lamp"))))
    (CA (Hj (ES (spB K CF) [] E0 (AQ (Bc 0) (AQ (Bc 1) (AQ (Bc 2) BL))))) CI) CI)
   (CA (GV (HH (AQ (tOp (rAt K) (Bc 2) (tC (.int 0))) BL)) (Bh 3))
   (CA (tFor (Hi K (ES (spM K mp) [] E0 (AQ (Bc 2) BL))) (Bh 4)
    (CA (GV (tOp (rCatTp K) (Bc 3) (HH (AQ (ES (spB K (BW pm n)) [] E0 (AQ (Bc 0) (AQ (Bc 1) (AQ (Bc 4) BL)))) BL))) (Bh 3)) CI))
   (CA (Hj (ES (spB K CF) [] E0 (AQ (Bc 0) (AQ (Bc 1) (AQ (Bc 3) BL))))) CI))) D [some (.ref p),some (.ref q),some v,none,none] H:=by
 obtain ⟨t,htu,hm⟩:=qaA.mp (show _=some r from hm)
 refine bE hm fun b hb hm=>?_
 refine bE hm fun w hw hm=>?_
 have b0:=Ext.begin (C:=[p,q]) s
 have z0:∀ b∈[p,q],era H [p,q] b=none:=fun b hb=>era_in hb
 have hd:((((some a).bind fun d=>BC d).bind fun a=>(some (0:Int)).bind fun i=>atI a.l i).bind fun d=>C0 d)=some w:=by
  rw [Option.bind_some,htu,Option.bind_some,Option.bind_some,hb,Option.bind_some,hw]
 refine BJ (AT (K:=K) (Bb (CQ (B7 (B5 (A6 rfl rv)) Aj)) B9)) (b:=decide (w = "lamp")) (by rw [hd];rfl) s fun G2 H2 x2=>?_
 have o2:=o.ext x2
 have rv2:=Rp.mono x2.gg rv
 have xt:=b0.trans x2
 by_cases hl:w = "lamp"
 ·rw [decide_eq_true hl] at hm ⊢
  have hmL:((sisO t.l).bind fun l=>CF rows ⟨l⟩)=some r:=hm
  obtain ⟨ks,hks,hmK⟩:=qaA.mp hmL
  refine Bw ?_
  cases rv2 with
  | txt x z=>cases htu
  | int n=>cases htu
  | @tup ad us ds h z rs hlp =>
   cases htu
   have h0:ds[0]? = some (.txt "lamp"):=by
    have hb':atI ds 0=some b:=hb
    cases ds with
    | nil=>cases hb'
    | cons d ds' =>
     have e0:ixN (d::ds').length (0:Int)=some 0:=by
      unfold ixN
      rw [if_pos (by omega),if_pos (by rw [qhA];omega)]
      rfl
     have this:atI (d::ds') (0:Int)=some d:=by
      unfold atI
      rw [e0]
      rfl
     rw [this] at hb'
     have hdb:=qpB hb'
     cases d with
     | txt y =>
      rw [<- hdb] at hw
      have hyw:y=w:=qpB hw
      rw [hyw,hl]
      rfl
     | tup _ =>
      rw [<- hdb] at hw
      cases hw
     | int _ =>
      rw [<- hdb] at hw
      cases hw
   have rk:Rp.rel K G2 (.ref ad) (Rk.mk ks):=⟨ad,us,rfl,hlp h0,z,sis_rel rs hks⟩
   exact ⟨_,rfl,_,rfl,_,rfl,G2,p,q,_,xs,rows,⟨ks⟩,r,rfl,x2.gh,o2,rk,hmK,fun G3 H3 xs' y o'=>k G3 H3 xs' (xt.past z0 y) o'⟩
 ·rw [decide_eq_false hl] at hm ⊢
  replace hm:((pm a).bind fun ps=>(CH (HR (BW pm n)) ps.l (rows,[.s w])).bind fun z=>layE z)=some r:=hm
  refine bE hm fun ps hps hm=>?_
  refine bE hm fun res hres hm=>?_
  refine Bs ?_
  refine (CQ (B7 (B5 (A6 rfl rv2)) Aj)).run (K:=K) hd x2.gh fun u G3 H3 x3 r3=>?_
  refine ⟨by show 1<=sizeLine;decide,fun t3 ht3=>?_⟩
  have x4:Ext G3 H3 (upd G3 t3 (.tup [u])) (upd H3 t3 (.tup [u])):=.new x3.gh ht3
  have o4:=(o2.ext x3).ext x4
  have xt:=(xt.trans x3).trans x4
  have rv4:=Rp.mono x4.gg (Rp.mono x3.gg rv2)
  have rk:Rp.rel K (upd G3 t3 (.tup [u])) (.ref t3) (Rk.mk [.s w]):=⟨t3,[u],rfl,AJ,by show 1<=sizeLine;decide,.cons (show RelSI u (.s w) from r3) .nil⟩
  refine DI (K:=K) (RR:=fun _ _ _ _=>False) (iw_tup (ev_def (m:=mp) (av_cons (A6 rfl rv4) av_nil))) (as:=ps.l) (by
   show ((some (a,())).bind fun a=>mp a).bind _=_
   rw [Option.bind_some,hpm,hps]
   rfl) hres xt.gh fun G5 H5 x5=>⟨fun s σ' G' H'=>∃ u pt ys,σ'=[some (.ref p),some (.ref q),some v,some u,pt]/\Ext G (era H [p,q]) G' H'/\Same G5 G'/\OwnB K G' H' p q ys s.1/\Rp.rel K G' u (Rk.mk s.2)/\s.2 ≠ [],?_⟩
  refine ⟨⟨_,_,_,rfl,xt.trans x5,Same.refl _,o4.ext x5,Rp.mono x5.gg rk,by simp⟩,?_,?_,?_,fun _ _ _ _ _ h=>h.elim⟩
  ·rintro s σ' G' H' ⟨u,pt,ys,rfl,x,m,_⟩
   exact ⟨m,x.gh⟩
  ·rintro x a' s1 _ G6 H6 fl - ⟨u',pt,ys,rfl,x6,m6,o6,ru,ne6⟩ ra hf D' kN - - -
   obtain ⟨z,hz,hf⟩:=qaA.mp hf
   obtain ⟨hle,hf⟩:=Ay hf
   subst hf
   refine ⟨_,rfl,_,rfl,_,rfl,_,rfl,G6,p,q,x,ys,s1.1,a',z,rfl,x6.gh,o6,ra,hz,fun G7 H7 ys' y7 o7=>?_⟩
   refine ⟨by show 1<=sizeLine;decide,fun t8 ht8=>?_⟩
   have x8:Ext G7 H7 (upd G7 t8 (.tup [.int z.2])) (upd H7 t8 (.tup [.int z.2])):=.new y7.gh ht8
   have xt7:=x6.past z0 y7
   obtain ⟨tu,us,rfl,hu,hzu,pu⟩:=Rp.mono x8.gg (Rp.mono y7.gg ru)
   have lu:=Paired.length pu
   have lne:us ≠ []:=fun z=>ne6 (List.length_eq_zero_iff.mp (by rw [<- lu,z];rfl))
   refine ⟨tu,t8,us,[.int z.2],rfl,rfl,SqT.of (x8.gh _ _ hu),SqT.of AJ,by rw [lu];exact hle,(fun z=>absurd z lne),(fun z=>nomatch z),fun t9 ht9=>?_⟩
   have x9:Ext (upd G7 t8 (.tup [.int z.2])) (upd H7 t8 (.tup [.int z.2])) (upd (upd G7 t8 (.tup [.int z.2])) t9 (.tup (us++[.int z.2]))) (upd (upd H7 t8 (.tup [.int z.2])) t9 (.tup (us++[.int z.2]))):=.new x8.gh ht9
   refine kN (z.1,s1.2++[.i z.2]) _ _ _ rfl ⟨_,_,ys',rfl,(xt7.trans x8).trans x9,m6.trans (y7.gg.trans (x8.gg.trans x9.gg)),(o7.ext x8).ext x9,⟨t9,us++[.int z.2],rfl,AJ,?_,?_⟩,by simp⟩
   ·rw [qgA,qiA,lu]
    exact hle
   ·exact Paired.app (Paired.imp' (fun _ _ r=>Rp.mono x9.gg r) pu) (.cons rfl .nil)
  ·rintro s1 _ G6 H6 rfl ⟨u',pt,ys,rfl,x6,m6,o6,ru,ne6⟩
   replace hm:CF s1.1 ⟨s1.2⟩=some r:=hm
   exact ⟨_,rfl,_,rfl,_,rfl,G6,p,q,_,ys,s1.1,⟨s1.2⟩,r,rfl,x6.gh,o6,ru,hm,fun G7 H7 xs' y o'=>k G7 H7 xs' (x6.past z0 y) o'⟩
def FM (lay:List (Tp SI)->Nt->Option (List (Tp SI) × Int)):List Nt->List (Tp SI)->Option (List (Tp SI) × List Int)
 | [],rows=>some (rows,[])
 | a::r,rows=>(lay rows a).bind fun z=>(FM lay r z.1).bind fun y=>some (y.1,z.2::y.2)
theorem book_bodyG {β:Type}[Rp β](f:Tp SI->β)(hf:∀ {G:Hp}{xs:List V}{rows:List (Tp SI)},Paired (Rp.rel K G) xs rows->Paired (Rp.rel K G) xs (rows.map Rk.of)->Paired (Rp.rel K G) xs (rows.map f)){lay:List (Tp SI)->Nt->Option (List (Tp SI) × Int)}{v:V}{as:List Nt}{r:List (Tp SI) × List Int}(s:Same G H)(rv:Rp.rel K G v as)(hm:FM lay as []=some r)
  (k:∀ v p q vs ws G2 H2,Ext G H G2 H2->H p=none->H q=none->Own2 K G2 H2 v p q vs ws (r.1.map f,r.2)->D.rt v H2) :
  CA (GV (tLst BL) (Bh 1)) (CA (GV tDNewT (Bh 2))
   (CA (GV (tComp [1,2] (Hi K (Bc 0)) Hm (ES (spB K lay) [] E0 (AQ (Bc 1) (AQ (Bc 2) (AQ (Bc 0) BL))))) (Bh 3))
   (CA (Hj (HH (AQ (Bc 1) (AQ (Bc 3) BL)))) CI))) D [some v,none,none,none] H:=by
 refine ⟨by show 0<=sizeLine;decide,fun p hp q hq=>?_⟩
 have npq:p≠q:=fun z=>by
  rw [z] at hq
  rw [AJ] at hq
  cases hq
 have hq0:H q=none:=by rwa [Aq (Ne.symm npq)] at hq
 have x1:Ext G H G (upd (upd H p (.lst [])) q (.dT [])):=((Ext.refl s).put hp (s.free hp)).put hq0 (s.free hq0)
 have o1:OwnB K G (upd (upd H p (.lst [])) q (.dT [])) p q [] []:=⟨⟨rfl,s.free hp,by rw [Aq npq];exact AJ,qrC _,.nil⟩,npq,s.free hq0,AJ,.nil⟩
 dsimp only [Bh,CA,GV,List.set]
 show tComp [1,2] (Hi K (Bc 0)) Hm (ES (spB K lay) [] E0 (AQ (Bc 1) (AQ (Bc 2) (AQ (Bc 0) BL)))) [some v,some (.ref p),some (.ref q),none] (upd (upd H p (.lst [])) q (.dT [])) _
 refine (show IW K (Hi K (Bc 0)) [some v,some (.ref p),some (.ref q),none] G (some as) from CB (A6 rfl rv)) G (.refl G) as rfl _ x1.gh _ fun J vs Ga Ha xa Y hz pr=>?_
 intro l hl
 have oa:=o1.ext xa
 have xt:=x1.trans xa
 have nlp:p≠l:=fun z=>by
  rw [<- z,oa.l.h] at hl
  cases hl
 have nlq:q≠l:=fun z=>by
  rw [<- z,oa.h] at hl
  cases hl
 have hl0:H l=none:=xt.hh.free hl
 have hla:=Paired.length pr
 have zpq:∀ b∈[p,q],H b=none:=fun b hb=>by
  rcases qnA.mp hb with e|hb
  ·rw [e];exact hp
  ·rw [qqA.mp hb];exact hq0
 refine ⟨fun i m ys H2=>m=vs.length - i/\i<=vs.length/\∃ G2 xs rows ns cs,Ext G H G2 H2/\Same Ga G2/\OwnB K G2 H2 p q xs rows/\G2 l=none/\H2 l=some (.lst ys)/\ys=ns.map V.int/\ys.length<=i/\FM lay (as.drop i) rows=some (r.1,cs)/\r.2=ns++cs,
  ⟨vs.length,by simp,qrC _,Ga,[],[],[],r.2,xt.trans (.own xa.gh hl),Same.refl _,oa.put nlp nlq,xa.gh.free hl,AJ,rfl,qkB _,hm,rfl⟩,?_⟩
 rintro i m ys H2 ⟨rfl,hi,G2,xs,rows,ns,cs,x2,m2,o2,hg,hh,hys,hy,hcs,hr⟩
 by_cases hlt:i<vs.length
 ·refine .inr ⟨Y.go i _ (m2.trans x2.gh) hlt,fun ys' H'=>∃ G2 xs rows ns cs,Ext G H G2 H'/\Same Ga G2/\OwnB K G2 H' p q xs rows/\G2 l=none/\H' l=some (.lst ys')/\ys'=ns.map V.int/\ys'.length<=i+1/\FM lay (as.drop (i+1)) rows=some (r.1,cs)/\r.2=ns++cs,
   fun ys' H' h=>⟨vs.length - (i+1),by omega,rfl,hlt,h⟩,fun x H3 y=>?_⟩
  obtain ⟨rfl,hx⟩:=Y.yld i _ x H3 (m2.trans x2.gh) hlt y
  obtain ⟨a,hai,ra⟩:=Paired.getR pr hx
  have hd:as.drop i=a::as.drop (i+1):=by
   obtain ⟨h1,h2⟩:=qvA.mp hai
   rw [List.drop_eq_getElem_cons h1,h2]
  rw [hd] at hcs
  obtain ⟨z,hz',hcs⟩:=qaA.mp (show ((lay rows a).bind fun z=>_)=some _ from hcs)
  obtain ⟨y',hy',hcs⟩:=qaA.mp hcs
  obtain ⟨e1,e2⟩:=Prod.mk.inj (qpB hcs)
  subst e2
  have hy2:FM lay (as.drop (i+1)) z.1=some (r.1,y'.2):=by rw [hy',<- e1]
  dsimp only [Hm]
  rw [if_pos rfl]
  refine ⟨_,rfl,_,rfl,_,rfl,G2,p,q,x,xs,rows,a,z,rfl,x2.gh,o2,Rp.mono m2 ra,hz',fun G4 H4 xs' y4 o4=>?_⟩
  have nin:l ∉ [p,q]:=fun hb=>by
   rcases qnA.mp hb with e|hb
   ·exact nlp e.symm
   ·exact nlq (qqA.mp hb).symm
  have e2:era H3 [p,q] l=some (.lst ys):=by rw [era_out nin];exact hh
  have hh4:=y4.hh _ _ e2
  have hg4:=y4.no l hg (by rw [e2];exact fun z=>nomatch z)
  have xt4:=x2.past zpq y4
  refine ⟨hh4,by omega,G4,xs',z.1,ns++[z.2],y'.2,xt4.put hl0 hg4,m2.trans y4.gg,o4.put nlp nlq,hg4,AJ,by rw [hys,qdB];rfl,?_,hy2,by rw [hr,qeB];rfl⟩
  rw [qgA,qiA]
  omega
 ·have e:i=vs.length:=by omega
  subst e
  have hd:as.drop vs.length=[]:=List.drop_eq_nil_of_le (by omega)
  rw [hd] at hcs
  obtain ⟨e1,e2⟩:=Prod.mk.inj (qpB (show some (rows,([]:List Int))=some (r.1,cs) from hcs))
  rw [<- e2,qfB] at hr
  refine .inl ⟨Y.stop _ (m2.trans x2.gh),?_⟩
  have ol:Own K G2 H2 (.ref l) l ys r.2:=⟨rfl,hg,hh,by omega,by
   rw [hys,hr]
   clear hys hr hy hh e2
   induction ns with
   | nil=>exact .nil
   | cons a t ih=>exact .cons rfl ih⟩
  refine sv_retO2 (K:=K) (rest:=CI) rfl rfl (by rw [<- e1];exact ⟨o2.l.v,o2.l.g,o2.l.h,o2.l.z,hf o2.l.p o2.t⟩:Own K G2 H2 (.ref p) p xs (r.1.map f)) ol nlp x2.gh fun v G5 H5 x5 o5=>?_
  exact k v p l xs ys G5 H5 (x2.trans x5) hp hl0 o5
theorem book_body {lay:List (Tp SI)->Nt->Option (List (Tp SI) × Int)}{v:V}{as:List Nt}{r:List (Tp SI) × List Int}(s:Same G H)(rv:Rp.rel K G v as)(hm:FM lay as []=some r)
  (k:∀ v p q vs ws G2 H2,Ext G H G2 H2->H p=none->H q=none->Own2 K G2 H2 v p q vs ws r->D.rt v H2) :
  CA (GV (tLst BL) (Bh 1)) (CA (GV tDNewT (Bh 2))
   (CA (GV (tComp [1,2] (Hi K (Bc 0)) Hm (ES (spB K lay) [] E0 (AQ (Bc 1) (AQ (Bc 2) (AQ (Bc 0) BL))))) (Bh 3))
   (CA (Hj (HH (AQ (Bc 1) (AQ (Bc 3) BL)))) CI))) D [some v,none,none,none] H :=
 book_bodyG id (fun h _=>by rw [List.map_id];exact h) s rv hm fun v p q vs ws G2 H2 x h1 h2 o=>k v p q vs ws G2 H2 x h1 h2 (by rw [List.map_id] at o;exact o)
end
instance rkDec:DecidableEq Rk:=fun a b=>if h:a.l=b.l then .isTrue (by cases a;cases b;cases h;rfl) else .isFalse fun e=>h (by rw [e])
section
variable {K:FZ9}{σ:St}{G:Hp}{te ta tb:TE}
theorem GI {t:TA}{n:Nat}{ml:Option (List SI)}(e:LV K t σ G n ml)(z:n<=sizeLine:=by decide):EV K (HH t) σ G (ml.bind fun l=>some (Rk.mk l)) :=
 fun G1 s1 c hc H sH Q k=>by
  obtain ⟨l,hl,hc⟩:=qaA.mp hc
  cases hc
  refine e G1 s1 l hl H sH _ fun vs G2 H2 x2 hl hp=>⟨by omega,fun p h=>?_⟩
  exact k _ _ _ (x2.trans (.new x2.gh h)) ⟨p,vs,rfl,AJ,by omega,Paired.imp' (fun _ _ r=>Rp.mono (Same.new (x2.gh.free h)) r) hp⟩
end
def rSumG (K:FZ9):List V->Hp->VK->Prop:=fun vs H Q=>∃ (l:Addr) (ns:List Int),vs=[.ref l]/\SqL K H l (ns.map V.int)/\Q (.int ns.sum) H
theorem call_sumG {X:Cx}{K:FZ9}(hc:X.calm=true)(h:X.K=K):EM X (.builtin "sum") (rSumG K):=by
 subst h
 intro pins s σ H vs us Q I r h
 obtain ⟨l,ns,rfl,hl,q⟩:=h
 obtain ⟨u,rfl,ru⟩:=Fz r
 cases ru
 obtain ⟨its,rv,pl,_⟩:=I.list hl
 have hL:=pl.isList
 have hlt:l<s.heap.objs.size:=by obtain ⟨_,e,_⟩:=hL;exact qqB e
 have hlen:=rv.length
 rw [qfA] at hlen
 refine call_sum_walkG (wpAny_pyIter_list hL ?_)
 refine ⟨_,_,_,_,_,_,fun i=>ns.getD i 0,rfl,Walks.list (A:=X.A.in1) (I.ok.hd hc) _ l (qjC hlt) its.toArray,⟨⟨_,qsB _ rfl,rfl,rfl⟩,hL.push _⟩,?_,?_,fun h' tk' t' hk=>?_⟩
 ·intro b hb'
  have:b=s.heap.objs.size\/b=l:=by simpa using hb'
  rcases this with rfl|rfl
  ·exact qqB (qsB _ rfl)
  ·exact Nat.lt_trans hlt (qqB (qsB _ rfl))
 ·intro i v hP
  exact ints_atF rv hP
 ·rw [preSum_take ns _ (by rw [qaC];omega),List.take_of_length_le (by rw [qaC];omega)]
  refine ⟨.int _,H,I.kept fun b o eb=>?_,⟨t',rfl⟩,q⟩
  refine hk b o (fun hm=>?_) (qrB _ eb)
  have:b=s.heap.objs.size:=by simpa using hm
  exact absurd (this ▸ qqB eb) (qnB _)
section
variable {K:FZ9}{σ:St}{G:Hp}{te ta:TE}
theorem ev_sumG {lb:Option (List Int)}(ea:EV K ta σ G lb):EV K (tCB (rSumG K) (AQ ta BL)) σ G (lb.bind fun ns=>some ns.sum):=by
 intro G1 s1 c hc H sH Q k
 obtain ⟨ns,hns,hc⟩:=qaA.mp hc
 cases hc
 refine ea G1 s1 ns hns H sH _ fun v G2 H2 x2 r2=>?_
 obtain ⟨l,xs,rfl,h,z,p⟩:=r2
 cases Db p
 exact ⟨l,ns,rfl,.inl (x2.gh.rd h),k _ _ _ x2 rfl⟩
end
section
variable {κ:PyProof.Rows.KeyKind}
def ky (κ:PyProof.Rows.KeyKind)(p:Keyed):κ.α:=(κ.keyOf p.1).getD κ.dflt
variable {prog:Program}{w:World}{A:Around}{E:Value->Shared->Prop}{s:Shared}
end
section
variable {κ:PyProof.Rows.KeyKind}
def kl (κ:PyProof.Rows.KeyKind)(x y:Keyed):Prop:=κ.kle (ky κ x) (ky κ y)
end
def sg (st:SortSt)(g:Nat):SortSt:=SortSt.mk' (kindOf st) (arrOf st) (pendingOf st) g (failedOf st)
end L2
set_option maxHeartbeats 2000000
namespace L2
open PySem PySem.Spec PyProof.Rows
end L2
set_option maxHeartbeats 2000000
namespace L2
open PySem PySem.Spec PyProof.Rows
end L2
set_option maxHeartbeats 2000000
namespace L2
open PySem PySem.Spec PyProof.Rows
end L2
set_option maxHeartbeats 2000000
namespace L2
open PySem PySem.Spec PyProof.Rows
end L2
set_option maxHeartbeats 2000000
namespace L2
open PySem PySem.Spec PyProof.Rows
end L2
set_option maxHeartbeats 2000000
namespace L2
open PySem PySem.Spec PyProof.Rows
end L2
set_option maxHeartbeats 2000000
namespace L2
open PySem PySem.Spec PyProof.Rows
end L2
set_option maxHeartbeats 2000000
namespace L2
open PySem PySem.Spec PyProof.Rows
section
variable {κ:PyProof.Rows.KeyKind}{prog:Program}{w:World}{A:Around}{E:Value->Shared->Prop}{s:Shared}
abbrev mk (X:Array Keyed)(p:Array (Nat × Nat × Nat))(g:Nat):SortSt:=SortSt.mk' oneType' X p g none
end
end L2
set_option maxHeartbeats 2000000
namespace L2
open PySem PySem.Spec PyProof.Rows
end L2
set_option maxHeartbeats 2000000
namespace L2
open PySem PySem.Spec PyProof.Rows
structure MpR (α:Type) where
 l:List (Rk × α)
def RelR (K:FZ9){α:Type}[Rp α](H:Hp)(kv:List Key × V)(q:Rk × α):Prop:=kv.1=D5 q.1.tp/\Rp.rel K H kv.2 q.2
instance rpMpR {α:Type}[Rp α]:Rp (MpR α):=⟨fun K H v a=>∃ p kvs,v = .ref p/\H p=some (.dT kvs)/\Paired (RelR K H) kvs a.l,
 fun s ⟨p,kvs,e,h,pr⟩=>⟨p,kvs,e,s _ _ h,Paired.imp' (fun _ _ r=>⟨r.1,Rp.mono s r.2⟩) pr⟩⟩
theorem Gn {a b:Rk}(e:D5 a.tp=D5 b.tp):a=b:=by
 have h:=rowK_inj e
 cases a
 cases b
 cases h
 rfl
theorem rk_key {K:FZ9}{H:Hp}{v:V}{r:Rk}(h:Rp.rel K H v r):∃ t,v = .ref t/\H t=some (.tup ((D5 r.tp).map kV)):=by
 obtain ⟨t,xs,e,h,_,p⟩:=h
 rw [sis_eq p] at h
 exact ⟨t,e,h⟩
class RpC (γ:Type) [Rp γ] where
 P:FZ9->Hp->HO->γ->Prop
 mono:∀ {K:FZ9}{G G':Hp}{ho:HO}{a:γ},Same G G'->P K G ho a->P K G' ho a
 rel:∀ {K:FZ9}{G:Hp}{ho:HO}{a:γ}{q:Addr},P K G ho a->G q=some ho->Rp.rel K G (.ref q) a
def rExtendR:V->List V->Hp->VK->Prop:=fun x vs H Q=>∃ l b xs zs,x = .ref l/\vs=[.ref b]/\H l=some (.lst xs)/\Rd H b (.lst zs)/\xs.length+zs.length<=sizeLine/\Q .non (upd H l (.lst (xs++zs)))
theorem mt_extendR {X:Cx}:MtM X "list.extend" rExtendR:=by
 intro pins s σ H x vs v us Q I rx rv h
 obtain ⟨l,b,xs,zs,rfl,rfl,hH,hB,hz,q⟩:=h
 cases rx
 obtain ⟨u,rfl,ru⟩:=rv.one
 cases ru
 obtain ⟨z,its,n,r,hl,e⟩:=I.lstM hH
 obtain ⟨z2,its2,n2,r2,e2⟩:=hB.ok I.hok
 have hl2:=r2.length
 have hsz:its.toArray.size+its2.toArray.size<=sizeLine:=by rw [qaC,qaC];omega
 have hlong:¬ (!its.toArray.isEmpty && Builtin.List.listTooLong (its.toArray.size+its2.toArray.size))=true:=by
  rw [notLongL hsz,Bool.and_false]
  exact qzB
 refine call_meets F.slot_list_extend ⟨_,e,rfl⟩ F.entry_list_extend (F.args_list_extend_2 _ _)
  (AutoSeq1.list_extend_list_list_0 l its.toArray n b its2.toArray n2 hlong (by rw [qaC];omega) (by omega)) ⟨e,e2,?_⟩
 refine ⟨.non,_,I.lset (its':=its++its2) hH e (by simp) (r.append r2) ?_,rfl,q⟩
 rw [qgA]
 omega
section
variable {K:FZ9}{σ:St}{G H:Hp}{α:Type}[Rp α]{te:TE}{rest:TS}{D:Ends}{i:Nat}
theorem sv_extendE {ml:Option (List α)}{as bs as':List α}{v:V}{p:Addr}{vs:List V}(hσ:σ[i]? = some (some v))(o:Own K G H v p vs as)(e:EV K te σ G ml)(hm:ml=some bs)(hp:extO as bs=some as')(s:Same G H)
  (k:∀ G2 H2 ws,Ext G H G2 H2->Own K G2 (upd H2 p (.lst (vs++ws))) v p (vs++ws) as'->rest D σ (upd H2 p (.lst (vs++ws)))):CA (HW (tBM K "list" rExtendR (Bc i) (AQ te BL))) rest D σ H:=by
 obtain ⟨hl,rfl⟩:=Ay hp
 have hlen:=Paired.length o.p
 obtain ⟨rfl,og,oh,oz,op⟩:=o
 refine ⟨_,hσ,.inl ⟨rfl,_,SqL.of oh⟩,?_⟩
 refine e.run hm s fun w G2 H2 x r=>?_
 obtain ⟨q,ws,rfl,hh,hz,hpr⟩:=r
 have hlw:=Paired.length hpr
 refine ⟨p,q,vs,ws,rfl,rfl,x.hh _ _ oh,x.gh.rd hh,by omega,?_⟩
 refine k G2 H2 ws x ⟨rfl,x.no p og (by rw [oh];exact fun z=>nomatch z),AJ,?_,Paired.app (Paired.imp' (fun _ _ r=>Rp.mono x.gg r) op) hpr⟩
 rw [qgA]
 omega
end
section
variable {K:FZ9}{σ:St}{G H:Hp}{α:Type}[Rp α]{te ti ta:TE}{rest:TS}{D:Ends}{i:Nat}{v:V}{p:Addr}{vs:List V}{as:List α}{w:World}
def sortSetT (x:Str):Option (List Str):=if x.length<4000/\(DL (Bv x)).length<64 then some (GA (DL (Bv x))) else none
theorem fv_sortSetT {la:Option Str}(ea:EV K ta σ G la):FV K (tCB (rSortPS w) (AQ (tCB (rSetSg w) (AQ ta BL)) BL)) σ G (la.bind fun x=>sortSetT x):=by
 intro G1 s1 c hc H sH Q k
 obtain ⟨a,ha,hc⟩:=qaA.mp hc
 obtain ⟨⟨h4,h64⟩,rfl⟩:=Ay hc
 refine ea G1 s1 a ha H sH _ fun v G2 H2 x2 r2=>?_
 obtain ⟨rfl,z⟩:=r2
 refine ⟨a,rfl,h4,fun q hq=>?_⟩
 rw [De inr_inj]
 refine ⟨q,DL (Bv a),rfl,AJ,h64,?_⟩
 have x3:Ext G2 H2 G2 (upd H2 q (FY w q ((DL (Bv a)).map Sum.inr))):=.own x2.gh hq
 refine fv_of x3.gh ?_ (strs_rel _ fun y hy=>sign_len (mem_dedA.mp ((BQ _).mem_iff.mp hy))) (FV.mono (x2.trans x3) k)
 rw [qfA,(BQ _).length_eq,qtB]
 omega
end
def getR {α:Type}:List (Rk × α)->Rk->Option α
 | [],_=>none
 | q::l,k=>if q.1=k then some q.2 else getR l k
def blIs (b:Bool):Value->Bool
 | .bool c=>c == b
 | _=>false
theorem Du {b:Bool}{v:Value}(h:blIs b v=true):v = .bool b:=by
 cases v with
 | bool c=>rw [eq_of_beq (show (c == b)=true from h)]
 | _=>exact nomatch h
theorem blIs_self (b:Bool):blIs b (.bool b)=true:=beq_self_eq_true b
def blH (b:Bool):Int:=reduceHash (if b then 1 else 0)
section
variable {prog:Program}{w:World}{A:Around}{E:Value->Shared->Prop}{s:Shared}
theorem hash_bl {b:Bool}{Q:Int->Shared->Prop}(h:Q (blH b) { s with toks:=s.toks+1 }):wpAny (model prog w) A (pyHash (.bool b)) Q E s:=by
 unfold pyHash
 refine PySem.W.pyHash_slot (T := "bool") rfl F.slot_bool_hash entry_int_hash (args_int_hash _) (beq_builtin_none _) (.inl rfl) ?_
 cases b
 ·exact (show wpAny _ _ (do ret (<- mkInt 0)) _ _ s from qbA (wpAny_mkInt (qcA ⟨_,_,rfl,h⟩)))
 ·exact (show wpAny _ _ (do ret (<- mkInt 1)) _ _ s from qbA (wpAny_mkInt (qcA ⟨_,_,rfl,h⟩)))
theorem decB_eq (a b:Bool):decide (a=b)=(a == b):=by cases a<;>cases b<;>rfl
end
def Ca (prog:Program)(w:World):PySem.KeyKind prog w Bool where
 is:=blIs
 hash:=blH
 inj:=fun v a b ha hb=>by
  have h1:=Du ha
  have h2:=Du hb
  rw [h1] at h2
  exact Value.bool.inj h2
 byValue:=fun k v h=>by rw [Du h];rfl
 pyHash:=fun hv h=>by rw [Du hv];exact hash_bl h
 eqBool:=fun hu hv h=>by
  rw [Du hu,Du hv]
  refine SeqAt.EqAt.bool_bool _ _ _ _ _ _ ?_
  rw [<- decB_eq]
  exact h
 «strs»:=fun k x t v h=>nomatch h
def entB (x:List Bool × Addr × Value):DictEntry:=⟨reduceHash (Builtin.Tuple.tupleHashOf (x.1.map blH)),.ref x.2.1,x.2.2⟩
def DbP (h:Heap)(p:Addr)(xs:List (List Bool × Addr × Value)):Prop :=
 ∃ o es ep,h.get? p=some o/\o.ExactDict/\o.data = .dict es ep/\es.toList=xs.map entB/\(xs.map (·.1)).Nodup
def DbO (p:Addr)(xs:List (List Bool × Addr × Value)):HO:=.ext fun h=>DbP h p xs
theorem dbO_ok {P:Program}{w:World}{H:Hp}{h:Heap}{p:Addr}{xs:List (List Bool × Addr × Value)}(x:DbP h p xs):ObjOk P w H h p (DbO p xs):=by
 refine ⟨x,?_,fun h1 h2 a b=>?_⟩
 ·obtain ⟨o,_,_,g,_⟩:=x
  exact ⟨o,g⟩
 ·obtain ⟨o,es,ep,g,r⟩:=a
  exact ⟨o,es,ep,b _ g,r⟩
theorem dbO_get {P:Program}{w:World}{H:Hp}{h:Heap}{p:Addr}{xs:List (List Bool × Addr × Value)}(x:HOk P w H h)(e:H p=some (DbO p xs)):DbP h p xs:=(x p _ e).1
structure MpT where
 l:List (Tp Bool × Int)
def RelT (K:FZ9)(H:Hp)(x:List Bool × Addr × Value)(q:Tp Bool × Int):Prop:=x.1=q.1.l/\Rp.rel K H (.ref x.2.1) q.1/\RelV (.int q.2) x.2.2
theorem RelT.mono {K:FZ9}{H H2:Hp}(s:Same H H2){x:List Bool × Addr × Value}{q:Tp Bool × Int}(r:RelT K H x q):RelT K H2 x q:=⟨r.1,Rp.mono s r.2.1,r.2.2⟩
instance rpMpT:Rp MpT:=⟨fun K H v a=>∃ p xs,v = .ref p/\H p=some (DbO p xs)/\Paired (RelT K H) xs a.l,
 fun s ⟨p,xs,e,h,pr⟩=>⟨p,xs,e,s _ _ h,Paired.imp' (fun _ _ r=>r.mono s) pr⟩⟩
theorem bls_eq {K:FZ9}{H:Hp}:∀ {xs:List V}{l:List Bool},Paired (Rp.rel K H) xs l->xs=l.map V.bl
 | _,_,.nil=>rfl
 | _,_,.cons h t=>by
  rw [qcB,<- bls_eq t]
  exact congrArg (·::_) h
theorem bls_items {P:Program}{w:World}:∀ {l:List Bool}{us:List Value},Vals (l.map V.bl) us->ItemsAre (Ca P w) l us
 | [],_,.nil=>.nil
 | b::l,_,.cons h t=>by
  cases (show _=Value.bool b from h)
  exact .cons (blIs_self b) (bls_items t)
section
variable {X:Cx}{pins:List (Addr × Obj)}{σ:St}{H:Hp}{s:Shared}
theorem tkey_of {t:Addr}{q:Tp Bool}(I:Inv X pins σ H s)(r:Rp.rel X.K H (.ref t) q):(tupleKind (Ca X.prog X.w)).is s.heap q.l t:=by
 obtain ⟨t',xs,e,h,_,p⟩:=r
 cases e
 rw [bls_eq p] at h
 obtain ⟨its,rv,⟨o,h1,h2,n,h3⟩,_⟩:=I.tuple h
 exact ⟨o,its.toArray,n,h1,h2,h3,bls_items rv⟩
theorem dbH_of {p:Addr}{xs:List (List Bool × Addr × Value)}{l:List (Tp Bool × Int)}(I:Inv X pins σ H s)(e:H p=some (DbO p xs))(pr:Paired (RelT X.K H) xs l):s.heap.DictOfH (tupleKind (Ca X.prog X.w)) p xs:=by
 obtain ⟨o,es,ep,g,h1,h2,h3,h4⟩:=dbO_get I.hok e
 refine ⟨o,es,ep,g,h1,h2,h3,fun x hx=>?_,h4⟩
 have all:∀ {xs:List (List Bool × Addr × Value)}{l:List (Tp Bool × Int)},Paired (RelT X.K H) xs l->∀ x∈xs,(tupleKind (Ca X.prog X.w)).is s.heap x.1 x.2.1:=by
  intro xs l q
  induction q with
  | nil=>intro x hx;exact nomatch hx
  | @cons p q ps qs hq t ih =>
   intro x hx
   rcases qnA.mp hx with e|hx
   ·subst e
    rw [hq.1]
    exact tkey_of I hq.2.1
   ·exact ih x hx
 exact all pr x hx
end
theorem list_no_keys:typeLookup (.type "list") "keys" = pure none:=by rw [typeLookup_type,qbC];kernel_rfl
section
variable {prog:Program}{w:World}{A:Around}{E:Value->Shared->Prop}{s:Shared}
theorem list_misses {l:Addr}{its:Array Value}{n:Nat}{sl:Array (Option Value)}(u:Tok){P:PySem.Fin->Shared->Prop}{R:Value->Shared->Prop}(hh:A.handled=none)(hx:s.heap.get? l=some { cls:=.type "list",dict:=none,data:=.seq its n,slots:=sl })
  (hR:∀ h' tk e,Heap.NewAttrErr s.heap h' e (.ref l) "keys" -> R (.ref e) { s with heap:=h',toks:=tk }) :
  wpAny (model prog w) A (Builtin.«object.__getattribute__» ⟨[.ref l,.str "keys" u],[]⟩) P R s:=by
 obtain ⟨h,g,d,t,os⟩:=s
 have hT:(⟨h,g,d,t,os⟩:Shared).TypeIs (.ref l) "list" := ⟨_,hx,rfl⟩
 have q1:=list_no_keys
 unfold Builtin.«object.__getattribute__»
 repeat (any_goals (first|assumption|wp_step))
 exact wpAny_raiseAttrError hh hR (attrMsg_fits (by decide +kernel) (by decide))
theorem list_keys_none {l:Addr}{its:Array Value}{Q:Option Value->Shared->Prop}(hh:A.handled=none)(hx:PlainL s.heap l its)(hQ:∀ h' tk,(∀ b o,s.heap.get? b=some o->h'.get? b=some o)->Q none { s with heap:=h',toks:=tk }) :
  wpAny (model prog w) A (getAttr? (.ref l) "keys") Q E s:=by
 obtain ⟨⟨c,dct,dat,sl⟩,n,ho,hc,hd,hdd⟩:=hx
 simp only at hc hd hdd
 subst hc hd hdd
 obtain ⟨h,g,d,t,os⟩:=s
 have hT:∀ tk',(⟨h,g,d,tk',os⟩:Shared).TypeIs (.ref l) "list" := fun _=>⟨_,ho,rfl⟩
 have f1:=sub_AttributeError
 have f3:=F.slot_list_getattribute.lookup
 have f4:=F.slot_list_getattribute.bind (.ref l)
 have f5:=am_list_getattr_none
 unfold getAttr? getAttrBy? getAttrBy
 repeat (any_goals (first|assumption|exact hT _|wp_step))
 refine codeAny_call_builtin F.slot_list_getattribute.plain am_entry_list_getattribute (F.slot_list_getattribute.check _ _ _ _ _ _ _ _ (hT _) (F.args_list_getattribute_2 _ _) (list_misses (s:=⟨h,g,d,t+1,os⟩) t (by simpa using hh) ho fun h' tk e hx'=>?_))
 obtain ⟨t',u',he⟩:=hx'.there
 show wpAny _ _ (getattributeRaised _ _ _ _ _ _ _) _ _ _
 unfold getattributeRaised
 repeat (any_goals (first|assumption|wp_step))
 exact hQ h' tk hx'.keeps
theorem tup_keep {h h':Heap}{a:Addr}{items:Array Value}(k:∀ c o,h.get? c=some o->h'.get? c=some o)(x:IsTup h a items):IsTup h' a items:=by
 obtain ⟨o,g,r⟩:=x
 exact ⟨o,k _ _ g,r⟩
theorem tk_keep {h h':Heap}{ks:List Bool}{a:Addr}(k:∀ c o,h.get? c=some o->h'.get? c=some o)(x:(tupleKind (Ca prog w)).is h ks a):(tupleKind (Ca prog w)).is h' ks a:=by
 obtain ⟨o,items,n,g,r⟩:=x
 exact ⟨o,items,n,k _ _ g,r⟩
theorem dbh_keep {h h':Heap}{d:Addr}{xs:List (List Bool × Addr × Value)}(D:h.DictOfH (tupleKind (Ca prog w)) d xs)(g:∀ o,h.get? d=some o->h'.get? d=some o)(his:∀ x∈xs,(tupleKind (Ca prog w)).is h' x.1 x.2.1):h'.DictOfH (tupleKind (Ca prog w)) d xs:=by
 obtain ⟨o,es,ep,g1,h1,h2,h3,_,h4⟩:=D
 exact ⟨o,es,ep,g _ g1,h1,h2,h3,his,h4⟩
def ItemsB (prog:Program)(w:World)(h:Heap)(items:Array Value)(xs:List (List Bool × Addr × Value)):Prop :=
 items.size=xs.length/\(xs.map (·.1)).Nodup/\xs.length<=sizeLine/\∀ (j:Nat) (x:List Bool × Addr × Value),xs[j]? = some x->∃ t,items[j]? = some (.ref t)/\IsTup h t #[.ref x.2.1,x.2.2]/\(tupleKind (Ca prog w)).is h x.1 x.2.1
theorem dt_loop {R:Result->Shared->Prop}{h0:Heap}{it l dd:Addr}{items:Array Value}{xs:List (List Bool × Addr × Value)}(hh:A.handled=none)(hu:A.units+1<cLine)(n1:h0.get? it=none)(n2:h0.get? dd=none)(ne:it≠dd)(hl:h0.IsList l items)(hi:ItemsB prog w h0 items xs) :
  ∀ (n i:Nat) (s:Shared),xs.length - i=n->i<=xs.length->(∀ c o,h0.get? c=some o->s.heap.get? c=some o)->s.heap.IsListIter it l i->s.heap.DictOfH (tupleKind (Ca prog w)) dd (xs.take i) ->
   (∀ h' tk,(∀ c o,c≠it->c≠dd->s.heap.get? c=some o->h'.get? c=some o)->h'.DictOfH (tupleKind (Ca prog w)) dd xs->R (.ok (.ret .none)) { s with heap:=h',toks:=tk }) ->
   codeAny (model prog w) A (.builtin "dict.update.loop" ⟨[.ref dd,.ref it,rawInt i,.none],[]⟩) R s:=by
 obtain ⟨hsz,hnd,hb,hit⟩:=hi
 have isk:∀ {h':Heap},(∀ c o,h0.get? c=some o->h'.get? c=some o)->∀ x∈xs,(tupleKind (Ca prog w)).is h' x.1 x.2.1:=by
  intro h' kp x hx
  obtain ⟨j,hj⟩:=List.getElem?_of_mem hx
  obtain ⟨t,_,_,q⟩:=hit j x hj
  exact tk_keep kp q
 intro n
 induction n with
 | zero =>
  intro i s e1 e2 kp Z Dd hR
  have ei:i=xs.length:=by omega
  subst ei
  refine codeAny_builtin EJ ?_;rw [Around.under_plainId Bi _]
  show wpAny _ A.in1 (pyNext (.ref it) >>= _) _ _ s
  refine qbA (wpAny_pyNext_list_end (by simpa using hh) Z (hl.at fun o q=>kp _ _ q) (Array.getElem?_eq_none (by omega)) fun h' eb=>?_)
  show wpAny _ A.in1 (Builtin.Dict.addKeywords dd [] >>= _) _ _ _
  have k2:∀ c o,c≠it->s.heap.get? c=some o->h'.get? c=some o:=fun c o hc e=>eb c o hc e
  rw [List.take_length] at Dd
  refine qbA (qcA (qcA (hR h' s.toks (fun c o hc _ e=>k2 c o hc e) ?_)))
  exact dbh_keep Dd (fun o q=>k2 _ _ (Ne.symm ne) q) (isk fun c o q=>k2 c o (fun z=>by rw [z,n1] at q;exact nomatch q) (kp c o q))
 | succ n ih =>
  intro i s e1 e2 kp Z Dd hR
  have hlt:i<xs.length:=by omega
  obtain ⟨t,ht,htt,hk⟩:=hit i xs[i] (qwA hlt)
  refine codeAny_builtin EJ ?_;rw [Around.under_plainId Bi _]
  show wpAny _ A.in1 (pyNext (.ref it) >>= _) _ _ s
  refine qbA (wpAny_pyNext_list_item Z (hl.at fun o q=>kp _ _ q) ht fun h₁ Z₁ sb=>?_)
  have kp1:∀ c o,h0.get? c=some o->h₁.get? c=some o:=fun c o q=>(sb.2 c (fun z=>by rw [z,n1] at q;exact nomatch q)).trans (kp c o q)
  have Dd₁:h₁.DictOfH (tupleKind (Ca prog w)) dd (xs.take i):=dbh_keep Dd (fun o q=>(sb.2 _ (Ne.symm ne)).trans q) fun x hx=>isk kp1 x (List.mem_of_mem_take hx)
  obtain ⟨o,g,hc,m,hd⟩:=tup_keep kp1 htt
  show wpAny _ A.in1 (holding [Value.ref t] _ >>= _) _ _ _
  refine qbA (qeA (qbA (wpAny_tryCatch ?_)))
  unfold Builtin.Dict.pairItems
  refine qbA (wpAny_typeOf (T := "tuple") ⟨o,g,hc⟩ ?_)
  have hty:(Value.type "tuple" == Value.type "tuple")=true:=by rfl
  rw [if_pos (by rw [hty];simp)]
  refine qbA (wpAny_seqItems (s:={ s with heap:=h₁ }) g hd (qcA ?_))
  dsimp only
  show wpAny _ A.in1 (holding [Value.ref xs[i].2.1,xs[i].2.2] (dictSet dd (Value.ref xs[i].2.1) xs[i].2.2)) _ _ _
  refine qeA (wpAny_dictSet_heap (s:={ s with heap:=h₁ }) (tupleKind_room_in1 hu) (tk_keep kp1 hk) Dd₁ (fun h₂ D₂ s₂=>?_) (by rw [qkA];omega))
  replace s₂:Heap.SameBut dd h₁ h₂:=s₂
  have kp2:∀ c o,h0.get? c=some o->h₂.get? c=some o:=fun c o q=>(s₂.2 c (fun z=>by rw [z,n2] at q;exact nomatch q)).trans (kp1 c o q)
  have hno:atKey (xs.take i) xs[i].1=none:=by
   refine atKey_none_of_get fun j p hj=>?_
   have hji:j<i:=by
    obtain ⟨hj',_⟩:=qvA.mp hj
    rw [qkA] at hj'
    omega
   rw [List.getElem?_take_of_lt hji] at hj
   have a1:(xs.map (·.1))[j]? = some xs[i].1:=by rw [qaB,hj];rfl
   have a2:(xs.map (·.1))[i]? = some xs[i].1:=by rw [qaB,qwA hlt];rfl
   have:=(List.getElem?_inj (i:=j) (j:=i) (by rw [qfA];omega) hnd).mp (a1.trans a2.symm)
   omega
  have D3:h₂.DictOfH (tupleKind (Ca prog w)) dd (xs.take (i+1)):=by
   rw [List.take_succ_eq_append_getElem hlt]
   rw [storedH_new hno] at D₂
   exact D₂
  have Z₂:h₂.IsListIter it l (i+1):=by
   obtain ⟨o',g',r'⟩:=Z₁
   exact ⟨o',(s₂.2 _ ne).trans g',r'⟩
  refine qcA ⟨plainId_quiet Bi _,ih (i+1) _ (by omega) hlt kp2 Z₂ D3 fun h' tk kp' Df=>?_⟩
  exact hR h' tk (fun c o hc1 hc2 e=>kp' c o hc1 hc2 ((s₂.2 c hc2).trans ((sb.2 c hc1).trans e))) Df
theorem call_dictOfL {Q:Value->Shared->Prop}{l:Addr}{items:Array Value}{xs:List (List Bool × Addr × Value)}(hh:A.handled=none)(hu:A.units+8<cLine)(hx:PlainL s.heap l items)(hi:ItemsB prog w s.heap items xs)
  (h:∀ h' tk,(∀ c o,s.heap.get? c=some o->h'.get? c=some o)->h'.DictOfH (tupleKind (Ca prog w)) s.heap.objs.size xs->Q (.ref s.heap.objs.size) { s with heap:=h',toks:=tk }) :
  wpAny (model prog w) A (call (.type "dict") [.ref l]) Q E s:=by
 refine callType_codes (Q₁:=fun obj s₁=>obj = .ref s.heap.objs.size/\s₁ = { s with heap:=s.heap.push { cls:=.type "dict",data:=.dict #[] } }) F.kt_called_dict (F.kt_typeCall_dict_1 _) F.entry_dict_init (kt_code_dict_new _ ⟨rfl,rfl⟩) ?_
 rintro obj s₁ ⟨rfl,rfl⟩
 have new:(s.heap.push { cls:=.type "dict",data:=.dict #[] }).DictOfH (tupleKind (Ca prog w)) s.heap.objs.size []:=Heap.DictOfH.new s.heap
 have k0:∀ c o,s.heap.get? c=some o->(s.heap.push { cls:=.type "dict",data:=.dict #[] }).get? c=some o:=fun c o q=>qrB _ q
 obtain ⟨ol,nl,gl,rl⟩:=id hx
 refine ⟨new.typeIs,F.args_dict_init_2 _ _,?_⟩
 unfold Builtin.«dict.__init__»
 refine qbA ?_
 unfold Builtin.Dict.selfAndRest
 refine qbA (wpAny_notOrdered_dict new.typeIs ?_)
 show wpAny _ _ (pure (s.heap.objs.size,[Value.ref l])) _ _ _
 refine qcA ?_
 show wpAny _ _ (Builtin.Dict.updateFrom "dict.__init__" s.heap.objs.size (.ref l) [] .none) _ _ _
 unfold Builtin.Dict.updateFrom
 refine qbA (wpAny_typeOf (T := "list") ⟨_,k0 _ _ gl,rl.1⟩ ?_)
 rw [if_pos (by decide)]
 refine qbA (list_keys_none (its:=items) (by simpa using hh) ⟨ol,nl,k0 _ _ gl,rl⟩ fun h₁ t₁ kp=>?_)
 rw [if_pos (show (none:Option Value).isNone=true from rfl)]
 refine qbA (qdA ?_)
 have kp1:∀ c o,s.heap.get? c=some o->h₁.get? c=some o:=fun c o q=>kp _ _ (k0 _ _ q)
 have il:s.heap.IsList l items:=hx.isList
 refine qbA (wpAny_pyIter_list (s:=_) (il.at fun o q=>kp1 _ _ q) ?_)
 have d1:s.heap.objs.size<h₁.objs.size:=by
  obtain ⟨o,_,_,g,_⟩:=new
  exact qqB (kp _ _ g)
 have kp2:∀ c o,h₁.get? c=some o->(h₁.push { cls:=.type "list_iterator",data:=.fields #[.ref l,.int 0 0] }).get? c=some o:=fun c o q=>qrB _ q
 have n1:s.heap.get? h₁.objs.size=none:=by
  cases e:s.heap.get? h₁.objs.size with
  | none=>rfl
  | some o=>exact absurd (qqB (kp1 _ _ e)) (qnB _)
 have n2:s.heap.get? s.heap.objs.size=none:=by
  cases e:s.heap.get? s.heap.objs.size with
  | none=>rfl
  | some o=>exact absurd (qqB e) (qnB _)
 refine qcA ⟨?_,dt_loop (h0:=s.heap) (items:=items) (xs:=xs) (it:=h₁.objs.size) (l:=l) (dd:=s.heap.objs.size) (by simpa using hh) ?_ n1 n2 (fun z=>by replace z:@Eq Nat _ _:=z;omega) il hi _ 0 _ rfl (qrC _) (fun c o q=>kp2 _ _ (kp1 _ _ q)) ⟨_,qsB _ rfl,rfl,rfl⟩ (dbh_keep new (fun o q=>kp2 _ _ (kp _ _ q)) fun x hx=>nomatch hx) fun h' tk kp' Df=>?_⟩
 ·exact plainId_quiet Bi _
 ·simp only [Around.in1]
  omega
 ·refine ⟨rfl,h h' tk (fun c o e=>kp' c o ?_ ?_ (kp2 _ _ (kp1 _ _ e))) Df⟩
  ·intro z;rw [z,n1] at e;exact nomatch e
  ·intro z;rw [z,n2] at e;exact nomatch e
end
structure T5 (α β γ δ ε:Type) where
 a:α
 b:β
 c:γ
 d:δ
 e:ε
instance rpT5 {α β γ δ ε:Type}[Rp α][Rp β][Rp γ][Rp δ][Rp ε]:Rp (T5 α β γ δ ε) :=
 ⟨fun K H v p=>∃ t a b c d e,v = .ref t/\SqT K H t [a,b,c,d,e]/\Rp.rel K H a p.a/\Rp.rel K H b p.b/\Rp.rel K H c p.c/\Rp.rel K H d p.d/\Rp.rel K H e p.e,
  fun s ⟨t,a,b,c,d,f,e,h,r1,r2,r3,r4,r5⟩=>⟨t,a,b,c,d,f,e,s.tup h,Rp.mono s r1,Rp.mono s r2,Rp.mono s r3,Rp.mono s r4,Rp.mono s r5⟩⟩
section
variable {K:FZ9}{σ:St}{G H G1 H1 G0 H0:Hp}{α β γ δ ε:Type}[Rp α][Rp β][Rp γ][Rp δ][Rp ε]{ta tb tc td te:TE}{rest:TS}{D:Ends}{ma:Option α}{mb:Option β}{mc:Option γ}{md:Option δ}{me:Option ε}
theorem ev_tup5 (ea:EV K ta σ G ma)(eb:EV K tb σ G mb)(ec:EV K tc σ G mc)(ed:EV K td σ G md)(ee:EV K te σ G me):EV K (HH (AQ ta (AQ tb (AQ tc (AQ td (AQ te BL)))))) σ G (ma.bind fun a=>mb.bind fun b=>mc.bind fun c=>md.bind fun d=>me.bind fun e=>some (T5.mk a b c d e)):=by
 intro G1 s1 c hc H sH Q k
 obtain ⟨a,ha,hc⟩:=qaA.mp hc
 obtain ⟨b,hb,hc⟩:=qaA.mp hc
 obtain ⟨c',hc',hc⟩:=qaA.mp hc
 obtain ⟨d,hd,hc⟩:=qaA.mp hc
 obtain ⟨e,he,hc⟩:=qaA.mp hc
 cases hc
 refine ea G1 s1 a ha H sH _ fun v G2 H2 x2 r2=>?_
 refine eb G2 (s1.trans x2.gg) b hb H2 x2.gh _ fun u G3 H3 x3 r3=>?_
 refine ec G3 (s1.trans (x2.trans x3).gg) c' hc' H3 x3.gh _ fun w G4 H4 x4 r4=>?_
 refine ed G4 (s1.trans ((x2.trans x3).trans x4).gg) d hd H4 x4.gh _ fun y G5 H5 x5 r5=>?_
 refine ee G5 (s1.trans (((x2.trans x3).trans x4).trans x5).gg) e he H5 x5.gh _ fun z G6 H6 x6 r6=>⟨by show 5<=sizeLine;decide,fun p h=>?_⟩
 have s:=Same.new (o:=.tup [v,u,w,y,z]) (x6.gh.free h)
 exact k _ _ _ (((((x2.trans x3).trans x4).trans x5).trans x6).trans (.new x6.gh h)) ⟨p,v,u,w,y,z,rfl,SqT.of AJ,Rp.mono ((((x3.trans x4).trans x5).trans x6).gg.trans s) r2,Rp.mono (((x4.trans x5).trans x6).gg.trans s) r3,Rp.mono ((x5.trans x6).gg.trans s) r4,Rp.mono (x6.gg.trans s) r5,Rp.mono s r6⟩
theorem sv_turn5 {i j k l m:Nat}{a:T5 α β γ δ ε}{x:V}{tb:TS}(r:Rp.rel K G x a)(s:Same G H)(q:∀ v1 v2 v3 v4 v5,Rp.rel K G v1 a.a->Rp.rel K G v2 a.b->Rp.rel K G v3 a.c->Rp.rel K G v4 a.d->Rp.rel K G v5 a.e->tb D (((((σ.set i (some v1)).set j (some v2)).set k (some v3)).set l (some v4)).set m (some v5)) H) :
  gTup K 5 (GX (Bh i) (GX (Bh j) (GX (Bh k) (GX (Bh l) (GX (Bh m) gNil))))) x σ H fun σ2 H2=>tb D σ2 H2:=by
 obtain ⟨t,x1,x2,x3,x4,x5,rfl,ht,r1,r2,r3,r4,r5⟩:=r
 exact ⟨t,_,rfl,s.tup ht,rfl,x1,_,rfl,x2,_,rfl,x3,_,rfl,x4,_,rfl,x5,_,rfl,rfl,q _ _ _ _ _ r1 r2 r3 r4 r5⟩
theorem sv_par {i j:Nat}{a:α}{b:β}(ea:EV K ta σ G ma)(ha:ma=some a)(eb:EV K tb σ G mb)(hb:mb=some b)(s:Same G H)
  (k:∀ v w G2 H2,Ext G H G2 H2->Rp.rel K G2 v a->Rp.rel K G2 w b->rest D ((σ.set i (some v)).set j (some w)) H2):CA (tPar i j (AQ ta (AQ tb BL))) rest D σ H:=by
 refine ea.run ha s fun v G2 H2 x2 r2=>?_
 refine eb G2 x2.gg b hb H2 x2.gh _ fun u G3 H3 x3 r3=>?_
 exact ⟨v,u,rfl,k v u G3 H3 (x2.trans x3) (Rp.mono x3.gg r2) r3⟩
end
def dictT (l:List (Tp Bool × Int)):Option MpT:=if (l.map (·.1.l)).Nodup/\l.length<4000 then some ⟨l⟩ else none
def getT (d:MpT)(k:Tp Bool):Option Int:=(d.l.find? fun q=>decide (q.1=k)).map (·.2)
def rDictT (K:FZ9):List V->Hp->VK->Prop:=fun vs H Q=>∃ (G:Hp) (l:Addr) (ps:List V) (as:List (Tp Bool × Int)),Same G H/\vs=[.ref l]/\SqL K H l ps/\Paired (Rp.rel K G) ps as/\(as.map (·.1.l)).Nodup/\as.length<4000 /\
 ∀ p xs,H p=none->Paired (RelT K G) xs as->Q (.ref p) (upd H p (DbO p xs))
section
variable {X:Cx}{pins:List (Addr × Obj)}{σ:St}{H G:Hp}{s:Shared}
theorem pairs_items (I:Inv X pins σ H s)(sg:Same G H):∀ {ps:List V}{as:List (Tp Bool × Int)}{its:List Value},Paired (Rp.rel X.K G) ps as->Vals ps its->∃ xs,Paired (RelT X.K G) xs as/\its.length=xs.length /\
  ∀ (j:Nat) (x:List Bool × Addr × Value),xs[j]? = some x->∃ t,its[j]? = some (.ref t)/\IsTup s.heap t #[.ref x.2.1,x.2.2]/\(tupleKind (Ca X.prog X.w)).is s.heap x.1 x.2.1
 | _,_,_,.nil,.nil=>⟨[],.nil,rfl,fun j x h=>by simp at h⟩
 | _,a::as,_,.cons r rs,.cons v vs=>by
  obtain ⟨xs,h1,h2,h3⟩:=pairs_items I sg rs vs
  obtain ⟨t,x,y,rfl,ht,r1,r2⟩:=r
  cases (show _=Value.ref t from v)
  obtain ⟨its,rv,pl,_⟩:=I.tuple (sg.tup ht)
  obtain ⟨u1,u2,rfl,q1,q2⟩:=vals2 rv
  have r1':=r1
  obtain ⟨t2,ys,rfl,h5,h6,h7⟩:=r1'
  cases (show u1=Value.ref t2 from q1)
  cases (show y=V.int a.2 from r2)
  refine ⟨(a.1.l,t2,u2)::xs,.cons ⟨rfl,r1,q2⟩ h1,by rw [qhA,qhA,h2],fun j z hz=>?_⟩
  match j,hz with
  | 0,hz =>
   cases hz
   exact ⟨t,rfl,pl,tkey_of I (Rp.mono sg r1)⟩
  | j+1,hz=>exact h3 j z hz
theorem call_dictT {K:FZ9}{j:Nat}(hc:X.calm=true)(hK:X.K=K)(hr:Room j X.A):EM X (.type "dict") (rDictT K):=by
 subst hK
 intro pins s σ H vs us Q I r h
 obtain ⟨G,l,ps,as,sg,rfl,hl,pr,hn,hz,q⟩:=h
 obtain ⟨u,rfl,ru⟩:=Fz r
 cases ru
 obtain ⟨its,rv,pl,_⟩:=I.list hl
 obtain ⟨xs,h1,h2,h3⟩:=pairs_items I sg pr rv
 have hxs:xs.map (·.1)=as.map (·.1.l):=by
  have all:∀ {xs:List (List Bool × Addr × Value)}{as:List (Tp Bool × Int)},Paired (RelT X.K G) xs as->xs.map (·.1)=as.map (·.1.l):=by
   intro xs as q
   induction q with
   | nil=>rfl
   | @cons p q ps qs hq t ih=>rw [qcB,qcB,ih,hq.1]
  exact all h1
 have hlen:=Paired.length h1
 refine call_dictOfL (xs:=xs) (I.ok.hd hc) (by have:=hr.un;omega) pl ⟨by rw [qaC];exact h2,by rw [hxs];exact hn,by rw [qtB];omega,fun j x hx=>?_⟩ fun h' tk kp D=>?_
 ·obtain ⟨t,e1,e2⟩:=h3 j x hx
  exact ⟨t,by rw [List.getElem?_toArray];exact e1,e2⟩
 ·obtain ⟨o,es,ep,g,d1,d2,d3,_,d5⟩:=D
  exact ⟨.ref s.heap.objs.size,_,I.laid' (s':={ s with heap:=h',toks:=tk }) (fun b o e=>kp b o e) (qkB _) (dbO_ok ⟨o,es,ep,g,d1,d2,d3,d5⟩) rfl rfl,rfl,q _ xs (I.hok.fresh (qkB _)) h1⟩
end
def tDGetT (K:FZ9)(td ty:TE):TE:=fun σ H Q=>td σ H fun x H1=>ty σ H1 fun y H2=>∃ (G:Hp) (d:MpT) (k:Tp Bool) (n:Int),Same G H2/\Rp.rel K G x d/\Rp.rel K G y k/\getT d k=some n/\Q (.int n) H2
theorem atKey_T {K:FZ9}{G:Hp}{k:Tp Bool}:∀ {xs:List (List Bool × Addr × Value)}{l:List (Tp Bool × Int)}{n:Int},Paired (RelT K G) xs l->(l.find? fun q=>decide (q.1=k)).map (·.2)=some n->∃ p,atKey xs k.l=some p/\RelV (.int n) p.2
 | _,_,n,.nil,h=>nomatch h
 | x::xs,q::l,n,.cons r rs,h=>by
  unfold atKey
  by_cases e:q.1=k
  ·rw [List.find?_cons_of_pos (by rw [decide_eq_true e])] at h
   cases h
   rw [List.find?_cons_of_pos (by rw [decide_eq_true (show x.1=k.l by rw [r.1,e])])]
   exact ⟨x.2,rfl,r.2.2⟩
  ·rw [List.find?_cons_of_neg (by rw [decide_eq_false e];exact qzB)] at h
   have e2:¬ x.1=k.l:=fun z=>e (by
    rw [r.1] at z
    cases hq:q.1
    cases k
    rw [hq] at z
    exact congrArg Tp.mk z)
   rw [List.find?_cons_of_neg (by rw [decide_eq_false e2];exact qzB)]
   exact atKey_T rs h
section
variable {X:Cx}{K:FZ9}{i o:Expr}{ty td ta te:TE}{pos:Pos}{σ:St}{G:Hp}
theorem pe_dgetT (hK:X.K=K)(hu:X.A.units+1<cLine)(ho:PE X o td)(hi:PE X i ty)(hs:NoSl i):PE X (.Subscript o i pos) (tDGetT K td ty):=by
 subst hK
 intro pins s σ H Q I h
 refine subD_of PySem.F.slot_dict_getitem.lookup hs (thn (ho pins s σ H _ I h) fun u s1 ⟨x,H1,I1,rx,q1⟩=>thn (hi pins s1 σ H1 _ I1 q1) fun iv s2 ⟨y,H2,I2,ry,G,d,k,n,sg,rd,rk,hg,q2⟩=>?_)
 obtain ⟨p,xs,rfl,hp,pr⟩:=Rp.mono sg rd
 have rk':=Rp.mono sg rk
 obtain ⟨t,zs,rfl,_⟩:=rk'
 obtain rfl:u=Value.ref p:=rx
 obtain rfl:iv=Value.ref t:=ry
 have D:=dbH_of I2 hp pr
 obtain ⟨w',hw,rw'⟩:=atKey_T pr hg
 refine ⟨D.typeIs,wpAny_getItem_heap (tupleKind_room_in1 hu) (tkey_of I2 (Rp.mono sg rk)) D hw ⟨.int n,H2,I2.tok _,rw',q2⟩⟩
theorem ev_dgetT {md:Option MpT}{mk:Option (Tp Bool)}(ed:EV K td σ G md)(ek:EV K ty σ G mk):EV K (tDGetT K td ty) σ G (md.bind fun d=>mk.bind fun k=>getT d k):=by
 intro G1 s1 c hc H sH Q k
 obtain ⟨d,hd,hc⟩:=qaA.mp hc
 obtain ⟨j,hj,hc⟩:=qaA.mp hc
 refine ed G1 s1 d hd H sH _ fun x G2 H2 x2 r2=>?_
 refine ek G2 (s1.trans x2.gg) j hj H2 x2.gh _ fun y G3 H3 x3 r3=>?_
 exact ⟨G3,d,j,c,x3.gh,Rp.mono x3.gg r2,r3,hc,k _ G3 H3 (x2.trans x3) rfl⟩
theorem ev_dictT {m:Option (List (Tp Bool × Int))}(e:FV K te σ G m):EV K (tCB (rDictT K) (AQ te BL)) σ G (m.bind fun l=>dictT l):=by
 intro G1 s1 c hc H sH Q k
 obtain ⟨a,ha,hc⟩:=qaA.mp hc
 obtain ⟨⟨h1,h2⟩,rfl⟩:=Ay hc
 refine e G1 s1 a ha H sH _ fun p vs G2 H2 x2 hp gp hh z pr=>?_
 refine ⟨G2,p,vs,a,x2.gh,rfl,.inl (.inl hh),pr,h1,h2,fun q xs hq px=>?_⟩
 have gq:=Same.free x2.gh hq
 exact k (.ref q) (upd G2 q (DbO q xs)) _ (x2.trans (.new x2.gh hq)) ⟨q,xs,rfl,AJ,Paired.imp' (fun _ _ r=>r.mono (Same.new gq)) px⟩
end
section
variable {prog:Program}{w:World}{A:Around}{E:Value->Shared->Prop}{s:Shared}{κ:Type}[DecidableEq κ]{knd:HeapKind prog w κ}
theorem setDef_heap {d a:Addr}{xs:List (κ × Addr × Value)}{k:κ}{v:Value}{Q:Value->Shared->Prop}(hu:knd.room A)(hkey:knd.is s.heap k a)(hm:s.heap.DictOfH knd d xs)
  (h1:∀ p,atKey xs k=some p->Q p.2 { s with toks:=s.toks+knd.draws k })
  (h2:atKey xs k=none->∀ h',h'.DictOfH knd d (storedH xs k a v)->Heap.SameBut d s.heap h'->Q v { s with heap:=h',toks:=s.toks+knd.draws k })
  (hsz:xs.length<=sizeLine):wpAny (model prog w) A (dictSetDefault d (.ref a) v) Q E s:=by
 obtain ⟨o,es,ep,ho,hc,hd,he,his,hn⟩:=hm
 unfold dictSetDefault
 try with_reducible refine qeA ?_
 refine qbA (knd.pyHash hu hkey ?_)
 refine qbA (wpAny_dictFind_heap (s:={ s with toks:=s.toks+knd.draws k }) hu hkey ho hd he his hn ?_ ?_)
 ·intro hno
  have hnot:k ∉ xs.map (·.1):=not_mem_keys_of_get hno
  have hat:=atKey_none_of_get hno
  refine qbA (qdA (qbA (wpAny_updateDictKeys (hz:=by have e:=size_of_entries he;omega) (s:={ s with toks:=s.toks+knd.draws k }) ho hd (qcA (h2 hat _ ⟨_,_,ep+1,Heap.get?_update_self _ ho (Obj.isFreed_of_dict (Obj.data_mapDictKeys hd _)),
   hc.mapDictKeys _,Obj.data_mapDictKeys hd _,?_,?_,?_⟩ (Heap.SameBut.update ..))))))
  ·rw [storedH_new hat]
   simp [he,entryOfKey]
  ·rw [storedH_new hat]
   intro x hx
   rcases qmA.mp hx with hx|hx
   ·exact knd.keeps (his x hx) ho hd (Heap.SameBut.update ..)
   ·simp only [qqA] at hx
    subst hx
    exact knd.keeps hkey ho hd (Heap.SameBut.update ..)
  ·rw [storedH_new hat]
   rw [qdB,qgB]
   refine ⟨hn,by simp,?_⟩
   intro x hx y hy
   simp only [qcB,List.map_nil,qqA] at hy
   subst hy
   exact fun e=>hnot (e ▸ hx)
 ·intro j p hj
  have hat:=atKey_of_get hn hj
  refine qbA (wpAny_dictEntries (s:={ s with toks:=s.toks+knd.draws k }) ho hd ?_)
  rw [entry_at he j,hj]
  exact qbA (qdA (qcA (h1 p hat)))
theorem setDef_call {d a:Addr}{xs:List (κ × Addr × Value)}{k:κ}{v:Value}{Q:Value->Shared->Prop}(hu:knd.room A.in1)(hds:(d == sysModules)=false)(hkey:knd.is s.heap k a)(hm:s.heap.DictOfH knd d xs)
  (h1:∀ p,atKey xs k=some p->Q p.2 { s with toks:=s.toks+knd.draws k })
  (h2:atKey xs k=none->∀ h',h'.DictOfH knd d (storedH xs k a v)->Heap.SameBut d s.heap h'->Q v { s with heap:=h',toks:=s.toks+knd.draws k })
  (hsz:xs.length<=sizeLine):wpAny (model prog w) A (call (.builtin "dict.setdefault") [.ref d,.ref a,v]) Q E s:=by
 refine qoC PySem.F.slot_dict_setdefault hm.typeIs PySem.F.entry_dict_setdefault ?_ (PySem.F.args_dict_setdefault_3 _ _ _)
 unfold Builtin.«dict.setdefault»
 refine qbA ?_
 unfold Builtin.Dict.keyAndDefault
 refine qbA (wpAny_notOrdered_dict hm.typeIs ?_)
 show wpAny _ _ (pure (d,Value.ref a,some v)) _ _ s
 refine qcA ?_
 show wpAny _ _ (if (d == sysModules)=true then _ else (dictSetDefault d (.ref a) v >>= _)) _ _ s
 rw [if_neg (by rw [hds];exact qzB)]
 exact qbA (setDef_heap hu hkey hm (fun p hp=>qcA ⟨p.2,rfl,h1 p hp⟩) (fun hn h' hm' hs'=>qcA ⟨v,rfl,h2 hn h' hm' hs'⟩) hsz)
end
section
variable {X:Cx}{pins:List (Addr × Obj)}{σ:St}{H:Hp}{s:Shared}{a:Addr}{v:V}{r:Value}{A:Around}{E:Value->Shared->Prop}
theorem d_setdef {kvs:List (List Key × V)}{k:List Key}{b:Addr}{Q:Value->Shared->Prop}(hu:A.units+1<cLine)(I:Inv X pins σ H s)(e:H a=some (.dT kvs))(eb:H b=some (.tup (k.map kV)))(hl:kvs.length<sizeLine)(rv:RelV v r)
  (h1:∀ u w' s',D7 kvs k=some u->Inv X pins σ H s'->RelV u w'->Q w' s') (h2:D7 kvs k=none->∀ s',Inv X pins σ (upd H a (.dT (Ct kvs k v))) s'->Q r s') :
  wpAny (model X.prog X.w) A (call (.builtin "dict.setdefault") [.ref a,.ref b,r]) Q E s:=by
 obtain ⟨z,hd,xs,rel,dd⟩:=dt_of I.hok e
 have hz:xs.length<=sizeLine:=by rw [<- Paired.length rel];exact z
 have hl':(Ct kvs k v).length<=sizeLine:=by have:=GH kvs k v;omega
 refine setDef_call (tupleKind_room_in1 hu) hd (HV I.hok eb) dd (fun p hp=>?_) (fun hn h' dd' hs=>?_) hz
 ·have:=rel.val k
  rw [hp] at this
  cases hv:D7 kvs k with
  | none=>rw [hv] at this;exact this.elim
  | some u =>
   rw [hv] at this
   exact h1 u p.2 _ hv (I.tok _) this
 ·have:=rel.val k
  rw [hn] at this
  cases hv:D7 kvs k with
  | some u=>rw [hv] at this;exact this.elim
  | none =>
   refine h2 hv _ ?_
   obtain ⟨q,es,ep,hq,g2,g3,g4,_,g5⟩:=dd'
   refine d_write I (by rw [e];exact True.intro) hs ⟨q,hq⟩ ⟨hl',hd,_,(rel.put k eb rv).keeps fun c ys ec=>?_,q,es,ep,hq,g2,g3,g4,g5⟩
   rw [Aq (ne_of ec e (fun z=>nomatch z))]
   exact ec
end
def tSetD (td ty tx:TE):TE:=fun σ H Q=>td σ H fun x H1=>∃ a,x = .ref a/\IsD H1 a/\ty σ H1 fun y H2=>tx σ H2 fun z H3=>∃ kvs k b,H3 a=some (.dT kvs)/\y = .ref b/\H3 b=some (.tup (k.map kV))/\kvs.length<sizeLine /\
 (∀ u,D7 kvs k=some u->Q u H3)/\(D7 kvs k=none->Q z (upd H3 a (.dT (Ct kvs k z))))
section
variable {X:Cx}{o e f:Expr}{td ty tx:TE}{apos cpos:Pos}
theorem pe_setD (hu:X.A.units+1<cLine)(ho:PE X o td)(he:PE X e ty)(hf:PE X f tx)(m:M2 X o "setdefault" apos e f cpos):PE X (.Call (.Attribute o "setdefault" apos) [e,f] [] cpos) (tSetD td ty tx):=by
 intro pins s σ H Q I h
 refine wpAny_Call_method m.base m.few m.line PySem.F.plainAttrs_dict PySem.F.slot_dict_setdefault PySem.F.type_dict_setdefault (thn (ho pins s σ H _ I h) fun u s1 ⟨x,H1,I1,rx,a,ex,d,q1⟩=>?_)
 subst ex
 obtain rfl:u=Value.ref a:=rx
 obtain ⟨t1,t2,_⟩:=isD_at I1 d
 refine ⟨t1,t2,?_⟩
 rw [m.trees]
 refine Calls.callWith_builtin rfl (Calls.evalArgs_plain (Calls.spliced_cons (thn (he pins s1 σ H1 _ I1 q1) fun iv s2 ⟨y,H2,I2,ry,q2⟩ =>
  Calls.spliced_cons (thn (hf pins s2 σ H2 _ I2 q2) fun fv s3 ⟨z,H3,I3,rz,kvs,k,b,e1,e2,e3,e4,q3,q4⟩=>Calls.spliced_nil ?_))))
 subst e2
 obtain rfl:iv=Value.ref b:=ry
 exact d_setdef hu I3 e1 e3 e4 rz (fun u w' s' hv I4 r4=>⟨u,H3,I4,r4,q3 u hv⟩) (fun hv s' I4=>⟨z,_,I4,rz,q4 hv⟩)
end
def He {α:Type}(l:List (Rk × List α))(k:Rk)(a:α):List (Rk × List α):=if (l.any fun q=>decide (q.1=k))=true then l.map (fun q=>if q.1=k then (q.1,q.2++[a]) else q) else l++[(k,[a])]
def addLO {α:Type}(m:MpR (List α))(k:Rk)(a:α):Option (MpR (List α)):=if m.l.length<sizeLine/\(m.l.all fun q=>decide (q.2.length<sizeLine))=true then some ⟨He m.l k a⟩ else none
def RelW (K:FZ9){α:Type}[Rp α](H0 G H:Hp)(kv:List Key × V)(q:Rk × List α):Prop:=kv.1=D5 q.1.tp/\∃ l vs,kv.2 = .ref l/\H0 l=none/\Own K G H (.ref l) l vs q.2
structure OwnDL (K:FZ9){α:Type}[Rp α](H0 G H:Hp)(p:Addr)(kvs:List (List Key × V))(a:MpR (List α)):Prop where
 g:G p=none
 n:H0 p=none
 h:H p=some (.dT kvs)
 r:Paired (RelW K H0 G H) kvs a.l
 d:(kvs.map (·.2)).Nodup
 e:(kvs.map (·.1)).Nodup
section
variable {K:FZ9}{σ:St}{G H G1 H1 G0 H0:Hp}{α:Type}[Rp α]{ti tz tr:TE}{rest:TS}{D:Ends}{i:Nat}{a:MpR (List α)}{p q:Addr}{kvs:List (List Key × V)}
theorem RelW.ext {kv:List Key × V}{b:Rk × List α}(x:Ext G H G1 H1)(r:RelW K H0 G H kv b):RelW K H0 G1 H1 kv b:=by
 obtain ⟨h1,l,vs,h2,h3,o⟩:=r
 exact ⟨h1,l,vs,h2,h3,o.ext x⟩
theorem OwnDL.ext (o:OwnDL K H0 G H p kvs a)(x:Ext G H G1 H1):OwnDL K H0 G1 H1 p kvs a :=
 ⟨x.no p o.g (by rw [o.h];exact fun z=>nomatch z),o.n,x.hh _ _ o.h,Paired.imp' (fun _ _ r=>r.ext x) o.r,o.d,o.e⟩
theorem RelW.put {kv:List Key × V}{b:Rk × List α}{ho:HO}(h:kv.2 ≠ .ref q)(r:RelW K H0 G H kv b):RelW K H0 G (upd H q ho) kv b:=by
 obtain ⟨h1,l,vs,h2,h3,o⟩:=r
 exact ⟨h1,l,vs,h2,h3,o.put fun z=>h (by rw [h2,z])⟩
theorem relW_put {ho:HO}:∀ {kvs:List (List Key × V)}{l:List (Rk × List α)},(∀ kv∈kvs,kv.2 ≠ .ref q)->Paired (RelW K H0 G H) kvs l->Paired (RelW K H0 G (upd H q ho)) kvs l
 | _,_,_,.nil=>.nil
 | kv::kvs,b::l,h,.cons r t=>.cons (r.put (h kv (qrA ..))) (relW_put (fun x hx=>h x (qsA _ hx)) t)
theorem valV_mem:∀ {kvs:List (List Key × V)}{k:List Key}{u:V},D7 kvs k=some u->∃ kv∈kvs,kv.1=k/\kv.2=u
 | [],_,_,h=>nomatch h
 | kv::kvs,k,u,h=>by
  by_cases e:kv.1=k
  ·rw [C5 e] at h
   exact ⟨kv,qrA ..,e,qpB h⟩
  ·rw [Bx e] at h
   obtain ⟨x,hx,q⟩:=valV_mem h
   exact ⟨x,qsA _ hx,q⟩
theorem relW_any {k:Rk}:∀ {kvs:List (List Key × V)}{l:List (Rk × List α)},Paired (RelW K H0 G H) kvs l->(D7 kvs (D5 k.tp)).isSome=(l.any fun q=>decide (q.1=k))
 | _,_,.nil=>rfl
 | kv::kvs,b::l,.cons r t=>by
  rw [List.any_cons]
  by_cases e:b.1=k
  ·rw [C5 (by rw [r.1,e]),decide_eq_true e]
   rfl
  ·rw [Bx (fun z=>e (by rw [r.1] at z;exact Gn z)),decide_eq_false e,relW_any t]
   rfl
theorem relW_val {k:Rk}{u:V}:∀ {kvs:List (List Key × V)}{l:List (Rk × List α)},Paired (RelW K H0 G H) kvs l->D7 kvs (D5 k.tp)=some u->∃ t vs b,u = .ref t/\H0 t=none/\(k,b)∈l/\Own K G H (.ref t) t vs b
 | _,_,.nil,h=>nomatch h
 | kv::kvs,b::l,.cons r t,h=>by
  by_cases e:b.1=k
  ·rw [C5 (by rw [r.1,e])] at h
   obtain ⟨_,t,vs,h2,h3,o⟩:=r
   refine ⟨t,vs,b.2,by rw [<- qpB h,h2],h3,?_,o⟩
   rw [<- e]
   exact qrA ..
  ·rw [Bx (fun z=>e (by rw [r.1] at z;exact Gn z))] at h
   obtain ⟨t',vs,b',h1,h2,h3,h4⟩:=relW_val t h
   exact ⟨t',vs,b',h1,h2,qsA _ h3,h4⟩
theorem relW_map_id {k:Rk}{c:α}:∀ {l:List (Rk × List α)},(∀ q∈l,q.1≠k)->l.map (fun q=>if q.1=k then (q.1,q.2++[c]) else q)=l
 | [],_=>rfl
 | b::l,h=>by
  rw [qcB,if_neg (h b (qrA ..)),relW_map_id fun q hq=>h q (qsA _ hq)]
theorem relW_keys:∀ {kvs:List (List Key × V)}{l:List (Rk × List α)},Paired (RelW K H0 G H) kvs l->∀ q∈l,D5 q.1.tp∈kvs.map (·.1)
 | _,_,.nil,q,h=>nomatch h
 | kv::kvs,b::l,.cons r t,q,h=>by
  rcases qnA.mp h with e|h
  ·subst e
   rw [<- r.1]
   exact qrA ..
  ·exact qsA _ (relW_keys t q h)
theorem relW_add {k:Rk}{c:α}{t:Addr}{vs:List V}{w:V}(hv:H t=some (.lst vs))(hz:vs.length<sizeLine)(rw_:Rp.rel K G w c):∀ {kvs:List (List Key × V)}{l:List (Rk × List α)},Paired (RelW K H0 G H) kvs l->(kvs.map (·.2)).Nodup->(kvs.map (·.1)).Nodup->D7 kvs (D5 k.tp)=some (.ref t) ->
  Paired (RelW K H0 G (upd H t (.lst (vs++[w])))) kvs (l.map fun q=>if q.1=k then (q.1,q.2++[c]) else q)
 | _,_,.nil,_,_,h=>nomatch h
 | kv::kvs,b::l,.cons r tl,nd,ne,h=>by
  rw [qcB,List.nodup_cons] at nd ne
  rw [qcB]
  by_cases e:b.1=k
  ·have ek:kv.1=D5 k.tp:=by rw [r.1,e]
   rw [C5 ek] at h
   have h2:=qpB h
   rw [if_pos e,relW_map_id fun q hq hqk=>ne.1 (by rw [ek,<- hqk];exact relW_keys tl q hq)]
   refine .cons ?_ (relW_put (fun x hx z=>nd.1 (by rw [h2,<- z];exact qoA.mpr ⟨x,hx,rfl⟩)) tl)
   obtain ⟨h1,t',vs',e2,h3,o⟩:=r
   rw [h2] at e2
   cases e2
   have ev:vs'=vs:=by
    have:=o.h
    rw [hv] at this
    cases this
    rfl
   subst ev
   refine ⟨h1,t,vs'++[w],h2,h3,rfl,o.g,AJ,?_,Paired.app o.p (.cons rw_ .nil)⟩
   rw [qgA,qiA]
   omega
  ·rw [Bx (fun z=>e (by rw [r.1] at z;exact Gn z))] at h
   rw [if_neg e]
   obtain ⟨x,hx,_,hx2⟩:=valV_mem h
   exact .cons (r.put fun z=>nd.1 (by rw [z,<- hx2];exact qoA.mpr ⟨x,hx,rfl⟩)) (relW_add hv hz rw_ tl nd.2 ne.2 h)
theorem OwnDL.new (s:Same G H)(h0:H0 p=none)(hp:H p=none):OwnDL K H0 G (upd H p (.dT [])) p [] (⟨[]⟩:MpR (List α)):=⟨s.free hp,h0,AJ,.nil,.nil,.nil⟩
theorem sv_setAdd {c:α}{mr:Option α}{k':Rk}{mi:Option Rk}{a':MpR (List α)}(hσ:σ[i]? = some (some (.ref p)))(o:OwnDL K H0 G H p kvs a)(ei:EV K ti σ G mi)(hi:mi=some k')(ez:FV K tz σ G (some ([]:List α)))(er:EV K tr σ G mr)(hr:mr=some c)(ha:addLO a k' c=some a')(s:Same G H)(s0:Same H0 H)
  (k:∀ G2 H2 kvs2,Same G G2->(∀ G0,Ext G0 H0 G H->Ext G0 H0 G2 H2)->OwnDL K H0 G2 H2 p kvs2 a'->rest D σ H2) :
  CA (HW (tBM K "list" Gr (tSetD (Bc i) ti tz) (AQ tr BL))) rest D σ H:=by
 obtain ⟨⟨hl,hall⟩,rfl⟩:=Ay ha
 refine ⟨_,hσ,p,rfl,.inr ⟨kvs,.inl o.h⟩,?_⟩
 refine ei G (.refl G) k' hi H s _ fun y G2 H2 x2 r2=>?_
 have o2:=o.ext x2
 obtain ⟨b,rfl,hbk⟩:=rk_key r2
 refine ez G2 x2.gg [] rfl H2 x2.gh _ fun q0 vs0 G3 H3 x3 hq0 gq0 hh0 z0 pr0=>?_
 have o3:=o2.ext x3
 have xx:=x2.trans x3
 have ev0:vs0=[]:=by cases pr0;rfl
 subst ev0
 have hlen:=Paired.length o.r
 have n0:H0 q0=none:=by
  cases e:H0 q0 with
  | none=>rfl
  | some ho =>
   have:=x2.hh _ _ (s0 _ _ e)
   rw [hq0] at this
   exact nomatch this
 refine ⟨kvs,D5 k'.tp,b,o3.h,rfl,(x3.hh _ _ (x2.gh _ _ hbk)),by omega,fun u hu=>?_,fun hu=>?_⟩
 ·obtain ⟨t,vs,bs,rfl,n1,hm,ow⟩:=relW_val o3.r hu
  have hbz:bs.length<sizeLine:=of_decide_eq_true (List.all_eq_true.mp hall _ hm)
  have hvl:=Paired.length ow.p
  refine ⟨.inl ⟨rfl,_,SqL.of ow.h⟩,?_⟩
  refine er G3 xx.gg c hr H3 xx.gh _ fun w G4 H4 x4 r4=>?_
  have o4:=o3.ext x4
  have ow4:=ow.ext x4
  refine ⟨t,vs,w,rfl,rfl,ow4.h,by omega,?_⟩
  have hpt:p≠t:=ne_of o4.h ow4.h fun z=>nomatch z
  have hany:(a.l.any fun q=>decide (q.1=k'))=true:=by
   rw [<- relW_any o3.r,hu]
   rfl
  refine k G4 _ kvs (xx.trans x4).gg (fun G0 xt=>(xt.trans (xx.trans x4)).put n1 ow4.g) ⟨o4.g,o4.n,by rw [Aq hpt];exact o4.h,?_,o4.d,o4.e⟩
  show Paired _ kvs (He a.l k' c)
  unfold He
  rw [if_pos hany]
  exact relW_add ow4.h (by omega) r4 o4.r o4.d o4.e hu
 ·have hany:¬ (a.l.any fun q=>decide (q.1=k'))=true:=by
   rw [<- relW_any o3.r,hu]
   exact qzB
  have hpq:p≠q0:=ne_of o3.h hh0 fun z=>nomatch z
  have s4:Same G3 (upd H3 p (.dT (Ct kvs (D5 k'.tp) (.ref q0)))):=x3.gh.put o3.g
  have hq4:upd H3 p (.dT (Ct kvs (D5 k'.tp) (.ref q0))) q0=some (.lst []):=by rw [Aq (Ne.symm hpq)];exact hh0
  refine ⟨.inl ⟨rfl,_,SqL.of hq4⟩,?_⟩
  refine er G3 xx.gg c hr _ s4 _ fun w G4 H4 x4 r4=>?_
  have gp4:G4 p=none:=x4.no p o3.g (by rw [AJ];exact fun z=>nomatch z)
  have gq4:G4 q0=none:=x4.no q0 gq0 (by rw [hq4];exact fun z=>nomatch z)
  refine ⟨q0,[],w,rfl,rfl,x4.hh _ _ hq4,by decide,?_⟩
  have enew:Ct kvs (D5 k'.tp) (.ref q0)=kvs++[(D5 k'.tp,.ref q0)]:=putK_new _ hu
  have nk:D5 k'.tp ∉ kvs.map (·.1):=fun z=>by
   obtain ⟨kv,hkv,e⟩:=qoA.mp z
   have:(kvs.any fun kv=>decide (kv.1=D5 k'.tp))=true:=List.any_eq_true.mpr ⟨kv,hkv,decide_eq_true e⟩
   have h2:(D7 kvs (D5 k'.tp)).isSome=true:=by
    unfold D7
    rw [Option.isSome_map,List.isSome_find?]
    exact this
   rw [hu] at h2
   exact nomatch h2
  have old:∀ kv∈kvs,kv.2 ≠ .ref q0:=fun kv hkv z=>by
   have all:∀ {kvs:List (List Key × V)}{l:List (Rk × List α)},Paired (RelW K H0 G2 H2) kvs l->∀ kv∈kvs,∃ t vs,kv.2 = .ref t/\H2 t=some (.lst vs):=by
    intro kvs l pr
    induction pr with
    | nil=>intro kv h;exact nomatch h
    | @cons x b xs bs hx t ih =>
     intro kv h
     rcases qnA.mp h with e|h
     ·subst e
      obtain ⟨_,t,vs,h2,_,ow⟩:=hx
      exact ⟨t,vs,h2,ow.h⟩
     ·exact ih kv h
   obtain ⟨t,vs,h1,h2⟩:=all o2.r kv hkv
   rw [h1] at z
   cases z
   rw [hq0] at h2
   exact nomatch h2
  have nq:V.ref q0 ∉ kvs.map (·.2):=fun z=>by
   obtain ⟨kv,hkv,e⟩:=qoA.mp z
   exact old kv hkv e
  have r5:Paired (RelW K H0 G4 (upd H4 q0 (.lst ([]++[w])))) kvs a.l:=by
   have rp:Paired (RelW K H0 G3 (upd H3 p (.dT (Ct kvs (D5 k'.tp) (.ref q0))))) kvs a.l:=relW_put (fun kv hkv z=>by
    have all:∀ {kvs:List (List Key × V)}{l:List (Rk × List α)},Paired (RelW K H0 G3 H3) kvs l->∀ kv∈kvs,∃ t vs,kv.2 = .ref t/\H3 t=some (.lst vs):=by
     intro kvs l pr
     induction pr with
     | nil=>intro kv h;exact nomatch h
     | @cons x b xs bs hx t ih =>
      intro kv h
      rcases qnA.mp h with e|h
      ·subst e
       obtain ⟨_,t,vs,h2,_,ow⟩:=hx
       exact ⟨t,vs,h2,ow.h⟩
      ·exact ih kv h
    obtain ⟨t,vs,h1,h2⟩:=all o3.r kv hkv
    rw [h1] at z
    cases z
    rw [o3.h] at h2
    exact nomatch h2) o3.r
   exact relW_put old (Paired.imp' (fun _ _ r=>r.ext x4) rp)
  refine k G4 _ (kvs++[(D5 k'.tp,.ref q0)]) (xx.gg.trans x4.gg) (fun G0 xt=>((((xt.trans xx).put (o:=.dT (Ct kvs (D5 k'.tp) (.ref q0))) o.n o3.g).trans x4).put n0 gq4)) ⟨gp4,o.n,?_,?_,?_,?_⟩
  ·rw [Aq hpq,<- enew]
   exact x4.hh _ _ AJ
  ·show Paired _ _ (He a.l k' c)
   unfold He
   rw [if_neg hany]
   exact Paired.app r5 (.cons ⟨rfl,q0,[]++[w],rfl,n0,rfl,gq4,AJ,(show 1<=sizeLine by decide),.cons r4 .nil⟩ .nil)
  ·rw [qdB,qgB]
   refine ⟨o.d,by simp,fun x hx y hy e=>?_⟩
   rw [qcB,List.map_nil,qqA] at hy
   have hy:y=V.ref q0:=hy
   exact nq (by rw [<- hy,<- e];exact hx)
  ·rw [qdB,qgB]
   refine ⟨o.e,by simp,fun x hx y hy e=>?_⟩
   rw [qcB,List.map_nil,qqA] at hy
   have hy:y=D5 k'.tp:=hy
   exact nk (by rw [<- hy,<- e];exact hx)
def tellD (G H:Hp)(p:Addr)(kvs:List (List Key × V)):Hp:=fun b=>if b=p\/V.ref b∈kvs.map (·.2) then H b else G b
theorem relW_at:∀ {kvs:List (List Key × V)}{l:List (Rk × List α)},Paired (RelW K H0 G H) kvs l->∀ b:Addr,V.ref b∈kvs.map (·.2)->G b=none/\H0 b=none/\∃ vs,H b=some (.lst vs)
 | _,_,.nil,b,h=>nomatch h
 | kv::kvs,q::l,.cons r t,b,h=>by
  rcases qnA.mp h with e|h
  ·obtain ⟨_,t,vs,h2,h3,ow⟩:=r
   have e:V.ref b=kv.2:=e
   rw [h2] at e
   cases e
   exact ⟨ow.g,h3,vs,ow.h⟩
  ·exact relW_at t b h
theorem OwnDL.sameT (o:OwnDL K H0 G H p kvs a):Same G (tellD G H p kvs):=fun b ho e=>by
 unfold tellD
 rw [if_neg]
 ·exact e
 ·rintro (rfl|h)
  ·rw [o.g] at e
   exact nomatch e
  ·rw [(relW_at o.r b h).1] at e
   exact nomatch e
theorem OwnDL.frz (o:OwnDL K H0 G H p kvs a)(x:Ext G0 H0 G H):Ext G0 H0 (tellD G H p kvs) H :=
 ⟨x.gg.trans o.sameT,fun b ho e=>by
  unfold tellD at e
  split at e
  ·exact e
  ·exact x.gh b ho e,x.hh,fun b h1 h2=>by
  unfold tellD
  rw [if_neg]
  ·exact x.no b h1 h2
  ·rintro (rfl|h)
   ·exact h2 o.n
   ·exact h2 (relW_at o.r b h).2.1⟩
theorem OwnDL.tell (o:OwnDL K H0 G H p kvs a):Rp.rel K (tellD G H p kvs) (.ref p) a:=by
 have st:=o.sameT
 have hp:tellD G H p kvs p=some (.dT kvs):=by
  unfold tellD
  rw [if_pos (.inl rfl)]
  exact o.h
 refine ⟨p,kvs,rfl,hp,?_⟩
 have all:∀ {ks:List (List Key × V)}{l:List (Rk × List α)},(∀ kv∈ks,kv.2∈kvs.map (·.2))->Paired (RelW K H0 G H) ks l->Paired (RelR K (tellD G H p kvs)) ks l:=by
  intro ks l hk pr
  induction pr with
  | nil=>exact .nil
  | @cons x b xs bs hx t ih =>
   refine .cons ?_ (ih fun kv h=>hk kv (qsA _ h))
   obtain ⟨h1,t,vs,h2,_,ow⟩:=hx
   refine ⟨h1,t,vs,h2,.inl ?_,ow.z,Paired.imp' (fun _ _ r=>Rp.mono st r) ow.p⟩
   unfold tellD
   rw [if_pos (.inr (by rw [<- h2];exact hk x (qrA ..)))]
   exact ow.h
 exact all (fun kv h=>qoA.mpr ⟨kv,h,rfl⟩) o.r
end
theorem sv_ownDL {K:FZ9}{σ:St}{G H H0:Hp}{α:Type}[Rp α]{rest:TS}{D:Ends}{i:Nat}{b:MpR (List α)}(hm:(some (MpR.mk []):Option (MpR (List α)))=some b)(s:Same G H)(s0:Same H0 H)(k:∀ p G2 H2,Ext G H G2 H2->H p=none->OwnDL K H0 G2 H2 p [] b->rest D (σ.set i (some (.ref p))) H2):CA (GV tDNewT (Bh i)) rest D σ H:=by
 cases hm
 exact fun p hp=>k p G _ (.own s hp) hp (OwnDL.new s (s0.free hp) hp)
theorem sv_retDL {K:FZ9}{σ:St}{G H H0 G0:Hp}{α:Type}[Rp α]{rest:TS}{D:Ends}{i:Nat}{p:Addr}{kvs:List (List Key × V)}{a:MpR (List α)}(hσ:σ[i]? = some (some (.ref p)))(o:OwnDL K H0 G H p kvs a)(x:Ext G0 H0 G H)(k:∀ G2,Ext G0 H0 G2 H->Rp.rel K G2 (.ref p) a->D.rt (.ref p) H):CA (Hj (Bc i)) rest D σ H :=
 ⟨_,hσ,k _ (o.frz x) o.tell⟩
section
variable {K:FZ9}{σ:St}{G H G1 H1 G0 H0:Hp}{α β γ δ:Type}[Rp α][Rp β][Rp γ][Rp δ]{ta td ti tx:TE}
theorem ev_sl42 {ma:Option (T4 α β γ δ)}(ea:EV K ta σ G ma):EV K (tSl (rSlA K) ta tNoPart (tPart (tC (.int 2)))) σ G (ma.bind fun a=>some (a.a,a.b)):=by
 intro G1 s1 c hc H sH Q k
 obtain ⟨a,ha,hc⟩:=qaA.mp hc
 cases hc
 refine ea G1 s1 a ha H sH _ fun v G2 H2 x2 r2=>?_
 obtain ⟨t,x,y,z,u,rfl,ht,r1,r2,r3,r4⟩:=r2
 refine ⟨2,rfl,t,_,rfl,x2.gh.tup ht,fun hw=>absurd hw.2 (by show ¬ HT.sIx 4 4 (some 2)=4;decide),fun hw q hq=>?_⟩
 have hg:=Same.free x2.gh hq
 exact k _ _ _ (x2.trans (.new x2.gh hq)) ⟨q,x,y,rfl,.inl (.inl AJ),Rp.mono (Same.new hg) r1,Rp.mono (Same.new hg) r2⟩
theorem paired_getRV {kvs:List (List Key × V)}{k:Rk}:∀ {l:List (Rk × α)},Paired (RelR K G) kvs l->∀ a,getR l k=some a->∃ v,D7 kvs (D5 k.tp)=some v/\Rp.rel K G v a:=by
 intro l pr
 induction pr with
 | nil=>intro a h;exact nomatch h
 | @cons kv q kvs l r t ih =>
  intro a h
  unfold getR at h
  by_cases e:q.1=k
  ·rw [if_pos e] at h
   cases h
   exact ⟨kv.2,C5 (by rw [r.1,e]),r.2⟩
  ·rw [if_neg e] at h
   obtain ⟨v,h1,h2⟩:=ih a h
   exact ⟨v,by rw [Bx (fun z=>e (by rw [r.1] at z;exact Gn z))];exact h1,h2⟩
theorem paired_getRN {kvs:List (List Key × V)}{k:Rk}:∀ {l:List (Rk × α)},Paired (RelR K G) kvs l->getR l k=none->D7 kvs (D5 k.tp)=none:=by
 intro l pr
 induction pr with
 | nil=>intro h;rfl
 | @cons kv q kvs l r t ih =>
  intro h
  unfold getR at h
  by_cases e:q.1=k
  ·rw [if_pos e] at h
   exact nomatch h
  ·rw [if_neg e] at h
   rw [Bx (fun z=>e (by rw [r.1] at z;exact Gn z))]
   exact ih h
theorem ev_getRD {md:Option (MpR α)}{mi:Option Rk}{mx:Option α}(ed:EV K td σ G md)(ei:EV K ti σ G mi)(ex:EV K tx σ G mx):EV K (tDGet2 td ti tx) σ G (md.bind fun d=>mi.bind fun k=>mx.bind fun x=>some ((getR d.l k).getD x)):=by
 intro G1 s1 c hc H sH Q k
 obtain ⟨d,hd,hc⟩:=qaA.mp hc
 obtain ⟨j,hj,hc⟩:=qaA.mp hc
 obtain ⟨x,hx,hc⟩:=qaA.mp hc
 cases hc
 refine ed G1 s1 d hd H sH _ fun v G2 H2 x2 r2=>?_
 obtain ⟨p,kvs,rfl,h,pr⟩:=r2
 refine ⟨p,rfl,.inr ⟨kvs,.inl (x2.gh _ _ h)⟩,?_⟩
 refine ei G2 (s1.trans x2.gg) j hj H2 x2.gh _ fun u G3 H3 x3 r3=>?_
 have y3:=x2.trans x3
 refine ex G3 (s1.trans y3.gg) x hx H3 x3.gh _ fun z G4 H4 x4 r4=>?_
 have y4:=y3.trans x4
 obtain ⟨t,rfl,ht⟩:=rk_key (Rp.mono x4.gg r3)
 have pr4:Paired (RelR K G4) kvs d.l:=Paired.imp' (fun _ _ r=>⟨r.1,Rp.mono (x3.trans x4).gg r.2⟩) pr
 refine ⟨D7 kvs (D5 j.tp),DGet.t (x4.gh _ _ ((x3.trans x4).gg _ _ h)) (x4.gh _ _ ht),k _ _ _ y4 ?_⟩
 cases hg:getR d.l j with
 | none =>
  rw [paired_getRN pr4 hg]
  exact r4
 | some b =>
  obtain ⟨w,h1,h2⟩:=paired_getRV pr4 b hg
  rw [h1]
  exact h2
theorem ev_getRI {md:Option (MpR α)}{mi:Option Rk}(ed:EV K td σ G md)(ei:EV K ti σ G mi):EV K (tDGet td ti) σ G (md.bind fun d=>mi.bind fun k=>getR d.l k):=by
 intro G1 s1 c hc H sH Q k
 obtain ⟨d,hd,hc⟩:=qaA.mp hc
 obtain ⟨j,hj,hc⟩:=qaA.mp hc
 refine ed G1 s1 d hd H sH _ fun v G2 H2 x2 r2=>?_
 obtain ⟨p,kvs,rfl,h,pr⟩:=r2
 refine ei G2 (s1.trans x2.gg) j hj H2 x2.gh _ fun u G3 H3 x3 r3=>?_
 obtain ⟨t,rfl,ht⟩:=rk_key r3
 have pr4:Paired (RelR K G3) kvs d.l:=Paired.imp' (fun _ _ r=>⟨r.1,Rp.mono x3.gg r.2⟩) pr
 obtain ⟨w,h1,h2⟩:=paired_getRV pr4 c hc
 refine ⟨p,w,rfl,?_,k _ _ _ (x2.trans x3) h2⟩
 rw [<- h1]
 exact DGet.t (x3.gh _ _ (x3.gg _ _ h)) (x3.gh _ _ ht)
end
end L2
namespace My
open PySem PySem.Spec PyProof.Rows L2
abbrev FB:List (Str × Int):=[("yes",0),("no",0),("not",1),("next",1),("atlast",1),("always",1),("again",1),("settles",1),("and",2),("or",2),("then",2),("until",2),("frees",2)]
def DR (Ar:Int):Option Str :=
 (some ("" : Str)).bind fun lit_ =>
 (some (Ar % 1000000000000)).bind fun Er =>
 ((some ((1:Int)+(Er % (3:Int)))).bind fun t13=>rngO 0 t13).bind fun as14=>(CH (S:=(Str × Int)) (ρ:=Str) (fun (k_:Int) s21 =>
   (some ((s21.2 / (3:Int))+((7:Int) * k_))).bind fun Er =>
   ((some s21.1).bind fun t46=>((some ("abcdefghijklmnopqrstuvwxyz" : Str)).bind fun t44=>(some (Er % (26:Int))).bind fun t45=>(atI t44.cps.toList t45).bind fun z=>some (⟨#[z]⟩:Str)).bind fun t47=>catS t46 t47).bind fun lit_ =>
   some (Fl.nx (lit_,Er))) as14 (lit_,Er)).bind fun fl16=>match fl16 with
  | .nx s21 =>
   ((some ("" : Str)).bind fun t67=>((some (Bv ("abcdefghijklmnopqrstuvwxyz" : Str))).bind fun t66=>Cr (fun (DG:Str)=>(some (inS DG s21.1))) (fun (DG:Str)=>(some DG)) t66).bind fun t68=>GZ t67 t68)
  | .rt r=>some r
  | .bk _=>none
abbrev Ef (x:Int × Unit):Option Str:=DR x.1
def E8 (B3:Str):Option (List (T3 Nt Int Int)) :=
 (some [(T3.mk (Nt.tup [(Nt.txt ("yes" : Str))]) (1:Int) (0:Int)),(T3.mk (Nt.tup [(Nt.txt ("no" : Str))]) (1:Int) (0:Int))]).bind fun pool_here_ =>
 (some (Bv B3)).bind fun as9=>(CH (S:=((List (T3 Nt Int Int)))) (ρ:=(List (T3 Nt Int Int))) (fun (DG:Str) s16 =>
   (some (T3.mk (Nt.tup [(Nt.txt ("lamp" : Str)),(Nt.txt DG)]) (1:Int) (0:Int))).bind fun a29=>(Gq s16 a29).bind fun z37 =>
   some (Fl.nx z37)) as9 pool_here_).bind fun fl11=>match fl11 with
  | .nx s16 =>
   (some s16)
  | .rt r=>some r
  | .bk _=>none
abbrev FF (x:Str × Unit):Option (List (T3 Nt Int Int)):=E8 x.1
def Em (Ar:Int)(pool_here_:(List (T3 Nt Int Int))):Option (T3 Nt Int Int) :=
 (some [("not" : Str),("next" : Str),("atlast" : Str),("always" : Str),("again" : Str),("settles" : Str)]).bind fun alone_ =>
 (some [("and" : Str),("or" : Str),("then" : Str),("until" : Str),("frees" : Str)]).bind fun two_ =>
 ((some pool_here_).bind fun t13=>(some (-(1:Int))).bind fun t14=>atI t13 t14).bind fun one_ =>
 ((some pool_here_).bind fun t23=>((some (Ar / (11:Int))).bind fun t21=>(some (pool_here_.length:Int)).bind fun t22=>Hn t21 t22).bind fun t24=>atI t23 t24).bind fun other_ =>
 (some (decide ((Ar % (11:Int))<(6:Int)))).bind fun b31=>cond b31
  ((some (decide ((0:Int)<((Ar / (11:Int)) % (5:Int))))).bind fun b36=>(cond b36
   ((some one_).bind fun other_ =>
   some other_)
   (some other_)).bind fun s41 =>
  ((some [(0:Int),(1:Int),(1:Int),(1:Int),(2:Int),(2:Int)]).bind fun t56=>(some (Ar % (11:Int))).bind fun t57=>atI t56 t57).bind fun price_ =>
  ((((((some alone_).bind fun t64=>(some (Ar % (11:Int))).bind fun t65=>atI t64 t65).bind fun t66=>(some (Nt.txt t66))).bind fun t67=>(some [t67,s41.a])).bind fun t68=>(some (Nt.tup t68))).bind fun t69=>(some (T3.mk t69 (s41.b+(1:Int)) (s41.c+price_)))))
  ((some (decide (((Ar / (1331:Int)) % (2:Int))=(1:Int)))).bind fun b75=>(cond b75
   (some (other_,one_))
   (some (one_,other_))).bind fun s80 =>
  ((some [(0:Int),(0:Int),(0:Int),(1:Int),(1:Int)]).bind fun t98=>(some ((Ar % (11:Int)) - (6:Int))).bind fun t99=>atI t98 t99).bind fun price_ =>
  ((((((some two_).bind fun t106=>(some ((Ar % (11:Int)) - (6:Int))).bind fun t107=>atI t106 t107).bind fun t108=>(some (Nt.txt t108))).bind fun t109=>(some [t109,s80.1.a,s80.2.a])).bind fun t110=>(some (Nt.tup t110))).bind fun t111=>(some (T3.mk t111 ((s80.1.b+s80.2.b)+(1:Int)) ((s80.1.c+s80.2.c)+price_)))))
abbrev Fc (x:Int × (List (T3 Nt Int Int)) × Unit):Option (T3 Nt Int Int):=Em x.1 x.2.1
def Cq (script_:Scr)(k_:Int):Option Int :=
 (some (decide (k_<(script_.l.length:Int)))).bind fun b1=>cond b1
  (((some script_).bind fun t6=>(some k_).bind fun t7=>atI t6.l t7))
  ((some ((k_ * (7919:Int))+(5:Int))).bind fun Ar =>
  (some (decide ((0:Int)<(script_.l.length:Int)))).bind fun b19=>(cond b19
   ((((((some script_).bind fun t32=>((some (k_ * (7:Int))).bind fun t30=>(some (script_.l.length:Int)).bind fun t31=>Hn t30 t31).bind fun t33=>atI t32.l t33).bind fun t34=>(some (t34 * (48271:Int)))).bind fun t35=>(some (t35+(k_ * (7919:Int))))).bind fun t36=>(some (t36 % (2147483647:Int)))).bind fun Ar =>
   some Ar)
   (some Ar)).bind fun s24 =>
  (((some s24).bind fun t46=>(some s24).bind fun t47=>Ho t46 t47).bind fun t48=>(some (t48 % (2147483629:Int)))))
abbrev Cg (x:Scr × Int × Unit):Option Int:=Cq x.1 x.2.1
def CC (script_:Scr)(start_:Int)(HA:Int)(B3:Str)(HG:Int):Option Nt :=
 ((some B3).bind fun t1=>E8 t1).bind fun pool_here_ =>
 ((some HA).bind fun t10=>rngO 0 t10).bind fun as11=>(CH (S:=((List (T3 Nt Int Int)))) (ρ:=Nt) (fun (k_:Int) s18 =>
   (((some script_).bind fun t36=>(some (start_+k_)).bind fun t37=>Cq t36 t37).bind fun t38=>(some s18).bind fun t39=>Em t38 t39).bind fun put_here_ =>
   (some ((decide (put_here_.b<=(24:Int))) && (decide (put_here_.c<=HG)))).bind fun b46=>cond b46
    ((some put_here_).bind fun a51=>(Gq s18 a51).bind fun z59 =>
    some (Fl.nx z59))
    (some (Fl.nx s18))) as11 pool_here_).bind fun fl13=>match fl13 with
  | .nx s18 =>
   (((some s18).bind fun t69=>(some (-(1:Int))).bind fun t70=>atI t69 t70).bind fun t71=>(some t71.a))
  | .rt r=>some r
  | .bk _=>none
abbrev DD (x:Scr × Int × Int × Str × Int × Unit):Option Nt:=CC x.1 x.2.1 x.2.2.1 x.2.2.2.1 x.2.2.2.2.1
def AE (Ah:Nt):Option (Tp Nt) :=
 (((((some Ah).bind fun t4=>BC t4).bind fun t5=>(some (0:Int)).bind fun t6=>atI t5.l t6).bind fun t7=>C0 t7).bind fun t8=>(some (decide (t8=("lamp" : Str))))).bind fun b9=>cond b9
  ((some (Tp.mk ([]:List Nt))))
  ((((some Ah).bind fun t19=>BC t19).bind fun t20=>(some (some (1:Int))).bind fun t21=>(some none).bind fun t22=>cutT? t20.l t21 t22))
abbrev DP (x:Nt × Unit):Option (Tp Nt):=AE x.1
def DS (HY:List Nt):Option (List (Tp SI) × List Int):=FM (BW AE 160) HY []
abbrev Fu (x:List Nt × Unit):Option (List (Tp SI) × List Int):=DS x.1
def FE (thing_:Str):Option Bool :=
 (some (!true)).bind fun b1=>cond b1
  ((some false))
  ((some ("" : Str)).bind fun last_ =>
  (some (Bv thing_)).bind fun as17=>(CH (S:=(Str)) (ρ:=Bool) (fun (lamp_:Str) s24 =>
    (some ((decide (lamp_.cps.toList<("a" : Str).cps.toList)) || ((decide (("z" : Str).cps.toList<lamp_.cps.toList)) || (!decide (s24.cps.toList<lamp_.cps.toList))))).bind fun b39=>cond b39
     ((some false).bind fun rr49=>some (Fl.rt rr49))
     ((some lamp_).bind fun last_ =>
     some (Fl.nx last_))) as17 last_).bind fun fl19=>match fl19 with
   | .nx s24 =>
    (some true)
   | .rt r=>some r
   | .bk _=>none)
abbrev EY (x:Str × Unit):Option Bool:=FE x.1
def FU (thing_:Str):Option Bool :=
 (((some thing_).bind fun t1=>FE t1).bind fun t2=>cond t2 (some (decide ((thing_.length:Int)=(1:Int)))) (some false))
abbrev Fo (x:Str × Unit):Option Bool:=FU x.1
def EB (thing_:Nt):Option Bool :=
 ((some (!(isK "tuple" (ToD.to thing_)))).bind fun t14=>cond t14 (some true) (((((some thing_).bind fun t1=>BC t1).bind fun t2=>(some (t2.l.length:Int))).bind fun t3=>(some (decide (t3=(0:Int))))).bind fun t13=>cond t13 (some true) ((((((some thing_).bind fun t7=>BC t7).bind fun t8=>(some (0:Int)).bind fun t9=>atI t8.l t9).bind fun t10=>(some (ToD.to t10))).bind fun t11=>(some (isK "str" t11))).bind fun t12=>(some (!t12))))).bind fun b15=>cond b15
  ((some false))
  ((((((some thing_).bind fun t28=>BC t28).bind fun t29=>(some (0:Int)).bind fun t30=>atI t29.l t30).bind fun t31=>C0 t31).bind fun t32=>(some (decide (t32=("lamp" : Str))))).bind fun b33=>cond b33
   ((((((some thing_).bind fun t38=>BC t38).bind fun t39=>(some (t39.l.length:Int))).bind fun t40=>(some (decide (t40=(2:Int))))).bind fun t46=>cond t46 (((((some thing_).bind fun t41=>BC t41).bind fun t42=>(some (1:Int)).bind fun t43=>atI t42.l t43).bind fun t44=>C0 t44).bind fun t45=>FU t45) (some false)))
   (((((((some thing_).bind fun t52=>BC t52).bind fun t53=>(some (0:Int)).bind fun t54=>atI t53.l t54).bind fun t55=>C0 t55).bind fun t56=>(some ((GW FB t56).isSome))).bind fun t73=>cond t73 ((((some thing_).bind fun t57=>BC t57).bind fun t58=>(some (t58.l.length:Int))).bind fun t71=>((((((some thing_).bind fun t65=>BC t65).bind fun t66=>(some (0:Int)).bind fun t67=>atI t66.l t67).bind fun t68=>C0 t68).bind fun t69=>GW FB t69).bind fun t70=>(some ((1:Int)+t70))).bind fun t72=>(some (decide (t71=t72)))) (some false))))
abbrev FC (x:Nt × Unit):Option Bool:=EB x.1
def CS (thing_:Nt):Option Bool :=
 (some [thing_]).bind fun Cn =>
 (some (0:Int)).bind fun place_ =>
 (Gi (S:=((List Nt) × Int)) (ρ:=Bool) (fun s17=>(some (decide (s17.2<(s17.1.length:Int))))) (fun s17 =>
   ((some (decide ((24:Int)<(s17.1.length:Int)))).bind fun t42=>cond t42 (some true) ((((some s17.1).bind fun t38=>(some s17.2).bind fun t39=>atI t38 t39).bind fun t40=>EB t40).bind fun t41=>(some (!t41)))).bind fun b43=>cond b43
    ((some false).bind fun rr53=>some (Fl.rt rr53))
    ((((some s17.1).bind fun t58=>(some s17.2).bind fun t59=>atI t58 t59).bind fun t60=>AE t60).bind fun a61=>(extO s17.1 a61.l).bind fun z69 =>
    (some (s17.2+(1:Int))).bind fun place_ =>
    some (Fl.nx (z69,place_)))) fuelW (Cn,place_)).bind fun fl15=>match fl15 with
  | .nx s17 =>
   (some true)
  | .rt r=>some r
  | .bk _=>none
abbrev Dc (x:Nt × Unit):Option Bool:=CS x.1
def Bg (HS:Nt):Option Nt :=
 (((((some HS).bind fun t4=>BC t4).bind fun t5=>(some (0:Int)).bind fun t6=>atI t5.l t6).bind fun t7=>C0 t7).bind fun t8=>(some (decide (t8=("not" : Str))))).bind fun b9=>cond b9
  ((((some HS).bind fun t14=>BC t14).bind fun t15=>(some (1:Int)).bind fun t16=>atI t15.l t16))
  ((some (Nt.tup [(Nt.txt ("not" : Str)),HS])))
abbrev C1 (x:Nt × Unit):Option Nt:=Bg x.1
def Bl (Bz:Str)(Er:Nt)(Gg:Nt):Option Nt :=
 (some (decide (Bz=("or" : Str)))).bind fun b1=>cond b1
  (((((((((some Er).bind fun t6=>Bg t6).bind fun t9=>(((some Gg).bind fun t7=>Bg t7).bind fun t8=>(some [t8])).bind fun t10=>(some (t9::t10))).bind fun t11=>(some ((Nt.txt ("and" : Str))::t11))).bind fun t12=>(some (Nt.tup t12))).bind fun t13=>(some [t13])).bind fun t14=>(some ((Nt.txt ("not" : Str))::t14))).bind fun t15=>(some (Nt.tup t15))))
  ((some (decide (Bz=("then" : Str)))).bind fun b21=>cond b21
   ((((((((((some Gg).bind fun t26=>Bg t26).bind fun t27=>(some [t27])).bind fun t28=>(some (Er::t28))).bind fun t29=>(some ((Nt.txt ("and" : Str))::t29))).bind fun t30=>(some (Nt.tup t30))).bind fun t31=>(some [t31])).bind fun t32=>(some ((Nt.txt ("not" : Str))::t32))).bind fun t33=>(some (Nt.tup t33))))
   ((some (decide (Bz=("frees" : Str)))).bind fun b39=>cond b39
    (((((((((some Er).bind fun t44=>Bg t44).bind fun t47=>(((some Gg).bind fun t45=>Bg t45).bind fun t46=>(some [t46])).bind fun t48=>(some (t47::t48))).bind fun t49=>(some ((Nt.txt ("until" : Str))::t49))).bind fun t50=>(some (Nt.tup t50))).bind fun t51=>(some [t51])).bind fun t52=>(some ((Nt.txt ("not" : Str))::t52))).bind fun t53=>(some (Nt.tup t53))))
    ((some (Nt.tup [(Nt.txt Bz),Er,Gg])))))
abbrev Cb (x:Str × Nt × Nt × Unit):Option Nt:=Bl x.1 x.2.1 x.2.2.1
def Bp (Bz:Str)(Ff:Nt):Option Nt :=
 (some (decide (Bz=("not" : Str)))).bind fun b1=>cond b1
  (((some Ff).bind fun t6=>Bg t6))
  ((some (decide (Bz=("next" : Str)))).bind fun b12=>cond b12
   ((some (Nt.tup [(Nt.txt ("next" : Str)),Ff])))
   ((some (decide (Bz=("atlast" : Str)))).bind fun b22=>cond b22
    ((some (Nt.tup [(Nt.txt ("until" : Str)),(Nt.tup [Nt.txt "yes"]),Ff])))
    ((some (decide (Bz=("always" : Str)))).bind fun b32=>cond b32
     ((((((((((some Ff).bind fun t37=>Bg t37).bind fun t38=>(some [t38])).bind fun t39=>(some ((Nt.tup [Nt.txt "yes"])::t39))).bind fun t40=>(some ((Nt.txt ("until" : Str))::t40))).bind fun t41=>(some (Nt.tup t41))).bind fun t42=>(some [t42])).bind fun t43=>(some ((Nt.txt ("not" : Str))::t43))).bind fun t44=>(some (Nt.tup t44))))
     ((some (decide (Bz=("again" : Str)))).bind fun b50=>cond b50
      ((some (Nt.tup [(Nt.txt ("not" : Str)),(Nt.tup [(Nt.txt ("until" : Str)),(Nt.tup [Nt.txt "yes"]),(Nt.tup [(Nt.txt ("not" : Str)),(Nt.tup [(Nt.txt ("until" : Str)),(Nt.tup [Nt.txt "yes"]),Ff])])])])))
      ((((((((((((((some Ff).bind fun t60=>Bg t60).bind fun t61=>(some [t61])).bind fun t62=>(some ((Nt.tup [Nt.txt "yes"])::t62))).bind fun t63=>(some ((Nt.txt ("until" : Str))::t63))).bind fun t64=>(some (Nt.tup t64))).bind fun t65=>(some [t65])).bind fun t66=>(some ((Nt.txt ("not" : Str))::t66))).bind fun t67=>(some (Nt.tup t67))).bind fun t68=>(some [t68])).bind fun t69=>(some ((Nt.tup [Nt.txt "yes"])::t69))).bind fun t70=>(some ((Nt.txt ("until" : Str))::t70))).bind fun t71=>(some (Nt.tup t71))))))))
abbrev Ce (x:Str × Nt × Unit):Option Nt:=Bp x.1 x.2.1
def Dz (self_:Nt->Option Nt)(Ah:Nt):Option Nt :=
 ((((some Ah).bind fun t1=>BC t1).bind fun t2=>(some (0:Int)).bind fun t3=>atI t2.l t3).bind fun t4=>C0 t4).bind fun Bz =>
 (some (decide (Bz=("no" : Str)))).bind fun b11=>cond b11
  ((some (Nt.tup [(Nt.txt ("not" : Str)),(Nt.tup [Nt.txt "yes"])])))
  ((some ((decide (Bz=("yes" : Str))) || (decide (Bz=("lamp" : Str))))).bind fun b21=>cond b21
   ((some Ah))
   (((((some Ah).bind fun t31=>BC t31).bind fun t32=>(some (t32.l.length:Int))).bind fun t33=>(some (decide (t33=(2:Int))))).bind fun b34=>cond b34
    (((some Bz).bind fun t43=>((((some Ah).bind fun t39=>BC t39).bind fun t40=>(some (1:Int)).bind fun t41=>atI t40.l t41).bind fun t42=>self_ t42).bind fun t44=>Bp t43 t44))
    (((some Bz).bind fun t58=>((((some Ah).bind fun t50=>BC t50).bind fun t51=>(some (1:Int)).bind fun t52=>atI t51.l t52).bind fun t53=>self_ t53).bind fun t59=>((((some Ah).bind fun t54=>BC t54).bind fun t55=>(some (2:Int)).bind fun t56=>atI t55.l t56).bind fun t57=>self_ t57).bind fun t60=>Bl t58 t59 t60))))
def FJ:Nat->Nt->Option Nt
 | 0=>fun _=>none
 | n+1=>fun Ah=>Dz (FJ n) Ah
abbrev D9 (BV:Nat)(x:Nt × Unit):Option Nt:=FJ BV x.1
def DV (C7:(List Nt)):Option ((List (Tp SI)) × (List Int)) :=
 (some C7).bind fun as1=>(CH (S:=Unit) (ρ:=((List (Tp SI)) × (List Int))) (fun (Ah:Nt) s8 =>
   (((some Ah).bind fun t21=>CS t21).bind fun t22=>(some (!t22))).bind fun b23=>cond b23
    (none)
    (some (Fl.nx ()))) as1 ()).bind fun fl3=>match fl3 with
  | .nx s8 =>
   (((some C7).bind fun t37=>Dr (fun (Ah:Nt)=>((some Ah).bind fun t36=>FJ 26 t36)) t37).bind fun t38=>DS t38)
  | .rt r=>some r
  | .bk _=>none
abbrev Ec (x:(List Nt) × Unit):Option ((List (Tp SI)) × (List Int)):=DV x.1
def FA (rows_:(List (Tp SI))):Option (List Int) :=
 ((some rows_).bind fun t12=>Cr (fun (pc5:(Int × (Tp SI)))=>((((some pc5.2).bind fun t8=>(some (0:Int)).bind fun t9=>atI t8.l t9).bind fun t10=>asS t10).bind fun t11=>(some (decide (t11=("until" : Str)))))) (fun (pc5:(Int × (Tp SI)))=>(some pc5.1)) (BM 0 t12))
abbrev EL (x:(List (Tp SI)) × Unit):Option (List Int):=FA x.1
def EG (rows_:(List (Tp SI))):Option (List Int) :=
 ((some rows_).bind fun t14=>Cr (fun (row_:(Tp SI))=>((((some row_).bind fun t10=>(some (0:Int)).bind fun t11=>atI t10.l t11).bind fun t12=>asS t12).bind fun t13=>(some (decide (t13=("next" : Str)))))) (fun (row_:(Tp SI))=>(((some row_).bind fun t5=>(some (1:Int)).bind fun t6=>atI t5.l t6).bind fun t7=>asI t7)) t14).bind fun under_next_ =>
 (((some rows_).bind fun t21=>FA t21).bind fun t22=>(some under_next_).bind fun t23=>sortOrZ t22 t23)
abbrev DB (x:(List (Tp SI)) × Unit):Option (List Int):=EG x.1
def Be (rows_:(List (Tp SI)))(HG:Int):Option Unit :=
 ((((some rows_).bind fun t1=>EG t1).bind fun t2=>(some (t2.length:Int))).bind fun t3=>(some (decide (HG<t3)))).bind fun b4=>cond b4
  (none)
  (some ())
abbrev C2 (x:(List (Tp SI)) × Int × Unit):Option Unit:=Be x.1 x.2.1
def Bq (rows_:(List (Tp SI))):Option Str :=
 ((some ("" : Str)).bind fun t29=>(((some rows_).bind fun t27=>Cr (fun (row_:(Tp SI))=>((((some row_).bind fun t23=>(some (0:Int)).bind fun t24=>atI t23.l t24).bind fun t25=>asS t25).bind fun t26=>(some (decide (t26=("lamp" : Str)))))) (fun (row_:(Tp SI))=>(((some row_).bind fun t18=>(some (1:Int)).bind fun t19=>atI t18.l t19).bind fun t20=>asS t20)) t27).bind fun t28=>sortSetS t28).bind fun t30=>GZ t29 t30)
abbrev CJ (x:(List (Tp SI)) × Unit):Option Str:=Bq x.1
def Cf (C7:(List Nt))(most_waits_:Int):Option ((List (Tp SI)) × (List Int)) :=
 ((some C7).bind fun t1=>DV t1).bind fun book_ =>
 ((some book_.1).bind fun t8=>(some most_waits_).bind fun t9=>Be t8 t9).bind fun a10 =>
 ((((some book_.1).bind fun t15=>Bq t15).bind fun t16=>(some (t16.length:Int))).bind fun t17=>(some (decide ((3:Int)<t17)))).bind fun b18=>cond b18
  (none)
  ((some book_))
abbrev DF (x:(List Nt) × Int × Unit):Option ((List (Tp SI)) × (List Int)):=Cf x.1 x.2.1
def BU (lamps_:Str):Option (List Str) :=
 (some [("" : Str)]).bind fun Cn =>
 (some (Bv lamps_)).bind fun as7=>(CH (S:=((List Str))) (ρ:=(List Str)) (fun (lamp_:Str) s14 =>
   ((some s14).bind fun t36=>((some s14).bind fun t35=>Dr (fun (BA:Str)=>((some BA).bind fun t33=>(some lamp_).bind fun t34=>catS t33 t34)) t35).bind fun t37=>catL t36 t37).bind fun Cn =>
   some (Fl.nx Cn)) as7 Cn).bind fun fl9=>match fl9 with
  | .nx s14 =>
   ((some s14).bind fun t50=>sortO t50)
  | .rt r=>some r
  | .bk _=>none
abbrev Dq (x:Str × Unit):Option (List Str):=BU x.1
def Dh (HA:Int):Option (List (Tp Bool)) :=
 (some [(Tp.mk ([]:List Bool))]).bind fun Cn =>
 ((some HA).bind fun t7=>rngO 0 t7).bind fun as8=>(CH (S:=((List (Tp Bool)))) (ρ:=(List (Tp Bool))) (fun (added_:Int) s15 =>
   (((some s15).bind fun t36=>Dr (fun (Cc:(Tp Bool))=>((some (Tp.mk [false])).bind fun t34=>(some Cc).bind fun t35=>catTO t34 t35)) t36).bind fun t44=>((some s15).bind fun t43=>Dr (fun (Cc:(Tp Bool))=>((some (Tp.mk [true])).bind fun t41=>(some Cc).bind fun t42=>catTO t41 t42)) t43).bind fun t45=>catL t44 t45).bind fun Cn =>
   some (Fl.nx Cn)) as8 Cn).bind fun fl10=>match fl10 with
  | .nx s15 =>
   (some s15)
  | .rt r=>some r
  | .bk _=>none
abbrev EH (x:Int × Unit):Option (List (Tp Bool)):=Dh x.1
def CM (rows_:(List (Tp SI))):Option (List (Tp Bool)) :=
 ((((some rows_).bind fun t1=>EG t1).bind fun t2=>(some (t2.length:Int))).bind fun t3=>Dh t3)
abbrev CV (x:(List (Tp SI)) × Unit):Option (List (Tp Bool)):=CM x.1
def E7 (rows_:(List (Tp SI)))(Ar:Int)(BA:Str)(D8:(Mp Bool))(BY:(List Bool)):Option Bool :=
 ((some rows_).bind fun t1=>(some Ar).bind fun t2=>atI t1 t2).bind fun row_ =>
 ((some row_).bind fun t9=>(some (0:Int)).bind fun t10=>atI t9.l t10).bind fun Bz =>
 (((some Bz).bind fun t17=>asS t17).bind fun t18=>(some (decide (t18=("lamp" : Str))))).bind fun b19=>cond b19
  (((((some row_).bind fun t26=>(some (1:Int)).bind fun t27=>atI t26.l t27).bind fun t28=>asS t28).bind fun t29=>(some (inS t29 BA))))
  ((((some Bz).bind fun t35=>asS t35).bind fun t36=>(some (decide (t36=("not" : Str))))).bind fun b37=>cond b37
   ((((some BY).bind fun t45=>(((some row_).bind fun t42=>(some (1:Int)).bind fun t43=>atI t42.l t43).bind fun t44=>asI t44).bind fun t46=>atI t45 t46).bind fun t47=>(some (!t47))))
   ((((some Bz).bind fun t53=>asS t53).bind fun t54=>(some (decide (t54=("and" : Str))))).bind fun b55=>cond b55
    ((((some BY).bind fun t63=>(((some row_).bind fun t60=>(some (1:Int)).bind fun t61=>atI t60.l t61).bind fun t62=>asI t62).bind fun t64=>atI t63 t64).bind fun t70=>cond t70 ((some BY).bind fun t68=>(((some row_).bind fun t65=>(some (2:Int)).bind fun t66=>atI t65.l t66).bind fun t67=>asI t67).bind fun t69=>atI t68 t69) (some false)))
    ((((some Bz).bind fun t76=>asS t76).bind fun t77=>(some (decide (t77=("next" : Str))))).bind fun b78=>cond b78
     (((some D8).bind fun t86=>(((some row_).bind fun t83=>(some (1:Int)).bind fun t84=>atI t83.l t84).bind fun t85=>asI t85).bind fun t87=>Hl t86.l t87))
     ((((some Bz).bind fun t93=>asS t93).bind fun t94=>(some (decide (t94=("until" : Str))))).bind fun b95=>cond b95
      ((((some BY).bind fun t103=>(((some row_).bind fun t100=>(some (2:Int)).bind fun t101=>atI t100.l t101).bind fun t102=>asI t102).bind fun t104=>atI t103 t104).bind fun t113=>cond t113 (some true) (((some BY).bind fun t108=>(((some row_).bind fun t105=>(some (1:Int)).bind fun t106=>atI t105.l t106).bind fun t107=>asI t107).bind fun t109=>atI t108 t109).bind fun t112=>cond t112 ((some D8).bind fun t110=>(some Ar).bind fun t111=>Hl t110.l t111) (some false))))
      ((some true))))))
abbrev FG (x:(List (Tp SI)) × Int × Str × (Mp Bool) × (List Bool) × Unit):Option Bool:=E7 x.1 x.2.1 x.2.2.1 x.2.2.2.1 x.2.2.2.2.1
def DW (rows_:(List (Tp SI)))(BA:Str)(D8:(Mp Bool)):Option (Tp Bool) :=
 (some ([]:List Bool)).bind fun BY =>
 ((some (rows_.length:Int)).bind fun t9=>rngO 0 t9).bind fun as10=>(CH (S:=((List Bool))) (ρ:=(Tp Bool)) (fun (Ar:Int) s17 =>
   ((some rows_).bind fun t35=>(some Ar).bind fun t36=>(some BA).bind fun t37=>(some D8).bind fun t38=>(some s17).bind fun t39=>E7 t35 t36 t37 t38 t39).bind fun a40=>(Gq s17 a40).bind fun z48 =>
   some (Fl.nx z48)) as10 BY).bind fun fl12=>match fl12 with
  | .nx s17 =>
   (some (Tp.mk s17))
  | .rt r=>some r
  | .bk _=>none
abbrev EZ (x:(List (Tp SI)) × Str × (Mp Bool) × Unit):Option (Tp Bool):=DW x.1 x.2.1 x.2.2.1
def Gc (rows_:(List (Tp SI)))(BA:Str)(Cc:(Tp Bool)):Option (Tp Bool) :=
 ((some rows_).bind fun t4=>(some BA).bind fun t5=>(((some rows_).bind fun t1=>EG t1).bind fun t2=>(some Cc).bind fun t3=>dictZ t2 t3.l).bind fun t6=>DW t4 t5 t6)
abbrev mm_look (x:(List (Tp SI)) × Str × (Tp Bool) × Unit):Option (Tp Bool):=Gc x.1 x.2.1 x.2.2.1
def Ck (rows_:(List (Tp SI)))(BY:(Tp Bool)):Option (Tp Bool) :=
 ((((some rows_).bind fun t1=>EG t1).bind fun t8=>Dr (fun (Ar:Int)=>((some BY).bind fun t6=>(some Ar).bind fun t7=>atI t6.l t7)) t8).bind fun t9=>(some (Tp.mk t9)))
abbrev Eg (x:(List (Tp SI)) × (Tp Bool) × Unit):Option (Tp Bool):=Ck x.1 x.2.1
def CN (rows_:(List (Tp SI)))(hope_:Int)(BY:(Tp Bool)):Option Bool :=
 ((((some BY).bind fun t1=>(some hope_).bind fun t2=>atI t1.l t2).bind fun t3=>(some (!t3))).bind fun t11=>cond t11 (some true) ((some BY).bind fun t9=>((((some rows_).bind fun t4=>(some hope_).bind fun t5=>atI t4 t5).bind fun t6=>(some (2:Int)).bind fun t7=>atI t6.l t7).bind fun t8=>asI t8).bind fun t10=>atI t9.l t10))
abbrev Ez (x:(List (Tp SI)) × Int × (Tp Bool) × Unit):Option Bool:=CN x.1 x.2.1 x.2.2.1
def Ft (rows_:(List (Tp SI)))(BY:(Tp Bool)):Option (Tp Int) :=
 ((((some rows_).bind fun t1=>FA t1).bind fun t10=>Cr (fun (pc6:(Int × Int))=>((some rows_).bind fun t7=>(some pc6.2).bind fun t8=>(some BY).bind fun t9=>CN t7 t8 t9)) (fun (pc6:(Int × Int))=>(some pc6.1)) (BM 0 t10)).bind fun t11=>(some (Tp.mk t11)))
abbrev mm_eased (x:(List (Tp SI)) × (Tp Bool) × Unit):Option (Tp Int):=Ft x.1 x.2.1
def Dv (rows_:(List (Tp SI)))(BA:Str):Option (List (T5 Int Str Int (Tp Int) (Tp Bool))) :=
 ((some rows_).bind fun t1=>CM t1).bind fun every_ =>
 (((some every_).bind fun t13=>Dr (fun (pc12:(Int × (Tp Bool)))=>(some (pc12.2,pc12.1))) (BM 0 t13)).bind fun t14=>dictT t14).bind fun numbers_ =>
 (some ([]:List (T5 Int Str Int (Tp Int) (Tp Bool)))).bind fun steps_ =>
 (some every_).bind fun as29=>(CH (S:=((List (T5 Int Str Int (Tp Int) (Tp Bool))))) (ρ:=(List (T5 Int Str Int (Tp Int) (Tp Bool)))) (fun (pr54:(Int × (Tp Bool))) s36 =>
   ((some rows_).bind fun t57=>(some BA).bind fun t58=>(some pr54.2).bind fun t59=>Gc t57 t58 t59).bind fun BY =>
   ((some numbers_).bind fun t68=>((some rows_).bind fun t66=>(some BY).bind fun t67=>Ck t66 t67).bind fun t69=>getT t68 t69).bind fun begin_ =>
   (((some rows_).bind fun t76=>(some BY).bind fun t77=>Ft t76 t77).bind fun t78=>(some (T5.mk begin_ BA pr54.1 t78 BY))).bind fun a79=>(Gq s36 a79).bind fun z87 =>
   some (Fl.nx z87)) (BM 0 as29) steps_).bind fun fl31=>match fl31 with
  | .nx s36 =>
   (some s36)
  | .rt r=>some r
  | .bk _=>none
abbrev FD (x:(List (Tp SI)) × Str × Unit):Option (List (T5 Int Str Int (Tp Int) (Tp Bool))):=Dv x.1 x.2.1
def Dt (rows_:(List (Tp SI))):Option (List (T5 Int Str Int (Tp Int) (Tp Bool))) :=
 (some ([]:List (T5 Int Str Int (Tp Int) (Tp Bool)))).bind fun steps_ =>
 (((some rows_).bind fun t9=>Bq t9).bind fun t10=>BU t10).bind fun as11=>(CH (S:=((List (T5 Int Str Int (Tp Int) (Tp Bool))))) (ρ:=(List (T5 Int Str Int (Tp Int) (Tp Bool)))) (fun (BA:Str) s18 =>
   ((some rows_).bind fun t33=>(some BA).bind fun t34=>Dv t33 t34).bind fun a35=>(extO s18 a35).bind fun z43 =>
   some (Fl.nx z43)) as11 steps_).bind fun fl13=>match fl13 with
  | .nx s18 =>
   (some s18)
  | .rt r=>some r
  | .bk _=>none
abbrev FI (x:(List (Tp SI)) × Unit):Option (List (T5 Int Str Int (Tp Int) (Tp Bool))):=Dt x.1
def BX (rows_:(List (Tp SI)))(spot_:Int):Option (T4 Str Int (List (T4 Int Str Int (Tp Int))) Int) :=
 (some ([]:List (T4 Int Str Int (Tp Int)))).bind fun told_ =>
 ((some rows_).bind fun t9=>Dt t9).bind fun as10=>(CH (S:=((List (T4 Int Str Int (Tp Int))))) (ρ:=(T4 Str Int (List (T4 Int Str Int (Tp Int))) Int)) (fun (pr44:(T5 Int Str Int (Tp Int) (Tp Bool))) s17 =>
   ((some pr44.e).bind fun t45=>(some spot_).bind fun t46=>atI t45.l t46).bind fun b47=>(cond b47
    ((some (T4.mk (0:Int) pr44.b (pr44.c+(1:Int)) pr44.d)).bind fun a56=>(Gq s17 a56).bind fun z64 =>
    some z64)
    (some s17)).bind fun s52 =>
   (some (T4.mk (pr44.a+(1:Int)) pr44.b (pr44.c+(1:Int)) pr44.d)).bind fun a68=>(Gq s52 a68).bind fun z76 =>
   some (Fl.nx z76)) as10 told_).bind fun fl12=>match fl12 with
  | .nx s17 =>
   (((some rows_).bind fun t95=>Bq t95).bind fun t101=>((((some rows_).bind fun t96=>CM t96).bind fun t97=>(some (t97.length:Int))).bind fun t98=>(some ((1:Int)+t98))).bind fun t102=>(((some rows_).bind fun t99=>FA t99).bind fun t100=>(some (t100.length:Int))).bind fun t103=>(some (T4.mk t101 t102 s17 t103)))
  | .rt r=>some r
  | .bk _=>none
abbrev CK (x:(List (Tp SI)) × Int × Unit):Option (T4 Str Int (List (T4 Int Str Int (Tp Int))) Int):=BX x.1 x.2.1
def E4 (Ah:Nt):Option (T4 Str Int (List (T4 Int Str Int (Tp Int))) Int) :=
 ((some [Ah]).bind fun t1=>(some (5:Int)).bind fun t2=>Cf t1 t2).bind fun book_ =>
 ((some book_.1).bind fun t11=>((some book_.2).bind fun t9=>(some (0:Int)).bind fun t10=>atI t9 t10).bind fun t12=>BX t11 t12)
abbrev Ep (x:Nt × Unit):Option (T4 Str Int (List (T4 Int Str Int (Tp Int))) Int):=E4 x.1
def EO (watching_:(T4 Str Int (List (T4 Int Str Int (Tp Int))) Int))(begins_:Bool):Option (MpR (List (T4 Int Str Int (Tp Int)))) :=
 (some (MpR.mk ([]:List (Rk × (List (T4 Int Str Int (Tp Int))))))).bind fun Cn =>
 (some watching_.c).bind fun as9=>(CH (S:=((MpR (List (T4 Int Str Int (Tp Int)))))) (ρ:=(MpR (List (T4 Int Str Int (Tp Int))))) (fun (row_:(T4 Int Str Int (Tp Int))) s16 =>
   (some (decide ((decide (row_.a=(0:Int)))=begins_))).bind fun b29=>cond b29
    ((some (Rk.mk [(SI.s row_.b),(SI.i row_.c)])).bind fun k36=>(addLO s16 k36 row_).bind fun z44 =>
    some (Fl.nx z44))
    (some (Fl.nx s16))) as9 Cn).bind fun fl11=>match fl11 with
  | .nx s16 =>
   (some s16)
  | .rt r=>some r
  | .bk _=>none
abbrev Ek (x:(T4 Str Int (List (T4 Int Str Int (Tp Int))) Int) × Bool × Unit):Option (MpR (List (T4 Int Str Int (Tp Int)))):=EO x.1 x.2.1
def C8 (B3:Str):Option (List Str) :=
 (some [("" : Str)]).bind fun HY =>
 (some (Bv B3)).bind fun as7=>(CH (S:=((List Str))) (ρ:=(List Str)) (fun (DG:Str) s14 =>
   ((some s14).bind fun t36=>((some s14).bind fun t35=>Dr (fun (one_:Str)=>((some one_).bind fun t33=>(some DG).bind fun t34=>catS t33 t34)) t35).bind fun t37=>catL t36 t37).bind fun HY =>
   some (Fl.nx HY)) as7 HY).bind fun fl9=>match fl9 with
  | .nx s14 =>
   (some s14)
  | .rt r=>some r
  | .bk _=>none
abbrev Ch (x:Str × Unit):Option (List Str):=C8 x.1
def C9 (self_:Nt->Option Int)(AL:Nt):Option Int :=
 (((((some AL).bind fun t4=>BC t4).bind fun t5=>(some (0:Int)).bind fun t6=>atI t5.l t6).bind fun t7=>C0 t7).bind fun t8=>(some (decide (t8=("lamp" : Str))))).bind fun b9=>cond b9
  ((some (1:Int)))
  ((((((((some AL).bind fun t19=>BC t19).bind fun t20=>(some (some (1:Int))).bind fun t21=>(some none).bind fun t22=>cutT? t20.l t21 t22).bind fun t23=>(some t23.l)).bind fun t29=>Dr (fun (Gm:Nt)=>((some Gm).bind fun t28=>self_ t28)) t29).bind fun t30=>(some t30.sum)).bind fun t31=>(some ((1:Int)+t31))))
def BG:Nat->Nt->Option Int
 | 0=>fun _=>none
 | n+1=>fun AL=>C9 (BG n) AL
abbrev C3 (BV:Nat)(x:Nt × Unit):Option Int:=BG BV x.1
def BP (self_:Nt->Option Str)(AL:Nt):Option Str :=
 (((((some AL).bind fun t4=>BC t4).bind fun t5=>(some (0:Int)).bind fun t6=>atI t5.l t6).bind fun t7=>C0 t7).bind fun t8=>(some (decide (t8=("lamp" : Str))))).bind fun b9=>cond b9
  (((((some AL).bind fun t14=>BC t14).bind fun t15=>(some (1:Int)).bind fun t16=>atI t15.l t16).bind fun t17=>C0 t17))
  (((some ("" : Str)).bind fun t37=>(((some ("" : Str)).bind fun t34=>(((((some AL).bind fun t23=>BC t23).bind fun t24=>(some (some (1:Int))).bind fun t25=>(some none).bind fun t26=>cutT? t24.l t25 t26).bind fun t27=>(some t27.l)).bind fun t33=>Dr (fun (Gm:Nt)=>((some Gm).bind fun t32=>self_ t32)) t33).bind fun t35=>GZ t34 t35).bind fun t36=>sortSetT t36).bind fun t38=>GZ t37 t38))
def Ax:Nat->Nt->Option Str
 | 0=>fun _=>none
 | n+1=>fun AL=>BP (Ax n) AL
abbrev BN (BV:Nat)(x:Nt × Unit):Option Str:=Ax BV x.1
def m_law (script_:Scr):Option Bool :=
 (((some script_).bind fun t1=>(some (0:Int)).bind fun t2=>Cq t1 t2).bind fun t3=>DR t3).bind fun B3 =>
 ((some script_).bind fun t13=>(some (2:Int)).bind fun t14=>(((some script_).bind fun t10=>(some (1:Int)).bind fun t11=>Cq t10 t11).bind fun t12=>(some (t12 % (12:Int)))).bind fun t15=>(some B3).bind fun t16=>(some (5:Int)).bind fun t17=>CC t13 t14 t15 t16 t17).bind fun AL =>
 (((some AL).bind fun t24=>BG 26 t24).bind fun t25=>(some (decide ((23:Int)<t25)))).bind fun b26=>(cond b26
  ((((some AL).bind fun t37=>BC t37).bind fun t38=>(some (1:Int)).bind fun t39=>atI t38.l t39).bind fun AL =>
  some AL)
  (some AL)).bind fun s31 =>
 ((some s31).bind fun t49=>E4 t49).bind fun one_ =>
 ((some (Nt.tup [(Nt.txt ("not" : Str)),s31])).bind fun t56=>E4 t56).bind fun other_ =>
 ((some (!decide ((one_.a,one_.b)=(other_.a,other_.b)))).bind fun t68=>cond t68 (some true) ((some (!decide (one_.d=other_.d))).bind fun t67=>cond t67 (some true) ((some one_.a).bind fun t65=>((some s31).bind fun t64=>Ax 26 t64).bind fun t66=>some (!decide (t65=t66))))).bind fun b69=>cond b69
  ((some false))
  ((((some one_.c).bind fun t83=>Cr (fun (row_:(T4 Int Str Int (Tp Int)))=>(some (decide ((0:Int)<row_.a)))) (fun (row_:(T4 Int Str Int (Tp Int)))=>(some row_)) t83).bind fun t94=>((some other_.c).bind fun t93=>Cr (fun (row_:(T4 Int Str Int (Tp Int)))=>(some (decide ((0:Int)<row_.a)))) (fun (row_:(T4 Int Str Int (Tp Int)))=>(some row_)) t93).bind fun t95=>(some (!decide (t94=t95)))).bind fun b96=>cond b96
   ((some false))
   (((some one_).bind fun t106=>(some true).bind fun t107=>EO t106 t107).bind fun ones_ =>
   ((some other_).bind fun t114=>(some true).bind fun t115=>EO t114 t115).bind fun others_ =>
   ((some one_).bind fun t122=>(some false).bind fun t123=>EO t122 t123).bind fun along_ =>
   ((some one_.a).bind fun t130=>C8 t130).bind fun as131=>(CH (S:=Unit) (ρ:=Bool) (fun (lit_:Str) s138 =>
     ((some (1:Int)).bind fun t153=>(some one_.b).bind fun t154=>rngO t153 t154).bind fun as155=>(CH (S:=Unit) (ρ:=Bool) (fun (state_:Int) s162 =>
       ((some ((getR ones_.l (Rk.mk [(SI.s lit_),(SI.i state_)])).getD ([]:List (T4 Int Str Int (Tp Int))))).bind fun t176=>(some ((getR others_.l (Rk.mk [(SI.s lit_),(SI.i state_)])).getD ([]:List (T4 Int Str Int (Tp Int))))).bind fun t177=>catL t176 t177).bind fun both_ =>
       ((some (!decide ((both_.length:Int)=(1:Int)))).bind fun t200=>cond t200 (some true) ((some (!decide ((((getR along_.l (Rk.mk [(SI.s lit_),(SI.i state_)])).getD ([]:List (T4 Int Str Int (Tp Int)))).length:Int)=(1:Int)))).bind fun t199=>cond t199 (some true) ((((some both_).bind fun t184=>(some (0:Int)).bind fun t185=>atI t184 t185).bind fun t186=>(some t186.d)).bind fun t197=>((((some along_).bind fun t192=>(some (Rk.mk [(SI.s lit_),(SI.i state_)])).bind fun t193=>getR t192.l t193).bind fun t194=>(some (0:Int)).bind fun t195=>atI t194 t195).bind fun t196=>(some t196.d)).bind fun t198=>(some (!decide (t197=t198)))))).bind fun b201=>cond b201
        ((some false).bind fun rr211=>some (Fl.rt rr211))
        (some (Fl.nx ()))) as155 ()).bind fun fl157=>match fl157 with
      | .nx s162 =>
       some (Fl.nx ())
      | .rt r=>some (Fl.rt r)
      | .bk _=>none) as131 ()).bind fun fl133=>match fl133 with
    | .nx s138 =>
     ((some ((one_.c.length:Int)+(other_.c.length:Int))).bind fun t234=>(((((some one_.a).bind fun t229=>C8 t229).bind fun t230=>(some (t230.length:Int))).bind fun t231=>(some ((3:Int) * t231))).bind fun t232=>(some (one_.b - (1:Int))).bind fun t233=>Ho t232 t233).bind fun t235=>some (decide (t234=t235)))
    | .rt r=>some r
    | .bk _=>none))
abbrev mm_law (x:Scr × Unit):Option Bool:=m_law x.1
def top (i:Nat):Stmt:=PySem.Challenge.pw_lassoscribe_k47_denied_rows.main.body.getD i (.Pass ⟨0,0,0,0⟩)
abbrev DU:Stmt:=top 1
abbrev CT:Stmt:=top 2
abbrev Ds:Stmt:=top 6
abbrev Ei:Stmt:=top 7
abbrev E5:Stmt:=top 8
abbrev CU:Stmt:=top 9
abbrev Cz:Stmt:=top 11
abbrev s_lay:Stmt:=top 12
abbrev Ej:Stmt:=top 13
abbrev E9:Stmt:=top 14
abbrev GS:Stmt:=top 15
abbrev GT:Stmt:=top 16
abbrev E2:Stmt:=top 22
abbrev DT:Stmt:=top 23
abbrev HL:Stmt:=top 24
abbrev DM:Stmt:=top 25
abbrev Cs:Stmt:=top 26
abbrev Dx:Stmt:=top 27
abbrev GR:Stmt:=top 28
abbrev FZ:Stmt:=top 31
abbrev Bn:Stmt:=top 32
abbrev Bm:Stmt:=top 33
abbrev Fh:Stmt:=top 34
abbrev Cw:Stmt:=top 38
abbrev E1:Stmt:=top 39
abbrev EE:Stmt:=top 40
abbrev DO:Stmt:=top 41
abbrev BK:Stmt:=top 42
abbrev CD:Stmt:=top 43
abbrev Ba:Stmt:=top 45
abbrev El:Stmt:=top 46
abbrev ED:Stmt:=top 48
abbrev DX:Stmt:=top 49
abbrev E6:Stmt:=top 50
abbrev Eh:Stmt:=top 51
abbrev CG:Stmt:=top 52
abbrev Cm:Stmt:=top 53
abbrev Br:Stmt:=top 54
abbrev CW:Stmt:=top 55
abbrev FQ:Stmt:=top 56
abbrev Gp:Stmt:=top 57
structure Txt (w:World)(K:FZ9)(mg:Str->Option Value):Prop where
 ValueError_:mg "ValueError" = none
 dict_:mg "dict" = none
 enumerate_:mg "enumerate" = none
 isinstance_:mg "isinstance" = none
 len_:mg "len" = none
 range_:mg "range" = none
 set_:mg "set" = none
 sorted_:mg "sorted" = none
 str_:mg "str" = none
 sum_:mg "sum" = none
 tuple_:mg "tuple" = none
 zip_:mg "zip" = none
 MOST_WORDS:∃ t,mg "MOST_WORDS" = some (.int 24 t)
 PARTS:∃ a,mg "PARTS" = some (.ref a)/\CDict w K a FB
 YES:∃ a,mg "YES" = some (.ref a)/\∀ G,Rp.rel K G (.ref a) (Nt.tup [Nt.txt "yes"])
 MOST_WAITS:∃ t,mg "MOST_WAITS" = some (.int 5 t)
 MOST_LAMPS:∃ t,mg "MOST_LAMPS" = some (.int 3 t)
theorem sc_is_moment:FnScope ["thing","last","lamp"] ["thing"] (AB DU):=⟨rfl,rfl,rfl,by decide +kernel,rfl,by decide +kernel,by decide +kernel⟩
theorem sc_all_moments:FnScope ["lamps","found","lamp"] ["lamps"] (AB CT):=⟨rfl,rfl,rfl,by decide +kernel,rfl,by decide +kernel,by decide +kernel⟩
theorem sc_parts_of:FnScope ["sentence"] ["sentence"] (AB Ds):=⟨rfl,rfl,rfl,by decide +kernel,rfl,by decide +kernel,by decide +kernel⟩
theorem sc_is_lamp:FnScope ["thing"] ["thing"] (AB Ei):=⟨rfl,rfl,rfl,by decide +kernel,rfl,by decide +kernel,by decide +kernel⟩
theorem sc_has_form:FnScope ["thing"] ["thing"] (AB E5):=⟨rfl,rfl,rfl,by decide +kernel,rfl,by decide +kernel,by decide +kernel⟩
theorem sc_is_sentence:FnScope ["thing","found","place"] ["thing"] (AB CU):=⟨rfl,rfl,rfl,by decide +kernel,rfl,by decide +kernel,by decide +kernel⟩
theorem sc_row_number:FnScope ["rows","numbers","row"] ["rows","numbers","row"] (AB Cz):=⟨rfl,rfl,rfl,by decide +kernel,rfl,by decide +kernel,by decide +kernel⟩
theorem sc_lay:FnScope ["rows","numbers","sentence","row","part"] ["rows","numbers","sentence"] (AB s_lay):=⟨rfl,rfl,rfl,by decide +kernel,rfl,by decide +kernel,by decide +kernel⟩
theorem sc_book_of:FnScope ["some","rows","numbers","spots"] ["some"] (AB Ej):=⟨rfl,rfl,rfl,by decide +kernel,rfl,by decide +kernel,by decide +kernel⟩
theorem sc_lamps_in:FnScope ["rows"] ["rows"] (AB E9):=⟨rfl,rfl,rfl,by decide +kernel,rfl,by decide +kernel,by decide +kernel⟩
theorem sc_waits:FnScope ["rows","under_next"] ["rows"] (AB GS):=⟨rfl,rfl,rfl,by decide +kernel,rfl,by decide +kernel,by decide +kernel⟩
theorem sc_hopes:FnScope ["rows"] ["rows"] (AB GT):=⟨rfl,rfl,rfl,by decide +kernel,rfl,by decide +kernel,by decide +kernel⟩
theorem sc_truth_of:FnScope ["rows","number","moment","claimed","view","row","word"] ["rows","number","moment","claimed","view"] (AB E2):=⟨rfl,rfl,rfl,by decide +kernel,rfl,by decide +kernel,by decide +kernel⟩
theorem sc_view_with:FnScope ["rows","moment","claimed","view","number"] ["rows","moment","claimed"] (AB DT):=⟨rfl,rfl,rfl,by decide +kernel,rfl,by decide +kernel,by decide +kernel⟩
theorem sc_look:FnScope ["rows","moment","claims"] ["rows","moment","claims"] (AB HL):=⟨rfl,rfl,rfl,by decide +kernel,rfl,by decide +kernel,by decide +kernel⟩
theorem sc_claims_of:FnScope ["rows","view"] ["rows","view"] (AB DM):=⟨rfl,rfl,rfl,by decide +kernel,rfl,by decide +kernel,by decide +kernel⟩
theorem sc_all_claims:FnScope ["many","found","added"] ["many"] (AB Cs):=⟨rfl,rfl,rfl,by decide +kernel,rfl,by decide +kernel,by decide +kernel⟩
theorem sc_is_eased:FnScope ["rows","hope","view"] ["rows","hope","view"] (AB Dx):=⟨rfl,rfl,rfl,by decide +kernel,rfl,by decide +kernel,by decide +kernel⟩
theorem sc_eased:FnScope ["rows","view"] ["rows","view"] (AB GR):=⟨rfl,rfl,rfl,by decide +kernel,rfl,by decide +kernel,by decide +kernel⟩
theorem sc_denied:FnScope ["plain"] ["plain"] (AB FZ):=⟨rfl,rfl,rfl,by decide +kernel,rfl,by decide +kernel,by decide +kernel⟩
theorem sc_plain_with_one:FnScope ["word","inner"] ["word","inner"] (AB Bn):=⟨rfl,rfl,rfl,by decide +kernel,rfl,by decide +kernel,by decide +kernel⟩
theorem sc_plain_with_two:FnScope ["word","left","right"] ["word","left","right"] (AB Bm):=⟨rfl,rfl,rfl,by decide +kernel,rfl,by decide +kernel,by decide +kernel⟩
theorem sc_plain:FnScope ["sentence","word"] ["sentence"] (AB Fh):=⟨rfl,rfl,rfl,by decide +kernel,rfl,by decide +kernel,by decide +kernel⟩
theorem sc_claims_for:FnScope ["rows"] ["rows"] (AB Cw):=⟨rfl,rfl,rfl,by decide +kernel,rfl,by decide +kernel,by decide +kernel⟩
theorem sc_steps_at:FnScope ["rows","moment","every","numbers","steps","end","claims","view","begin"] ["rows","moment"] (AB E1):=⟨rfl,rfl,rfl,by decide +kernel,rfl,by decide +kernel,by decide +kernel⟩
theorem sc_steps_of:FnScope ["rows","steps","moment"] ["rows"] (AB EE):=⟨rfl,rfl,rfl,by decide +kernel,rfl,by decide +kernel,by decide +kernel⟩
theorem sc_book_told:FnScope ["sentences","sentence"] ["sentences"] (AB DO):=⟨rfl,rfl,rfl,by decide +kernel,rfl,by decide +kernel,by decide +kernel⟩
theorem sc_refuse_more_waits:FnScope ["rows","most"] ["rows","most"] (AB BK):=⟨rfl,rfl,rfl,by decide +kernel,rfl,by decide +kernel,by decide +kernel⟩
theorem sc_bounded_book:FnScope ["sentences","most_waits","book"] ["sentences","most_waits"] (AB CD):=⟨rfl,rfl,rfl,by decide +kernel,rfl,by decide +kernel,by decide +kernel⟩
theorem sc_watcher_of_book:FnScope ["rows","spot","told","begin","moment","end","taken","view"] ["rows","spot"] (AB Ba):=⟨rfl,rfl,rfl,by decide +kernel,rfl,by decide +kernel,by decide +kernel⟩
theorem sc_watcher:FnScope ["sentence","book"] ["sentence"] (AB El):=⟨rfl,rfl,rfl,by decide +kernel,rfl,by decide +kernel,by decide +kernel⟩
theorem sc_law_cell:FnScope ["_law_script","_law_k","_law_number"] ["_law_script","_law_k"] (AB ED):=⟨rfl,rfl,rfl,by decide +kernel,rfl,by decide +kernel,by decide +kernel⟩
theorem sc_law_lamps:FnScope ["_law_number","_law_lit","_law_left","_law_k"] ["_law_number"] (AB DX):=⟨rfl,rfl,rfl,by decide +kernel,rfl,by decide +kernel,by decide +kernel⟩
theorem sc_law_pool:FnScope ["_law_lamps_here","_law_pool_here","_law_letter"] ["_law_lamps_here"] (AB E6):=⟨rfl,rfl,rfl,by decide +kernel,rfl,by decide +kernel,by decide +kernel⟩
theorem sc_law_put:FnScope ["_law_number","_law_pool_here","_law_alone","_law_two","_law_one","_law_other","_law_price"] ["_law_number","_law_pool_here"] (AB Eh):=⟨rfl,rfl,rfl,by decide +kernel,rfl,by decide +kernel,by decide +kernel⟩
theorem sc_law_sentence:FnScope ["_law_script","_law_start","_law_many","_law_lamps_here","_law_most","_law_pool_here","_law_k","_law_put_here"] ["_law_script","_law_start","_law_many","_law_lamps_here","_law_most"] (AB CG):=⟨rfl,rfl,rfl,by decide +kernel,rfl,by decide +kernel,by decide +kernel⟩
theorem sc_law_words:FnScope ["_law_sentence_here"] ["_law_sentence_here"] (AB Cm):=⟨rfl,rfl,rfl,by decide +kernel,rfl,by decide +kernel,by decide +kernel⟩
theorem Fw:FnScope ["_law_sentence_here"] ["_law_sentence_here"] (AB Br):=⟨rfl,rfl,rfl,by decide +kernel,rfl,by decide +kernel,by decide +kernel⟩
theorem sc_law_moments:FnScope ["_law_lamps_here","_law_some","_law_letter"] ["_law_lamps_here"] (AB CW):=⟨rfl,rfl,rfl,by decide +kernel,rfl,by decide +kernel,by decide +kernel⟩
theorem sc_law_to:FnScope ["_law_watching","_law_begins","_law_found","_law_row"] ["_law_watching","_law_begins"] (AB FQ):=⟨rfl,rfl,rfl,by decide +kernel,rfl,by decide +kernel,by decide +kernel⟩
theorem sc_law:FnScope ["_law_script","_law_lamps_here","_law_sentence_here","_law_one","_law_other","_law_ones","_law_others","_law_along","_law_lit","_law_state","_law_both"] ["_law_script"] (AB Gp):=⟨rfl,rfl,rfl,by decide +kernel,rfl,by decide +kernel,by decide +kernel⟩
def sp_law (K:FZ9):Sp:=fun vs H Q _=>∃ (a:Addr) (ns:List Int),vs=[.ref a]/\SqL K H a (ns.map V.int)/\ns.length<=63/\∀ H',Q (.bl true) H'
section
variable {P:Program}{w:World}{K:FZ9}{mg:Str->Option Value}{base:Heap}
theorem ok_law_lamps {f:Addr}{fd:FuncData}(F:Fun K "_law_lamps" "_law_lamps" DX f fd)(T:Txt w K mg):FnOk P w K mg base CX0 1 f fd ["_law_number"] (spM K Ef):=by
 refine F.ok sc_law_lamps (fun vs H Q E h=>(Ak h).trans rfl) (fun cdv A outer s H0 vs Q E hr h=>?_)
 obtain ⟨G0,⟨Ar,⟨⟩⟩,res,sg0,⟨Cu,_,rfl,AI,rfl⟩,hm,q⟩:=h
 replace AI:Rp.rel K G0 Cu Ar:=AI
 replace hm:DR Ar=some res:=hm
 unfold DR at hm
 have xt:Ext G0 H0 G0 H0:=Ext.refl sg0
 refine ⟨_,(A7 (Ad (i:=1) sc_law_lamps.nd rfl (Or.inr rfl) AM)
   (A7 (Ad (i:=2) sc_law_lamps.nd rfl (Or.inl rfl) (Ao DJ (pv 0) (Ao op_pow AA AA)))
   (A7 (D6 PassesOwn.never rfl (GU rfl T.range_ (A5 (Ao (B2 (K:=K) rfl) AA (Ao DJ (pv 2) AA)) A8)) (BD (i:=3) sc_law_lamps.nd rfl (Or.inl rfl)) (A7 (Ad (i:=2) sc_law_lamps.nd rfl (Or.inl rfl) (Ao (B2 (K:=K) rfl) (Ao op_fdiv (pv 2) AA) (Ao (Ey (K:=K) rfl) AA (pv 3))))
   (A7 (Ad (i:=1) sc_law_lamps.nd rfl (Or.inr rfl) (Ao (B2 (K:=K) rfl) (pv 1) (AR (AF (K:=K) rfl) AM (Ao DJ (pv 2) AA) (fun _ _=>rfl))))
   A9)))
   (A7 (AN (Dj (K:=K) rfl PySem.F.plainAttrs_str PySem.F.slot_str_join PySem.F.type_str_join (mt_joinK (K:=K) rfl) AM (A5 (DC (cn:=["_law_lit"]) (cap:=[1]) rfl ⟨by decide +kernel,rfl,by decide +kernel,C4 rfl⟩ rfl (by decide +kernel) ⟨⟨rfl,.inl rfl,rfl⟩,trivial⟩ (BI (K:=K) rfl AM) (fun C s0 H0 fp=>⟨(Fi (AU op_in_str (pv 0) (pv 1) rfl)),(pv 0)⟩)) A8)))
   A9)))),?_⟩
 refine bE hm fun lit_ h6 hm=>?_
 refine Av (K:=K) B9 h6 xt.gh fun v1 G2 H3 x4 r5=>?_
 have xt:=xt.trans x4
 have AI:=Rp.mono x4.gg AI
 refine bE hm fun Er h12 hm=>?_
 refine Av (K:=K) (ev_modC (A6 rfl AI) (EV.of (m':=some (1000000000000:Int)) (ev_pow (Aj (i:=10)) (Aj (i:=12))) (by decide +kernel)) (by decide +kernel)) h12 xt.gh fun v7 G8 H9 x10 r11=>?_
 have xt:=xt.trans x10
 have r5:=Rp.mono x10.gg r5
 refine bE hm fun as14 h15 hm=>?_
 refine bE hm fun fl16 h17 hm=>?_
 refine DI (K:=K) (RR:=fun r v G' H'=>Ext G0 H0 G' H'/\Rp.rel K G' v r) (iw_rng1 (CO Aj (DE (A6 rfl r11)))) h15 h17 xt.gh fun G18 H19 x20=>⟨fun s21 S' G' H'=>∃ (v22:V) (v23:V) (v24:Option V),Ext G0 H0 G' H'/\Same G18 G'/\S'=[some Cu,some v22,some v23,v24]/\Rp.rel K G' v22 (s21.1:Str)/\Rp.rel K G' v23 (s21.2:Int),?_,?_,?_,?_,?_⟩
 ·have xt:=xt.trans x20
  have r5:=Rp.mono x20.gg r5
  have r11:=Rp.mono x20.gg r11
  exact ⟨v1,v7,_,xt,(Same.refl _),rfl,r5,r11⟩
 ·rintro _ S' G' H' ⟨v22,v23,v24,xt,mk25,rfl,r26,r27⟩
  exact ⟨mk25,xt.gh⟩
 ·rintro xv28 a29 s21 _ G32 H33 fl30 - ⟨v22,v23,v24,xt,mk25,rfl,r26,r27⟩ rx31 hm D' kN34 kC35 kB36 kR37
  refine D0 ?_
  refine bE hm fun Er h43 hm=>?_
  refine Av (K:=K) (CO (ev_divR (A6 rfl r27)) (ev_mulL (A6 rfl rx31))) h43 xt.gh fun v38 G39 H40 x41 r42=>?_
  have xt:=xt.trans x41
  have mk25:=mk25.trans x41.gg
  have r26:=Rp.mono x41.gg r26
  refine bE hm fun lit_ h53 hm=>?_
  refine Av (K:=K) (ev_catS (A6 rfl r26) (ev_atS B9 (DE (A6 rfl r42)))) h53 xt.gh fun v48 G49 H50 x51 r52=>?_
  have xt:=xt.trans x51
  have mk25:=mk25.trans x51.gg
  have r42:=Rp.mono x51.gg r42
  cases hm
  exact kN34 _ _ _ _ rfl ⟨v48,v38,_,xt,mk25,rfl,r52,r42⟩
 ·rintro s21 _ G60 H61 rfl ⟨v54,v55,v56,xt,mk57,rfl,r58,r59⟩
  refine ET ?_
  exact AW (K:=K) (ev_join B9 (FV.ev (GN (cap:=[1]) (fc:=fun (DG:Str)=>(some (inS DG s21.1))) (fe:=fun (DG:Str)=>(some DG)) (iw_str B9) fun xc65 DG Gc62 sc63 rc64=>⟨(AT (K:=K) (ev_inS (A6 rfl rc64) (A6 rfl (Rp.mono sc63 r58)))),(A6 rfl rc64)⟩))) hm xt.gh fun v69 G70 H71 x72 r73=>q v69 G70 H71 (xt.trans x72) r73
 ·rintro r' v' G' H' rfl rl
  cases hm
  exact q v' G' H' rl.1 rl.2
seal eval in
theorem ok_law_pool {f:Addr}{fd:FuncData}(F:Fun K "_law_pool" "_law_pool" E6 f fd)(T:Txt w K mg):FnOk P w K mg base CX0 1 f fd ["_law_lamps_here"] (spL K FF):=by
 refine F.ok sc_law_pool (fun vs H Q E h=>(spL_len h).trans rfl) (fun cdv A outer s H0 vs Q E hr h=>?_)
 obtain ⟨G0,⟨B3,⟨⟩⟩,res,sg0,⟨Bj,_,rfl,At,rfl⟩,hm,q⟩:=h
 replace At:Rp.rel K G0 Bj B3:=At
 replace hm:E8 B3=some res:=hm
 unfold E8 at hm
 have xt:Ext G0 H0 G0 H0:=Ext.refl sg0
 refine ⟨_,(A7 (Ad (i:=1) sc_law_pool.nd rfl (Or.inl rfl) (CL (A5 (Am (A5 (Am (A5 AM A8)) (A5 AA (A5 AA A8)))) (A5 (Am (A5 (Am (A5 AM A8)) (A5 AA (A5 AA A8)))) A8))))
   (A7 (D6 PassesOwn.never rfl (BI (K:=K) rfl (pv 0)) (BD (i:=2) sc_law_pool.nd rfl (Or.inl rfl)) (A7 (Da (Dj (K:=K) rfl PySem.F.plainAttrs_list PySem.F.slot_list_append PySem.F.type_list_append Cy (pv 1) (A5 (Am (A5 (Am (A5 AM (A5 (pv 2) A8))) (A5 AA (A5 AA A8)))) A8)))
   A9))
   (A7 (AN (pv 1))
   A9))),?_⟩
 refine bE hm fun pool_here_ h8 hm=>?_
 refine Gj (K:=K) (CZ (AC (HD (B1 (AC (BB B9) (Af (α:=Nt)))) Aj Aj) (AC (HD (B1 (AC (BB B9) (Af (α:=Nt)))) Aj Aj) (Af (α:=(T3 Nt Int Int)))))) h8 xt.gh fun p1 vs2 G3 H4 x5 hz6 o7=>?_
 have hz6:=xt.hh.free hz6
 have xt:=xt.trans x5
 have At:=Rp.mono x5.gg At
 refine bE hm fun as9 h10 hm=>?_
 refine bE hm fun fl11 h12 hm=>?_
 refine DI (K:=K) (RR:=fun r v G' H'=>∃ p vs,v=V.ref p/\Ext G0 H0 G' H'/\H0 p=none/\Own K G' H' (V.ref p) p vs r) (iw_str (A6 rfl At)) h10 h12 xt.gh fun G13 H14 x15=>⟨fun s16 S' G' H'=>∃ (v17:Option V),Ext G0 H0 G' H'/\Same G13 G'/\S'=[some Bj,some (V.ref p1),v17]/\(∃ vs,Own K G' H' (V.ref p1) p1 vs s16),?_,?_,?_,?_,?_⟩
 ·have xt:=xt.trans x15
  have o7:=o7.ext x15
  exact ⟨_,xt,(Same.refl _),rfl,⟨_,o7⟩⟩
 ·rintro _ S' G' H' ⟨v17,xt,mk18,rfl,⟨vs2,o7⟩⟩
  exact ⟨mk18,xt.gh⟩
 ·rintro xv19 a20 s16 _ G23 H24 fl21 - ⟨v17,xt,mk18,rfl,⟨vs2,o7⟩⟩ rx22 hm D' kN25 kC26 kB27 kR28
  refine D0 ?_
  refine bE hm fun a29 h30 hm=>?_
  refine bE hm fun z37 h31 hm=>?_
  refine FX (K:=K) rfl o7 (HD (B1 (AC (BB B9) (AC (BB (A6 rfl rx22)) (Af (α:=Nt))))) Aj Aj) h30 h31 xt.gh fun G32 H33 w34 x35 o36=>?_
  have xt:Ext G0 H0 G32 (upd H33 p1 (.lst (vs2++[w34]))):=(xt.trans x35).put hz6 o36.g
  have mk18:=mk18.trans x35.gg
  cases hm
  exact kN25 _ _ _ _ rfl ⟨_,xt,mk18,rfl,⟨_,o36⟩⟩
 ·rintro s16 _ G40 H41 rfl ⟨v38,xt,mk39,rfl,⟨vs2,o7⟩⟩
  refine ET ?_
  cases hm
  exact sv_retO rfl o7 (q _ _ _ _ xt hz6 (o7.v ▸ o7))
 ·rintro r' v' G' H' rfl rl
  cases hm
  obtain ⟨p',vs',rfl,x',h',o'⟩:=rl
  exact q p' vs' G' H' x' h' o'
seal eval in
theorem ok_law_put {f:Addr}{fd:FuncData}(F:Fun K "_law_put" "_law_put" Eh f fd)(T:Txt w K mg):FnOk P w K mg base CX0 1 f fd ["_law_number","_law_pool_here"] (spM K Fc):=by
 refine F.ok sc_law_put (fun vs H Q E h=>(Ak h).trans rfl) (fun cdv A outer s H0 vs Q E hr h=>?_)
 obtain ⟨G0,⟨Ar,⟨pool_here_,⟨⟩⟩⟩,res,sg0,⟨Cu,_,rfl,AI,⟨Fs,_,rfl,B4,rfl⟩⟩,hm,q⟩:=h
 replace AI:Rp.rel K G0 Cu Ar:=AI
 replace B4:Rp.rel K G0 Fs pool_here_:=B4
 replace hm:Em Ar pool_here_=some res:=hm
 unfold Em at hm
 have xt:Ext G0 H0 G0 H0:=Ext.refl sg0
 refine ⟨_,(A7 (Ad (i:=2) sc_law_put.nd rfl (Or.inl rfl) (CL (A5 AM (A5 AM (A5 AM (A5 AM (A5 AM (A5 AM A8))))))))
   (A7 (Ad (i:=3) sc_law_put.nd rfl (Or.inl rfl) (CL (A5 AM (A5 AM (A5 AM (A5 AM (A5 AM A8)))))))
   (A7 (Ad (i:=4) sc_law_put.nd rfl (Or.inl rfl) (AR (AF (K:=K) rfl) (pv 1) (pe_un un_neg AA) (fun _ _=>rfl)))
   (A7 (Ad (i:=5) sc_law_put.nd rfl (Or.inl rfl) (AR (AF (K:=K) rfl) (pv 1) (Ao DJ (Ao op_fdiv (pv 0) AA) (An (Az (K:=K) rfl) (by rfl) T.len_ Bu (A5 (pv 1) A8))) (fun _ _=>rfl)))
   (A7 (BE (AU op_ltU (Ao DJ (pv 0) AA) AA (Aa _)) (A7 (BE (AU Fj (Ao DJ (Ao op_fdiv (pv 0) AA) AA) AA (Aa _)) (A7 (Ad (i:=5) sc_law_put.nd rfl (Or.inl rfl) (pv 4))
   A9) A9)
   (A7 (Ad (i:=6) sc_law_put.nd rfl (Or.inl rfl) (AR (AF (K:=K) rfl) (CL (A5 AA (A5 AA (A5 AA (A5 AA (A5 AA (A5 AA A8))))))) (Ao DJ (pv 0) AA) (fun _ _=>rfl)))
   (A7 (AN (Am (A5 (Am (A5 (AR (AF (K:=K) rfl) (pv 2) (Ao DJ (pv 0) AA) (fun _ _=>rfl)) (A5 (AR (AF (K:=K) rfl) (pv 5) AA (fun _ _=>rfl)) A8))) (A5 (Ao (B2 (K:=K) rfl) (AR (AF (K:=K) rfl) (pv 5) AA (fun _ _=>rfl)) AA) (A5 (Ao (B2 (K:=K) rfl) (AR (AF (K:=K) rfl) (pv 5) AA (fun _ _=>rfl)) (pv 6)) A8)))))
   A9))) A9)
   (A7 (BE (AU BZ (Ao DJ (Ao op_fdiv (pv 0) AA) AA) AA (Aa _)) (A7 (ps_par (i:=4) (j:=5) rfl sc_law_put.nd rfl rfl (by decide) rfl rfl (A5 (pv 5) (A5 (pv 4) A8)) rfl)
   A9) A9)
   (A7 (Ad (i:=6) sc_law_put.nd rfl (Or.inl rfl) (AR (AF (K:=K) rfl) (CL (A5 AA (A5 AA (A5 AA (A5 AA (A5 AA A8)))))) (Ao op_sub (Ao DJ (pv 0) AA) AA) (fun _ _=>rfl)))
   (A7 (AN (Am (A5 (Am (A5 (AR (AF (K:=K) rfl) (pv 3) (Ao op_sub (Ao DJ (pv 0) AA) AA) (fun _ _=>rfl)) (A5 (AR (AF (K:=K) rfl) (pv 4) AA (fun _ _=>rfl)) (A5 (AR (AF (K:=K) rfl) (pv 5) AA (fun _ _=>rfl)) A8)))) (A5 (Ao (B2 (K:=K) rfl) (Ao (B2 (K:=K) rfl) (AR (AF (K:=K) rfl) (pv 4) AA (fun _ _=>rfl)) (AR (AF (K:=K) rfl) (pv 5) AA (fun _ _=>rfl))) AA) (A5 (Ao (B2 (K:=K) rfl) (Ao (B2 (K:=K) rfl) (AR (AF (K:=K) rfl) (pv 4) AA (fun _ _=>rfl)) (AR (AF (K:=K) rfl) (pv 5) AA (fun _ _=>rfl))) (pv 6)) A8)))))
   A9)))))))),?_⟩
 refine bE hm fun alone_ h6 hm=>?_
 refine Av (K:=K) (FV.ev (CZ (AC B9 (AC B9 (AC B9 (AC B9 (AC B9 (AC B9 (Af (α:=Str)))))))))) h6 xt.gh fun v1 G2 H3 x4 r5=>?_
 have xt:=xt.trans x4
 have AI:=Rp.mono x4.gg AI
 have B4:=Rp.mono x4.gg B4
 refine bE hm fun two_ h12 hm=>?_
 refine Av (K:=K) (FV.ev (CZ (AC B9 (AC B9 (AC B9 (AC B9 (AC B9 (Af (α:=Str))))))))) h12 xt.gh fun v7 G8 H9 x10 r11=>?_
 have xt:=xt.trans x10
 have AI:=Rp.mono x10.gg AI
 have B4:=Rp.mono x10.gg B4
 have r5:=Rp.mono x10.gg r5
 refine bE hm fun one_ h20 hm=>?_
 refine Av (K:=K) (Dg (A6 rfl B4) (ev_neg Aj)) h20 xt.gh fun v15 G16 H17 x18 r19=>?_
 have xt:=xt.trans x18
 have AI:=Rp.mono x18.gg AI
 have B4:=Rp.mono x18.gg B4
 have r5:=Rp.mono x18.gg r5
 have r11:=Rp.mono x18.gg r11
 refine bE hm fun other_ h30 hm=>?_
 refine Av (K:=K) (Dg (A6 rfl B4) (ev_mod (ev_divR (A6 rfl AI)) (EA (A6 rfl B4)))) h30 xt.gh fun v25 G26 H27 x28 r29=>?_
 have xt:=xt.trans x28
 have AI:=Rp.mono x28.gg AI
 have B4:=Rp.mono x28.gg B4
 have r5:=Rp.mono x28.gg r5
 have r11:=Rp.mono x28.gg r11
 have r19:=Rp.mono x28.gg r19
 refine bE hm fun b31 h32 hm=>?_
 refine BJ (AT (K:=K) (EC (DE (A6 rfl AI)) Aj)) h32 xt.gh fun G33 H34 x35=>?_
 have xt:=xt.trans x35
 have AI:=Rp.mono x35.gg AI
 have B4:=Rp.mono x35.gg B4
 have r5:=Rp.mono x35.gg r5
 have r11:=Rp.mono x35.gg r11
 have r19:=Rp.mono x35.gg r19
 have r29:=Rp.mono x35.gg r29
 cases b31 with
 | true =>
  replace hm:=cT hm
  refine Bw ?_
  refine bE hm fun b36 h37 hm=>?_
  refine bE hm fun s41 h42 hm=>?_
  try (with_reducible refine nxt_ ?_;dsimp only)
  refine Gu (t:=Hh _ _ _) (fun S55 H54=>∃ (G53:Hp) (v44:V),Ext G0 H0 G53 H54/\Same G33 G53/\S55=[some Cu,some Fs,some v1,some v7,some v15,some v44,none]/\Rp.rel K G53 v44 (s41:(T3 Nt Int Int))) (fun nx kn46=>?_) ?_
  ·refine BJ (AT (K:=K) (EC (DE (ev_divR (A6 rfl AI))) Aj)) h37 xt.gh fun G38 H39 x40=>?_
   have xt:=xt.trans x40
   have r19:=Rp.mono x40.gg r19
   have r29:=Rp.mono x40.gg r29
   have mk43:Same G33 G38:=x40.gg
   have hm:=h42
   cases b36 with
   | true =>
    replace hm:=cT hm
    refine Bw ?_
    refine bE hm fun other_ h52 hm=>?_
    refine Av (K:=K) (A6 rfl r19) h52 xt.gh fun v47 G48 H49 x50 r51=>?_
    have xt:=xt.trans x50
    have mk43:=mk43.trans x50.gg
    cases hm
    exact kn46 _ _ ⟨G48,v47,xt,mk43,rfl,r51⟩
   | false =>
    replace hm:=cF hm
    refine Bs ?_
    cases hm
    exact kn46 _ _ ⟨G38,v25,xt,mk43,rfl,r29⟩
  ·rintro _ H54 ⟨G53,v44,xt,mk43,rfl,r45⟩
   have AI:=Rp.mono mk43 AI
   have r5:=Rp.mono mk43 r5
   refine bE hm fun price_ h63 hm=>?_
   refine Av (K:=K) (Dg (FV.ev (CZ (AC Aj (AC Aj (AC Aj (AC Aj (AC Aj (AC Aj (Af (α:=Int)))))))))) (DE (A6 rfl AI))) h63 xt.gh fun v58 G59 H60 x61 r62=>?_
   have xt:=xt.trans x61
   have AI:=Rp.mono x61.gg AI
   have r5:=Rp.mono x61.gg r5
   have r45:=Rp.mono x61.gg r45
   exact AW (K:=K) (HD (B1 (AC (BB (Dg (A6 rfl r5) (DE (A6 rfl AI)))) (AC (ev_p31 (A6 rfl r45)) (Af (α:=Nt))))) (CO (ev_p32 (A6 rfl r45)) Aj) (CO (ev_p33 (A6 rfl r45)) (A6 rfl r62))) hm xt.gh fun v70 G71 H72 x73 r74=>q v70 G71 H72 (xt.trans x73) r74
 | false =>
  replace hm:=cF hm
  refine Bs ?_
  refine bE hm fun b75 h76 hm=>?_
  refine bE hm fun s80 h81 hm=>?_
  try (with_reducible refine nxt_ ?_;dsimp only)
  refine Gu (t:=Hh _ _ _) (fun S97 H96=>∃ (G95:Hp) (v83:V) (v85:V),Ext G0 H0 G95 H96/\Same G33 G95/\S97=[some Cu,some Fs,some v1,some v7,some v83,some v85,none]/\Rp.rel K G95 v83 (s80.1:(T3 Nt Int Int))/\Rp.rel K G95 v85 (s80.2:(T3 Nt Int Int))) (fun nx kn87=>?_) ?_
  ·refine BJ (AT (K:=K) (GC (DE (ev_divR (A6 rfl AI))) Aj)) h76 xt.gh fun G77 H78 x79=>?_
   have xt:=xt.trans x79
   have r19:=Rp.mono x79.gg r19
   have r29:=Rp.mono x79.gg r29
   have mk82:Same G33 G77:=x79.gg
   have hm:=h81
   cases b75 with
   | true =>
    replace hm:=cT hm
    refine Bw ?_
    refine sv_par (K:=K) (A6 rfl r29) rfl (A6 rfl r19) rfl xt.gh fun v91 v92 G88 H89 x90 r93 r94=>?_
    have xt:=xt.trans x90
    have mk82:=mk82.trans x90.gg
    cases hm
    exact kn87 _ _ ⟨G88,v91,v92,xt,mk82,rfl,r93,r94⟩
   | false =>
    replace hm:=cF hm
    refine Bs ?_
    cases hm
    exact kn87 _ _ ⟨G77,v15,v25,xt,mk82,rfl,r19,r29⟩
  ·rintro _ H96 ⟨G95,v83,v85,xt,mk82,rfl,r84,r86⟩
   have AI:=Rp.mono mk82 AI
   have r11:=Rp.mono mk82 r11
   refine bE hm fun price_ h105 hm=>?_
   refine Av (K:=K) (Dg (FV.ev (CZ (AC Aj (AC Aj (AC Aj (AC Aj (AC Aj (Af (α:=Int))))))))) (ev_sub (DE (A6 rfl AI)) Aj)) h105 xt.gh fun v100 G101 H102 x103 r104=>?_
   have xt:=xt.trans x103
   have AI:=Rp.mono x103.gg AI
   have r11:=Rp.mono x103.gg r11
   have r84:=Rp.mono x103.gg r84
   have r86:=Rp.mono x103.gg r86
   exact AW (K:=K) (HD (B1 (AC (BB (Dg (A6 rfl r11) (ev_sub (DE (A6 rfl AI)) Aj))) (AC (ev_p31 (A6 rfl r84)) (AC (ev_p31 (A6 rfl r86)) (Af (α:=Nt)))))) (CO (CO (ev_p32 (A6 rfl r84)) (ev_p32 (A6 rfl r86))) Aj) (CO (CO (ev_p33 (A6 rfl r84)) (ev_p33 (A6 rfl r86))) (A6 rfl r104))) hm xt.gh fun v112 G113 H114 x115 r116=>q v112 G113 H114 (xt.trans x115) r116
theorem ok_law_cell {f:Addr}{fd:FuncData}(F:Fun K "_law_cell" "_law_cell" ED f fd)(T:Txt w K mg):FnOk P w K mg base CX0 1 f fd ["_law_script","_law_k"] (spM K Cg):=by
 refine F.ok sc_law_cell (fun vs H Q E h=>(Ak h).trans rfl) (fun cdv A outer s H0 vs Q E hr h=>?_)
 obtain ⟨G0,⟨script_,⟨k_,⟨⟩⟩⟩,res,sg0,⟨Bo,_,rfl,Ab,⟨v_k_,_,rfl,HI,rfl⟩⟩,hm,q⟩:=h
 replace Ab:Rp.rel K G0 Bo script_:=Ab
 replace HI:Rp.rel K G0 v_k_ k_:=HI
 replace hm:Cq script_ k_=some res:=hm
 unfold Cq at hm
 have xt:Ext G0 H0 G0 H0:=Ext.refl sg0
 refine ⟨_,(A7 (BE (AU op_ltU (pv 1) (An (Az (K:=K) rfl) (by rfl) T.len_ Bu (A5 (pv 0) A8)) (Aa _)) (A7 (AN (AR (AF (K:=K) rfl) (pv 0) (pv 1) (fun _ _=>rfl)))
   A9) A9)
   (A7 (Ad (i:=2) sc_law_cell.nd rfl (Or.inl rfl) (Ao (B2 (K:=K) rfl) (Ao (Ey (K:=K) rfl) (pv 1) AA) AA))
   (A7 (BE (AU Fj (An (Az (K:=K) rfl) (by rfl) T.len_ Bu (A5 (pv 0) A8)) AA (Aa _)) (A7 (Ad (i:=2) sc_law_cell.nd rfl (Or.inl rfl) (Ao DJ (Ao (B2 (K:=K) rfl) (Ao (Ey (K:=K) rfl) (AR (AF (K:=K) rfl) (pv 0) (Ao DJ (Ao (Ey (K:=K) rfl) (pv 1) AA) (An (Az (K:=K) rfl) (by rfl) T.len_ Bu (A5 (pv 0) A8))) (fun _ _=>rfl)) AA) (Ao (Ey (K:=K) rfl) (pv 1) AA)) AA))
   A9) A9)
   (A7 (AN (Ao DJ (Ao (Ey (K:=K) rfl) (pv 2) (pv 2)) AA))
   A9)))),?_⟩
 refine bE hm fun b1 h2 hm=>?_
 refine BJ (AT (K:=K) (EC (A6 rfl HI) (ev_lenX (A6 rfl Ab)))) h2 xt.gh fun G3 H4 x5=>?_
 have xt:=xt.trans x5
 have Ab:=Rp.mono x5.gg Ab
 have HI:=Rp.mono x5.gg HI
 cases b1 with
 | true =>
  replace hm:=cT hm
  refine Bw ?_
  exact AW (K:=K) (ev_atX (A6 rfl Ab) (A6 rfl HI)) hm xt.gh fun v8 G9 H10 x11 r12=>q v8 G9 H10 (xt.trans x11) r12
 | false =>
  replace hm:=cF hm
  refine Bs ?_
  refine bE hm fun Ar h18 hm=>?_
  refine Av (K:=K) (CO (ev_mulR (A6 rfl HI)) Aj) h18 xt.gh fun v13 G14 H15 x16 r17=>?_
  have xt:=xt.trans x16
  have Ab:=Rp.mono x16.gg Ab
  have HI:=Rp.mono x16.gg HI
  refine bE hm fun b19 h20 hm=>?_
  refine bE hm fun s24 h25 hm=>?_
  try (with_reducible refine nxt_ ?_;dsimp only)
  refine Gu (t:=Hh _ _ _) (fun S45 H44=>∃ (G43:Hp) (v27:V),Ext G0 H0 G43 H44/\Same G14 G43/\S45=[some Bo,some v_k_,some v27]/\Rp.rel K G43 v27 (s24:Int)) (fun nx kn29=>?_) ?_
  ·refine BJ (AT (K:=K) (EC (ev_lenX (A6 rfl Ab)) Aj)) h20 xt.gh fun G21 H22 x23=>?_
   have xt:=xt.trans x23
   have Ab:=Rp.mono x23.gg Ab
   have HI:=Rp.mono x23.gg HI
   have r17:=Rp.mono x23.gg r17
   have mk26:Same G14 G21:=x23.gg
   have hm:=h25
   cases b19 with
   | true =>
    replace hm:=cT hm
    refine Bw ?_
    refine bE hm fun Ar h42 hm=>?_
    refine Av (K:=K) (DE (CO (ev_mulR (ev_atX (A6 rfl Ab) (ev_mod (ev_mulR (A6 rfl HI)) (ev_lenX (A6 rfl Ab))))) (ev_mulR (A6 rfl HI)))) h42 xt.gh fun v37 G38 H39 x40 r41=>?_
    have xt:=xt.trans x40
    have mk26:=mk26.trans x40.gg
    cases hm
    exact kn29 _ _ ⟨G38,v37,xt,mk26,rfl,r41⟩
   | false =>
    replace hm:=cF hm
    refine Bs ?_
    cases hm
    exact kn29 _ _ ⟨G21,v13,xt,mk26,rfl,r17⟩
  ·rintro _ H44 ⟨G43,v27,xt,mk26,rfl,r28⟩
   exact AW (K:=K) (DE (ev_mul (A6 rfl r28) (A6 rfl r28))) hm xt.gh fun v49 G50 H51 x52 r53=>q v49 G50 H51 (xt.trans x52) r53
seal eval in
theorem ok_law_sentence {f:Addr}{fd:FuncData}(F:Fun K "_law_sentence" "_law_sentence" CG f fd)(T:Txt w K mg)(D_law_pool:DefOk P w K mg base "_law_pool" 1 ["_law_lamps_here"] (spL K FF))(D_law_put:DefOk P w K mg base "_law_put" 1 ["_law_number","_law_pool_here"] (spM K Fc))(D_law_cell:DefOk P w K mg base "_law_cell" 1 ["_law_script","_law_k"] (spM K Cg)):FnOk P w K mg base CX0 2 f fd ["_law_script","_law_start","_law_many","_law_lamps_here","_law_most"] (spM K DD):=by
 refine F.ok sc_law_sentence (fun vs H Q E h=>(Ak h).trans rfl) (fun cdv A outer s H0 vs Q E hr h=>?_)
 obtain ⟨G0,⟨script_,⟨start_,⟨HA,⟨B3,⟨HG,⟨⟩⟩⟩⟩⟩⟩,res,sg0,⟨Bo,_,rfl,Ab,⟨v_start_,_,rfl,Eo,⟨Gw,_,rfl,Dm,⟨Bj,_,rfl,At,⟨v_most_,_,rfl,D4,rfl⟩⟩⟩⟩⟩,hm,q⟩:=h
 replace Ab:Rp.rel K G0 Bo script_:=Ab
 replace Eo:Rp.rel K G0 v_start_ start_:=Eo
 replace Dm:Rp.rel K G0 Gw HA:=Dm
 replace At:Rp.rel K G0 Bj B3:=At
 replace D4:Rp.rel K G0 v_most_ HG:=D4
 replace hm:CC script_ start_ HA B3 HG=some res:=hm
 unfold CC at hm
 have xt:Ext G0 H0 G0 H0:=Ext.refl sg0
 refine ⟨_,(A7 (Ad (i:=5) sc_law_sentence.nd rfl (Or.inl rfl) (AS D_law_pool hr (by decide) rfl (A5 (pv 3) A8)))
   (A7 (D6 PassesOwn.never rfl (GU rfl T.range_ (A5 (pv 2) A8)) (BD (i:=6) sc_law_sentence.nd rfl (Or.inl rfl)) (A7 (Ad (i:=7) sc_law_sentence.nd rfl (Or.inl rfl) (AS D_law_put hr (by decide) rfl (A5 (AS D_law_cell hr (by decide) rfl (A5 (pv 0) (A5 (Ao (B2 (K:=K) rfl) (pv 1) (pv 6)) A8))) (A5 (pv 5) A8))))
   (A7 (BE (PW.pt (pw_and (AU op_leU (AR (AF (K:=K) rfl) (pv 7) AA (fun _ _=>rfl)) AA (Aa _)) (pw_and1 (AU op_leU (AR (AF (K:=K) rfl) (pv 7) AA (fun _ _=>rfl)) (pv 4) (Aa _))))) (A7 (Da (Dj (K:=K) rfl PySem.F.plainAttrs_list PySem.F.slot_list_append PySem.F.type_list_append Cy (pv 5) (A5 (pv 7) A8)))
   A9) A9)
   A9)))
   (A7 (AN (AR (AF (K:=K) rfl) (AR (AF (K:=K) rfl) (pv 5) (pe_un un_neg AA) (fun _ _=>rfl)) AA (fun _ _=>rfl)))
   A9))),?_⟩
 refine bE hm fun pool_here_ h9 hm=>?_
 refine Gj (K:=K) (fv_def1 (m:=FF) (A6 rfl At)) h9 xt.gh fun p2 vs3 G4 H5 x6 hz7 o8=>?_
 have hz7:=xt.hh.free hz7
 have xt:=xt.trans x6
 have Ab:=Rp.mono x6.gg Ab
 have Eo:=Rp.mono x6.gg Eo
 have Dm:=Rp.mono x6.gg Dm
 have D4:=Rp.mono x6.gg D4
 refine bE hm fun as11 h12 hm=>?_
 refine bE hm fun fl13 h14 hm=>?_
 refine DI (K:=K) (RR:=fun r v G' H'=>Ext G0 H0 G' H'/\Rp.rel K G' v r) (iw_rng1 (A6 rfl Dm)) h12 h14 xt.gh fun G15 H16 x17=>⟨fun s18 S' G' H'=>∃ (v19:Option V) (v20:Option V),Ext G0 H0 G' H'/\Same G15 G'/\S'=[some Bo,some v_start_,some Gw,some Bj,some v_most_,some (V.ref p2),v19,v20]/\(∃ vs,Own K G' H' (V.ref p2) p2 vs s18),?_,?_,?_,?_,?_⟩
 ·have xt:=xt.trans x17
  have o8:=o8.ext x17
  exact ⟨_,_,xt,(Same.refl _),rfl,⟨_,o8⟩⟩
 ·rintro _ S' G' H' ⟨v19,v20,xt,mk21,rfl,⟨vs3,o8⟩⟩
  exact ⟨mk21,xt.gh⟩
 ·rintro xv22 a23 s18 _ G26 H27 fl24 - ⟨v19,v20,xt,mk21,rfl,⟨vs3,o8⟩⟩ rx25 hm D' kN28 kC29 kB30 kR31
  have Ab:=Rp.mono (x17.gg.trans mk21) Ab
  have Eo:=Rp.mono (x17.gg.trans mk21) Eo
  have D4:=Rp.mono (x17.gg.trans mk21) D4
  refine D0 ?_
  refine bE hm fun put_here_ h45 hm=>?_
  refine sv_setB (K:=K) o8 (Cd (m:=Fc) (Cd (m:=Cg) (A6 rfl (Rp.mono (Same.new o8.g) Ab)) (CO (A6 rfl (Rp.mono (Same.new o8.g) Eo)) (A6 rfl (Rp.mono (Same.new o8.g) rx25)))) (A6 rfl o8.tell)) h45 xt.gh fun v40 G41 H42 x43 r44=>?_
  have xt:=xt.trans x43
  have mk21:=mk21.trans x43.gg
  have D4:=Rp.mono x43.gg D4
  have o8:=o8.ext x43
  refine bE hm fun b46 h47 hm=>?_
  refine BJ (tv_andP (AT (K:=K) (EC (ev_p32 (A6 rfl r44)) Aj)) (AT (K:=K) (EC (ev_p33 (A6 rfl r44)) (A6 rfl D4)))) h47 xt.gh fun G48 H49 x50=>?_
  have xt:=xt.trans x50
  have mk21:=mk21.trans x50.gg
  have o8:=o8.ext x50
  have r44:=Rp.mono x50.gg r44
  cases b46 with
  | true =>
   replace hm:=cT hm
   refine Bw ?_
   refine bE hm fun a51 h52 hm=>?_
   refine bE hm fun z59 h53 hm=>?_
   refine FX (K:=K) rfl o8 (A6 rfl r44) h52 h53 xt.gh fun G54 H55 w56 x57 o58=>?_
   have xt:Ext G0 H0 G54 (upd H55 p2 (.lst (vs3++[w56]))):=(xt.trans x57).put hz7 o58.g
   have mk21:=mk21.trans x57.gg
   cases hm
   exact kN28 _ _ _ _ rfl ⟨_,_,xt,mk21,rfl,⟨_,o58⟩⟩
  | false =>
   replace hm:=cF hm
   refine Bs ?_
   cases hm
   exact kN28 _ _ _ _ rfl ⟨_,_,xt,mk21,rfl,⟨_,o8⟩⟩
 ·rintro s18 _ G63 H64 rfl ⟨v60,v61,xt,mk62,rfl,⟨vs3,o8⟩⟩
  refine ET ?_
  have sf:=Same.new (o:=.lst vs3) o8.g
  have xt:=xt.frz hz7 o8.g o8.h
  have r68:=o8.tell
  exact AW (K:=K) (ev_p31 (Dg (A6 rfl r68) (ev_neg Aj))) hm xt.gh fun v72 G73 H74 x75 r76=>q v72 G73 H74 (xt.trans x75) r76
 ·rintro r' v' G' H' rfl rl
  cases hm
  exact q v' G' H' rl.1 rl.2
theorem ok_parts_of {f:Addr}{fd:FuncData}(F:Fun K "parts_of" "parts_of" Ds f fd)(T:Txt w K mg):FnOk P w K mg base CX0 1 f fd ["sentence"] (spM K DP):=by
 refine F.ok sc_parts_of (fun vs H Q E h=>(Ak h).trans rfl) (fun cdv A outer s H0 vs Q E hr h=>?_)
 obtain ⟨G0,⟨Ah,⟨⟩⟩,res,sg0,⟨Cp,_,rfl,AZ,rfl⟩,hm,q⟩:=h
 replace AZ:Rp.rel K G0 Cp Ah:=AZ
 replace hm:AE Ah=some res:=hm
 unfold AE at hm
 have xt:Ext G0 H0 G0 H0:=Ext.refl sg0
 refine ⟨_,(A7 (BE (AU BZ (AR (AF (K:=K) rfl) (pv 0) AA (fun _ _=>rfl)) AM (Aa _)) (A7 (AN (Am A8))
   A9) A9)
   (A7 (AN (GJ (sl_tupK (K:=K) rfl) (pv 0) (Gy AA) Gs))
   A9)),?_⟩
 refine bE hm fun b9 h10 hm=>?_
 refine BJ (AT (K:=K) (Bb (CQ (B7 (B5 (A6 rfl AZ)) Aj)) B9)) h10 xt.gh fun G11 H12 x13=>?_
 have xt:=xt.trans x13
 have AZ:=Rp.mono x13.gg AZ
 cases b9 with
 | true =>
  replace hm:=cT hm
  refine Bw ?_
  exact AW (K:=K) (rest:=CI) (σ:=[some Cp]) (ev_tupL (Af (α:=Nt))) hm xt.gh fun v14 G15 H16 x17 r18=>q v14 G15 H16 (xt.trans x17) r18
 | false =>
  replace hm:=cF hm
  refine Bs ?_
  exact AW (K:=K) (ev_sliceT (B5 (A6 rfl AZ)) (ov_some (K:=K) Aj) ov_none) hm xt.gh fun v23 G24 H25 x26 r27=>q v23 G24 H25 (xt.trans x26) r27
theorem ok_row_number {f:Addr}{fd:FuncData}(F:Fun K "row_number" "row_number" Cz f fd)(T:Txt w K mg):FnOk P w K mg base CX0 1 f fd ["rows","numbers","row"] (spB K CF):=by
 refine F.ok sc_row_number (fun vs H Q E h=>(spB_len h).trans rfl) (fun cdv A outer s H0 vs Q E hr h=>?_)
 obtain ⟨G0,p,q,v,xs,rows,a,r,rfl,sg,o,rv,hm,k⟩:=h
 refine ⟨_,(A7 (BE (pt_cmp (pc_dnotin (Es hr) (pv 2) (pv 1))) (A7 (ps_dput (Es hr) (pv 1) (pv 2) (An (Az (K:=K) rfl) (by rfl) T.len_ Bu (A5 (pv 0) A8)) rfl)
   (A7 (Da (Dj (K:=K) rfl PySem.F.plainAttrs_list PySem.F.slot_list_append PySem.F.type_list_append Cy (pv 0) (A5 (pv 2) A8))) A9)) A9)
   (A7 (AN (pe_dget (Es hr) (pv 1) (pv 2) (fun _ _=>rfl))) A9)),?_⟩
 exact rown_body sg o rv hm k
theorem ok0_lay {f:Addr}{fd:FuncData}(F:Fun K "lay" "lay" s_lay f fd):FnOk P w K mg base CX0 2 f fd ["rows","numbers","sentence"] (spB K (BW AE 0)):=by
 refine F.ok sc_lay (fun vs H Q E h=>(spB_len h).trans rfl) (fun cdv A outer s H0 vs Q E hr h=>?_)
 obtain ⟨_,_,_,_,_,_,_,_,_,_,_,_,hm,_⟩:=h
 exact nomatch (hm:none=some _)
theorem ok_lay {f:Addr}{fd:FuncData}(F:Fun K "lay" "lay" s_lay f fd)(T:Txt w K mg)(D_parts_of:DefOk P w K mg base "parts_of" 1 ["sentence"] (spM K DP))(D_row_number:DefOk P w K mg base "row_number" 1 ["rows","numbers","row"] (spB K CF))(BV:Nat)(D_lay:DefOk P w K mg base "lay" (2+BV) ["rows","numbers","sentence"] (spB K (BW AE BV))):FnOk P w K mg base CX0 (2+BV+1) f fd ["rows","numbers","sentence"] (spB K (BW AE (BV+1))):=by
 refine F.ok sc_lay (fun vs H Q E h=>(spB_len h).trans rfl) (fun cdv A outer s H0 vs Q E hr h=>?_)
 obtain ⟨G0,p,q,v,xs,rows,a,r,rfl,sg,o,rv,hm,k⟩:=h
 refine ⟨_,(A7 (BE (AU BZ (AR (AF (K:=K) rfl) (pv 2) AA (fun _ _=>rfl)) AM (Aa _)) (A7 (AN (AS D_row_number hr (by omega) rfl (A5 (pv 0) (A5 (pv 1) (A5 (pv 2) A8))))) A9) A9)
   (A7 (Ad (i:=3) sc_lay.nd rfl (Or.inl rfl) (Am (A5 (AR (AF (K:=K) rfl) (pv 2) AA (fun _ _=>rfl)) A8)))
   (A7 (D6 PassesOwn.never rfl (BI (K:=K) rfl (AS D_parts_of hr (by omega) rfl (A5 (pv 2) A8))) (BD (i:=4) sc_lay.nd rfl (Or.inl rfl))
    (A7 (Ad (i:=3) sc_lay.nd rfl (Or.inl rfl) (Ao (op_catTp (K:=K) rfl) (pv 3) (Am (A5 (AS D_lay hr (by omega) rfl (A5 (pv 0) (A5 (pv 1) (A5 (pv 4) A8)))) A8)))) A9))
   (A7 (AN (AS D_row_number hr (by omega) rfl (A5 (pv 0) (A5 (pv 1) (A5 (pv 3) A8))))) A9)))),?_⟩
 exact lay_body (pm:=AE) (mp:=DP) (fun _=>rfl) sg o rv hm k
theorem ok_book_of {f:Addr}{fd:FuncData}(F:Fun K "book_of" "book_of" Ej f fd)(T:Txt w K mg)(D_lay:DefOk P w K mg base "lay" 162 ["rows","numbers","sentence"] (spB K (BW AE 160))):FnOk P w K mg base CX0 163 f fd ["some"] (spN K Fu):=by
 refine F.ok sc_book_of (fun vs H Q E h=>(spN_len h).trans rfl) (fun cdv A outer s H0 vs Q E hr h=>?_)
 obtain ⟨G0,⟨HY,⟨⟩⟩,r,sg,⟨v,_,rfl,rv,rfl⟩,hm,k⟩:=h
 refine ⟨_,(A7 (Ad (i:=1) sc_book_of.nd rfl (Or.inr rfl) (CL A8))
   (A7 (Ad (i:=2) sc_book_of.nd rfl (Or.inr rfl) pe_dnewT)
   (A7 (ps_setcomp (i:=3) sc_book_of.nd rfl (Or.inl rfl) (cn:=["rows","numbers"]) (cap:=[1,2]) rfl ⟨by decide +kernel,rfl,by decide +kernel,C4 rfl⟩ rfl (by decide +kernel) ⟨⟨rfl,.inl rfl,rfl⟩,⟨rfl,.inl rfl,rfl⟩,trivial⟩ (BI (K:=K) rfl (pv 0)) (fun C s0 H0 fp=>⟨EF,(AS D_lay hr (by decide) rfl (A5 (pv 1) (A5 (pv 2) (A5 (pv 0) A8))))⟩))
   (A7 (AN (Am (A5 (pv 1) (A5 (pv 3) A8)))) A9)))),?_⟩
 exact book_body sg rv hm k
theorem ok_is_moment {f:Addr}{fd:FuncData}(F:Fun K "is_moment" "is_moment" DU f fd)(T:Txt w K mg):FnOk P w K mg base CX0 1 f fd ["thing"] (spM K EY):=by
 refine F.ok sc_is_moment (fun vs H Q E h=>(Ak h).trans rfl) (fun cdv A outer s H0 vs Q E hr h=>?_)
 obtain ⟨G0,⟨thing_,⟨⟩⟩,res,sg0,⟨Bt,_,rfl,Al,rfl⟩,hm,q⟩:=h
 replace Al:Rp.rel K G0 Bt thing_:=Al
 replace hm:FE thing_=some res:=hm
 unfold FE at hm
 have xt:Ext G0 H0 G0 H0:=Ext.refl sg0
 refine ⟨_,(A7 (BE (pt_not (Dy (K:=K) rfl (An (call_instK (K:=K) rfl) (by rfl) T.isinstance_ FK (A5 (pv 0) (A5 (pe_bltn (v:=.ty "str") rfl T.str_ bt_str rfl) A8))) (fun _=>rfl))) (A7 (AN Ew)
   A9) A9)
   (A7 (Ad (i:=1) sc_is_moment.nd rfl (Or.inl rfl) AM)
   (A7 (D6 PassesOwn.never rfl (BI (K:=K) rfl (pv 0)) (BD (i:=2) sc_is_moment.nd rfl (Or.inl rfl)) (A7 (BE (PW.pt (GY (AU op_ltU (pv 2) AM (Aa _)) (GY (AU Fj (pv 2) AM (Aa _)) (HP (AU op_leU (pv 2) (pv 1) (Aa _)))))) (A7 (AN Ew)
   A9) A9)
   (A7 (Ad (i:=1) sc_is_moment.nd rfl (Or.inl rfl) (pv 2))
   A9)))
   (A7 (AN Ew)
   A9)))),?_⟩
 refine bE hm fun b1 h2 hm=>?_
 refine BJ (tv_not (tv_b (K:=K) (ev_inst (b:=true) (by decide +kernel) (A6 rfl Al)))) h2 xt.gh fun G3 H4 x5=>?_
 have xt:=xt.trans x5
 have Al:=Rp.mono x5.gg Al
 cases b1 with
 | true =>
  replace hm:=cT hm
  refine Bw ?_
  exact AW (K:=K) (rest:=CI) (σ:=[some Bt,none,none]) Ge hm xt.gh fun v6 G7 H8 x9 r10=>q v6 G7 H8 (xt.trans x9) r10
 | false =>
  replace hm:=cF hm
  refine Bs ?_
  refine bE hm fun last_ h16 hm=>?_
  refine Av (K:=K) B9 h16 xt.gh fun v11 G12 H13 x14 r15=>?_
  have xt:=xt.trans x14
  have Al:=Rp.mono x14.gg Al
  refine bE hm fun as17 h18 hm=>?_
  refine bE hm fun fl19 h20 hm=>?_
  refine DI (K:=K) (RR:=fun r v G' H'=>Ext G0 H0 G' H'/\Rp.rel K G' v r) (iw_str (A6 rfl Al)) h18 h20 xt.gh fun G21 H22 x23=>⟨fun s24 S' G' H'=>∃ (v25:V) (v26:Option V),Ext G0 H0 G' H'/\Same G21 G'/\S'=[some Bt,some v25,v26]/\Rp.rel K G' v25 (s24:Str),?_,?_,?_,?_,?_⟩
  ·have xt:=xt.trans x23
   have r15:=Rp.mono x23.gg r15
   exact ⟨v11,_,xt,(Same.refl _),rfl,r15⟩
  ·rintro _ S' G' H' ⟨v25,v26,xt,mk27,rfl,r28⟩
   exact ⟨mk27,xt.gh⟩
  ·rintro xv29 a30 s24 _ G33 H34 fl31 - ⟨v25,v26,xt,mk27,rfl,r28⟩ rx32 hm D' kN35 kC36 kB37 kR38
   refine D0 ?_
   refine bE hm fun b39 h40 hm=>?_
   refine BJ (tv_orP (AT (K:=K) (ev_ordS (A6 rfl rx32) B9)) (tv_orP (AT (K:=K) (ev_ordS (A6 rfl rx32) B9)) (AT (K:=K) (ev_ordS (A6 rfl rx32) (A6 rfl r28))))) h40 xt.gh fun G41 H42 x43=>?_
   have xt:=xt.trans x43
   have mk27:=mk27.trans x43.gg
   have rx32:=Rp.mono x43.gg rx32
   cases b39 with
   | true =>
    replace hm:=cT hm
    refine Bw ?_
    refine bE hm fun rr49 h50 hm=>?_
    cases hm
    exact AW (K:=K) (rest:=CI) (σ:=[some Bt,some v25,some xv29]) Ge h50 xt.gh fun v44 G45 H46 x47 r48=>kR38 _ v44 G45 H46 rfl ⟨xt.trans x47,r48⟩
   | false =>
    replace hm:=cF hm
    refine Bs ?_
    refine bE hm fun last_ h56 hm=>?_
    refine Av (K:=K) (A6 rfl rx32) h56 xt.gh fun v51 G52 H53 x54 r55=>?_
    have xt:=xt.trans x54
    have mk27:=mk27.trans x54.gg
    cases hm
    exact kN35 _ _ _ _ rfl ⟨v51,_,xt,mk27,rfl,r55⟩
  ·rintro s24 _ G61 H62 rfl ⟨v57,v58,xt,mk59,rfl,r60⟩
   refine ET ?_
   exact AW (K:=K) (rest:=CI) (σ:=[some Bt,some v57,v58]) Ge hm xt.gh fun v63 G64 H65 x66 r67=>q v63 G64 H65 (xt.trans x66) r67
  ·rintro r' v' G' H' rfl rl
   cases hm
   exact q v' G' H' rl.1 rl.2
theorem ok_is_lamp {f:Addr}{fd:FuncData}(F:Fun K "is_lamp" "is_lamp" Ei f fd)(T:Txt w K mg)(D_is_moment:DefOk P w K mg base "is_moment" 1 ["thing"] (spM K EY)):FnOk P w K mg base CX0 2 f fd ["thing"] (spM K Fo):=by
 refine F.ok sc_is_lamp (fun vs H Q E h=>(Ak h).trans rfl) (fun cdv A outer s H0 vs Q E hr h=>?_)
 obtain ⟨G0,⟨thing_,⟨⟩⟩,res,sg0,⟨Bt,_,rfl,Al,rfl⟩,hm,q⟩:=h
 replace Al:Rp.rel K G0 Bt thing_:=Al
 replace hm:FU thing_=some res:=hm
 unfold FU at hm
 have xt:Ext G0 H0 G0 H0:=Ext.refl sg0
 refine ⟨_,(A7 (AN (pe_and (AS D_is_moment hr (by decide) rfl (A5 (pv 0) A8)) (Gk (GM BZ (An (Az (K:=K) rfl) (by rfl) T.len_ Bu (A5 (pv 0) A8)) AA (Aa _)))))
   A9),?_⟩
 exact AW (K:=K) (ev_and (Ag (m:=EY) (A6 rfl Al)) (GC (ev_lenS (A6 rfl Al)) Aj)) hm xt.gh fun v3 G4 H5 x6 r7=>q v3 G4 H5 (xt.trans x6) r7
theorem ok_has_form {f:Addr}{fd:FuncData}(F:Fun K "has_form" "has_form" E5 f fd)(T:Txt w K mg)(D_is_lamp:DefOk P w K mg base "is_lamp" 2 ["thing"] (spM K Fo)):FnOk P w K mg base CX0 3 f fd ["thing"] (spM K FC):=by
 refine F.ok sc_has_form (fun vs H Q E h=>(Ak h).trans rfl) (fun cdv A outer s H0 vs Q E hr h=>?_)
 obtain ⟨G0,⟨thing_,⟨⟩⟩,res,sg0,⟨Bt,_,rfl,Al,rfl⟩,hm,q⟩:=h
 replace Al:Rp.rel K G0 Bt thing_:=Al
 replace hm:EB thing_=some res:=hm
 unfold EB at hm
 obtain ⟨a_PARTS,e_PARTS,q_PARTS⟩:=T.PARTS
 have xt:Ext G0 H0 G0 H0:=Ext.refl sg0
 refine ⟨_,(A7 (BE (PW.pt (GY (pt_not (Dy (K:=K) rfl (An (call_instK (K:=K) rfl) (by rfl) T.isinstance_ FK (A5 (pv 0) (A5 (pe_bltn (v:=.ty "tuple") rfl T.tuple_ bt_tuple rfl) A8))) (fun _=>rfl))) (GY (AU BZ (An (Az (K:=K) rfl) (by rfl) T.len_ Bu (A5 (pv 0) A8)) AA (Aa _)) (HP (pt_not (Dy (K:=K) rfl (An (call_instK (K:=K) rfl) (by rfl) T.isinstance_ FK (A5 (AR (AF (K:=K) rfl) (pv 0) AA (fun _ _=>rfl)) (A5 (pe_bltn (v:=.ty "str") rfl T.str_ bt_str rfl) A8))) (fun _=>rfl))))))) (A7 (AN Ew)
   A9) A9)
   (A7 (BE (AU BZ (AR (AF (K:=K) rfl) (pv 0) AA (fun _ _=>rfl)) AM (Aa _)) (A7 (AN (pe_and (GM BZ (An (Az (K:=K) rfl) (by rfl) T.len_ Bu (A5 (pv 0) A8)) AA (Aa _)) (Gk (AS D_is_lamp hr (by decide) rfl (A5 (AR (AF (K:=K) rfl) (pv 0) AA (fun _ _=>rfl)) A8)))))
   A9) A9)
   (A7 (AN (pe_and (pe_inC rfl rfl q_PARTS (AR (AF (K:=K) rfl) (pv 0) AA (fun _ _=>rfl)) (Dk rfl e_PARTS) rfl) (Gk (GM BZ (An (Az (K:=K) rfl) (by rfl) T.len_ Bu (A5 (pv 0) A8)) (Ao (B2 (K:=K) rfl) AA (pe_getC rfl rfl q_PARTS (Dk rfl e_PARTS) (AR (AF (K:=K) rfl) (pv 0) AA (fun _ _=>rfl)) (fun _ _=>rfl))) (Aa _)))))
   A9))),?_⟩
 refine bE hm fun b15 h16 hm=>?_
 refine BJ (HX (tv_not (tv_b (K:=K) (ev_instD (by decide) (ev_toD (A6 rfl Al))))) (HX (AT (K:=K) (GC (ev_lenT (B5 (A6 rfl Al))) Aj)) (tv_not (tv_b (K:=K) (ev_instD (by decide) (ev_toD (B7 (B5 (A6 rfl Al)) Aj))))))) h16 xt.gh fun G17 H18 x19=>?_
 have xt:=xt.trans x19
 have Al:=Rp.mono x19.gg Al
 cases b15 with
 | true =>
  replace hm:=cT hm
  refine Bw ?_
  exact AW (K:=K) (rest:=CI) (σ:=[some Bt]) Ge hm xt.gh fun v20 G21 H22 x23 r24=>q v20 G21 H22 (xt.trans x23) r24
 | false =>
  replace hm:=cF hm
  refine Bs ?_
  refine bE hm fun b33 h34 hm=>?_
  refine BJ (AT (K:=K) (Bb (CQ (B7 (B5 (A6 rfl Al)) Aj)) B9)) h34 xt.gh fun G35 H36 x37=>?_
  have xt:=xt.trans x37
  have Al:=Rp.mono x37.gg Al
  cases b33 with
  | true =>
   replace hm:=cT hm
   refine Bw ?_
   exact AW (K:=K) (ev_and (GC (ev_lenT (B5 (A6 rfl Al))) Aj) (Ag (m:=Fo) (CQ (B7 (B5 (A6 rfl Al)) Aj)))) hm xt.gh fun v47 G48 H49 x50 r51=>q v47 G48 H49 (xt.trans x50) r51
  | false =>
   replace hm:=cF hm
   refine Bs ?_
   exact AW (K:=K) (ev_and (ev_inC (CQ (B7 (B5 (A6 rfl Al)) Aj))) (GC (ev_lenT (B5 (A6 rfl Al))) (CO Aj (ev_getC (CQ (B7 (B5 (A6 rfl Al)) Aj)))))) hm xt.gh fun v74 G75 H76 x77 r78=>q v74 G75 H76 (xt.trans x77) r78
theorem ok_is_sentence {f:Addr}{fd:FuncData}(F:Fun K "is_sentence" "is_sentence" CU f fd)(T:Txt w K mg)(D_parts_of:DefOk P w K mg base "parts_of" 1 ["sentence"] (spM K DP))(D_has_form:DefOk P w K mg base "has_form" 3 ["thing"] (spM K FC)):FnOk P w K mg base CX0 4 f fd ["thing"] (spM K Dc):=by
 refine F.ok sc_is_sentence (fun vs H Q E h=>(Ak h).trans rfl) (fun cdv A outer s H0 vs Q E hr h=>?_)
 obtain ⟨G0,⟨thing_,⟨⟩⟩,res,sg0,⟨Bt,_,rfl,Al,rfl⟩,hm,q⟩:=h
 replace Al:Rp.rel K G0 Bt thing_:=Al
 replace hm:CS thing_=some res:=hm
 unfold CS at hm
 have xt:Ext G0 H0 G0 H0:=Ext.refl sg0
 refine ⟨_,(A7 (Ad (i:=1) sc_is_sentence.nd rfl (Or.inl rfl) (CL (A5 (pv 0) A8)))
   (A7 (Ad (i:=2) sc_is_sentence.nd rfl (Or.inl rfl) AA)
   (A7 (ps_while PassesOwn.never (AU op_ltU (pv 2) (An (Az (K:=K) rfl) (by rfl) T.len_ Bu (A5 (pv 1) A8)) (Aa _)) (A7 (BE (PW.pt (GY (AU Fj (An (Az (K:=K) rfl) (by rfl) T.len_ Bu (A5 (pv 1) A8)) (pe_globI rfl T.MOST_WORDS) (Aa _)) (HP (pt_not (Dy (K:=K) rfl (AS D_has_form hr (by decide) rfl (A5 (AR (AF (K:=K) rfl) (pv 1) (pv 2) (fun _ _=>rfl)) A8)) (fun _=>rfl)))))) (A7 (AN Ew)
   A9) A9)
   (A7 (Da (Dj (K:=K) rfl PySem.F.plainAttrs_list PySem.F.slot_list_extend PySem.F.type_list_extend (mt_extendT (K:=K) rfl) (pv 1) (A5 (AS D_parts_of hr (by decide) rfl (A5 (AR (AF (K:=K) rfl) (pv 1) (pv 2) (fun _ _=>rfl)) A8)) A8)))
   (A7 (Ad (i:=2) sc_is_sentence.nd rfl (Or.inl rfl) (Ao (B2 (K:=K) rfl) (pv 2) AA))
   A9))))
   (A7 (AN Ew)
   A9)))),?_⟩
 refine bE hm fun Cn h8 hm=>?_
 refine Gj (K:=K) (CZ (AC (A6 rfl Al) (Af (α:=Nt)))) h8 xt.gh fun p1 vs2 G3 H4 x5 hz6 o7=>?_
 have hz6:=xt.hh.free hz6
 have xt:=xt.trans x5
 refine bE hm fun place_ h14 hm=>?_
 refine Av (K:=K) Aj h14 xt.gh fun v9 G10 H11 x12 r13=>?_
 have xt:=xt.trans x12
 have o7:=o7.ext x12
 refine bE hm fun fl15 h16 hm=>?_
 refine sv_while (K:=K) (G:=G10) (RR:=fun r v G' H'=>Ext G0 H0 G' H'/\Rp.rel K G' v r) h16 (fun s17 S' G' H'=>∃ (v18:V),Ext G0 H0 G' H'/\Same G10 G'/\S'=[some Bt,some (V.ref p1),some v18]/\(∃ vs,Own K G' H' (V.ref p1) p1 vs s17.1)/\Rp.rel K G' v18 (s17.2:Int)) ⟨?_,?_,?_,?_,?_,?_⟩
 ·exact ⟨v9,xt,(Same.refl _),rfl,⟨_,o7⟩,r13⟩
 ·rintro _ S' G' H' ⟨v18,xt,mk19,rfl,⟨vs2,o7⟩,r20⟩
  exact xt.gh
 ·rintro s17 _ G21 H22 b' ⟨v18,xt,mk19,rfl,⟨vs2,o7⟩,r20⟩ hc Q' k'
  refine TV.runB o7 (AT (K:=K) (EC (A6 rfl (Rp.mono (Same.new o7.g) r20)) (EA (A6 rfl o7.tell)))) hc xt.gh fun G23 H24 x25=>?_
  have xt:=xt.trans x25
  have mk19:=mk19.trans x25.gg
  have o7:=o7.ext x25
  have r20:=Rp.mono x25.gg r20
  exact k' _ _ ⟨v18,xt,mk19,rfl,⟨_,o7⟩,r20⟩
 ·rintro s17 _ G27 H28 fl26 ⟨v18,xt,mk19,rfl,⟨vs2,o7⟩,r20⟩ hm - D' kN29 kC30 kB31 kR32
  refine bE hm fun b43 h44 hm=>?_
  refine sv_ifB o7 (HX (AT (K:=K) (EC (EA (A6 rfl o7.tell)) Aj)) (tv_not (tv_b (K:=K) (Ag (m:=FC) (Dg (A6 rfl o7.tell) (A6 rfl (Rp.mono (Same.new o7.g) r20))))))) h44 xt.gh fun G45 H46 x47=>?_
  have xt:=xt.trans x47
  have mk19:=mk19.trans x47.gg
  have o7:=o7.ext x47
  have r20:=Rp.mono x47.gg r20
  cases b43 with
  | true =>
   replace hm:=cT hm
   refine Bw ?_
   refine bE hm fun rr53 h54 hm=>?_
   cases hm
   exact AW (K:=K) (rest:=CI) (σ:=[some Bt,some (V.ref p1),some v18]) Ge h54 xt.gh fun v48 G49 H50 x51 r52=>kR32 _ v48 G49 H50 rfl ⟨xt.trans x51,r52⟩
  | false =>
   replace hm:=cF hm
   refine Bs ?_
   refine bE hm fun a61 h62 hm=>?_
   refine bE hm fun z69 h63 hm=>?_
   refine sv_extendTB (K:=K) rfl o7 (Ag (m:=DP) (Dg (A6 rfl o7.tell) (A6 rfl (Rp.mono (Same.new o7.g) r20)))) h62 h63 xt.gh fun G64 H65 w66 x67 o68=>?_
   have xt:Ext G0 H0 G64 (upd H65 p1 (.lst (vs2++w66))):=(xt.trans x67).put hz6 o68.g
   have mk19:=mk19.trans x67.gg
   have r20:=Rp.mono x67.gg r20
   refine bE hm fun place_ h75 hm=>?_
   refine Av (K:=K) (CO (A6 rfl r20) Aj) h75 xt.gh fun v70 G71 H72 x73 r74=>?_
   have xt:=xt.trans x73
   have mk19:=mk19.trans x73.gg
   have o68:=o68.ext x73
   cases hm
   exact kN29 _ _ _ _ rfl ⟨v70,xt,mk19,rfl,⟨_,o68⟩,r74⟩
 ·rintro s17 _ G79 H80 rfl ⟨v76,xt,mk77,rfl,⟨vs2,o7⟩,r78⟩
  refine ET ?_
  exact AW (K:=K) (rest:=CI) (σ:=[some Bt,some (V.ref p1),some v76]) Ge hm xt.gh fun v81 G82 H83 x84 r85=>q v81 G82 H83 (xt.trans x84) r85
 ·rintro r' v' G' H' rfl rl
  cases hm
  exact q v' G' H' rl.1 rl.2
theorem ok_denied {f:Addr}{fd:FuncData}(F:Fun K "denied" "denied" FZ f fd)(T:Txt w K mg):FnOk P w K mg base CX0 1 f fd ["plain"] (spM K C1):=by
 refine F.ok sc_denied (fun vs H Q E h=>(Ak h).trans rfl) (fun cdv A outer s H0 vs Q E hr h=>?_)
 obtain ⟨G0,⟨HS,⟨⟩⟩,res,sg0,⟨v_plain_,_,rfl,En,rfl⟩,hm,q⟩:=h
 replace En:Rp.rel K G0 v_plain_ HS:=En
 replace hm:Bg HS=some res:=hm
 unfold Bg at hm
 have xt:Ext G0 H0 G0 H0:=Ext.refl sg0
 refine ⟨_,(A7 (BE (AU BZ (AR (AF (K:=K) rfl) (pv 0) AA (fun _ _=>rfl)) AM (Aa _)) (A7 (AN (AR (AF (K:=K) rfl) (pv 0) AA (fun _ _=>rfl)))
   A9) A9)
   (A7 (AN (Am (A5 AM (A5 (pv 0) A8))))
   A9)),?_⟩
 refine bE hm fun b9 h10 hm=>?_
 refine BJ (AT (K:=K) (Bb (CQ (B7 (B5 (A6 rfl En)) Aj)) B9)) h10 xt.gh fun G11 H12 x13=>?_
 have xt:=xt.trans x13
 have En:=Rp.mono x13.gg En
 cases b9 with
 | true =>
  replace hm:=cT hm
  refine Bw ?_
  exact AW (K:=K) (B7 (B5 (A6 rfl En)) Aj) hm xt.gh fun v17 G18 H19 x20 r21=>q v17 G18 H19 (xt.trans x20) r21
 | false =>
  replace hm:=cF hm
  refine Bs ?_
  exact AW (K:=K) (B1 (AC (BB B9) (AC (A6 rfl En) (Af (α:=Nt))))) hm xt.gh fun v22 G23 H24 x25 r26=>q v22 G23 H24 (xt.trans x25) r26
theorem ok_plain_with_two {f:Addr}{fd:FuncData}(F:Fun K "plain_with_two" "plain_with_two" Bm f fd)(T:Txt w K mg)(D_denied:DefOk P w K mg base "denied" 1 ["plain"] (spM K C1)):FnOk P w K mg base CX0 2 f fd ["word","left","right"] (spM K Cb):=by
 refine F.ok sc_plain_with_two (fun vs H Q E h=>(Ak h).trans rfl) (fun cdv A outer s H0 vs Q E hr h=>?_)
 obtain ⟨G0,⟨Bz,⟨Er,⟨Gg,⟨⟩⟩⟩⟩,res,sg0,⟨v_word_,_,rfl,B8,⟨v_left_,_,rfl,DH,⟨v_right_,_,rfl,CP,rfl⟩⟩⟩,hm,q⟩:=h
 replace B8:Rp.rel K G0 v_word_ Bz:=B8
 replace DH:Rp.rel K G0 v_left_ Er:=DH
 replace CP:Rp.rel K G0 v_right_ Gg:=CP
 replace hm:Bl Bz Er Gg=some res:=hm
 unfold Bl at hm
 have xt:Ext G0 H0 G0 H0:=Ext.refl sg0
 refine ⟨_,(A7 (BE (AU BZ (pv 0) AM (Aa _)) (A7 (AN (Am (A5 AM (A5 (Am (A5 AM (A5 (AS D_denied hr (by decide) rfl (A5 (pv 1) A8)) (A5 (AS D_denied hr (by decide) rfl (A5 (pv 2) A8)) A8)))) A8))))
   A9) A9)
   (A7 (BE (AU BZ (pv 0) AM (Aa _)) (A7 (AN (Am (A5 AM (A5 (Am (A5 AM (A5 (pv 1) (A5 (AS D_denied hr (by decide) rfl (A5 (pv 2) A8)) A8)))) A8))))
   A9) A9)
   (A7 (BE (AU BZ (pv 0) AM (Aa _)) (A7 (AN (Am (A5 AM (A5 (Am (A5 AM (A5 (AS D_denied hr (by decide) rfl (A5 (pv 1) A8)) (A5 (AS D_denied hr (by decide) rfl (A5 (pv 2) A8)) A8)))) A8))))
   A9) A9)
   (A7 (AN (Am (A5 (pv 0) (A5 (pv 1) (A5 (pv 2) A8)))))
   A9)))),?_⟩
 refine bE hm fun b1 h2 hm=>?_
 refine BJ (AT (K:=K) (Bb (A6 rfl B8) B9)) h2 xt.gh fun G3 H4 x5=>?_
 have xt:=xt.trans x5
 have B8:=Rp.mono x5.gg B8
 have DH:=Rp.mono x5.gg DH
 have CP:=Rp.mono x5.gg CP
 cases b1 with
 | true =>
  replace hm:=cT hm
  refine Bw ?_
  exact AW (K:=K) (B1 (AC (BB B9) (AC (B1 (AC (BB B9) (AC (Ag (m:=C1) (A6 rfl DH)) (AC (Ag (m:=C1) (A6 rfl CP)) (Af (α:=Nt)))))) (Af (α:=Nt))))) hm xt.gh fun v16 G17 H18 x19 r20=>q v16 G17 H18 (xt.trans x19) r20
 | false =>
  replace hm:=cF hm
  refine Bs ?_
  refine bE hm fun b21 h22 hm=>?_
  refine BJ (AT (K:=K) (Bb (A6 rfl B8) B9)) h22 xt.gh fun G23 H24 x25=>?_
  have xt:=xt.trans x25
  have B8:=Rp.mono x25.gg B8
  have DH:=Rp.mono x25.gg DH
  have CP:=Rp.mono x25.gg CP
  cases b21 with
  | true =>
   replace hm:=cT hm
   refine Bw ?_
   exact AW (K:=K) (B1 (AC (BB B9) (AC (B1 (AC (BB B9) (AC (A6 rfl DH) (AC (Ag (m:=C1) (A6 rfl CP)) (Af (α:=Nt)))))) (Af (α:=Nt))))) hm xt.gh fun v34 G35 H36 x37 r38=>q v34 G35 H36 (xt.trans x37) r38
  | false =>
   replace hm:=cF hm
   refine Bs ?_
   refine bE hm fun b39 h40 hm=>?_
   refine BJ (AT (K:=K) (Bb (A6 rfl B8) B9)) h40 xt.gh fun G41 H42 x43=>?_
   have xt:=xt.trans x43
   have B8:=Rp.mono x43.gg B8
   have DH:=Rp.mono x43.gg DH
   have CP:=Rp.mono x43.gg CP
   cases b39 with
   | true =>
    replace hm:=cT hm
    refine Bw ?_
    exact AW (K:=K) (B1 (AC (BB B9) (AC (B1 (AC (BB B9) (AC (Ag (m:=C1) (A6 rfl DH)) (AC (Ag (m:=C1) (A6 rfl CP)) (Af (α:=Nt)))))) (Af (α:=Nt))))) hm xt.gh fun v54 G55 H56 x57 r58=>q v54 G55 H56 (xt.trans x57) r58
   | false =>
    replace hm:=cF hm
    refine Bs ?_
    exact AW (K:=K) (B1 (AC (BB (A6 rfl B8)) (AC (A6 rfl DH) (AC (A6 rfl CP) (Af (α:=Nt)))))) hm xt.gh fun v59 G60 H61 x62 r63=>q v59 G60 H61 (xt.trans x62) r63
theorem ok_plain_with_one {f:Addr}{fd:FuncData}(F:Fun K "plain_with_one" "plain_with_one" Bn f fd)(T:Txt w K mg)(D_denied:DefOk P w K mg base "denied" 1 ["plain"] (spM K C1)):FnOk P w K mg base CX0 2 f fd ["word","inner"] (spM K Ce):=by
 refine F.ok sc_plain_with_one (fun vs H Q E h=>(Ak h).trans rfl) (fun cdv A outer s H0 vs Q E hr h=>?_)
 obtain ⟨G0,⟨Bz,⟨Ff,⟨⟩⟩⟩,res,sg0,⟨v_word_,_,rfl,B8,⟨v_inner_,_,rfl,BO,rfl⟩⟩,hm,q⟩:=h
 replace B8:Rp.rel K G0 v_word_ Bz:=B8
 replace BO:Rp.rel K G0 v_inner_ Ff:=BO
 replace hm:Bp Bz Ff=some res:=hm
 unfold Bp at hm
 obtain ⟨a_YES,e_YES,q_YES⟩:=T.YES
 have xt:Ext G0 H0 G0 H0:=Ext.refl sg0
 refine ⟨_,(A7 (BE (AU BZ (pv 0) AM (Aa _)) (A7 (AN (AS D_denied hr (by decide) rfl (A5 (pv 1) A8)))
   A9) A9)
   (A7 (BE (AU BZ (pv 0) AM (Aa _)) (A7 (AN (Am (A5 AM (A5 (pv 1) A8))))
   A9) A9)
   (A7 (BE (AU BZ (pv 0) AM (Aa _)) (A7 (AN (Am (A5 AM (A5 (Dk rfl e_YES) (A5 (pv 1) A8)))))
   A9) A9)
   (A7 (BE (AU BZ (pv 0) AM (Aa _)) (A7 (AN (Am (A5 AM (A5 (Am (A5 AM (A5 (Dk rfl e_YES) (A5 (AS D_denied hr (by decide) rfl (A5 (pv 1) A8)) A8)))) A8))))
   A9) A9)
   (A7 (BE (AU BZ (pv 0) AM (Aa _)) (A7 (AN (Am (A5 AM (A5 (Am (A5 AM (A5 (Dk rfl e_YES) (A5 (Am (A5 AM (A5 (Am (A5 AM (A5 (Dk rfl e_YES) (A5 (pv 1) A8)))) A8))) A8)))) A8))))
   A9) A9)
   (A7 (AN (Am (A5 AM (A5 (Dk rfl e_YES) (A5 (Am (A5 AM (A5 (Am (A5 AM (A5 (Dk rfl e_YES) (A5 (AS D_denied hr (by decide) rfl (A5 (pv 1) A8)) A8)))) A8))) A8)))))
   A9)))))),?_⟩
 refine bE hm fun b1 h2 hm=>?_
 refine BJ (AT (K:=K) (Bb (A6 rfl B8) B9)) h2 xt.gh fun G3 H4 x5=>?_
 have xt:=xt.trans x5
 have B8:=Rp.mono x5.gg B8
 have BO:=Rp.mono x5.gg BO
 cases b1 with
 | true =>
  replace hm:=cT hm
  refine Bw ?_
  exact AW (K:=K) (Ag (m:=C1) (A6 rfl BO)) hm xt.gh fun v7 G8 H9 x10 r11=>q v7 G8 H9 (xt.trans x10) r11
 | false =>
  replace hm:=cF hm
  refine Bs ?_
  refine bE hm fun b12 h13 hm=>?_
  refine BJ (AT (K:=K) (Bb (A6 rfl B8) B9)) h13 xt.gh fun G14 H15 x16=>?_
  have xt:=xt.trans x16
  have B8:=Rp.mono x16.gg B8
  have BO:=Rp.mono x16.gg BO
  cases b12 with
  | true =>
   replace hm:=cT hm
   refine Bw ?_
   exact AW (K:=K) (B1 (AC (BB B9) (AC (A6 rfl BO) (Af (α:=Nt))))) hm xt.gh fun v17 G18 H19 x20 r21=>q v17 G18 H19 (xt.trans x20) r21
  | false =>
   replace hm:=cF hm
   refine Bs ?_
   refine bE hm fun b22 h23 hm=>?_
   refine BJ (AT (K:=K) (Bb (A6 rfl B8) B9)) h23 xt.gh fun G24 H25 x26=>?_
   have xt:=xt.trans x26
   have B8:=Rp.mono x26.gg B8
   have BO:=Rp.mono x26.gg BO
   cases b22 with
   | true =>
    replace hm:=cT hm
    refine Bw ?_
    exact AW (K:=K) (B1 (AC (BB B9) (AC (Hk q_YES) (AC (A6 rfl BO) (Af (α:=Nt)))))) hm xt.gh fun v27 G28 H29 x30 r31=>q v27 G28 H29 (xt.trans x30) r31
   | false =>
    replace hm:=cF hm
    refine Bs ?_
    refine bE hm fun b32 h33 hm=>?_
    refine BJ (AT (K:=K) (Bb (A6 rfl B8) B9)) h33 xt.gh fun G34 H35 x36=>?_
    have xt:=xt.trans x36
    have B8:=Rp.mono x36.gg B8
    have BO:=Rp.mono x36.gg BO
    cases b32 with
    | true =>
     replace hm:=cT hm
     refine Bw ?_
     exact AW (K:=K) (B1 (AC (BB B9) (AC (B1 (AC (BB B9) (AC (Hk q_YES) (AC (Ag (m:=C1) (A6 rfl BO)) (Af (α:=Nt)))))) (Af (α:=Nt))))) hm xt.gh fun v45 G46 H47 x48 r49=>q v45 G46 H47 (xt.trans x48) r49
    | false =>
     replace hm:=cF hm
     refine Bs ?_
     refine bE hm fun b50 h51 hm=>?_
     refine BJ (AT (K:=K) (Bb (A6 rfl B8) B9)) h51 xt.gh fun G52 H53 x54=>?_
     have xt:=xt.trans x54
     have BO:=Rp.mono x54.gg BO
     cases b50 with
     | true =>
      replace hm:=cT hm
      refine Bw ?_
      exact AW (K:=K) (B1 (AC (BB B9) (AC (B1 (AC (BB B9) (AC (Hk q_YES) (AC (B1 (AC (BB B9) (AC (B1 (AC (BB B9) (AC (Hk q_YES) (AC (A6 rfl BO) (Af (α:=Nt)))))) (Af (α:=Nt))))) (Af (α:=Nt)))))) (Af (α:=Nt))))) hm xt.gh fun v55 G56 H57 x58 r59=>q v55 G56 H57 (xt.trans x58) r59
     | false =>
      replace hm:=cF hm
      refine Bs ?_
      exact AW (K:=K) (B1 (AC (BB B9) (AC (Hk q_YES) (AC (B1 (AC (BB B9) (AC (B1 (AC (BB B9) (AC (Hk q_YES) (AC (Ag (m:=C1) (A6 rfl BO)) (Af (α:=Nt)))))) (Af (α:=Nt))))) (Af (α:=Nt)))))) hm xt.gh fun v72 G73 H74 x75 r76=>q v72 G73 H74 (xt.trans x75) r76
theorem ok0_plain {f:Addr}{fd:FuncData}(F:Fun K "plain" "plain" Fh f fd):FnOk P w K mg base CX0 3 f fd ["sentence"] (spM K (D9 0)):=by
 refine F.ok sc_plain (fun vs H Q E h=>(Ak h).trans rfl) (fun cdv A outer s H0 vs Q E hr h=>?_)
 obtain ⟨_,_,_,_,_,hm,_⟩:=h
 exact nomatch (hm:none=some _)
theorem ok_plain {f:Addr}{fd:FuncData}(F:Fun K "plain" "plain" Fh f fd)(T:Txt w K mg)(D_plain_with_two:DefOk P w K mg base "plain_with_two" 2 ["word","left","right"] (spM K Cb))(D_plain_with_one:DefOk P w K mg base "plain_with_one" 2 ["word","inner"] (spM K Ce))(BV:Nat)(D_plain:DefOk P w K mg base "plain" (3+BV) ["sentence"] (spM K (D9 BV))):FnOk P w K mg base CX0 (3+BV+1) f fd ["sentence"] (spM K (D9 (BV+1))):=by
 refine F.ok sc_plain (fun vs H Q E h=>(Ak h).trans rfl) (fun cdv A outer s H0 vs Q E hr h=>?_)
 obtain ⟨G0,⟨Ah,⟨⟩⟩,res,sg0,⟨Cp,_,rfl,AZ,rfl⟩,hm,q⟩:=h
 replace AZ:Rp.rel K G0 Cp Ah:=AZ
 replace hm:Dz (FJ BV) Ah=some res:=hm
 unfold Dz at hm
 obtain ⟨a_YES,e_YES,q_YES⟩:=T.YES
 have xt:Ext G0 H0 G0 H0:=Ext.refl sg0
 refine ⟨_,(A7 (Ad (i:=1) sc_plain.nd rfl (Or.inl rfl) (AR (AF (K:=K) rfl) (pv 0) AA (fun _ _=>rfl)))
   (A7 (BE (AU BZ (pv 1) AM (Aa _)) (A7 (AN (Am (A5 AM (A5 (Dk rfl e_YES) A8))))
   A9) A9)
   (A7 (BE (PW.pt (GY (AU BZ (pv 1) AM (Aa _)) (HP (AU BZ (pv 1) AM (Aa _))))) (A7 (AN (pv 0))
   A9) A9)
   (A7 (BE (AU BZ (An (Az (K:=K) rfl) (by rfl) T.len_ Bu (A5 (pv 0) A8)) AA (Aa _)) (A7 (AN (AS D_plain_with_one hr (by omega) rfl (A5 (pv 1) (A5 (AS D_plain hr (by omega) rfl (A5 (AR (AF (K:=K) rfl) (pv 0) AA (fun _ _=>rfl)) A8)) A8))))
   A9) A9)
   (A7 (AN (AS D_plain_with_two hr (by omega) rfl (A5 (pv 1) (A5 (AS D_plain hr (by omega) rfl (A5 (AR (AF (K:=K) rfl) (pv 0) AA (fun _ _=>rfl)) A8)) (A5 (AS D_plain hr (by omega) rfl (A5 (AR (AF (K:=K) rfl) (pv 0) AA (fun _ _=>rfl)) A8)) A8)))))
   A9))))),?_⟩
 refine bE hm fun Bz h10 hm=>?_
 refine Av (K:=K) (CQ (B7 (B5 (A6 rfl AZ)) Aj)) h10 xt.gh fun v5 G6 H7 x8 r9=>?_
 have xt:=xt.trans x8
 have AZ:=Rp.mono x8.gg AZ
 refine bE hm fun b11 h12 hm=>?_
 refine BJ (AT (K:=K) (Bb (A6 rfl r9) B9)) h12 xt.gh fun G13 H14 x15=>?_
 have xt:=xt.trans x15
 have AZ:=Rp.mono x15.gg AZ
 have r9:=Rp.mono x15.gg r9
 cases b11 with
 | true =>
  replace hm:=cT hm
  refine Bw ?_
  exact AW (K:=K) (rest:=CI) (σ:=[some Cp,some v5]) (B1 (AC (BB B9) (AC (Hk q_YES) (Af (α:=Nt))))) hm xt.gh fun v16 G17 H18 x19 r20=>q v16 G17 H18 (xt.trans x19) r20
 | false =>
  replace hm:=cF hm
  refine Bs ?_
  refine bE hm fun b21 h22 hm=>?_
  refine BJ (tv_orP (AT (K:=K) (Bb (A6 rfl r9) B9)) (AT (K:=K) (Bb (A6 rfl r9) B9))) h22 xt.gh fun G23 H24 x25=>?_
  have xt:=xt.trans x25
  have AZ:=Rp.mono x25.gg AZ
  have r9:=Rp.mono x25.gg r9
  cases b21 with
  | true =>
   replace hm:=cT hm
   refine Bw ?_
   exact AW (K:=K) (A6 rfl AZ) hm xt.gh fun v26 G27 H28 x29 r30=>q v26 G27 H28 (xt.trans x29) r30
  | false =>
   replace hm:=cF hm
   refine Bs ?_
   refine bE hm fun b34 h35 hm=>?_
   refine BJ (AT (K:=K) (GC (ev_lenT (B5 (A6 rfl AZ))) Aj)) h35 xt.gh fun G36 H37 x38=>?_
   have xt:=xt.trans x38
   have AZ:=Rp.mono x38.gg AZ
   have r9:=Rp.mono x38.gg r9
   cases b34 with
   | true =>
    replace hm:=cT hm
    refine Bw ?_
    exact AW (K:=K) (Cd (m:=Ce) (A6 rfl r9) (Ag (m:=D9 BV) (B7 (B5 (A6 rfl AZ)) Aj))) hm xt.gh fun v45 G46 H47 x48 r49=>q v45 G46 H47 (xt.trans x48) r49
   | false =>
    replace hm:=cF hm
    refine Bs ?_
    exact AW (K:=K) (ev_def3 (m:=Cb) (A6 rfl r9) (Ag (m:=D9 BV) (B7 (B5 (A6 rfl AZ)) Aj)) (Ag (m:=D9 BV) (B7 (B5 (A6 rfl AZ)) Aj))) hm xt.gh fun v61 G62 H63 x64 r65=>q v61 G62 H63 (xt.trans x64) r65
theorem ok_book_told {f:Addr}{fd:FuncData}(F:Fun K "book_told" "book_told" DO f fd)(T:Txt w K mg)(D_book_of:DefOk P w K mg base "book_of" 163 ["some"] (spN K Fu))(D_is_sentence:DefOk P w K mg base "is_sentence" 4 ["thing"] (spM K Dc))(D_plain:DefOk P w K mg base "plain" 29 ["sentence"] (spM K (D9 26))):FnOk P w K mg base CX0 164 f fd ["sentences"] (spM K Ec):=by
 refine F.ok sc_book_told (fun vs H Q E h=>(Ak h).trans rfl) (fun cdv A outer s H0 vs Q E hr h=>?_)
 obtain ⟨G0,⟨C7,⟨⟩⟩,res,sg0,⟨EW,_,rfl,BR,rfl⟩,hm,q⟩:=h
 replace BR:Rp.rel K G0 EW C7:=BR
 replace hm:DV C7=some res:=hm
 unfold DV at hm
 have xt:Ext G0 H0 G0 H0:=Ext.refl sg0
 refine ⟨_,(A7 (D6 PassesOwn.never rfl (BI (K:=K) rfl (pv 0)) (BD (i:=1) sc_book_told.nd rfl (Or.inl rfl)) (A7 (BE (pt_not (Dy (K:=K) rfl (AS D_is_sentence hr (by decide) rfl (A5 (pv 1) A8)) (fun _=>rfl))) (A7 ps_never
   A9) A9)
   A9))
   (A7 (AN (AS D_book_of hr (by decide) rfl (A5 (DC (cn:=[]) (cap:=[]) rfl ⟨by decide +kernel,rfl,by decide +kernel,C4 rfl⟩ rfl (by decide +kernel) trivial (BI (K:=K) rfl (pv 0)) (fun C s0 H0 fp=>⟨EF,(AS D_plain hr (by decide) rfl (A5 (pv 0) A8))⟩)) A8)))
   A9)),?_⟩
 refine bE hm fun as1 h2 hm=>?_
 refine bE hm fun fl3 h4 hm=>?_
 refine DI (K:=K) (RR:=fun r v G' H'=>Ext G0 H0 G' H'/\Rp.rel K G' v r) (CB (A6 rfl BR)) h2 h4 xt.gh fun G5 H6 x7=>⟨fun s8 S' G' H'=>∃ (v9:Option V),Ext G0 H0 G' H'/\Same G5 G'/\S'=[some EW,v9],?_,?_,?_,?_,?_⟩
 ·have xt:=xt.trans x7
  exact ⟨_,xt,(Same.refl _),rfl⟩
 ·rintro _ S' G' H' ⟨v9,xt,mk10,rfl⟩
  exact ⟨mk10,xt.gh⟩
 ·rintro xv11 a12 s8 _ G15 H16 fl13 - ⟨v9,xt,mk10,rfl⟩ rx14 hm D' kN17 kC18 kB19 kR20
  refine D0 ?_
  refine bE hm fun b23 h24 hm=>?_
  refine BJ (tv_not (tv_b (K:=K) (Ag (m:=Dc) (A6 rfl rx14)))) h24 xt.gh fun G25 H26 x27=>?_
  have xt:=xt.trans x27
  have mk10:=mk10.trans x27.gg
  cases b23 with
  | true =>
   replace hm:=cT hm
   refine Bw ?_
   exact nomatch hm
  | false =>
   replace hm:=cF hm
   refine Bs ?_
   cases hm
   exact kN17 _ _ _ _ rfl ⟨_,xt,mk10,rfl⟩
 ·rintro s8 _ G30 H31 rfl ⟨v28,xt,mk29,rfl⟩
  refine ET ?_
  have BR:=Rp.mono (x7.gg.trans mk29) BR
  exact AW (K:=K) (NV.ev (nv_def1 (m:=Fu) (FV.ev (GD (cap:=[]) (fe:=fun (Ah:Nt)=>((some Ah).bind fun t36=>FJ 26 t36)) (CB (A6 rfl BR)) fun xc35 Ah Gc32 sc33 rc34=>(Ag (m:=D9 26) (A6 rfl rc34)))))) hm xt.gh fun v39 G40 H41 x42 r43=>q v39 G40 H41 (xt.trans x42) r43
 ·rintro r' v' G' H' rfl rl
  cases hm
  exact q v' G' H' rl.1 rl.2
theorem ok_hopes {f:Addr}{fd:FuncData}(F:Fun K "hopes" "hopes" GT f fd)(T:Txt w K mg):FnOk P w K mg base CX0 1 f fd ["rows"] (spM K EL):=by
 refine F.ok sc_hopes (fun vs H Q E h=>(Ak h).trans rfl) (fun cdv A outer s H0 vs Q E hr h=>?_)
 obtain ⟨G0,⟨rows_,⟨⟩⟩,res,sg0,⟨Aw,_,rfl,AD,rfl⟩,hm,q⟩:=h
 replace AD:Rp.rel K G0 Aw rows_:=AD
 replace hm:FA rows_=some res:=hm
 unfold FA at hm
 have xt:Ext G0 H0 G0 H0:=Ext.refl sg0
 refine ⟨_,(A7 (AN (pe_comp2 (cn:=[]) (cap:=[]) rfl ⟨by decide +kernel,rfl,by decide +kernel,C4 rfl⟩ rfl rfl (by decide +kernel) trivial (pi_enum (K:=K) rfl rfl T.enumerate_ (A5 (pv 0) A8)) (fun C s0 H0 fp=>⟨(Fi (AU BZ (AR (AF (K:=K) rfl) (pv 1) AA (fun _ _=>rfl)) AM (Aa _))),(pv 0)⟩)))
   A9),?_⟩
 exact AW (K:=K) (FV.ev (fv_comp2 (cap:=[]) (fc:=fun (pc5:(Int × (Tp SI)))=>((((some pc5.2).bind fun t8=>(some (0:Int)).bind fun t9=>atI t8.l t9).bind fun t10=>asS t10).bind fun t11=>(some (decide (t11=("until" : Str)))))) (fe:=fun (pc5:(Int × (Tp SI)))=>(some pc5.1)) (if_list (A6 rfl AD)) fun xc4 pc5 Gc1 sc2 rc3=>⟨(AT (K:=K) (Bb (FL (B7 (A6 rfl rc3) Aj)) B9)),(A6 rfl (rel_i (K:=K) Gc1 pc5.1))⟩)) hm xt.gh fun v13 G14 H15 x16 r17=>q v13 G14 H15 (xt.trans x16) r17
theorem ok_waits {f:Addr}{fd:FuncData}(F:Fun K "waits" "waits" GS f fd)(T:Txt w K mg)(D_hopes:DefOk P w K mg base "hopes" 1 ["rows"] (spM K EL)):FnOk P w K mg base CX0 2 f fd ["rows"] (spM K DB):=by
 refine F.ok sc_waits (fun vs H Q E h=>(Ak h).trans rfl) (fun cdv A outer s H0 vs Q E hr h=>?_)
 obtain ⟨G0,⟨rows_,⟨⟩⟩,res,sg0,⟨Aw,_,rfl,AD,rfl⟩,hm,q⟩:=h
 replace AD:Rp.rel K G0 Aw rows_:=AD
 replace hm:EG rows_=some res:=hm
 unfold EG at hm
 have xt:Ext G0 H0 G0 H0:=Ext.refl sg0
 refine ⟨_,(A7 (ps_setcomp (i:=1) sc_waits.nd rfl (Or.inl rfl) (cn:=[]) (cap:=[]) rfl ⟨by decide +kernel,rfl,by decide +kernel,C4 rfl⟩ rfl (by decide +kernel) trivial (BI (K:=K) rfl (pv 0)) (fun C s0 H0 fp=>⟨(Fi (AU BZ (AR (AF (K:=K) rfl) (pv 0) AA (fun _ _=>rfl)) AM (Aa _))),(AR (AF (K:=K) rfl) (pv 0) AA (fun _ _=>rfl))⟩))
   (A7 (AN (An (call_sortPI (w:=w) rfl rfl) (by rfl) T.sorted_ GL (A5 (Ao (op_orK (w:=w) rfl) (DQ (call_setL (K:=K) (w:=w) rfl rfl rfl) (by rfl) T.set_ bt_set (A5 (AS D_hopes hr (by decide) rfl (A5 (pv 0) A8)) A8)) (DQ (call_setL (K:=K) (w:=w) rfl rfl rfl) (by rfl) T.set_ bt_set (A5 (pv 1) A8))) A8)))
   A9)),?_⟩
 refine bE hm fun under_next_ h20 hm=>?_
 refine Av (K:=K) (FV.ev (GN (cap:=[]) (fc:=fun (row_:(Tp SI))=>((((some row_).bind fun t10=>(some (0:Int)).bind fun t11=>atI t10.l t11).bind fun t12=>asS t12).bind fun t13=>(some (decide (t13=("next" : Str)))))) (fe:=fun (row_:(Tp SI))=>(((some row_).bind fun t5=>(some (1:Int)).bind fun t6=>atI t5.l t6).bind fun t7=>asI t7)) (CB (A6 rfl AD)) fun xc4 row_ Gc1 sc2 rc3=>⟨(AT (K:=K) (Bb (FL (B7 (A6 rfl rc3) Aj)) B9)),(GF (B7 (A6 rfl rc3) Aj))⟩)) h20 xt.gh fun v15 G16 H17 x18 r19=>?_
 have xt:=xt.trans x18
 have AD:=Rp.mono x18.gg AD
 exact AW (K:=K) (FV.ev (fv_sortOrZ (w:=w) (Ag (m:=EL) (A6 rfl AD)) (A6 rfl r19))) hm xt.gh fun v24 G25 H26 x27 r28=>q v24 G25 H26 (xt.trans x27) r28
theorem ok_refuse_more_waits {f:Addr}{fd:FuncData}(F:Fun K "refuse_more_waits" "refuse_more_waits" BK f fd)(T:Txt w K mg)(D_waits:DefOk P w K mg base "waits" 2 ["rows"] (spM K DB)):FnOk P w K mg base CX0 3 f fd ["rows","most"] (spM K C2):=by
 refine F.ok sc_refuse_more_waits (fun vs H Q E h=>(Ak h).trans rfl) (fun cdv A outer s H0 vs Q E hr h=>?_)
 obtain ⟨G0,⟨rows_,⟨HG,⟨⟩⟩⟩,res,sg0,⟨Aw,_,rfl,AD,⟨v_most_,_,rfl,D4,rfl⟩⟩,hm,q⟩:=h
 replace AD:Rp.rel K G0 Aw rows_:=AD
 replace D4:Rp.rel K G0 v_most_ HG:=D4
 replace hm:Be rows_ HG=some res:=hm
 unfold Be at hm
 have xt:Ext G0 H0 G0 H0:=Ext.refl sg0
 refine ⟨_,(A7 (BE (AU Fj (An (Az (K:=K) rfl) (by rfl) T.len_ Bu (A5 (AS D_waits hr (by decide) rfl (A5 (pv 0) A8)) A8)) (pv 1) (Aa _)) (A7 ps_never
   A9) A9)
   A9),?_⟩
 refine bE hm fun b4 h5 hm=>?_
 refine BJ (AT (K:=K) (EC (EA (Ag (m:=DB) (A6 rfl AD))) (A6 rfl D4))) h5 xt.gh fun G6 H7 x8=>?_
 have xt:=xt.trans x8
 cases b4 with
 | true =>
  replace hm:=cT hm
  refine Bw ?_
  exact nomatch hm
 | false =>
  replace hm:=cF hm
  refine Bs ?_
  exact q _ _ _ xt (by cases hm;exact rfl)
theorem ok_lamps_in {f:Addr}{fd:FuncData}(F:Fun K "lamps_in" "lamps_in" E9 f fd)(T:Txt w K mg):FnOk P w K mg base CX0 1 f fd ["rows"] (spM K CJ):=by
 refine F.ok sc_lamps_in (fun vs H Q E h=>(Ak h).trans rfl) (fun cdv A outer s H0 vs Q E hr h=>?_)
 obtain ⟨G0,⟨rows_,⟨⟩⟩,res,sg0,⟨Aw,_,rfl,AD,rfl⟩,hm,q⟩:=h
 replace AD:Rp.rel K G0 Aw rows_:=AD
 replace hm:Bq rows_=some res:=hm
 unfold Bq at hm
 have xt:Ext G0 H0 G0 H0:=Ext.refl sg0
 refine ⟨_,(A7 (AN (Dj (K:=K) rfl PySem.F.plainAttrs_str PySem.F.slot_str_join PySem.F.type_str_join (mt_joinK (K:=K) rfl) AM (A5 (An (call_sortPS (w:=w) rfl rfl) (by rfl) T.sorted_ GL (A5 (DQ (call_setL (K:=K) (w:=w) rfl rfl rfl) (by rfl) T.set_ bt_set (A5 (DC (cn:=[]) (cap:=[]) rfl ⟨by decide +kernel,rfl,by decide +kernel,C4 rfl⟩ rfl (by decide +kernel) trivial (BI (K:=K) rfl (pv 0)) (fun C s0 H0 fp=>⟨(Fi (AU BZ (AR (AF (K:=K) rfl) (pv 0) AA (fun _ _=>rfl)) AM (Aa _))),(AR (AF (K:=K) rfl) (pv 0) AA (fun _ _=>rfl))⟩)) A8)) A8)) A8)))
   A9),?_⟩
 exact AW (K:=K) (ev_join B9 (FV.ev (fv_sortSetS (w:=w) (FV.ev (GN (cap:=[]) (fc:=fun (row_:(Tp SI))=>((((some row_).bind fun t23=>(some (0:Int)).bind fun t24=>atI t23.l t24).bind fun t25=>asS t25).bind fun t26=>(some (decide (t26=("lamp" : Str)))))) (fe:=fun (row_:(Tp SI))=>(((some row_).bind fun t18=>(some (1:Int)).bind fun t19=>atI t18.l t19).bind fun t20=>asS t20)) (CB (A6 rfl AD)) fun xc17 row_ Gc14 sc15 rc16=>⟨(AT (K:=K) (Bb (FL (B7 (A6 rfl rc16) Aj)) B9)),(FL (B7 (A6 rfl rc16) Aj))⟩))))) hm xt.gh fun v31 G32 H33 x34 r35=>q v31 G32 H33 (xt.trans x34) r35
theorem ok_bounded_book {f:Addr}{fd:FuncData}(F:Fun K "bounded_book" "bounded_book" CD f fd)(T:Txt w K mg)(D_book_told:DefOk P w K mg base "book_told" 164 ["sentences"] (spM K Ec))(D_refuse_more_waits:DefOk P w K mg base "refuse_more_waits" 3 ["rows","most"] (spM K C2))(D_lamps_in:DefOk P w K mg base "lamps_in" 1 ["rows"] (spM K CJ)):FnOk P w K mg base CX0 165 f fd ["sentences","most_waits"] (spM K DF):=by
 refine F.ok sc_bounded_book (fun vs H Q E h=>(Ak h).trans rfl) (fun cdv A outer s H0 vs Q E hr h=>?_)
 obtain ⟨G0,⟨C7,⟨most_waits_,⟨⟩⟩⟩,res,sg0,⟨EW,_,rfl,BR,⟨v_most_waits_,_,rfl,DA,rfl⟩⟩,hm,q⟩:=h
 replace BR:Rp.rel K G0 EW C7:=BR
 replace DA:Rp.rel K G0 v_most_waits_ most_waits_:=DA
 replace hm:Cf C7 most_waits_=some res:=hm
 unfold Cf at hm
 have xt:Ext G0 H0 G0 H0:=Ext.refl sg0
 refine ⟨_,(A7 (Ad (i:=2) sc_bounded_book.nd rfl (Or.inl rfl) (AS D_book_told hr (by decide) rfl (A5 (pv 0) A8)))
   (A7 (Da (AS D_refuse_more_waits hr (by decide) rfl (A5 (AR (AF (K:=K) rfl) (pv 2) AA (fun _ _=>rfl)) (A5 (pv 1) A8))))
   (A7 (BE (AU Fj (An (Az (K:=K) rfl) (by rfl) T.len_ Bu (A5 (AS D_lamps_in hr (by decide) rfl (A5 (AR (AF (K:=K) rfl) (pv 2) AA (fun _ _=>rfl)) A8)) A8)) (pe_globI rfl T.MOST_LAMPS) (Aa _)) (A7 ps_never
   A9) A9)
   (A7 (AN (pv 2))
   A9)))),?_⟩
 refine bE hm fun book_ h7 hm=>?_
 refine Av (K:=K) (Ag (m:=Ec) (A6 rfl BR)) h7 xt.gh fun v2 G3 H4 x5 r6=>?_
 have xt:=xt.trans x5
 have DA:=Rp.mono x5.gg DA
 refine bE hm fun a10 h11 hm=>?_
 refine sv_drop (K:=K) (Cd (m:=C2) (ev_fst (A6 rfl r6)) (A6 rfl DA)) h11 xt.gh fun G12 H13 x14=>?_
 have xt:=xt.trans x14
 have r6:=Rp.mono x14.gg r6
 refine bE hm fun b18 h19 hm=>?_
 refine BJ (AT (K:=K) (EC (ev_lenS (Ag (m:=CJ) (ev_fst (A6 rfl r6)))) Aj)) h19 xt.gh fun G20 H21 x22=>?_
 have xt:=xt.trans x22
 have r6:=Rp.mono x22.gg r6
 cases b18 with
 | true =>
  replace hm:=cT hm
  refine Bw ?_
  exact nomatch hm
 | false =>
  replace hm:=cF hm
  refine Bs ?_
  exact AW (K:=K) (A6 rfl r6) hm xt.gh fun v23 G24 H25 x26 r27=>q v23 G24 H25 (xt.trans x26) r27
theorem ok_all_moments {f:Addr}{fd:FuncData}(F:Fun K "all_moments" "all_moments" CT f fd)(T:Txt w K mg):FnOk P w K mg base CX0 1 f fd ["lamps"] (spM K Dq):=by
 refine F.ok sc_all_moments (fun vs H Q E h=>(Ak h).trans rfl) (fun cdv A outer s H0 vs Q E hr h=>?_)
 obtain ⟨G0,⟨lamps_,⟨⟩⟩,res,sg0,⟨v_lamps_,_,rfl,Fx,rfl⟩,hm,q⟩:=h
 replace Fx:Rp.rel K G0 v_lamps_ lamps_:=Fx
 replace hm:BU lamps_=some res:=hm
 unfold BU at hm
 have xt:Ext G0 H0 G0 H0:=Ext.refl sg0
 refine ⟨_,(A7 (Ad (i:=1) sc_all_moments.nd rfl (Or.inl rfl) (CL (A5 AM A8)))
   (A7 (D6 PassesOwn.never rfl (BI (K:=K) rfl (pv 0)) (BD (i:=2) sc_all_moments.nd rfl (Or.inr rfl)) (A7 (Ad (i:=1) sc_all_moments.nd rfl (Or.inl rfl) (Ao (B2 (K:=K) rfl) (pv 1) (DC (cn:=["lamp"]) (cap:=[2]) rfl ⟨by decide +kernel,rfl,by decide +kernel,C4 rfl⟩ rfl (by decide +kernel) ⟨⟨rfl,.inl rfl,rfl⟩,trivial⟩ (BI (K:=K) rfl (pv 1)) (fun C s0 H0 fp=>⟨EF,(Ao (B2 (K:=K) rfl) (pv 0) (pv 1))⟩))))
   A9))
   (A7 (AN (An (call_sortedS (K:=K) rfl) (by rfl) T.sorted_ GL (A5 (pv 1) A8)))
   A9))),?_⟩
 refine bE hm fun Cn h6 hm=>?_
 refine Av (K:=K) (FV.ev (CZ (AC B9 (Af (α:=Str))))) h6 xt.gh fun v1 G2 H3 x4 r5=>?_
 have xt:=xt.trans x4
 have Fx:=Rp.mono x4.gg Fx
 refine bE hm fun as7 h8 hm=>?_
 refine bE hm fun fl9 h10 hm=>?_
 refine DI (K:=K) (RR:=fun r v G' H'=>Ext G0 H0 G' H'/\Rp.rel K G' v r) (iw_str (A6 rfl Fx)) h8 h10 xt.gh fun G11 H12 x13=>⟨fun s14 S' G' H'=>∃ (v15:V) (v16:Option V),Ext G0 H0 G' H'/\Same G11 G'/\S'=[some v_lamps_,some v15,v16]/\Rp.rel K G' v15 (s14:(List Str)),?_,?_,?_,?_,?_⟩
 ·have xt:=xt.trans x13
  have r5:=Rp.mono x13.gg r5
  exact ⟨v1,_,xt,(Same.refl _),rfl,r5⟩
 ·rintro _ S' G' H' ⟨v15,v16,xt,mk17,rfl,r18⟩
  exact ⟨mk17,xt.gh⟩
 ·rintro xv19 a20 s14 _ G23 H24 fl21 - ⟨v15,v16,xt,mk17,rfl,r18⟩ rx22 hm D' kN25 kC26 kB27 kR28
  refine D0 ?_
  refine bE hm fun Cn h43 hm=>?_
  refine Av (K:=K) (FV.ev (fv_cat (A6 rfl r18) (FV.ev (GD (cap:=[2]) (fe:=fun (BA:Str)=>((some BA).bind fun t33=>(some a20).bind fun t34=>catS t33 t34)) (CB (A6 rfl r18)) fun xc32 BA Gc29 sc30 rc31=>(ev_catS (A6 rfl rc31) (A6 rfl (Rp.mono sc30 rx22))))))) h43 xt.gh fun v38 G39 H40 x41 r42=>?_
  have xt:=xt.trans x41
  have mk17:=mk17.trans x41.gg
  cases hm
  exact kN25 _ _ _ _ rfl ⟨v38,_,xt,mk17,rfl,r42⟩
 ·rintro s14 _ G48 H49 rfl ⟨v44,v45,xt,mk46,rfl,r47⟩
  refine ET ?_
  exact AW (K:=K) (FV.ev (fv_sortS (A6 rfl r47))) hm xt.gh fun v51 G52 H53 x54 r55=>q v51 G52 H53 (xt.trans x54) r55
 ·rintro r' v' G' H' rfl rl
  cases hm
  exact q v' G' H' rl.1 rl.2
theorem ok_all_claims {f:Addr}{fd:FuncData}(F:Fun K "all_claims" "all_claims" Cs f fd)(T:Txt w K mg):FnOk P w K mg base CX0 1 f fd ["many"] (spM K EH):=by
 refine F.ok sc_all_claims (fun vs H Q E h=>(Ak h).trans rfl) (fun cdv A outer s H0 vs Q E hr h=>?_)
 obtain ⟨G0,⟨HA,⟨⟩⟩,res,sg0,⟨Gw,_,rfl,Dm,rfl⟩,hm,q⟩:=h
 replace Dm:Rp.rel K G0 Gw HA:=Dm
 replace hm:Dh HA=some res:=hm
 unfold Dh at hm
 have xt:Ext G0 H0 G0 H0:=Ext.refl sg0
 refine ⟨_,(A7 (Ad (i:=1) sc_all_claims.nd rfl (Or.inl rfl) (CL (A5 (Am A8) A8)))
   (A7 (D6 PassesOwn.never rfl (GU rfl T.range_ (A5 (pv 0) A8)) (BD (i:=2) sc_all_claims.nd rfl (Or.inl rfl)) (A7 (Ad (i:=1) sc_all_claims.nd rfl (Or.inl rfl) (Ao (B2 (K:=K) rfl) (DC (cn:=[]) (cap:=[]) rfl ⟨by decide +kernel,rfl,by decide +kernel,C4 rfl⟩ rfl (by decide +kernel) trivial (BI (K:=K) rfl (pv 1)) (fun C s0 H0 fp=>⟨EF,(Ao (op_catTp (K:=K) rfl) (Am (A5 Ew A8)) (pv 0))⟩)) (DC (cn:=[]) (cap:=[]) rfl ⟨by decide +kernel,rfl,by decide +kernel,C4 rfl⟩ rfl (by decide +kernel) trivial (BI (K:=K) rfl (pv 1)) (fun C s0 H0 fp=>⟨EF,(Ao (op_catTp (K:=K) rfl) (Am (A5 Ew A8)) (pv 0))⟩))))
   A9))
   (A7 (AN (pv 1))
   A9))),?_⟩
 refine bE hm fun Cn h6 hm=>?_
 refine Av (K:=K) (FV.ev (CZ (AC (ev_tupL (Af (α:=Bool))) (Af (α:=(Tp Bool)))))) h6 xt.gh fun v1 G2 H3 x4 r5=>?_
 have xt:=xt.trans x4
 have Dm:=Rp.mono x4.gg Dm
 refine bE hm fun as8 h9 hm=>?_
 refine bE hm fun fl10 h11 hm=>?_
 refine DI (K:=K) (RR:=fun r v G' H'=>Ext G0 H0 G' H'/\Rp.rel K G' v r) (iw_rng1 (A6 rfl Dm)) h9 h11 xt.gh fun G12 H13 x14=>⟨fun s15 S' G' H'=>∃ (v16:V) (v17:Option V),Ext G0 H0 G' H'/\Same G12 G'/\S'=[some Gw,some v16,v17]/\Rp.rel K G' v16 (s15:(List (Tp Bool))),?_,?_,?_,?_,?_⟩
 ·have xt:=xt.trans x14
  have r5:=Rp.mono x14.gg r5
  exact ⟨v1,_,xt,(Same.refl _),rfl,r5⟩
 ·rintro _ S' G' H' ⟨v16,v17,xt,mk18,rfl,r19⟩
  exact ⟨mk18,xt.gh⟩
 ·rintro xv20 a21 s15 _ G24 H25 fl22 - ⟨v16,v17,xt,mk18,rfl,r19⟩ rx23 hm D' kN26 kC27 kB28 kR29
  refine D0 ?_
  refine bE hm fun Cn h51 hm=>?_
  refine Av (K:=K) (FV.ev (fv_cat (FV.ev (GD (cap:=[]) (fe:=fun (Cc:(Tp Bool))=>((some (Tp.mk [false])).bind fun t34=>(some Cc).bind fun t35=>catTO t34 t35)) (CB (A6 rfl r19)) fun xc33 Cc Gc30 sc31 rc32=>(ev_catTp (ev_tupL (AC Ge (Af (α:=Bool)))) (A6 rfl rc32)))) (FV.ev (GD (cap:=[]) (fe:=fun (Cc:(Tp Bool))=>((some (Tp.mk [true])).bind fun t41=>(some Cc).bind fun t42=>catTO t41 t42)) (CB (A6 rfl r19)) fun xc40 Cc Gc37 sc38 rc39=>(ev_catTp (ev_tupL (AC Ge (Af (α:=Bool)))) (A6 rfl rc39)))))) h51 xt.gh fun v46 G47 H48 x49 r50=>?_
  have xt:=xt.trans x49
  have mk18:=mk18.trans x49.gg
  cases hm
  exact kN26 _ _ _ _ rfl ⟨v46,_,xt,mk18,rfl,r50⟩
 ·rintro s15 _ G56 H57 rfl ⟨v52,v53,xt,mk54,rfl,r55⟩
  refine ET ?_
  exact AW (K:=K) (A6 rfl r55) hm xt.gh fun v58 G59 H60 x61 r62=>q v58 G59 H60 (xt.trans x61) r62
 ·rintro r' v' G' H' rfl rl
  cases hm
  exact q v' G' H' rl.1 rl.2
theorem ok_claims_for {f:Addr}{fd:FuncData}(F:Fun K "claims_for" "claims_for" Cw f fd)(T:Txt w K mg)(D_all_claims:DefOk P w K mg base "all_claims" 1 ["many"] (spM K EH))(D_waits:DefOk P w K mg base "waits" 2 ["rows"] (spM K DB)):FnOk P w K mg base CX0 3 f fd ["rows"] (spM K CV):=by
 refine F.ok sc_claims_for (fun vs H Q E h=>(Ak h).trans rfl) (fun cdv A outer s H0 vs Q E hr h=>?_)
 obtain ⟨G0,⟨rows_,⟨⟩⟩,res,sg0,⟨Aw,_,rfl,AD,rfl⟩,hm,q⟩:=h
 replace AD:Rp.rel K G0 Aw rows_:=AD
 replace hm:CM rows_=some res:=hm
 unfold CM at hm
 have xt:Ext G0 H0 G0 H0:=Ext.refl sg0
 refine ⟨_,(A7 (AN (AS D_all_claims hr (by decide) rfl (A5 (An (Az (K:=K) rfl) (by rfl) T.len_ Bu (A5 (AS D_waits hr (by decide) rfl (A5 (pv 0) A8)) A8)) A8)))
   A9),?_⟩
 exact AW (K:=K) (Ag (m:=EH) (EA (Ag (m:=DB) (A6 rfl AD)))) hm xt.gh fun v4 G5 H6 x7 r8=>q v4 G5 H6 (xt.trans x7) r8
theorem ok_truth_of {f:Addr}{fd:FuncData}(F:Fun K "truth_of" "truth_of" E2 f fd)(T:Txt w K mg):FnOk P w K mg base CX0 1 f fd ["rows","number","moment","claimed","view"] (spM K FG):=by
 refine F.ok sc_truth_of (fun vs H Q E h=>(Ak h).trans rfl) (fun cdv A outer s H0 vs Q E hr h=>?_)
 obtain ⟨G0,⟨rows_,⟨Ar,⟨BA,⟨D8,⟨BY,⟨⟩⟩⟩⟩⟩⟩,res,sg0,⟨Aw,_,rfl,AD,⟨Cu,_,rfl,AI,⟨CY,_,rfl,AO,⟨Et,_,rfl,Ae,⟨FH,_,rfl,Au,rfl⟩⟩⟩⟩⟩,hm,q⟩:=h
 replace AD:Rp.rel K G0 Aw rows_:=AD
 replace AI:Rp.rel K G0 Cu Ar:=AI
 replace AO:Rp.rel K G0 CY BA:=AO
 replace Ae:Rp.rel K G0 Et D8:=Ae
 replace Au:Rp.rel K G0 FH BY:=Au
 replace hm:E7 rows_ Ar BA D8 BY=some res:=hm
 unfold E7 at hm
 have xt:Ext G0 H0 G0 H0:=Ext.refl sg0
 refine ⟨_,(A7 (Ad (i:=5) sc_truth_of.nd rfl (Or.inl rfl) (AR (AF (K:=K) rfl) (pv 0) (pv 1) (fun _ _=>rfl)))
   (A7 (Ad (i:=6) sc_truth_of.nd rfl (Or.inl rfl) (AR (AF (K:=K) rfl) (pv 5) AA (fun _ _=>rfl)))
   (A7 (BE (AU BZ (pv 6) AM (Aa _)) (A7 (AN (GM op_in_str (AR (AF (K:=K) rfl) (pv 5) AA (fun _ _=>rfl)) (pv 2) rfl))
   A9) A9)
   (A7 (BE (AU BZ (pv 6) AM (Aa _)) (A7 (AN (pe_not (AR (AF (K:=K) rfl) (pv 4) (AR (AF (K:=K) rfl) (pv 5) AA (fun _ _=>rfl)) (fun _ _=>rfl))))
   A9) A9)
   (A7 (BE (AU BZ (pv 6) AM (Aa _)) (A7 (AN (pe_and (AR (AF (K:=K) rfl) (pv 4) (AR (AF (K:=K) rfl) (pv 5) AA (fun _ _=>rfl)) (fun _ _=>rfl)) (Gk (AR (AF (K:=K) rfl) (pv 4) (AR (AF (K:=K) rfl) (pv 5) AA (fun _ _=>rfl)) (fun _ _=>rfl)))))
   A9) A9)
   (A7 (BE (AU BZ (pv 6) AM (Aa _)) (A7 (AN (pe_dget (Es hr) (pv 3) (AR (AF (K:=K) rfl) (pv 5) AA (fun _ _=>rfl)) (fun _ _=>rfl)))
   A9) A9)
   (A7 (BE (AU BZ (pv 6) AM (Aa _)) (A7 (AN (pe_or (AR (AF (K:=K) rfl) (pv 4) (AR (AF (K:=K) rfl) (pv 5) AA (fun _ _=>rfl)) (fun _ _=>rfl)) (Gk (pe_and (AR (AF (K:=K) rfl) (pv 4) (AR (AF (K:=K) rfl) (pv 5) AA (fun _ _=>rfl)) (fun _ _=>rfl)) (Gk (pe_dget (Es hr) (pv 3) (pv 1) (fun _ _=>rfl)))))))
   A9) A9)
   (A7 (AN Ew)
   A9)))))))),?_⟩
 refine bE hm fun row_ h8 hm=>?_
 refine Av (K:=K) (Dg (A6 rfl AD) (A6 rfl AI)) h8 xt.gh fun v3 G4 H5 x6 r7=>?_
 have xt:=xt.trans x6
 have AI:=Rp.mono x6.gg AI
 have AO:=Rp.mono x6.gg AO
 have Ae:=Rp.mono x6.gg Ae
 have Au:=Rp.mono x6.gg Au
 refine bE hm fun Bz h16 hm=>?_
 refine Av (K:=K) (B7 (A6 rfl r7) Aj) h16 xt.gh fun v11 G12 H13 x14 r15=>?_
 have xt:=xt.trans x14
 have AI:=Rp.mono x14.gg AI
 have AO:=Rp.mono x14.gg AO
 have Ae:=Rp.mono x14.gg Ae
 have Au:=Rp.mono x14.gg Au
 have r7:=Rp.mono x14.gg r7
 refine bE hm fun b19 h20 hm=>?_
 refine BJ (AT (K:=K) (Bb (FL (A6 rfl r15)) B9)) h20 xt.gh fun G21 H22 x23=>?_
 have xt:=xt.trans x23
 have AI:=Rp.mono x23.gg AI
 have AO:=Rp.mono x23.gg AO
 have Ae:=Rp.mono x23.gg Ae
 have Au:=Rp.mono x23.gg Au
 have r7:=Rp.mono x23.gg r7
 have r15:=Rp.mono x23.gg r15
 cases b19 with
 | true =>
  replace hm:=cT hm
  refine Bw ?_
  exact AW (K:=K) (ev_inS (FL (B7 (A6 rfl r7) Aj)) (A6 rfl AO)) hm xt.gh fun v30 G31 H32 x33 r34=>q v30 G31 H32 (xt.trans x33) r34
 | false =>
  replace hm:=cF hm
  refine Bs ?_
  refine bE hm fun b37 h38 hm=>?_
  refine BJ (AT (K:=K) (Bb (FL (A6 rfl r15)) B9)) h38 xt.gh fun G39 H40 x41=>?_
  have xt:=xt.trans x41
  have AI:=Rp.mono x41.gg AI
  have Ae:=Rp.mono x41.gg Ae
  have Au:=Rp.mono x41.gg Au
  have r7:=Rp.mono x41.gg r7
  have r15:=Rp.mono x41.gg r15
  cases b37 with
  | true =>
   replace hm:=cT hm
   refine Bw ?_
   exact AW (K:=K) (ev_not (Dg (A6 rfl Au) (GF (B7 (A6 rfl r7) Aj)))) hm xt.gh fun v48 G49 H50 x51 r52=>q v48 G49 H50 (xt.trans x51) r52
  | false =>
   replace hm:=cF hm
   refine Bs ?_
   refine bE hm fun b55 h56 hm=>?_
   refine BJ (AT (K:=K) (Bb (FL (A6 rfl r15)) B9)) h56 xt.gh fun G57 H58 x59=>?_
   have xt:=xt.trans x59
   have AI:=Rp.mono x59.gg AI
   have Ae:=Rp.mono x59.gg Ae
   have Au:=Rp.mono x59.gg Au
   have r7:=Rp.mono x59.gg r7
   have r15:=Rp.mono x59.gg r15
   cases b55 with
   | true =>
    replace hm:=cT hm
    refine Bw ?_
    exact AW (K:=K) (ev_and (Dg (A6 rfl Au) (GF (B7 (A6 rfl r7) Aj))) (Dg (A6 rfl Au) (GF (B7 (A6 rfl r7) Aj)))) hm xt.gh fun v71 G72 H73 x74 r75=>q v71 G72 H73 (xt.trans x74) r75
   | false =>
    replace hm:=cF hm
    refine Bs ?_
    refine bE hm fun b78 h79 hm=>?_
    refine BJ (AT (K:=K) (Bb (FL (A6 rfl r15)) B9)) h79 xt.gh fun G80 H81 x82=>?_
    have xt:=xt.trans x82
    have AI:=Rp.mono x82.gg AI
    have Ae:=Rp.mono x82.gg Ae
    have Au:=Rp.mono x82.gg Au
    have r7:=Rp.mono x82.gg r7
    have r15:=Rp.mono x82.gg r15
    cases b78 with
    | true =>
     replace hm:=cT hm
     refine Bw ?_
     exact AW (K:=K) (ev_getM (A6 rfl Ae) (GF (B7 (A6 rfl r7) Aj))) hm xt.gh fun v88 G89 H90 x91 r92=>q v88 G89 H90 (xt.trans x91) r92
    | false =>
     replace hm:=cF hm
     refine Bs ?_
     refine bE hm fun b95 h96 hm=>?_
     refine BJ (AT (K:=K) (Bb (FL (A6 rfl r15)) B9)) h96 xt.gh fun G97 H98 x99=>?_
     have xt:=xt.trans x99
     have AI:=Rp.mono x99.gg AI
     have Ae:=Rp.mono x99.gg Ae
     have Au:=Rp.mono x99.gg Au
     have r7:=Rp.mono x99.gg r7
     cases b95 with
     | true =>
      replace hm:=cT hm
      refine Bw ?_
      exact AW (K:=K) (ev_or (Dg (A6 rfl Au) (GF (B7 (A6 rfl r7) Aj))) (ev_and (Dg (A6 rfl Au) (GF (B7 (A6 rfl r7) Aj))) (ev_getM (A6 rfl Ae) (A6 rfl AI)))) hm xt.gh fun v114 G115 H116 x117 r118=>q v114 G115 H116 (xt.trans x117) r118
     | false =>
      replace hm:=cF hm
      refine Bs ?_
      exact AW (K:=K) (rest:=CI) (σ:=[some Aw,some Cu,some CY,some Et,some FH,some v3,some v11]) Ge hm xt.gh fun v119 G120 H121 x122 r123=>q v119 G120 H121 (xt.trans x122) r123
theorem ok_view_with {f:Addr}{fd:FuncData}(F:Fun K "view_with" "view_with" DT f fd)(T:Txt w K mg)(D_truth_of:DefOk P w K mg base "truth_of" 1 ["rows","number","moment","claimed","view"] (spM K FG)):FnOk P w K mg base CX0 2 f fd ["rows","moment","claimed"] (spM K EZ):=by
 refine F.ok sc_view_with (fun vs H Q E h=>(Ak h).trans rfl) (fun cdv A outer s H0 vs Q E hr h=>?_)
 obtain ⟨G0,⟨rows_,⟨BA,⟨D8,⟨⟩⟩⟩⟩,res,sg0,⟨Aw,_,rfl,AD,⟨CY,_,rfl,AO,⟨Et,_,rfl,Ae,rfl⟩⟩⟩,hm,q⟩:=h
 replace AD:Rp.rel K G0 Aw rows_:=AD
 replace AO:Rp.rel K G0 CY BA:=AO
 replace Ae:Rp.rel K G0 Et D8:=Ae
 replace hm:DW rows_ BA D8=some res:=hm
 unfold DW at hm
 have xt:Ext G0 H0 G0 H0:=Ext.refl sg0
 refine ⟨_,(A7 (Ad (i:=3) sc_view_with.nd rfl (Or.inl rfl) (CL A8))
   (A7 (D6 PassesOwn.never rfl (GU rfl T.range_ (A5 (An (Az (K:=K) rfl) (by rfl) T.len_ Bu (A5 (pv 0) A8)) A8)) (BD (i:=4) sc_view_with.nd rfl (Or.inl rfl)) (A7 (Da (Dj (K:=K) rfl PySem.F.plainAttrs_list PySem.F.slot_list_append PySem.F.type_list_append Cy (pv 3) (A5 (AS D_truth_of hr (by decide) rfl (A5 (pv 0) (A5 (pv 4) (A5 (pv 1) (A5 (pv 2) (A5 (pv 3) A8)))))) A8)))
   A9))
   (A7 (AN (DQ (call_tupK (K:=K) rfl) (by rfl) T.tuple_ bt_tuple (A5 (pv 3) A8)))
   A9))),?_⟩
 refine bE hm fun BY h8 hm=>?_
 refine Gj (K:=K) (CZ (Af (α:=Bool))) h8 xt.gh fun p1 vs2 G3 H4 x5 hz6 o7=>?_
 have hz6:=xt.hh.free hz6
 have xt:=xt.trans x5
 have AD:=Rp.mono x5.gg AD
 have AO:=Rp.mono x5.gg AO
 have Ae:=Rp.mono x5.gg Ae
 refine bE hm fun as10 h11 hm=>?_
 refine bE hm fun fl12 h13 hm=>?_
 refine DI (K:=K) (RR:=fun r v G' H'=>Ext G0 H0 G' H'/\Rp.rel K G' v r) (iw_rng1 (EA (A6 rfl AD))) h11 h13 xt.gh fun G14 H15 x16=>⟨fun s17 S' G' H'=>∃ (v18:Option V),Ext G0 H0 G' H'/\Same G14 G'/\S'=[some Aw,some CY,some Et,some (V.ref p1),v18]/\(∃ vs,Own K G' H' (V.ref p1) p1 vs s17),?_,?_,?_,?_,?_⟩
 ·have xt:=xt.trans x16
  have o7:=o7.ext x16
  exact ⟨_,xt,(Same.refl _),rfl,⟨_,o7⟩⟩
 ·rintro _ S' G' H' ⟨v18,xt,mk19,rfl,⟨vs2,o7⟩⟩
  exact ⟨mk19,xt.gh⟩
 ·rintro xv20 a21 s17 _ G24 H25 fl22 - ⟨v18,xt,mk19,rfl,⟨vs2,o7⟩⟩ rx23 hm D' kN26 kC27 kB28 kR29
  have AD:=Rp.mono (x16.gg.trans mk19) AD
  have AO:=Rp.mono (x16.gg.trans mk19) AO
  have Ae:=Rp.mono (x16.gg.trans mk19) Ae
  refine D0 ?_
  refine bE hm fun a40 h41 hm=>?_
  refine bE hm fun z48 h42 hm=>?_
  refine sv_appendB (K:=K) rfl o7 (ev_def5 (m:=FG) (A6 rfl (Rp.mono (Same.new o7.g) AD)) (A6 rfl (Rp.mono (Same.new o7.g) rx23)) (A6 rfl (Rp.mono (Same.new o7.g) AO)) (A6 rfl (Rp.mono (Same.new o7.g) Ae)) (A6 rfl o7.tell)) h41 h42 xt.gh fun G43 H44 w45 x46 o47=>?_
  have xt:Ext G0 H0 G43 (upd H44 p1 (.lst (vs2++[w45]))):=(xt.trans x46).put hz6 o47.g
  have mk19:=mk19.trans x46.gg
  cases hm
  exact kN26 _ _ _ _ rfl ⟨_,xt,mk19,rfl,⟨_,o47⟩⟩
 ·rintro s17 _ G51 H52 rfl ⟨v49,xt,mk50,rfl,⟨vs2,o7⟩⟩
  refine ET ?_
  have sf:=Same.new (o:=.lst vs2) o7.g
  have xt:=xt.frz hz6 o7.g o7.h
  have r53:=o7.tell
  exact AW (K:=K) (ev_tuple (A6 rfl r53)) hm xt.gh fun v54 G55 H56 x57 r58=>q v54 G55 H56 (xt.trans x57) r58
 ·rintro r' v' G' H' rfl rl
  cases hm
  exact q v' G' H' rl.1 rl.2
theorem ok_look {f:Addr}{fd:FuncData}(F:Fun K "look" "look" HL f fd)(T:Txt w K mg)(D_view_with:DefOk P w K mg base "view_with" 2 ["rows","moment","claimed"] (spM K EZ))(D_waits:DefOk P w K mg base "waits" 2 ["rows"] (spM K DB)):FnOk P w K mg base CX0 3 f fd ["rows","moment","claims"] (spM K mm_look):=by
 refine F.ok sc_look (fun vs H Q E h=>(Ak h).trans rfl) (fun cdv A outer s H0 vs Q E hr h=>?_)
 obtain ⟨G0,⟨rows_,⟨BA,⟨Cc,⟨⟩⟩⟩⟩,res,sg0,⟨Aw,_,rfl,AD,⟨CY,_,rfl,AO,⟨v_claims_,_,rfl,r_claims_,rfl⟩⟩⟩,hm,q⟩:=h
 replace AD:Rp.rel K G0 Aw rows_:=AD
 replace AO:Rp.rel K G0 CY BA:=AO
 replace r_claims_:Rp.rel K G0 v_claims_ Cc:=r_claims_
 replace hm:Gc rows_ BA Cc=some res:=hm
 unfold Gc at hm
 have xt:Ext G0 H0 G0 H0:=Ext.refl sg0
 refine ⟨_,(A7 (AN (AS D_view_with hr (by decide) rfl (A5 (pv 0) (A5 (pv 1) (A5 (pe_dictZ (K:=K) rfl rfl (by rfl) T.dict_ (by rfl) T.zip_ (A5 (AS D_waits hr (by decide) rfl (A5 (pv 0) A8)) (A5 (pv 2) A8))) A8)))))
   A9),?_⟩
 exact AW (K:=K) (ev_def3 (m:=EZ) (A6 rfl AD) (A6 rfl AO) (ev_dictZ (Ag (m:=DB) (A6 rfl AD)) (A6 rfl r_claims_))) hm xt.gh fun v7 G8 H9 x10 r11=>q v7 G8 H9 (xt.trans x10) r11
theorem ok_claims_of {f:Addr}{fd:FuncData}(F:Fun K "claims_of" "claims_of" DM f fd)(T:Txt w K mg)(D_waits:DefOk P w K mg base "waits" 2 ["rows"] (spM K DB)):FnOk P w K mg base CX0 3 f fd ["rows","view"] (spM K Eg):=by
 refine F.ok sc_claims_of (fun vs H Q E h=>(Ak h).trans rfl) (fun cdv A outer s H0 vs Q E hr h=>?_)
 obtain ⟨G0,⟨rows_,⟨BY,⟨⟩⟩⟩,res,sg0,⟨Aw,_,rfl,AD,⟨FH,_,rfl,Au,rfl⟩⟩,hm,q⟩:=h
 replace AD:Rp.rel K G0 Aw rows_:=AD
 replace Au:Rp.rel K G0 FH BY:=Au
 replace hm:Ck rows_ BY=some res:=hm
 unfold Ck at hm
 have xt:Ext G0 H0 G0 H0:=Ext.refl sg0
 refine ⟨_,(A7 (AN (DQ (call_tupK (K:=K) rfl) (by rfl) T.tuple_ bt_tuple (A5 (DC (cn:=["view"]) (cap:=[1]) rfl ⟨by decide +kernel,rfl,by decide +kernel,C4 rfl⟩ rfl (by decide +kernel) ⟨⟨rfl,.inl rfl,rfl⟩,trivial⟩ (BI (K:=K) rfl (AS D_waits hr (by decide) rfl (A5 (pv 0) A8))) (fun C s0 H0 fp=>⟨EF,(AR (AF (K:=K) rfl) (pv 1) (pv 0) (fun _ _=>rfl))⟩)) A8)))
   A9),?_⟩
 exact AW (K:=K) (ev_tuple (FV.ev (GD (cap:=[1]) (fe:=fun (Ar:Int)=>((some BY).bind fun t6=>(some Ar).bind fun t7=>atI t6.l t7)) (CB (Ag (m:=DB) (A6 rfl AD))) fun xc5 Ar Gc2 sc3 rc4=>(B7 (A6 rfl (Rp.mono sc3 Au)) (A6 rfl rc4))))) hm xt.gh fun v10 G11 H12 x13 r14=>q v10 G11 H12 (xt.trans x13) r14
theorem ok_is_eased {f:Addr}{fd:FuncData}(F:Fun K "is_eased" "is_eased" Dx f fd)(T:Txt w K mg):FnOk P w K mg base CX0 1 f fd ["rows","hope","view"] (spM K Ez):=by
 refine F.ok sc_is_eased (fun vs H Q E h=>(Ak h).trans rfl) (fun cdv A outer s H0 vs Q E hr h=>?_)
 obtain ⟨G0,⟨rows_,⟨hope_,⟨BY,⟨⟩⟩⟩⟩,res,sg0,⟨Aw,_,rfl,AD,⟨v_hope_,_,rfl,r_hope_,⟨FH,_,rfl,Au,rfl⟩⟩⟩,hm,q⟩:=h
 replace AD:Rp.rel K G0 Aw rows_:=AD
 replace r_hope_:Rp.rel K G0 v_hope_ hope_:=r_hope_
 replace Au:Rp.rel K G0 FH BY:=Au
 replace hm:CN rows_ hope_ BY=some res:=hm
 unfold CN at hm
 have xt:Ext G0 H0 G0 H0:=Ext.refl sg0
 refine ⟨_,(A7 (AN (pe_or (pe_not (AR (AF (K:=K) rfl) (pv 2) (pv 1) (fun _ _=>rfl))) (Gk (AR (AF (K:=K) rfl) (pv 2) (AR (AF (K:=K) rfl) (AR (AF (K:=K) rfl) (pv 0) (pv 1) (fun _ _=>rfl)) AA (fun _ _=>rfl)) (fun _ _=>rfl)))))
   A9),?_⟩
 exact AW (K:=K) (ev_or (ev_not (B7 (A6 rfl Au) (A6 rfl r_hope_))) (B7 (A6 rfl Au) (GF (B7 (Dg (A6 rfl AD) (A6 rfl r_hope_)) Aj)))) hm xt.gh fun v12 G13 H14 x15 r16=>q v12 G13 H14 (xt.trans x15) r16
theorem ok_eased {f:Addr}{fd:FuncData}(F:Fun K "eased" "eased" GR f fd)(T:Txt w K mg)(D_is_eased:DefOk P w K mg base "is_eased" 1 ["rows","hope","view"] (spM K Ez))(D_hopes:DefOk P w K mg base "hopes" 1 ["rows"] (spM K EL)):FnOk P w K mg base CX0 2 f fd ["rows","view"] (spM K mm_eased):=by
 refine F.ok sc_eased (fun vs H Q E h=>(Ak h).trans rfl) (fun cdv A outer s H0 vs Q E hr h=>?_)
 obtain ⟨G0,⟨rows_,⟨BY,⟨⟩⟩⟩,res,sg0,⟨Aw,_,rfl,AD,⟨FH,_,rfl,Au,rfl⟩⟩,hm,q⟩:=h
 replace AD:Rp.rel K G0 Aw rows_:=AD
 replace Au:Rp.rel K G0 FH BY:=Au
 replace hm:Ft rows_ BY=some res:=hm
 unfold Ft at hm
 have xt:Ext G0 H0 G0 H0:=Ext.refl sg0
 refine ⟨_,(A7 (AN (DQ (call_tupK (K:=K) rfl) (by rfl) T.tuple_ bt_tuple (A5 (pe_comp2 (cn:=["rows","view"]) (cap:=[0,1]) rfl ⟨by decide +kernel,rfl,by decide +kernel,C4 rfl⟩ rfl rfl (by decide +kernel) ⟨⟨rfl,.inl rfl,rfl⟩,⟨rfl,.inl rfl,rfl⟩,trivial⟩ (pi_enum (K:=K) rfl rfl T.enumerate_ (A5 (AS D_hopes hr (by decide) rfl (A5 (pv 0) A8)) A8)) (fun C s0 H0 fp=>⟨(Fi (Dy (K:=K) rfl (AS D_is_eased hr (by decide) rfl (A5 (pv 2) (A5 (pv 1) (A5 (pv 3) A8)))) (fun _=>rfl))),(pv 0)⟩)) A8)))
   A9),?_⟩
 exact AW (K:=K) (ev_tuple (FV.ev (fv_comp2 (cap:=[0,1]) (fc:=fun (pc6:(Int × Int))=>((some rows_).bind fun t7=>(some pc6.2).bind fun t8=>(some BY).bind fun t9=>CN t7 t8 t9)) (fe:=fun (pc6:(Int × Int))=>(some pc6.1)) (if_list (Ag (m:=EL) (A6 rfl AD))) fun xc5 pc6 Gc2 sc3 rc4=>⟨(tv_b (K:=K) (ev_def3 (m:=Ez) (A6 rfl (Rp.mono sc3 AD)) (A6 rfl rc4) (A6 rfl (Rp.mono sc3 Au)))),(A6 rfl (rel_i (K:=K) Gc2 pc6.1))⟩))) hm xt.gh fun v12 G13 H14 x15 r16=>q v12 G13 H14 (xt.trans x15) r16
theorem ok_steps_at {f:Addr}{fd:FuncData}(F:Fun K "steps_at" "steps_at" E1 f fd)(T:Txt w K mg)(D_claims_for:DefOk P w K mg base "claims_for" 3 ["rows"] (spM K CV))(D_look:DefOk P w K mg base "look" 3 ["rows","moment","claims"] (spM K mm_look))(D_claims_of:DefOk P w K mg base "claims_of" 3 ["rows","view"] (spM K Eg))(D_eased:DefOk P w K mg base "eased" 2 ["rows","view"] (spM K mm_eased)):FnOk P w K mg base CX0 4 f fd ["rows","moment"] (spM K FD):=by
 refine F.ok sc_steps_at (fun vs H Q E h=>(Ak h).trans rfl) (fun cdv A outer s H0 vs Q E hr h=>?_)
 obtain ⟨G0,⟨rows_,⟨BA,⟨⟩⟩⟩,res,sg0,⟨Aw,_,rfl,AD,⟨CY,_,rfl,AO,rfl⟩⟩,hm,q⟩:=h
 replace AD:Rp.rel K G0 Aw rows_:=AD
 replace AO:Rp.rel K G0 CY BA:=AO
 replace hm:Dv rows_ BA=some res:=hm
 unfold Dv at hm
 have xt:Ext G0 H0 G0 H0:=Ext.refl sg0
 refine ⟨_,(A7 (Ad (i:=2) sc_steps_at.nd rfl (Or.inl rfl) (AS D_claims_for hr (by decide) rfl (A5 (pv 0) A8)))
   (A7 (Ad (i:=3) sc_steps_at.nd rfl (Or.inl rfl) (DQ (call_dictT (K:=K) rfl rfl hr) (by rfl) T.dict_ bt_dict (A5 (pe_comp2 (cn:=[]) (cap:=[]) rfl ⟨by decide +kernel,rfl,by decide +kernel,C4 rfl⟩ rfl rfl (by decide +kernel) trivial (pi_enum (K:=K) rfl rfl T.enumerate_ (A5 (pv 2) A8)) (fun C s0 H0 fp=>⟨EF,(Am (A5 (pv 1) (A5 (pv 0) A8)))⟩)) A8)))
   (A7 (Ad (i:=4) sc_steps_at.nd rfl (Or.inl rfl) (CL A8))
   (A7 (D6 PassesOwn.never rfl (pi_enum (K:=K) rfl rfl T.enumerate_ (A5 (pv 2) A8)) (pg_tup rfl (Dp (BD (i:=5) sc_steps_at.nd rfl (Or.inl rfl)) (Dp (BD (i:=6) sc_steps_at.nd rfl (Or.inl rfl)) pgs_nil))) (A7 (Ad (i:=7) sc_steps_at.nd rfl (Or.inl rfl) (AS D_look hr (by decide) rfl (A5 (pv 0) (A5 (pv 1) (A5 (pv 6) A8)))))
   (A7 (Ad (i:=8) sc_steps_at.nd rfl (Or.inl rfl) (pe_dgetT (K:=K) rfl (Es hr) (pv 3) (AS D_claims_of hr (by decide) rfl (A5 (pv 0) (A5 (pv 7) A8))) (fun _ _=>rfl)))
   (A7 (Da (Dj (K:=K) rfl PySem.F.plainAttrs_list PySem.F.slot_list_append PySem.F.type_list_append Cy (pv 4) (A5 (Am (A5 (pv 8) (A5 (pv 1) (A5 (pv 5) (A5 (AS D_eased hr (by decide) rfl (A5 (pv 0) (A5 (pv 7) A8))) (A5 (pv 7) A8)))))) A8)))
   A9))))
   (A7 (AN (pv 4))
   A9))))),?_⟩
 refine bE hm fun every_ h7 hm=>?_
 refine Av (K:=K) (Ag (m:=CV) (A6 rfl AD)) h7 xt.gh fun v2 G3 H4 x5 r6=>?_
 have xt:=xt.trans x5
 have AD:=Rp.mono x5.gg AD
 have AO:=Rp.mono x5.gg AO
 refine bE hm fun numbers_ h20 hm=>?_
 refine Av (K:=K) (ev_dictT (fv_map2 (cap:=[]) (fe:=fun (pc12:(Int × (Tp Bool)))=>(some (pc12.2,pc12.1))) (if_list (A6 rfl r6)) fun xc11 pc12 Gc8 sc9 rc10=>(ev_tup2 (A6 rfl rc10) (A6 rfl (rel_i (K:=K) Gc8 pc12.1))))) h20 xt.gh fun v15 G16 H17 x18 r19=>?_
 have xt:=xt.trans x18
 have AD:=Rp.mono x18.gg AD
 have AO:=Rp.mono x18.gg AO
 have r6:=Rp.mono x18.gg r6
 refine bE hm fun steps_ h28 hm=>?_
 refine Gj (K:=K) (CZ (Af (α:=(T5 Int Str Int (Tp Int) (Tp Bool))))) h28 xt.gh fun p21 vs22 G23 H24 x25 hz26 o27=>?_
 have hz26:=xt.hh.free hz26
 have xt:=xt.trans x25
 have AD:=Rp.mono x25.gg AD
 have AO:=Rp.mono x25.gg AO
 have r6:=Rp.mono x25.gg r6
 have r19:=Rp.mono x25.gg r19
 refine bE hm fun as29 h30 hm=>?_
 refine bE hm fun fl31 h32 hm=>?_
 refine sv_forE (K:=K) (RR:=fun r v G' H'=>Ext G0 H0 G' H'/\Rp.rel K G' v r) (ie_list (A6 rfl r6)) h30 h32 xt.gh fun G33 H34 x35=>⟨fun s36 S' G' H'=>∃ (v37:Option V) (v38:Option V) (v39:Option V) (v40:Option V),Ext G0 H0 G' H'/\Same G33 G'/\S'=[some Aw,some CY,some v2,some v15,some (V.ref p21),v37,v38,v39,v40]/\(∃ vs,Own K G' H' (V.ref p21) p21 vs s36),?_,?_,?_,?_,?_⟩
 ·have xt:=xt.trans x35
  have o27:=o27.ext x35
  exact ⟨_,_,_,_,xt,(Same.refl _),rfl,⟨_,o27⟩⟩
 ·rintro _ S' G' H' ⟨v37,v38,v39,v40,xt,mk41,rfl,⟨vs22,o27⟩⟩
  exact ⟨mk41,xt.gh⟩
 ·rintro xv42 te52 a43 s36 _ G46 H47 fl44 ⟨v37,v38,v39,v40,xt,mk41,rfl,⟨vs22,o27⟩⟩ ht53 rx45 hm D' kN48 kC49 kB50 kR51
  have AD:=Rp.mono (x35.gg.trans mk41) AD
  have AO:=Rp.mono (x35.gg.trans mk41) AO
  have r19:=Rp.mono (x35.gg.trans mk41) r19
  have x55:=Ext.new (o:=.tup [.int a43.1,xv42]) xt.gh ht53
  have xt:=xt.trans x55
  have mk41:=mk41.trans x55.gg
  have AD:=Rp.mono x55.gg AD
  have AO:=Rp.mono x55.gg AO
  have r19:=Rp.mono x55.gg r19
  have o27:=o27.ext x55
  have rx45:=Rp.mono x55.gg rx45
  refine sv_turnE (a:=a43) ?_
  have r56:Rp.rel K (upd G46 te52 (.tup [.int a43.1,xv42])) (V.int a43.1) a43.1:=rfl
  refine bE hm fun BY h65 hm=>?_
  refine Av (K:=K) (ev_def3 (m:=mm_look) (A6 rfl AD) (A6 rfl AO) (A6 rfl rx45)) h65 xt.gh fun v60 G61 H62 x63 r64=>?_
  have xt:=xt.trans x63
  have mk41:=mk41.trans x63.gg
  have AD:=Rp.mono x63.gg AD
  have AO:=Rp.mono x63.gg AO
  have r19:=Rp.mono x63.gg r19
  have o27:=o27.ext x63
  have r56:=Rp.mono x63.gg r56
  refine bE hm fun begin_ h75 hm=>?_
  refine Av (K:=K) (ev_dgetT (A6 rfl r19) (Cd (m:=Eg) (A6 rfl AD) (A6 rfl r64))) h75 xt.gh fun v70 G71 H72 x73 r74=>?_
  have xt:=xt.trans x73
  have mk41:=mk41.trans x73.gg
  have AD:=Rp.mono x73.gg AD
  have AO:=Rp.mono x73.gg AO
  have o27:=o27.ext x73
  have r56:=Rp.mono x73.gg r56
  have r64:=Rp.mono x73.gg r64
  refine bE hm fun a79 h80 hm=>?_
  refine bE hm fun z87 h81 hm=>?_
  refine FX (K:=K) rfl o27 (ev_tup5 (A6 rfl r74) (A6 rfl AO) (A6 rfl r56) (Cd (m:=mm_eased) (A6 rfl AD) (A6 rfl r64)) (A6 rfl r64)) h80 h81 xt.gh fun G82 H83 w84 x85 o86=>?_
  have xt:Ext G0 H0 G82 (upd H83 p21 (.lst (vs22++[w84]))):=(xt.trans x85).put hz26 o86.g
  have mk41:=mk41.trans x85.gg
  cases hm
  exact kN48 _ _ _ _ rfl ⟨_,_,_,_,xt,mk41,rfl,⟨_,o86⟩⟩
 ·rintro s36 _ G93 H94 rfl ⟨v88,v89,v90,v91,xt,mk92,rfl,⟨vs22,o27⟩⟩
  refine ET ?_
  have sf:=Same.new (o:=.lst vs22) o27.g
  have xt:=xt.frz hz26 o27.g o27.h
  have r95:=o27.tell
  exact AW (K:=K) (A6 rfl r95) hm xt.gh fun v96 G97 H98 x99 r100=>q v96 G97 H98 (xt.trans x99) r100
 ·rintro r' v' G' H' rfl rl
  cases hm
  exact q v' G' H' rl.1 rl.2
theorem ok_steps_of {f:Addr}{fd:FuncData}(F:Fun K "steps_of" "steps_of" EE f fd)(T:Txt w K mg)(D_all_moments:DefOk P w K mg base "all_moments" 1 ["lamps"] (spM K Dq))(D_lamps_in:DefOk P w K mg base "lamps_in" 1 ["rows"] (spM K CJ))(D_steps_at:DefOk P w K mg base "steps_at" 4 ["rows","moment"] (spM K FD)):FnOk P w K mg base CX0 5 f fd ["rows"] (spM K FI):=by
 refine F.ok sc_steps_of (fun vs H Q E h=>(Ak h).trans rfl) (fun cdv A outer s H0 vs Q E hr h=>?_)
 obtain ⟨G0,⟨rows_,⟨⟩⟩,res,sg0,⟨Aw,_,rfl,AD,rfl⟩,hm,q⟩:=h
 replace AD:Rp.rel K G0 Aw rows_:=AD
 replace hm:Dt rows_=some res:=hm
 unfold Dt at hm
 have xt:Ext G0 H0 G0 H0:=Ext.refl sg0
 refine ⟨_,(A7 (Ad (i:=1) sc_steps_of.nd rfl (Or.inl rfl) (CL A8))
   (A7 (D6 PassesOwn.never rfl (BI (K:=K) rfl (AS D_all_moments hr (by decide) rfl (A5 (AS D_lamps_in hr (by decide) rfl (A5 (pv 0) A8)) A8))) (BD (i:=2) sc_steps_of.nd rfl (Or.inl rfl)) (A7 (Da (Dj (K:=K) rfl PySem.F.plainAttrs_list PySem.F.slot_list_extend PySem.F.type_list_extend mt_extendR (pv 1) (A5 (AS D_steps_at hr (by decide) rfl (A5 (pv 0) (A5 (pv 2) A8))) A8)))
   A9))
   (A7 (AN (pv 1))
   A9))),?_⟩
 refine bE hm fun steps_ h8 hm=>?_
 refine Gj (K:=K) (CZ (Af (α:=(T5 Int Str Int (Tp Int) (Tp Bool))))) h8 xt.gh fun p1 vs2 G3 H4 x5 hz6 o7=>?_
 have hz6:=xt.hh.free hz6
 have xt:=xt.trans x5
 have AD:=Rp.mono x5.gg AD
 refine bE hm fun as11 h12 hm=>?_
 refine bE hm fun fl13 h14 hm=>?_
 refine DI (K:=K) (RR:=fun r v G' H'=>Ext G0 H0 G' H'/\Rp.rel K G' v r) (CB (Ag (m:=Dq) (Ag (m:=CJ) (A6 rfl AD)))) h12 h14 xt.gh fun G15 H16 x17=>⟨fun s18 S' G' H'=>∃ (v19:Option V),Ext G0 H0 G' H'/\Same G15 G'/\S'=[some Aw,some (V.ref p1),v19]/\(∃ vs,Own K G' H' (V.ref p1) p1 vs s18),?_,?_,?_,?_,?_⟩
 ·have xt:=xt.trans x17
  have o7:=o7.ext x17
  exact ⟨_,xt,(Same.refl _),rfl,⟨_,o7⟩⟩
 ·rintro _ S' G' H' ⟨v19,xt,mk20,rfl,⟨vs2,o7⟩⟩
  exact ⟨mk20,xt.gh⟩
 ·rintro xv21 a22 s18 _ G25 H26 fl23 - ⟨v19,xt,mk20,rfl,⟨vs2,o7⟩⟩ rx24 hm D' kN27 kC28 kB29 kR30
  have AD:=Rp.mono (x17.gg.trans mk20) AD
  refine D0 ?_
  refine bE hm fun a35 h36 hm=>?_
  refine bE hm fun z43 h37 hm=>?_
  refine sv_extendE (K:=K) rfl o7 (Cd (m:=FD) (A6 rfl AD) (A6 rfl rx24)) h36 h37 xt.gh fun G38 H39 w40 x41 o42=>?_
  have xt:Ext G0 H0 G38 (upd H39 p1 (.lst (vs2++w40))):=(xt.trans x41).put hz6 o42.g
  have mk20:=mk20.trans x41.gg
  cases hm
  exact kN27 _ _ _ _ rfl ⟨_,xt,mk20,rfl,⟨_,o42⟩⟩
 ·rintro s18 _ G46 H47 rfl ⟨v44,xt,mk45,rfl,⟨vs2,o7⟩⟩
  refine ET ?_
  have sf:=Same.new (o:=.lst vs2) o7.g
  have xt:=xt.frz hz6 o7.g o7.h
  have r48:=o7.tell
  exact AW (K:=K) (A6 rfl r48) hm xt.gh fun v49 G50 H51 x52 r53=>q v49 G50 H51 (xt.trans x52) r53
 ·rintro r' v' G' H' rfl rl
  cases hm
  exact q v' G' H' rl.1 rl.2
theorem ok_watcher_of_book {f:Addr}{fd:FuncData}(F:Fun K "watcher_of_book" "watcher_of_book" Ba f fd)(T:Txt w K mg)(D_steps_of:DefOk P w K mg base "steps_of" 5 ["rows"] (spM K FI))(D_lamps_in:DefOk P w K mg base "lamps_in" 1 ["rows"] (spM K CJ))(D_hopes:DefOk P w K mg base "hopes" 1 ["rows"] (spM K EL))(D_claims_for:DefOk P w K mg base "claims_for" 3 ["rows"] (spM K CV)):FnOk P w K mg base CX0 6 f fd ["rows","spot"] (spM K CK):=by
 refine F.ok sc_watcher_of_book (fun vs H Q E h=>(Ak h).trans rfl) (fun cdv A outer s H0 vs Q E hr h=>?_)
 obtain ⟨G0,⟨rows_,⟨spot_,⟨⟩⟩⟩,res,sg0,⟨Aw,_,rfl,AD,⟨v_spot_,_,rfl,Fn,rfl⟩⟩,hm,q⟩:=h
 replace AD:Rp.rel K G0 Aw rows_:=AD
 replace Fn:Rp.rel K G0 v_spot_ spot_:=Fn
 replace hm:BX rows_ spot_=some res:=hm
 unfold BX at hm
 have xt:Ext G0 H0 G0 H0:=Ext.refl sg0
 refine ⟨_,(A7 (Ad (i:=2) sc_watcher_of_book.nd rfl (Or.inl rfl) (CL A8))
   (A7 (D6 PassesOwn.never rfl (BI (K:=K) rfl (AS D_steps_of hr (by decide) rfl (A5 (pv 0) A8))) (pg_tup rfl (Dp (BD (i:=3) sc_watcher_of_book.nd rfl (Or.inl rfl)) (Dp (BD (i:=4) sc_watcher_of_book.nd rfl (Or.inl rfl)) (Dp (BD (i:=5) sc_watcher_of_book.nd rfl (Or.inl rfl)) (Dp (BD (i:=6) sc_watcher_of_book.nd rfl (Or.inl rfl)) (Dp (BD (i:=7) sc_watcher_of_book.nd rfl (Or.inl rfl)) pgs_nil)))))) (A7 (BE (Dy (K:=K) rfl (AR (AF (K:=K) rfl) (pv 7) (pv 1) (fun _ _=>rfl)) (fun _=>rfl)) (A7 (Da (Dj (K:=K) rfl PySem.F.plainAttrs_list PySem.F.slot_list_append PySem.F.type_list_append Cy (pv 2) (A5 (Am (A5 AA (A5 (pv 4) (A5 (Ao (B2 (K:=K) rfl) (pv 5) AA) (A5 (pv 6) A8))))) A8)))
   A9) A9)
   (A7 (Da (Dj (K:=K) rfl PySem.F.plainAttrs_list PySem.F.slot_list_append PySem.F.type_list_append Cy (pv 2) (A5 (Am (A5 (Ao (B2 (K:=K) rfl) (pv 3) AA) (A5 (pv 4) (A5 (Ao (B2 (K:=K) rfl) (pv 5) AA) (A5 (pv 6) A8))))) A8)))
   A9)))
   (A7 (AN (Am (A5 (AS D_lamps_in hr (by decide) rfl (A5 (pv 0) A8)) (A5 (Ao (B2 (K:=K) rfl) AA (An (Az (K:=K) rfl) (by rfl) T.len_ Bu (A5 (AS D_claims_for hr (by decide) rfl (A5 (pv 0) A8)) A8))) (A5 (pv 2) (A5 (An (Az (K:=K) rfl) (by rfl) T.len_ Bu (A5 (AS D_hopes hr (by decide) rfl (A5 (pv 0) A8)) A8)) A8))))))
   A9))),?_⟩
 refine bE hm fun told_ h8 hm=>?_
 refine Gj (K:=K) (CZ (Af (α:=(T4 Int Str Int (Tp Int))))) h8 xt.gh fun p1 vs2 G3 H4 x5 hz6 o7=>?_
 have hz6:=xt.hh.free hz6
 have xt:=xt.trans x5
 have AD:=Rp.mono x5.gg AD
 have Fn:=Rp.mono x5.gg Fn
 refine bE hm fun as10 h11 hm=>?_
 refine bE hm fun fl12 h13 hm=>?_
 refine DI (K:=K) (RR:=fun r v G' H'=>Ext G0 H0 G' H'/\Rp.rel K G' v r) (CB (Ag (m:=FI) (A6 rfl AD))) h11 h13 xt.gh fun G14 H15 x16=>⟨fun s17 S' G' H'=>∃ (v18:Option V) (v19:Option V) (v20:Option V) (v21:Option V) (v22:Option V),Ext G0 H0 G' H'/\Same G14 G'/\S'=[some Aw,some v_spot_,some (V.ref p1),v18,v19,v20,v21,v22]/\(∃ vs,Own K G' H' (V.ref p1) p1 vs s17),?_,?_,?_,?_,?_⟩
 ·have xt:=xt.trans x16
  have o7:=o7.ext x16
  exact ⟨_,_,_,_,_,xt,(Same.refl _),rfl,⟨_,o7⟩⟩
 ·rintro _ S' G' H' ⟨v18,v19,v20,v21,v22,xt,mk23,rfl,⟨vs2,o7⟩⟩
  exact ⟨mk23,xt.gh⟩
 ·rintro xv24 a25 s17 _ G28 H29 fl26 - ⟨v18,v19,v20,v21,v22,xt,mk23,rfl,⟨vs2,o7⟩⟩ rx27 hm D' kN30 kC31 kB32 kR33
  have AD:=Rp.mono (x16.gg.trans mk23) AD
  have Fn:=Rp.mono (x16.gg.trans mk23) Fn
  refine sv_turn5 rx27 xt.gh fun v34 v35 v36 v37 v38 r39 r40 r41 r42 r43=>?_
  refine bE hm fun b47 h48 hm=>?_
  refine bE hm fun s52 h53 hm=>?_
  try (with_reducible refine nxt_ ?_;dsimp only)
  refine Gu (t:=Hh _ _ _) (fun S67 H66=>∃ (G65:Hp) ,Ext G0 H0 G65 H66/\Same G28 G65/\S67=[some Aw,some v_spot_,some (V.ref p1),some v34,some v35,some v36,some v37,some v38]/\(∃ vs,Own K G65 H66 (V.ref p1) p1 vs s52)) (fun nx kn55=>?_) ?_
  ·refine BJ (tv_b (K:=K) (B7 (A6 rfl r43) (A6 rfl Fn))) h48 xt.gh fun G49 H50 x51=>?_
   have xt:=xt.trans x51
   have o7:=o7.ext x51
   have r40:=Rp.mono x51.gg r40
   have r41:=Rp.mono x51.gg r41
   have r42:=Rp.mono x51.gg r42
   have mk54:Same G28 G49:=x51.gg
   have hm:=h53
   cases b47 with
   | true =>
    replace hm:=cT hm
    refine Bw ?_
    refine bE hm fun a56 h57 hm=>?_
    refine bE hm fun z64 h58 hm=>?_
    refine FX (K:=K) rfl o7 (ev_tup4 Aj (A6 rfl r40) (CO (A6 rfl r41) Aj) (A6 rfl r42)) h57 h58 xt.gh fun G59 H60 w61 x62 o63=>?_
    have xt:Ext G0 H0 G59 (upd H60 p1 (.lst (vs2++[w61]))):=(xt.trans x62).put hz6 o63.g
    have mk54:=mk54.trans x62.gg
    cases hm
    exact kn55 _ _ ⟨G59,xt,mk54,rfl,⟨_,o63⟩⟩
   | false =>
    replace hm:=cF hm
    refine Bs ?_
    cases hm
    exact kn55 _ _ ⟨G49,xt,mk54,rfl,⟨_,o7⟩⟩
  ·rintro _ H66 ⟨G65,xt,mk54,rfl,⟨vs2,o7⟩⟩
   have mk23:=mk23.trans mk54
   have r39:=Rp.mono mk54 r39
   have r40:=Rp.mono mk54 r40
   have r41:=Rp.mono mk54 r41
   have r42:=Rp.mono mk54 r42
   refine bE hm fun a68 h69 hm=>?_
   refine bE hm fun z76 h70 hm=>?_
   refine FX (K:=K) rfl o7 (ev_tup4 (CO (A6 rfl r39) Aj) (A6 rfl r40) (CO (A6 rfl r41) Aj) (A6 rfl r42)) h69 h70 xt.gh fun G71 H72 w73 x74 o75=>?_
   have xt:Ext G0 H0 G71 (upd H72 p1 (.lst (vs2++[w73]))):=(xt.trans x74).put hz6 o75.g
   have mk23:=mk23.trans x74.gg
   cases hm
   exact kN30 _ _ _ _ rfl ⟨_,_,_,_,_,xt,mk23,rfl,⟨_,o75⟩⟩
 ·rintro s17 _ G83 H84 rfl ⟨v77,v78,v79,v80,v81,xt,mk82,rfl,⟨vs2,o7⟩⟩
  refine ET ?_
  have AD:=Rp.mono (x16.gg.trans mk82) AD
  have sf:=Same.new (o:=.lst vs2) o7.g
  have xt:=xt.frz hz6 o7.g o7.h
  have r94:=o7.tell
  have AD:=Rp.mono sf AD
  exact AW (K:=K) (ev_tup4 (Ag (m:=CJ) (A6 rfl AD)) (CO Aj (EA (Ag (m:=CV) (A6 rfl AD)))) (A6 rfl r94) (EA (Ag (m:=EL) (A6 rfl AD)))) hm xt.gh fun v104 G105 H106 x107 r108=>q v104 G105 H106 (xt.trans x107) r108
 ·rintro r' v' G' H' rfl rl
  cases hm
  exact q v' G' H' rl.1 rl.2
theorem ok_watcher {f:Addr}{fd:FuncData}(F:Fun K "watcher" "watcher" El f fd)(T:Txt w K mg)(D_bounded_book:DefOk P w K mg base "bounded_book" 165 ["sentences","most_waits"] (spM K DF))(D_watcher_of_book:DefOk P w K mg base "watcher_of_book" 6 ["rows","spot"] (spM K CK)):FnOk P w K mg base CX0 166 f fd ["sentence"] (spM K Ep):=by
 refine F.ok sc_watcher (fun vs H Q E h=>(Ak h).trans rfl) (fun cdv A outer s H0 vs Q E hr h=>?_)
 obtain ⟨G0,⟨Ah,⟨⟩⟩,res,sg0,⟨Cp,_,rfl,AZ,rfl⟩,hm,q⟩:=h
 replace AZ:Rp.rel K G0 Cp Ah:=AZ
 replace hm:E4 Ah=some res:=hm
 unfold E4 at hm
 have xt:Ext G0 H0 G0 H0:=Ext.refl sg0
 refine ⟨_,(A7 (Ad (i:=1) sc_watcher.nd rfl (Or.inl rfl) (AS D_bounded_book hr (by decide) rfl (A5 (CL (A5 (pv 0) A8)) (A5 (pe_globI rfl T.MOST_WAITS) A8))))
   (A7 (AN (AS D_watcher_of_book hr (by decide) rfl (A5 (AR (AF (K:=K) rfl) (pv 1) AA (fun _ _=>rfl)) (A5 (AR (AF (K:=K) rfl) (AR (AF (K:=K) rfl) (pv 1) AA (fun _ _=>rfl)) AA (fun _ _=>rfl)) A8))))
   A9)),?_⟩
 refine bE hm fun book_ h8 hm=>?_
 refine Av (K:=K) (Cd (m:=DF) (FV.ev (CZ (AC (A6 rfl AZ) (Af (α:=Nt))))) Aj) h8 xt.gh fun v3 G4 H5 x6 r7=>?_
 have xt:=xt.trans x6
 exact AW (K:=K) (Cd (m:=CK) (ev_fst (A6 rfl r7)) (Dg (ev_snd (A6 rfl r7)) Aj)) hm xt.gh fun v13 G14 H15 x16 r17=>q v13 G14 H15 (xt.trans x16) r17
theorem ok_law_to {f:Addr}{fd:FuncData}(F:Fun K "_law_to" "_law_to" FQ f fd)(T:Txt w K mg):FnOk P w K mg base CX0 1 f fd ["_law_watching","_law_begins"] (spM K Ek):=by
 refine F.ok sc_law_to (fun vs H Q E h=>(Ak h).trans rfl) (fun cdv A outer s H0 vs Q E hr h=>?_)
 obtain ⟨G0,⟨watching_,⟨begins_,⟨⟩⟩⟩,res,sg0,⟨v_watching_,_,rfl,EN,⟨v_begins_,_,rfl,E3,rfl⟩⟩,hm,q⟩:=h
 replace EN:Rp.rel K G0 v_watching_ watching_:=EN
 replace E3:Rp.rel K G0 v_begins_ begins_:=E3
 replace hm:EO watching_ begins_=some res:=hm
 unfold EO at hm
 have xt:Ext G0 H0 G0 H0:=Ext.refl sg0
 refine ⟨_,(A7 (Ad (i:=2) sc_law_to.nd rfl (Or.inl rfl) pe_dnewT)
   (A7 (D6 PassesOwn.never rfl (BI (K:=K) rfl (AR (AF (K:=K) rfl) (pv 0) AA (fun _ _=>rfl))) (BD (i:=3) sc_law_to.nd rfl (Or.inl rfl)) (A7 (BE (AU BZ (GM BZ (AR (AF (K:=K) rfl) (pv 3) AA (fun _ _=>rfl)) AA (Aa _)) (pv 1) (Aa _)) (A7 (Da (Dj (K:=K) rfl PySem.F.plainAttrs_list PySem.F.slot_list_append PySem.F.type_list_append Cy (pe_setD (Es hr) (pv 2) (Am (A5 (AR (AF (K:=K) rfl) (pv 3) AA (fun _ _=>rfl)) (A5 (AR (AF (K:=K) rfl) (pv 3) AA (fun _ _=>rfl)) A8))) (CL A8) ⟨rfl,rfl,rfl,rfl⟩) (A5 (pv 3) A8)))
   A9) A9)
   A9))
   (A7 (AN (pv 2))
   A9))),?_⟩
 refine bE hm fun Cn h8 hm=>?_
 refine sv_ownDL (K:=K) h8 xt.gh xt.hh fun p1 G3 H4 x5 hz6 o7=>?_
 have xt:=xt.trans x5
 have EN:=Rp.mono x5.gg EN
 have E3:=Rp.mono x5.gg E3
 refine bE hm fun as9 h10 hm=>?_
 refine bE hm fun fl11 h12 hm=>?_
 refine DI (K:=K) (RR:=fun r v G' H'=>Ext G0 H0 G' H'/\Rp.rel K G' v r) (CB (HJ (A6 rfl EN))) h10 h12 xt.gh fun G13 H14 x15=>⟨fun s16 S' G' H'=>∃ (v17:Option V),Ext G0 H0 G' H'/\Same G13 G'/\S'=[some v_watching_,some v_begins_,some (V.ref p1),v17]/\(∃ vs,OwnDL K H0 G' H' p1 vs s16),?_,?_,?_,?_,?_⟩
 ·have xt:=xt.trans x15
  have o7:=o7.ext x15
  exact ⟨_,xt,(Same.refl _),rfl,⟨_,o7⟩⟩
 ·rintro _ S' G' H' ⟨v17,xt,mk18,rfl,⟨vs2,o7⟩⟩
  exact ⟨mk18,xt.gh⟩
 ·rintro xv19 a20 s16 _ G23 H24 fl21 - ⟨v17,xt,mk18,rfl,⟨vs2,o7⟩⟩ rx22 hm D' kN25 kC26 kB27 kR28
  have E3:=Rp.mono (x15.gg.trans mk18) E3
  refine D0 ?_
  refine bE hm fun b29 h30 hm=>?_
  refine BJ (AT (K:=K) (ev_eqB (GC (HN (A6 rfl rx22)) Aj) (A6 rfl E3))) h30 xt.gh fun G31 H32 x33=>?_
  have xt:=xt.trans x33
  have mk18:=mk18.trans x33.gg
  have o7:=o7.ext x33
  have rx22:=Rp.mono x33.gg rx22
  cases b29 with
  | true =>
   replace hm:=cT hm
   refine Bw ?_
   refine bE hm fun k36 h37 hm=>?_
   refine bE hm fun z44 h38 hm=>?_
   refine sv_setAdd (K:=K) rfl o7 (GI (AC (ev_toS (ev_p42 (A6 rfl rx22))) (AC (ev_toI (HJ (A6 rfl rx22))) (Af (α:=SI))))) h37 (CZ (Af (α:=(T4 Int Str Int (Tp Int))))) (A6 rfl rx22) rfl h38 xt.gh xt.hh fun G39 H40 vs41 s42 f42 o43=>?_
   have xt:=f42 _ xt
   have mk18:=mk18.trans s42
   cases hm
   exact kN25 _ _ _ _ rfl ⟨_,xt,mk18,rfl,⟨_,o43⟩⟩
  | false =>
   replace hm:=cF hm
   refine Bs ?_
   cases hm
   exact kN25 _ _ _ _ rfl ⟨_,xt,mk18,rfl,⟨_,o7⟩⟩
 ·rintro s16 _ G47 H48 rfl ⟨v45,xt,mk46,rfl,⟨vs2,o7⟩⟩
  refine ET ?_
  cases hm
  exact sv_retDL (K:=K) rfl o7 xt fun G9 x9 r9=>q _ G9 _ x9 r9
 ·rintro r' v' G' H' rfl rl
  cases hm
  exact q v' G' H' rl.1 rl.2
theorem ok_law_moments {f:Addr}{fd:FuncData}(F:Fun K "_law_moments" "_law_moments" CW f fd)(T:Txt w K mg):FnOk P w K mg base CX0 1 f fd ["_law_lamps_here"] (spM K Ch):=by
 refine F.ok sc_law_moments (fun vs H Q E h=>(Ak h).trans rfl) (fun cdv A outer s H0 vs Q E hr h=>?_)
 obtain ⟨G0,⟨B3,⟨⟩⟩,res,sg0,⟨Bj,_,rfl,At,rfl⟩,hm,q⟩:=h
 replace At:Rp.rel K G0 Bj B3:=At
 replace hm:C8 B3=some res:=hm
 unfold C8 at hm
 have xt:Ext G0 H0 G0 H0:=Ext.refl sg0
 refine ⟨_,(A7 (Ad (i:=1) sc_law_moments.nd rfl (Or.inl rfl) (CL (A5 AM A8)))
   (A7 (D6 PassesOwn.never rfl (BI (K:=K) rfl (pv 0)) (BD (i:=2) sc_law_moments.nd rfl (Or.inr rfl)) (A7 (Ad (i:=1) sc_law_moments.nd rfl (Or.inl rfl) (Ao (B2 (K:=K) rfl) (pv 1) (DC (cn:=["_law_letter"]) (cap:=[2]) rfl ⟨by decide +kernel,rfl,by decide +kernel,C4 rfl⟩ rfl (by decide +kernel) ⟨⟨rfl,.inl rfl,rfl⟩,trivial⟩ (BI (K:=K) rfl (pv 1)) (fun C s0 H0 fp=>⟨EF,(Ao (B2 (K:=K) rfl) (pv 0) (pv 1))⟩))))
   A9))
   (A7 (AN (pv 1))
   A9))),?_⟩
 refine bE hm fun HY h6 hm=>?_
 refine Av (K:=K) (FV.ev (CZ (AC B9 (Af (α:=Str))))) h6 xt.gh fun v1 G2 H3 x4 r5=>?_
 have xt:=xt.trans x4
 have At:=Rp.mono x4.gg At
 refine bE hm fun as7 h8 hm=>?_
 refine bE hm fun fl9 h10 hm=>?_
 refine DI (K:=K) (RR:=fun r v G' H'=>Ext G0 H0 G' H'/\Rp.rel K G' v r) (iw_str (A6 rfl At)) h8 h10 xt.gh fun G11 H12 x13=>⟨fun s14 S' G' H'=>∃ (v15:V) (v16:Option V),Ext G0 H0 G' H'/\Same G11 G'/\S'=[some Bj,some v15,v16]/\Rp.rel K G' v15 (s14:(List Str)),?_,?_,?_,?_,?_⟩
 ·have xt:=xt.trans x13
  have r5:=Rp.mono x13.gg r5
  exact ⟨v1,_,xt,(Same.refl _),rfl,r5⟩
 ·rintro _ S' G' H' ⟨v15,v16,xt,mk17,rfl,r18⟩
  exact ⟨mk17,xt.gh⟩
 ·rintro xv19 a20 s14 _ G23 H24 fl21 - ⟨v15,v16,xt,mk17,rfl,r18⟩ rx22 hm D' kN25 kC26 kB27 kR28
  refine D0 ?_
  refine bE hm fun HY h43 hm=>?_
  refine Av (K:=K) (FV.ev (fv_cat (A6 rfl r18) (FV.ev (GD (cap:=[2]) (fe:=fun (one_:Str)=>((some one_).bind fun t33=>(some a20).bind fun t34=>catS t33 t34)) (CB (A6 rfl r18)) fun xc32 one_ Gc29 sc30 rc31=>(ev_catS (A6 rfl rc31) (A6 rfl (Rp.mono sc30 rx22))))))) h43 xt.gh fun v38 G39 H40 x41 r42=>?_
  have xt:=xt.trans x41
  have mk17:=mk17.trans x41.gg
  cases hm
  exact kN25 _ _ _ _ rfl ⟨v38,_,xt,mk17,rfl,r42⟩
 ·rintro s14 _ G48 H49 rfl ⟨v44,v45,xt,mk46,rfl,r47⟩
  refine ET ?_
  exact AW (K:=K) (A6 rfl r47) hm xt.gh fun v50 G51 H52 x53 r54=>q v50 G51 H52 (xt.trans x53) r54
 ·rintro r' v' G' H' rfl rl
  cases hm
  exact q v' G' H' rl.1 rl.2
theorem ok0_law_words {f:Addr}{fd:FuncData}(F:Fun K "_law_words" "_law_words" Cm f fd):FnOk P w K mg base CX0 1 f fd ["_law_sentence_here"] (spM K (C3 0)):=by
 refine F.ok sc_law_words (fun vs H Q E h=>(Ak h).trans rfl) (fun cdv A outer s H0 vs Q E hr h=>?_)
 obtain ⟨_,_,_,_,_,hm,_⟩:=h
 exact nomatch (hm:none=some _)
theorem ok_law_words {f:Addr}{fd:FuncData}(F:Fun K "_law_words" "_law_words" Cm f fd)(T:Txt w K mg)(BV:Nat)(D_law_words:DefOk P w K mg base "_law_words" (1+BV) ["_law_sentence_here"] (spM K (C3 BV))):FnOk P w K mg base CX0 (1+BV+1) f fd ["_law_sentence_here"] (spM K (C3 (BV+1))):=by
 refine F.ok sc_law_words (fun vs H Q E h=>(Ak h).trans rfl) (fun cdv A outer s H0 vs Q E hr h=>?_)
 obtain ⟨G0,⟨AL,⟨⟩⟩,res,sg0,⟨Cv,_,rfl,Ai,rfl⟩,hm,q⟩:=h
 replace Ai:Rp.rel K G0 Cv AL:=Ai
 replace hm:C9 (BG BV) AL=some res:=hm
 unfold C9 at hm
 have xt:Ext G0 H0 G0 H0:=Ext.refl sg0
 refine ⟨_,(A7 (BE (AU BZ (AR (AF (K:=K) rfl) (pv 0) AA (fun _ _=>rfl)) AM (Aa _)) (A7 (AN AA)
   A9) A9)
   (A7 (AN (Ao (B2 (K:=K) rfl) AA (An (call_sumG (K:=K) rfl rfl) (by rfl) T.sum_ bt_sum (A5 (DC (cn:=[]) (cap:=[]) rfl ⟨by decide +kernel,rfl,by decide +kernel,C4 rfl⟩ rfl (by decide +kernel) trivial (BI (K:=K) rfl (GJ (sl_tupK (K:=K) rfl) (pv 0) (Gy AA) Gs)) (fun C s0 H0 fp=>⟨EF,(AS D_law_words hr (by omega) rfl (A5 (pv 0) A8))⟩)) A8))))
   A9)),?_⟩
 refine bE hm fun b9 h10 hm=>?_
 refine BJ (AT (K:=K) (Bb (CQ (B7 (B5 (A6 rfl Ai)) Aj)) B9)) h10 xt.gh fun G11 H12 x13=>?_
 have xt:=xt.trans x13
 have Ai:=Rp.mono x13.gg Ai
 cases b9 with
 | true =>
  replace hm:=cT hm
  refine Bw ?_
  exact AW (K:=K) (rest:=CI) (σ:=[some Cv]) Aj hm xt.gh fun v14 G15 H16 x17 r18=>q v14 G15 H16 (xt.trans x17) r18
 | false =>
  replace hm:=cF hm
  refine Bs ?_
  exact AW (K:=K) (CO Aj (ev_sumG (FV.ev (GD (cap:=[]) (fe:=fun (Gm:Nt)=>((some Gm).bind fun t28=>(BG BV) t28)) (iw_tup (ev_sliceT (B5 (A6 rfl Ai)) (ov_some (K:=K) Aj) ov_none)) fun xc27 Gm Gc24 sc25 rc26=>(Ag (m:=C3 BV) (A6 rfl rc26)))))) hm xt.gh fun v32 G33 H34 x35 r36=>q v32 G33 H34 (xt.trans x35) r36
theorem ok0_law_lamps_in {f:Addr}{fd:FuncData}(F:Fun K "_law_lamps_in" "_law_lamps_in" Br f fd):FnOk P w K mg base CX0 1 f fd ["_law_sentence_here"] (spM K (BN 0)):=by
 refine F.ok Fw (fun vs H Q E h=>(Ak h).trans rfl) (fun cdv A outer s H0 vs Q E hr h=>?_)
 obtain ⟨_,_,_,_,_,hm,_⟩:=h
 exact nomatch (hm:none=some _)
theorem ok_law_lamps_in {f:Addr}{fd:FuncData}(F:Fun K "_law_lamps_in" "_law_lamps_in" Br f fd)(T:Txt w K mg)(BV:Nat)(D_law_lamps_in:DefOk P w K mg base "_law_lamps_in" (1+BV) ["_law_sentence_here"] (spM K (BN BV))):FnOk P w K mg base CX0 (1+BV+1) f fd ["_law_sentence_here"] (spM K (BN (BV+1))):=by
 refine F.ok Fw (fun vs H Q E h=>(Ak h).trans rfl) (fun cdv A outer s H0 vs Q E hr h=>?_)
 obtain ⟨G0,⟨AL,⟨⟩⟩,res,sg0,⟨Cv,_,rfl,Ai,rfl⟩,hm,q⟩:=h
 replace Ai:Rp.rel K G0 Cv AL:=Ai
 replace hm:BP (Ax BV) AL=some res:=hm
 unfold BP at hm
 have xt:Ext G0 H0 G0 H0:=Ext.refl sg0
 refine ⟨_,(A7 (BE (AU BZ (AR (AF (K:=K) rfl) (pv 0) AA (fun _ _=>rfl)) AM (Aa _)) (A7 (AN (AR (AF (K:=K) rfl) (pv 0) AA (fun _ _=>rfl)))
   A9) A9)
   (A7 (AN (Dj (K:=K) rfl PySem.F.plainAttrs_str PySem.F.slot_str_join PySem.F.type_str_join (mt_joinK (K:=K) rfl) AM (A5 (An (call_sortPS (w:=w) rfl rfl) (by rfl) T.sorted_ GL (A5 (DQ (call_setS (w:=w) rfl rfl) (by rfl) T.set_ bt_set (A5 (Dj (K:=K) rfl PySem.F.plainAttrs_str PySem.F.slot_str_join PySem.F.type_str_join (mt_joinK (K:=K) rfl) AM (A5 (DC (cn:=[]) (cap:=[]) rfl ⟨by decide +kernel,rfl,by decide +kernel,C4 rfl⟩ rfl (by decide +kernel) trivial (BI (K:=K) rfl (GJ (sl_tupK (K:=K) rfl) (pv 0) (Gy AA) Gs)) (fun C s0 H0 fp=>⟨EF,(AS D_law_lamps_in hr (by omega) rfl (A5 (pv 0) A8))⟩)) A8)) A8)) A8)) A8)))
   A9)),?_⟩
 refine bE hm fun b9 h10 hm=>?_
 refine BJ (AT (K:=K) (Bb (CQ (B7 (B5 (A6 rfl Ai)) Aj)) B9)) h10 xt.gh fun G11 H12 x13=>?_
 have xt:=xt.trans x13
 have Ai:=Rp.mono x13.gg Ai
 cases b9 with
 | true =>
  replace hm:=cT hm
  refine Bw ?_
  exact AW (K:=K) (CQ (B7 (B5 (A6 rfl Ai)) Aj)) hm xt.gh fun v18 G19 H20 x21 r22=>q v18 G19 H20 (xt.trans x21) r22
 | false =>
  replace hm:=cF hm
  refine Bs ?_
  exact AW (K:=K) (ev_join B9 (FV.ev (fv_sortSetT (w:=w) (ev_join B9 (FV.ev (GD (cap:=[]) (fe:=fun (Gm:Nt)=>((some Gm).bind fun t32=>(Ax BV) t32)) (iw_tup (ev_sliceT (B5 (A6 rfl Ai)) (ov_some (K:=K) Aj) ov_none)) fun xc31 Gm Gc28 sc29 rc30=>(Ag (m:=BN BV) (A6 rfl rc30)))))))) hm xt.gh fun v39 G40 H41 x42 r43=>q v39 G40 H41 (xt.trans x42) r43
seal eval in
theorem ok_law {f:Addr}{fd:FuncData}(F:Fun K "law" "law" Gp f fd)(T:Txt w K mg)(D_law_lamps:DefOk P w K mg base "_law_lamps" 1 ["_law_number"] (spM K Ef))(D_law_sentence:DefOk P w K mg base "_law_sentence" 2 ["_law_script","_law_start","_law_many","_law_lamps_here","_law_most"] (spM K DD))(D_watcher:DefOk P w K mg base "watcher" 166 ["sentence"] (spM K Ep))(D_law_to:DefOk P w K mg base "_law_to" 1 ["_law_watching","_law_begins"] (spM K Ek))(D_law_moments:DefOk P w K mg base "_law_moments" 1 ["_law_lamps_here"] (spM K Ch))(D_law_cell:DefOk P w K mg base "_law_cell" 1 ["_law_script","_law_k"] (spM K Cg))(D_law_words:DefOk P w K mg base "_law_words" 27 ["_law_sentence_here"] (spM K (C3 26)))(D_law_lamps_in:DefOk P w K mg base "_law_lamps_in" 27 ["_law_sentence_here"] (spM K (BN 26))):FnOk P w K mg base CX0 167 f fd ["_law_script"] (spM K mm_law):=by
 refine F.ok sc_law (fun vs H Q E h=>(Ak h).trans rfl) (fun cdv A outer s H0 vs Q E hr h=>?_)
 obtain ⟨G0,⟨script_,⟨⟩⟩,res,sg0,⟨Bo,_,rfl,Ab,rfl⟩,hm,q⟩:=h
 replace Ab:Rp.rel K G0 Bo script_:=Ab
 replace hm:m_law script_=some res:=hm
 unfold m_law at hm
 have xt:Ext G0 H0 G0 H0:=Ext.refl sg0
 refine ⟨_,(A7 (Ad (i:=1) sc_law.nd rfl (Or.inl rfl) (AS D_law_lamps hr (by decide) rfl (A5 (AS D_law_cell hr (by decide) rfl (A5 (pv 0) (A5 AA A8))) A8)))
   (A7 (Ad (i:=2) sc_law.nd rfl (Or.inl rfl) (AS D_law_sentence hr (by decide) rfl (A5 (pv 0) (A5 AA (A5 (Ao DJ (AS D_law_cell hr (by decide) rfl (A5 (pv 0) (A5 AA A8))) AA) (A5 (pv 1) (A5 AA A8)))))))
   (A7 (BE (AU Fj (AS D_law_words hr (by decide) rfl (A5 (pv 2) A8)) AA (Aa _)) (A7 (Ad (i:=2) sc_law.nd rfl (Or.inl rfl) (AR (AF (K:=K) rfl) (pv 2) AA (fun _ _=>rfl)))
   A9) A9)
   (A7 (Ad (i:=3) sc_law.nd rfl (Or.inl rfl) (AS D_watcher hr (by decide) rfl (A5 (pv 2) A8)))
   (A7 (Ad (i:=4) sc_law.nd rfl (Or.inl rfl) (AS D_watcher hr (by decide) rfl (A5 (Am (A5 AM (A5 (pv 2) A8))) A8)))
   (A7 (BE (PW.pt (GY (AU (op_neK (K:=K) rfl (Str × Int) hr (by decide)) (GJ (sl_tupA (K:=K) rfl) (pv 3) Gs (Gy AA)) (GJ (sl_tupA (K:=K) rfl) (pv 4) Gs (Gy AA)) (Aa _)) (GY (AU op_ne (AR (AF (K:=K) rfl) (pv 3) AA (fun _ _=>rfl)) (AR (AF (K:=K) rfl) (pv 4) AA (fun _ _=>rfl)) (Aa _)) (HP (AU op_ne (AR (AF (K:=K) rfl) (pv 3) AA (fun _ _=>rfl)) (AS D_law_lamps_in hr (by decide) rfl (A5 (pv 2) A8)) (Aa _)))))) (A7 (AN Ew)
   A9) A9)
   (A7 (BE (AU (op_neK (K:=K) rfl (List (T4 Int Str Int (Tp Int))) hr (by decide)) (DC (cn:=[]) (cap:=[]) rfl ⟨by decide +kernel,rfl,by decide +kernel,C4 rfl⟩ rfl (by decide +kernel) trivial (BI (K:=K) rfl (AR (AF (K:=K) rfl) (pv 3) AA (fun _ _=>rfl))) (fun C s0 H0 fp=>⟨(Fi (AU Fj (AR (AF (K:=K) rfl) (pv 0) AA (fun _ _=>rfl)) AA (Aa _))),(pv 0)⟩)) (DC (cn:=[]) (cap:=[]) rfl ⟨by decide +kernel,rfl,by decide +kernel,C4 rfl⟩ rfl (by decide +kernel) trivial (BI (K:=K) rfl (AR (AF (K:=K) rfl) (pv 4) AA (fun _ _=>rfl))) (fun C s0 H0 fp=>⟨(Fi (AU Fj (AR (AF (K:=K) rfl) (pv 0) AA (fun _ _=>rfl)) AA (Aa _))),(pv 0)⟩)) (Aa _)) (A7 (AN Ew)
   A9) A9)
   (A7 (Ad (i:=5) sc_law.nd rfl (Or.inl rfl) (AS D_law_to hr (by decide) rfl (A5 (pv 3) (A5 Ew A8))))
   (A7 (Ad (i:=6) sc_law.nd rfl (Or.inl rfl) (AS D_law_to hr (by decide) rfl (A5 (pv 4) (A5 Ew A8))))
   (A7 (Ad (i:=7) sc_law.nd rfl (Or.inl rfl) (AS D_law_to hr (by decide) rfl (A5 (pv 3) (A5 Ew A8))))
   (A7 (D6 PassesOwn.never rfl (BI (K:=K) rfl (AS D_law_moments hr (by decide) rfl (A5 (AR (AF (K:=K) rfl) (pv 3) AA (fun _ _=>rfl)) A8))) (BD (i:=8) sc_law.nd rfl (Or.inl rfl)) (A7 (D6 PassesOwn.never rfl (pi_range2 rfl T.range_ (A5 AA (A5 (AR (AF (K:=K) rfl) (pv 3) AA (fun _ _=>rfl)) A8))) (BD (i:=9) sc_law.nd rfl (Or.inl rfl)) (A7 (Ad (i:=10) sc_law.nd rfl (Or.inl rfl) (Ao (B2 (K:=K) rfl) (pe_dget2 (Es hr) (pv 5) (Am (A5 (pv 8) (A5 (pv 9) A8))) (CL A8) ⟨rfl,rfl,rfl,rfl⟩) (pe_dget2 (Es hr) (pv 6) (Am (A5 (pv 8) (A5 (pv 9) A8))) (CL A8) ⟨rfl,rfl,rfl,rfl⟩)))
   (A7 (BE (PW.pt (GY (AU op_ne (An (Az (K:=K) rfl) (by rfl) T.len_ Bu (A5 (pv 10) A8)) AA (Aa _)) (GY (AU op_ne (An (Az (K:=K) rfl) (by rfl) T.len_ Bu (A5 (pe_dget2 (Es hr) (pv 7) (Am (A5 (pv 8) (A5 (pv 9) A8))) (CL A8) ⟨rfl,rfl,rfl,rfl⟩) A8)) AA (Aa _)) (HP (AU (op_neK (K:=K) rfl (Tp Int) hr (by decide)) (AR (AF (K:=K) rfl) (AR (AF (K:=K) rfl) (pv 10) AA (fun _ _=>rfl)) AA (fun _ _=>rfl)) (AR (AF (K:=K) rfl) (AR (AF (K:=K) rfl) (pe_dget (Es hr) (pv 7) (Am (A5 (pv 8) (A5 (pv 9) A8))) (fun _ _=>rfl)) AA (fun _ _=>rfl)) AA (fun _ _=>rfl)) (Aa _)))))) (A7 (AN Ew)
   A9) A9)
   A9)))
   A9))
   (A7 (AN (GM BZ (Ao (B2 (K:=K) rfl) (An (Az (K:=K) rfl) (by rfl) T.len_ Bu (A5 (AR (AF (K:=K) rfl) (pv 3) AA (fun _ _=>rfl)) A8)) (An (Az (K:=K) rfl) (by rfl) T.len_ Bu (A5 (AR (AF (K:=K) rfl) (pv 4) AA (fun _ _=>rfl)) A8))) (Ao (Ey (K:=K) rfl) (Ao (Ey (K:=K) rfl) AA (An (Az (K:=K) rfl) (by rfl) T.len_ Bu (A5 (AS D_law_moments hr (by decide) rfl (A5 (AR (AF (K:=K) rfl) (pv 3) AA (fun _ _=>rfl)) A8)) A8))) (Ao op_sub (AR (AF (K:=K) rfl) (pv 3) AA (fun _ _=>rfl)) AA)) (Aa _)))
   A9)))))))))))),?_⟩
 refine bE hm fun B3 h9 hm=>?_
 refine Av (K:=K) (Ag (m:=Ef) (Cd (m:=Cg) (A6 rfl Ab) Aj)) h9 xt.gh fun v4 G5 H6 x7 r8=>?_
 have xt:=xt.trans x7
 have Ab:=Rp.mono x7.gg Ab
 refine bE hm fun AL h23 hm=>?_
 refine Av (K:=K) (ev_def5 (m:=DD) (A6 rfl Ab) Aj (DE (Cd (m:=Cg) (A6 rfl Ab) Aj)) (A6 rfl r8) Aj) h23 xt.gh fun v18 G19 H20 x21 r22=>?_
 have xt:=xt.trans x21
 have Ab:=Rp.mono x21.gg Ab
 have r8:=Rp.mono x21.gg r8
 refine bE hm fun b26 h27 hm=>?_
 refine bE hm fun s31 h32 hm=>?_
 try (with_reducible refine nxt_ ?_;dsimp only)
 refine Gu (t:=Hh _ _ _) (fun S48 H47=>∃ (G46:Hp) (v34:V),Ext G0 H0 G46 H47/\Same G19 G46/\S48=[some Bo,some v4,some v34,none,none,none,none,none,none,none,none]/\Rp.rel K G46 v34 (s31:Nt)) (fun nx kn36=>?_) ?_
 ·refine BJ (AT (K:=K) (EC (Ag (m:=C3 26) (A6 rfl r22)) Aj)) h27 xt.gh fun G28 H29 x30=>?_
  have xt:=xt.trans x30
  have r22:=Rp.mono x30.gg r22
  have mk33:Same G19 G28:=x30.gg
  have hm:=h32
  cases b26 with
  | true =>
   replace hm:=cT hm
   refine Bw ?_
   refine bE hm fun AL h45 hm=>?_
   refine Av (K:=K) (B7 (B5 (A6 rfl r22)) Aj) h45 xt.gh fun v40 G41 H42 x43 r44=>?_
   have xt:=xt.trans x43
   have mk33:=mk33.trans x43.gg
   cases hm
   exact kn36 _ _ ⟨G41,v40,xt,mk33,rfl,r44⟩
  | false =>
   replace hm:=cF hm
   refine Bs ?_
   cases hm
   exact kn36 _ _ ⟨G28,v18,xt,mk33,rfl,r22⟩
 ·rintro _ H47 ⟨G46,v34,xt,mk33,rfl,r35⟩
  refine bE hm fun one_ h55 hm=>?_
  refine Av (K:=K) (Ag (m:=Ep) (A6 rfl r35)) h55 xt.gh fun v50 G51 H52 x53 r54=>?_
  have xt:=xt.trans x53
  have r35:=Rp.mono x53.gg r35
  refine bE hm fun other_ h62 hm=>?_
  refine Av (K:=K) (Ag (m:=Ep) (B1 (AC (BB B9) (AC (A6 rfl r35) (Af (α:=Nt)))))) h62 xt.gh fun v57 G58 H59 x60 r61=>?_
  have xt:=xt.trans x60
  have r35:=Rp.mono x60.gg r35
  have r54:=Rp.mono x60.gg r54
  refine bE hm fun b69 h70 hm=>?_
  refine BJ (HX (AT (K:=K) (ev_ne (ev_sl42 (A6 rfl r54)) (ev_sl42 (A6 rfl r61)))) (HX (AT (K:=K) (ev_neI (ev_p44 (A6 rfl r54)) (ev_p44 (A6 rfl r61)))) (AT (K:=K) (ev_neS (HN (A6 rfl r54)) (Ag (m:=BN 26) (A6 rfl r35)))))) h70 xt.gh fun G71 H72 x73=>?_
  have xt:=xt.trans x73
  have r54:=Rp.mono x73.gg r54
  have r61:=Rp.mono x73.gg r61
  cases b69 with
  | true =>
   replace hm:=cT hm
   refine Bw ?_
   exact AW (K:=K) (rest:=CI) (σ:=[some Bo,some v4,some v34,some v50,some v57,none,none,none,none,none,none]) Ge hm xt.gh fun v74 G75 H76 x77 r78=>q v74 G75 H76 (xt.trans x77) r78
  | false =>
   replace hm:=cF hm
   refine Bs ?_
   refine bE hm fun b96 h97 hm=>?_
   refine BJ (AT (K:=K) (ev_ne (FV.ev (GN (cap:=[]) (fc:=fun (row_:(T4 Int Str Int (Tp Int)))=>(some (decide ((0:Int)<row_.a)))) (fe:=fun (row_:(T4 Int Str Int (Tp Int)))=>(some row_)) (CB (HJ (A6 rfl r54))) fun xc82 row_ Gc79 sc80 rc81=>⟨(AT (K:=K) (EC (HN (A6 rfl rc81)) Aj)),(A6 rfl rc81)⟩)) (FV.ev (GN (cap:=[]) (fc:=fun (row_:(T4 Int Str Int (Tp Int)))=>(some (decide ((0:Int)<row_.a)))) (fe:=fun (row_:(T4 Int Str Int (Tp Int)))=>(some row_)) (CB (HJ (A6 rfl r61))) fun xc92 row_ Gc89 sc90 rc91=>⟨(AT (K:=K) (EC (HN (A6 rfl rc91)) Aj)),(A6 rfl rc91)⟩)))) h97 xt.gh fun G98 H99 x100=>?_
   have xt:=xt.trans x100
   have r54:=Rp.mono x100.gg r54
   have r61:=Rp.mono x100.gg r61
   cases b96 with
   | true =>
    replace hm:=cT hm
    refine Bw ?_
    exact AW (K:=K) (rest:=CI) (σ:=[some Bo,some v4,some v34,some v50,some v57,none,none,none,none,none,none]) Ge hm xt.gh fun v101 G102 H103 x104 r105=>q v101 G102 H103 (xt.trans x104) r105
   | false =>
    replace hm:=cF hm
    refine Bs ?_
    refine bE hm fun ones_ h113 hm=>?_
    refine Av (K:=K) (Cd (m:=Ek) (A6 rfl r54) Ge) h113 xt.gh fun v108 G109 H110 x111 r112=>?_
    have xt:=xt.trans x111
    have r54:=Rp.mono x111.gg r54
    have r61:=Rp.mono x111.gg r61
    refine bE hm fun others_ h121 hm=>?_
    refine Av (K:=K) (Cd (m:=Ek) (A6 rfl r61) Ge) h121 xt.gh fun v116 G117 H118 x119 r120=>?_
    have xt:=xt.trans x119
    have r54:=Rp.mono x119.gg r54
    have r61:=Rp.mono x119.gg r61
    have r112:=Rp.mono x119.gg r112
    refine bE hm fun along_ h129 hm=>?_
    refine Av (K:=K) (Cd (m:=Ek) (A6 rfl r54) Ge) h129 xt.gh fun v124 G125 H126 x127 r128=>?_
    have xt:=xt.trans x127
    have r54:=Rp.mono x127.gg r54
    have r61:=Rp.mono x127.gg r61
    have r112:=Rp.mono x127.gg r112
    have r120:=Rp.mono x127.gg r120
    refine bE hm fun as131 h132 hm=>?_
    refine bE hm fun fl133 h134 hm=>?_
    refine DI (K:=K) (RR:=fun r v G' H'=>Ext G0 H0 G' H'/\Rp.rel K G' v r) (CB (Ag (m:=Ch) (HN (A6 rfl r54)))) h132 h134 xt.gh fun G135 H136 x137=>⟨fun s138 S' G' H'=>∃ (v139:Option V) (v140:Option V) (v141:Option V),Ext G0 H0 G' H'/\Same G135 G'/\S'=[some Bo,some v4,some v34,some v50,some v57,some v108,some v116,some v124,v139,v140,v141],?_,?_,?_,?_,?_⟩
    ·have xt:=xt.trans x137
     exact ⟨_,_,_,xt,(Same.refl _),rfl⟩
    ·rintro _ S' G' H' ⟨v139,v140,v141,xt,mk142,rfl⟩
     exact ⟨mk142,xt.gh⟩
    ·rintro xv143 a144 s138 _ G147 H148 fl145 - ⟨v139,v140,v141,xt,mk142,rfl⟩ rx146 hm D' kN149 kC150 kB151 kR152
     have r54:=Rp.mono (x137.gg.trans mk142) r54
     have r112:=Rp.mono (x137.gg.trans mk142) r112
     have r120:=Rp.mono (x137.gg.trans mk142) r120
     have r128:=Rp.mono (x137.gg.trans mk142) r128
     refine D0 ?_
     refine bE hm fun as155 h156 hm=>?_
     refine bE hm fun fl157 h158 hm=>?_
     refine DI (K:=K) (RR:=fun r v G' H'=>Ext G0 H0 G' H'/\Rp.rel K G' v r) (iw_rng2 Aj (ev_p42 (A6 rfl r54))) h156 h158 xt.gh fun G159 H160 x161=>⟨fun s162 S' G' H'=>∃ (v163:Option V) (v164:Option V),Ext G0 H0 G' H'/\Same G159 G'/\S'=[some Bo,some v4,some v34,some v50,some v57,some v108,some v116,some v124,some xv143,v163,v164],?_,?_,?_,?_,?_⟩
     ·have xt:=xt.trans x161
      exact ⟨_,_,xt,(Same.refl _),rfl⟩
     ·rintro _ S' G' H' ⟨v163,v164,xt,mk165,rfl⟩
      exact ⟨mk165,xt.gh⟩
     ·rintro xv166 a167 s162 _ G170 H171 fl168 - ⟨v163,v164,xt,mk165,rfl⟩ rx169 hm D' kN172 kC173 kB174 kR175
      have r112:=Rp.mono (x161.gg.trans mk165) r112
      have r120:=Rp.mono (x161.gg.trans mk165) r120
      have r128:=Rp.mono (x161.gg.trans mk165) r128
      have rx146:=Rp.mono (x161.gg.trans mk165) rx146
      refine D0 ?_
      refine bE hm fun both_ h183 hm=>?_
      refine Av (K:=K) (FV.ev (fv_cat (ev_getRD (A6 rfl r112) (GI (AC (ev_toS (A6 rfl rx146)) (AC (ev_toI (A6 rfl rx169)) (Af (α:=SI))))) (FV.ev (CZ (Af (α:=(T4 Int Str Int (Tp Int))))))) (ev_getRD (A6 rfl r120) (GI (AC (ev_toS (A6 rfl rx146)) (AC (ev_toI (A6 rfl rx169)) (Af (α:=SI))))) (FV.ev (CZ (Af (α:=(T4 Int Str Int (Tp Int))))))))) h183 xt.gh fun v178 G179 H180 x181 r182=>?_
      have xt:=xt.trans x181
      have mk165:=mk165.trans x181.gg
      have r128:=Rp.mono x181.gg r128
      have rx146:=Rp.mono x181.gg rx146
      have rx169:=Rp.mono x181.gg rx169
      refine bE hm fun b201 h202 hm=>?_
      refine BJ (HX (AT (K:=K) (ev_neI (EA (A6 rfl r182)) Aj)) (HX (AT (K:=K) (ev_neI (EA (ev_getRD (A6 rfl r128) (GI (AC (ev_toS (A6 rfl rx146)) (AC (ev_toI (A6 rfl rx169)) (Af (α:=SI))))) (FV.ev (CZ (Af (α:=(T4 Int Str Int (Tp Int)))))))) Aj)) (AT (K:=K) (ev_ne (ev_p44 (Dg (A6 rfl r182) Aj)) (ev_p44 (Dg (ev_getRI (A6 rfl r128) (GI (AC (ev_toS (A6 rfl rx146)) (AC (ev_toI (A6 rfl rx169)) (Af (α:=SI)))))) Aj)))))) h202 xt.gh fun G203 H204 x205=>?_
      have xt:=xt.trans x205
      have mk165:=mk165.trans x205.gg
      cases b201 with
      | true =>
       replace hm:=cT hm
       refine Bw ?_
       refine bE hm fun rr211 h212 hm=>?_
       cases hm
       exact AW (K:=K) (rest:=CI) (σ:=[some Bo,some v4,some v34,some v50,some v57,some v108,some v116,some v124,some xv143,some xv166,some v178]) Ge h212 xt.gh fun v206 G207 H208 x209 r210=>kR175 _ v206 G207 H208 rfl ⟨xt.trans x209,r210⟩
      | false =>
       replace hm:=cF hm
       refine Bs ?_
       cases hm
       exact kN172 _ _ _ _ rfl ⟨_,_,xt,mk165,rfl⟩
     ·rintro s162 _ G216 H217 rfl ⟨v213,v214,xt,mk215,rfl⟩
      refine ET ?_
      have mk142:=(mk142.trans x161.gg).trans mk215
      cases hm
      exact kN149 _ _ _ _ rfl ⟨_,_,_,xt,mk142,rfl⟩
     ·rintro r' v' G' H' rfl rl
      cases hm
      exact kR152 _ v' G' H' rfl rl
    ·rintro s138 _ G222 H223 rfl ⟨v218,v219,v220,xt,mk221,rfl⟩
     refine ET ?_
     have r54:=Rp.mono (x137.gg.trans mk221) r54
     have r61:=Rp.mono (x137.gg.trans mk221) r61
     exact AW (K:=K) (GC (CO (EA (HJ (A6 rfl r54))) (EA (HJ (A6 rfl r61)))) (ev_mul (ev_mulL (EA (Ag (m:=Ch) (HN (A6 rfl r54))))) (ev_sub (ev_p42 (A6 rfl r54)) Aj))) hm xt.gh fun v236 G237 H238 x239 r240=>q v236 G237 H238 (xt.trans x239) r240
    ·rintro r' v' G' H' rfl rl
     cases hm
     exact q v' G' H' rl.1 rl.2
end
def abcN:List Nat:=List.range' 97 26
def one (c:Nat):Str:=⟨#[c]⟩
theorem abc_cps:("abcdefghijklmnopqrstuvwxyz" : Str).cps.toList=abcN:=by decide +kernel
theorem GP (x:Str):Bv x=x.cps.toList.map one:=rfl
theorem abc_signs:Bv "abcdefghijklmnopqrstuvwxyz" = abcN.map one:=by rw [GP,abc_cps]
theorem abc_pw:abcN.Pairwise (· < ·):=List.pairwise_lt_range'
def Mom (x:Str):Prop:=x.cps.toList.Sublist abcN
theorem one_inj {a b:Nat}(h:one a=one b):a=b:=by
 have:=congrArg (fun x:Str=>x.cps.toList) h
 simpa [one] using this
theorem inS_one (c:Nat)(x:Str):inS (one c) x=decide (c∈x.cps.toList):=by
 unfold inS one
 exact StrLaws.found_one x c
theorem Mom.pw {x:Str}(h:Mom x):x.cps.toList.Pairwise (· < ·):=abc_pw.sublist h
theorem pw_eq {a b:List Nat}(ha:a.Pairwise (· < ·))(hb:b.Pairwise (· < ·))(h:∀ x,x∈a ↔ x∈b):a=b :=
 List.Perm.eq_of_pairwise (le:=(· < ·)) (fun x y _ _ h1 h2=>absurd h1 (Nat.lt_asymm h2)) ha hb ((List.perm_ext_iff_of_nodup (ha.imp fun h=>qjC h) (hb.imp fun h=>qjC h)).mpr h)
theorem join_mom (cs:List Nat)(h:cs.length<=1000):GZ "" (cs.map one)=some (Txt.join "" (cs.map one)):=by
 refine if_pos ?_
 have e:("" : Str).length=0:=by decide
 have:((cs.map one).map (·.length)).sum=cs.length:=sum_ones cs
 rw [e,Nat.mul_zero,this]
 omega
theorem join_of (cs:List Nat):(Txt.join "" (cs.map one)).cps.toList=cs:=join_ones' cs
theorem leS_one {a b:Nat}(h:a<=b):leS (one a) (one b)=true:=by
 unfold leS one
 rw [Bool.not_eq_true',decide_eq_false_iff_not]
 intro q
 have:=(sing_lt b a).mp q
 omega
theorem sortS_eq {ys zs:List Str}(hp:zs.Perm ys)(hz:zs.Pairwise fun a b=>leS a b=true):GA ys=zs :=
 (List.Perm.eq_of_pairwise (fun a b _ _ h1 h2=>leS_anti h1 h2) hz (List.pairwise_mergeSort leS_trans leS_total ys) (hp.trans (BQ ys).symm)).symm
theorem sort_ded {ys:List Str}{cs:List Nat}(hc:cs.Pairwise (· < ·))(h:∀ y,y∈ys ↔ ∃ c∈cs,y=one c):GA (DL ys)=cs.map one/\(DL ys).length=cs.length:=by
 have nd:(cs.map one).Nodup:=by
  rw [List.nodup_iff_pairwise_ne]
  exact List.Pairwise.map _ (fun a b q e=>absurd (one_inj e) (qjC q)) hc
 have hp:(cs.map one).Perm (DL ys):=(List.perm_ext_iff_of_nodup nd (nodup_dedA ys)).mpr fun y=>by
  rw [mem_dedA,h y,qoA]
  exact ⟨fun ⟨c,hc,e⟩=>⟨c,hc,e.symm⟩,fun ⟨c,hc,e⟩=>⟨c,hc,e.symm⟩⟩
 refine ⟨sortS_eq hp (List.Pairwise.map _ (fun a b q=>leS_one (Nat.le_of_lt q)) hc),?_⟩
 rw [<- hp.length_eq,qfA]
theorem filter_one (cs:List Nat)(p:Str->Bool):(cs.map one).filter p=(cs.filter fun c=>p (one c)).map one:=by rw [List.filter_map];rfl
theorem cell_ok (s:Scr)(k:Int)(h0:0<=k)(h1:k<=1000){P:Int->Prop}(hp:∀ n,P n):OK (Cq s k) P:=by
 unfold Cq
 simp only [quB,Ac,AK]
 refine Ap (fun h=>?_) (fun h=>?_)
 ·exact ok_at h0 (of_decide_eq_true h) fun x _=>hp x
 ·refine FW (P:=fun z:Int=>0<=z/\z<4294967296) (Ap (fun h2=>?_) (fun _=>AH ⟨by omega,by omega⟩)) fun z hz=>?_
  ·have h2:(0:Int)<(s.l.length:Int):=of_decide_eq_true h2
   refine AG (ok_mod h2 ?_)
   refine AG (ok_at (qxB _ (by omega)) (qyB _ h2) fun x _=>AH ⟨qxB _ (by decide),?_⟩)
   have:=qyB (x * 48271+k * 7919) (b:=2147483647) (by decide)
   omega
  ·exact AG (ok_mul (.inl ⟨by omega,by omega⟩) (AH (hp _)))
theorem abc_size:(("abcdefghijklmnopqrstuvwxyz" : Str).cps.toList).length=26:=by decide +kernel
theorem rng_at {n i:Nat}{a:Int}(h:((List.range n).map fun (i:Nat)=>(0:Int)+(i:Int))[i]? = some a):i<n/\a=(i:Int):=by
 have hi:i<n:=by simpa using (qvA.mp h).1
 refine ⟨hi,?_⟩
 simp [hi] at h
 omega
theorem rng_len (n:Nat):((List.range n).map fun (i:Nat)=>(0:Int)+(i:Int)).length=n:=by rw [qfA,qjA]
inductive Fm where
 | yes
 | lamp (c:Str)
 | neg (a:Fm)
 | next (a:Fm)
 | and (a b:Fm)
 | unt (a b:Fm)
def Fm.nt:Fm->Nt
 | .yes=>.tup [.txt "yes"]
 | .lamp c=>.tup [.txt "lamp",.txt c]
 | .neg a=>.tup [.txt "not",a.nt]
 | .next a=>.tup [.txt "next",a.nt]
 | .and a b=>.tup [.txt "and",a.nt,b.nt]
 | .unt a b=>.tup [.txt "until",a.nt,b.nt]
def Fm.den:Fm->Fm
 | .neg a=>a
 | a=>.neg a
def Fm.size:Fm->Nat
 | .yes=>1
 | .lamp _=>1
 | .neg a=>a.size+1
 | .next a=>a.size+1
 | .and a b=>a.size+b.size+1
 | .unt a b=>a.size+b.size+1
def Fm.dep:Fm->Nat
 | .yes=>1
 | .lamp _=>1
 | .neg a=>a.dep+1
 | .next a=>a.dep+1
 | .and a b=>max a.dep b.dep+1
 | .unt a b=>max a.dep b.dep+1
theorem den_dep (a:Fm):a.den.dep<=a.dep+1:=by
 cases a<;>simp only [Fm.den,Fm.dep]<;>omega
theorem den_size (a:Fm):a.den.size<=a.size+1:=by
 cases a<;>simp only [Fm.den,Fm.size]<;>omega
def pl1 (w:Str)(f:Fm):Fm :=
 if w = "not" then f.den else if w = "next" then .next f else if w = "atlast" then .unt .yes f else if w = "always" then .neg (.unt .yes f.den)
 else if w = "again" then .neg (.unt .yes (.neg (.unt .yes f))) else .unt .yes (.neg (.unt .yes f.den))
def pl2 (w:Str)(f g:Fm):Fm :=
 if w = "or" then .neg (.and f.den g.den) else if w = "then" then .neg (.and f g.den) else if w = "frees" then .neg (.unt f.den g.den)
 else if w = "and" then .and f g else .unt f g
theorem pl1_not (f:Fm):pl1 "not" f=f.den:=by
 unfold pl1
 rw [if_pos rfl]
theorem pl1_next (f:Fm):pl1 "next" f = .next f:=by
 unfold pl1
 rw [if_neg (by decide +kernel),if_pos rfl]
theorem pl1_atlast (f:Fm):pl1 "atlast" f = .unt .yes f:=by
 unfold pl1
 rw [if_neg (by decide +kernel),if_neg (by decide +kernel),if_pos rfl]
theorem pl1_always (f:Fm):pl1 "always" f = .neg (.unt .yes f.den):=by
 unfold pl1
 rw [if_neg (by decide +kernel),if_neg (by decide +kernel),if_neg (by decide +kernel),if_pos rfl]
theorem pl1_again (f:Fm):pl1 "again" f = .neg (.unt .yes (.neg (.unt .yes f))):=by
 unfold pl1
 rw [if_neg (by decide +kernel),if_neg (by decide +kernel),if_neg (by decide +kernel),if_neg (by decide +kernel),if_pos rfl]
theorem pl1_settles (f:Fm):pl1 "settles" f = .unt .yes (.neg (.unt .yes f.den)):=by
 unfold pl1
 rw [if_neg (by decide +kernel),if_neg (by decide +kernel),if_neg (by decide +kernel),if_neg (by decide +kernel),if_neg (by decide +kernel)]
theorem pl2_or (f g:Fm):pl2 "or" f g = .neg (.and f.den g.den):=by
 unfold pl2
 rw [if_pos rfl]
theorem pl2_then (f g:Fm):pl2 "then" f g = .neg (.and f g.den):=by
 unfold pl2
 rw [if_neg (by decide +kernel),if_pos rfl]
theorem pl2_frees (f g:Fm):pl2 "frees" f g = .neg (.unt f.den g.den):=by
 unfold pl2
 rw [if_neg (by decide +kernel),if_neg (by decide +kernel),if_pos rfl]
theorem pl2_and (f g:Fm):pl2 "and" f g = .and f g:=by
 unfold pl2
 rw [if_neg (by decide +kernel),if_neg (by decide +kernel),if_neg (by decide +kernel),if_pos rfl]
theorem pl2_until (f g:Fm):pl2 "until" f g = .unt f g:=by
 unfold pl2
 rw [if_neg (by decide +kernel),if_neg (by decide +kernel),if_neg (by decide +kernel),if_neg (by decide +kernel)]
theorem pl1_dep (w:Str)(f:Fm):(pl1 w f).dep<=f.dep+4:=by
 have h1:=den_dep f
 have h2:1<=f.dep:=by cases f<;>simp only [Fm.dep]<;>omega
 unfold pl1
 repeat' split
 all_goals (try simp only [Fm.dep]);omega
theorem pl2_dep (w:Str)(f g:Fm):(pl2 w f g).dep<=max f.dep g.dep+3:=by
 have h1:=den_dep f
 have h2:=den_dep g
 unfold pl2
 repeat' split
 all_goals (try simp only [Fm.dep]);omega
theorem pl1_size (w:Str)(f:Fm):(pl1 w f).size<=f.size+6:=by
 have h1:=den_size f
 unfold pl1
 repeat' split
 all_goals (try simp only [Fm.size]);omega
theorem pl2_size (w:Str)(f g:Fm):(pl2 w f g).size<=f.size+g.size+4:=by
 have h1:=den_size f
 have h2:=den_size g
 unfold pl2
 repeat' split
 all_goals (try simp only [Fm.size]);omega
def W1:List Str:=["not","next","atlast","always","again","settles"]
def W2:List Str:=["and","until","or","then","frees"]
def lampN (c:Nat):Nt:=.tup [.txt "lamp",.txt (one c)]
inductive Sent:Nt->Nat->Fm->Prop where
 | yes:Sent (.tup [.txt "yes"]) 1 .yes
 | no:Sent (.tup [.txt "no"]) 1 (.neg .yes)
 | lamp {c:Nat}:c∈abcN->Sent (lampN c) 1 (.lamp (one c))
 | one {w:Str}{a:Nt}{n:Nat}{f:Fm}:w∈W1->Sent a n f->Sent (.tup [.txt w,a]) (n+1) (pl1 w f)
 | two {w:Str}{a b:Nt}{n m:Nat}{f g:Fm}:w∈W2->Sent a n f->Sent b m g->Sent (.tup [.txt w,a,b]) (n+m+1) (pl2 w f g)
theorem Sent.pos {a:Nt}{n:Nat}{f:Fm}(h:Sent a n f):1<=n:=by cases h<;>omega
theorem Sent.dep {a:Nt}{n:Nat}{f:Fm}(h:Sent a n f):f.dep<=4 * n:=by
 induction h with
 | yes=>decide
 | no=>decide
 | lamp _=>simp only [Fm.dep];omega
 | @one w a n f _ _ ih=>have:=pl1_dep w f;omega
 | @two w a b n m f g _ _ _ ih1 ih2=>have:=pl2_dep w f g;omega
theorem Sent.size {a:Nt}{n:Nat}{f:Fm}(h:Sent a n f):f.size<=6 * n:=by
 induction h with
 | yes=>decide
 | no=>decide
 | lamp _=>simp only [Fm.size];omega
 | @one w a n f _ _ ih=>have:=pl1_size w f;omega
 | @two w a b n m f g _ _ _ ih1 ih2=>have:=pl2_size w f g;omega
theorem at0 (w:Str)(l:List Nt):atI (Nt.txt w::l) (0:Int)=some (Nt.txt w):=BS (j:=0) rfl
theorem at_n0 (x:Nt)(l:List Nt):atI (x::l) (0:Int)=some x:=BS (j:=0) rfl
theorem at1 (x y:Nt)(l:List Nt):atI (x::y::l) (1:Int)=some y:=BS (j:=1) rfl
theorem at2 (x y z:Nt)(l:List Nt):atI (x::y::z::l) (2:Int)=some z:=BS (j:=2) rfl
theorem cut_tailN (a:Nt)(l:List Nt):cutT? (a::l) (some 1) none=some ⟨l⟩:=by
 have h1:HT.sIx (a::l).length 0 (some (1:Int))=1:=by
  unfold HT.sIx
  simp
  try omega
 have h2:HT.sIx (a::l).length (a::l).length none=(a::l).length:=rfl
 unfold cutT?
 rw [if_pos (by rw [h1];exact fun z=>absurd z.1 (by decide))]
 unfold cutA
 rw [h1,h2]
 simp
theorem parts_lamp (x:Nt):AE (.tup [.txt "lamp",x])=some ⟨[]⟩:=by
 unfold AE
 simp only [quB,Ac,AK,BC,at_n0,C0]
 rfl
theorem EQ {w:Str}{l:List Nt}(hw:w ≠ "lamp"):AE (.tup (.txt w::l))=some ⟨l⟩:=by
 unfold AE
 simp only [quB,Ac,AK,BC,at_n0,C0,decide_eq_false hw,cond_false,cut_tailN]
theorem den_nt (a:Fm):Bg a.nt=some a.den.nt:=by
 have other:∀ (w:Str) (l:List Nt),w ≠ "not" -> Bg (.tup (.txt w::l))=some (.tup [.txt "not",.tup (.txt w::l)]):=fun w l hw=>by
  refine OK.eq ?_
  unfold Bg
  simp only [quB,Ac,AK,BC,at0,C0,decide_eq_false hw,cond_false]
  exact AH rfl
 cases a with
 | yes=>exact other _ _ (by decide +kernel)
 | lamp c=>exact other _ _ (by decide +kernel)
 | neg a =>
  show Bg (.tup [.txt "not",a.nt])=some a.nt
  refine OK.eq ?_
  unfold Bg
  simp only [quB,Ac,AK,BC]
  refine ok_bC (.txt "not") rfl (AG ⟨"not",rfl,?_⟩)
  dsimp only
  rw [decide_eq_true rfl]
  exact ⟨_,rfl,rfl⟩
 | next a=>exact other _ _ (by decide +kernel)
 | and a b=>exact other _ _ (by decide +kernel)
 | unt a b=>exact other _ _ (by decide +kernel)
theorem with_one_nt (w:Str)(f:Fm):Bp w f.nt=some (pl1 w f).nt:=by
 refine OK.eq ?_
 unfold Bp
 simp only [quB,Ac,AK,den_nt]
 unfold pl1
 refine Ap (fun h=>?_) fun h=>?_
 ·rw [if_pos (of_decide_eq_true h)]
  exact AH rfl
 rw [if_neg (of_decide_eq_false h)]
 refine Ap (fun h=>?_) fun h=>?_
 ·rw [if_pos (of_decide_eq_true h)]
  exact AH rfl
 rw [if_neg (of_decide_eq_false h)]
 refine Ap (fun h=>?_) fun h=>?_
 ·rw [if_pos (of_decide_eq_true h)]
  exact AH rfl
 rw [if_neg (of_decide_eq_false h)]
 refine Ap (fun h=>?_) fun h=>?_
 ·rw [if_pos (of_decide_eq_true h)]
  exact AH rfl
 rw [if_neg (of_decide_eq_false h)]
 refine Ap (fun h=>?_) fun h=>?_
 ·rw [if_pos (of_decide_eq_true h)]
  exact AH rfl
 rw [if_neg (of_decide_eq_false h)]
 exact AH rfl
theorem with_two_nt {w:Str}(hw:w∈W2)(f g:Fm):Bl w f.nt g.nt=some (pl2 w f g).nt:=by
 refine OK.eq ?_
 unfold Bl
 simp only [quB,Ac,AK,den_nt]
 unfold pl2
 refine Ap (fun h=>?_) fun h1=>?_
 ·rw [if_pos (of_decide_eq_true h)]
  exact AH rfl
 rw [if_neg (of_decide_eq_false h1)]
 refine Ap (fun h=>?_) fun h2=>?_
 ·rw [if_pos (of_decide_eq_true h)]
  exact AH rfl
 rw [if_neg (of_decide_eq_false h2)]
 refine Ap (fun h=>?_) fun h3=>?_
 ·rw [if_pos (of_decide_eq_true h)]
  exact AH rfl
 rw [if_neg (of_decide_eq_false h3)]
 refine AH ?_
 simp only [W2,qnA,qkC,or_false] at hw
 rcases hw with e|e|e|e|e
 ·rw [if_pos e,e]
  rfl
 ·subst e
  rw [if_neg (by decide +kernel)]
  rfl
 ·exact absurd e (of_decide_eq_false h1)
 ·exact absurd e (of_decide_eq_false h2)
 ·exact absurd e (of_decide_eq_false h3)
structure Wd (w:Str):Prop where
 no:w ≠ "no"
 yes:w ≠ "yes"
 lamp:w ≠ "lamp"
theorem wd_one {w:Str}(hw:w∈W1):Wd w:=by
 simp only [W1,qnA,qkC,or_false] at hw
 rcases hw with rfl|rfl|rfl|rfl|rfl|rfl<;>exact ⟨by decide +kernel,by decide +kernel,by decide +kernel⟩
theorem wd_two {w:Str}(hw:w∈W2):Wd w:=by
 simp only [W2,qnA,qkC,or_false] at hw
 rcases hw with rfl|rfl|rfl|rfl|rfl<;>exact ⟨by decide +kernel,by decide +kernel,by decide +kernel⟩
theorem plain_ok {S:Nt}{d:Nat}{f:Fm}(h:Sent S d f):∀ n,d<=n->FJ n S=some f.nt:=by
 induction h with
 | yes =>
  intro n hn
  obtain ⟨m,rfl⟩:∃ m,n=m+1:=⟨n - 1,by omega⟩
  rfl
 | no =>
  intro n hn
  obtain ⟨m,rfl⟩:∃ m,n=m+1:=⟨n - 1,by omega⟩
  rfl
 | lamp _ =>
  intro n hn
  obtain ⟨m,rfl⟩:∃ m,n=m+1:=⟨n - 1,by omega⟩
  rfl
 | @one w a k f hw ha ih =>
  intro n hn
  obtain ⟨m,rfl⟩:∃ m,n=m+1:=⟨n - 1,by omega⟩
  have ww:=wd_one hw
  show Dz (FJ m) _=_
  unfold Dz
  simp only [quB,Ac,AK,BC,at0,at1,C0,decide_eq_false ww.no,decide_eq_false ww.yes,decide_eq_false ww.lamp,Bool.or_self,cond_false]
  have e2:decide ((([Nt.txt w,a]:List Nt).length:Int)=2)=true:=rfl
  rw [e2]
  simp only [Ac,ih m (by omega),cond_true]
  exact with_one_nt w f
 | @two w a b k j f g hw ha hb ih1 ih2 =>
  intro n hn
  obtain ⟨m,rfl⟩:∃ m,n=m+1:=⟨n - 1,by omega⟩
  have ww:=wd_two hw
  show Dz (FJ m) _=_
  unfold Dz
  simp only [quB,Ac,AK,BC,at0,at1,at2,C0,decide_eq_false ww.no,decide_eq_false ww.yes,decide_eq_false ww.lamp,Bool.or_self,cond_false]
  have e2:decide ((([Nt.txt w,a,b]:List Nt).length:Int)=2)=false:=rfl
  rw [e2]
  simp only [Ac,ih1 m (by omega),ih2 m (by omega),cond_false]
  exact with_two_nt hw f g
mutual
def HB:Nt->Nat
 | .txt _=>0
 | .int _=>0
 | .tup l=>1+Ex l
def Ex:List Nt->Nat
 | []=>0
 | a::l=>HB a+Ex l
end
theorem Sent.cnt {a:Nt}{n:Nat}{f:Fm}(h:Sent a n f):HB a=n:=by
 induction h with
 | yes=>simp [HB,Ex]
 | no=>simp [HB,Ex]
 | lamp _=>simp [lampN,HB,Ex]
 | one _ _ ih=>simp only [HB,Ex,ih];omega
 | two _ _ _ ih1 ih2=>simp only [HB,Ex,ih1,ih2];omega
theorem cntL_app:∀ a b:List Nt,Ex (a++b)=Ex a+Ex b
 | [],b=>by simp [Ex]
 | x::a,b=>by
  show HB x+Ex (a++b)=HB x+Ex a+Ex b
  rw [cntL_app a b]
  omega
def AllS (l:List Nt):Prop:=∀ x∈l,∃ n f,Sent x n f
theorem AllS.app {a b:List Nt}(h:AllS a)(g:AllS b):AllS (a++b):=fun x hx=>(qmA.mp hx).elim (h x) (g x)
theorem AllS.one {x:Nt}{n:Nat}{f:Fm}(h:Sent x n f):AllS [x]:=fun y hy=>by rw [qqA.mp hy];exact ⟨n,f,h⟩
theorem Sent.parts {x:Nt}{n:Nat}{f:Fm}(h:Sent x n f):∃ r,AE x=some ⟨r⟩/\AllS r/\Ex r+1=n/\r.length<=2:=by
 have hc:=h.cnt
 have c0:∀ (w:Str) (r:List Nt),HB (.tup (.txt w::r))=1+Ex r:=fun w r=>by simp only [HB,Ex];omega
 cases h with
 | yes=>exact ⟨_,EQ (by decide +kernel),(fun y hy=>(by cases hy)),by rw [c0] at hc;omega,by decide⟩
 | no=>exact ⟨_,EQ (by decide +kernel),(fun y hy=>(by cases hy)),by rw [c0] at hc;omega,by decide⟩
 | lamp h=>exact ⟨[],parts_lamp _,(fun y hy=>(by cases hy)),rfl,by decide⟩
 | one hw hi=>exact ⟨_,EQ (wd_one hw).lamp,.one hi,by rw [c0] at hc;omega,by simp⟩
 | two hw ha hb=>exact ⟨_,EQ (wd_two hw).lamp,AllS.app (.one ha) (.one hb),by rw [c0] at hc;omega,by simp⟩
theorem cnt_len:∀ {l:List Nt},AllS l->l.length<=Ex l
 | [],_=>qkB _
 | x::l,h=>by
  obtain ⟨n,ls,hx⟩:=h x qrA
  have e:=hx.cnt
  have p:=hx.pos
  have ih:=cnt_len (l:=l) fun y hy=>h y (qsA _ hy)
  show l.length+1<=HB x+Ex l
  omega
theorem kt (l:List Nt):isK "tuple" (ToD.to (Nt.tup l))=true:=id rfl
theorem ks (w:Str):isK "str" (ToD.to (Nt.txt w))=true:=id rfl
theorem ln0 (x:Nt)(r:List Nt):decide (((x::r).length:Int)=0)=false:=decide_eq_false (by rw [qhA];omega)
theorem lamp_abc:∀ c∈abcN,FU (one c)=some true:=by decide +kernel
theorem v_yl:decide (("yes" : Str) = "lamp")=false:=by decide +kernel
theorem v_nol:decide (("no" : Str) = "lamp")=false:=by decide +kernel
theorem g_yes:GW FB "yes" = some 0:=by decide +kernel
theorem g_no:GW FB "no" = some 0:=by decide +kernel
theorem g_one:∀ w∈W1,GW FB w=some 1:=by decide +kernel
theorem g_two:∀ w∈W2,GW FB w=some 2:=by decide +kernel
theorem form1 {x:Nt}{n:Nat}{f:Fm}(h:Sent x n f):EB x=some true:=by
 refine OK.eq ?_
 unfold EB
 cases h with
 | yes =>
  simp only [quB,Ac,AK,BC,at0,C0,kt,ks,ln0,Bool.not_true,cond_false,v_yl,g_yes,Option.isSome_some,cond_true]
  exact AH rfl
 | no =>
  simp only [quB,Ac,AK,BC,at0,C0,kt,ks,ln0,Bool.not_true,cond_false,v_nol,g_no,Option.isSome_some,cond_true]
  exact AH rfl
 | @lamp c hc =>
  unfold lampN
  simp only [quB,Ac,AK,BC,at0,at1,C0,kt,ks,ln0,Bool.not_true,cond_false,lamp_abc c hc]
  exact Ap (fun _=>Ap (fun _=>AH rfl) fun h=>absurd rfl (of_decide_eq_false h)) fun h=>absurd trivial (of_decide_eq_false h)
 | @one w a n f hw hi =>
  simp only [quB,Ac,AK,BC,at0,C0,kt,ks,ln0,Bool.not_true,cond_false,decide_eq_false (wd_one hw).lamp,g_one w hw,Option.isSome_some,cond_true]
  exact AH rfl
 | @two w a b n m f g hw ha hb =>
  simp only [quB,Ac,AK,BC,at0,C0,kt,ks,ln0,Bool.not_true,cond_false,decide_eq_false (wd_two hw).lamp,g_two w hw,Option.isSome_some,cond_true]
  exact AH rfl
theorem sent_ok {x:Nt}{n:Nat}{f:Fm}(h:Sent x n f)(hn:n<=24):CS x=some true:=by
 have hs:sizeLine=16777216:=qtB
 refine OK.eq ?_
 unfold CS
 simp only [quB,Ac,AK]
 refine AG (ok_while (fun s:List Nt × Int=>∃ done todo,s.1=done++todo/\s.2=((done.length:Nat):Int)/\AllS todo/\done.length+Ex todo=n) (fun _=>False) (fun r=>r=true) (fun s=>n - s.2.toNat) ⟨[],[x],rfl,rfl,AllS.one h,?_⟩ (by dsimp only;omega) (fun s ⟨done,todo,e1,e2,e3,e4⟩=>?_) (fun _ h=>h.elim) fun r hr=>AH hr)
 ·show 0+(HB x+0)=n
  rw [h.cnt]
  omega
 ·refine AH ?_
  have e7:s.1.length=done.length+todo.length:=by rw [e1,qgA]
  have e8:=cnt_len e3
  cases todo with
  | nil =>
   rw [decide_eq_false (by rw [e2,e7];simp),if_neg qzB]
   exact AH rfl
  | cons y todo =>
   have e9:Ex (y::todo)=HB y+Ex todo:=rfl
   rw [qhA] at e7 e8
   rw [decide_eq_true (by rw [e2,e7];omega),if_pos rfl]
   have ex:atI s.1 s.2=some y:=by
    rw [e2]
    refine BS ?_
    rw [e1,qyA (qkB _),Nat.sub_self]
    rfl
   obtain ⟨k,ms,py⟩:=e3 y qrA
   have ey:=py.cnt
   have htodo:AllS todo:=fun z hz=>e3 z (qsA _ hz)
   simp only [ex,Ac,form1 py]
   rw [decide_eq_false (by omega),cond_false,Bool.not_true]
   simp only [Ac,cond_false]
   obtain ⟨r,hr1,hr2,hr3,hr4⟩:=py.parts
   rw [hr1]
   simp only [Ac]
   refine ok_bC _ (if_pos (by omega)) (AH ⟨⟨done++[y],todo++r,?_,?_,htodo.app hr2,?_⟩,?_⟩)
   ·dsimp only
    rw [e1]
    simp
   ·dsimp only
    rw [e2,qgA]
    rfl
   ·rw [qgA,cntL_app,qiA]
    omega
   ·dsimp only
    rw [e2]
    have:=py.pos
    omega
theorem Fm.dep_pos (a:Fm):1<=a.dep:=by cases a<;>simp only [Fm.dep]<;>omega
def Fm.sub:Fm->List Fm
 | .yes=>[.yes]
 | .lamp c=>[.lamp c]
 | .neg a=>.neg a::a.sub
 | .next a=>.next a::a.sub
 | .and a b=>.and a b::(a.sub++b.sub)
 | .unt a b=>.unt a b::(a.sub++b.sub)
theorem EK:∀ {f g:Fm},g∈f.sub->g.size<=f.size
 | .yes,g,h=>by rw [qqA.mp h];exact qkB _
 | .lamp _,g,h=>by rw [qqA.mp h];exact qkB _
 | .neg a,g,h=>by
  rcases qnA.mp h with e|h
  ·rw [e];exact qkB _
  ·have:=EK h;simp only [Fm.size];omega
 | .next a,g,h=>by
  rcases qnA.mp h with e|h
  ·rw [e];exact qkB _
  ·have:=EK h;simp only [Fm.size];omega
 | .and a b,g,h=>by
  rcases qnA.mp h with e|h
  ·rw [e];exact qkB _
  ·rcases qmA.mp h with h|h<;>(have:=EK h;simp only [Fm.size];omega)
 | .unt a b,g,h=>by
  rcases qnA.mp h with e|h
  ·rw [e];exact qkB _
  ·rcases qmA.mp h with h|h<;>(have:=EK h;simp only [Fm.size];omega)
theorem sub_self (f:Fm):f∈f.sub:=by cases f<;>simp [Fm.sub]
theorem w1:("not" : Str) ≠ "next" := by decide +kernel
theorem w2:("and" : Str) ≠ "until" := by decide +kernel
def R1 (fs:List Fm)(k:Nat)(r:Tp SI):Fm->Prop
 | .yes=>r=⟨[.s "yes"]⟩
 | .lamp c=>r=⟨[.s "lamp",.s c]⟩
 | .neg a=>∃ i:Nat,i<k/\fs[i]? = some a/\r=⟨[.s "not",.i (i:Int)]⟩
 | .next a=>∃ i:Nat,i<k/\fs[i]? = some a/\r=⟨[.s "next",.i (i:Int)]⟩
 | .and a b=>∃ i j:Nat,i<k/\j<k/\fs[i]? = some a/\fs[j]? = some b/\r=⟨[.s "and",.i (i:Int),.i (j:Int)]⟩
 | .unt a b=>∃ i j:Nat,i<k/\j<k/\fs[i]? = some a/\fs[j]? = some b/\r=⟨[.s "until",.i (i:Int),.i (j:Int)]⟩
def Dif (fs:List Fm):Prop:=∀ (i j:Nat) (f:Fm),fs[i]? = some f->fs[j]? = some f->i=j
def Bk (L:List (Tp SI))(fs:List Fm):Prop:=L.length=fs.length/\∀ (k:Nat) (r:Tp SI) (f:Fm),L[k]? = some r->fs[k]? = some f->R1 fs k r f
theorem EU {α:Type}{l m:List α}{k:Nat}{a:α}(h:l[k]? = some a):(l++m)[k]? = some a:=by
 rw [qxA (qvA.mp h).1]
 exact h
theorem FN {α:Type}{l:List α}{k:Nat}{a:α}(h:l[k]? = some a):k<l.length:=(qvA.mp h).1
theorem R1.app {fs gs:List Fm}{k k':Nat}{r:Tp SI}{f:Fm}(h:R1 fs k r f)(hk:k<=k'):R1 (fs++gs) k' r f:=by
 cases f with
 | yes=>exact h
 | lamp c=>exact h
 | neg a=>obtain ⟨i,h1,h2,e⟩:=h;exact ⟨i,by omega,EU h2,e⟩
 | next a=>obtain ⟨i,h1,h2,e⟩:=h;exact ⟨i,by omega,EU h2,e⟩
 | and a b=>obtain ⟨i,j,h1,h2,h3,h4,e⟩:=h;exact ⟨i,j,by omega,by omega,EU h3,EU h4,e⟩
 | unt a b=>obtain ⟨i,j,h1,h2,h3,h4,e⟩:=h;exact ⟨i,j,by omega,by omega,EU h3,EU h4,e⟩
theorem row1_inj {w w':Str}{i j:Nat}(e:(Tp.mk [SI.s w,SI.i (i:Int)])=Tp.mk [SI.s w',SI.i (j:Int)]):w=w'/\i=j:=by
 have e1:=Tp.mk.inj e
 injection e1 with e2 e3
 injection e3 with e4 e5
 injection e4 with e4
 injection e2 with e2
 exact ⟨e2,by omega⟩
theorem Fa {w w':Str}{i j i' j':Nat}(e:(Tp.mk [SI.s w,SI.i (i:Int),SI.i (j:Int)])=Tp.mk [SI.s w',SI.i (i':Int),SI.i (j':Int)]):w=w'/\i=i'/\j=j':=by
 have e1:=Tp.mk.inj e
 injection e1 with e2 e3
 injection e3 with e4 e5
 injection e5 with e6 e7
 injection e6 with e6
 injection e4 with e4
 injection e2 with e2
 exact ⟨e2,by omega,by omega⟩
theorem R1.fn {fs:List Fm}{k k':Nat}{r:Tp SI}{f f':Fm}(h:R1 fs k r f)(h':R1 fs k' r f'):f=f':=by
 cases f with
 | yes =>
  subst h
  cases f' with
  | yes=>rfl
  | lamp c=>cases (show (_:Tp SI)=_ from h')
  | neg a=>obtain ⟨i,_,_,e⟩:=h';cases e
  | next a=>obtain ⟨i,_,_,e⟩:=h';cases e
  | and a b=>obtain ⟨i,j,_,_,_,_,e⟩:=h';cases e
  | unt a b=>obtain ⟨i,j,_,_,_,_,e⟩:=h';cases e
 | lamp c =>
  subst h
  cases f' with
  | yes=>cases (show (_:Tp SI)=_ from h')
  | lamp c' =>
   have e:=(qhC (qhC (Tp.mk.inj (show (_:Tp SI)=_ from h'))).2).1
   rw [SI.s.inj e]
  | neg a=>obtain ⟨i,_,_,e⟩:=h';have e:=(qhC (qhC (Tp.mk.inj e)).2).1;cases e
  | next a=>obtain ⟨i,_,_,e⟩:=h';have e:=(qhC (qhC (Tp.mk.inj e)).2).1;cases e
  | and a b=>obtain ⟨i,j,_,_,_,_,e⟩:=h';have e:=(qhC (qhC (Tp.mk.inj e)).2).1;cases e
  | unt a b=>obtain ⟨i,j,_,_,_,_,e⟩:=h';have e:=(qhC (qhC (Tp.mk.inj e)).2).1;cases e
 | neg a =>
  obtain ⟨i,_,hi,rfl⟩:=h
  cases f' with
  | yes=>cases (show (_:Tp SI)=_ from h')
  | lamp c=>have e:=(qhC (qhC (Tp.mk.inj (show (_:Tp SI)=_ from h'))).2).1;cases e
  | neg a'=>obtain ⟨j,_,hj,e⟩:=h';rw [(row1_inj e).2,hj] at hi;rw [qpB hi]
  | next a'=>obtain ⟨j,_,hj,e⟩:=h';exact absurd (row1_inj e).1 w1
  | and a b=>obtain ⟨i,j,_,_,_,_,e⟩:=h';have e:=(qhC (qhC (Tp.mk.inj e)).2).2;cases e
  | unt a b=>obtain ⟨i,j,_,_,_,_,e⟩:=h';have e:=(qhC (qhC (Tp.mk.inj e)).2).2;cases e
 | next a =>
  obtain ⟨i,_,hi,rfl⟩:=h
  cases f' with
  | yes=>cases (show (_:Tp SI)=_ from h')
  | lamp c=>have e:=(qhC (qhC (Tp.mk.inj (show (_:Tp SI)=_ from h'))).2).1;cases e
  | neg a'=>obtain ⟨j,_,hj,e⟩:=h';exact absurd (row1_inj e).1.symm w1
  | next a'=>obtain ⟨j,_,hj,e⟩:=h';rw [(row1_inj e).2,hj] at hi;rw [qpB hi]
  | and a b=>obtain ⟨i,j,_,_,_,_,e⟩:=h';have e:=(qhC (qhC (Tp.mk.inj e)).2).2;cases e
  | unt a b=>obtain ⟨i,j,_,_,_,_,e⟩:=h';have e:=(qhC (qhC (Tp.mk.inj e)).2).2;cases e
 | and a b =>
  obtain ⟨i,j,_,_,hi,hj,rfl⟩:=h
  cases f' with
  | yes=>cases (show (_:Tp SI)=_ from h')
  | lamp c=>have e:=(qhC (qhC (Tp.mk.inj (show (_:Tp SI)=_ from h'))).2).1;cases e
  | neg a'=>obtain ⟨j,_,hj,e⟩:=h';have e:=(qhC (qhC (Tp.mk.inj e)).2).2;cases e
  | next a'=>obtain ⟨j,_,hj,e⟩:=h';have e:=(qhC (qhC (Tp.mk.inj e)).2).2;cases e
  | and a b=>obtain ⟨i',j',_,_,hi',hj',e⟩:=h';rw [(Fa e).2.1,hi'] at hi;rw [(Fa e).2.2,hj'] at hj;rw [qpB hi,qpB hj]
  | unt a b=>obtain ⟨i',j',_,_,hi',hj',e⟩:=h';exact absurd (Fa e).1 w2
 | unt a b =>
  obtain ⟨i,j,_,_,hi,hj,rfl⟩:=h
  cases f' with
  | yes=>cases (show (_:Tp SI)=_ from h')
  | lamp c=>have e:=(qhC (qhC (Tp.mk.inj (show (_:Tp SI)=_ from h'))).2).1;cases e
  | neg a'=>obtain ⟨j,_,hj,e⟩:=h';have e:=(qhC (qhC (Tp.mk.inj e)).2).2;cases e
  | next a'=>obtain ⟨j,_,hj,e⟩:=h';have e:=(qhC (qhC (Tp.mk.inj e)).2).2;cases e
  | and a b=>obtain ⟨i',j',_,_,hi',hj',e⟩:=h';exact absurd (Fa e).1.symm w2
  | unt a b=>obtain ⟨i',j',_,_,hi',hj',e⟩:=h';rw [(Fa e).2.1,hi'] at hi;rw [(Fa e).2.2,hj'] at hj;rw [qpB hi,qpB hj]
theorem R1.inj {fs:List Fm}{k k':Nat}{r r':Tp SI}{f:Fm}(hd:Dif fs)(h:R1 fs k r f)(h':R1 fs k' r' f):r=r':=by
 cases f with
 | yes=>rw [show r=_ from h,show r'=_ from h']
 | lamp c=>rw [show r=_ from h,show r'=_ from h']
 | neg a=>obtain ⟨i,_,h1,e⟩:=h;obtain ⟨j,_,h2,e'⟩:=h';rw [e,e',hd i j a h1 h2]
 | next a=>obtain ⟨i,_,h1,e⟩:=h;obtain ⟨j,_,h2,e'⟩:=h';rw [e,e',hd i j a h1 h2]
 | and a b=>obtain ⟨i,j,_,_,h1,h2,e⟩:=h;obtain ⟨i',j',_,_,h1',h2',e'⟩:=h';rw [e,e',hd i i' a h1 h1',hd j j' b h2 h2']
 | unt a b=>obtain ⟨i,j,_,_,h1,h2,e⟩:=h;obtain ⟨i',j',_,_,h1',h2',e'⟩:=h';rw [e,e',hd i i' a h1 h1',hd j j' b h2 h2']
theorem Fb {α:Type}{l:List α}{a b:α}{k:Nat}(h:(l++[a])[k]? = some b):l[k]? = some b\/(k=l.length/\a=b):=by
 by_cases hk:k<l.length
 ·rw [qxA hk] at h
  exact .inl h
 ·rw [qyA (by omega)] at h
  have h0:k - l.length=0:=by
   have:=FN h
   simp at this
   omega
  rw [h0] at h
  exact .inr ⟨by omega,qpB h⟩
theorem Bk.snoc {L:List (Tp SI)}{fs:List Fm}{r:Tp SI}{f:Fm}(hb:Bk L fs)(hr:R1 fs L.length r f):Bk (L++[r]) (fs++[f]):=by
 have hl:=hb.1
 refine ⟨by rw [qgA,qgA,hl];rfl,fun k r' f' h1 h2=>?_⟩
 rcases Fb h1 with h1 | ⟨e1,e2⟩
 ·have hk:=FN h1
  rcases Fb h2 with h2 | ⟨e3,e4⟩
  ·exact (hb.2 k r' f' h1 h2).app (qkB _)
  ·omega
 ·rcases Fb h2 with h2 | ⟨e3,e4⟩
  ·have:=FN h2
   omega
  ·subst e2
   subst e4
   rw [e1]
   exact hr.app (qkB _)
theorem Dif.snoc {fs:List Fm}{f:Fm}(h:Dif fs)(hf:∀ m:Nat,fs[m]?≠some f):Dif (fs++[f]):=by
 intro i j g hi hj
 rcases Fb hi with h1 | ⟨e1,e2⟩
 ·rcases Fb hj with h2 | ⟨e3,e4⟩
  ·exact h i j g h1 h2
  ·exact absurd (e4 ▸ h1) (hf i)
 ·rcases Fb hj with h2 | ⟨e3,e4⟩
  ·exact absurd (e2 ▸ h2) (hf j)
  ·omega
theorem Bk.nil:Bk [] []:=⟨rfl,fun k r f h _=>by simp at h⟩
theorem Dif.nil:Dif []:=fun i j f h _=>by simp at h
theorem Bk.at {L:List (Tp SI)}{fs:List Fm}(hb:Bk L fs){k:Nat}{f:Fm}(h:fs[k]? = some f):∃ r,L[k]? = some r/\R1 fs k r f:=by
 have hk:k<L.length:=by rw [hb.1];exact FN h
 exact ⟨L[k],qwA hk,hb.2 k _ f (qwA hk) h⟩
theorem Bk.at' {L:List (Tp SI)}{fs:List Fm}(hb:Bk L fs){k:Nat}{r:Tp SI}(h:L[k]? = some r):∃ f,fs[k]? = some f/\R1 fs k r f:=by
 have hk:k<fs.length:=by rw [<- hb.1];exact FN h
 exact ⟨fs[k],qwA hk,hb.2 k r _ h (qwA hk)⟩
theorem Bk.subs {L:List (Tp SI)}{fs:List Fm}(hb:Bk L fs):∀ {f g:Fm}{k:Nat},fs[k]? = some f->g∈f.sub->∃ i,i<=k/\fs[i]? = some g
 | .yes,g,k,h,hg=>by rw [qqA.mp hg];exact ⟨k,qkB _,h⟩
 | .lamp c,g,k,h,hg=>by rw [qqA.mp hg];exact ⟨k,qkB _,h⟩
 | .neg a,g,k,h,hg=>by
  rcases qnA.mp hg with e|hg
  ·rw [e];exact ⟨k,qkB _,h⟩
  ·obtain ⟨r,_,i,h1,h2,_⟩:=hb.at h
   obtain ⟨j,h3,h4⟩:=hb.subs h2 hg
   exact ⟨j,by omega,h4⟩
 | .next a,g,k,h,hg=>by
  rcases qnA.mp hg with e|hg
  ·rw [e];exact ⟨k,qkB _,h⟩
  ·obtain ⟨r,_,i,h1,h2,_⟩:=hb.at h
   obtain ⟨j,h3,h4⟩:=hb.subs h2 hg
   exact ⟨j,by omega,h4⟩
 | .and a b,g,k,h,hg=>by
  rcases qnA.mp hg with e|hg
  ·rw [e];exact ⟨k,qkB _,h⟩
  ·obtain ⟨r,_,i,i',h1,h1',h2,h2',_⟩:=hb.at h
   rcases qmA.mp hg with hg|hg
   ·obtain ⟨j,h3,h4⟩:=hb.subs h2 hg
    exact ⟨j,by omega,h4⟩
   ·obtain ⟨j,h3,h4⟩:=hb.subs h2' hg
    exact ⟨j,by omega,h4⟩
 | .unt a b,g,k,h,hg=>by
  rcases qnA.mp hg with e|hg
  ·rw [e];exact ⟨k,qkB _,h⟩
  ·obtain ⟨r,_,i,i',h1,h1',h2,h2',_⟩:=hb.at h
   rcases qmA.mp hg with hg|hg
   ·obtain ⟨j,h3,h4⟩:=hb.subs h2 hg
    exact ⟨j,by omega,h4⟩
   ·obtain ⟨j,h3,h4⟩:=hb.subs h2' hg
    exact ⟨j,by omega,h4⟩
theorem idx_get (r:Tp SI):∀ (rows:List (Tp SI)) (i:Nat) (n:Int),Hg i rows r=some n->∃ j,n=((i+j:Nat):Int)/\rows[j]? = some r
 | [],i,n,h=>by cases h
 | a::rs,i,n,h=>by
  unfold Hg at h
  by_cases e:a=r
  ·rw [if_pos e] at h
   cases h
   exact ⟨0,rfl,by rw [e];rfl⟩
  ·rw [if_neg e] at h
   obtain ⟨j,h1,h2⟩:=idx_get r rs (i+1) n h
   refine ⟨j+1,?_,h2⟩
   rw [h1]
   congr 1
   omega
theorem idx_none (r:Tp SI):∀ (rows:List (Tp SI)) (i:Nat),Hg i rows r=none->∀ j:Nat,rows[j]?≠some r
 | [],i,h,j=>by simp
 | a::rs,i,h,j=>by
  unfold Hg at h
  by_cases e:a=r
  ·rw [if_pos e] at h
   cases h
  ·rw [if_neg e] at h
   cases j with
   | zero=>intro z;exact e (qpB z)
   | succ j=>exact idx_none r rs (i+1) h j
theorem step {L:List (Tp SI)}{fs:List Fm}{r:Tp SI}{f:Fm}(hb:Bk L fs)(hd:Dif fs)(hr:R1 fs L.length r f)(hl:L.length<100000) :
  (∃ m:Nat,fs[m]? = some f/\CF L ⟨r.l⟩=some (L,(m:Int))) \/
  ((∀ m:Nat,fs[m]?≠some f)/\CF L ⟨r.l⟩=some (L++[r],(L.length:Int))/\Bk (L++[r]) (fs++[f])/\Dif (fs++[f])):=by
 have hz:sizeLine=16777216:=qtB
 have hrow:CF L ⟨r.l⟩=match Hg 0 L r with|some n=>some (L,n)|none=>if L.length<sizeLine then some (L++[r],(L.length:Int)) else none:=rfl
 cases e:Hg 0 L r with
 | some n =>
  obtain ⟨j,h1,h2⟩:=idx_get r L 0 n e
  obtain ⟨g,h3,h4⟩:=hb.at' h2
  rw [h4.fn hr] at h3
  refine .inl ⟨j,h3,?_⟩
  rw [hrow,e,h1,Nat.zero_add]
 | none =>
  have hn:=idx_none r L 0 e
  have hf:∀ m:Nat,fs[m]?≠some f:=fun m hm=>by
   obtain ⟨r',h1,h2⟩:=hb.at hm
   rw [h2.inj hd hr] at h1
   exact hn m h1
  refine .inr ⟨hf,?_,hb.snoc hr,hd.snoc hf⟩
  rw [hrow,e]
  exact if_pos (by omega)
def Got (L:List (Tp SI))(fs:List Fm)(f:Fm)(o:Option (List (Tp SI) × Int)):Prop :=
 ∃ (L':List (Tp SI)) (fs':List Fm) (k:Nat),o=some (L++L',(k:Int))/\Bk (L++L') (fs++fs')/\Dif (fs++fs')/\(fs++fs')[k]? = some f/\(∀ g∈fs',g∈f.sub)/\L'.length<=f.size /\
  ((∃ m:Nat,fs[m]? = some f)->L'=[]/\fs'=[])/\((∀ m:Nat,fs[m]?≠some f)->k+1=(L++L').length)
theorem fin {L L':List (Tp SI)}{fs fs':List Fm}{r:Tp SI}{f:Fm}(hb:Bk (L++L') (fs++fs'))(hd:Dif (fs++fs'))(hs:∀ g∈fs',g∈f.sub/\g.size<f.size)(hn:L'.length+1<=f.size)
  (hf:(∃ m:Nat,fs[m]? = some f)->L'=[]/\fs'=[]) (hr:R1 (fs++fs') (L++L').length r f) (hl:(L++L').length<100000):Got L fs f (CF (L++L') ⟨r.l⟩):=by
 rcases step hb hd hr hl with ⟨m,h1,h2⟩ | ⟨h1,h2,h3,h4⟩
 ·refine ⟨L',fs',m,h2,hb,hd,h1,fun g hg=>(hs g hg).1,by omega,hf,fun hno=>?_⟩
  exfalso
  by_cases hm:m<fs.length
  ·rw [qxA hm] at h1
   exact hno m h1
  ·rw [qyA (by omega)] at h1
   have:=(hs f (quA h1)).2
   omega
 ·refine ⟨L'++[r],fs'++[f],(L++L').length,by rw [h2,qeB],by rw [<- qeB,<- qeB];exact h3,by rw [<- qeB];exact h4,?_,?_,by rw [qgA];exact hn,?_,fun _=>by rw [<- qeB,qgA (as:=L++L')];rfl⟩
  ·rw [<- qeB,hb.1]
   simp
  ·intro g hg
   rcases qmA.mp hg with hg|hg
   ·exact (hs g hg).1
   ·rw [qqA.mp hg]
    exact sub_self f
  ·rintro ⟨m,hm⟩
   exact absurd (EU hm) (h1 m)
theorem lay_succ (n:Nat)(rows:List (Tp SI))(a:Nt):BW AE (n+1) rows a=(BC a).bind fun t=>(atI t.l 0).bind fun b=>(C0 b).bind fun w =>
   cond (decide (w = "lamp")) ((sisO t.l).bind fun l=>CF rows ⟨l⟩)
   ((AE a).bind fun ps=>(CH (HR (BW AE n)) ps.l (rows,[.s w])).bind fun z=>layE z):=rfl
theorem Dl {n:Nat}{w:Str}{l:List Nt}(hw:w ≠ "lamp")(rows:List (Tp SI)):BW AE (n+1) rows (.tup (.txt w::l))=(CH (HR (BW AE n)) l (rows,[.s w])).bind fun z=>layE z:=by
 rw [lay_succ]
 simp only [BC,Ac,at0,C0,decide_eq_false hw,cond_false,EQ hw]
theorem lay_lamp {n:Nat}(c:Str)(rows:List (Tp SI)):BW AE (n+1) rows (.tup [.txt "lamp",.txt c])=CF rows ⟨[.s "lamp",.s c]⟩:=by
 rw [lay_succ]
 simp only [BC,Ac,at0,C0,decide_true,cond_true]
 rfl
theorem layF_eq {lay:List (Tp SI)->Nt->Option (List (Tp SI) × Int)}{a:Nt}{s:List (Tp SI) × List SI}{z:List (Tp SI) × Int}(h:lay s.1 a=some z)(hl:s.2.length<=10):HR lay a s=some (.nx (z.1,s.2++[.i z.2])):=by
 have hz:sizeLine=16777216:=qtB
 unfold HR
 rw [h,Ac,if_pos (by omega)]
theorem fl_one {lay:List (Tp SI)->Nt->Option (List (Tp SI) × Int)}{a:Nt}{rows:List (Tp SI)}{w:Str}{z:List (Tp SI) × Int}(h:lay rows a=some z) :
  ((CH (HR lay) [a] (rows,[.s w])).bind fun z=>layE z)=CF z.1 ⟨[.s w,.i z.2]⟩:=by
 have e:=layF_eq (s:=(rows,[.s w])) h (by simp)
 show (((HR lay a (rows,[.s w])).bind fun fl=>_).bind _)=_
 rw [e]
 rfl
theorem fl_two {lay:List (Tp SI)->Nt->Option (List (Tp SI) × Int)}{a b:Nt}{rows:List (Tp SI)}{w:Str}{z y:List (Tp SI) × Int}(h:lay rows a=some z)(h2:lay z.1 b=some y) :
  ((CH (HR lay) [a,b] (rows,[.s w])).bind fun z=>layE z)=CF y.1 ⟨[.s w,.i z.2,.i y.2]⟩:=by
 have e:=layF_eq (s:=(rows,[.s w])) h (by simp)
 have e2:=layF_eq (s:=(z.1,[.s w]++[.i z.2])) h2 (by simp)
 show (((HR lay a (rows,[.s w])).bind fun fl=>_).bind _)=_
 rw [e]
 show (((HR lay b (z.1,[.s w]++[.i z.2])).bind fun fl=>_).bind _)=_
 rw [e2]
 rfl
theorem nl:(("yes" : Str) ≠ "lamp" /\ ("not" : Str) ≠ "lamp" /\ ("next" : Str) ≠ "lamp")/\("and" : Str) ≠ "lamp" /\ ("until" : Str) ≠ "lamp" := by decide +kernel
theorem Gv:∀ (n:Nat) (f:Fm) (L:List (Tp SI)) (fs:List Fm),f.dep<=n->Bk L fs->Dif fs->L.length+f.size<100000->Got L fs f (BW AE n L f.nt)
 | 0,f,L,fs,hd,_,_,_=>absurd hd (by have:=f.dep_pos;omega)
 | n+1,f,L,fs,hdp,hb,hd,hl=>by
  have one:∀ (w:Str) (a f:Fm),w ≠ "lamp" -> f.sub=f::a.sub->f.size=a.size+1->a.dep<=n->L.length+f.size<100000 ->
    (∀ {fs k r},R1 fs k r f ↔ ∃ i:Nat,i<k/\fs[i]? = some a/\r=⟨[.s w,.i (i:Int)]⟩)->Got L fs f (BW AE (n+1) L (.tup [.txt w,a.nt])):=fun w a f hw hsub hsz hdp hl hR=>by
   rw [Dl hw]
   obtain ⟨L1,fs1,k1,h1,h2,h3,h4,h5,h6,h7,h8⟩:=Gv n a L fs hdp hb hd (by omega)
   rw [fl_one h1]
   refine fin (r:=⟨[.s w,.i (k1:Int)]⟩) h2 h3 (fun g hg=>⟨by rw [hsub];exact qsA _ (h5 g hg),?_⟩) (by omega) (fun ⟨m,hm⟩=>?_) (hR.mpr ⟨k1,?_,h4,rfl⟩) (by rw [qgA];omega)
   ·have:=EK (h5 g hg);omega
   ·obtain ⟨r,_,hr⟩:=hb.at hm
    obtain ⟨i,_,hi,_⟩:=hR.mp hr
    exact h7 ⟨i,hi⟩
   ·rw [h2.1];exact FN h4
  have two:∀ (w:Str) (a b f:Fm),w ≠ "lamp" -> f.sub=f::(a.sub++b.sub)->f.size=a.size+b.size+1->a.dep<=n->b.dep<=n->L.length+f.size<100000 ->
    (∀ {fs k r},R1 fs k r f ↔ ∃ i j:Nat,i<k/\j<k/\fs[i]? = some a/\fs[j]? = some b/\r=⟨[.s w,.i (i:Int),.i (j:Int)]⟩)->Got L fs f (BW AE (n+1) L (.tup [.txt w,a.nt,b.nt])):=fun w a b f hw hsub hsz hdp hdp2 hl hR=>by
   rw [Dl hw]
   obtain ⟨L1,fs1,k1,h1,h2,h3,h4,h5,h6,h7,h8⟩:=Gv n a L fs hdp hb hd (by omega)
   obtain ⟨L2,fs2,k2,i1,i2,i3,i4,i5,i6,i7,i8⟩:=Gv n b (L++L1) (fs++fs1) hdp2 h2 h3 (by rw [qgA];omega)
   rw [fl_two h1 i1]
   dsimp only
   rw [qeB] at i2 i3 i4 ⊢
   rw [qeB] at i2
   have k1':(fs++(fs1++fs2))[k1]? = some a:=by rw [<- qeB];exact EU h4
   refine fin (r:=⟨[.s w,.i (k1:Int),.i (k2:Int)]⟩) i2 i3 (fun g hg=>?_) (by rw [qgA];omega) (fun ⟨m,hm⟩=>?_) (hR.mpr ⟨k1,k2,?_,?_,k1',i4,rfl⟩) (by rw [qgA,qgA];omega)
   ·rcases qmA.mp hg with hg|hg
    ·exact ⟨by rw [hsub];exact qsA _ (List.mem_append_left _ (h5 g hg)),by have:=EK (h5 g hg);omega⟩
    ·exact ⟨by rw [hsub];exact qsA _ (qnC _ (i5 g hg)),by have:=EK (i5 g hg);omega⟩
   ·obtain ⟨r,_,hr⟩:=hb.at hm
    obtain ⟨i,j,_,_,hi,hj,_⟩:=hR.mp hr
    obtain ⟨e1,e2⟩:=h7 ⟨i,hi⟩
    obtain ⟨e3,e4⟩:=i7 ⟨j,EU hj⟩
    rw [e1,e2,e3,e4]
    exact ⟨rfl,rfl⟩
   ·rw [i2.1];exact FN k1'
   ·rw [i2.1];exact FN i4
  have zero:∀ (r:Tp SI) (f:Fm),f.size=1->R1 fs L.length r f->L.length+1<100000->Got L fs f (CF L ⟨r.l⟩):=fun r f hs hr hl=>by
   have:=fin (L:=L) (L':=[]) (fs:=fs) (fs':=[]) (r:=r) (f:=f) (by simpa using hb) (by simpa using hd) (fun g hg=>nomatch hg) (by simp [hs]) (fun _=>⟨rfl,rfl⟩) (by simpa using hr) (by simp;omega)
   rwa [qfB] at this
  cases f with
  | yes =>
   show Got _ _ _ (BW AE (n+1) L (.tup [.txt "yes"]))
   rw [Dl nl.1.1]
   exact zero ⟨[.s "yes"]⟩ .yes rfl rfl hl
  | lamp c =>
   show Got _ _ _ (BW AE (n+1) L (.tup [.txt "lamp",.txt c]))
   rw [lay_lamp]
   exact zero ⟨[.s "lamp",.s c]⟩ (.lamp c) rfl rfl hl
  | neg a=>exact one "not" a (.neg a) nl.1.2.1 rfl rfl (by simp only [Fm.dep] at hdp;omega) hl Iff.rfl
  | next a=>exact one "next" a (.next a) nl.1.2.2 rfl rfl (by simp only [Fm.dep] at hdp;omega) hl Iff.rfl
  | and a b=>exact two "and" a b (.and a b) nl.2.1 rfl rfl (by simp only [Fm.dep] at hdp;omega) (by simp only [Fm.dep] at hdp;omega) hl Iff.rfl
  | unt a b=>exact two "until" a b (.unt a b) nl.2.2 rfl rfl (by simp only [Fm.dep] at hdp;omega) (by simp only [Fm.dep] at hdp;omega) hl Iff.rfl
inductive Rw (n:Nat):Tp SI->Prop where
 | yes:Rw n ⟨[.s "yes"]⟩
 | lamp (c:Str):Rw n ⟨[.s "lamp",.s c]⟩
 | one {w:Str}{i:Nat}:w = "not" \/ w = "next" -> i<n->Rw n ⟨[.s w,.i (i:Int)]⟩
 | two {w:Str}{i j:Nat}:w = "and" \/ w = "until" -> i<n->j<n->Rw n ⟨[.s w,.i (i:Int),.i (j:Int)]⟩
theorem Gb (w:Str)(l:List SI):atI (SI.s w::l) (0:Int)=some (SI.s w):=BS (j:=0) rfl
theorem at_s1 (a b:SI)(l:List SI):atI (a::b::l) (1:Int)=some b:=BS (j:=1) rfl
theorem at_s2 (a b c:SI)(l:List SI):atI (a::b::c::l) (2:Int)=some c:=BS (j:=2) rfl
def ER (rows:List (Tp SI)):Prop:=∀ k r,rows[k]? = some r->Rw k r
def wd (r:Tp SI):Str:=((r.l.head?).bind asS).getD ""
theorem Rw.word {n:Nat}{r:Tp SI}(h:Rw n r):∃ l,r=⟨.s (wd r)::l⟩:=by
 cases h<;>exact ⟨_,rfl⟩
theorem nw:∀ w:Str,w = "not" \/ w = "next" -> w ≠ "yes" /\ w ≠ "lamp" /\ w ≠ "and" /\ w ≠ "until" := by
 rintro w (rfl|rfl)<;>exact ⟨by decide +kernel,by decide +kernel,by decide +kernel,by decide +kernel⟩
theorem nw2:∀ w:Str,w = "and" \/ w = "until" -> w ≠ "yes" /\ w ≠ "lamp" /\ w ≠ "not" /\ w ≠ "next" := by
 rintro w (rfl|rfl)<;>exact ⟨by decide +kernel,by decide +kernel,by decide +kernel,by decide +kernel⟩
def g (l:List Bool)(p:Nat):Bool:=l.getD p false
theorem at_g {l:List Bool}{p:Nat}(h:p<l.length):atI l (p:Int)=some (g l p):=BS (by unfold g;simp [h])
def isU (rows:List (Tp SI))(k:Nat):Bool:=decide (wd (rows.getD k ⟨[]⟩) = "until")
def hs (rows:List (Tp SI))(n:Nat):List Int:=((List.range n).filter (isU rows)).map fun (k:Nat)=>(k:Int)
theorem enumI_rows (rows:List (Tp SI)):BM 0 rows=(List.range rows.length).map fun (k:Nat)=>((k:Int),rows.getD k ⟨[]⟩):=by
 refine List.ext_getElem? fun i=>?_
 rw [DZ,qaB]
 by_cases h:i<rows.length
 ·simp [h]
 ·rw [qzA (by omega),qzA (by rw [qjA];omega)]
  rfl
theorem hopes_eq (rows:List (Tp SI))(hb:ER rows):FA rows=some (hs rows rows.length):=by
 refine OK.eq ?_
 unfold FA
 simp only [quB,Ac,AK]
 refine Fd (c:=fun p:Int × Tp SI=>decide (wd p.2 = "until")) (g:=fun p=>p.1) (fun p hp=>?_) (fun _ _ _=>rfl) ?_
 ·obtain ⟨i,hi⟩:=List.mem_iff_getElem?.mp hp
  rw [DZ] at hi
  obtain ⟨r,hr,rfl⟩:=qoB.mp hi
  obtain ⟨l,el⟩:=(hb i r hr).word
  have e1:atI r.l (0:Int)=some (.s (wd r)):=by
   rw [el]
   exact Gb _ _
  simp only [e1,asS,Ac]
 ·rw [enumI_rows,List.filter_map,List.map_map]
  rfl
theorem sortZ_eq {ys zs:List Int}(hp:zs.Perm ys)(hz:zs.Pairwise (· <= ·)):HZ ys=zs:=(sortZ_of hp hz).symm
theorem sort_dedZ {ys:List Int}{cs:List Nat}(hc:cs.Pairwise (· < ·))(h:∀ y,y∈ys ↔ ∃ c∈cs,y=((c:Nat):Int)):HZ (DL ys)=cs.map (fun (c:Nat)=>(c:Int))/\(DL ys).length=cs.length:=by
 have nd:(cs.map (fun (c:Nat)=>(c:Int))).Nodup:=by
  rw [List.nodup_iff_pairwise_ne]
  exact List.Pairwise.map _ (fun a b q e=>absurd q (by omega)) hc
 have hp:(cs.map (fun (c:Nat)=>(c:Int))).Perm (DL ys):=(List.perm_ext_iff_of_nodup nd (nodup_dedA ys)).mpr fun y=>by
  rw [mem_dedA,h y,qoA]
  exact ⟨fun ⟨c,hc,e⟩=>⟨c,hc,e.symm⟩,fun ⟨c,hc,e⟩=>⟨c,hc,e.symm⟩⟩
 refine ⟨sortZ_eq hp (List.Pairwise.map _ (fun a b q=>by omega) hc),?_⟩
 rw [<- hp.length_eq,qfA]
def nxt (k:Nat):Tp SI:=⟨[.s "next",.i (k:Int)]⟩
def isW (rows:List (Tp SI))(k:Nat):Bool:=isU rows k || decide (nxt k∈rows)
def ws (rows:List (Tp SI))(n:Nat):List Nat:=(List.range n).filter (isW rows)
theorem ws_pw (rows:List (Tp SI))(n:Nat):(ws rows n).Pairwise (· < ·):=List.pairwise_lt_range.sublist List.filter_sublist
theorem wsN_len (rows:List (Tp SI))(n:Nat):(ws rows n).length<=n:=by
 have:=List.length_filter_le (isW rows) (List.range n)
 rw [qjA] at this
 exact this
theorem mem_ws {rows:List (Tp SI)}{n k:Nat}:k∈ws rows n ↔ k<n/\isW rows k=true:=by unfold ws;rw [qpA,qtA]
theorem Rw.next {n:Nat}{r:Tp SI}(h:Rw n r)(hw:wd r = "next"):∃ i,i<n/\r=nxt i:=by
 have ax:∀ {x y:Str},decide (x=y)=false->x=y->False:=fun h e=>of_decide_eq_false h e
 cases h with
 | yes=>exact (ax (x := "yes") (y := "next") (by decide +kernel) hw).elim
 | lamp c=>exact (ax (x := "lamp") (y := "next") (by decide +kernel) hw).elim
 | @one w i hw' hi =>
  have e:w = "next" := hw
  subst e
  exact ⟨i,hi,rfl⟩
 | @two w i j hw' hi hj=>exact absurd hw (nw2 w hw').2.2.2
theorem nxt_lt {rows:List (Tp SI)}(hb:ER rows){k:Nat}(h:nxt k∈rows):k<rows.length:=by
 obtain ⟨i,hi⟩:=List.mem_iff_getElem?.mp h
 obtain ⟨j,hj,e⟩:=(hb i _ hi).next rfl
 have hl:=(qvA.mp hi).1
 unfold nxt at e
 injection e with e
 simp only [List.cons.injEq,SI.i.injEq,and_true,true_and] at e
 omega
theorem waits_eq (rows:List (Tp SI))(hb:ER rows)(hl:rows.length<=900)(hw:(ws rows rows.length).length<64):EG rows=some ((ws rows rows.length).map fun (k:Nat)=>(k:Int)):=by
 refine OK.eq ?_
 unfold EG
 simp only [quB,Ac,AK,hopes_eq rows hb]
 have word:∀ r∈rows,∃ k,Rw k r:=fun r hr=>by
  obtain ⟨i,hi⟩:=List.mem_iff_getElem?.mp hr
  exact ⟨i,hb i r hi⟩
 refine AG (Fd (c:=fun r:Tp SI=>decide (wd r = "next")) (g:=fun r:Tp SI=>(((r.l[1]?).bind asI).getD 0)) (fun r hr=>?_) (fun r hr hc=>?_) ?_)
 ·obtain ⟨k,hk⟩:=word r hr
  obtain ⟨l,el⟩:=hk.word
  have e1:atI r.l (0:Int)=some (.s (wd r)):=by
   rw [el]
   exact Gb _ _
  simp only [e1,asS,Ac]
 ·obtain ⟨k,hk⟩:=word r hr
  obtain ⟨i,hi,e⟩:=hk.next (of_decide_eq_true hc)
  subst e
  unfold nxt
  simp only [at_s1,asI,Ac]
  rfl
 ·obtain ⟨e1,e2⟩:=sort_dedZ (ys:=hs rows rows.length++(rows.filter fun r=>decide (wd r = "next")).map fun r:Tp SI=>(((r.l[1]?).bind asI).getD 0)) (ws_pw rows rows.length) fun y=>by
   rw [qmA]
   constructor
   ·rintro (h|h)
    ·unfold hs at h
     obtain ⟨k,hk,rfl⟩:=qoA.mp h
     obtain ⟨h1,h2⟩:=qpA.mp hk
     exact ⟨k,mem_ws.mpr ⟨qtA.mp h1,by unfold isW;rw [h2];rfl⟩,rfl⟩
    ·obtain ⟨r,hr,rfl⟩:=qoA.mp h
     obtain ⟨h1,h2⟩:=qpA.mp hr
     obtain ⟨k,hk⟩:=word r h1
     obtain ⟨i,hi,e⟩:=hk.next (of_decide_eq_true h2)
     subst e
     exact ⟨i,mem_ws.mpr ⟨nxt_lt hb h1,by unfold isW;rw [decide_eq_true h1,Bool.or_true]⟩,rfl⟩
   ·rintro ⟨c,hc,rfl⟩
    obtain ⟨h1,h2⟩:=mem_ws.mp hc
    unfold isW at h2
    rw [Bool.or_eq_true] at h2
    rcases h2 with h2|h2
    ·exact .inl (qoA.mpr ⟨c,qpA.mpr ⟨qtA.mpr h1,h2⟩,rfl⟩)
    ·exact .inr (qoA.mpr ⟨nxt c,qpA.mpr ⟨of_decide_eq_true h2,decide_eq_true rfl⟩,rfl⟩)
  have l1:=wsN_len rows rows.length
  have l2:(hs rows rows.length).length<=rows.length:=by
   unfold hs
   have:=List.length_filter_le (isU rows) (List.range rows.length)
   rw [qjA] at this
   rw [qfA]
   exact this
  have l3:((rows.filter fun r=>decide (wd r = "next")).map fun r:Tp SI=>(((r.l[1]?).bind asI).getD 0)).length<=rows.length:=by
   rw [qfA]
   exact List.length_filter_le _ _
  refine ⟨_,if_pos ⟨by omega,by omega,by rw [e2];omega⟩,e1⟩
def wc:Fm->Nat
 | .yes=>0
 | .lamp _=>0
 | .neg a=>wc a
 | .next a=>wc a+1
 | .and a b=>wc a+wc b
 | .unt a b=>wc a+wc b+1
theorem Gd (a:Fm):wc a.den=wc a:=by cases a<;>rfl
def cst (w:Str):Nat:=if w = "again" \/ w = "settles" then 2 else if w∈(["next","atlast","always","until","frees"]:List Str) then 1 else 0
theorem wc1 {w:Str}(hw:w∈W1)(f:Fm):wc (pl1 w f)=wc f+cst w:=by
 simp only [W1,qnA,qkC,or_false] at hw
 rcases hw with rfl|rfl|rfl|rfl|rfl|rfl
 ·rw [pl1_not,Gd,show cst "not" = 0 by decide +kernel];rfl
 ·rw [pl1_next,show cst "next" = 1 by decide +kernel];rfl
 ·rw [pl1_atlast,show cst "atlast" = 1 by decide +kernel];simp only [wc];omega
 ·rw [pl1_always,show cst "always" = 1 by decide +kernel];simp only [wc,Gd];omega
 ·rw [pl1_again,show cst "again" = 2 by decide +kernel];simp only [wc];omega
 ·rw [pl1_settles,show cst "settles" = 2 by decide +kernel];simp only [wc,Gd];omega
theorem wc2 {w:Str}(hw:w∈W2)(f k:Fm):wc (pl2 w f k)=wc f+wc k+cst w:=by
 simp only [W2,qnA,qkC,or_false] at hw
 rcases hw with rfl|rfl|rfl|rfl|rfl
 ·rw [pl2_and,show cst "and" = 0 by decide +kernel];rfl
 ·rw [pl2_until,show cst "until" = 1 by decide +kernel];rfl
 ·rw [pl2_or,show cst "or" = 0 by decide +kernel];simp only [wc,Gd];omega
 ·rw [pl2_then,show cst "then" = 0 by decide +kernel];simp only [wc,Gd];omega
 ·rw [pl2_frees,show cst "frees" = 1 by decide +kernel];simp only [wc,Gd]
theorem GQ {α:Type}[DecidableEq α]:∀ {l m:List α},l.Nodup->(∀ x∈l,x∈m)->l.length<=m.length
 | [],_,_,_=>qrC _
 | a::l,m,nd,h=>by
  have ⟨h1,h2⟩:=List.nodup_cons.mp nd
  have:=GQ (l:=l) (m:=m.erase a) h2 fun x hx=>by
   have ne:x≠a:=fun e=>h1 (e ▸ hx)
   exact (List.mem_erase_of_ne ne).mpr (h x (qsA _ hx))
  have hm:a∈m:=h a (qrA ..)
  rw [List.length_erase_of_mem hm] at this
  have:=List.length_pos_of_mem hm
  rw [qhA]
  omega
def cw (rows:List (Tp SI)):Nat:=(rows.filter fun r=>decide (wd r = "until")).length+(rows.filter fun r=>decide (wd r = "next")).length
theorem cw_app (a b:List (Tp SI)):cw (a++b)=cw a+cw b:=by
 unfold cw
 rw [qhB,qhB,qgA,qgA]
 omega
theorem cw_one (r:Tp SI):cw [r]=if wd r = "until" then 1 else if wd r = "next" then 1 else 0:=by
 unfold cw
 by_cases h1:wd r = "until"
 ·have h2:¬wd r = "next" := fun e=>absurd (h1.symm.trans e) (by decide +kernel)
  rw [if_pos h1,qiB (by exact decide_eq_true h1),qjB (by rw [decide_eq_false h2];decide)]
  rfl
 ·rw [if_neg h1,qjB (by rw [decide_eq_false h1];decide)]
  by_cases h2:wd r = "next"
  ·rw [if_pos h2,qiB (by exact decide_eq_true h2)]
   rfl
  ·rw [if_neg h2,qjB (by rw [decide_eq_false h2];decide)]
   rfl
theorem rown_cw {L L2:List (Tp SI)}{l:List SI}{j:Int}(h:CF L ⟨l⟩=some (L2,j)):cw L2<=cw L+cw [⟨l⟩]:=by
 unfold CF at h
 split at h
 ·cases h
  omega
 ·obtain ⟨_,h⟩:=Ay h
  cases h
  rw [cw_app]
  exact qkB _
theorem lay_cw:∀ (n:Nat) (f:Fm) (L L2:List (Tp SI)) (j:Int),BW AE n L f.nt=some (L2,j)->cw L2<=cw L+wc f
 | 0,_,_,_,_,h=>nomatch (show (none:Option (List (Tp SI) × Int))=some _ from h)
 | n+1,f,L,L2,j,h=>by
  have one:∀ (w:Str) (a:Fm),w ≠ "lamp" -> BW AE (n+1) L (.tup [.txt w,a.nt])=some (L2,j)->cw L2<=cw L+wc a+(if w = "until" then 1 else if w = "next" then 1 else 0):=fun w a hw h=>by
   rw [Dl hw] at h
   obtain ⟨fl,hf,h⟩:=qaA.mp h
   unfold CH at hf
   obtain ⟨fl1,e1,hf⟩:=qaA.mp hf
   obtain ⟨⟨L1,k⟩,e2,e1⟩:=qaA.mp (show ((BW AE n L a.nt).bind _)=some fl1 from e1)
   obtain ⟨_,e1⟩:=Ay e1
   cases e1
   cases hf
   have h:CF L1 ⟨[.s w,.i k]⟩=some (L2,j):=h
   have h1:=lay_cw n a L L1 k e2
   have h2:=rown_cw h
   rw [cw_one] at h2
   have ew:wd ⟨[.s w,.i k]⟩=w:=rfl
   rw [ew] at h2
   omega
  have two:∀ (w:Str) (a b:Fm),w ≠ "lamp" -> BW AE (n+1) L (.tup [.txt w,a.nt,b.nt])=some (L2,j)->cw L2<=cw L+wc a+wc b+(if w = "until" then 1 else if w = "next" then 1 else 0):=fun w a b hw h=>by
   rw [Dl hw] at h
   obtain ⟨fl,hf,h⟩:=qaA.mp h
   unfold CH at hf
   obtain ⟨fl1,e1,hf⟩:=qaA.mp hf
   obtain ⟨⟨L1,k⟩,e2,e1⟩:=qaA.mp (show ((BW AE n L a.nt).bind _)=some fl1 from e1)
   obtain ⟨_,e1⟩:=Ay e1
   cases e1
   dsimp only at hf
   unfold CH at hf
   obtain ⟨fl3,e3,hf⟩:=qaA.mp hf
   obtain ⟨⟨L3,k3⟩,e4,e3⟩:=qaA.mp (show ((BW AE n L1 b.nt).bind _)=some fl3 from e3)
   obtain ⟨_,e3⟩:=Ay e3
   cases e3
   cases hf
   have h:CF L3 ⟨[.s w,.i k,.i k3]⟩=some (L2,j):=h
   have h1:=lay_cw n a L L1 k e2
   have h1':=lay_cw n b L1 L3 k3 e4
   have h2:=rown_cw h
   rw [cw_one] at h2
   have ew:wd ⟨[.s w,.i k,.i k3]⟩=w:=rfl
   rw [ew] at h2
   omega
  have zr:∀ w:Str,w = "not" \/ w = "and" -> (if w = "until" then 1 else if w = "next" then 1 else 0)=0:=fun w hw=>by
   rcases hw with rfl|rfl<;>decide +kernel
  cases f with
  | yes =>
   have h:BW AE (n+1) L (.tup [.txt "yes"])=some (L2,j):=h
   rw [Dl (by decide +kernel)] at h
   have h:CF L ⟨[.s "yes"]⟩=some (L2,j):=h
   have h2:=rown_cw h
   rw [show cw [⟨[.s "yes"]⟩]=0 by rw [cw_one];decide +kernel] at h2
   exact qmB h2 (qkB _)
  | lamp c =>
   have h:BW AE (n+1) L (.tup [.txt "lamp",.txt c])=some (L2,j):=h
   rw [lay_lamp] at h
   have h2:=rown_cw h
   have e:cw [⟨[.s "lamp",.s c]⟩]=0:=by
    rw [cw_one]
    have ew:wd ⟨[.s "lamp",.s c]⟩ = "lamp" := rfl
    rw [ew]
    decide +kernel
   rw [e] at h2
   exact h2
  | neg a =>
   have:=one "not" a (by decide +kernel) h
   rw [zr _ (.inl rfl)] at this
   exact this
  | next a =>
   have:=one "next" a (by decide +kernel) h
   rw [show (if ("next" : Str) = "until" then 1 else if ("next" : Str) = "next" then 1 else 0)=1 by decide +kernel] at this
   show cw L2<=cw L+(wc a+1)
   omega
  | and a b =>
   have:=two "and" a b (by decide +kernel) h
   rw [zr _ (.inr rfl)] at this
   show cw L2<=cw L+(wc a+wc b)
   omega
  | unt a b =>
   have:=two "until" a b (by decide +kernel) h
   rw [if_pos rfl] at this
   show cw L2<=cw L+(wc a+wc b+1)
   omega
theorem filt_or {α:Type}(p q:α->Bool):∀ l:List α,(l.filter fun x=>p x || q x).length<=(l.filter p).length+(l.filter q).length
 | []=>qkB _
 | a::l=>by
  have ih:=filt_or p q l
  rw [List.filter_cons,List.filter_cons,List.filter_cons]
  cases p a<;>cases q a<;>simp<;>omega
theorem ws_cw (rows:List (Tp SI)):(ws rows rows.length).length<=cw rows:=by
 unfold ws cw isW
 refine qmB (filt_or (fun k:Nat=>isU rows k) (fun k:Nat=>decide (nxt k∈rows)) _) (Nat.add_le_add ?_ ?_)
 ·have e:rows=(List.range rows.length).map fun k=>rows.getD k ⟨[]⟩:=by
   refine List.ext_getElem? fun i=>?_
   rw [qaB]
   by_cases h:i<rows.length
   ·simp [h]
   ·rw [qzA (by omega),qzA (by rw [qjA];omega)]
    rfl
  have e2:(rows.filter fun r=>decide (wd r = "until")).length=(((List.range rows.length).map fun k=>rows.getD k ⟨[]⟩).filter fun r=>decide (wd r = "until")).length:=by rw [<- e]
  rw [e2,List.filter_map,qfA]
  exact qkB _
 ·have nd:(((List.range rows.length).filter fun k:Nat=>decide (nxt k∈rows)).map nxt).Nodup:=by
   refine List.Pairwise.map _ ?_ (List.Nodup.sublist List.filter_sublist List.nodup_range)
   intro a b h e
   unfold nxt at e
   injection e with e
   injection e with _ e
   injection e with e _
   injection e with e
   exact h (by omega)
  have:=GQ nd (m:=rows.filter fun r=>decide (wd r = "next")) fun r hr=>by
   obtain ⟨k,hk,rfl⟩:=qoA.mp hr
   have hk:=of_decide_eq_true (qpA.mp hk).2
   exact qpA.mpr ⟨hk,decide_eq_true rfl⟩
  rw [qfA] at this
  exact this
theorem getM_key {l:List (Int × Bool)}{k:Int}(h:k∈l.map (·.1)):∃ b,Hl l k=some b:=by
 induction l with
 | nil=>cases h
 | cons q l ih =>
  obtain ⟨j,b⟩:=q
  unfold Hl
  by_cases e:j=k
  ·rw [if_pos e];exact ⟨b,rfl⟩
  ·rw [if_neg e]
   refine ih ?_
   rcases qnA.mp h with h|h
   ·exact absurd h.symm e
   ·exact h
theorem isW_u {rows:List (Tp SI)}{k:Nat}{r:Tp SI}(hr:rows[k]? = some r)(hw:wd r = "until"):isW rows k=true:=by
 unfold isW isU
 rw [qbB,hr]
 show (decide (wd r = "until") || _)=true
 rw [decide_eq_true hw]
 rfl
theorem isW_n {rows:List (Tp SI)}{k:Nat}(h:nxt k∈rows):isW rows k=true:=by
 unfold isW
 rw [decide_eq_true h,Bool.or_true]
theorem v_ly:decide (("lamp" : Str) = "yes")=false:=by decide +kernel
theorem v_yn:decide (("yes" : Str) = "not")=false:=by decide +kernel
theorem v_ya:decide (("yes" : Str) = "and")=false:=by decide +kernel
theorem v_yx:decide (("yes" : Str) = "next")=false:=by decide +kernel
theorem v_yu:decide (("yes" : Str) = "until")=false:=by decide +kernel
theorem v_ny:decide (("not" : Str) = "yes")=false:=by decide +kernel
theorem v_nl:decide (("not" : Str) = "lamp")=false:=by decide +kernel
theorem v_xy:decide (("next" : Str) = "yes")=false:=by decide +kernel
theorem v_xl:decide (("next" : Str) = "lamp")=false:=by decide +kernel
theorem v_xn:decide (("next" : Str) = "not")=false:=by decide +kernel
theorem v_xa:decide (("next" : Str) = "and")=false:=by decide +kernel
theorem v_ay:decide (("and" : Str) = "yes")=false:=by decide +kernel
theorem v_al:decide (("and" : Str) = "lamp")=false:=by decide +kernel
theorem v_an:decide (("and" : Str) = "not")=false:=by decide +kernel
theorem v_uy:decide (("until" : Str) = "yes")=false:=by decide +kernel
theorem v_ul:decide (("until" : Str) = "lamp")=false:=by decide +kernel
theorem v_un:decide (("until" : Str) = "not")=false:=by decide +kernel
theorem v_ua:decide (("until" : Str) = "and")=false:=by decide +kernel
theorem v_ux:decide (("until" : Str) = "next")=false:=by decide +kernel
theorem dT (w:Str):decide (w=w)=true:=decide_eq_true rfl
def ix (r:Tp SI)(k:Nat):Nat:=(((r.l[k]?).bind asI).getD 0).toNat
def lp (r:Tp SI):Str:=((r.l[1]?).bind asS).getD ""
def tr (lit:Str)(f:Nat->Bool)(v:List Bool)(k:Nat)(r:Tp SI):Bool :=
 cond (decide (wd r = "yes")) true (cond (decide (wd r = "lamp")) (inS (lp r) lit) (cond (decide (wd r = "not")) (!g v (ix r 1)) (cond (decide (wd r = "and")) (g v (ix r 1) && g v (ix r 2)) (cond (decide (wd r = "next")) (f (ix r 1)) (g v (ix r 2) || (g v (ix r 1) && f k))))))
section
variable (lit:Str)(f:Nat->Bool)(v:List Bool)(k:Nat)
theorem tr_yes:tr lit f v k ⟨[.s "yes"]⟩=true:=by
 show cond (decide (("yes" : Str) = "yes")) _ _=_
 rw [dT];rfl
theorem tr_lamp (c:Str):tr lit f v k ⟨[.s "lamp",.s c]⟩=inS c lit:=by
 show cond (decide (("lamp" : Str) = "yes")) _ (cond (decide (("lamp" : Str) = "lamp")) _ _)=_
 rw [v_ly,dT];rfl
theorem tr_not (i:Nat):tr lit f v k ⟨[.s "not",.i (i:Int)]⟩ = !g v i:=by
 show cond (decide (("not" : Str) = "yes")) _ (cond (decide (("not" : Str) = "lamp")) _ (cond (decide (("not" : Str) = "not")) _ _))=_
 rw [v_ny,v_nl,dT];rfl
theorem tr_and (i j:Nat):tr lit f v k ⟨[.s "and",.i (i:Int),.i (j:Int)]⟩=(g v i && g v j):=by
 show cond (decide (("and" : Str) = "yes")) _ (cond (decide (("and" : Str) = "lamp")) _ (cond (decide (("and" : Str) = "not")) _ (cond (decide (("and" : Str) = "and")) _ _)))=_
 rw [v_ay,v_al,v_an,dT];rfl
theorem tr_next (i:Nat):tr lit f v k ⟨[.s "next",.i (i:Int)]⟩=f i:=by
 show cond (decide (("next" : Str) = "yes")) _ (cond (decide (("next" : Str) = "lamp")) _ (cond (decide (("next" : Str) = "not")) _ (cond (decide (("next" : Str) = "and")) _ (cond (decide (("next" : Str) = "next")) _ _))))=_
 rw [v_xy,v_xl,v_xn,v_xa,dT];rfl
theorem tr_until (i j:Nat):tr lit f v k ⟨[.s "until",.i (i:Int),.i (j:Int)]⟩=(g v j || (g v i && f k)):=by
 show cond (decide (("until" : Str) = "yes")) _ (cond (decide (("until" : Str) = "lamp")) _ (cond (decide (("until" : Str) = "not")) _ (cond (decide (("until" : Str) = "and")) _ (cond (decide (("until" : Str) = "next")) _ _))))=_
 rw [v_uy,v_ul,v_un,v_ua,v_ux];rfl
end
def rw_ (rows:List (Tp SI))(k:Nat):Tp SI:=rows.getD k ⟨[]⟩
def vw (rows:List (Tp SI))(lit:Str)(f:Nat->Bool):Nat->List Bool
 | 0=>[]
 | k+1=>vw rows lit f k++[tr lit f (vw rows lit f k) k (rw_ rows k)]
theorem vw_len (rows:List (Tp SI))(lit:Str)(f:Nat->Bool):∀ k,(vw rows lit f k).length=k
 | 0=>rfl
 | k+1=>by
  show (vw rows lit f k++_).length=_
  rw [qgA,vw_len rows lit f k]
  rfl
theorem vw_more (rows:List (Tp SI))(r:Tp SI)(lit:Str)(f:Nat->Bool):∀ k,k<=rows.length->vw (rows++[r]) lit f k=vw rows lit f k
 | 0,_=>rfl
 | k+1,h=>by
  have e:rw_ (rows++[r]) k=rw_ rows k:=by
   unfold rw_
   rw [qbB,qxA (by omega),<- qbB]
  show vw (rows++[r]) lit f k++_=vw rows lit f k++_
  rw [vw_more rows r lit f k (by omega),e]
def fm (l:List (Int × Bool))(k:Nat):Bool:=(Hl l (k:Int)).getD false
theorem fm_get {rows:List (Tp SI)}{l:List (Int × Bool)}(hm:l.map (·.1)=(ws rows rows.length).map (fun (k:Nat)=>(k:Int))){k:Nat}(hk:k<rows.length)(hw:isW rows k=true):Hl l (k:Int)=some (fm l k):=by
 obtain ⟨b,e⟩:=getM_key (l:=l) (k:=(k:Int)) (by rw [hm];exact qoA.mpr ⟨k,mem_ws.mpr ⟨hk,hw⟩,rfl⟩)
 unfold fm
 rw [e]
 rfl
theorem putM_app {l:List (Int × Bool)}{k:Int}{a:Bool}(h:k ∉ l.map (·.1)):putM l k a=l++[(k,a)]:=by
 unfold putM
 rw [if_neg]
 intro q
 obtain ⟨x,hx,e⟩:=List.any_eq_true.mp q
 exact h (qoA.mpr ⟨x,hx,of_decide_eq_true e⟩)
theorem fold_put:∀ (l acc:List (Int × Bool)),((acc++l).map (·.1)).Nodup->l.foldl (fun m q=>putM m q.1 q.2) acc=acc++l
 | [],acc,_=>by simp
 | q::l,acc,h=>by
  have hq:q.1 ∉ acc.map (·.1):=by
   rw [qdB,qgB] at h
   exact fun z=>h.2.2 _ z _ (by simp) rfl
  rw [qqC,putM_app hq,fold_put l (acc++[(q.1,q.2)]) (by rw [qeB];exact h),qeB]
  rfl
theorem zip_parts:∀ l:List (Int × Bool),(l.map (·.1)).zip (l.map (·.2))=l
 | []=>rfl
 | q::l=>by rw [qcB,qcB,List.zip_cons_cons,zip_parts l]
theorem ws_nodup (rows:List (Tp SI))(n:Nat):((ws rows n).map (fun (k:Nat)=>(k:Int))).Nodup:=by
 rw [List.nodup_iff_pairwise_ne]
 exact List.Pairwise.map _ (fun a b q e=>absurd q (by omega)) (ws_pw rows n)
theorem truth_eq {rows:List (Tp SI)}{lit:Str}{l:List (Int × Bool)}(hm:l.map (·.1)=(ws rows rows.length).map (fun (k:Nat)=>(k:Int))){k:Nat}{r:Tp SI}{v:List Bool}(hr:rows[k]? = some r)(hw:Rw k r)(hv:v.length=k):E7 rows (k:Int) lit ⟨l⟩ v=some (tr lit (fm l) v k r):=by
 have hk:=(qvA.mp hr).1
 have e0:atI rows (k:Int)=some r:=BS hr
 refine OK.eq ?_
 unfold E7
 simp only [quB,Ac,AK,e0]
 have at_:∀ j,j<k->atI v (j:Int)=some (g v j):=fun j hj=>at_g (by omega)
 cases hw with
 | yes =>
  rw [tr_yes]
  simp only [Gb,asS,Ac,v_yl,v_yn,v_ya,v_yx,v_yu,cond_false]
  exact AH rfl
 | lamp c =>
  rw [tr_lamp]
  simp only [Gb,at_s1,asS,Ac]
  exact Ap (fun _=>AH rfl) fun h=>absurd trivial (of_decide_eq_false h)
 | @one w j hw hj =>
  rcases hw with rfl|rfl
  ·rw [tr_not]
   simp only [Gb,at_s1,asS,asI,Ac,v_nl,cond_false,at_ j hj]
   exact Ap (fun _=>AH rfl) fun h=>absurd trivial (of_decide_eq_false h)
  ·rw [tr_next]
   simp only [Gb,at_s1,asS,asI,Ac,v_xl,v_xn,v_xa,cond_false]
   exact Ap (fun _=>⟨_,fm_get hm (by omega) (isW_n (quA hr)),rfl⟩) fun h=>absurd trivial (of_decide_eq_false h)
 | @two w j i hw hj hi =>
  rcases hw with rfl|rfl
  ·rw [tr_and]
   simp only [Gb,at_s1,at_s2,asS,asI,Ac,v_al,v_an,cond_false,at_ j hj,at_ i hi]
   refine Ap (fun _=>Ap (fun h=>AH ?_) fun h=>AH ?_) fun h=>absurd trivial (of_decide_eq_false h)
   ·rw [h];rfl
   ·rw [h];rfl
  ·rw [tr_until]
   simp only [Gb,at_s1,at_s2,asS,asI,Ac,v_ul,v_un,v_ua,v_ux,cond_false,at_ j hj,at_ i hi]
   refine Ap (fun _=>Ap (fun h=>AH ?_) fun h=>Ap (fun h2=>⟨_,fm_get hm hk (isW_u hr rfl),?_⟩) fun h2=>AH ?_) fun h=>absurd trivial (of_decide_eq_false h)
   ·rw [h];rfl
   ·rw [h,h2];rfl
   ·rw [h,h2];rfl
theorem view_eq (rows:List (Tp SI))(hb:ER rows)(hl:rows.length<=900)(lit:Str)(l:List (Int × Bool))(hm:l.map (·.1)=(ws rows rows.length).map (fun (k:Nat)=>(k:Int))):DW rows lit ⟨l⟩=some ⟨vw rows lit (fm l) rows.length⟩:=by
 have hs:sizeLine=16777216:=qtB
 refine OK.eq ?_
 unfold DW
 simp only [quB,Ac,AK]
 refine AG (ok_rng (n:=rows.length) (by omega) (by omega) (by omega) ?_)
 refine AG (Eb (fun i (s:List Bool)=>s=vw rows lit (fm l) i) rfl (fun i a s ha h1=>?_) fun s h1=>AH (by rw [rng_len] at h1;rw [h1]))
 obtain ⟨hi,rfl⟩:=rng_at ha
 obtain ⟨r,hr⟩:∃ r,rows[i]? = some r:=⟨_,qwA hi⟩
 subst h1
 rw [truth_eq hm hr (hb i r hr) (vw_len ..)]
 refine ok_bs (AG (GO (by rw [vw_len];omega) (AH ⟨_,rfl,?_⟩)))
 have e:rw_ rows i=r:=by
  unfold rw_
  rw [qbB,hr]
  rfl
 show _=vw rows lit (fm l) i++[tr lit (fm l) (vw rows lit (fm l) i) i (rw_ rows i)]
 rw [e]
theorem look_eq (rows:List (Tp SI))(hb:ER rows)(hl:rows.length<=900)(h5:(ws rows rows.length).length<64)(lit:Str)(l:List (Int × Bool))(hm:l.map (·.1)=(ws rows rows.length).map (fun (k:Nat)=>(k:Int))):Gc rows lit ⟨l.map (·.2)⟩=some ⟨vw rows lit (fm l) rows.length⟩:=by
 have nd:(l.map (·.1)).Nodup:=by rw [hm];exact ws_nodup _ _
 have hz:dictZ (l.map (·.1)) (l.map (·.2))=some ⟨l⟩:=by
  have hlen:l.length<=63:=by
   have:=congrArg List.length hm
   rw [qfA,qfA] at this
   omega
  unfold dictZ
  rw [if_pos ⟨by rw [qfA,qfA],by rw [qfA];omega⟩,zip_parts,fold_put l [] (by simpa using nd)]
  rfl
 refine OK.eq ?_
 unfold Gc
 simp only [quB,Ac,AK,waits_eq rows hb hl h5]
 rw [<- hm,hz]
 exact ok_bs ⟨_,view_eq rows hb hl lit l hm,rfl⟩
def ez (rows:List (Tp SI))(v:List Bool)(k:Nat):Bool:=(CN rows (k:Int) ⟨v⟩).getD false
structure Un (rows:List (Tp SI))(v:List Bool)(k:Nat)(i j:Nat)(a b:Bool):Prop where
 r:rows[k]? = some ⟨[.s "until",.i (i:Int),.i (j:Int)]⟩
 a:v[k]? = some a
 b:v[j]? = some b
theorem un_of {rows:List (Tp SI)}{v:List Bool}(hb:ER rows)(hv:v.length=rows.length){k:Nat}(hk:k<rows.length)(hu:isU rows k=true):∃ i j a b,Un rows v k i j a b:=by
 have hr:rows[k]? = some (rows.getD k ⟨[]⟩):=by simp [hk]
 have hu:=of_decide_eq_true hu
 have h:=hb k _ hr
 generalize rows.getD k ⟨[]⟩=r at hr hu h
 have ax:∀ {x y:Str},decide (x=y)=false->x=y->False:=fun h e=>of_decide_eq_false h e
 cases h with
 | yes=>exact (ax (x := "yes") (y := "until") (by decide +kernel) hu).elim
 | lamp c=>exact (ax (x := "lamp") (y := "until") (by decide +kernel) hu).elim
 | @one w i hw hi=>exact absurd hu (nw w hw).2.2.2
 | @two w i j hw hi hj =>
  have hw':w = "until" := hu
  subst hw'
  exact ⟨i,j,_,_,hr,qwA (by omega),qwA (by omega)⟩
theorem Un.ez {rows:List (Tp SI)}{v:List Bool}{k i j:Nat}{a b:Bool}(u:Un rows v k i j a b):CN rows (k:Int) ⟨v⟩=some (!a || b):=by
 unfold CN
 simp only [quB,Ac,AK,BS u.r,BS u.a,BS u.b,at_s2,asI]
 cases a<;>cases b<;>rfl
theorem Un.ez' {rows:List (Tp SI)}{v:List Bool}{k i j:Nat}{a b:Bool}(u:Un rows v k i j a b):My.ez rows v k=(!a || b):=by
 unfold My.ez
 rw [u.ez]
 rfl
def told (rows:List (Tp SI))(v:List Bool)(n:Nat):List Int:=((BM 0 (hs rows n)).filter fun q=>ez rows v q.2.toNat).map fun q=>q.1
theorem eased_eq (rows:List (Tp SI))(hb:ER rows)(v:Tp Bool)(hv:v.l.length=rows.length):Ft rows v=some ⟨told rows v.l rows.length⟩:=by
 refine OK.eq ?_
 unfold Ft
 simp only [quB,Ac,AK,hopes_eq rows hb]
 refine AG (Fd (c:=fun q:Int × Int=>ez rows v.l q.2.toNat) (g:=fun q=>q.1) (fun q hq=>?_) (fun _ _ _=>rfl) (AH rfl))
 obtain ⟨i,hi⟩:=List.mem_iff_getElem?.mp hq
 rw [DZ] at hi
 obtain ⟨x,hx,rfl⟩:=qoB.mp hi
 have hm:=quA hx
 unfold hs at hm
 obtain ⟨k,hk,rfl⟩:=qoA.mp hm
 obtain ⟨hk1,hk2⟩:=qpA.mp hk
 obtain ⟨i',j,a,b,u⟩:=un_of (v:=v.l) hb hv (qtA.mp hk1) hk2
 show CN rows (k:Int) ⟨v.l⟩=some (ez rows v.l (k:Int).toNat)
 rw [u.ez,qvB,u.ez']
theorem claims_eq (rows:List (Tp SI))(hb:ER rows)(hl:rows.length<=900)(h5:(ws rows rows.length).length<64)(v:Tp Bool)(hv:v.l.length=rows.length):Ck rows v=some ⟨(ws rows rows.length).map fun k=>v.l.getD k false⟩:=by
 refine OK.eq ?_
 unfold Ck
 simp only [quB,Ac,AK,waits_eq rows hb hl h5]
 refine AG (ok_map (g:=fun z:Int=>v.l.getD z.toNat false) (fun z hz=>?_) (AH ?_))
 ·obtain ⟨k,hk,rfl⟩:=qoA.mp hz
  have:=(mem_ws.mp hk).1
  exact BS (by rw [qvB];simp [show k<v.l.length by omega])
 ·rw [List.map_map]
  rfl
def tx (l:List Nat):Str:=⟨l.toArray⟩
theorem tx_cps (l:List Nat):(tx l).cps.toList=l:=rfl
theorem tx_inj {a b:List Nat}(h:tx a=tx b):a=b:=by
 have:=congrArg (fun x:Str=>x.cps.toList) h
 exact this
theorem tx_app (l:List Nat)(c:Nat):tx l++one c=tx (l++[c]):=by
 apply str_ext
 rw [cps_app,tx_cps,tx_cps]
 rfl
theorem sub_snoc {l y:List Nat}{c:Nat}:y.Sublist (l++[c]) ↔ y.Sublist l\/∃ z,z.Sublist l/\z++[c]=y:=by
 constructor
 ·intro h
  obtain ⟨a,b,rfl,h1,h2⟩:=List.sublist_append_iff.mp h
  cases h2 with
  | cons _ h=>cases h;left;rw [qfB];exact h1
  | cons_cons _ h=>cases h;right;exact ⟨a,h1,rfl⟩
 ·rintro (h | ⟨z,h,rfl⟩)
  ·exact h.trans (List.sublist_append_left _ _)
  ·exact h.append_right [c]
theorem mloop (x:Str)(hx:Mom x)(h5:x.length<=5):∃ fs:List (List Nat),CH (S:=List Str) (ρ:=List Str) (fun (l:Str) s=>(Dr (fun m:Str=>catS m l) s).bind fun t=>(catL s t).bind fun z=>some (Fl.nx z)) (x.cps.toList.map one) [("" : Str)]=some (.nx (fs.map tx))/\fs.length=2 ^ x.length/\fs.length<=32/\fs.Nodup/\∀ y,y∈fs ↔ y.Sublist x.cps.toList:=by
 have hs:sizeLine=16777216:=qtB
 have pos:∀ i,i<=5->2 ^ i<=32:=fun i hi=>qmB (Nat.pow_le_pow_right (by decide) hi) (by decide)
 have hl:x.cps.toList.length=x.length:=rfl
 obtain ⟨_,e,fs,rfl,f1,f2,f3⟩:OK (CH (S:=List Str) (ρ:=List Str) (fun (l:Str) s=>(Dr (fun m:Str=>catS m l) s).bind fun t=>(catL s t).bind fun z=>some (Fl.nx z)) (x.cps.toList.map one) [("" : Str)]) fun fl=>∃ fs:List (List Nat),fl = .nx (fs.map tx)/\fs.length=2 ^ x.length/\(∀ y,y∈fs ↔ y.Sublist x.cps.toList)/\fs.Nodup:=by
  refine Eb (fun i (s:List Str)=>∃ fs:List (List Nat),s=fs.map tx/\fs.length=2 ^ i/\(∀ y,y∈fs ↔ y.Sublist (x.cps.toList.take i))/\fs.Nodup) ⟨[[]],rfl,rfl,fun y=>by rw [List.take_zero,List.sublist_nil,qqA],by simp⟩ (fun i a s ha hI=>?_) fun s hI=>?_
  ·obtain ⟨fs,rfl,f1,f2,f3⟩:=hI
   rw [qaB] at ha
   obtain ⟨c,hc,rfl⟩:=qoB.mp ha
   have hi:i<x.length:=(qvA.mp hc).1
   have hp:=pos i (by omega)
   have ht:x.cps.toList.take (i+1)=x.cps.toList.take i++[c]:=by rw [List.take_add_one,hc];rfl
   have nc:c ∉ x.cps.toList.take i:=fun hm=>by
    have h2:(x.cps.toList.take (i+1)).Pairwise (· < ·):=hx.pw.sublist (List.take_sublist _ _)
    rw [ht] at h2
    exact qnB _ ((List.pairwise_append.mp h2).2.2 c hm c qrA)
   refine AG (ok_map (g:=fun m=>m++one c) (fun m hm=>?_) (AG (ok_catL (by rw [qfA,qfA,qfA];omega) (AH ⟨_,rfl,fs++fs.map (·++[c]),?_,?_,fun y=>?_,?_⟩))))
   ·obtain ⟨f,hf,rfl⟩:=qoA.mp hm
    refine if_pos ?_
    have:=((f2 f).mp hf).length_le
    rw [qkA] at this
    show f.length+1<=_
    omega
   ·rw [qdB,List.map_map,List.map_map]
    congr 1
    exact List.map_congr_left fun f _=>tx_app f c
   ·rw [qgA,qfA,f1,Nat.pow_succ]
    omega
   ·rw [ht,sub_snoc,qmA,f2,qoA]
    simp only [f2]
   ·rw [qgB]
    refine ⟨f3,List.Pairwise.map _ (fun a b q e=>q (List.append_cancel_right e)) f3,fun y hy z hz=>?_⟩
    rintro rfl
    obtain ⟨z,hz,rfl⟩:=qoA.mp hz
    exact nc (((f2 _).mp hy).subset (qnC _ qrA))
  ·obtain ⟨fs,rfl,f1,f2,f3⟩:=hI
   rw [qfA,hl] at f1 f2
   rw [<- hl,List.take_length] at f2
   exact ⟨fs,rfl,f1,f2,f3⟩
 exact ⟨fs,e,f1,by rw [f1];exact pos _ h5,f3,f2⟩
theorem all_ok (x:Str)(hx:Mom x)(h5:x.length<=5):OK (BU x) fun R=>R.length=2 ^ x.length/\R.Nodup/\∀ y:Str,y.cps.toList.Sublist x.cps.toList->y∈R:=by
 obtain ⟨fs,e,f1,f0,f3,f2⟩:=mloop x hx h5
 unfold BU
 simp only [quB,Ac,AK]
 rw [GP]
 refine AG (OK.of e ⟨_,if_pos (by rw [qfA];omega),by rw [(BQ _).length_eq,qfA];exact f1,?_,fun y hy=>?_⟩)
 ·rw [(BQ _).nodup_iff]
  exact List.Pairwise.map _ (fun a b q e=>q (tx_inj e)) f3
 ·exact (BQ _).mem_iff.mpr (qoA.mpr ⟨y.cps.toList,(f2 _).mpr hy,str_ext (tx_cps _)⟩)
theorem lm_ok (x:Str)(hx:Mom x)(h5:x.length<=5):OK (C8 x) fun R=>R.length=2 ^ x.length/\∀ y∈R,y.cps.toList.Sublist x.cps.toList:=by
 obtain ⟨fs,e,f1,f0,f3,f2⟩:=mloop x hx h5
 unfold C8
 simp only [quB,Ac,AK]
 rw [GP]
 refine AG (OK.of e (AH ⟨by rw [qfA];exact f1,fun y hy=>?_⟩))
 obtain ⟨z,hz,rfl⟩:=qoA.mp hy
 exact (f2 z).mp hz
def ac:Nat->List (List Bool)
 | 0=>[[]]
 | n+1=>(ac n).map (false::·)++(ac n).map (true::·)
theorem ac_len:∀ n,(ac n).length=2 ^ n
 | 0=>rfl
 | n+1=>by
  show ((ac n).map _++(ac n).map _).length=_
  rw [qgA,qfA,qfA,ac_len n,Nat.pow_succ]
  omega
theorem ac_mem:∀ (n:Nat) (l:List Bool),l∈ac n ↔ l.length=n
 | 0,l=>by
  show l∈[[]] ↔ _
  rw [qqA,List.length_eq_zero_iff]
 | n+1,l=>by
  show l∈(ac n).map _++(ac n).map _ ↔ _
  rw [qmA,qoA,qoA]
  constructor
  ·rintro (⟨x,hx,rfl⟩ | ⟨x,hx,rfl⟩)<;>rw [qhA,(ac_mem n x).mp hx]
  ·intro h
   cases l with
   | nil=>cases h
   | cons b l =>
    have hl:l∈ac n:=(ac_mem n l).mpr (by rw [qhA] at h;omega)
    cases b
    ·exact .inl ⟨l,hl,rfl⟩
    ·exact .inr ⟨l,hl,rfl⟩
theorem ac_nd:∀ n,(ac n).Nodup
 | 0=>by show ([[]]:List (List Bool)).Nodup;simp
 | n+1=>by
  show ((ac n).map _++(ac n).map _).Nodup
  have ih:=ac_nd n
  rw [qgB]
  refine ⟨List.Pairwise.map _ (fun a b q e=>q (qhC e).2) ih,List.Pairwise.map _ (fun a b q e=>q (qhC e).2) ih,fun a ha b hb e=>?_⟩
  obtain ⟨x,_,rfl⟩:=qoA.mp ha
  obtain ⟨y,_,rfl⟩:=qoA.mp hb
  exact Bool.noConfusion (qhC e).1
theorem claims_all:∀ n:Nat,n<6->Dh (n:Int)=some ((ac n).map Tp.mk):=by decide +kernel
theorem den_lamp (a:Fm)(x:Str):Fm.lamp x∈a.den.sub ↔ Fm.lamp x∈a.sub:=by
 cases a<;>simp [Fm.den,Fm.sub]
theorem pl1_lamp (w:Str)(f:Fm)(x:Str):Fm.lamp x∈(pl1 w f).sub ↔ Fm.lamp x∈f.sub:=by
 have h:=den_lamp f x
 unfold pl1
 repeat' split
 all_goals simp [Fm.sub,h]
theorem pl2_lamp (w:Str)(f g:Fm)(x:Str):Fm.lamp x∈(pl2 w f g).sub ↔ Fm.lamp x∈f.sub\/Fm.lamp x∈g.sub:=by
 have h:=den_lamp f x
 have h':=den_lamp g x
 unfold pl2
 repeat' split
 all_goals simp [Fm.sub,h,h']
def lts (ds:List Nat):List Nat:=abcN.filter fun c=>decide (c∈ds)
theorem HQ (ds:List Nat):(lts ds).Pairwise (· < ·):=abc_pw.sublist List.filter_sublist
theorem By {ds:List Nat}(h:∀ c∈ds,c∈abcN)(c:Nat):c∈lts ds ↔ c∈ds:=by
 unfold lts
 rw [qpA,decide_eq_true_iff]
 exact ⟨fun h=>h.2,fun q=>⟨h c q,q⟩⟩
theorem Fe (ds:List Nat):(lts ds).length<=26:=by
 have:=List.length_filter_le (fun c=>decide (c∈ds)) abcN
 have e:abcN.length=26:=rfl
 unfold lts
 omega
theorem join_tx (cs:List Nat)(h:cs.length<=1000):GZ "" (cs.map one)=some (tx cs):=by
 rw [join_mom cs h]
 congr 1
 apply str_ext
 rw [join_of,tx_cps]
theorem signs_tx (ds:List Nat):Bv (tx ds)=ds.map one:=GP _
theorem sortT_eq {ds:List Nat}(h:∀ c∈ds,c∈abcN)(hl:ds.length<=1000):sortSetT (tx ds)=some ((lts ds).map one):=by
 obtain ⟨e1,e2⟩:=sort_ded (ys:=Bv (tx ds)) (cs:=lts ds) (HQ ds) fun y=>by
  rw [signs_tx,qoA]
  constructor
  ·rintro ⟨c,hc,rfl⟩
   exact ⟨c,(By h c).mpr hc,rfl⟩
  ·rintro ⟨c,hc,rfl⟩
   exact ⟨c,(By h c).mp hc,rfl⟩
 have:=Fe ds
 unfold sortSetT
 rw [if_pos ⟨by show ds.length<4000;omega,by rw [e2];omega⟩,e1]
theorem lts_self {ds:List Nat}(h:∀ c∈ds,c∈abcN)(hp:ds.Pairwise (· < ·)):lts ds=ds:=pw_eq (HQ ds) hp fun c=>By h c
theorem txj:∀ ds es:List Nat,Txt.join "" [tx ds,tx es]=tx (ds++es):=fun ds es=>by
 apply str_ext
 rw [tx_cps,join_cps]
 show (ds++(es++[]))=_
 rw [qfB]
theorem lin_step (n:Nat)(w:Str)(l:List Nt)(hw:w ≠ "lamp"){ts:List Str}(hm:Dr (fun p:Nt=>Ax n p) l=some ts){ds:List Nat}(hj:GZ "" ts=some (tx ds))(h:∀ c∈ds,c∈abcN)(hl:ds.length<=1000) :
  Ax (n+1) (.tup (.txt w::l))=some (tx (lts ds)):=by
 show BP (Ax n) _=_
 unfold BP
 simp only [quB,Ac,AK,BC,at0,C0,decide_eq_false hw,cond_false,cut_tailN]
 rw [hm]
 simp only [Ac]
 rw [hj]
 simp only [Ac]
 rw [sortT_eq h hl]
 simp only [Ac]
 exact join_tx _ (by have:=Fe ds;omega)
theorem lin_ok {S:Nt}{n:Nat}{f:Fm}(h:Sent S n f):∃ ds:List Nat,(∀ c∈ds,c∈abcN)/\(∀ x:Str,Fm.lamp x∈f.sub ↔ ∃ c∈ds,x=My.one c)/\∀ k,n<=k->Ax k S=some (tx (lts ds)):=by
 induction h with
 | yes =>
  refine ⟨[],fun c h=>(nomatch h),fun x=>by simp [Fm.sub],fun k hk=>?_⟩
  obtain ⟨k,rfl⟩:∃ j,k=j+1:=⟨k - 1,by omega⟩
  exact lin_step k "yes" [] (by decide +kernel) (ts:=[]) rfl (ds:=[]) rfl (fun c h=>nomatch h) (by decide)
 | no =>
  refine ⟨[],fun c h=>(nomatch h),fun x=>by simp [Fm.sub],fun k hk=>?_⟩
  obtain ⟨k,rfl⟩:∃ j,k=j+1:=⟨k - 1,by omega⟩
  exact lin_step k "no" [] (by decide +kernel) (ts:=[]) rfl (ds:=[]) rfl (fun c h=>nomatch h) (by decide)
 | @lamp c hc =>
  refine ⟨[c],fun d h=>by rw [qqA.mp h];exact hc,fun x=>by simp [Fm.sub],fun k hk=>?_⟩
  obtain ⟨k,rfl⟩:∃ j,k=j+1:=⟨k - 1,by omega⟩
  rw [lts_self (fun d h=>by rw [qqA.mp h];exact hc) (by simp)]
  show BP (Ax k) _=_
  unfold BP
  simp only [quB,Ac,AK,lampN,BC,at0,C0,decide_true,cond_true,at1]
  rfl
 | @one w a n f hw ha ih =>
  obtain ⟨ds,h1,h2,h3⟩:=ih
  refine ⟨lts ds,fun c hc=>h1 c ((By h1 c).mp hc),fun x=>?_,fun k hk=>?_⟩
  ·rw [pl1_lamp,h2]
   exact ⟨fun ⟨c,hc,e⟩=>⟨c,(By h1 c).mpr hc,e⟩,fun ⟨c,hc,e⟩=>⟨c,(By h1 c).mp hc,e⟩⟩
  ·obtain ⟨k,rfl⟩:∃ j,k=j+1:=⟨k - 1,by omega⟩
   refine lin_step k w [a] (wd_one hw).lamp (ts:=[tx (lts ds)]) (ds:=lts ds) ?_ ?_ (fun c hc=>h1 c ((By h1 c).mp hc)) (by have:=Fe ds;omega)
   ·show ((Ax k a).bind fun b=>(Dr _ []).bind fun bs=>some (b::bs))=_
    rw [h3 k (by omega)]
    rfl
   ·have hl:=Fe ds
    unfold GZ
    rw [if_pos (by show (lts ds).length+0+1 * 0<=_;omega)]
    congr 1
 | @two w a b n m f g hw ha hb ih1 ih2 =>
  obtain ⟨ds,h1,h2,h3⟩:=ih1
  obtain ⟨es,i1,i2,i3⟩:=ih2
  have hm:∀ c∈lts ds++lts es,c∈abcN:=fun c hc=>by
   rcases qmA.mp hc with hc|hc
   ·exact h1 c ((By h1 c).mp hc)
   ·exact i1 c ((By i1 c).mp hc)
  refine ⟨lts ds++lts es,hm,fun x=>?_,fun k hk=>?_⟩
  ·rw [pl2_lamp,h2,i2]
   constructor
   ·rintro (⟨c,hc,e⟩ | ⟨c,hc,e⟩)
    ·exact ⟨c,List.mem_append_left _ ((By h1 c).mpr hc),e⟩
    ·exact ⟨c,qnC _ ((By i1 c).mpr hc),e⟩
   ·rintro ⟨c,hc,e⟩
    rcases qmA.mp hc with hc|hc
    ·exact .inl ⟨c,(By h1 c).mp hc,e⟩
    ·exact .inr ⟨c,(By i1 c).mp hc,e⟩
  ·obtain ⟨k,rfl⟩:∃ j,k=j+1:=⟨k - 1,by omega⟩
   have l1:=Fe ds
   have l2:=Fe es
   refine lin_step k w [a,b] (wd_two hw).lamp (ts:=[tx (lts ds),tx (lts es)]) (ds:=lts ds++lts es) ?_ ?_ hm (by rw [qgA];omega)
   ·show ((Ax k a).bind fun x=>(Dr _ [b]).bind fun bs=>some (x::bs))=_
    rw [h3 k (by omega),Ac]
    show (((Ax k b).bind fun x=>(Dr _ []).bind fun bs=>some (x::bs)).bind fun bs=>some (tx (lts ds)::bs))=_
    rw [i3 k (by omega)]
    rfl
   ·unfold GZ
    rw [if_pos (by show (lts ds).length+((lts es).length+0)+2 * 0<=_;omega),txj]
def lampR (r:Tp SI):Bool:=match r.l with
 | .s w::_=>decide (w = "lamp")
 | _=>false
def letR (r:Tp SI):Str:=match r.l with
 | [_,.s y]=>y
 | _ => ""
theorem lamps_in_ok {L:List (Tp SI)}{fs:List Fm}(hb:Bk L fs)(hl:L.length<=3900){cs:List Nat}(hcs:cs.Pairwise (· < ·))(hc26:cs.length<=26)(hm:∀ x:Str,Fm.lamp x∈fs ↔ ∃ c∈cs,x=one c) :
  Bq L=some (tx cs):=by
 refine OK.eq ?_
 unfold Bq
 simp only [quB,Ac,AK]
 have shape:∀ x∈L,∃ f∈fs,(∃ c,f = .lamp c/\x=⟨[.s "lamp",.s c]⟩)\/((∀ c,f ≠ .lamp c)/\∃ (w:Str) (l:List SI),w ≠ "lamp" /\ x=⟨.s w::l⟩):=fun x hx=>by
  obtain ⟨k,hk⟩:=List.getElem?_of_mem hx
  obtain ⟨f,hf,h⟩:=hb.at' hk
  refine ⟨f,quA hf,?_⟩
  cases f with
  | yes=>cases (show x=_ from h);exact .inr ⟨(fun c e=>by cases e),_,_,nl.1.1,rfl⟩
  | lamp c=>cases (show x=_ from h);exact .inl ⟨c,rfl,rfl⟩
  | neg a=>obtain ⟨j,_,_,rfl⟩:=h;exact .inr ⟨(fun c e=>by cases e),_,_,nl.1.2.1,rfl⟩
  | next a=>obtain ⟨j,_,_,rfl⟩:=h;exact .inr ⟨(fun c e=>by cases e),_,_,nl.1.2.2,rfl⟩
  | and a b=>obtain ⟨j,j',_,_,_,_,rfl⟩:=h;exact .inr ⟨(fun c e=>by cases e),_,_,nl.2.1,rfl⟩
  | unt a b=>obtain ⟨j,j',_,_,_,_,rfl⟩:=h;exact .inr ⟨(fun c e=>by cases e),_,_,nl.2.2,rfl⟩
 refine AG (Fd (c:=lampR) (g:=letR) (fun x hx=>?_) (fun x hx hc=>?_) ?_)
 ·obtain ⟨f,_,⟨c,_,rfl⟩ | ⟨_,w,l,hw,rfl⟩⟩:=shape x hx
  ·simp only [Gb,asS,Ac]
   rfl
  ·simp only [Gb,asS,Ac]
   rfl
 ·obtain ⟨f,_,⟨c,_,rfl⟩ | ⟨_,w,l,hw,rfl⟩⟩:=shape x hx
  ·simp only [at_s1,asS,Ac]
   rfl
  ·exact absurd (of_decide_eq_true hc) hw
 ·obtain ⟨e1,e2⟩:=sort_ded (ys:=(L.filter lampR).map letR) hcs fun y=>by
   rw [qoA]
   constructor
   ·rintro ⟨x,hx,rfl⟩
    obtain ⟨hx1,hx2⟩:=qpA.mp hx
    obtain ⟨f,hf,⟨c,rfl,rfl⟩ | ⟨_,w,l,hw,rfl⟩⟩:=shape x hx1
    ·exact (hm c).mp hf
    ·exact absurd (of_decide_eq_true hx2) hw
   ·rintro ⟨c,hc,rfl⟩
    obtain ⟨k,hk⟩:=List.getElem?_of_mem ((hm (one c)).mpr ⟨c,hc,rfl⟩)
    obtain ⟨r,hr,h⟩:=hb.at hk
    cases (show r=_ from h)
    exact ⟨⟨[.s "lamp",.s (one c)]⟩,qpA.mpr ⟨quA hr,(decide_eq_true rfl:decide (("lamp" : Str) = "lamp")=true)⟩,rfl⟩
  have l2:((L.filter lampR).map letR).length<=L.length:=by rw [qfA];exact List.length_filter_le _ _
  have e3:sortSetS ((L.filter lampR).map letR)=some (cs.map one):=by
   unfold sortSetS
   rw [if_pos ⟨by omega,by omega⟩,e1]
  exact ok_bC _ e3 (⟨_,join_tx _ (by omega),rfl⟩)
theorem R1.rw {fs:List Fm}{k:Nat}{r:Tp SI}{f:Fm}(h:R1 fs k r f):Rw k r:=by
 cases f with
 | yes=>rw [show r=_ from h];exact .yes
 | lamp c=>rw [show r=_ from h];exact .lamp c
 | neg a=>obtain ⟨j,hj,_,rfl⟩:=h;exact .one (.inl rfl) hj
 | next a=>obtain ⟨j,hj,_,rfl⟩:=h;exact .one (.inr rfl) hj
 | and a b=>obtain ⟨j,j',hj,hj',_,_,rfl⟩:=h;exact .two (.inl rfl) hj hj'
 | unt a b=>obtain ⟨j,j',hj,hj',_,_,rfl⟩:=h;exact .two (.inr rfl) hj hj'
theorem Bk.book {L:List (Tp SI)}{fs:List Fm}(hb:Bk L fs):ER L:=fun k r h=>by
 obtain ⟨f,_,h⟩:=hb.at' h
 exact h.rw
theorem book_one {f:Fm}(hd:f.dep<=160)(hs:f.size<=900):∃ (L:List (Tp SI)) (k:Nat),DS [f.nt]=some (L,[(k:Int)])/\ER L/\L.length<=900/\k<L.length/\cw L<=wc f /\
  ∀ ds:List Nat,(∀ c∈ds,c∈abcN)->(∀ x:Str,Fm.lamp x∈f.sub ↔ ∃ c∈ds,x=My.one c)->Bq L=some (tx (lts ds)):=by
 obtain ⟨L,fs,k,h1,h2,h3,h4,h5,h6,h7,h8⟩:=Gv 160 f [] [] hd Bk.nil Dif.nil (by show 0+f.size<_;omega)
 rw [List.nil_append] at h1 h2 h4
 rw [List.nil_append] at h2
 refine ⟨L,k,?_,h2.book,by omega,by rw [h2.1];exact FN h4,?_,fun ds hd hx=>?_⟩
 ·show ((BW AE 160 [] f.nt).bind fun z=>(FM (BW AE 160) [] z.1).bind fun y=>some (y.1,z.2::y.2))=_
  rw [h1]
  rfl
 ·have:=lay_cw 160 f [] L _ h1
  have e:cw []=0:=rfl
  omega
 ·refine lamps_in_ok h2 (by omega) (HQ ds) (Fe ds) fun x=>?_
  have e:Fm.lamp x∈fs ↔ Fm.lamp x∈f.sub:=by
   constructor
   ·exact h5 _
   ·intro h
    obtain ⟨i,_,hi⟩:=h2.subs h4 h
    exact quA hi
  rw [e,hx]
  exact ⟨fun ⟨c,hc,e⟩=>⟨c,(By hd c).mpr hc,e⟩,fun ⟨c,hc,e⟩=>⟨c,(By hd c).mp hc,e⟩⟩
theorem lamps_ok (n:Int){P:Str->Prop}(hp:∀ L:List Nat,(∀ c∈L,c∈abcN)->L.Pairwise (· < ·)->L.length<=3->P (tx L)):OK (DR n) P:=by
 have hz:sizeLine=16777216:=qtB
 have m0:=qxB (n % 1000000000000) (b:=3) (by decide)
 have m1:=qyB (n % 1000000000000) (b:=3) (by decide)
 obtain ⟨k,hk⟩:=qwB m0
 unfold DR
 simp only [quB,Ac,AK]
 refine AG (ok_rng (n:=k+1) (by omega) (by omega) (by omega) ?_)
 refine AG (Eb (fun i (s:Str × Int)=>s.1.cps.toList.length<=i/\∀ c∈s.1.cps.toList,c∈abcN) ⟨qkB _,fun c h=>(nomatch h)⟩ (fun i a s ha hI=>?_) fun s hI=>?_)
 ·obtain ⟨hi,rfl⟩:=rng_at ha
  obtain ⟨h1,h2⟩:=hI
  have q0:=qxB (s.2 / 3+7 * (i:Int)) (b:=26) (by decide)
  have q1:=qyB (s.2 / 3+7 * (i:Int)) (b:=26) (by decide)
  refine AG (ok_at q0 (by rw [abc_size];exact q1) fun c hc=>?_)
  have hc:=quA hc
  rw [abc_cps] at hc
  refine AG (ok_catS (a:=s.1) (b:=one c) (by show s.1.cps.toList.length+1<=_;omega) (AH ⟨_,rfl,?_,?_⟩))
  ·show (s.1++one c).cps.toList.length<=_
   rw [cps_app,qgA]
   show s.1.cps.toList.length+1<=_
   omega
  ·intro d hd
   have hd:d∈(s.1++one c).cps.toList:=hd
   rw [cps_app] at hd
   rcases qmA.mp hd with hd|hd
   ·exact h2 d hd
   ·rw [show d=c from qqA.mp hd]
    exact hc
 ·obtain ⟨h1,h2⟩:=hI
  rw [rng_len] at h1
  dsimp only
  rw [abc_signs]
  have nd:(lts s.1.cps.toList).Nodup:=(HQ _).imp fun h=>qjC h
  have hlen:=GQ nd (m:=s.1.cps.toList) fun c hc=>(By h2 c).mp hc
  refine AG (Fd (c:=fun l:Str=>inS l s.1) (g:=id) (fun _ _=>rfl) (fun _ _ _=>rfl) ?_)
  rw [List.map_id,filter_one]
  have e:(abcN.filter fun c=>inS (one c) s.1)=lts s.1.cps.toList:=List.filter_congr fun c _=>inS_one c s.1
  rw [e]
  exact ⟨_,join_tx _ (by omega),hp _ (fun c hc=>h2 c ((By h2 c).mp hc)) (HQ _) (by omega)⟩
structure Pl (L:List Nat)(x:T3 Nt Int Int)(n:Nat)(f:Fm):Prop where
 s:Sent x.a n f
 b:x.b=(n:Int)
 c:x.c=(wc f:Int)
 l:∀ s,Fm.lamp s∈f.sub->∃ c∈L,s=one c
def Pool (L:List Nat)(l:List (T3 Nt Int Int)):Prop:=l ≠ []/\∀ x∈l,∃ n f,Pl L x n f/\n<=24/\wc f<=5
theorem pool_ok {L:List Nat}(hL:∀ c∈L,c∈abcN)(hl:L.length<=3):OK (E8 (tx L)) fun l=>Pool L l/\l.length<=5:=by
 have hz:sizeLine=16777216:=qtB
 unfold E8
 simp only [quB,Ac,AK]
 rw [signs_tx]
 refine AG (Eb (fun i (s:List (T3 Nt Int Int))=>Pool L s/\s.length<=i+2) ⟨⟨by simp,fun x hx=>?_⟩,qkB _⟩ (fun i a s ha hI=>?_) fun s hI=>?_)
 ·simp only [qnA,qkC,or_false] at hx
  rcases hx with rfl|rfl
  ·exact ⟨1,.yes,⟨.yes,rfl,rfl,fun s h=>by simp [Fm.sub] at h⟩,by decide,by decide⟩
  ·exact ⟨1,.neg .yes,⟨.no,rfl,rfl,fun s h=>by simp [Fm.sub] at h⟩,by decide,by decide⟩
 ·obtain ⟨⟨h1,h2⟩,h3⟩:=hI
  have hi:=(qvA.mp ha).1
  rw [qfA] at hi
  obtain ⟨c,hc,rfl⟩:=qoA.mp (quA ha)
  refine AG (GO (by omega) (AH ⟨_,rfl,⟨by simp,fun x hx=>?_⟩,?_⟩))
  ·rcases qmA.mp hx with hx|hx
   ·exact h2 x hx
   ·rw [qqA.mp hx]
    refine ⟨1,.lamp (one c),⟨.lamp (hL c hc),rfl,rfl,fun s h=>?_⟩,by decide,by show 0<=5;decide⟩
    simp only [Fm.sub,qqA,Fm.lamp.injEq] at h
    exact ⟨c,hc,h⟩
  ·show (s++[_]).length<=_
   rw [qgA,qiA]
   omega
 ·obtain ⟨h1,h2⟩:=hI
  rw [qfA] at h2
  exact AH ⟨h1,by omega⟩
theorem a6:∀ i:Nat,i<6->∃ w,w∈W1/\([("not" : Str),("next" : Str),("atlast" : Str),("always" : Str),("again" : Str),("settles" : Str)]:List Str)[i]? = some w/\([(0:Int),(1:Int),(1:Int),(1:Int),(2:Int),(2:Int)]:List Int)[i]? = some (cst w:Int)
 | 0,_=>⟨"not",by simp [W1],rfl,by rw [show cst "not" = 0 by decide +kernel];rfl⟩
 | 1,_=>⟨"next",by simp [W1],rfl,by rw [show cst "next" = 1 by decide +kernel];rfl⟩
 | 2,_=>⟨"atlast",by simp [W1],rfl,by rw [show cst "atlast" = 1 by decide +kernel];rfl⟩
 | 3,_=>⟨"always",by simp [W1],rfl,by rw [show cst "always" = 1 by decide +kernel];rfl⟩
 | 4,_=>⟨"again",by simp [W1],rfl,by rw [show cst "again" = 2 by decide +kernel];rfl⟩
 | 5,_=>⟨"settles",by simp [W1],rfl,by rw [show cst "settles" = 2 by decide +kernel];rfl⟩
 | n+6,h=>absurd h (by omega)
theorem a5:∀ i:Nat,i<5->∃ w,w∈W2/\([("and" : Str),("or" : Str),("then" : Str),("until" : Str),("frees" : Str)]:List Str)[i]? = some w/\([(0:Int),(0:Int),(0:Int),(1:Int),(1:Int)]:List Int)[i]? = some (cst w:Int)
 | 0,_=>⟨"and",by simp [W2],rfl,by rw [show cst "and" = 0 by decide +kernel];rfl⟩
 | 1,_=>⟨"or",by simp [W2],rfl,by rw [show cst "or" = 0 by decide +kernel];rfl⟩
 | 2,_=>⟨"then",by simp [W2],rfl,by rw [show cst "then" = 0 by decide +kernel];rfl⟩
 | 3,_=>⟨"until",by simp [W2],rfl,by rw [show cst "until" = 1 by decide +kernel];rfl⟩
 | 4,_=>⟨"frees",by simp [W2],rfl,by rw [show cst "frees" = 1 by decide +kernel];rfl⟩
 | n+5,h=>absurd h (by omega)
theorem put_ok (n:Int){L:List Nat}{l:List (T3 Nt Int Int)}(h:Pool L l):OK (Em n l) fun x=>∃ m f,Pl L x m f:=by
 obtain ⟨ne,hm⟩:=h
 have hpos:0<l.length:=List.length_pos_iff.mpr ne
 unfold Em
 simp only [quB,Ac,AK]
 refine AG (ok_last ne ?_)
 obtain ⟨n1,f1,g1,_,_⟩:=hm _ (List.getLast_mem ne)
 generalize l.getLast ne=x1 at g1
 refine AG (ok_mod (by omega) (AG (ok_at (qxB _ (by omega)) (qyB _ (by omega)) fun x2 hx2=>?_)))
 obtain ⟨n2,f2,g2,_,_⟩:=hm _ (quA hx2)
 have q0:=qxB n (b:=11) (by decide)
 have q1:=qyB n (b:=11) (by decide)
 refine Ap (fun hk=>?_) fun hk=>?_
 ·have hk:=of_decide_eq_true hk
  obtain ⟨i,hi⟩:=qwB q0
  rw [hi] at hk ⊢
  obtain ⟨w,hw,e1,e2⟩:=a6 i (by omega)
  refine FW (P:=fun x=>∃ m f,Pl L x m f) (Ap (fun _=>AH ⟨_,_,g1⟩) fun _=>AH ⟨_,_,g2⟩) fun x ⟨m,f,g⟩=>?_
  rw [BS e2]
  simp only [Ac]
  rw [BS e1]
  simp only [Ac]
  refine AH ⟨m+1,pl1 w f,Sent.one hw g.s,by show x.b+1=_;rw [g.b];rfl,by show x.c+_=_;rw [g.c,wc1 hw,Int.natCast_add],fun s hs=>g.l s ((pl1_lamp w f s).mp hs)⟩
 ·have hk:=of_decide_eq_false hk
  obtain ⟨i,hi⟩:=qwB (a:=n % 11 - 6) (by omega)
  rw [hi]
  obtain ⟨w,hw,e1,e2⟩:=a5 i (by omega)
  refine FW (P:=fun y:T3 Nt Int Int × T3 Nt Int Int=>(∃ m f,Pl L y.1 m f)/\∃ m f,Pl L y.2 m f) (Ap (fun _=>AH ⟨⟨_,_,g2⟩,_,_,g1⟩) fun _=>AH ⟨⟨_,_,g1⟩,_,_,g2⟩) fun y ⟨⟨m1,k1,p1⟩,m2,k2,p2⟩=>?_
  rw [BS e2]
  simp only [Ac]
  rw [BS e1]
  simp only [Ac]
  refine AH ⟨m1+m2+1,pl2 w k1 k2,Sent.two hw p1.s p2.s,by show y.1.b+y.2.b+1=_;rw [p1.b,p2.b];rfl,by show y.1.c+y.2.c+_=_;rw [p1.c,p2.c,wc2 hw,Int.natCast_add,Int.natCast_add],fun s hs=>?_⟩
  rcases (pl2_lamp w k1 k2 s).mp hs with h|h
  ·exact p1.l s h
  ·exact p2.l s h
theorem sentence_ok (sc:Scr)(many:Int)(h0:0<=many)(h1:many<=200){L:List Nat}(hL:∀ c∈L,c∈abcN)(hl:L.length<=3) :
  OK (CC sc 2 many (tx L) 5) fun S=>∃ n f,Sent S n f/\n<=24/\wc f<=5/\∀ s,Fm.lamp s∈f.sub->∃ c∈L,s=one c:=by
 have hz:sizeLine=16777216:=qtB
 obtain ⟨k,rfl⟩:=qwB h0
 unfold CC
 simp only [quB,Ac,AK]
 refine FW (pool_ok hL hl) fun l ⟨hp,hp5⟩=>?_
 refine AG (ok_rng (n:=k) (by omega) (by omega) (by omega) ?_)
 refine AG (Eb (fun i (s:List (T3 Nt Int Int))=>Pool L s/\s.length<=i+5) ⟨hp,by omega⟩ (fun i a s ha hI=>?_) fun s hI=>?_)
 ·obtain ⟨hi,rfl⟩:=rng_at ha
  obtain ⟨h2,h3⟩:=hI
  refine AG (cell_ok _ _ (by omega) (by omega) fun c=>?_)
  refine FW (put_ok c h2) fun x ⟨m,f,g⟩=>?_
  refine Ap (fun hk=>?_) fun _=>AH ⟨_,rfl,h2,by omega⟩
  rw [qtC] at hk
  have k1:=of_decide_eq_true hk.1
  have k2:=of_decide_eq_true hk.2
  rw [g.b] at k1
  rw [g.c] at k2
  refine AG (GO (by omega) (AH ⟨_,rfl,⟨by simp,fun y hy=>?_⟩,?_⟩))
  ·rcases qmA.mp hy with hy|hy
   ·exact h2.2 y hy
   ·rw [qqA.mp hy]
    exact ⟨m,f,g,by omega,by omega⟩
  ·show (s++[_]).length<=_
   rw [qgA,qiA]
   omega
 ·obtain ⟨h2,h3⟩:=hI
  dsimp only
  refine AG (ok_last h2.1 (AH ?_))
  obtain ⟨m,f,g,q1,q2⟩:=h2.2 _ (List.getLast_mem h2.1)
  exact ⟨m,f,g.s,q1,q2,g.l⟩
theorem for_flat {α β ρ:Type}{f:α->List β->Option (Fl (List β) ρ)}(G:α->List β)(B M:Nat):∀ (as:List α) (s0:List β),(∀ a∈as,(G a).length<=B)->(∀ a∈as,∀ s:List β,s.length<=M->f a s=some (.nx (s++G a)))->s0.length+as.length * B<=M->CH f as s0=some (.nx (s0++as.flatMap G))
 | [],s0,_,_,_=>by
  rw [List.flatMap_nil,qfB]
  rfl
 | a::as,s0,hG,hf,hb=>by
  rw [qhA,Nat.add_mul,Nat.one_mul] at hb
  have h1:=hG a (qrA ..)
  show (f a s0).bind _=_
  rw [hf a (qrA ..) s0 (by omega)]
  show CH f as (s0++G a)=_
  rw [for_flat G B M as (s0++G a) (fun x hx=>hG x (qsA _ hx)) (fun x hx=>hf x (qsA _ hx)) (by rw [qgA];omega),List.flatMap_cons,qeB]
theorem GE {α β:Type}(G:α->List β)(B:Nat):∀ (as:List α),(∀ a∈as,(G a).length<=B)->(as.flatMap G).length<=as.length * B
 | [],_=>qrC _
 | a::as,h=>by
  have h1:=h a (qrA ..)
  have h2:=GE G B as fun x hx=>h x (qsA _ hx)
  rw [List.flatMap_cons,qgA,qhA,Nat.add_mul,Nat.one_mul]
  omega
theorem find_enum (y:Tp Bool):∀ (l:List (Tp Bool)) (n:Nat),y∈l->(((BM n l).map fun p=>(p.2,p.1)).find? fun q=>decide (q.1=y)).map (·.2)=some ((n+l.findIdx (fun z=>decide (z=y)):Nat):Int)
 | [],_,h=>nomatch h
 | a::l,n,h=>by
  show ((((a,(n:Int)))::(BM (n+1) l).map fun p=>(p.2,p.1)).find? _).map _=_
  rw [List.findIdx_cons]
  by_cases e:a=y
  ·rw [List.find?_cons_of_pos (by exact decide_eq_true e),decide_eq_true e]
   rfl
  ·rw [List.find?_cons_of_neg (by rw [decide_eq_false e];exact qzB),decide_eq_false e]
   have:=find_enum y l (n+1) (by
    rcases qnA.mp h with h|h
    ·exact absurd h.symm e
    ·exact h)
   rw [this]
   show some _=some _
   congr 2
   show n+1+_=n+(_+1)
   omega
theorem enum_fst:∀ (l:List (List Bool)) (n:Nat),((BM n (l.map Tp.mk)).map fun p=>(p.2,p.1)).map (·.1.l)=l
 | [],_=>rfl
 | a::l,n=>by
  show a::(((BM (n+1) (l.map Tp.mk)).map fun p=>(p.2,p.1)).map (·.1.l))=_
  rw [enum_fst l (n+1)]
section
variable (rows:List (Tp SI))(k:Nat)
def Wn:Nat:=(ws rows rows.length).length
def Cj (j:Nat):List Bool:=(ac (Wn rows)).getD j []
def Vw (m:Str)(j:Nat):List Bool:=vw rows m (fm (((ws rows rows.length).map fun (k:Nat)=>(k:Int)).zip (Cj rows j))) rows.length
def Cl (m:Str)(j:Nat):Tp Bool:=⟨(ws rows rows.length).map fun i=>(Vw rows m j).getD i false⟩
def Ea (m:Str)(j:Nat):Tp Int:=⟨told rows (Vw rows m j) rows.length⟩
def Ix (m:Str)(j:Nat):Nat:=((ac (Wn rows)).map Tp.mk).findIdx fun z=>decide (z=Cl rows m j)
def Pc (m:Str)(j:Nat):List (T4 Int Str Int (Tp Int)):=(cond (g (Vw rows m j) k) [T4.mk 0 m ((j:Int)+1) (Ea rows m j)] [])++[T4.mk ((Ix rows m j:Int)+1) m ((j:Int)+1) (Ea rows m j)]
def St (m:Str)(j:Nat):T5 Int Str Int (Tp Int) (Tp Bool):=T5.mk (Ix rows m j:Int) m (j:Int) (Ea rows m j) ⟨Vw rows m j⟩
theorem Pc_len (m:Str)(j:Nat):(Pc rows k m j).length<=2:=by
 unfold Pc
 cases g (Vw rows m j) k<;>simp
theorem Gf (m:Str)(j:Nat):(Vw rows m j).length=rows.length:=vw_len ..
theorem Cl_mem (m:Str)(j:Nat):Cl rows m j∈(ac (Wn rows)).map Tp.mk:=qoA.mpr ⟨_,(ac_mem _ _).mpr (by rw [qfA];rfl),rfl⟩
end
section
variable {rows:List (Tp SI)}{k:Nat}(hb:ER rows)(hl:rows.length<=900)(hw:Wn rows<=5)
include hb hl hw
theorem E_len:((ac (Wn rows)).map Tp.mk).length=2 ^ Wn rows/\2 ^ Wn rows<=32:=by
 rw [qfA,ac_len]
 exact ⟨rfl,Nat.pow_le_pow_right (n:=2) (by decide) hw⟩
theorem wt_eq:EG rows=some ((ws rows rows.length).map fun (k:Nat)=>(k:Int)):=waits_eq rows hb hl (by unfold Wn at hw;omega)
theorem every_eq:CM rows=some ((ac (Wn rows)).map Tp.mk):=by
 unfold CM
 simp only [quB,Ac,AK,wt_eq hb hl hw,qfA]
 exact claims_all (Wn rows) (by omega)
theorem at_every {j:Nat}(hj:j<2 ^ Wn rows):atI ((ac (Wn rows)).map Tp.mk) (j:Int)=some ⟨Cj rows j⟩:=by
 refine BS ?_
 have h:j<(ac (Wn rows)).length:=by rw [ac_len];exact hj
 rw [qaB,qwA h]
 unfold Cj
 rw [qbB,qwA h]
 rfl
theorem lk {j:Nat}(hj:j<2 ^ Wn rows)(m:Str):Gc rows m ⟨Cj rows j⟩=some ⟨Vw rows m j⟩:=by
 have h:j<(ac (Wn rows)).length:=by rw [ac_len];exact hj
 have hc:(Cj rows j).length=Wn rows:=by
  refine (ac_mem _ _).mp ?_
  unfold Cj
  rw [qbB,qwA h]
  exact List.getElem_mem h
 have e1:(((ws rows rows.length).map fun (k:Nat)=>(k:Int)).zip (Cj rows j)).map (·.1)=(ws rows rows.length).map fun (k:Nat)=>(k:Int):=List.map_fst_zip (by rw [qfA,hc];exact qkB _)
 have e2:(((ws rows rows.length).map fun (k:Nat)=>(k:Int)).zip (Cj rows j)).map (·.2)=Cj rows j:=List.map_snd_zip (by rw [qfA,hc];exact qkB _)
 have:=look_eq rows hb hl (by unfold Wn at hw;omega) m _ e1
 rw [e2] at this
 exact this
theorem cl_eq (m:Str)(j:Nat):Ck rows ⟨Vw rows m j⟩=some (Cl rows m j):=claims_eq rows hb hl (by unfold Wn at hw;omega) ⟨Vw rows m j⟩ (Gf ..)
theorem ea_eq (m:Str)(j:Nat):Ft rows ⟨Vw rows m j⟩=some (Ea rows m j):=eased_eq rows hb ⟨Vw rows m j⟩ (Gf ..)
theorem get_eq (m:Str)(j:Nat):getT ⟨(BM 0 ((ac (Wn rows)).map Tp.mk)).map fun p=>(p.2,p.1)⟩ (Cl rows m j)=some (Ix rows m j:Int):=by
 have:=find_enum (Cl rows m j) ((ac (Wn rows)).map Tp.mk) 0 (Cl_mem ..)
 rw [Nat.zero_add] at this
 exact this
theorem dict_eq:dictT ((BM 0 ((ac (Wn rows)).map Tp.mk)).map fun p=>(p.2,p.1))=some ⟨(BM 0 ((ac (Wn rows)).map Tp.mk)).map fun p=>(p.2,p.1)⟩:=by
 have ⟨h1,h2⟩:=E_len hb hl hw
 unfold dictT
 refine if_pos ⟨?_,?_⟩
 ·rw [enum_fst]
  exact ac_nd _
 ·rw [qfA,Do]
  omega
def Mt (rows:List (Tp SI))(k:Nat)(m:Str):List (T4 Int Str Int (Tp Int)):=(List.range (2 ^ Wn rows)).flatMap (Pc rows k m)
omit hb hl hw in
theorem Mt_len (m:Str)(h:2 ^ Wn rows<=32):(Mt rows k m).length<=64:=by
 have:=GE (Pc rows k m) 2 (List.range (2 ^ Wn rows)) fun j _=>Pc_len rows k m j
 rw [qjA] at this
 unfold Mt
 omega
theorem steps_at_eq (m:Str):Dv rows m=some ((List.range (2 ^ Wn rows)).map (St rows m)):=by
 have hz:sizeLine=16777216:=qtB
 have ⟨el,e32⟩:=E_len hb hl hw
 refine OK.eq ?_
 unfold Dv
 simp only [quB,Ac,AK]
 refine AG (OK.of (every_eq hb hl hw) ?_)
 refine AG (ok_map (g:=fun p:Int × Tp Bool=>(p.2,p.1)) (fun _ _=>rfl) (AG (OK.of (dict_eq hb hl hw) ?_)))
 refine AG (Eb (fun i (s:List (T5 Int Str Int (Tp Int) (Tp Bool)))=>s=(List.range i).map (St rows m)) rfl (fun i a s ha hI=>?_) fun s hI=>?_)
 ·rw [DZ] at ha
  obtain ⟨c,hc,rfl⟩:=qoB.mp ha
  have hi:i<2 ^ Wn rows:=by rw [<- el];exact (qvA.mp hc).1
  have ec:c=⟨Cj rows i⟩:=by
   have:=at_every hb hl hw hi
   rw [BS hc] at this
   exact qpB this
  subst ec
  dsimp only
  subst hI
  refine AG (OK.of (lk hb hl hw hi m) (AG (OK.of (cl_eq hb hl hw m i) (AG (OK.of (get_eq hb hl hw m i) (AG (OK.of (ea_eq hb hl hw m i) (AG (GO ?_ (AH ⟨_,rfl,?_⟩))))))))))
  ·rw [qfA,qjA]
   omega
  ·rw [List.range_succ,qdB,Nat.zero_add]
   rfl
 ·rw [Do,el] at hI
  rw [hI]
  exact AH rfl
theorem steps_of_eq {lit:Str}(hlit:Bq rows=some lit){ms:List Str}(hms:BU lit=some ms)(h8:ms.length<=8):Dt rows=some (ms.flatMap fun m=>(List.range (2 ^ Wn rows)).map (St rows m)):=by
 have hz:sizeLine=16777216:=qtB
 have ⟨el,e32⟩:=E_len hb hl hw
 refine OK.eq ?_
 unfold Dt
 simp only [quB,Ac,AK]
 refine AG (OK.of hlit (AG (OK.of hms ?_)))
 have hB:∀ m:Str,((List.range (2 ^ Wn rows)).map (St rows m)).length<=32:=fun m=>by rw [qfA,qjA];exact e32
 refine AG (OK.of (for_flat (fun m=>(List.range (2 ^ Wn rows)).map (St rows m)) 32 1000 ms [] (fun m _=>hB m) (fun m _ s hs=>?_) (by show 0+_<=_;omega)) ?_)
 ·refine OK.eq ?_
  have:=hB m
  exact AG (OK.of (steps_at_eq hb hl hw m) (AG (OK.of (if_pos (by omega)) (AH rfl))))
 ·dsimp only
  rw [List.nil_append]
  exact AH rfl
def Qr (k:Nat)(t:T5 Int Str Int (Tp Int) (Tp Bool)):List (T4 Int Str Int (Tp Int)):=(cond (g t.e.l k) [T4.mk 0 t.b (t.c+1) t.d] [])++[T4.mk (t.a+1) t.b (t.c+1) t.d]
theorem wob_eq (hk:k<rows.length){lit:Str}(hlit:Bq rows=some lit){ms:List Str}(hms:BU lit=some ms)(h8:ms.length<=8) :
  BX rows (k:Int)=some (T4.mk lit (1+((2 ^ Wn rows:Nat):Int)) (ms.flatMap (Mt rows k)) ((hs rows rows.length).length:Int)):=by
 have hz:sizeLine=16777216:=qtB
 have ⟨el,e32⟩:=E_len hb hl hw
 have hB:∀ m:Str,((List.range (2 ^ Wn rows)).map (St rows m)).length<=32:=fun m=>by rw [qfA,qjA];exact e32
 have hF:=GE (fun m=>(List.range (2 ^ Wn rows)).map (St rows m)) 32 ms fun m _=>hB m
 have hQ:∀ t,(Qr k t).length<=2:=fun t=>by
  unfold Qr
  cases g t.e.l k<;>simp
 refine OK.eq ?_
 unfold BX
 simp only [quB,Ac,AK]
 refine AG (OK.of (steps_of_eq hb hl hw hlit hms h8) ?_)
 refine AG (OK.of (for_flat (Qr k) 2 1000 _ [] (fun t _=>hQ t) (fun t ht s hs=>?_) (by show 0+_<=_;omega)) ?_)
 ·have ht:t.e.l.length=rows.length:=by
   obtain ⟨m,_,ht⟩:=List.mem_flatMap.mp ht
   obtain ⟨j,_,rfl⟩:=qoA.mp ht
   exact Gf ..
  refine OK.eq ?_
  refine AG (OK.of (at_g (by rw [ht];exact hk)) ?_)
  refine FW (P:=fun z=>z=s++cond (g t.e.l k) [T4.mk 0 t.b (t.c+1) t.d] []) (Ap (fun h=>?_) fun h=>AH ?_) fun z hz=>?_
  ·rw [h]
   exact GO (by omega) rfl
  ·rw [h]
   exact (qfB _).symm
  ·subst hz
   refine AG (GO ?_ (AH ?_))
   ·rw [qgA]
    have:(cond (g t.e.l k) [T4.mk (0:Int) t.b (t.c+1) t.d] []).length<=1:=by cases g t.e.l k<;>simp
    omega
   ·rw [qeB]
    rfl
 ·dsimp only
  refine AG (OK.of hlit (AG (OK.of (every_eq hb hl hw) (AG (OK.of (hopes_eq rows hb) (AH ?_))))))
  rw [List.nil_append,el,List.flatMap_assoc]
  congr 1
  refine congrArg (fun f=>ms.flatMap f) (funext fun m=>?_)
  rw [List.flatMap_map]
  rfl
end
theorem forO_congr {α S ρ:Type}{f g:α->S->Option (Fl S ρ)}:∀ (l:List α) (s:S),(∀ a∈l,∀ s,f a s=g a s)->CH f l s=CH g l s
 | [],s,_=>rfl
 | a::l,s,h=>by
  show (f a s).bind _=(g a s).bind _
  rw [h a (qrA ..) s]
  congr 1
  funext fl
  cases fl with
  | nx s'=>exact forO_congr l s' fun b hb=>h b (qsA _ hb)
  | bk s'=>rfl
  | rt r=>rfl
theorem lay_fuel:∀ (f:Fm) (n m:Nat) (L:List (Tp SI)),f.dep<=n->f.dep<=m->BW AE n L f.nt=BW AE m L f.nt:=by
 have step:∀ (n m:Nat) (w:Str) (l:List Nt) (L:List (Tp SI)),w ≠ "lamp" -> (∀ a∈l,∀ L,BW AE n L a=BW AE m L a)->BW AE (n+1) L (.tup (.txt w::l))=BW AE (m+1) L (.tup (.txt w::l)):=fun n m w l L hw h=>by
  rw [Dl hw,Dl hw]
  rw [forO_congr (f:=HR (BW AE n)) (g:=HR (BW AE m)) l (L,[.s w]) fun a ha s=>by
   show ((BW AE n s.1 a).bind _)=((BW AE m s.1 a).bind _)
   rw [h a ha s.1]]
 have one:∀ (w:Str) (l:List Fm),w ≠ "lamp" -> (∀ a∈l,∀ n m L,a.dep<=n->a.dep<=m->BW AE n L a.nt=BW AE m L a.nt)->∀ d,(∀ a∈l,a.dep<=d)->∀ n m L,d+1<=n->d+1<=m->BW AE n L (.tup (.txt w::l.map Fm.nt))=BW AE m L (.tup (.txt w::l.map Fm.nt)):=fun w l hw h d hd n m L hn hm=>by
  obtain ⟨n,rfl⟩:∃ j,n=j+1:=⟨n - 1,by omega⟩
  obtain ⟨m,rfl⟩:∃ j,m=j+1:=⟨m - 1,by omega⟩
  refine step n m w _ L hw fun x hx L=>?_
  obtain ⟨a,ha,rfl⟩:=qoA.mp hx
  have:=hd a ha
  exact h a ha n m L (by omega) (by omega)
 intro f
 induction f with
 | yes=>exact fun n m L=>one "yes" [] nl.1.1 (fun a h=>nomatch h) 0 (fun a h=>nomatch h) n m L
 | lamp c =>
  intro n m L hn hm
  obtain ⟨n,rfl⟩:∃ j,n=j+1:=⟨n - 1,by have:1<=n:=hn;omega⟩
  obtain ⟨m,rfl⟩:∃ j,m=j+1:=⟨m - 1,by have:1<=m:=hm;omega⟩
  exact (lay_lamp c L).trans (lay_lamp c L).symm
 | neg a ih=>exact fun n m L=>one "not" [a] nl.1.2.1 (by simpa using ih) a.dep (by simp) n m L
 | next a ih=>exact fun n m L=>one "next" [a] nl.1.2.2 (by simpa using ih) a.dep (by simp) n m L
 | and a b i1 i2=>exact fun n m L=>one "and" [a,b] nl.2.1 (by simpa using ⟨i1,i2⟩) (max a.dep b.dep) (by simp;omega) n m L
 | unt a b i1 i2=>exact fun n m L=>one "until" [a,b] nl.2.2 (by simpa using ⟨i1,i2⟩) (max a.dep b.dep) (by simp;omega) n m L
def ntr (k:Nat):Tp SI:=⟨[.s "not",.i (k:Int)]⟩
theorem book_two {f:Fm}(hd:f.dep<=150)(hs:f.size<=800):∃ (L:List (Tp SI)) (k:Nat),DS [f.nt]=some (L,[(k:Int)])/\DS [(Fm.neg f).nt]=some (L++[ntr k],[((L.length:Nat):Int)]):=by
 obtain ⟨L,fs,k,h1,h2,h3,h4,h5,h6,h7,h8⟩:=Gv 160 f [] [] (by omega) Bk.nil Dif.nil (by show 0+f.size<_;omega)
 rw [List.nil_append] at h1 h2 h3 h4
 rw [List.nil_append] at h2
 refine ⟨L,k,?_,?_⟩
 ·show ((BW AE 160 [] f.nt).bind fun z=>(FM (BW AE 160) [] z.1).bind fun y=>some (y.1,z.2::y.2))=_
  rw [h1]
  rfl
 ·have e1:BW AE 159 [] f.nt=some (L,(k:Int)):=by
   rw [lay_fuel f 159 160 [] (by omega) (by omega)]
   exact h1
  have e2:BW AE 160 [] (Fm.neg f).nt=CF L ⟨[.s "not",.i (k:Int)]⟩:=by
   show BW AE (159+1) [] (.tup (.txt "not" :: [f.nt]))=_
   rw [Dl nl.1.2.1]
   exact fl_one e1
  have hr:R1 fs L.length (ntr k) (Fm.neg f):=⟨k,by rw [h2.1];exact FN h4,h4,rfl⟩
  rcases step h2 h3 hr (by omega) with ⟨m,hm,_⟩ | ⟨_,hm,_⟩
  ·have:=EK (h5 _ (quA hm))
   have e:(Fm.neg f).size=f.size+1:=rfl
   omega
  ·show ((BW AE 160 [] (Fm.neg f).nt).bind fun z=>(FM (BW AE 160) [] z.1).bind fun y=>some (y.1,z.2::y.2))=_
   rw [e2]
   have hm:CF L ⟨[.s "not",.i (k:Int)]⟩=some (L++[ntr k],((L.length:Nat):Int)):=hm
   rw [hm]
   rfl
section
variable {rows:List (Tp SI)}{k:Nat}
theorem ntr_getD {i:Nat}(hi:i<rows.length):(rows++[ntr k]).getD i ⟨[]⟩=rows.getD i ⟨[]⟩:=by
 rw [qbB,qxA hi,<- qbB]
theorem ntr_last:(rows++[ntr k]).getD rows.length ⟨[]⟩=ntr k:=by
 rw [qbB,qyA (qkB _),Nat.sub_self]
 rfl
theorem ntr_isU {i:Nat}(hi:i<rows.length):isU (rows++[ntr k]) i=isU rows i:=by
 unfold isU
 rw [ntr_getD hi]
theorem ntr_isU':isU (rows++[ntr k]) rows.length=false:=by
 unfold isU
 rw [ntr_last]
 exact decide_eq_false (fun e=>absurd (show ("not" : Str) = "until" from e) (by decide +kernel))
theorem ntr_mem (i:Nat):nxt i∈rows++[ntr k] ↔ nxt i∈rows:=by
 rw [qmA,qqA]
 refine ⟨fun h=>h.elim id fun e=>?_,.inl⟩
 unfold nxt ntr at e
 injection e with e
 injection e with e _
 injection e with e
 exact absurd e (by decide +kernel)
theorem ntr_isW {i:Nat}(hi:i<rows.length):isW (rows++[ntr k]) i=isW rows i:=by
 unfold isW
 rw [ntr_isU hi,decide_eq_decide.mpr (ntr_mem i)]
theorem ntr_isW' (hb:ER rows):isW (rows++[ntr k]) rows.length=false:=by
 unfold isW
 rw [ntr_isU',decide_eq_false (fun h=>absurd (nxt_lt hb ((ntr_mem _).mp h)) (qnB _))]
 rfl
theorem ntr_len:(rows++[ntr k]).length=rows.length+1:=by rw [qgA];rfl
theorem ntr_ws (hb:ER rows):ws (rows++[ntr k]) (rows++[ntr k]).length=ws rows rows.length:=by
 unfold ws
 rw [ntr_len,List.range_succ,qhB,qjB (by rw [ntr_isW' hb];decide),List.filter_nil,qfB]
 exact List.filter_congr fun i hi=>ntr_isW (qtA.mp hi)
theorem ntr_hs:hs (rows++[ntr k]) (rows++[ntr k]).length=hs rows rows.length:=by
 unfold hs
 rw [ntr_len,List.range_succ,qhB,qjB (by rw [ntr_isU'];decide),List.filter_nil,qfB]
 congr 1
 exact List.filter_congr fun i hi=>ntr_isU (qtA.mp hi)
theorem ntr_Wn (hb:ER rows):Wn (rows++[ntr k])=Wn rows:=by unfold Wn;rw [ntr_ws hb]
theorem ntr_Cj (hb:ER rows)(j:Nat):Cj (rows++[ntr k]) j=Cj rows j:=by unfold Cj;rw [ntr_Wn hb]
theorem ntr_Vw (hb:ER rows)(m:Str)(j:Nat):Vw (rows++[ntr k]) m j=Vw rows m j++[!g (Vw rows m j) k]:=by
 unfold Vw
 rw [ntr_ws hb,ntr_Cj hb,ntr_len]
 show vw (rows++[ntr k]) m _ rows.length++[tr m _ (vw (rows++[ntr k]) m _ rows.length) rows.length (rw_ (rows++[ntr k]) rows.length)]=_
 rw [vw_more _ _ _ _ _ (qkB _)]
 have e:rw_ (rows++[ntr k]) rows.length=⟨[.s "not",.i (k:Int)]⟩:=ntr_last
 rw [e,tr_not]
theorem ntr_g (hb:ER rows)(m:Str)(j:Nat):g (Vw (rows++[ntr k]) m j) rows.length = !g (Vw rows m j) k:=by
 have hv:=Gf rows m j
 rw [ntr_Vw hb]
 unfold g
 rw [qbB,qyA (by omega),hv,Nat.sub_self]
 rfl
theorem ntr_at (hb:ER rows)(m:Str)(j:Nat){i:Nat}(hi:i<rows.length):(Vw (rows++[ntr k]) m j)[i]? = (Vw rows m j)[i]?:=by
 rw [ntr_Vw hb,qxA (by rw [Gf];exact hi)]
theorem ntr_Cl (hb:ER rows)(m:Str)(j:Nat):Cl (rows++[ntr k]) m j=Cl rows m j:=by
 unfold Cl
 rw [ntr_ws hb]
 congr 1
 refine List.map_congr_left fun i hi=>?_
 rw [qbB,ntr_at hb m j (mem_ws.mp hi).1,<- qbB]
theorem ntr_Ix (hb:ER rows)(m:Str)(j:Nat):Ix (rows++[ntr k]) m j=Ix rows m j:=by
 unfold Ix
 rw [ntr_Wn hb,ntr_Cl hb]
theorem ntr_Ea (hb:ER rows)(m:Str)(j:Nat):Ea (rows++[ntr k]) m j=Ea rows m j:=by
 unfold Ea told
 rw [ntr_hs]
 congr 2
 refine List.filter_congr fun q hq=>?_
 obtain ⟨i,hi⟩:=List.mem_iff_getElem?.mp hq
 rw [DZ] at hi
 obtain ⟨x,hx,rfl⟩:=qoB.mp hi
 have hm:=quA hx
 unfold hs at hm
 obtain ⟨c,hc,rfl⟩:=qoA.mp hm
 obtain ⟨hc1,hc2⟩:=qpA.mp hc
 have hc1:=qtA.mp hc1
 obtain ⟨i',j',a,b,u⟩:=un_of (v:=Vw rows m j) hb (Gf ..) hc1 hc2
 have hj':j'<rows.length:=by
  have:=(qvA.mp u.b).1
  rw [Gf] at this
  exact this
 have u':Un (rows++[ntr k]) (Vw (rows++[ntr k]) m j) c i' j' a b:=⟨by rw [qxA hc1];exact u.r,by rw [ntr_at hb m j hc1];exact u.a,by rw [ntr_at hb m j hj'];exact u.b⟩
 show ez _ _ (c:Int).toNat=ez _ _ (c:Int).toNat
 rw [qvB,u.ez',u'.ez']
end
abbrev Rw4:=T4 Int Str Int (Tp Int)
def kyR (r:Rw4):Rk:=Rk.mk [.s r.b,.i r.c]
theorem getR_add {l:List (Rk × List Rw4)}{k κ:Rk}{a:Rw4}:(getR (He l k a) κ).getD []=if κ=k then (getR l k).getD []++[a] else (getR l κ).getD []:=by
 unfold He
 split
 ·rename_i h
  induction l with
  | nil=>exact nomatch h
  | cons q l ih =>
   rw [qcB]
   by_cases e:q.1=k
   ·rw [if_pos e]
    show (if q.1=κ then some (q.2++[a]) else getR _ κ).getD []=_
    by_cases e2:κ=k
    ·rw [if_pos (e.trans e2.symm),if_pos e2]
     show _=(if q.1=k then some q.2 else getR l k).getD []++[a]
     rw [if_pos e]
     rfl
    ·have e3:¬ q.1=κ:=fun z=>e2 (z.symm.trans e)
     rw [if_neg e3,if_neg e2]
     show _=(if q.1=κ then some q.2 else getR l κ).getD []
     rw [if_neg e3]
     clear ih h
     induction l with
     | nil=>rfl
     | cons x l ih =>
      rw [qcB]
      by_cases ex:x.1=k
      ·have e4:¬ x.1=κ:=fun z=>e2 (z.symm.trans ex)
       rw [if_pos ex]
       show (if x.1=κ then some (x.2++[a]) else getR _ κ).getD []=(if x.1=κ then some x.2 else getR l κ).getD []
       rw [if_neg e4,if_neg e4]
       exact ih
      ·rw [if_neg ex]
       show (if x.1=κ then some x.2 else getR _ κ).getD []=(if x.1=κ then some x.2 else getR l κ).getD []
       by_cases e5:x.1=κ
       ·rw [if_pos e5,if_pos e5]
       ·rw [if_neg e5,if_neg e5]
        exact ih
   ·rw [if_neg e]
    have h2:(l.any fun q=>decide (q.1=k))=true:=by
     rw [List.any_cons,decide_eq_false e] at h
     exact h
    have ih:=ih h2
    show (if q.1=κ then some q.2 else getR _ κ).getD []=if κ=k then (if q.1=k then some q.2 else getR l k).getD []++[a] else (if q.1=κ then some q.2 else getR l κ).getD []
    rw [if_neg e]
    by_cases e2:q.1=κ
    ·have e3:¬ κ=k:=fun z=>e (e2.trans z)
     rw [if_pos e2,if_neg e3,if_pos e2]
    ·rw [if_neg e2,if_neg e2]
     exact ih
 ·rename_i h
  induction l with
  | nil =>
   show (if k=κ then some [a] else none).getD []=if κ=k then (none:Option (List Rw4)).getD []++[a] else (none:Option (List Rw4)).getD []
   by_cases e:κ=k
   ·rw [if_pos e.symm,if_pos e]
    rfl
   ·rw [if_neg (fun z=>e z.symm),if_neg e]
  | cons q l ih =>
   rw [List.any_cons,Bool.or_eq_true,not_or] at h
   have hq:¬ q.1=k:=fun z=>h.1 (decide_eq_true z)
   have ih:=ih h.2
   show (if q.1=κ then some q.2 else getR (l++[(k,[a])]) κ).getD []=if κ=k then (if q.1=k then some q.2 else getR l k).getD []++[a] else (if q.1=κ then some q.2 else getR l κ).getD []
   rw [if_neg hq]
   by_cases e2:q.1=κ
   ·have e3:¬ κ=k:=fun z=>hq (e2.trans z)
    rw [if_pos e2,if_neg e3,if_pos e2]
   ·rw [if_neg e2,if_neg e2]
    exact ih
theorem addL_len {l:List (Rk × List Rw4)}{k:Rk}{a:Rw4}{n:Nat}(h1:l.length<=n)(h2:∀ q∈l,q.2.length<=n):(He l k a).length<=n+1/\∀ q∈He l k a,q.2.length<=n+1:=by
 unfold He
 split
 ·refine ⟨by rw [qfA];omega,fun q hq=>?_⟩
  obtain ⟨x,hx,rfl⟩:=qoA.mp hq
  have:=h2 x hx
  split
  ·show (x.2++[a]).length<=_
   rw [qgA,qiA]
   omega
  ·omega
 ·refine ⟨by rw [qgA,qiA];omega,fun q hq=>?_⟩
  rcases qmA.mp hq with hq|hq
  ·have:=h2 q hq
   omega
  ·rw [qqA.mp hq]
   show 1<=n+1
   omega
def pk (b:Bool)(κ:Rk)(r:Rw4):Bool:=decide (decide (r.a=0)=b) && decide (kyR r=κ)
theorem to_ok (W:T4 Str Int (List Rw4) Int)(b:Bool)(hl:W.c.length<=1000):OK (EO W b) fun D=>∀ κ,(getR D.l κ).getD []=W.c.filter (pk b κ):=by
 have hz:sizeLine=16777216:=qtB
 unfold EO
 simp only [quB,Ac,AK]
 refine AG (Eb (fun i (s:MpR (List Rw4))=>s.l.length<=i/\(∀ q∈s.l,q.2.length<=i)/\∀ κ,(getR s.l κ).getD []=(W.c.take i).filter (pk b κ)) ⟨qkB _,fun q h=>(nomatch h),fun κ=>rfl⟩ (fun i r s ha hI=>?_) fun s hI=>?_)
 ·obtain ⟨h1,h2,h3⟩:=hI
  have hi:=(qvA.mp ha).1
  have ht:W.c.take (i+1)=W.c.take i++[r]:=by rw [List.take_add_one,ha];rfl
  refine Ap (fun hk=>?_) fun hk=>AH ⟨_,rfl,by omega,fun q hq=>by have:=h2 q hq;omega,fun κ=>?_⟩
  ·refine AG (OK.of (if_pos ⟨by omega,List.all_eq_true.mpr fun q hq=>decide_eq_true (by have:=h2 q hq;omega)⟩) (AH ⟨_,rfl,(addL_len h1 h2).1,(addL_len h1 h2).2,fun κ=>?_⟩))
   show (getR (He s.l (kyR r) r) κ).getD []=_
   rw [getR_add,ht,qhB]
   by_cases e:κ=kyR r
   ·rw [if_pos e,h3,<- e,qiB (by show (_ && decide (kyR r=κ))=true;rw [decide_eq_true e.symm,hk];rfl)]
    rfl
   ·rw [if_neg e,h3,qjB (by show ¬ (_ && decide (kyR r=κ))=true;rw [decide_eq_false (p:=kyR r=κ) (fun z=>e z.symm),Bool.and_false];decide)]
    exact (qfB _).symm
  ·rw [h3,ht,qhB,qjB (by show ¬ (_ && _)=true;rw [hk,Bool.false_and];decide)]
   exact (qfB _).symm
 ·obtain ⟨_,_,h3⟩:=hI
  rw [List.take_length] at h3
  exact AH h3
theorem flat_one {α β:Type}(G:α->List β)(p:β->Bool):∀ (as:List α) (a0:α),as.Nodup->a0∈as->(∀ a∈as,a≠a0->(G a).filter p=[])->(as.flatMap G).filter p=(G a0).filter p
 | [],_,_,h,_=>nomatch h
 | a::as,a0,nd,h,hf=>by
  rw [List.nodup_cons] at nd
  rw [List.flatMap_cons,qhB]
  rcases qnA.mp h with e|h
  ·subst e
   have:(as.flatMap G).filter p=[]:=by
    rw [List.filter_flatMap]
    refine List.flatMap_eq_nil_iff.mpr fun x hx=>hf x (qsA _ hx) fun z=>nd.1 (z ▸ hx)
   rw [this,qfB]
  ·rw [hf a (qrA ..) fun z=>nd.1 (z ▸ h),List.nil_append]
   exact flat_one G p as a0 nd.2 h fun x hx=>hf x (qsA _ hx)
theorem ky_ne {m m':Str}{i j:Int}(h:¬ (m=m'/\i=j)):Rk.mk [.s m,.i i]≠Rk.mk [.s m',.i j]:=fun e=>by
 injection e with e
 injection e with e1 e
 injection e with e2 _
 injection e1 with e1
 injection e2 with e2
 exact h ⟨e1,e2⟩
section
variable (rows:List (Tp SI))(k:Nat)
theorem Pc_other {m m':Str}{i j:Nat}(b:Bool)(h:¬ (m'=m/\i=j)):(Pc rows k m' i).filter (pk b (Rk.mk [.s m,.i ((j:Int)+1)]))=[]:=by
 rw [List.filter_eq_nil_iff]
 intro r hr
 have hk:kyR r=Rk.mk [.s m',.i ((i:Int)+1)]:=by
  unfold Pc at hr
  rcases qmA.mp hr with hr|hr
  ·cases hg:g (Vw rows m' i) k with
   | true =>
    rw [hg] at hr
    rw [qqA.mp hr]
    rfl
   | false =>
    rw [hg] at hr
    exact nomatch hr
  ·rw [qqA.mp hr]
   rfl
 show ¬ (_ && decide (kyR r=_))=true
 rw [hk,decide_eq_false (ky_ne fun ⟨e1,e2⟩=>h ⟨e1,by omega⟩),Bool.and_false]
 decide
theorem Pc_true (m:Str)(j:Nat):(Pc rows k m j).filter (pk true (Rk.mk [.s m,.i ((j:Int)+1)]))=cond (g (Vw rows m j) k) [T4.mk 0 m ((j:Int)+1) (Ea rows m j)] []:=by
 have h1:pk true (Rk.mk [.s m,.i ((j:Int)+1)]) (T4.mk ((Ix rows m j:Int)+1) m ((j:Int)+1) (Ea rows m j))=false:=by
  show (decide (decide ((Ix rows m j:Int)+1=0)=true) && _)=false
  rw [decide_eq_false (show ¬ (Ix rows m j:Int)+1=0 by omega)]
  rfl
 have h2:pk true (Rk.mk [.s m,.i ((j:Int)+1)]) (T4.mk 0 m ((j:Int)+1) (Ea rows m j))=true:=by
  exact Bool.and_eq_true_iff.mpr ⟨decide_eq_true (decide_eq_true rfl),decide_eq_true rfl⟩
 unfold Pc
 rw [qhB,qjB (by rw [h1];decide),List.filter_nil,qfB]
 cases g (Vw rows m j) k with
 | true=>exact (qiB h2)
 | false=>rfl
theorem Pc_false (m:Str)(j:Nat):(Pc rows k m j).filter (pk false (Rk.mk [.s m,.i ((j:Int)+1)]))=[T4.mk ((Ix rows m j:Int)+1) m ((j:Int)+1) (Ea rows m j)]:=by
 have h1:pk false (Rk.mk [.s m,.i ((j:Int)+1)]) (T4.mk ((Ix rows m j:Int)+1) m ((j:Int)+1) (Ea rows m j))=true:=by
  show (decide (decide ((Ix rows m j:Int)+1=0)=false) && decide (Rk.mk _=_))=true
  rw [decide_eq_false (show ¬ (Ix rows m j:Int)+1=0 by omega),decide_eq_true rfl,decide_eq_true rfl]
  rfl
 have h2:pk false (Rk.mk [.s m,.i ((j:Int)+1)]) (T4.mk 0 m ((j:Int)+1) (Ea rows m j))=false:=by
  show (decide (decide ((0:Int)=0)=false) && _)=false
  rw [decide_eq_true rfl]
  rfl
 unfold Pc
 rw [qhB,qiB h1,List.filter_nil]
 cases g (Vw rows m j) k with
 | true =>
  show (List.filter _ [_])++_=_
  rw [qjB (by rw [h2];decide)]
  rfl
 | false=>rfl
theorem all_filter {ms:List Str}(nd:ms.Nodup){m:Str}(hm:m∈ms){j:Nat}(hj:j<2 ^ Wn rows)(b:Bool):(ms.flatMap (Mt rows k)).filter (pk b (Rk.mk [.s m,.i ((j:Int)+1)]))=(Pc rows k m j).filter (pk b (Rk.mk [.s m,.i ((j:Int)+1)])):=by
 rw [flat_one (Mt rows k) _ ms m nd hm fun m' _ ne=>?_]
 ·unfold Mt
  exact flat_one (Pc rows k m) _ _ j List.nodup_range (qtA.mpr hj) fun i _ ne=>Pc_other rows k b fun e=>ne e.2
 ·unfold Mt
  rw [List.filter_flatMap]
  exact List.flatMap_eq_nil_iff.mpr fun i _=>Pc_other rows k b fun e=>ne e.1
theorem Pc_pos (m:Str)(j:Nat):(Pc rows k m j).filter (fun r=>decide (0<r.a))=[T4.mk ((Ix rows m j:Int)+1) m ((j:Int)+1) (Ea rows m j)]:=by
 unfold Pc
 rw [qhB,qiB (by exact decide_eq_true (show (0:Int)<(Ix rows m j:Int)+1 by omega)),List.filter_nil]
 cases g (Vw rows m j) k with
 | true=>rfl
 | false=>rfl
end
theorem Fk (n:Nat)(w:Str)(l:List Nt)(hw:w ≠ "lamp"){ts:List Int}(hm:Dr (fun p:Nt=>BG n p) l=some ts):BG (n+1) (.tup (.txt w::l))=some (1+ts.sum):=by
 show C9 (BG n) _=_
 unfold C9
 simp only [quB,Ac,AK,BC,at0,C0,decide_eq_false hw,cond_false,cut_tailN]
 rw [hm]
 rfl
theorem words_ok {S:Nt}{n:Nat}{f:Fm}(h:Sent S n f):∀ k,n<=k->BG k S=some (n:Int):=by
 induction h with
 | yes =>
  intro k hk
  obtain ⟨k,rfl⟩:∃ j,k=j+1:=⟨k - 1,by omega⟩
  exact Fk k "yes" [] (by decide +kernel) (ts:=[]) rfl
 | no =>
  intro k hk
  obtain ⟨k,rfl⟩:∃ j,k=j+1:=⟨k - 1,by omega⟩
  exact Fk k "no" [] (by decide +kernel) (ts:=[]) rfl
 | @lamp c hc =>
  intro k hk
  obtain ⟨k,rfl⟩:∃ j,k=j+1:=⟨k - 1,by omega⟩
  show C9 (BG k) _=_
  unfold C9
  simp only [quB,Ac,AK,lampN,BC,at0,C0,decide_true,cond_true]
  rfl
 | @one w a n f hw ha ih =>
  intro k hk
  obtain ⟨k,rfl⟩:∃ j,k=j+1:=⟨k - 1,by omega⟩
  rw [Fk k w [a] (wd_one hw).lamp (ts:=[(n:Int)]) (by show ((BG k a).bind fun b=>(Dr _ []).bind fun bs=>some (b::bs))=_;rw [ih k (by omega)];rfl)]
  congr 1
  simp only [List.sum_cons,List.sum_nil]
  omega
 | @two w a b n m f g hw ha hb ih1 ih2 =>
  intro k hk
  obtain ⟨k,rfl⟩:∃ j,k=j+1:=⟨k - 1,by omega⟩
  rw [Fk k w [a,b] (wd_two hw).lamp (ts:=[(n:Int),(m:Int)]) (by
   show ((BG k a).bind fun x=>(Dr _ [b]).bind fun bs=>some (x::bs))=_
   rw [ih1 k (by omega),Ac]
   show (((BG k b).bind fun x=>(Dr _ []).bind fun bs=>some (x::bs)).bind fun bs=>some ((n:Int)::bs))=_
   rw [ih2 k (by omega)]
   rfl)]
  congr 1
  simp only [List.sum_cons,List.sum_nil]
  omega
theorem Sent.snd {S:Nt}{n:Nat}{f:Fm}(h:Sent S n f)(hn:2<=n):∃ S' n' f',((BC S).bind fun t=>atI t.l (1:Int))=some S'/\Sent S' n' f'/\n'<n/\wc f'<=wc f/\∀ x,Fm.lamp x∈f'.sub->Fm.lamp x∈f.sub:=by
 cases h with
 | yes=>omega
 | no=>omega
 | lamp hc=>omega
 | @one w a n f hw ha=>exact ⟨a,n,f,rfl,ha,by omega,by rw [wc1 hw];omega,fun x hx=>(pl1_lamp w f x).mpr hx⟩
 | @two w a b n m f g hw ha hb=>exact ⟨a,n,f,rfl,ha,by omega,by rw [wc2 hw];omega,fun x hx=>(pl2_lamp w f g x).mpr (.inl hx)⟩
theorem watch_W {S:Nt}{n:Nat}{f:Fm}(hS:Sent S n f)(hn:n<=24)(hw:wc f<=5){ds:List Nat}(d1:∀ c∈ds,c∈abcN)(d2:∀ x:Str,Fm.lamp x∈f.sub ↔ ∃ c∈ds,x=My.one c)(h3:(lts ds).length<=3){ms:List Str}(hms:BU (tx (lts ds))=some ms)(h8:ms.length<=8){rows:List (Tp SI)}{k:Nat}(hbk:DS [f.nt]=some (rows,[(k:Int)])) :
  ER rows/\Wn rows<=5/\E4 S=some (T4.mk (tx (lts ds)) (1+((2 ^ Wn rows:Nat):Int)) (ms.flatMap (Mt rows k)) ((hs rows rows.length).length:Int)):=by
 have hz:sizeLine=16777216:=qtB
 have hd:=hS.dep
 have hsz:=hS.size
 have hp:=plain_ok hS 26 (by omega)
 obtain ⟨rows',k',hbk',hb,hl,hk,hc,hlam⟩:=book_one (f:=f) (by omega) (by omega)
 rw [hbk] at hbk'
 have e:=qpB hbk'
 injection e with e1 e2
 injection e2 with e2 _
 have e2:k=k':=by omega
 subst e1
 subst e2
 have hlam:=hlam ds d1 d2
 have hwn:Wn rows<=5:=by
  have:=ws_cw rows
  unfold Wn
  omega
 have hwt:=wt_eq hb hl hwn
 refine ⟨hb,hwn,OK.eq ?_⟩
 have hbt:DV [S]=some (rows,[(k:Int)]):=by
  refine OK.eq ?_
  unfold DV
  simp only [quB,Ac,AK]
  refine AG (OK.of (a:=Fl.nx ()) ?_ ?_)
  ·refine OK.eq (AG (AG (OK.of (sent_ok hS hn) ?_)))
   exact AH (AH rfl)
  ·dsimp only
   refine AG (OK.of (a:=[f.nt]) ?_ (OK.of hbk rfl))
   refine OK.eq (AG (OK.of hp ?_))
   exact AH rfl
 unfold E4
 simp only [quB,Ac,AK]
 refine AG (OK.of (a:=(rows,[(k:Int)])) ?_ ?_)
 ·refine OK.eq ?_
  unfold Cf
  simp only [quB,Ac,AK]
  refine AG (OK.of hbt (AG (OK.of (a:=()) ?_ (AG (OK.of hlam ?_)))))
  ·refine OK.eq ?_
   unfold Be
   simp only [quB,Ac,AK]
   refine AG (OK.of hwt (Ap (fun h=>?_) fun _=>AH (by first|trivial|rfl)))
   have h:=of_decide_eq_true h
   rw [qfA] at h
   unfold Wn at hwn
   omega
  ·refine Ap (fun h=>?_) fun _=>AH rfl
   have h:=of_decide_eq_true h
   have e:(tx (lts ds)).length=(lts ds).length:=rfl
   omega
 ·have a0:atI [(k:Int)] (0:Int)=some (k:Int):=rfl
  exact AG (OK.of a0 (OK.of (wob_eq hb hl hwn hk hlam hms h8) rfl))
structure Den (r1:List (Tp SI))(k1:Nat)(r2:List (Tp SI))(k2:Nat):Prop where
 w:Wn r1=Wn r2
 h:(hs r1 r1.length).length=(hs r2 r2.length).length
 i:∀ m j,Ix r1 m j=Ix r2 m j
 e:∀ m j,Ea r1 m j=Ea r2 m j
 f:∀ m j,g (Vw r1 m j) k1 = !g (Vw r2 m j) k2
theorem den_ntr {rows:List (Tp SI)}{k:Nat}(hb:ER rows):Den rows k (rows++[ntr k]) rows.length :=
 ⟨(ntr_Wn hb).symm,by rw [ntr_hs],fun m j=>(ntr_Ix hb m j).symm,fun m j=>(ntr_Ea hb m j).symm,fun m j=>by rw [ntr_g hb,Bool.not_not]⟩
theorem Den.symm {r1 r2:List (Tp SI)}{k1 k2:Nat}(d:Den r1 k1 r2 k2):Den r2 k2 r1 k1 :=
 ⟨d.w.symm,d.h.symm,fun m j=>(d.i m j).symm,fun m j=>(d.e m j).symm,fun m j=>by rw [d.f,Bool.not_not]⟩
theorem flat_sum {α β:Type}(G1 G2:α->List β)(c:Nat):∀ as:List α,(∀ a∈as,(G1 a).length+(G2 a).length=c)->(as.flatMap G1).length+(as.flatMap G2).length=as.length * c
 | [],_=>by simp
 | a::as,h=>by
  have h1:=h a (qrA ..)
  have h2:=flat_sum G1 G2 c as fun x hx=>h x (qsA _ hx)
  rw [List.flatMap_cons,List.flatMap_cons,qgA,qgA,qhA,Nat.add_mul,Nat.one_mul]
  omega
theorem den_len {r1 r2:List (Tp SI)}{k1 k2:Nat}(d:Den r1 k1 r2 k2)(ms:List Str):(ms.flatMap (Mt r1 k1)).length+(ms.flatMap (Mt r2 k2)).length=ms.length * (2 ^ Wn r1 * 3):=by
 refine flat_sum _ _ _ ms fun m _=>?_
 unfold Mt
 rw [<- d.w]
 have:=flat_sum (Pc r1 k1 m) (Pc r2 k2 m) 3 (List.range (2 ^ Wn r1)) fun j _=>by
  unfold Pc
  rw [d.f]
  cases g (Vw r2 m j) k2<;>rfl
 rw [qjA] at this
 exact this
theorem den_pos {r1 r2:List (Tp SI)}{k1 k2:Nat}(d:Den r1 k1 r2 k2)(ms:List Str):(ms.flatMap (Mt r1 k1)).filter (fun r=>decide (0<r.a))=(ms.flatMap (Mt r2 k2)).filter (fun r=>decide (0<r.a)):=by
 rw [List.filter_flatMap,List.filter_flatMap]
 refine congrArg (fun f=>ms.flatMap f) (funext fun m=>?_)
 unfold Mt
 rw [List.filter_flatMap,List.filter_flatMap,d.w]
 refine congrArg (fun f=>(List.range _).flatMap f) (funext fun j=>?_)
 rw [Pc_pos,Pc_pos,d.i,d.e]
theorem get_of {l:List (Rk × List Rw4)}{κ:Rk}{x:List Rw4}(h:(getR l κ).getD []=x)(hx:x ≠ []):getR l κ=some x:=by
 cases e:getR l κ with
 | none =>
  rw [e] at h
  exact absurd h.symm hx
 | some y =>
  rw [e] at h
  exact congrArg some h
theorem inner_ok {r1 r2:List (Tp SI)}{k1 k2:Nat}(d:Den r1 k1 r2 k2){ms:List Str}(nd:ms.Nodup){D1 D2 D3:MpR (List Rw4)}(h1:∀ κ,(getR D1.l κ).getD []=(ms.flatMap (Mt r1 k1)).filter (pk true κ))(h2:∀ κ,(getR D2.l κ).getD []=(ms.flatMap (Mt r2 k2)).filter (pk true κ))(h3:∀ κ,(getR D3.l κ).getD []=(ms.flatMap (Mt r1 k1)).filter (pk false κ))
  {m:Str}(hm:m∈ms) {j:Nat}(hj:j<2 ^ Wn r1):∃ x y:Rw4,(getR D1.l (Rk.mk [.s m,.i ((j:Int)+1)])).getD []++(getR D2.l (Rk.mk [.s m,.i ((j:Int)+1)])).getD []=[x]/\getR D3.l (Rk.mk [.s m,.i ((j:Int)+1)])=some [y]/\x.d=y.d:=by
 have e1:=h1 (Rk.mk [.s m,.i ((j:Int)+1)])
 have e2:=h2 (Rk.mk [.s m,.i ((j:Int)+1)])
 have e3:=h3 (Rk.mk [.s m,.i ((j:Int)+1)])
 rw [all_filter r1 k1 nd hm hj,Pc_true] at e1
 rw [all_filter r2 k2 nd hm (by rw [<- d.w];exact hj),Pc_true] at e2
 rw [all_filter r1 k1 nd hm hj,Pc_false] at e3
 have e3:=get_of e3 (by simp)
 rw [e1,e2]
 have hf:=d.f m j
 have he:=d.e m j
 cases hg:g (Vw r2 m j) k2 with
 | true =>
  rw [hg] at hf
  rw [hf]
  exact ⟨T4.mk 0 m ((j:Int)+1) (Ea r2 m j),_,rfl,e3,he.symm⟩
 | false =>
  rw [hg] at hf
  rw [hf]
  exact ⟨T4.mk 0 m ((j:Int)+1) (Ea r1 m j),_,rfl,e3,rfl⟩
theorem law_true (ns:List Int)(hl:ns.length<=63):m_law ⟨ns⟩=some true:=by
 have hz:sizeLine=16777216:=qtB
 refine OK.eq ?_
 unfold m_law
 simp only [quB,Ac,AK]
 refine AG (cell_ok _ _ (by decide) (by decide) fun c0=>AG (lamps_ok _ fun L hL _ hL3=>?_))
 refine AG (cell_ok _ _ (by decide) (by decide) fun c1=>?_)
 have m0:=qxB c1 (b:=12) (by decide)
 have m1:=qyB c1 (b:=12) (by decide)
 refine FW (sentence_ok _ _ m0 (by omega) hL hL3) fun S0 ⟨n0,f0,hS0,hn0,hw0,hl0⟩=>?_
 refine AG (OK.of (words_ok hS0 26 (by omega)) ?_)
 refine FW (P:=fun S=>∃ n f,Sent S n f/\n<=23/\wc f<=5/\∀ s,Fm.lamp s∈f.sub->∃ c∈L,s=one c) (Ap (fun h=>?_) fun h=>AH ⟨n0,f0,hS0,by have:=of_decide_eq_false h;omega,hw0,hl0⟩) fun S ⟨n,f,hS,hn,hw,hlam⟩=>?_
 ·have h:=of_decide_eq_true h
  obtain ⟨S',n',f',e1,e2,e3,e4,e5⟩:=hS0.snd (by omega)
  exact OK.of e1 ⟨n',f',e2,by omega,by omega,fun s hs=>hl0 s (e5 s hs)⟩
 obtain ⟨ds,d1,d2,d3⟩:=lin_ok hS
 have h3:(lts ds).length<=3:=by
  have:=GQ (l:=lts ds) (m:=L) ((HQ ds).imp fun h=>qjC h) fun c hc=>by
   obtain ⟨c',hc',e⟩:=hlam (one c) ((d2 (one c)).mpr ⟨c,(By d1 c).mp hc,rfl⟩)
   rw [one_inj e]
   exact hc'
  omega
 have hmom:Mom (tx (lts ds)):=by
  show (lts ds).Sublist abcN
  exact List.filter_sublist
 obtain ⟨ms,hms,htl,nd,hmem⟩:=all_ok (tx (lts ds)) hmom (by show (lts ds).length<=5;omega)
 have p8:2 ^ (tx (lts ds)).length<=8:=qmB (Nat.pow_le_pow_right (n:=2) (by decide) (show (tx (lts ds)).length<=3 from h3)) (by decide)
 have h8:ms.length<=8:=by
  rw [htl]
  exact p8
 have hS':Sent (.tup [.txt "not",S]) (n+1) f.den:=by
  have:=Sent.one (w := "not") (by simp [W1]) hS
  rw [pl1_not] at this
  exact this
 have d2':∀ x:Str,Fm.lamp x∈f.den.sub ↔ ∃ c∈ds,x=My.one c:=fun x=>(den_lamp f x).trans (d2 x)
 have hd:=hS.dep
 have hsz:=hS.size
 obtain ⟨r1,k1,r2,k2,b1,b2,dn⟩:∃ r1 k1 r2 k2,DS [f.nt]=some (r1,[((k1:Nat):Int)])/\DS [f.den.nt]=some (r2,[((k2:Nat):Int)])/\(ER r1->ER r2->Den r1 k1 r2 k2):=by
  by_cases hf:∃ a,f = .neg a
  ·obtain ⟨a,rfl⟩:=hf
   have ha:a.dep+1=(Fm.neg a).dep:=rfl
   have hb:a.size+1=(Fm.neg a).size:=rfl
   obtain ⟨R,k,e1,e2⟩:=book_two (f:=a) (by omega) (by omega)
   exact ⟨_,_,R,k,e2,e1,fun _ hb=>(den_ntr hb).symm⟩
  ·have e:f.den = .neg f:=by
    cases f with
    | neg a=>exact absurd ⟨a,rfl⟩ hf
    | _=>rfl
   obtain ⟨R,k,e1,e2⟩:=book_two (f:=f) (by omega) (by omega)
   rw [e]
   exact ⟨R,k,_,_,e1,e2,fun hb _=>den_ntr hb⟩
 obtain ⟨bk1,wn1,w1⟩:=watch_W hS (by omega) hw d1 d2 h3 hms h8 b1
 obtain ⟨bk2,wn2,w2⟩:=watch_W hS' (by omega) (by rw [Gd];exact hw) d1 d2' h3 hms h8 b2
 have dn:=dn bk1 bk2
 have e32:2 ^ Wn r1<=32:=Nat.pow_le_pow_right (n:=2) (by decide) wn1
 have l1:=GE (Mt r1 k1) 64 ms fun m _=>Mt_len m e32
 have l2:=GE (Mt r2 k2) 64 ms fun m _=>Mt_len m (by rw [<- dn.w];exact e32)
 refine AG (OK.of w1 (AG (OK.of w2 ?_)))
 dsimp only
 refine FW (P:=fun b=>b=false) ?_ fun b hb=>?_
 ·refine Ap (fun h=>absurd h ?_) fun _=>Ap (fun h=>absurd h ?_) fun _=>AG (OK.of (d3 26 (by omega)) (AH ?_))
  ·rw [dn.w,decide_eq_true rfl]
   decide
  ·rw [dn.h,decide_eq_true rfl]
   decide
  ·rw [decide_eq_true rfl]
   rfl
 subst hb
 refine Ap (fun h=>absurd h (by decide)) fun _=>?_
 refine AG (Fd (c:=fun r:Rw4=>decide (0<r.a)) (g:=id) (fun _ _=>rfl) (fun _ _ _=>rfl) (AG (Fd (c:=fun r:Rw4=>decide (0<r.a)) (g:=id) (fun _ _=>rfl) (fun _ _ _=>rfl) ?_)))
 rw [den_pos dn]
 refine Ap (fun h=>?_) fun _=>?_
 ·rw [decide_eq_true rfl] at h
  exact nomatch h
 refine FW (to_ok _ true (by show (ms.flatMap (Mt r1 k1)).length<=_;omega)) fun D1 h1=>?_
 refine FW (to_ok _ true (by show (ms.flatMap (Mt r2 k2)).length<=_;omega)) fun D2 h2=>?_
 refine FW (to_ok _ false (by show (ms.flatMap (Mt r1 k1)).length<=_;omega)) fun D3 hh3=>?_
 obtain ⟨M,eM,hM1,hM2⟩:=lm_ok (tx (lts ds)) hmom (by show (lts ds).length<=5;omega)
 refine AG (OK.of eM ?_)
 refine AG (Eb (fun _ _=>True) trivial (fun i m s ha _=>?_) fun s _=>?_)
 ·have hm:=hmem m (hM2 m (quA ha))
  refine AG (ok_rng (n:=2 ^ Wn r1) (by omega) (by omega) (by omega) ?_)
  refine AG (Eb (fun _ _=>True) trivial (fun i t s ha _=>?_) fun s _=>AH ⟨_,rfl,trivial⟩)
  obtain ⟨j,hj,rfl⟩:=qoA.mp (quA ha)
  have hj:=qtA.mp hj
  obtain ⟨x,y,q1,q2,q3⟩:=inner_ok dn nd h1 h2 hh3 hm hj
  rw [Int.add_comm 1 (j:Int)]
  have hlen:((getR D1.l (Rk.mk [.s m,.i ((j:Int)+1)])).getD []).length+((getR D2.l (Rk.mk [.s m,.i ((j:Int)+1)])).getD []).length=1:=by
   rw [<- qgA,q1]
   rfl
  refine AG (OK.of (if_pos (by omega)) ?_)
  rw [q1,q2]
  refine FW (P:=fun b=>b=false) ?_ fun b hb=>?_
  ·refine Ap (fun h=>absurd h (by show ¬ (!decide ((1:Int)=1))=true;decide)) fun _=>Ap (fun h=>absurd h (by show ¬ (!decide ((1:Int)=1))=true;decide)) fun _=>?_
   have a0:atI [x] (0:Int)=some x:=rfl
   have a1:atI [y] (0:Int)=some y:=rfl
   refine AG (OK.of a0 (AG (OK.of rfl (AG (OK.of a1 (AH ?_))))))
   rw [q3,decide_eq_true rfl]
   rfl
  ·subst hb
   exact Ap (fun h=>absurd h (by decide)) fun _=>AH ⟨_,rfl,trivial⟩
 ·dsimp only
  refine AG (OK.of eM ?_)
  have hml:M.length=ms.length:=by rw [hM1,htl]
  have hdl:=den_len dn ms
  refine AG (ok_mul (.inl ⟨by omega,by omega⟩) (AH (decide_eq_true ?_)))
  rw [hml,<- Int.natCast_add,hdl]
  have:(1+((2 ^ Wn r1:Nat):Int) - 1)=((2 ^ Wn r1:Nat):Int):=by omega
  rw [this,Int.natCast_mul,Int.natCast_mul,Int.mul_comm (3:Int),Int.mul_assoc,Int.mul_comm (3:Int)]
  rfl
theorem law_imp {K:FZ9}{vs:List V}{H:Hp}{Q:VK}{E:XK}(h:sp_law K vs H Q E):spM K mm_law vs H Q E:=by
 obtain ⟨a,ns,rfl,hS,hl,q⟩:=h
 exact ⟨H,(⟨ns⟩,()),true,Same.refl H,⟨.ref a,[],rfl,⟨a,rfl,hS⟩,rfl⟩,law_true ns hl,fun v G2 H2 x r=>by cases r;exact q H2⟩
theorem _root_.L2.Fun.bn1 {K:FZ9}{x qual:Str}{st:Stmt}{f:Addr}{fd:FuncData}{p0:Str}(F:Fun K x qual st f fd)(h:∀ (kV doc pm:Value) (an:Option Addr) (cdv ct:Value) (a0:Value),bindArgs (qgC x qual (AY st) (AX st) (AB st) .none kV doc pm an cdv ct) ⟨[a0],[]⟩=pure (List.zip [p0] [a0])):Binds K fd [p0] []:=F.binds fun kV doc pm an cdv ct us hl=>match us,hl with | [a0],_=>h kV doc pm an cdv ct a0
theorem _root_.L2.Fun.bn2 {K:FZ9}{x qual:Str}{st:Stmt}{f:Addr}{fd:FuncData}{p0 p1:Str}(F:Fun K x qual st f fd)(h:∀ (kV doc pm:Value) (an:Option Addr) (cdv ct:Value) (a0 a1:Value),bindArgs (qgC x qual (AY st) (AX st) (AB st) .none kV doc pm an cdv ct) ⟨[a0,a1],[]⟩=pure (List.zip [p0,p1] [a0,a1])):Binds K fd [p0,p1] []:=F.binds fun kV doc pm an cdv ct us hl=>match us,hl with | [a0,a1],_=>h kV doc pm an cdv ct a0 a1
theorem _root_.L2.Fun.bn3 {K:FZ9}{x qual:Str}{st:Stmt}{f:Addr}{fd:FuncData}{p0 p1 p2:Str}(F:Fun K x qual st f fd)(h:∀ (kV doc pm:Value) (an:Option Addr) (cdv ct:Value) (a0 a1 a2:Value),bindArgs (qgC x qual (AY st) (AX st) (AB st) .none kV doc pm an cdv ct) ⟨[a0,a1,a2],[]⟩=pure (List.zip [p0,p1,p2] [a0,a1,a2])):Binds K fd [p0,p1,p2] []:=F.binds fun kV doc pm an cdv ct us hl=>match us,hl with | [a0,a1,a2],_=>h kV doc pm an cdv ct a0 a1 a2
theorem _root_.L2.Fun.bn5 {K:FZ9}{x qual:Str}{st:Stmt}{f:Addr}{fd:FuncData}{p0 p1 p2 p3 p4:Str}(F:Fun K x qual st f fd)(h:∀ (kV doc pm:Value) (an:Option Addr) (cdv ct:Value) (a0 a1 a2 a3 a4:Value),bindArgs (qgC x qual (AY st) (AX st) (AB st) .none kV doc pm an cdv ct) ⟨[a0,a1,a2,a3,a4],[]⟩=pure (List.zip [p0,p1,p2,p3,p4] [a0,a1,a2,a3,a4])):Binds K fd [p0,p1,p2,p3,p4] []:=F.binds fun kV doc pm an cdv ct us hl=>match us,hl with | [a0,a1,a2,a3,a4],_=>h kV doc pm an cdv ct a0 a1 a2 a3 a4
set_option maxHeartbeats 1000000 in
theorem all_mk {l:PySem.W.OpenLaw}{w:World}{K:FZ9}{h:Heap}{mg:Str->Option Value}{fa:Addr}(X:K.In h)(G:h.Ns mainGlobals mg)(hfa:mg "law" = some (.ref fa))
  {f0 f1 f2 f3 f4 f5 f6 f7 f8 f9 f10 f11 f12 f13 f14 f15 f16 f17 f18 f19 f20 f21 f22 f23 f24 f25 f26 f27 f28 f29 f30 f31 f32 f33 f34 f35 f36 f37 f38 f39 f40:Addr}{od0 an0 od1 an1 od2 an2 od3 an3 od4 an4 od5 an5 od6 an6 od7 an7 od8 an8 od9 an9 od10 an10 od11 an11 od12 an12 od13 an13 od14 an14 od15 an15 od16 an16 od17 an17 od18 an18 od19 an19 od20 an20 od21 an21 od22 an22 od23 an23 od24 an24 od25 an25 od26 an26 od27 an27 od28 an28 od29 an29 od30 an30 od31 an31 od32 an32 od33 an33 od34 an34 od35 an35 od36 an36 od37 an37 od38 an38 od39 an39 od40 an40:Option Addr}{sl0 sl1 sl2 sl3 sl4 sl5 sl6 sl7 sl8 sl9 sl10 sl11 sl12 sl13 sl14 sl15 sl16 sl17 sl18 sl19 sl20 sl21 sl22 sl23 sl24 sl25 sl26 sl27 sl28 sl29 sl30 sl31 sl32 sl33 sl34 sl35 sl36 sl37 sl38 sl39 sl40:Array (Option Value)}{oc0 kV0 dc0 pm0 cd0 ct0 oc1 kV1 dc1 pm1 cd1 ct1 oc2 kV2 dc2 pm2 cd2 ct2 oc3 kV3 dc3 pm3 cd3 ct3 oc4 kV4 dc4 pm4 cd4 ct4 oc5 kV5 dc5 pm5 cd5 ct5 oc6 kV6 dc6 pm6 cd6 ct6 oc7 kV7 dc7 pm7 cd7 ct7 oc8 kV8 dc8 pm8 cd8 ct8 oc9 kV9 dc9 pm9 cd9 ct9 oc10 kV10 dc10 pm10 cd10 ct10 oc11 kV11 dc11 pm11 cd11 ct11 oc12 kV12 dc12 pm12 cd12 ct12 oc13 kV13 dc13 pm13 cd13 ct13 oc14 kV14 dc14 pm14 cd14 ct14 oc15 kV15 dc15 pm15 cd15 ct15 oc16 kV16 dc16 pm16 cd16 ct16 oc17 kV17 dc17 pm17 cd17 ct17 oc18 kV18 dc18 pm18 cd18 ct18 oc19 kV19 dc19 pm19 cd19 ct19 oc20 kV20 dc20 pm20 cd20 ct20 oc21 kV21 dc21 pm21 cd21 ct21 oc22 kV22 dc22 pm22 cd22 ct22 oc23 kV23 dc23 pm23 cd23 ct23 oc24 kV24 dc24 pm24 cd24 ct24 oc25 kV25 dc25 pm25 cd25 ct25 oc26 kV26 dc26 pm26 cd26 ct26 oc27 kV27 dc27 pm27 cd27 ct27 oc28 kV28 dc28 pm28 cd28 ct28 oc29 kV29 dc29 pm29 cd29 ct29 oc30 kV30 dc30 pm30 cd30 ct30 oc31 kV31 dc31 pm31 cd31 ct31 oc32 kV32 dc32 pm32 cd32 ct32 oc33 kV33 dc33 pm33 cd33 ct33 oc34 kV34 dc34 pm34 cd34 ct34 oc35 kV35 dc35 pm35 cd35 ct35 oc36 kV36 dc36 pm36 cd36 ct36 oc37 kV37 dc37 pm37 cd37 ct37 oc38 kV38 dc38 pm38 cd38 ct38 oc39 kV39 dc39 pm39 cd39 ct39 oc40 kV40 dc40 pm40 cd40 ct40:Value}
  {tk0 tk2 tk3 tk4:Tok}
  {ga1:Addr}{ges1:Array DictEntry}{gn1:Nat}
  {ga2:Addr}{god2:Option Addr}{gn2:Nat}{gsl2:Array (Option Value)}
  (a0:qcC K mainGlobals "is_moment" = some (some (.ref f0))) (l0:K.lookup f0=some ⟨oc0,od0,.func (qgC "is_moment" "is_moment" (AY DU) (AX DU) (AB DU) .none kV0 dc0 pm0 an0 cd0 ct0),sl0⟩) (c0:qfC K cd0 "is_moment" = true) (k0:qeC K (.ref f0)=true)
  (a1:qcC K mainGlobals "all_moments" = some (some (.ref f1))) (l1:K.lookup f1=some ⟨oc1,od1,.func (qgC "all_moments" "all_moments" (AY CT) (AX CT) (AB CT) .none kV1 dc1 pm1 an1 cd1 ct1),sl1⟩) (c1:qfC K cd1 "all_moments" = true) (k1:qeC K (.ref f1)=true)
  (a2:qcC K mainGlobals "parts_of" = some (some (.ref f2))) (l2:K.lookup f2=some ⟨oc2,od2,.func (qgC "parts_of" "parts_of" (AY Ds) (AX Ds) (AB Ds) .none kV2 dc2 pm2 an2 cd2 ct2),sl2⟩) (c2:qfC K cd2 "parts_of" = true) (k2:qeC K (.ref f2)=true)
  (a3:qcC K mainGlobals "is_lamp" = some (some (.ref f3))) (l3:K.lookup f3=some ⟨oc3,od3,.func (qgC "is_lamp" "is_lamp" (AY Ei) (AX Ei) (AB Ei) .none kV3 dc3 pm3 an3 cd3 ct3),sl3⟩) (c3:qfC K cd3 "is_lamp" = true) (k3:qeC K (.ref f3)=true)
  (a4:qcC K mainGlobals "has_form" = some (some (.ref f4))) (l4:K.lookup f4=some ⟨oc4,od4,.func (qgC "has_form" "has_form" (AY E5) (AX E5) (AB E5) .none kV4 dc4 pm4 an4 cd4 ct4),sl4⟩) (c4:qfC K cd4 "has_form" = true) (k4:qeC K (.ref f4)=true)
  (a5:qcC K mainGlobals "is_sentence" = some (some (.ref f5))) (l5:K.lookup f5=some ⟨oc5,od5,.func (qgC "is_sentence" "is_sentence" (AY CU) (AX CU) (AB CU) .none kV5 dc5 pm5 an5 cd5 ct5),sl5⟩) (c5:qfC K cd5 "is_sentence" = true) (k5:qeC K (.ref f5)=true)
  (a6:qcC K mainGlobals "row_number" = some (some (.ref f6))) (l6:K.lookup f6=some ⟨oc6,od6,.func (qgC "row_number" "row_number" (AY Cz) (AX Cz) (AB Cz) .none kV6 dc6 pm6 an6 cd6 ct6),sl6⟩) (c6:qfC K cd6 "row_number" = true) (k6:qeC K (.ref f6)=true)
  (a7:qcC K mainGlobals "lay" = some (some (.ref f7))) (l7:K.lookup f7=some ⟨oc7,od7,.func (qgC "lay" "lay" (AY s_lay) (AX s_lay) (AB s_lay) .none kV7 dc7 pm7 an7 cd7 ct7),sl7⟩) (c7:qfC K cd7 "lay" = true) (k7:qeC K (.ref f7)=true)
  (a8:qcC K mainGlobals "book_of" = some (some (.ref f8))) (l8:K.lookup f8=some ⟨oc8,od8,.func (qgC "book_of" "book_of" (AY Ej) (AX Ej) (AB Ej) .none kV8 dc8 pm8 an8 cd8 ct8),sl8⟩) (c8:qfC K cd8 "book_of" = true) (k8:qeC K (.ref f8)=true)
  (a9:qcC K mainGlobals "lamps_in" = some (some (.ref f9))) (l9:K.lookup f9=some ⟨oc9,od9,.func (qgC "lamps_in" "lamps_in" (AY E9) (AX E9) (AB E9) .none kV9 dc9 pm9 an9 cd9 ct9),sl9⟩) (c9:qfC K cd9 "lamps_in" = true) (k9:qeC K (.ref f9)=true)
  (a10:qcC K mainGlobals "waits" = some (some (.ref f10))) (l10:K.lookup f10=some ⟨oc10,od10,.func (qgC "waits" "waits" (AY GS) (AX GS) (AB GS) .none kV10 dc10 pm10 an10 cd10 ct10),sl10⟩) (c10:qfC K cd10 "waits" = true) (k10:qeC K (.ref f10)=true)
  (a11:qcC K mainGlobals "hopes" = some (some (.ref f11))) (l11:K.lookup f11=some ⟨oc11,od11,.func (qgC "hopes" "hopes" (AY GT) (AX GT) (AB GT) .none kV11 dc11 pm11 an11 cd11 ct11),sl11⟩) (c11:qfC K cd11 "hopes" = true) (k11:qeC K (.ref f11)=true)
  (a12:qcC K mainGlobals "truth_of" = some (some (.ref f12))) (l12:K.lookup f12=some ⟨oc12,od12,.func (qgC "truth_of" "truth_of" (AY E2) (AX E2) (AB E2) .none kV12 dc12 pm12 an12 cd12 ct12),sl12⟩) (c12:qfC K cd12 "truth_of" = true) (k12:qeC K (.ref f12)=true)
  (a13:qcC K mainGlobals "view_with" = some (some (.ref f13))) (l13:K.lookup f13=some ⟨oc13,od13,.func (qgC "view_with" "view_with" (AY DT) (AX DT) (AB DT) .none kV13 dc13 pm13 an13 cd13 ct13),sl13⟩) (c13:qfC K cd13 "view_with" = true) (k13:qeC K (.ref f13)=true)
  (a14:qcC K mainGlobals "look" = some (some (.ref f14))) (l14:K.lookup f14=some ⟨oc14,od14,.func (qgC "look" "look" (AY HL) (AX HL) (AB HL) .none kV14 dc14 pm14 an14 cd14 ct14),sl14⟩) (c14:qfC K cd14 "look" = true) (k14:qeC K (.ref f14)=true)
  (a15:qcC K mainGlobals "claims_of" = some (some (.ref f15))) (l15:K.lookup f15=some ⟨oc15,od15,.func (qgC "claims_of" "claims_of" (AY DM) (AX DM) (AB DM) .none kV15 dc15 pm15 an15 cd15 ct15),sl15⟩) (c15:qfC K cd15 "claims_of" = true) (k15:qeC K (.ref f15)=true)
  (a16:qcC K mainGlobals "all_claims" = some (some (.ref f16))) (l16:K.lookup f16=some ⟨oc16,od16,.func (qgC "all_claims" "all_claims" (AY Cs) (AX Cs) (AB Cs) .none kV16 dc16 pm16 an16 cd16 ct16),sl16⟩) (c16:qfC K cd16 "all_claims" = true) (k16:qeC K (.ref f16)=true)
  (a17:qcC K mainGlobals "is_eased" = some (some (.ref f17))) (l17:K.lookup f17=some ⟨oc17,od17,.func (qgC "is_eased" "is_eased" (AY Dx) (AX Dx) (AB Dx) .none kV17 dc17 pm17 an17 cd17 ct17),sl17⟩) (c17:qfC K cd17 "is_eased" = true) (k17:qeC K (.ref f17)=true)
  (a18:qcC K mainGlobals "eased" = some (some (.ref f18))) (l18:K.lookup f18=some ⟨oc18,od18,.func (qgC "eased" "eased" (AY GR) (AX GR) (AB GR) .none kV18 dc18 pm18 an18 cd18 ct18),sl18⟩) (c18:qfC K cd18 "eased" = true) (k18:qeC K (.ref f18)=true)
  (a19:qcC K mainGlobals "denied" = some (some (.ref f19))) (l19:K.lookup f19=some ⟨oc19,od19,.func (qgC "denied" "denied" (AY FZ) (AX FZ) (AB FZ) .none kV19 dc19 pm19 an19 cd19 ct19),sl19⟩) (c19:qfC K cd19 "denied" = true) (k19:qeC K (.ref f19)=true)
  (a20:qcC K mainGlobals "plain_with_one" = some (some (.ref f20))) (l20:K.lookup f20=some ⟨oc20,od20,.func (qgC "plain_with_one" "plain_with_one" (AY Bn) (AX Bn) (AB Bn) .none kV20 dc20 pm20 an20 cd20 ct20),sl20⟩) (c20:qfC K cd20 "plain_with_one" = true) (k20:qeC K (.ref f20)=true)
  (a21:qcC K mainGlobals "plain_with_two" = some (some (.ref f21))) (l21:K.lookup f21=some ⟨oc21,od21,.func (qgC "plain_with_two" "plain_with_two" (AY Bm) (AX Bm) (AB Bm) .none kV21 dc21 pm21 an21 cd21 ct21),sl21⟩) (c21:qfC K cd21 "plain_with_two" = true) (k21:qeC K (.ref f21)=true)
  (a22:qcC K mainGlobals "plain" = some (some (.ref f22))) (l22:K.lookup f22=some ⟨oc22,od22,.func (qgC "plain" "plain" (AY Fh) (AX Fh) (AB Fh) .none kV22 dc22 pm22 an22 cd22 ct22),sl22⟩) (c22:qfC K cd22 "plain" = true) (k22:qeC K (.ref f22)=true)
  (a23:qcC K mainGlobals "claims_for" = some (some (.ref f23))) (l23:K.lookup f23=some ⟨oc23,od23,.func (qgC "claims_for" "claims_for" (AY Cw) (AX Cw) (AB Cw) .none kV23 dc23 pm23 an23 cd23 ct23),sl23⟩) (c23:qfC K cd23 "claims_for" = true) (k23:qeC K (.ref f23)=true)
  (a24:qcC K mainGlobals "steps_at" = some (some (.ref f24))) (l24:K.lookup f24=some ⟨oc24,od24,.func (qgC "steps_at" "steps_at" (AY E1) (AX E1) (AB E1) .none kV24 dc24 pm24 an24 cd24 ct24),sl24⟩) (c24:qfC K cd24 "steps_at" = true) (k24:qeC K (.ref f24)=true)
  (a25:qcC K mainGlobals "steps_of" = some (some (.ref f25))) (l25:K.lookup f25=some ⟨oc25,od25,.func (qgC "steps_of" "steps_of" (AY EE) (AX EE) (AB EE) .none kV25 dc25 pm25 an25 cd25 ct25),sl25⟩) (c25:qfC K cd25 "steps_of" = true) (k25:qeC K (.ref f25)=true)
  (a26:qcC K mainGlobals "book_told" = some (some (.ref f26))) (l26:K.lookup f26=some ⟨oc26,od26,.func (qgC "book_told" "book_told" (AY DO) (AX DO) (AB DO) .none kV26 dc26 pm26 an26 cd26 ct26),sl26⟩) (c26:qfC K cd26 "book_told" = true) (k26:qeC K (.ref f26)=true)
  (a27:qcC K mainGlobals "refuse_more_waits" = some (some (.ref f27))) (l27:K.lookup f27=some ⟨oc27,od27,.func (qgC "refuse_more_waits" "refuse_more_waits" (AY BK) (AX BK) (AB BK) .none kV27 dc27 pm27 an27 cd27 ct27),sl27⟩) (c27:qfC K cd27 "refuse_more_waits" = true) (k27:qeC K (.ref f27)=true)
  (a28:qcC K mainGlobals "bounded_book" = some (some (.ref f28))) (l28:K.lookup f28=some ⟨oc28,od28,.func (qgC "bounded_book" "bounded_book" (AY CD) (AX CD) (AB CD) .none kV28 dc28 pm28 an28 cd28 ct28),sl28⟩) (c28:qfC K cd28 "bounded_book" = true) (k28:qeC K (.ref f28)=true)
  (a29:qcC K mainGlobals "watcher_of_book" = some (some (.ref f29))) (l29:K.lookup f29=some ⟨oc29,od29,.func (qgC "watcher_of_book" "watcher_of_book" (AY Ba) (AX Ba) (AB Ba) .none kV29 dc29 pm29 an29 cd29 ct29),sl29⟩) (c29:qfC K cd29 "watcher_of_book" = true) (k29:qeC K (.ref f29)=true)
  (a30:qcC K mainGlobals "watcher" = some (some (.ref f30))) (l30:K.lookup f30=some ⟨oc30,od30,.func (qgC "watcher" "watcher" (AY El) (AX El) (AB El) .none kV30 dc30 pm30 an30 cd30 ct30),sl30⟩) (c30:qfC K cd30 "watcher" = true) (k30:qeC K (.ref f30)=true)
  (a31:qcC K mainGlobals "_law_cell" = some (some (.ref f31))) (l31:K.lookup f31=some ⟨oc31,od31,.func (qgC "_law_cell" "_law_cell" (AY ED) (AX ED) (AB ED) .none kV31 dc31 pm31 an31 cd31 ct31),sl31⟩) (c31:qfC K cd31 "_law_cell" = true) (k31:qeC K (.ref f31)=true)
  (a32:qcC K mainGlobals "_law_lamps" = some (some (.ref f32))) (l32:K.lookup f32=some ⟨oc32,od32,.func (qgC "_law_lamps" "_law_lamps" (AY DX) (AX DX) (AB DX) .none kV32 dc32 pm32 an32 cd32 ct32),sl32⟩) (c32:qfC K cd32 "_law_lamps" = true) (k32:qeC K (.ref f32)=true)
  (a33:qcC K mainGlobals "_law_pool" = some (some (.ref f33))) (l33:K.lookup f33=some ⟨oc33,od33,.func (qgC "_law_pool" "_law_pool" (AY E6) (AX E6) (AB E6) .none kV33 dc33 pm33 an33 cd33 ct33),sl33⟩) (c33:qfC K cd33 "_law_pool" = true) (k33:qeC K (.ref f33)=true)
  (a34:qcC K mainGlobals "_law_put" = some (some (.ref f34))) (l34:K.lookup f34=some ⟨oc34,od34,.func (qgC "_law_put" "_law_put" (AY Eh) (AX Eh) (AB Eh) .none kV34 dc34 pm34 an34 cd34 ct34),sl34⟩) (c34:qfC K cd34 "_law_put" = true) (k34:qeC K (.ref f34)=true)
  (a35:qcC K mainGlobals "_law_sentence" = some (some (.ref f35))) (l35:K.lookup f35=some ⟨oc35,od35,.func (qgC "_law_sentence" "_law_sentence" (AY CG) (AX CG) (AB CG) .none kV35 dc35 pm35 an35 cd35 ct35),sl35⟩) (c35:qfC K cd35 "_law_sentence" = true) (k35:qeC K (.ref f35)=true)
  (a36:qcC K mainGlobals "_law_words" = some (some (.ref f36))) (l36:K.lookup f36=some ⟨oc36,od36,.func (qgC "_law_words" "_law_words" (AY Cm) (AX Cm) (AB Cm) .none kV36 dc36 pm36 an36 cd36 ct36),sl36⟩) (c36:qfC K cd36 "_law_words" = true) (k36:qeC K (.ref f36)=true)
  (a37:qcC K mainGlobals "_law_lamps_in" = some (some (.ref f37))) (l37:K.lookup f37=some ⟨oc37,od37,.func (qgC "_law_lamps_in" "_law_lamps_in" (AY Br) (AX Br) (AB Br) .none kV37 dc37 pm37 an37 cd37 ct37),sl37⟩) (c37:qfC K cd37 "_law_lamps_in" = true) (k37:qeC K (.ref f37)=true)
  (a38:qcC K mainGlobals "_law_moments" = some (some (.ref f38))) (l38:K.lookup f38=some ⟨oc38,od38,.func (qgC "_law_moments" "_law_moments" (AY CW) (AX CW) (AB CW) .none kV38 dc38 pm38 an38 cd38 ct38),sl38⟩) (c38:qfC K cd38 "_law_moments" = true) (k38:qeC K (.ref f38)=true)
  (a39:qcC K mainGlobals "_law_to" = some (some (.ref f39))) (l39:K.lookup f39=some ⟨oc39,od39,.func (qgC "_law_to" "_law_to" (AY FQ) (AX FQ) (AB FQ) .none kV39 dc39 pm39 an39 cd39 ct39),sl39⟩) (c39:qfC K cd39 "_law_to" = true) (k39:qeC K (.ref f39)=true)
  (a40:qcC K mainGlobals "law" = some (some (.ref f40))) (l40:K.lookup f40=some ⟨oc40,od40,.func (qgC "law" "law" (AY Gp) (AX Gp) (AB Gp) .none kV40 dc40 pm40 an40 cd40 ct40),sl40⟩) (c40:qfC K cd40 "law" = true) (k40:qeC K (.ref f40)=true)
  (gv0:qcC K mainGlobals "MOST_WORDS" = some (some (.int 24 tk0)))
  (gv1:qcC K mainGlobals "PARTS" = some (some (.ref ga1))) (gl1:K.lookup ga1=some ⟨.type "dict",none,.dict ges1 gn1,#[]⟩) (gk1:PySem.W.KeysLit w.params ges1.toList) (ge1:EntC ges1.toList FB) (go1:(ga1 == sysModules)=false)
  (gv2:qcC K mainGlobals "YES" = some (some (.ref ga2))) (gl2:K.lookup ga2=some ⟨.type "tuple",god2,.seq #[.str "yes" tk2] gn2,gsl2⟩)
  (gv3:qcC K mainGlobals "MOST_WAITS" = some (some (.int 5 tk3)))
  (gv4:qcC K mainGlobals "MOST_LAMPS" = some (some (.int 3 tk4)))
  (z0:qcC K mainGlobals "ValueError" = some none)
  (z1:qcC K mainGlobals "dict" = some none)
  (z2:qcC K mainGlobals "enumerate" = some none)
  (z3:qcC K mainGlobals "isinstance" = some none)
  (z4:qcC K mainGlobals "len" = some none)
  (z5:qcC K mainGlobals "range" = some none)
  (z6:qcC K mainGlobals "set" = some none)
  (z7:qcC K mainGlobals "sorted" = some none)
  (z8:qcC K mainGlobals "str" = some none)
  (z9:qcC K mainGlobals "sum" = some none)
  (z10:qcC K mainGlobals "tuple" = some none)
  (z11:qcC K mainGlobals "zip" = some none) :
  ∃ fd:FuncData,(∀ (s:Shared) (v:Value),BindsTo s fd ⟨[v],[]⟩ [("_law_script",v)])/\∀ base:Heap,K.In base->base.Ns mainGlobals mg->FnOk l.prog w K mg base CX0 167 fa fd ["_law_script"] (sp_law K):=by
 have e:=hfa.symm.trans (qdC X G a40)
 cases e
 have T:Txt w K mg:=⟨PySem.W.mg_none_of X G z0,PySem.W.mg_none_of X G z1,PySem.W.mg_none_of X G z2,PySem.W.mg_none_of X G z3,PySem.W.mg_none_of X G z4,PySem.W.mg_none_of X G z5,PySem.W.mg_none_of X G z6,PySem.W.mg_none_of X G z7,PySem.W.mg_none_of X G z8,PySem.W.mg_none_of X G z9,PySem.W.mg_none_of X G z10,PySem.W.mg_none_of X G z11,⟨_,qdC X G gv0⟩,⟨_,qdC X G gv1,go1,_,_,gl1,gk1,ge1⟩,⟨_,qdC X G gv2,fun G_=>rel_tup1 gl2 (by decide) G_⟩,⟨_,qdC X G gv3⟩,⟨_,qdC X G gv4⟩⟩
 have F0:=B0 (st:=DU) l0 c0 k0
 have b0:=F0.bn1 (p0 := "thing") fun _ _ _ _ _ _ _=>rfl
 have F1:=B0 (st:=CT) l1 c1 k1
 have b1:=F1.bn1 (p0 := "lamps") fun _ _ _ _ _ _ _=>rfl
 have F2:=B0 (st:=Ds) l2 c2 k2
 have b2:=F2.bn1 (p0 := "sentence") fun _ _ _ _ _ _ _=>rfl
 have F3:=B0 (st:=Ei) l3 c3 k3
 have b3:=F3.bn1 (p0 := "thing") fun _ _ _ _ _ _ _=>rfl
 have F4:=B0 (st:=E5) l4 c4 k4
 have b4:=F4.bn1 (p0 := "thing") fun _ _ _ _ _ _ _=>rfl
 have F5:=B0 (st:=CU) l5 c5 k5
 have b5:=F5.bn1 (p0 := "thing") fun _ _ _ _ _ _ _=>rfl
 have F6:=B0 (st:=Cz) l6 c6 k6
 have b6:=F6.bn3 (p0 := "rows") (p1 := "numbers") (p2 := "row") fun _ _ _ _ _ _ _ _ _=>rfl
 have F7:=B0 (st:=s_lay) l7 c7 k7
 have b7:=F7.bn3 (p0 := "rows") (p1 := "numbers") (p2 := "sentence") fun _ _ _ _ _ _ _ _ _=>rfl
 have F8:=B0 (st:=Ej) l8 c8 k8
 have b8:=F8.bn1 (p0 := "some") fun _ _ _ _ _ _ _=>rfl
 have F9:=B0 (st:=E9) l9 c9 k9
 have b9:=F9.bn1 (p0 := "rows") fun _ _ _ _ _ _ _=>rfl
 have F10:=B0 (st:=GS) l10 c10 k10
 have b10:=F10.bn1 (p0 := "rows") fun _ _ _ _ _ _ _=>rfl
 have F11:=B0 (st:=GT) l11 c11 k11
 have b11:=F11.bn1 (p0 := "rows") fun _ _ _ _ _ _ _=>rfl
 have F12:=B0 (st:=E2) l12 c12 k12
 have b12:=F12.bn5 (p0 := "rows") (p1 := "number") (p2 := "moment") (p3 := "claimed") (p4 := "view") fun _ _ _ _ _ _ _ _ _ _ _=>rfl
 have F13:=B0 (st:=DT) l13 c13 k13
 have b13:=F13.bn3 (p0 := "rows") (p1 := "moment") (p2 := "claimed") fun _ _ _ _ _ _ _ _ _=>rfl
 have F14:=B0 (st:=HL) l14 c14 k14
 have b14:=F14.bn3 (p0 := "rows") (p1 := "moment") (p2 := "claims") fun _ _ _ _ _ _ _ _ _=>rfl
 have F15:=B0 (st:=DM) l15 c15 k15
 have b15:=F15.bn2 (p0 := "rows") (p1 := "view") fun _ _ _ _ _ _ _ _=>rfl
 have F16:=B0 (st:=Cs) l16 c16 k16
 have b16:=F16.bn1 (p0 := "many") fun _ _ _ _ _ _ _=>rfl
 have F17:=B0 (st:=Dx) l17 c17 k17
 have b17:=F17.bn3 (p0 := "rows") (p1 := "hope") (p2 := "view") fun _ _ _ _ _ _ _ _ _=>rfl
 have F18:=B0 (st:=GR) l18 c18 k18
 have b18:=F18.bn2 (p0 := "rows") (p1 := "view") fun _ _ _ _ _ _ _ _=>rfl
 have F19:=B0 (st:=FZ) l19 c19 k19
 have b19:=F19.bn1 (p0 := "plain") fun _ _ _ _ _ _ _=>rfl
 have F20:=B0 (st:=Bn) l20 c20 k20
 have b20:=F20.bn2 (p0 := "word") (p1 := "inner") fun _ _ _ _ _ _ _ _=>rfl
 have F21:=B0 (st:=Bm) l21 c21 k21
 have b21:=F21.bn3 (p0 := "word") (p1 := "left") (p2 := "right") fun _ _ _ _ _ _ _ _ _=>rfl
 have F22:=B0 (st:=Fh) l22 c22 k22
 have b22:=F22.bn1 (p0 := "sentence") fun _ _ _ _ _ _ _=>rfl
 have F23:=B0 (st:=Cw) l23 c23 k23
 have b23:=F23.bn1 (p0 := "rows") fun _ _ _ _ _ _ _=>rfl
 have F24:=B0 (st:=E1) l24 c24 k24
 have b24:=F24.bn2 (p0 := "rows") (p1 := "moment") fun _ _ _ _ _ _ _ _=>rfl
 have F25:=B0 (st:=EE) l25 c25 k25
 have b25:=F25.bn1 (p0 := "rows") fun _ _ _ _ _ _ _=>rfl
 have F26:=B0 (st:=DO) l26 c26 k26
 have b26:=F26.bn1 (p0 := "sentences") fun _ _ _ _ _ _ _=>rfl
 have F27:=B0 (st:=BK) l27 c27 k27
 have b27:=F27.bn2 (p0 := "rows") (p1 := "most") fun _ _ _ _ _ _ _ _=>rfl
 have F28:=B0 (st:=CD) l28 c28 k28
 have b28:=F28.bn2 (p0 := "sentences") (p1 := "most_waits") fun _ _ _ _ _ _ _ _=>rfl
 have F29:=B0 (st:=Ba) l29 c29 k29
 have b29:=F29.bn2 (p0 := "rows") (p1 := "spot") fun _ _ _ _ _ _ _ _=>rfl
 have F30:=B0 (st:=El) l30 c30 k30
 have b30:=F30.bn1 (p0 := "sentence") fun _ _ _ _ _ _ _=>rfl
 have F31:=B0 (st:=ED) l31 c31 k31
 have b31:=F31.bn2 (p0 := "_law_script") (p1 := "_law_k") fun _ _ _ _ _ _ _ _=>rfl
 have F32:=B0 (st:=DX) l32 c32 k32
 have b32:=F32.bn1 (p0 := "_law_number") fun _ _ _ _ _ _ _=>rfl
 have F33:=B0 (st:=E6) l33 c33 k33
 have b33:=F33.bn1 (p0 := "_law_lamps_here") fun _ _ _ _ _ _ _=>rfl
 have F34:=B0 (st:=Eh) l34 c34 k34
 have b34:=F34.bn2 (p0 := "_law_number") (p1 := "_law_pool_here") fun _ _ _ _ _ _ _ _=>rfl
 have F35:=B0 (st:=CG) l35 c35 k35
 have b35:=F35.bn5 (p0 := "_law_script") (p1 := "_law_start") (p2 := "_law_many") (p3 := "_law_lamps_here") (p4 := "_law_most") fun _ _ _ _ _ _ _ _ _ _ _=>rfl
 have F36:=B0 (st:=Cm) l36 c36 k36
 have b36:=F36.bn1 (p0 := "_law_sentence_here") fun _ _ _ _ _ _ _=>rfl
 have F37:=B0 (st:=Br) l37 c37 k37
 have b37:=F37.bn1 (p0 := "_law_sentence_here") fun _ _ _ _ _ _ _=>rfl
 have F38:=B0 (st:=CW) l38 c38 k38
 have b38:=F38.bn1 (p0 := "_law_lamps_here") fun _ _ _ _ _ _ _=>rfl
 have F39:=B0 (st:=FQ) l39 c39 k39
 have b39:=F39.bn2 (p0 := "_law_watching") (p1 := "_law_begins") fun _ _ _ _ _ _ _ _=>rfl
 have F40:=B0 (st:=Gp) l40 c40 k40
 refine ⟨qgC "law" "law" (AY Gp) (AX Gp) (AB Gp) .none kV40 dc40 pm40 an40 cd40 ct40,fun s v=>.of_eq rfl,fun base _ _=>?_⟩
 have D_law_lamps:DefOk l.prog w K mg base "_law_lamps" 1 ["_law_number"] (spM K Ef):=As F32 (qdC X G a32) b32 (ok_law_lamps F32 T)
 have D_law_pool:DefOk l.prog w K mg base "_law_pool" 1 ["_law_lamps_here"] (spL K FF):=As F33 (qdC X G a33) b33 (ok_law_pool F33 T)
 have D_law_put:DefOk l.prog w K mg base "_law_put" 1 ["_law_number","_law_pool_here"] (spM K Fc):=As F34 (qdC X G a34) b34 (ok_law_put F34 T)
 have D_law_cell:DefOk l.prog w K mg base "_law_cell" 1 ["_law_script","_law_k"] (spM K Cg):=As F31 (qdC X G a31) b31 (ok_law_cell F31 T)
 have D_law_sentence:DefOk l.prog w K mg base "_law_sentence" 2 ["_law_script","_law_start","_law_many","_law_lamps_here","_law_most"] (spM K DD):=As F35 (qdC X G a35) b35 (ok_law_sentence F35 T D_law_pool D_law_put D_law_cell)
 have D_parts_of:DefOk l.prog w K mg base "parts_of" 1 ["sentence"] (spM K DP):=As F2 (qdC X G a2) b2 (ok_parts_of F2 T)
 have D_row_number:DefOk l.prog w K mg base "row_number" 1 ["rows","numbers","row"] (spB K CF):=As F6 (qdC X G a6) b6 (ok_row_number F6 T)
 have D_lay:∀ n:Nat,DefOk l.prog w K mg base "lay" (2+n) ["rows","numbers","sentence"] (spB K (BW AE n)):=fun n=>by
  induction n with
  | zero=>exact As F7 (qdC X G a7) b7 (ok0_lay F7)
  | succ n ih=>exact As F7 (qdC X G a7) b7 (ok_lay F7 T D_parts_of D_row_number n ih)
 have D_lay:DefOk l.prog w K mg base "lay" 162 ["rows","numbers","sentence"] (spB K (BW AE 160)):=D_lay 160
 have D_book_of:DefOk l.prog w K mg base "book_of" 163 ["some"] (spN K Fu):=As F8 (qdC X G a8) b8 (ok_book_of F8 T D_lay)
 have D_is_moment:DefOk l.prog w K mg base "is_moment" 1 ["thing"] (spM K EY):=As F0 (qdC X G a0) b0 (ok_is_moment F0 T)
 have D_is_lamp:DefOk l.prog w K mg base "is_lamp" 2 ["thing"] (spM K Fo):=As F3 (qdC X G a3) b3 (ok_is_lamp F3 T D_is_moment)
 have D_has_form:DefOk l.prog w K mg base "has_form" 3 ["thing"] (spM K FC):=As F4 (qdC X G a4) b4 (ok_has_form F4 T D_is_lamp)
 have D_is_sentence:DefOk l.prog w K mg base "is_sentence" 4 ["thing"] (spM K Dc):=As F5 (qdC X G a5) b5 (ok_is_sentence F5 T D_parts_of D_has_form)
 have D_denied:DefOk l.prog w K mg base "denied" 1 ["plain"] (spM K C1):=As F19 (qdC X G a19) b19 (ok_denied F19 T)
 have D_plain_with_two:DefOk l.prog w K mg base "plain_with_two" 2 ["word","left","right"] (spM K Cb):=As F21 (qdC X G a21) b21 (ok_plain_with_two F21 T D_denied)
 have D_plain_with_one:DefOk l.prog w K mg base "plain_with_one" 2 ["word","inner"] (spM K Ce):=As F20 (qdC X G a20) b20 (ok_plain_with_one F20 T D_denied)
 have D_plain:∀ n:Nat,DefOk l.prog w K mg base "plain" (3+n) ["sentence"] (spM K (D9 n)):=fun n=>by
  induction n with
  | zero=>exact As F22 (qdC X G a22) b22 (ok0_plain F22)
  | succ n ih=>exact As F22 (qdC X G a22) b22 (ok_plain F22 T D_plain_with_two D_plain_with_one n ih)
 have D_plain:DefOk l.prog w K mg base "plain" 29 ["sentence"] (spM K (D9 26)):=D_plain 26
 have D_book_told:DefOk l.prog w K mg base "book_told" 164 ["sentences"] (spM K Ec):=As F26 (qdC X G a26) b26 (ok_book_told F26 T D_book_of D_is_sentence D_plain)
 have D_hopes:DefOk l.prog w K mg base "hopes" 1 ["rows"] (spM K EL):=As F11 (qdC X G a11) b11 (ok_hopes F11 T)
 have D_waits:DefOk l.prog w K mg base "waits" 2 ["rows"] (spM K DB):=As F10 (qdC X G a10) b10 (ok_waits F10 T D_hopes)
 have D_refuse_more_waits:DefOk l.prog w K mg base "refuse_more_waits" 3 ["rows","most"] (spM K C2):=As F27 (qdC X G a27) b27 (ok_refuse_more_waits F27 T D_waits)
 have D_lamps_in:DefOk l.prog w K mg base "lamps_in" 1 ["rows"] (spM K CJ):=As F9 (qdC X G a9) b9 (ok_lamps_in F9 T)
 have D_bounded_book:DefOk l.prog w K mg base "bounded_book" 165 ["sentences","most_waits"] (spM K DF):=As F28 (qdC X G a28) b28 (ok_bounded_book F28 T D_book_told D_refuse_more_waits D_lamps_in)
 have D_all_moments:DefOk l.prog w K mg base "all_moments" 1 ["lamps"] (spM K Dq):=As F1 (qdC X G a1) b1 (ok_all_moments F1 T)
 have D_all_claims:DefOk l.prog w K mg base "all_claims" 1 ["many"] (spM K EH):=As F16 (qdC X G a16) b16 (ok_all_claims F16 T)
 have D_claims_for:DefOk l.prog w K mg base "claims_for" 3 ["rows"] (spM K CV):=As F23 (qdC X G a23) b23 (ok_claims_for F23 T D_all_claims D_waits)
 have D_truth_of:DefOk l.prog w K mg base "truth_of" 1 ["rows","number","moment","claimed","view"] (spM K FG):=As F12 (qdC X G a12) b12 (ok_truth_of F12 T)
 have D_view_with:DefOk l.prog w K mg base "view_with" 2 ["rows","moment","claimed"] (spM K EZ):=As F13 (qdC X G a13) b13 (ok_view_with F13 T D_truth_of)
 have D_look:DefOk l.prog w K mg base "look" 3 ["rows","moment","claims"] (spM K mm_look):=As F14 (qdC X G a14) b14 (ok_look F14 T D_view_with D_waits)
 have D_claims_of:DefOk l.prog w K mg base "claims_of" 3 ["rows","view"] (spM K Eg):=As F15 (qdC X G a15) b15 (ok_claims_of F15 T D_waits)
 have D_is_eased:DefOk l.prog w K mg base "is_eased" 1 ["rows","hope","view"] (spM K Ez):=As F17 (qdC X G a17) b17 (ok_is_eased F17 T)
 have D_eased:DefOk l.prog w K mg base "eased" 2 ["rows","view"] (spM K mm_eased):=As F18 (qdC X G a18) b18 (ok_eased F18 T D_is_eased D_hopes)
 have D_steps_at:DefOk l.prog w K mg base "steps_at" 4 ["rows","moment"] (spM K FD):=As F24 (qdC X G a24) b24 (ok_steps_at F24 T D_claims_for D_look D_claims_of D_eased)
 have D_steps_of:DefOk l.prog w K mg base "steps_of" 5 ["rows"] (spM K FI):=As F25 (qdC X G a25) b25 (ok_steps_of F25 T D_all_moments D_lamps_in D_steps_at)
 have D_watcher_of_book:DefOk l.prog w K mg base "watcher_of_book" 6 ["rows","spot"] (spM K CK):=As F29 (qdC X G a29) b29 (ok_watcher_of_book F29 T D_steps_of D_lamps_in D_hopes D_claims_for)
 have D_watcher:DefOk l.prog w K mg base "watcher" 166 ["sentence"] (spM K Ep):=As F30 (qdC X G a30) b30 (ok_watcher F30 T D_bounded_book D_watcher_of_book)
 have D_law_to:DefOk l.prog w K mg base "_law_to" 1 ["_law_watching","_law_begins"] (spM K Ek):=As F39 (qdC X G a39) b39 (ok_law_to F39 T)
 have D_law_moments:DefOk l.prog w K mg base "_law_moments" 1 ["_law_lamps_here"] (spM K Ch):=As F38 (qdC X G a38) b38 (ok_law_moments F38 T)
 have D_law_words:∀ n:Nat,DefOk l.prog w K mg base "_law_words" (1+n) ["_law_sentence_here"] (spM K (C3 n)):=fun n=>by
  induction n with
  | zero=>exact As F36 (qdC X G a36) b36 (ok0_law_words F36)
  | succ n ih=>exact As F36 (qdC X G a36) b36 (ok_law_words F36 T n ih)
 have D_law_words:DefOk l.prog w K mg base "_law_words" 27 ["_law_sentence_here"] (spM K (C3 26)):=D_law_words 26
 have D_law_lamps_in:∀ n:Nat,DefOk l.prog w K mg base "_law_lamps_in" (1+n) ["_law_sentence_here"] (spM K (BN n)):=fun n=>by
  induction n with
  | zero=>exact As F37 (qdC X G a37) b37 (ok0_law_lamps_in F37)
  | succ n ih=>exact As F37 (qdC X G a37) b37 (ok_law_lamps_in F37 T n ih)
 have D_law_lamps_in:DefOk l.prog w K mg base "_law_lamps_in" 27 ["_law_sentence_here"] (spM K (BN 26)):=D_law_lamps_in 26
 exact (ok_law F40 T D_law_lamps D_law_sentence D_watcher D_law_to D_law_moments D_law_cell D_law_words D_law_lamps_in).imp fun _ _ _ _ h=>law_imp h
theorem walk {l:PySem.W.OpenLaw}{q:Program}{loose:List Str}{XP:(Str->Option Value)->Heap->Prop}{YP:World->Heap->Prop}{d:DefRec}{K:Params->FZ9}(hn:l.most=some 63)(hdf:d.params.defaults=[])
  (hY:∀ (w:World) (h:Heap),YP w h->(K w.params).In h)
  (F:∀ (w:World) (mg:Str->Option Value) (fa:Addr) (h:Heap),(K w.params).In h->h.Ns mainGlobals mg->mg d.name=some (.ref fa) ->
   ∃ fd:FuncData,(∀ (s:Shared) (u:Value),BindsTo s fd ⟨[u],[]⟩ [("_law_script",u)])/\∀ base:Heap,(K w.params).In base->base.Ns mainGlobals mg->FnOk l.prog w (K w.params) mg base CX0 167 fa fd ["_law_script"] (sp_law (K w.params))) :
  PySem.W.WalkO q loose XP YP l.row.toRowW d [] (fun f vs=>PySem.call f vs) :=
 L2.walk_of (n:=63) (k:=167) (x := "_law_script") (CX:=fun _=>CX0) (sp:=fun w=>sp_law (K w.params)) hn (by decide) hdf ⟨rfl,by decide,by decide⟩ hY F (fun _ _ a ns hl _ hS=>⟨a,ns,rfl,hS,hl,fun _=>rfl⟩) fun _ _ _ _ _ z=>z
end My
open PySem PySem.W PyProof.Rows
theorem PySem.W.Fast.tw8682155058900814464:True:=trivial
theorem PySem.W.Fast.tw9342445591088555220:True:=trivial
theorem PySem.W.Fast.tw12433125733844870183:True:=trivial
theorem PySem.W.Fast.tw6376099490487255071:True:=trivial
theorem PySem.W.Fast.tw159511406637914369:True:=trivial
theorem PySem.W.Fast.tw16313631819340189971:True:=trivial
theorem PySem.W.Fast.tw3588944832333252112:True:=trivial
theorem PySem.W.Fast.tw4632585673185110890:True:=trivial
theorem PySem.W.Fast.tw2620847295024317648:True:=trivial
theorem PySem.W.Fast.tw8571829181471982175:True:=trivial
theorem PySem.W.Fast.tw1682021407212272003:True:=trivial
theorem PySem.W.Fast.tw4097570177630244059:True:=trivial
theorem PySem.W.Fast.tw15971896090715007966:True:=trivial
theorem PySem.W.Fast.tw15026022837555011130:True:=trivial
theorem PySem.W.Fast.tw14311796347130975905:True:=trivial
theorem PySem.W.Fast.tw18285526858736363878:True:=trivial
theorem PySem.W.Fast.tw7510273970790330306:True:=trivial
theorem PySem.W.Fast.tw2232315173936120482:True:=trivial
set_option maxRecDepth 100000 in
set_option maxHeartbeats 0 in
theorem PySem.Challenge.cw_lassoscribe_k47_denied_rows_holds : PySem.Challenge.rw_lassoscribe_k47_denied_rows.Holds := by
 w_on; o_law; k_head; (case hw => w_witness2)
 k_fill
 refine My.walk (l := PySem.Challenge.rw_lassoscribe_k47_denied_rows) rfl rfl (fun w h Y => PySem.W.kIn_of Y) ?F
 case F =>
  intro w mg fa h KX G hmg
  refine' My.all_mk KX G hmg ?a0 ?l0 ?c0 ?k0 ?a1 ?l1 ?c1 ?k1 ?a2 ?l2 ?c2 ?k2 ?a3 ?l3 ?c3 ?k3 ?a4 ?l4 ?c4 ?k4 ?a5 ?l5 ?c5 ?k5 ?a6 ?l6 ?c6 ?k6 ?a7 ?l7 ?c7 ?k7 ?a8 ?l8 ?c8 ?k8 ?a9 ?l9 ?c9 ?k9 ?a10 ?l10 ?c10 ?k10 ?a11 ?l11 ?c11 ?k11 ?a12 ?l12 ?c12 ?k12 ?a13 ?l13 ?c13 ?k13 ?a14 ?l14 ?c14 ?k14 ?a15 ?l15 ?c15 ?k15 ?a16 ?l16 ?c16 ?k16 ?a17 ?l17 ?c17 ?k17 ?a18 ?l18 ?c18 ?k18 ?a19 ?l19 ?c19 ?k19 ?a20 ?l20 ?c20 ?k20 ?a21 ?l21 ?c21 ?k21 ?a22 ?l22 ?c22 ?k22 ?a23 ?l23 ?c23 ?k23 ?a24 ?l24 ?c24 ?k24 ?a25 ?l25 ?c25 ?k25 ?a26 ?l26 ?c26 ?k26 ?a27 ?l27 ?c27 ?k27 ?a28 ?l28 ?c28 ?k28 ?a29 ?l29 ?c29 ?k29 ?a30 ?l30 ?c30 ?k30 ?a31 ?l31 ?c31 ?k31 ?a32 ?l32 ?c32 ?k32 ?a33 ?l33 ?c33 ?k33 ?a34 ?l34 ?c34 ?k34 ?a35 ?l35 ?c35 ?k35 ?a36 ?l36 ?c36 ?k36 ?a37 ?l37 ?c37 ?k37 ?a38 ?l38 ?c38 ?k38 ?a39 ?l39 ?c39 ?k39 ?a40 ?l40 ?c40 ?k40 ?gv0 ?gv1 ?gl1 ?gk1 ?ge1 ?go1 ?gv2 ?gl2 ?gv3 ?gv4 ?z0 ?z1 ?z2 ?z3 ?z4 ?z5 ?z6 ?z7 ?z8 ?z9 ?z10 ?z11
  (case a0 => k_is)
  (case l0 => k_is)
  (case c0 => k_is)
  (case k0 => k_is)
  (case a1 => k_is)
  (case l1 => k_is)
  (case c1 => k_is)
  (case k1 => k_is)
  (case a2 => k_is)
  (case l2 => k_is)
  (case c2 => k_is)
  (case k2 => k_is)
  (case a3 => k_is)
  (case l3 => k_is)
  (case c3 => k_is)
  (case k3 => k_is)
  (case a4 => k_is)
  (case l4 => k_is)
  (case c4 => k_is)
  (case k4 => k_is)
  (case a5 => k_is)
  (case l5 => k_is)
  (case c5 => k_is)
  (case k5 => k_is)
  (case a6 => k_is)
  (case l6 => k_is)
  (case c6 => k_is)
  (case k6 => k_is)
  (case a7 => k_is)
  (case l7 => k_is)
  (case c7 => k_is)
  (case k7 => k_is)
  (case a8 => k_is)
  (case l8 => k_is)
  (case c8 => k_is)
  (case k8 => k_is)
  (case a9 => k_is)
  (case l9 => k_is)
  (case c9 => k_is)
  (case k9 => k_is)
  (case a10 => k_is)
  (case l10 => k_is)
  (case c10 => k_is)
  (case k10 => k_is)
  (case a11 => k_is)
  (case l11 => k_is)
  (case c11 => k_is)
  (case k11 => k_is)
  (case a12 => k_is)
  (case l12 => k_is)
  (case c12 => k_is)
  (case k12 => k_is)
  (case a13 => k_is)
  (case l13 => k_is)
  (case c13 => k_is)
  (case k13 => k_is)
  (case a14 => k_is)
  (case l14 => k_is)
  (case c14 => k_is)
  (case k14 => k_is)
  (case a15 => k_is)
  (case l15 => k_is)
  (case c15 => k_is)
  (case k15 => k_is)
  (case a16 => k_is)
  (case l16 => k_is)
  (case c16 => k_is)
  (case k16 => k_is)
  (case a17 => k_is)
  (case l17 => k_is)
  (case c17 => k_is)
  (case k17 => k_is)
  (case a18 => k_is)
  (case l18 => k_is)
  (case c18 => k_is)
  (case k18 => k_is)
  (case a19 => k_is)
  (case l19 => k_is)
  (case c19 => k_is)
  (case k19 => k_is)
  (case a20 => k_is)
  (case l20 => k_is)
  (case c20 => k_is)
  (case k20 => k_is)
  (case a21 => k_is)
  (case l21 => k_is)
  (case c21 => k_is)
  (case k21 => k_is)
  (case a22 => k_is)
  (case l22 => k_is)
  (case c22 => k_is)
  (case k22 => k_is)
  (case a23 => k_is)
  (case l23 => k_is)
  (case c23 => k_is)
  (case k23 => k_is)
  (case a24 => k_is)
  (case l24 => k_is)
  (case c24 => k_is)
  (case k24 => k_is)
  (case a25 => k_is)
  (case l25 => k_is)
  (case c25 => k_is)
  (case k25 => k_is)
  (case a26 => k_is)
  (case l26 => k_is)
  (case c26 => k_is)
  (case k26 => k_is)
  (case a27 => k_is)
  (case l27 => k_is)
  (case c27 => k_is)
  (case k27 => k_is)
  (case a28 => k_is)
  (case l28 => k_is)
  (case c28 => k_is)
  (case k28 => k_is)
  (case a29 => k_is)
  (case l29 => k_is)
  (case c29 => k_is)
  (case k29 => k_is)
  (case a30 => k_is)
  (case l30 => k_is)
  (case c30 => k_is)
  (case k30 => k_is)
  (case a31 => k_is)
  (case l31 => k_is)
  (case c31 => k_is)
  (case k31 => k_is)
  (case a32 => k_is)
  (case l32 => k_is)
  (case c32 => k_is)
  (case k32 => k_is)
  (case a33 => k_is)
  (case l33 => k_is)
  (case c33 => k_is)
  (case k33 => k_is)
  (case a34 => k_is)
  (case l34 => k_is)
  (case c34 => k_is)
  (case k34 => k_is)
  (case a35 => k_is)
  (case l35 => k_is)
  (case c35 => k_is)
  (case k35 => k_is)
  (case a36 => k_is)
  (case l36 => k_is)
  (case c36 => k_is)
  (case k36 => k_is)
  (case a37 => k_is)
  (case l37 => k_is)
  (case c37 => k_is)
  (case k37 => k_is)
  (case a38 => k_is)
  (case l38 => k_is)
  (case c38 => k_is)
  (case k38 => k_is)
  (case a39 => k_is)
  (case l39 => k_is)
  (case c39 => k_is)
  (case k39 => k_is)
  (case a40 => k_is)
  (case l40 => k_is)
  (case c40 => k_is)
  (case k40 => k_is)
  (case gv0 => k_is)
  (case gv1 => k_is)
  (case gl1 => k_is)
  (case gk1 => k_keys)
  (case ge1 => (repeat (first | exact True.intro | refine And.intro ⟨_, _, rfl, rfl⟩ ?_)))
  (case go1 => decide)
  (case gv2 => k_is)
  (case gl2 => k_is)
  (case gv3 => k_is)
  (case gv4 => k_is)
  (case z0 => k_is)
  (case z1 => k_is)
  (case z2 => k_is)
  (case z3 => k_is)
  (case z4 => k_is)
  (case z5 => k_is)
  (case z6 => k_is)
  (case z7 => k_is)
  (case z8 => k_is)
  (case z9 => k_is)
  (case z10 => k_is)
  (case z11 => k_is)
end
