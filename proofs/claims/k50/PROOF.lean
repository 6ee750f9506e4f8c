import PyProof.Rows.All
import Wide.All
import OpenK.AllK
import Wide.FinOn
import Lean
import PyProof.EqAt
import PyProof.EqKinds
import PyProof.TupleCall
import PyProof.NeKinds
import PyProof.EnumFor
import PyProof.EnumMake
import PyProof.Rows.EnumRows
import PyProof.Rows.Range3
import PyProof.NoPylong
import PyProof.ListRange
import PyProof.TupleOfSeq
import PyProof.TupleOfStr
import PyProof.Draws
import PyProof.ZipIter
import PyProof.Rows.ZipGen
import PyProof.Rows.SortStr
import PyProof.Rows.TupAdd
import PyProof.SetRoads
import PyProof.Rows.SetFrom
import PyProof.StrWalks
import PyProof.CollectWalk
import KE.KDictList
import PyProof.Tail
import PyProof.TupleIter
import PyProof.AttrMiss
import KE.KDictOf
import OpenK.KTop
import PyProof.Rows.SortRev
import PyProof.Rows.CallKwBuiltin
import PyProof.Rows.CallKw2
import KE.KRevIter
import PyProof.SumWalkG
import Wide.Seal
import PyProof.AttrMissHeap
import PyProof.TupleKey
import PyProof.StrCalls2
import PyProof.Rows.StrKeys3
import PyProof.Conv_int
import PyProof.ExcBaseAll.ValueError
import KE.KTryMore
import PyProof.ExcArgsOwn
import KE.KIsAll
import KE.RegKTryMore
import KE.RegKIsAll
import PyProof.ToksMono
import PyProof.StrReplace2
import PyProof.StrCalls
import PyProof.Rows.StrLen
import PyProof.MinMaxWalk
import PyProof.WalkInts
import PySem.Challenge.RW_lassoscribe_k50_what_is_a_machine
open Option renaming bind_eq_some_iff → qaA, map_eq_some_iff → qcB, bind_assoc → qiB
open PySem renaming wpAny_bind → qbA, wpAny_pure → qcA, wpAny_holding → qdA, sizeLine_eq → qhB, wpAny_setState_of → qvB
open List renaming length_map → qeA, length_append → qfA, length_cons → qgA, length_singleton → qhA, length_range → qiA, length_take → qjA, mem_append → qkA, mem_cons → qmA, mem_map → qnA, mem_singleton → qoA, mem_cons_self → qpA, mem_cons_of_mem → qqA, mem_range → qrA, mem_of_getElem? → qsA, getElem?_eq_some_iff → qtA, getElem?_eq_getElem → quA, getElem?_append_right → qvA, getElem?_map → qwA, map_cons → qxA, append_assoc → qyA, size_toArray → qoB, not_mem_nil → qsB, mem_append_right → quB, foldl_cons → qwB
open Nat renaming le_refl → qzA, le_trans → qaB, lt_irrefl → qbB, ne_of_lt → qrB, lt_of_lt_of_le → qtB, zero_le → qxB
open Option.some renaming inj → qdB
open PySem.Heap renaming lt_size → qeB, get?_push_of_some → qfB, get?_push_size → qgB
open Int renaming eq_ofNat_of_zero_le → qjB, emod_nonneg → qkB, emod_lt_of_pos → qmB
open Bool renaming false_ne_true → qnB, and_eq_true → qyB
open PySem.W renaming fnOf → qpB
open Array renaming length_toList → qqB
noncomputable section
set_option Elab.async false
set_option linter.all false
set_option maxRecDepth 100000
set_option maxHeartbeats 4000000
local macro_rules
 | `(tactic| clear $n:num $rs*) => do
  let i := fun (n : Lean.Name) => Lean.mkIdent n
  match n.getNat with
  | 7 => let l := #[`G1, `s1, `c, `hc, `H, `sH, `Q, `k].map i; `(tactic| intro $l:ident*)
  | 8 => `(tactic| refine $(rs[0]!) $(i `G1) $(i `s1) $(rs[1]!) $(rs[2]!) $(i `H) $(i `sH) _ fun $(i `v) $(i `G2) $(i `H2) $(i `x2) $(i `r2) => ?_)
  | _ => Lean.Macro.throwUnsupported
theorem bE {α β : Type} {o : Option α} {f : α -> Option β} {b : β} {C : Prop} (h : o.bind f = some b) (k : ∀ a, o = some a -> f a = some b -> C) : C := by
 obtain ⟨a, h1, h2⟩ := qaA.mp h;exact k a h1 h2
abbrev FZ9 := PySem.W.Frag
namespace L2
open PySem PySem.Spec PyProof.Rows
abbrev Key:=Sum Int Str
def DP:Key->Value->Bool
 | .inl k,v=>Value.isInt k v
 | .inr x,v=>Value.isStrOf x v
def KU (w:World):Key->Int
 | .inl k=>hashInt k
 | .inr x=>hashStr w x
theorem Ba:∀ {k:Key}{v:Value},DP k v=true->(∃ i t,k=Sum.inl i/\v=Value.int i t)\/(∃ x t,k=Sum.inr x/\v=Value.str x t)
 | .inl i,v,h=>by
  obtain ⟨t,e⟩:=Value.isInt_shape (k:=i) (v:=v) h;exact .inl ⟨i,t,rfl,e⟩
 | .inr x,v,h=>by
  obtain ⟨t,e⟩:=Value.isStrOf_shape (x:=x) (v:=v) h;exact .inr ⟨x,t,rfl,e⟩
theorem GM (i:Int)(t:Tok):DP (.inl i) (.int i t)=true:=by simp [DP,Value.isInt]
theorem NJ (x:Str)(t:Tok):DP (.inr x) (.str x t)=true:=by simp [DP,Value.isStrOf]
theorem key_ll (a b:Int):decide ((Sum.inl a:Key)=Sum.inl b)=(a == b):=by
 by_cases e:a=b
 ·subst e;simp
 ·have h:¬ (Sum.inl a:Key)=Sum.inl b:=fun q=>e (Sum.inl.inj q);rw [decide_eq_false h];exact (beq_eq_false_iff_ne.mpr e).symm
theorem key_rr (a b:Str):decide ((Sum.inr a:Key)=Sum.inr b)=decide (a=b):=by
 by_cases e:a=b
 ·subst e;simp
 ·have h:¬ (Sum.inr a:Key)=Sum.inr b:=fun q=>e (Sum.inr.inj q);rw [decide_eq_false h,decide_eq_false e]
theorem key_lr (a:Int)(b:Str):decide ((Sum.inl a:Key)=Sum.inr b)=false:=decide_eq_false (fun q=>nomatch q)
theorem key_rl (a:Str)(b:Int):decide ((Sum.inr a:Key)=Sum.inl b)=false:=decide_eq_false (fun q=>nomatch q)
def BS (prog:Program)(w:World):PySem.KeyKind prog w Key where
 is:=DP
 hash:=KU w
 inj:=fun v a b ha hb=>by
  rcases Ba ha with ⟨i,t,rfl,rfl⟩ | ⟨x,t,rfl,rfl⟩
  ·rcases Ba hb with ⟨j,u,rfl,e⟩ | ⟨y,u,rfl,e⟩
   ·injection e with e1 _;rw [e1]
   ·exact nomatch e
  ·rcases Ba hb with ⟨j,u,rfl,e⟩ | ⟨y,u,rfl,e⟩
   ·exact nomatch e
   ·injection e with e1 _;rw [e1]
 byValue:=fun k v h=>by
  rcases Ba h with ⟨i,t,rfl,rfl⟩ | ⟨x,t,rfl,rfl⟩<;>rfl
 pyHash:=fun hv h=>by
  rcases Ba hv with ⟨i,t,rfl,rfl⟩ | ⟨x,t,rfl,rfl⟩
  ·exact wpAny_pyHash_int h
  ·exact wpAny_pyHash_str h
 eqBool:=fun hu hv h=>by
  rcases Ba hu with ⟨i,t,rfl,rfl⟩ | ⟨x,t,rfl,rfl⟩
  ·rcases Ba hv with ⟨j,u,rfl,rfl⟩ | ⟨y,u,rfl,rfl⟩
   ·rw [key_ll] at h;exact wpAny_eqBool_int h
   ·rw [key_lr] at h;exact SeqAt.EqAt.int_str i t y u _ _ _ _ h
  ·rcases Ba hv with ⟨j,u,rfl,rfl⟩ | ⟨y,u,rfl,rfl⟩
   ·rw [key_rl] at h;exact SeqAt.EqAt.str_int x t j u _ _ _ _ h
   ·rw [key_rr] at h;exact wpAny_eqBool_str h
 «strs»:=fun k x t v h=>by
  rcases Ba h with ⟨i,u,rfl,e⟩ | ⟨y,u,rfl,e⟩
  ·exact nomatch e
  ·injection e with e1 _
   subst e1;cases v<;>rfl
inductive V where
 | non|bl (b:Bool)|int (i:Int)|str (x:Str)|byt (b:Array UInt8)|flt (b:UInt64)|ref (a:Addr)|ty (n:String)
 deriving DecidableEq
def RelV:V->Value->Prop
 | .non,u=>u=Value.none
 | .bl b,u=>u=Value.bool b
 | .int i,u=>∃ t,u=Value.int i t
 | .str x,u=>∃ t,u=Value.str x t
 | .byt b,u=>∃ t,u=Value.bytes b t
 | .flt b,u=>∃ t,u=Value.float b t
 | .ref a,u=>u=Value.ref a
 | .ty n,u=>u=Value.type n
abbrev Vals:List V->List Value->Prop:=Paired RelV
theorem Vals.length {xs:List V}{us:List Value}(r:Vals xs us):xs.length=us.length:=Paired.length r
theorem Vals.get:∀ {xs:List V}{us:List Value}{i:Nat}{x:V},Vals xs us->xs[i]? = some x->∃ u,us[i]? = some u/\RelV x u
 | _,_,_,_,.nil,e=>by simp at e
 | _,_,0,_,.cons r _,e=>by simp at e;subst e;exact ⟨_,rfl,r⟩
 | _,_,i+1,x,.cons _ t,e=>by
  obtain ⟨u,h1,h2⟩:=Vals.get (i:=i) (x:=x) t (by simpa using e);exact ⟨u,by simpa using h1,h2⟩
theorem Vals.set {x:V}{u:Value}(r:RelV x u):∀ {xs:List V}{us:List Value}(i:Nat),Vals xs us->Vals (xs.set i x) (us.set i u)
 | _,_,_,.nil=>.nil
 | _,_,0,.cons _ t=>.cons r t
 | _,_,i+1,.cons q t=>.cons q (Vals.set r i t)
theorem Vals.append:∀ {xs ys:List V}{us ws:List Value},Vals xs us->Vals ys ws->Vals (xs++ys) (us++ws)
 | _,_,_,_,.nil,s=>s
 | _,_,_,_,.cons r t,s=>.cons r (Vals.append t s)
theorem Vals.take:∀ {xs:List V}{us:List Value}(n:Nat),Vals xs us->Vals (xs.take n) (us.take n)
 | _,_,0,_=>.nil
 | _,_,_+1,.nil=>.nil
 | _,_,n+1,.cons r t=>.cons r (Vals.take n t)
theorem Vals.drop:∀ {xs:List V}{us:List Value}(n:Nat),Vals xs us->Vals (xs.drop n) (us.drop n)
 | _,_,0,r=>r
 | _,_,_+1,.nil=>.nil
 | _,_,n+1,.cons _ t=>Vals.drop n t
def RelO:Option V->Option Value->Prop
 | some v,some u=>RelV v u
 | none,none=>True
 | _,_=>False
def KV {κ:Type}:List (κ × V)->List (κ × Value)->Prop:=Paired fun (p:κ × V) (q:κ × Value)=>p.1=q.1/\RelV p.2 q.2
def kV:Key->V
 | .inl i=>.int i
 | .inr x=>.str x
inductive HO where
 | lst (xs:List V)
 | tup (xs:List V)
 | dK (kvs:List (Key × V))|dT (kvs:List (List Key × V))
 | set (S:Int->Bool) (n:Nat)
 | ins (C dx:Addr) (fs:List (Str × V))
 | own (x:Addr)
 | xd (fs:List (Str × V))
 | met (f x:Addr)
 | rng (lo hi:Int)
 | frz (o:Obj) (u:HO)
 | tbl (ps:Array Value)
 | ext (φ:Heap->Prop)
abbrev Hp:=Addr->Option HO
def upd (H:Hp)(a:Addr)(o:HO):Hp:=fun b=>if b=a then some o else H b
theorem Ak {H:Hp}{a:Addr}{o:HO}:upd H a o a=some o:=by unfold upd;rw [if_pos rfl]
theorem BQ {H:Hp}{a b:Addr}{o:HO}(h:b≠a):upd H a o b=H b:=by unfold upd;rw [if_neg h]
theorem BF {H:Hp}{a b:Addr}{o:HO}(h:H a=some o)(h':H b=none):a≠b:=by
 intro e;subst e;rw [h] at h';cases h'
section
variable (P:Program)(w:World)
def ObjOk (H:Hp)(h:Heap)(a:Addr):HO->Prop
 | .lst xs=>xs.length<=sizeLine/\∃ (its:List Value) (n:Nat),Vals xs its/\h.get? a=some { cls:=.type "list",data:=.seq its.toArray n }
 | .tup xs=>xs.length<=sizeLine/\∃ its:List Value,Vals xs its/\IsTup h a its.toArray
 | .dK kvs=>kvs.length<=sizeLine/\(a == sysModules)=false/\∃ vs,KV kvs vs/\h.DictOf (BS P w) a vs
 | .dT kvs=>kvs.length<=sizeLine/\(a == sysModules)=false/\∃ xs:List (List Key × Addr × Value),
   Paired (fun (p:List Key × V) (q:List Key × Addr × Value)=>p.1=q.1/\H q.2.1=some (.tup (p.1.map kV))/\RelV p.2 q.2.2) kvs xs /\
   ∃ o es ep,h.get? a=some o/\o.ExactDict/\o.data = .dict es ep/\es.toList=xs.map (entryOfKey (tupleKind (BS P w)))/\(xs.map (·.1)).Nodup
 | .set S n=>h.SetOf (intKind P w) a S n
 | .ins C dx fs=>H dx=some (.own a)/\fs.length<=1000/\dx≠a/\h.get? a=some (PySem.W.instObj C dx) /\
   ∃ mA,h.Ns1 dx mA/\(∀ f,RelO (fs.lookup f) (mA f))/\PySem.Within mA (fs.map (·.1))
 | .own _=>∃ o,h.get? a=some o
 | .xd fs=>∃ mA,h.Ns1 a mA/\∀ f,RelO (fs.lookup f) (mA f)
 | .rng lo hi=>∃ t u v,h.get? a=some { cls:=.type "range",data:=.fields #[.int lo t,.int hi u,.int 1 v] }
 | .frz o u=>h.get? a=some o/\ObjOk H h a u
 | .tbl ps=>h.get? a=some { cls:=.none,data:=.fields ps }
 | .met f x=>h.get? a=some (PySem.W.methodObj (.ref f) (.ref x))
 | .ext φ=>φ h/\(∃ o,h.get? a=some o)/\∀ h1 h2:Heap,φ h1->(∀ o,h1.get? a=some o->h2.get? a=some o)->φ h2
def HOk (H:Hp)(h:Heap):Prop:=∀ a o,H a=some o->ObjOk P w H h a o
end
section
variable {P:Program}{w:World}{H H':Hp}{h h':Heap}{a:Addr}{o:HO}
theorem ObjOk.lt (x:ObjOk P w H h a o):a<h.objs.size:=by
 cases o with
 | lst xs=>obtain ⟨_,_,_,_,e⟩:=x;exact qeB e
 | tup xs=>obtain ⟨_,_,_,p⟩:=x;exact p.lt
 | dK kvs=>obtain ⟨_,_,_,_,o,_,_,e,_⟩:=x;exact qeB e
 | dT kvs=>obtain ⟨_,_,_,_,o,_,_,e,_⟩:=x;exact qeB e
 | set S n=>obtain ⟨o,_,_,_,e,_⟩:=x;exact qeB e
 | ins C dx fs=>obtain ⟨_,_,_,e,_⟩:=x;exact qeB e
 | own y=>obtain ⟨_,e⟩:=x;exact qeB e
 | xd fs=>obtain ⟨_,⟨_,_,_,e,_⟩,_⟩:=x;exact qeB e
 | rng lo hi=>obtain ⟨_,_,_,e⟩:=x;exact qeB e
 | frz ob u=>obtain ⟨e,_⟩:=x;exact qeB e
 | tbl ps=>exact qeB (show h.get? a=some _ from x)
 | met f y=>exact qeB (show h.get? a=some _ from x)
 | ext φ=>obtain ⟨_,⟨_,e⟩,_⟩:=x;exact qeB e
theorem Paired.mapP {α β:Type}{F G:α->β->Prop}:∀ {l₁:List α}{l₂:List β},Paired F l₁ l₂->(∀ a b,F a b->G a b)->Paired G l₁ l₂
 | _,_,.nil,_=>.nil
 | _,_,.cons r t,f=>.cons (f _ _ r) (Paired.mapP t f)
theorem Paired.imp' {α β:Type}{F G:α->β->Prop}(f:∀ a b,F a b->G a b){l₁:List α}{l₂:List β}(r:Paired F l₁ l₂):Paired G l₁ l₂:=Paired.mapP r f
theorem ObjOk.stay (x:ObjOk P w H h a o)(k:∀ b u,(b=a\/H b=some (.own a))->h.get? b=some u->h'.get? b=some u)
  (ho:∀ b,H b=some (.own a)->H' b=some (.own a)) (ht:∀ b xs,H b=some (.tup xs)->H' b=some (.tup xs)):ObjOk P w H' h' a o:=by
 induction o with
 | lst xs=>obtain ⟨z,its,n,r,e⟩:=x;exact ⟨z,its,n,r,k _ _ (.inl rfl) e⟩
 | tup xs=>obtain ⟨z,its,r,ob,e,c⟩:=x;exact ⟨z,its,r,ob,k _ _ (.inl rfl) e,c⟩
 | dK kvs=>obtain ⟨z,y,vs,r,ob,es,ep,e,c⟩:=x;exact ⟨z,y,vs,r,ob,es,ep,k _ _ (.inl rfl) e,c⟩
 | dT kvs =>
  obtain ⟨z,y,xs,r,ob,es,ep,e,c⟩:=x;exact ⟨z,y,xs,Paired.mapP r fun p q z=>⟨z.1,ht _ _ z.2.1,z.2.2⟩,ob,es,ep,k _ _ (.inl rfl) e,c⟩
 | set S n=>obtain ⟨ob,es,ep,t,e,c⟩:=x;exact ⟨ob,es,ep,t,k _ _ (.inl rfl) e,c⟩
 | ins C dx fs =>
  obtain ⟨d,z,ne,e,mA,⟨od,es,ep,e2,c⟩,r⟩:=x;exact ⟨ho _ d,z,ne,k _ _ (.inl rfl) e,mA,⟨od,es,ep,k _ _ (.inr d) e2,c⟩,r⟩
 | own y=>obtain ⟨ob,e⟩:=x;exact ⟨ob,k _ _ (.inl rfl) e⟩
 | xd fs=>obtain ⟨mA,⟨od,es,ep,e,c⟩,r⟩:=x;exact ⟨mA,⟨od,es,ep,k _ _ (.inl rfl) e,c⟩,r⟩
 | rng lo hi=>obtain ⟨t,u,v,e⟩:=x;exact ⟨t,u,v,k _ _ (.inl rfl) e⟩
 | frz ob u ih=>obtain ⟨e,q⟩:=x;exact ⟨k _ _ (.inl rfl) e,ih q⟩
 | tbl ps =>
  have e:h.get? a=some { cls:=.none,data:=.fields ps }:=x;show h'.get? a=some { cls:=.none,data:=.fields ps };exact k a _ (.inl rfl) e
 | met f y =>
  have e:h.get? a=some (PySem.W.methodObj (.ref f) (.ref y)):=x;show h'.get? a=some (PySem.W.methodObj (.ref f) (.ref y));exact k a _ (.inl rfl) e
 | ext φ=>obtain ⟨p,⟨o,e⟩,st⟩:=x;exact ⟨st _ _ p fun o q=>k _ _ (.inl rfl) q,⟨o,k _ _ (.inl rfl) e⟩,st⟩
theorem HOk.lt (x:HOk P w H h)(e:H a=some o):a<h.objs.size:=(x a o e).lt
theorem HOk.fresh (x:HOk P w H h)(e:h.objs.size<=a):H a=none:=by
 cases q:H a with
 | none=>rfl
 | some u=>exact absurd (qtB (x.lt q) e) (qbB _)
theorem HOk.kept (x:HOk P w H h)(k:∀ b u,h.get? b=some u->h'.get? b=some u):HOk P w H h':=fun a o e =>
 (x a o e).stay (fun b u _ q=>k b u q) (fun _ q=>q) fun _ _ q=>q
theorem HOk.laid (x:HOk P w H h)(k:∀ b u,h.get? b=some u->h'.get? b=some u)(hp:h.objs.size<=a)(new:ObjOk P w (upd H a o) h' a o):HOk P w (upd H a o) h':=fun b u e=>by
 have hn:=x.fresh hp;by_cases hb:b=a
 ·subst hb;rw [Ak] at e;cases e;exact new
 ·rw [BQ hb] at e;exact (x b u e).stay (fun c v _ q=>k c v q) (fun c q=>by rw [BQ (BF q hn)];exact q) fun c xs q=>by rw [BQ (BF q hn)];exact q
end
def Rd (H:Hp)(a:Addr)(u:HO):Prop:=H a=some u\/∃ o,H a=some (.frz o u)
theorem Rd.ok {P:Program}{w:World}{H:Hp}{h:Heap}{a:Addr}{u:HO}(r:Rd H a u)(x:HOk P w H h):ObjOk P w H h a u:=by
 rcases r with r | ⟨o,r⟩
 ·exact x a u r
 ·obtain ⟨_,q⟩:=x a _ r;exact q
def Mut:Option HO->Prop
 | some (.lst _)=>True
 | some (.dK _)=>True
 | some (.dT _)=>True
 | some (.set _ _)=>True
 | some (.ins _ _ _)=>True
 | some (.ext _)=>True
 | _=>False
section
variable {P:Program}{w:World}{H:Hp}{h h':Heap}{x e:Addr}{o':HO}
theorem HOk.write (ok:HOk P w H h)(mu:Mut (H x))(he:e=x\/H e=some (.own x))(k:∀ b u,b≠e->h.get? b=some u->h'.get? b=some u)(heo:∃ u,h'.get? e=some u)
  (new:ObjOk P w (upd H x o') h' x o'):HOk P w (upd H x o') h':=fun b u q=>by
 have nown:∀ c y,H c=some (.own y)->c≠x:=fun c y r z=>by subst z;rw [r] at mu;exact mu
 have ntup:∀ c xs,H c=some (.tup xs)->c≠x:=fun c xs r z=>by subst z;rw [r] at mu;exact mu
 by_cases hb:b=x
 ·subst hb;rw [Ak] at q;cases q;exact new
 ·rw [BQ hb] at q;by_cases hbe:b=e
  ·have q':H b=some (.own x):=by
    rcases he with z|z
    ·exact absurd (hbe.trans z) hb
    ·rw [hbe];exact z
   rw [q] at q';cases q';obtain ⟨v,hv⟩:=heo;exact ⟨v,by rw [hbe];exact hv⟩
  ·refine (ok b u q).stay (fun c v hc r=>k c v ?_ r) (fun c r=>by rw [BQ (nown c b r)];exact r) fun c xs r=>by rw [BQ (ntup c xs r)];exact r
   rcases hc with rfl|hc
   ·exact hbe
   ·rintro rfl;rcases he with z|z
    ·exact nown c b hc z
    ·rw [hc] at z;cases z;exact hb rfl
end
structure Un (fs ex:List Addr)(H H':Hp)(h h':Heap):Prop where
 keep:∀ b o,h.get? b=some o->H b=none->b ∉ fs->b ∉ ex->h'.get? b=some o
 slot:∀ b o,h.get? b=some o->H b=none->b∈fs->b ∉ ex->∃ sl,h'.get? b=some { o with slots:=sl }
 free:∀ b o,h.get? b=some o->H b=none->b ∉ ex->H' b=none
 there:∀ b o,h.get? b=some o->b ∉ ex->∃ o',h'.get? b=some o'
 tups:∀ b xs,H b=some (.tup xs)->H' b=some (.tup xs)
 frzs:∀ b o u,H b=some (.frz o u)->H' b=some (.frz o u)
 tbls:∀ b ps,H b=some (.tbl ps)->∃ more,H' b=some (.tbl (ps++more))
section
variable {fs fs' ex ex':List Addr}{H H1 H2:Hp}{h h1 h2 h':Heap}{a x e:Addr}{o:HO}
theorem Un.any (u:Un fs ex H H1 h h1){b:Addr}{ob:Obj}(q:h.get? b=some ob)(n:H b=none)(hx:b ∉ ex):∃ sl,h1.get? b=some { ob with slots:=sl }:=by
 by_cases hb:b∈fs
 ·exact u.slot b ob q n hb hx
 ·exact ⟨ob.slots,u.keep b ob q n hb hx⟩
theorem Un.kept (k:∀ b u,h.get? b=some u->h'.get? b=some u):Un fs ex H H h h' :=
 ⟨fun b ob q _ _ _=>k b ob q,fun b ob q _ _ _=>⟨ob.slots,k b ob q⟩,fun _ _ _ n _=>n,fun b ob q _=>⟨ob,k b ob q⟩,fun _ _ q=>q,fun _ _ _ q=>q,fun _ ps q=>⟨#[],by rw [q];simp⟩⟩
theorem Un.refl:Un fs ex H H h h:=Un.kept fun _ _ q=>q
theorem Un.laid (k:∀ b u,h.get? b=some u->h'.get? b=some u)(hp:h.objs.size<=a)(hn:H a=none):Un fs ex H (upd H a o) h h' where
 keep:=fun b u q _ _ _=>k b u q
 slot:=fun b u q _ _ _=>⟨u.slots,k b u q⟩
 free:=fun b u q n _=>by rw [BQ (qrB (qtB (qeB q) hp))];exact n
 there:=fun b u q _=>⟨u,k b u q⟩
 tups:=fun b xs q=>by rw [BQ (BF q hn)];exact q
 frzs:=fun b u xs q=>by rw [BQ (BF q hn)];exact q
 tbls:=fun b ps q=>⟨#[],by rw [BQ (BF q hn),q];simp⟩
theorem Un.write (mu:Mut (H x))(he:e=x\/H e=some (.own x))(k:∀ b u,b≠e->h.get? b=some u->h'.get? b=some u)(heo:∃ u,h'.get? e=some u):Un fs ex H (upd H x o) h h':=by
 have hx:∀ b,H b=none->b≠x:=fun b n z=>by subst z;rw [n] at mu;exact mu
 have hb:∀ b,H b=none->b≠e:=fun b n z=>by
  subst z;rcases he with r|r
  ·exact hx b n r
  ·rw [n] at r;cases r
 have hm:∀ b u,H b=some u->¬ Mut (some u)->b≠x:=fun b u q nm z=>by subst z;rw [q] at mu;exact nm mu
 refine ⟨fun b u q n _ _=>k b u (hb b n) q,fun b u q n _ _=>⟨u.slots,k b u (hb b n) q⟩,fun b u q n _=>by rw [BQ (hx b n)];exact n,fun b u q _=>?_,
  fun b xs q=>by rw [BQ (hm b _ q fun z=>z)];exact q,fun b u xs q=>by rw [BQ (hm b _ q fun z=>z)];exact q,fun b ps q=>⟨#[],by rw [BQ (hm b _ q fun z=>z),q];simp⟩⟩
 by_cases hbe:b=e
 ·subst hbe;exact heo
 ·exact ⟨u,k b u hbe q⟩
end
def trk (h:Heap)(H:Hp):List Addr:=(List.range h.objs.size).filter fun a=>(H a).isSome
def Jw (h:Heap)(H:Hp):Heap:=PySem.W.hideAll h (trk h H)
theorem NM (h:Heap)(H:Hp):(Jw h H).objs.size=h.objs.size:=PySem.W.hideAll_size _ _
theorem hidT_get {h:Heap}{H:Hp}{b:Addr}{o:Obj}(e:h.get? b=some o)(n:H b=none):(Jw h H).get? b=some o :=
 PySem.W.hideAll_get _ e fun hm=>by
  have q:(H b).isSome=true:=(List.mem_filter.mp hm).2;rw [n] at q;simp at q
theorem of_hidT {h:Heap}{H:Hp}{b:Addr}{o:Obj}(e:(Jw h H).get? b=some o):h.get? b=some o/\H b=none:=by
 have e':h.get? b=some o:=PySem.W.of_hideAll (trk h H) e;refine ⟨e',?_⟩
 cases q:H b with
 | none=>rfl
 | some x =>
  have hm:b∈trk h H:=List.mem_filter.mpr ⟨qrA.mpr (qeB e'),by simp [q]⟩;have z:(Jw h H).get? b=none:=PySem.W.hideAll_none (trk h H) hm;rw [z] at e;cases e
structure Mod (K:FZ9)(mg:Str->Option Value)(base:Heap):Prop where
 kin:K.In base
 glob:base.Ns mainGlobals mg
 blt:∃ mb,base.Ns builtinsNs mb/\∀ x:Str,x ≠ "__name__" -> mb x=bootBuiltins x
 nolimit:base.NoLimit
structure Cx where
 prog:Program
 w:World
 K:FZ9
 mg:Str->Option Value
 base:Heap
 A:Around
 N:List Str
 s₀:Shared
 H₀:Hp
 env:Env
 outer:List Env
 stack:List Env
 ex:List Addr
 fn:Str->Bool
 calm:Bool
 pn:List (Addr × Obj)
 xe:Value->Shared->Prop
def frs (l:List Env):List Addr:=l.filterMap (·.frame)
abbrev Cx.fs (X:Cx):List Addr:=frs X.outer
def Vis (sc:Scope)(x:Str):Prop:=sc.names.lookup x=some .local \/ sc.names.lookup x=some .cell\/sc.names.lookup x=some .free
def Loc (sc:Scope)(x:Str):Prop:=sc.names.lookup x=some .local \/ sc.names.lookup x=some .cell
def Look (env:Env)(h:Heap)(m:Str->Option Value)(x:Str)(u:Value):Prop :=
 (env.kindOf x=some .local /\ m x=some u)\/((env.kindOf x=some .cell\/env.kindOf x=some .free)/\∃ c,env.cells.lookup x=some c/\h.IsCell c (some u))
structure Cx.Ok (X:Cx):Prop where
 mod:Mod X.K X.mg X.base
 kind:X.env.scope.kind = .function
 glob:X.env.globals=mainGlobals
 blt:X.env.builtins=builtinsNs
 above:X.s₀.heap.objs.size<=X.env.locals
 inj:∀ x y c,X.env.cells.lookup x=some c->X.env.cells.lookup y=some c->x=y
 has:∀ x,(X.env.kindOf x=some .cell\/X.env.kindOf x=some .free)->∃ c,X.env.cells.lookup x=some c
 cab:∀ x c,X.fn x=true->X.env.cells.lookup x=some c->X.s₀.heap.objs.size<=c
 hd:X.calm=true->X.A.handled=none
 frames:X.A.frames=some X.stack
 stk:X.stack=X.outer\/(X.stack=X.env::X.outer/\X.env.frame=some X.env.locals)
 exf:∀ b∈X.ex,b≠X.env.locals/\∀ x c,X.env.cells.lookup x=some c->c≠b
 bs:∀ b o,X.base.get? b=some o->X.s₀.heap.get? b=some o/\X.H₀ b=none
 bsz:X.base.objs.size<=X.s₀.heap.objs.size
 noex:∀ b o,X.base.get? b=some o->b ∉ X.ex
 exfs:∀ b∈X.ex,b ∉ X.fs
 funs:X.s₀.heap.FunFrames X.base X.outer
 frf:∀ b∈X.fs,X.H₀ b=none
structure Inv (X:Cx)(pins:List (Addr × Obj))(σ:List (Option V))(H:Hp)(s:Shared):Prop where
 ok:X.Ok
 os:s.os=X.s₀.os
 bare:AllBare s.gens
 base:Un X.fs X.ex X.H₀ H X.s₀.heap s.heap
 loc:∃ m,s.heap.Ns X.env.locals m/\∀ (i:Nat) (x:Str) (v:V),X.N[i]? = some x->σ[i]? = some (some v)->Vis X.env.scope x->∃ u,RelV v u/\Look X.env s.heap m x u
 cell:∀ x c,X.env.cells.lookup x=some c->∃ v,s.heap.IsCell c v
 free:H X.env.locals=none
 freeC:∀ x c,X.env.cells.lookup x=some c->H c=none
 pin:∀ p∈X.pn++pins,s.heap.get? p.1=some p.2/\H p.1=none/\p.1≠X.env.locals/\p.1 ∉ X.fs/\∀ v,p.2.data ≠ .cell v
 hok:HOk X.prog X.w H s.heap
 len:σ.length=X.N.length
section
variable {X:Cx}{pins:List (Addr × Obj)}{σ:List (Option V)}{H H':Hp}{s:Shared}{h':Heap}
theorem Cx.Ok.nofr (ok:X.Ok){b:Addr}{o:Obj}(e:X.base.get? b=some o):b ∉ X.fs:=fun hb=>by
 have:=(ok.funs.mem hb).1;rw [e] at this;cases this
theorem Inv.bs (I:Inv X pins σ H s):∀ b o,X.base.get? b=some o->s.heap.get? b=some o/\H b=none:=fun b o e =>
 ⟨I.base.keep b o (I.ok.bs b o e).1 (I.ok.bs b o e).2 (I.ok.nofr e) (I.ok.noex b o e),I.base.free b o (I.ok.bs b o e).1 (I.ok.bs b o e).2 (I.ok.noex b o e)⟩
theorem Inv.bk (I:Inv X pins σ H s):∀ b o,X.base.get? b=some o->s.heap.get? b=some o:=fun b o e=>(I.bs b o e).1
theorem Inv.mod (I:Inv X pins σ H s):Mod X.K X.mg X.base:=I.ok.mod
theorem Inv.kIn (I:Inv X pins σ H s):X.K.In s.heap:=I.ok.mod.kin.keeps I.bk
theorem Inv.lt (I:Inv X pins σ H s):X.env.locals<s.heap.objs.size:=let ⟨_,hn,_⟩:=I.loc;hn.lt
theorem Inv.sz (I:Inv X pins σ H s):X.s₀.heap.objs.size<=s.heap.objs.size:=qaB I.ok.above (Nat.le_of_lt I.lt)
theorem Inv.nofs (I:Inv X pins σ H s){a:Addr}(h:s.heap.objs.size<=a):a ∉ X.fs:=fun hb=>by
 obtain ⟨_,o,ho,_⟩:=I.ok.funs.mem hb;exact absurd (qtB (qeB ho) (qaB I.sz h)) (qbB _)
theorem Inv.cne (I:Inv X pins σ H s):∀ x c,X.env.cells.lookup x=some c->c≠X.env.locals:=fun x c e z=>by
 obtain ⟨v,o,ho,hd⟩:=I.cell x c e;obtain ⟨m,⟨o',es,ep,ho',hd',_⟩,_⟩:=I.loc;rw [z,ho'] at ho;cases ho;rw [hd'] at hd;cases hd
theorem Inv.funs (I:Inv X pins σ H s):s.heap.FunFrames X.base X.outer:=by
 have all:∀ (l:List Env),(∀ b∈frs l,b∈X.fs)->X.s₀.heap.FunFrames X.base l->s.heap.FunFrames X.base l:=by
  intro l
  induction l with
  | nil=>intro _ _;trivial
  | cons env r ih =>
   intro hs hl;obtain ⟨hk,⟨L,o,hf,hn,ho,hd⟩,hr⟩:=hl;have hL:L∈X.fs:=hs L (by unfold frs;rw [List.filterMap_cons,hf];exact qpA);obtain ⟨sl,e⟩:=I.base.slot L o ho (I.ok.frf L hL) hL fun z=>I.ok.exfs L z hL;exact ⟨hk,⟨L,_,hf,hn,e,hd⟩,ih (fun b hb=>hs b (by unfold frs;rw [List.filterMap_cons,hf];exact qqA _ hb)) hr⟩
 exact all X.outer (fun _ hb=>hb) I.ok.funs
theorem Inv.stack (I:Inv X pins σ H s):s.heap.FunFrames X.base X.stack:=by
 rcases I.ok.stk with e | ⟨e,hf⟩
 ·rw [e];exact I.funs
 ·rw [e];obtain ⟨m,hn,_⟩:=I.loc;refine .cons (by rw [I.ok.kind];decide) hf hn ?_ I.funs;exact Heap.get?_none_of_le (qaB I.ok.bsz I.ok.above)
theorem Inv.stkSub (I:Inv X pins σ H s):∀ b∈frs X.stack,b∈X.env.locals::X.fs:=fun b hb=>by
 rcases I.ok.stk with e | ⟨e,hf⟩
 ·rw [e] at hb;exact qqA _ hb
 ·rw [e] at hb;unfold frs at hb;rw [List.filterMap_cons,hf] at hb;exact hb
theorem Inv.stkFree (I:Inv X pins σ H s):∀ b∈frs X.stack,H b=none:=fun b hb=>by
 rcases qmA.mp (I.stkSub b hb) with e|hb
 ·rw [e];exact I.free
 ·obtain ⟨_,o,ho,_⟩:=I.ok.funs.mem hb;exact I.base.free b o ho (I.ok.frf b hb) fun z=>I.ok.exfs b z hb
theorem Inv.step {g':Array GenState}{t':Nat}{d':Drawn}{ch:List Addr}(I:Inv X pins σ H s)
  (hch:∀ b∈ch,(b∈X.ex\/X.s₀.heap.objs.size<=b)/\b≠X.env.locals/\(∀ x c,X.env.cells.lookup x=some c->c≠b)/\∀ p∈X.pn++pins,p.1≠b)
  (keep:∀ b o,b≠X.env.locals->b ∉ X.fs->b ∉ ch->s.heap.get? b=some o->H b=none->h'.get? b=some o)
  (slot:∀ b o,b≠X.env.locals->b∈X.fs->b ∉ ch->s.heap.get? b=some o->H b=none->∃ sl,h'.get? b=some { o with slots:=sl }) (free:∀ b o,b ∉ ch->s.heap.get? b=some o->H b=none->H' b=none)
  (there:∀ b o,b ∉ ch->s.heap.get? b=some o->∃ o',h'.get? b=some o')
  (tups:∀ b xs,H b=some (.tup xs)->H' b=some (.tup xs)) (frzs:∀ b o u,H b=some (.frz o u)->H' b=some (.frz o u)) (tbls:∀ b ps,H b=some (.tbl ps)->∃ more,H' b=some (.tbl (ps++more)))
  (ns:∀ m,s.heap.Ns X.env.locals m->h'.Ns X.env.locals m) (hok:HOk X.prog X.w H' h') (hg:AllBare g') :
  Inv X pins σ H' { s with heap:=h',gens:=g',drawn:=d',toks:=t' }:=by
 have neL:∀ b o,X.s₀.heap.get? b=some o->b≠X.env.locals:=fun b o e=>qrB (qtB (qeB e) I.ok.above)
 have neC:∀ b o,X.s₀.heap.get? b=some o->b ∉ X.ex->b ∉ ch:=fun b o e hx hb=>by
  rcases (hch b hb).1 with z|z
  ·exact hx z
  ·exact absurd (qtB (qeB e) z) (qbB _)
 have cellK:∀ x c,X.env.cells.lookup x=some c->∀ v,s.heap.IsCell c v->h'.IsCell c v:=fun x c e v ⟨o,ho,hd⟩=>by
  have nch:c ∉ ch:=fun z=>(hch c z).2.2.1 x c e rfl;by_cases hc:c∈X.fs
  ·obtain ⟨sl,q⟩:=slot c o (I.cne x c e) hc nch ho (I.freeC x c e);exact ⟨_,q,hd⟩
  ·exact ⟨o,keep c o (I.cne x c e) hc nch ho (I.freeC x c e),hd⟩
 refine ⟨I.ok,I.os,hg,⟨fun b o e n hb hx=>?_,fun b o e n hb hx=>?_,fun b o e n hx=>?_,fun b o e hx=>?_,fun b xs e=>tups b xs (I.base.tups b xs e),fun b o xs e=>frzs b o xs (I.base.frzs b o xs e),fun b ps e=>?_⟩,?_,fun x c e=>?_,?_,fun x c e=>?_,fun p hp=>?_,hok,I.len⟩
 ·exact keep b o (neL b o e) hb (neC b o e hx) (I.base.keep b o e n hb hx) (I.base.free b o e n hx)
 ·obtain ⟨sl,e1⟩:=I.base.slot b o e n hb hx;obtain ⟨sl',e2⟩:=slot b _ (neL b o e) hb (neC b o e hx) e1 (I.base.free b o e n hx);exact ⟨sl',e2⟩
 ·obtain ⟨o',e1⟩:=I.base.there b o e hx;exact free b o' (neC b o e hx) e1 (I.base.free b o e n hx)
 ·obtain ⟨o',e1⟩:=I.base.there b o e hx;exact there b o' (neC b o e hx) e1
 ·obtain ⟨m1,e1⟩:=I.base.tbls b ps e;obtain ⟨m2,e2⟩:=tbls b _ e1;exact ⟨m1++m2,by rw [e2,Array.append_assoc]⟩
 ·obtain ⟨m,hn,hl⟩:=I.loc;refine ⟨m,ns m hn,fun i x v e1 e2 e3=>?_⟩;obtain ⟨u,r,l⟩:=hl i x v e1 e2 e3;refine ⟨u,r,?_⟩;rcases l with l | ⟨k,c,e,z⟩
  ·exact .inl l
  ·exact .inr ⟨k,c,e,cellK x c e _ z⟩
 ·obtain ⟨v,z⟩:=I.cell x c e;exact ⟨v,cellK x c e v z⟩
 ·obtain ⟨m,⟨o,_,_,ho,_⟩,_⟩:=I.loc;exact free _ o (fun z=>(hch _ z).2.1 rfl) ho I.free
 ·obtain ⟨v,o,ho,hd⟩:=I.cell x c e;exact free c o (fun z=>(hch c z).2.2.1 x c e rfl) ho (I.freeC x c e)
 ·obtain ⟨e,n,ne,nf,d⟩:=I.pin p hp;have nch:p.1 ∉ ch:=fun z=>(hch p.1 z).2.2.2 p hp rfl;exact ⟨keep p.1 p.2 ne nf nch e n,free p.1 p.2 nch e n,ne,nf,d⟩
theorem Inv.un {t':Nat}(I:Inv X pins σ H s)(u:Un X.fs [] H H' s.heap h')(hok:HOk X.prog X.w H' h'):Inv X pins σ H' { s with heap:=h',toks:=t' }:=by
 obtain ⟨m,⟨o,es,ep,ho,r⟩,_⟩:=id I.loc;obtain ⟨sl,hL⟩:=u.any ho I.free (by simp)
 exact I.step (g':=s.gens) (d':=s.drawn) (ch:=[]) (fun _ z=>nomatch z) (fun b o _ hb _ e n=>u.keep b o e n hb (by simp)) (fun b o _ hb _ e n=>u.slot b o e n hb (by simp)) (fun b o _ e n=>u.free b o e n (by simp)) (fun b o _ e=>u.there b o e (by simp)) u.tups u.frzs u.tbls (fun m' hm=>by
  obtain ⟨o',es',ep',ho',r'⟩:=hm;rw [ho] at ho';cases ho'
  exact ⟨_,es',ep',hL,r'⟩) hok I.bare
theorem Inv.call {g':Array GenState}{t':Nat}{d':Drawn}{ch:List Addr}(I:Inv X pins σ H s)(u:Un (frs X.stack) ch H H' s.heap h')(hok:HOk X.prog X.w H' h')(hg:AllBare g')
  (hch:∀ b∈ch,(b∈X.ex\/X.s₀.heap.objs.size<=b)/\b≠X.env.locals/\(∀ x c,X.env.cells.lookup x=some c->c≠b)/\∀ p∈X.pn++pins,p.1≠b) :
  Inv X pins σ H' { s with heap:=h',gens:=g',drawn:=d',toks:=t' }:=by
 obtain ⟨m,⟨o,es,ep,ho,r⟩,_⟩:=id I.loc;obtain ⟨sl,hL⟩:=u.any ho I.free fun z=>(hch _ z).2.1 rfl
 exact I.step (ch:=ch) hch (fun b o hL hb hc e n=>u.keep b o e n (fun z=>(qmA.mp (I.stkSub b z)).elim hL hb) hc) (fun b o _ _ hc e n=>u.any e n hc) (fun b o hc e n=>u.free b o e n hc) (fun b o hc e=>u.there b o e hc) u.tups u.frzs u.tbls (fun m' hm=>by
  obtain ⟨o',es',ep',ho',r'⟩:=hm;rw [ho] at ho';cases ho'
  exact ⟨_,es',ep',hL,r'⟩) hok hg
theorem Inv.turned {t':Nat}{it:Addr}(I:Inv X pins σ H s)(k:∀ b o,b≠it->s.heap.get? b=some o->h'.get? b=some o)(hn:H it=none)(hL:it≠X.env.locals)
  (h1:it∈X.ex\/X.s₀.heap.objs.size<=it) (h2:∀ x c,X.env.cells.lookup x=some c->c≠it) (h3:∀ p∈X.pn++pins,p.1≠it):Inv X pins σ H { s with heap:=h',toks:=t' }:=by
 have nit:∀ b u,H b=some u->b≠it:=fun b u e z=>by rw [z,hn] at e;cases e
 refine I.step (g':=s.gens) (d':=s.drawn) (ch:=[it]) (fun b hb=>?_) (fun b o _ _ hc e _=>k b o (fun z=>hc (by simp [z])) e) (fun b o _ _ hc e _=>⟨o.slots,k b o (fun z=>hc (by simp [z])) e⟩) (fun _ _ _ _ n=>n)
  (fun b o hc e=>⟨o,k b o (fun z=>hc (by simp [z])) e⟩) (fun _ _ e=>e) (fun _ _ _ e=>e) (fun b ps e=>⟨#[],by rw [e];simp⟩) (fun m hm=>?_) (fun b u e=>?_) I.bare
 ·have e:b=it:=by simpa using hb
  subst e;exact ⟨h1,hL,h2,h3⟩
 ·obtain ⟨o,es,ep,ho,r⟩:=hm;exact ⟨o,es,ep,k _ o (Ne.symm hL) ho,r⟩
 ·refine (I.hok b u e).stay (fun c v hc q=>k c v ?_ q) (fun _ q=>q) fun _ _ q=>q;rcases hc with z|z
  ·rw [z];exact nit b u e
  ·exact nit c _ z
theorem Inv.tok (I:Inv X pins σ H s)(t:Nat):Inv X pins σ H { s with toks:=t }:=I.un (h':=s.heap) (t':=t) Un.refl I.hok
theorem Inv.kept {t':Nat}(I:Inv X pins σ H s)(k:∀ b u,s.heap.get? b=some u->h'.get? b=some u):Inv X pins σ H { s with heap:=h',toks:=t' }:=I.un (Un.kept k) (I.hok.kept k)
theorem Inv.laid {a:Addr}{o:HO}{t':Nat}(I:Inv X pins σ H s)(k:∀ b u,s.heap.get? b=some u->h'.get? b=some u)(hp:s.heap.objs.size<=a)(new:ObjOk X.prog X.w (upd H a o) h' a o) :
  Inv X pins σ (upd H a o) { s with heap:=h',toks:=t' }:=I.un (Un.laid k hp (I.hok.fresh hp)) (I.hok.laid k hp new)
theorem Inv.write {x e:Addr}{o:HO}{t':Nat}(I:Inv X pins σ H s)(mu:Mut (H x))(he:e=x\/H e=some (.own x))(k:∀ b u,b≠e->s.heap.get? b=some u->h'.get? b=some u)(heo:∃ u,h'.get? e=some u)
  (new:ObjOk X.prog X.w (upd H x o) h' x o):Inv X pins σ (upd H x o) { s with heap:=h',toks:=t' }:=I.un (Un.write mu he k heo) (I.hok.write mu he k heo new)
theorem Inv.weak {σ':List (Option V)}(I:Inv X pins σ H s)(hl:σ'.length=σ.length)(w:∀ (i:Nat) v,σ'[i]? = some (some v)->σ[i]? = some (some v)):Inv X pins σ' H s :=
 ⟨I.ok,I.os,I.bare,I.base,let ⟨m,hn,hl'⟩:=I.loc;⟨m,hn,fun i x v e1 e2 e3=>hl' i x v e1 (w i v e2) e3⟩,I.cell,I.free,I.freeC,I.pin,I.hok,hl.trans I.len⟩
theorem Inv.pins_of {pins':List (Addr × Obj)}(I:Inv X pins σ H s)(h:∀ p∈pins',s.heap.get? p.1=some p.2/\H p.1=none/\p.1≠X.env.locals/\p.1 ∉ X.fs/\∀ v,p.2.data ≠ .cell v):Inv X pins' σ H s :=
 ⟨I.ok,I.os,I.bare,I.base,I.loc,I.cell,I.free,I.freeC,fun p hp=>(qkA.mp hp).elim (fun z=>I.pin p (List.mem_append_left _ z)) (h p),I.hok,I.len⟩
theorem Ko {N:List Str}(hN:N.Nodup){i j:Nat}{x:Str}(a:N[i]? = some x)(b:N[j]? = some x):i=j:=by
 obtain ⟨h1,e1⟩:=qtA.mp a;obtain ⟨h2,e2⟩:=qtA.mp b;exact (List.getElem_inj hN).mp (e1.trans e2.symm)
theorem Ir {M:Model}{A:Around}{E:Value->Shared->Prop}{i:Nat}{x:Str}{v:V}{u:Value}{Q:Unit->Shared->Prop}(I:Inv X pins σ H s)(hN:X.N.Nodup)(hi:X.N[i]? = some x)(hx:Loc X.env.scope x)(r:RelV v u)
  (h:∀ s',Inv X pins (σ.set i (some v)) H s'->(∃ a,Heap.SameBut a s.heap s'.heap/\(a=X.env.locals\/X.env.cells.lookup x=some a))->Q () s') (hf:X.fn x=true\/X.env.scope.names.lookup x=some .local := by first|exact .inl rfl|exact .inr rfl|assumption):wpAny M A (storeName X.env x u) Q E s:=by
 obtain ⟨m,hn,hl⟩:=id I.loc;have hcls:(X.env.scope.kind == .class || (X.env.scope.kind == .module && X.env.locals != X.env.globals))=false:=by rw [I.ok.kind];rfl
 have hiσ:i<σ.length:=by rw [I.len];exact (qtA.mp hi).1
 have cne:=I.cne
 have tracked:∀ {a:Addr}{h':Heap},(∃ o,s.heap.get? a=some o/\H a=none)->Heap.SameBut a s.heap h'->HOk X.prog X.w H h':=fun {a h'} ha hs b ob e=>by
  obtain ⟨_,_,hfree⟩:=ha;refine (I.hok b ob e).stay (fun c w' hc q=>(hs.2 c ?_).trans q) (fun _ q=>q) fun _ _ q=>q;rintro rfl;rcases hc with rfl|hc
  ·rw [hfree] at e;cases e
  ·rw [hfree] at hc;cases hc
 rcases hx with hk|hk
 ·refine wpAny_storeName_local hk hn (fun h' hn' hs=>?_) hcls;obtain ⟨oL,_,_,hoL,_⟩:=id hn;refine h _ ⟨I.ok,I.os,I.bare,⟨fun b o e n hb hx=>?_,fun b o e n hb hx=>?_,I.base.free,fun b o e hx=>?_,I.base.tups,I.base.frzs,I.base.tbls⟩,⟨_,hn',fun j y v' e1 e2 e3=>?_⟩,fun y c e=>?_,I.free,I.freeC,fun p hp=>?_,tracked ⟨oL,hoL,I.free⟩ hs,by simpa using I.len⟩ ⟨_,hs,.inl rfl⟩
  ·exact (hs.2 b (qrB (qtB (qeB e) I.ok.above))).trans (I.base.keep b o e n hb hx)
  ·obtain ⟨sl,e1⟩:=I.base.slot b o e n hb hx;exact ⟨sl,(hs.2 b (qrB (qtB (qeB e) I.ok.above))).trans e1⟩
  ·obtain ⟨o',e1⟩:=I.base.there b o e hx;exact ⟨o',(hs.2 b (qrB (qtB (qeB e) I.ok.above))).trans e1⟩
  ·by_cases hj:j=i
   ·subst hj;rw [hi] at e1;cases e1;rw [List.getElem?_set_self hiσ] at e2;cases e2;exact ⟨u,r,.inl ⟨hk,by simp⟩⟩
   ·rw [List.getElem?_set_ne (Ne.symm hj)] at e2;obtain ⟨u',r',q⟩:=hl j y v' e1 e2 e3;refine ⟨u',r',?_⟩;rcases q with ⟨k,e⟩ | ⟨k,c,e,z⟩
    ·refine .inl ⟨k,?_⟩;have:y≠x:=fun e=>hj (Ko hN e1 (e ▸ hi));simp [this,e]
    ·exact .inr ⟨k,c,e,z.sameBut hs (cne y c e)⟩
  ·obtain ⟨w',z⟩:=I.cell y c e;exact ⟨w',z.sameBut hs (cne y c e)⟩
  ·obtain ⟨e,n,ne,nf,d⟩:=I.pin p hp;exact ⟨(hs.2 p.1 ne).trans e,n,ne,nf,d⟩
 ·have hfn:X.fn x=true:=by
   rcases hf with z|z
   ·exact z
   ·rw [z] at hk;cases hk
  obtain ⟨c,hc⟩:=I.ok.has x (.inl hk);obtain ⟨w',z⟩:=I.cell x c hc;refine wpAny_storeName_cell I.ok.kind hk hc z (fun h' hc' hs=>?_);obtain ⟨oc,hoc,hocd⟩:=id z;refine h { s with heap:=h' } ⟨I.ok,I.os,I.bare,⟨fun b o e n hb hx=>?_,fun b o e n hb hx=>?_,I.base.free,fun b o e hx=>?_,I.base.tups,I.base.frzs,I.base.tbls⟩,⟨m,hn.sameBut hs (Ne.symm (cne x c hc)),fun j y v' e1 e2 e3=>?_⟩,fun y c' e=>?_,I.free,I.freeC,fun p hp=>?_,tracked ⟨oc,hoc,I.freeC x c hc⟩ hs,by simpa using I.len⟩ ⟨c,hs,.inr hc⟩
  ·exact (hs.2 b (qrB (qtB (qeB e) (I.ok.cab x c hfn hc)))).trans (I.base.keep b o e n hb hx)
  ·obtain ⟨sl,e1⟩:=I.base.slot b o e n hb hx;exact ⟨sl,(hs.2 b (qrB (qtB (qeB e) (I.ok.cab x c hfn hc)))).trans e1⟩
  ·obtain ⟨o',e1⟩:=I.base.there b o e hx;exact ⟨o',(hs.2 b (qrB (qtB (qeB e) (I.ok.cab x c hfn hc)))).trans e1⟩
  ·by_cases hj:j=i
   ·subst hj;rw [hi] at e1;cases e1;rw [List.getElem?_set_self hiσ] at e2;cases e2;exact ⟨u,r,.inr ⟨.inl hk,c,hc,hc'⟩⟩
   ·rw [List.getElem?_set_ne (Ne.symm hj)] at e2;obtain ⟨u',r',q⟩:=hl j y v' e1 e2 e3;refine ⟨u',r',?_⟩;rcases q with q | ⟨k,c',e,z'⟩
    ·exact .inl q
    ·refine .inr ⟨k,c',e,z'.sameBut hs ?_⟩;rintro rfl;exact hj (Ko hN e1 (I.ok.inj _ _ _ e hc ▸ hi))
  ·by_cases hcc:c'=c
   ·subst hcc;exact ⟨_,hc'⟩
   ·obtain ⟨w2,z2⟩:=I.cell y c' e;exact ⟨w2,z2.sameBut hs hcc⟩
  ·obtain ⟨e,n,ne,nf,d⟩:=I.pin p hp;refine ⟨(hs.2 p.1 ?_).trans e,n,ne,nf,d⟩;intro q;rw [q,hoc] at e;have q':oc=p.2:=qdB e;exact d w' (by rw [<- q'];exact hocd)
theorem IN {M:Model}{A:Around}{E:Value->Shared->Prop}{i:Nat}{x:Str}{v:V}{u:Value}{Q:Unit->Shared->Prop}(I:Inv X pins σ H s)(hN:X.N.Nodup)(hi:X.N[i]? = some x)(hx:Loc X.env.scope x)(r:RelV v u)
  (h:∀ s',Inv X pins (σ.set i (some v)) H s'->Q () s') (hf:X.fn x=true\/X.env.scope.names.lookup x=some .local := by first|exact .inl rfl|exact .inr rfl|assumption):wpAny M A (storeName X.env x u) Q E s :=
 Ir I hN hi hx r (fun s' I' _=>h s' I') hf
theorem Inv.call' {s':Shared}{ch:List Addr}(I:Inv X pins σ H s)(ho:s'.os=s.os)(u:Un (frs X.stack) ch H H' s.heap s'.heap)(hok:HOk X.prog X.w H' s'.heap)(hg:AllBare s'.gens)
  (hch:∀ b∈ch,(b∈X.ex\/X.s₀.heap.objs.size<=b)/\b≠X.env.locals/\(∀ x c,X.env.cells.lookup x=some c->c≠b)/\∀ p∈X.pn++pins,p.1≠b):Inv X pins σ H' s':=by
 obtain ⟨h',g',d',t',o'⟩:=s';have e:o'=s.os:=ho;subst e;exact I.call (g':=g') (t':=t') (d':=d') u hok hg hch
end
abbrev XK:=Value->Option Addr->Hp->Prop
abbrev St:=List (Option V)
abbrev VK:=V->Hp->Prop
abbrev TE:=St->Hp->VK->Prop
abbrev TT:=St->Hp->(Bool->Hp->Prop)->Prop
abbrev TA:=St->Hp->(List V->Hp->Prop)->Prop
structure Ends where
 nx:St->Hp->Prop
 rt:VK
 bk:St->Hp->Prop:=fun _ _=>False
 ct:St->Hp->Prop:=fun _ _=>False
abbrev TS:=Ends->St->Hp->Prop
def EP (X:Cx)(pins:List (Addr × Obj))(σ:St)(Q:VK)(u:Value)(s':Shared):Prop:=∃ v H',Inv X pins σ H' s'/\RelV v u/\Q v H'
def TP (X:Cx)(pins:List (Addr × Obj))(σ:St)(Q:Bool->Hp->Prop)(b:Bool)(s':Shared):Prop:=∃ H',Inv X pins σ H' s'/\Q b H'
def AP (X:Cx)(pins:List (Addr × Obj))(σ:St)(Q:List V->Hp->Prop)(us:List Value)(s':Shared):Prop:=∃ vs H',Inv X pins σ H' s'/\Vals vs us/\Q vs H'
def SP (X:Cx)(pins:List (Addr × Obj))(D:Ends)(f:Flow)(s':Shared):Prop :=
 match f with
 | .next=>∃ σ' H',Inv X pins σ' H' s'/\D.nx σ' H'
 | .brk=>∃ σ' H',Inv X pins σ' H' s'/\D.bk σ' H'
 | .cont=>∃ σ' H',Inv X pins σ' H' s'/\D.ct σ' H'
 | .ret u=>∃ v σ' H',Inv X pins σ' H' s'/\RelV v u/\D.rt v H'
def PE (X:Cx)(e:Expr)(t:TE):Prop :=
 ∀ (pins:List (Addr × Obj)) (s:Shared) (σ:St) (H:Hp) (Q:VK),Inv X pins σ H s->t σ H Q->wpAny (model X.prog X.w) X.A (eval e X.env) (EP X pins σ Q) X.xe s
def PT (X:Cx)(e:Expr)(t:TT):Prop :=
 ∀ (pins:List (Addr × Obj)) (s:Shared) (σ:St) (H:Hp) (Q:Bool->Hp->Prop),Inv X pins σ H s->t σ H Q->wpAny (model X.prog X.w) X.A (isTrue e X.env (eval e X.env)) (TP X pins σ Q) X.xe s
def PW (X:Cx)(e:Expr)(t:TT):Prop :=
 ∀ (whole:Sem Value) (pins:List (Addr × Obj)) (s:Shared) (σ:St) (H:Hp) (Q:Bool->Hp->Prop),Inv X pins σ H s->t σ H Q->wpAny (model X.prog X.w) X.A (isTrue e X.env whole) (TP X pins σ Q) X.xe s
theorem PW.pt {X:Cx}{e:Expr}{t:TT}(h:PW X e t):PT X e t:=h _
def PA (X:Cx)(es:List Expr)(t:TA):Prop :=
 ∀ (pos:Pos) (pins:List (Addr × Obj)) (s:Shared) (σ:St) (H:Hp) (Q:List V->Hp->Prop),Inv X pins σ H s->t σ H Q->wpAny (model X.prog X.w) X.A (spliced (backTo pos (starEach es X.env))) (AP X pins σ Q) X.xe s
def PS (X:Cx)(st:Stmt)(t:TS):Prop :=
 ∀ (pins:List (Addr × Obj)) (s:Shared) (σ:St) (H:Hp) (D:Ends),Inv X pins σ H s->t D σ H->wpAny (model X.prog X.w) X.A (exec st X.env) (SP X pins D) X.xe s
def PSs (X:Cx)(st:List Stmt)(t:TS):Prop :=
 ∀ (pins:List (Addr × Obj)) (s:Shared) (σ:St) (H:Hp) (D:Ends),Inv X pins σ H s->t D σ H->wpAny (model X.prog X.w) X.A (execs st X.env) (SP X pins D) X.xe s
theorem thn {α:Type}{t:Sem α}{Q Q':α->Shared->Prop}{M:Model}{A:Around}{E:Value->Shared->Prop}{s:Shared}(h:wpAny M A t Q E s)(hQ:∀ a s,Q a s->Q' a s):wpAny M A t Q' E s:=wpAny_mono h hQ fun _ _ x=>x
section
variable {X:Cx}
abbrev Gn (i:Nat):TE:=fun σ H Q=>∃ v,σ[i]? = some (some v)/\Q v H
abbrev tC (v:V):TE:=fun _ H Q=>Q v H
theorem pe_var {i:Nat}{x:Str}{pos:Pos}(hN:X.N[i]? = some x)(hv:Vis X.env.scope x)(hd:(x == ("__debug__" : Str))=false:=by decide)(hcd:(x == ("__classdict__" : Str))=false:=by decide):PE X (.Name x pos) (Gn i):=by
 intro pins s σ H Q I h;obtain ⟨v,e,h⟩:=h;obtain ⟨m,hn,hl⟩:=I.loc;obtain ⟨u,r,l⟩:=hl i x v hN e hv;have fin:EP X pins σ Q u s:=⟨v,H,I,r,h⟩;rcases l with ⟨hk,hm⟩ | ⟨hk,c,hc,hcell⟩
 ·exact wpAny_Name (wpAny_loadName_local I.ok.kind hk hn hm fin) hd
 ·rcases hk with hk|hk
  ·exact wpAny_Name (wpAny_loadName_cell I.ok.kind hk hc hcell fin) hd
  ·exact wpAny_Name (wpAny_loadName_free I.ok.kind hk hc hcell fin hcd) hd
theorem A9 {i j pos}:PE X (.Constant (.int i) j pos) (tC (.int i)):=fun _ _ _ H _ I h=>wpAny_Constant_int ⟨.int i,H,I.tok _,⟨_,rfl⟩,h⟩
theorem C2 {b j pos}:PE X (.Constant (.bool b) j pos) (tC (.bl b)):=fun _ _ _ H _ I h=>Constant_bool ⟨.bl b,H,I,rfl,h⟩
theorem EX {j pos}:PE X (.Constant .none j pos) (tC .non):=fun _ _ _ H _ I h=>Constant_none ⟨.non,H,I,rfl,h⟩
theorem BR {x j pos}:PE X (.Constant (.str x) j pos) (tC (.str x)):=fun _ _ _ H _ I h=>Calls.Constant_str ⟨.str x,H,I.tok _,⟨_,rfl⟩,h⟩
def Gl (X:Cx)(x:Str):Prop:=X.env.kindOf x=some .globalImplicit
theorem MI {E:Value->Shared->Prop}{pins:List (Addr × Obj)}{s:Shared}{σ:St}{H:Hp}{x:Str}{u:Value}{pos:Pos}{Q:Value->Shared->Prop}(I:Inv X pins σ H s)(hg:Gl X x)(hm:X.mg x=some u)(h:Q u s)
  (hd:(x == ("__debug__" : Str))=false:=by decide):wpAny (model X.prog X.w) X.A (eval (.Name x pos) X.env) Q E s :=
 Calls.Name_function_global I.ok.kind hg (Calls.loadGlobal_global (by rw [I.ok.glob];exact I.mod.glob.keeps I.bk) hm h) hd
theorem IG {E:Value->Shared->Prop}{pins:List (Addr × Obj)}{s:Shared}{σ:St}{H:Hp}{x:Str}{u:Value}{pos:Pos}{Q:Value->Shared->Prop}(I:Inv X pins σ H s)(hg:Gl X x)(hm:X.mg x=none)(hv:bootBuiltins x=some u)(h:Q u s)
  (hn:x ≠ "__name__" := by decide) (hd:(x == ("__debug__" : Str))=false:=by decide):wpAny (model X.prog X.w) X.A (eval (.Name x pos) X.env) Q E s:=by
 obtain ⟨mb,h1,h2⟩:=I.mod.blt;exact Calls.Name_function_global I.ok.kind hg (Calls.loadGlobal_builtin (by rw [I.ok.glob];exact I.mod.glob.keeps I.bk) hm (by rw [I.ok.blt];exact h1.keeps I.bk) ((h2 x hn).trans hv) h) hd
theorem pe_glob {x:Str}{v:V}{u:Value}{pos:Pos}(hg:Gl X x)(hm:X.mg x=some u)(r:RelV v u)(hd:(x == ("__debug__" : Str))=false:=by decide):PE X (.Name x pos) (tC v) :=
 fun _ _ _ H _ I h=>MI I hg hm ⟨v,H,I,r,h⟩ hd
theorem CI {x:Str}{v:V}{u:Value}{pos:Pos}(hg:Gl X x)(hm:X.mg x=none)(hv:bootBuiltins x=some u)(r:RelV v u)(hn:x ≠ "__name__" := by decide)(hd:(x == ("__debug__" : Str))=false:=by decide):PE X (.Name x pos) (tC v) :=
 fun _ _ _ H _ I h=>IG I hg hm hv ⟨v,H,I,r,h⟩ hn hd
variable {a b:Expr}{ta tb:TE}{pos:Pos}
variable {tA tB':TT}{rest:List Expr}
abbrev tAnd (t u:TT):TT:=fun σ H Q=>t σ H fun c H1=>if c=true then u σ H1 Q else Q false H1
abbrev tOr (t u:TT):TT:=fun σ H Q=>t σ H fun c H1=>if c=true then Q true H1 else u σ H1 Q
abbrev tNot (t:TT):TT:=fun σ H Q=>t σ H fun c H1=>Q (!c) H1
theorem Jo (ha:PT X a tA):PW X (.BoolOp .And [a] pos) tA:=by
 intro wh pins s σ H Q I h;refine isTrue_and (thn (ha pins s σ H Q I h) fun c s1 e=>?_)
 cases c with
 | true=>exact isTrue_and_nil e
 | false=>exact e
theorem Dg (ha:PT X a tA):PW X (.BoolOp .Or [a] pos) tA:=by
 intro wh pins s σ H Q I h;refine isTrue_or (thn (ha pins s σ H Q I h) fun c s1 e=>?_)
 cases c with
 | false=>exact isTrue_or_nil e
 | true=>exact e
theorem Jy (ha:PT X a tA)(hb:PW X (.BoolOp .And (b::rest) pos) tB'):PW X (.BoolOp .And (a::b::rest) pos) (tAnd tA tB'):=by
 intro wh pins s σ H Q I h;refine isTrue_and (thn (ha pins s σ H _ I h) fun c s1 ⟨H1,I1,q1⟩=>?_)
 cases c with
 | true=>exact hb wh pins s1 σ H1 Q I1 q1
 | false=>exact ⟨H1,I1,q1⟩
theorem E7 (ha:PT X a tA)(hb:PW X (.BoolOp .Or (b::rest) pos) tB'):PW X (.BoolOp .Or (a::b::rest) pos) (tOr tA tB'):=by
 intro wh pins s σ H Q I h;refine isTrue_or (thn (ha pins s σ H _ I h) fun c s1 ⟨H1,I1,q1⟩=>?_)
 cases c with
 | true=>exact ⟨H1,I1,q1⟩
 | false=>exact hb wh pins s1 σ H1 Q I1 q1
theorem D8 (ha:PT X a tA):PT X (.UnaryOp .Not a pos) (tNot tA):=by
 intro pins s σ H Q I h;exact isTrue_not (ha pins s σ H (fun c H1=>Q (!c) H1) I h)
abbrev tAndV (ta tb:TE):TE:=fun σ H Q=>ta σ H fun x H1=>∃ c,x = .bl c/\if c=true then tb σ H1 Q else Q (.bl false) H1
abbrev tOrV (ta tb:TE):TE:=fun σ H Q=>ta σ H fun x H1=>∃ c,x = .bl c/\if c=true then Q (.bl true) H1 else tb σ H1 Q
abbrev tNotV (ta:TE):TE:=fun σ H Q=>ta σ H fun x H1=>∃ c,x = .bl c/\Q (.bl (!c)) H1
theorem IJ {op}{t:TE}(h:PE X a t):PE X (.BoolOp op [a] pos) t:=fun pins s σ H Q I hw=>BoolOp_one (h pins s σ H Q I hw)
theorem HQ (ha:PE X a ta)(hb:PE X (.BoolOp .And (b::rest) pos) tb):PE X (.BoolOp .And (a::b::rest) pos) (tAndV ta tb):=by
 intro pins s σ H Q I h;refine BoolOp_and (thn (ha pins s σ H _ I h) fun v s1 ⟨x,H1,I1,r1,q1⟩=>?_);obtain ⟨c,rfl,q1⟩:=q1;cases r1;refine wpAny_truthy_bool ?_
 cases c with
 | true=>exact hb pins s1 σ H1 Q I1 q1
 | false=>exact ⟨.bl false,H1,I1,rfl,q1⟩
theorem pe_or (ha:PE X a ta)(hb:PE X (.BoolOp .Or (b::rest) pos) tb):PE X (.BoolOp .Or (a::b::rest) pos) (tOrV ta tb):=by
 intro pins s σ H Q I h;refine BoolOp_or (thn (ha pins s σ H _ I h) fun v s1 ⟨x,H1,I1,r1,q1⟩=>?_);obtain ⟨c,rfl,q1⟩:=q1;cases r1;refine wpAny_truthy_bool ?_
 cases c with
 | false=>exact hb pins s1 σ H1 Q I1 q1
 | true=>exact ⟨.bl true,H1,I1,rfl,q1⟩
theorem pe_not (ha:PE X a ta):PE X (.UnaryOp .Not a pos) (tNotV ta):=by
 intro pins s σ H Q I h;refine UnaryOp_ (thn (ha pins s σ H _ I h) fun v s1 ⟨x,H1,I1,r1,q1⟩=>?_);obtain ⟨c,rfl,q1⟩:=q1;cases r1;exact not_of (wpAny_truthy_bool ⟨.bl (!c),H1,I1,rfl,q1⟩)
def tIf (t:TT)(ta tb:TE):TE:=fun σ H Q=>t σ H fun c H1=>if c=true then ta σ H1 Q else tb σ H1 Q
theorem KZ {c:Expr}(hc:PT X c tA)(ha:PE X a ta)(hb:PE X b tb):PE X (.IfExp c a b pos) (tIf tA ta tb):=by
 intro pins s σ H Q I h;refine wpAny_IfExp (thn (hc pins s σ H _ I h) fun d s1 ⟨H1,I1,q1⟩=>?_)
 cases d with
 | true=>exact ha pins s1 σ H1 Q I1 q1
 | false=>exact hb pins s1 σ H1 Q I1 q1
end
def SqL (K:FZ9)(H:Hp)(a:Addr)(xs:List V):Prop :=
 Rd H a (.lst xs) \/
  ∃ (o:Obj) (its:Array Value) (n:Nat),K.lookup a=some o/\o.cls = .type "list" /\ o.dict=none/\o.data = .seq its n/\its.size<=sizeLine/\Vals xs its.toList
def SqT (K:FZ9)(H:Hp)(a:Addr)(xs:List V):Prop :=
 Rd H a (.tup xs) \/
  ∃ (o:Obj) (its:Array Value) (n:Nat),K.lookup a=some o/\o.cls = .type "tuple" /\ o.data = .seq its n/\its.size<=sizeLine/\Vals xs its.toList
def absV:Value->Option V
 | .none=>some .non
 | .bool b=>some (.bl b)
 | .int i _=>some (.int i)
 | .str x _=>some (.str x)
 | .bytes b _=>some (.byt b)
 | .float b _=>some (.flt b)
 | .ref a=>some (.ref a)
 | .type n=>some (.ty n)
 | _=>none
theorem RelV.abs {x:V}{u:Value}(r:RelV x u):absV u=some x:=by
 cases x with
 | non=>cases r;rfl
 | bl _=>cases r;rfl
 | int _=>obtain ⟨t,rfl⟩:=r;rfl
 | str _=>obtain ⟨t,rfl⟩:=r;rfl
 | byt _=>obtain ⟨t,rfl⟩:=r;rfl
 | flt _=>obtain ⟨t,rfl⟩:=r;rfl
 | ref _=>cases r;rfl
 | ty _=>cases r;rfl
theorem RelV.inj {x y:V}{u:Value}(r:RelV x u)(q:RelV y u):x=y:=qdB (r.abs.symm.trans q.abs)
theorem Vals.inj:∀ {xs ys:List V}{us:List Value},Vals xs us->Vals ys us->xs=ys
 | _,_,_,.nil,.nil=>rfl
 | _,_,_,.cons r t,.cons r' t'=>by rw [r.inj r',Vals.inj t t']
section
variable {X:Cx}{pins:List (Addr × Obj)}{σ:St}{H:Hp}{s:Shared}{a:Addr}{xs ys:List V}
theorem SqL.of {K:FZ9}(h:H a=some (.lst xs)):SqL K H a xs:=.inl (.inl h)
theorem SqT.of {K:FZ9}(h:H a=some (.tup xs)):SqT K H a xs:=.inl (.inl h)
theorem Inv.list (I:Inv X pins σ H s)(h:SqL X.K H a xs):∃ its:List Value,Vals xs its/\PlainL s.heap a its.toArray/\xs.length<=sizeLine:=by
 rcases h with h | ⟨o,its,n,hk,hc,hd,hs,hz,r⟩
 ·obtain ⟨z,its,n,r,e⟩:=h.ok I.hok;exact ⟨its,r,⟨_,n,e,rfl,rfl,rfl⟩,z⟩
 ·refine ⟨its.toList,r,⟨o,n,I.kIn a o hk,hc,hd,by simpa using hs⟩,?_⟩;have e:=r.length;simp only [qqB] at e;omega
theorem Inv.tuple (I:Inv X pins σ H s)(h:SqT X.K H a xs):∃ its:List Value,Vals xs its/\IsTup s.heap a its.toArray/\xs.length<=sizeLine:=by
 rcases h with h | ⟨o,its,n,hk,hc,hs,hz,r⟩
 ·obtain ⟨z,its,r,p⟩:=h.ok I.hok;exact ⟨its,r,p,z⟩
 ·refine ⟨its.toList,r,⟨o,I.kIn a o hk,hc,n,by simpa using hs⟩,?_⟩;have e:=r.length;simp only [qqB] at e;omega
theorem Inv.list_inj (I:Inv X pins σ H s)(h:SqL X.K H a xs)(h':SqL X.K H a ys):xs=ys:=by
 obtain ⟨its,r,⟨o,n,e,_,_,d⟩,_⟩:=I.list h;obtain ⟨its',r',⟨o',n',e',_,_,d'⟩,_⟩:=I.list h';rw [e] at e';cases e';rw [d] at d';injection d' with d1 _
 have:its=its':=by simpa using congrArg Array.toList d1
 subst this;exact r.inj r'
theorem Inv.tuple_inj (I:Inv X pins σ H s)(h:SqT X.K H a xs)(h':SqT X.K H a ys):xs=ys:=by
 obtain ⟨its,r,⟨o,e,_,n,d⟩,_⟩:=I.tuple h;obtain ⟨its',r',⟨o',e',_,n',d'⟩,_⟩:=I.tuple h';rw [e] at e';cases e';rw [d] at d';injection d' with d1 _
 have:its=its':=by simpa using congrArg Array.toList d1
 subst this;exact r.inj r'
end
abbrev Cx.wish (X:Cx)(E:Value->Shared->Prop):Cx:={ X with xe:=E }
abbrev Cx.nox (X:Cx):Cx:=X.wish fun _ _=>False
theorem Cx.Ok.wish {X:Cx}(ok:X.Ok)(E:Value->Shared->Prop):(X.wish E).Ok :=
 ⟨ok.mod,ok.kind,ok.glob,ok.blt,ok.above,ok.inj,ok.has,ok.cab,ok.hd,ok.frames,ok.stk,ok.exf,ok.bs,ok.bsz,ok.noex,ok.exfs,ok.funs,ok.frf⟩
theorem Cx.Ok.unwish {X:Cx}{E:Value->Shared->Prop}(ok:(X.wish E).Ok):X.Ok :=
 ⟨ok.mod,ok.kind,ok.glob,ok.blt,ok.above,ok.inj,ok.has,ok.cab,ok.hd,ok.frames,ok.stk,ok.exf,ok.bs,ok.bsz,ok.noex,ok.exfs,ok.funs,ok.frf⟩
section
variable {X:Cx}{pins:List (Addr × Obj)}{σ:St}{H:Hp}{s:Shared}{E:Value->Shared->Prop}
theorem Inv.wish (I:Inv X pins σ H s)(E:Value->Shared->Prop):Inv (X.wish E) pins σ H s:=⟨I.ok.wish E,I.os,I.bare,I.base,I.loc,I.cell,I.free,I.freeC,I.pin,I.hok,I.len⟩
theorem Inv.unwish (I:Inv (X.wish E) pins σ H s):Inv X pins σ H s:=⟨I.ok.unwish,I.os,I.bare,I.base,I.loc,I.cell,I.free,I.freeC,I.pin,I.hok,I.len⟩
theorem SP.unwish {D:Ends}{f:Flow}{s':Shared}(h:SP (X.wish E) pins D f s'):SP X pins D f s':=by
 cases f with
 | next=>obtain ⟨σ',H',I,q⟩:=h;exact ⟨σ',H',I.unwish,q⟩
 | brk=>obtain ⟨σ',H',I,q⟩:=h;exact ⟨σ',H',I.unwish,q⟩
 | cont=>obtain ⟨σ',H',I,q⟩:=h;exact ⟨σ',H',I.unwish,q⟩
 | ret u=>obtain ⟨v,σ',H',I,r,q⟩:=h;exact ⟨v,σ',H',I.unwish,r,q⟩
theorem PSs.nox {st:List Stmt}{t:TS}(h:PSs X.nox st t):PSs X st t:=fun pins s σ H D I hw =>
 wpAny_mono (h pins s σ H D (I.wish _) hw) (fun _ _ q=>q.unwish) fun _ _ z=>False.elim z
end
section
variable {X:Cx}{st:Stmt}{rest:List Stmt}{t u:TS}{e:Expr}{te:TE}{pos:Pos}
abbrev DN:TS:=fun D σ H=>D.nx σ H
abbrev El (t u:TS):TS:=fun D σ H=>t { D with nx:=u D } σ H
theorem AD:PSs X [] DN:=fun _ _ σ H _ I h=>wpAny_execs_nil ⟨σ,H,I,h⟩
theorem A7 (h1:PS X st t)(h2:PSs X rest u):PSs X (st::rest) (El t u):=by
 intro pins s σ H D I h;refine wpAny_execs_cons (thn (h1 pins s σ H { D with nx:=u D } I h) fun f s1 q=>?_)
 cases f with
 | next =>
  obtain ⟨σ',H',I',q⟩:=q;exact h2 pins s1 σ' H' D I' q
 | ret v=>exact q
 | brk=>exact q
 | cont=>exact q
theorem Inv.quiet {pins:List (Addr × Obj)}{σ:St}{H:Hp}{s:Shared}(I:Inv X pins σ H s):interactive X.env=false:=by simp [interactive,I.ok.kind]
abbrev MB (te:TE):TS:=fun D σ H=>te σ H fun _ H1=>D.nx σ H1
theorem DH (he:PE X e te)(hs:swapsWith e none pos.line X.env=pure false:=by rfl):PS X (.Expr e pos) (MB te):=by
 intro pins s σ H D I h;exact wpAny_Expr_any (thn (he pins s σ H _ I h) fun v s1 ⟨x,H1,I1,r1,q1⟩=>⟨σ,H1,I1,q1⟩) I.quiet hs
abbrev tRet (te:TE):TS:=fun D σ H=>te σ H D.rt
theorem Ad (he:PE X e te):PS X (.Return (some e) pos) (tRet te):=by
 intro pins s σ H D I h;exact wpAny_Return_some (thn (he pins s σ H _ I h) fun v s1 ⟨x,H1,I1,r1,q1⟩=>⟨x,σ,H1,I1,r1,q1⟩)
abbrev HM (c:TT)(t u:TS):TS:=fun D σ H=>c σ H fun b H1=>if b=true then t D σ H1 else u D σ H1
theorem Au {c:Expr}{a b:List Stmt}{tc:TT}(hc:PT X c tc)(ha:PSs X a t)(hb:PSs X b u):PS X (.If c a b pos) (HM tc t u):=by
 intro pins s σ H D I h;refine wpAny_If (thn (hc pins s σ H _ I h) fun d s1 ⟨H1,I1,q1⟩=>?_)
 cases d with
 | true=>exact ha pins s1 σ H1 D I1 q1
 | false=>exact hb pins s1 σ H1 D I1 q1
end
abbrev TG:=V->St->Hp->(St->Hp->Prop)->Prop
abbrev TGs:=List V->St->Hp->(St->Hp->Prop)->Prop
def PG (X:Cx)(target:Expr)(t:TG):Prop :=
 ∀ (pins:List (Addr × Obj)) (s:Shared) (σ:St) (H:Hp) (v:V) (u:Value) (Q:St->Hp->Prop),Inv X pins σ H s->RelV v u->t v σ H Q ->
  wpAny (model X.prog X.w) X.A (assign target X.env u) (fun _ s'=>∃ σ' H',Inv X pins σ' H' s'/\Q σ' H') X.xe s
def PGs (X:Cx)(ts:List Expr)(t:TGs):Prop :=
 ∀ (pins:List (Addr × Obj)) (s:Shared) (σ:St) (H:Hp) (vs:List V) (us:List Value) (Q:St->Hp->Prop),Inv X pins σ H s->Vals vs us->t vs σ H Q ->
  wpAny (model X.prog X.w) X.A (assignInOrder ((assignEach ts X.env).map (·.2)) us) (fun _ s'=>∃ σ' H',Inv X pins σ' H' s'/\Q σ' H') X.xe s
abbrev TSet:=V->V->V->Hp->(Hp->Prop)->Prop
def PSet (X:Cx)(t:TSet):Prop :=
 ∀ (pins:List (Addr × Obj)) (s:Shared) (σ:St) (H:Hp) (o i v:V) (ov iv u:Value) (Q:Hp->Prop),Inv X pins σ H s->RelV o ov->RelV i iv->RelV v u->t o i v H Q ->
  wpAny (model X.prog X.w) X.A (setItem ov iv u) (fun _ s'=>∃ H',Inv X pins σ H' s'/\Q H') X.xe s
section
variable {X:Cx}{pos:Pos}
abbrev DT (i:Nat):TG:=fun v σ H Q=>Q (σ.set i (some v)) H
theorem pg_name {i:Nat}{x:Str}(hN:X.N.Nodup)(hi:X.N[i]? = some x)(hx:Loc X.env.scope x)(hf:X.fn x=true\/X.env.scope.names.lookup x=some .local := by first|exact .inl rfl|exact .inr rfl|assumption):PG X (.Name x pos) (DT i):=by
 intro pins s σ H v u Q I r h;exact wpAny_assign_Name (IN I hN hi hx r (fun s' I'=>⟨_,H,I',h⟩) hf)
def gNil:TGs:=fun vs σ H Q=>vs=[]/\Q σ H
def KR (t:TG)(u:TGs):TGs:=fun vs σ H Q=>∃ v r,vs=v::r/\t v σ H fun σ' H'=>u r σ' H' Q
theorem MX:PGs X [] gNil:=by
 intro pins s σ H vs us Q I r h;obtain ⟨e,h⟩:=h;subst e;cases r;exact assignInOrder_nil ⟨σ,H,I,h⟩
theorem D2 {e:Expr}{es:List Expr}{t:TG}{u:TGs}(h1:PG X e t)(h2:PGs X es u)
  (hs:(assignEach (e::es) X.env).map (·.2)=assign e X.env::(assignEach es X.env).map (·.2):=by rfl):PGs X (e::es) (KR t u):=by
 intro pins s σ H vs us Q I r h;obtain ⟨v,vr,e1,h⟩:=h;subst e1
 cases r with
 | cons r rr =>
  rw [hs];refine assignInOrder_cons (thn (h1 pins s σ H _ _ _ I r h) fun _ s1 ⟨σ1,H1,I1,q1⟩=>?_);exact h2 pins s1 σ1 H1 _ _ Q I1 rr q1
def gTup (K:FZ9)(n:Nat)(t:TGs):TG:=fun v σ H Q=>∃ a xs,v = .ref a/\SqT K H a xs/\xs.length=n/\t xs σ H Q
theorem pg_tup {es:List Expr}{k:Nat}{t:TGs}{n:Nat}(hc:X.calm=true)(h:PGs X es t)
  (hn:(assignEach es X.env).length=n:=by rfl) (hst:(assignEach es X.env).findIdx? (·.1)=none:=by rfl):PG X (.Tuple es k pos) (gTup X.K n t):=by
 intro pins s σ H v u Q I r hw;obtain ⟨a,xs,e1,hq,hl,hw⟩:=hw;subst e1;cases r;obtain ⟨its,rv,ht,hz⟩:=I.tuple hq;refine assign_Tuple_tuple (I.ok.hd hc) ht (by simp [hn,<- hl,rv.length]) hst fun h' hx=>?_;have I1:Inv X pins σ H { s with heap:=h' }:=I.kept (t':=s.toks) fun b o e=>hx b o (qrB (qeB e)) e;exact h pins _ σ H xs _ Q I1 (by simpa using rv) hw
def gSub (to ti:TE)(t:TSet):TG:=fun v σ H Q=>to σ H fun o H1=>ti σ H1 fun i H2=>t o i v H2 fun H3=>Q σ H3
theorem GS {o i:Expr}{to ti:TE}{t:TSet}(ho:PE X o to)(hi:PE X i ti)(hs:PSet X t)
  (ha:∀ v,assign (.Subscript o i pos) X.env v=(do
   let ov <- holding [v] (eval o X.env)
   let iv <- holding [v,ov] (eval i X.env)
   standAt pos
   holding [v,ov,iv] (setItem ov iv v)
   release [v,ov,iv] []):=by intro _;rfl):PG X (.Subscript o i pos) (gSub to ti t):=by
 intro pins s σ H v u Q I r h;rw [ha];refine qbA (qdA (thn (ho pins s σ H _ I h) fun ov s1 ⟨x,H1,I1,r1,q1⟩=>?_));refine qbA (qdA (thn (hi pins s1 σ H1 _ I1 q1) fun iv s2 ⟨y,H2,I2,r2,q2⟩=>?_));refine qbA (wpAny_standAt (qbA (qdA (thn (hs pins s2 σ H2 x y v ov iv u _ I2 r1 r2 r q2) fun _ s3 ⟨H3,I3,q3⟩=>?_))));exact wpAny_release ⟨σ,H3,I3,q3⟩
abbrev HH (te:TE)(g:TG):TS:=fun D σ H=>te σ H fun x H1=>g x σ H1 D.nx
theorem Em {tg e:Expr}{te:TE}{g:TG}(he:PE X e te)(hg:PG X tg g)(hs:swapsWithSole [tg] e pos.line X.env=pure false:=by rfl)(hw:swappedStores [tg] e X.env=pure none:=by rfl)
  (h1:(assignEach [tg] X.env).map (·.2)=[assign tg X.env]:=by rfl):PS X (.Assign [tg] e pos) (HH te g):=by
 intro pins s σ H D I h;refine wpAny_Assign_stores (thn (he pins s σ H _ I h) fun v s1 ⟨x,H1,I1,r1,q1⟩=>?_) hs hw;rw [h1];exact thn (hg pins s1 σ H1 x v _ I1 r1 q1) fun _ s2 q=>q
theorem ps_set {i:Nat}{x:Str}{e:Expr}{te:TE}{pos':Pos}(hN:X.N.Nodup)(hi:X.N[i]? = some x)(hx:Loc X.env.scope x)(he:PE X e te)(hs:swapsWith e (some (.Name x pos')) pos.line X.env=pure false:=by rfl)(hf:X.fn x=true\/X.env.scope.names.lookup x=some .local := by first|exact .inl rfl|exact .inr rfl|assumption) :
  PS X (.Assign [.Name x pos'] e pos) (HH te (DT i)):=by
 intro pins s σ H D I h;refine wpAny_Assign_Name (thn (he pins s σ H _ I h) fun v s1 ⟨y,H1,I1,r1,q1⟩=>?_) hs;exact IN I1 hN hi hx r1 (fun s2 I2=>⟨_,H1,I2,q1⟩) hf
end
structure It where
 go:Nat->Hp->Prop
 yld:Nat->Hp->V->Hp->Prop
 stop:Nat->Hp->Prop
def Hq (X:Cx)(pins:List (Addr × Obj))(H:Hp)(b:Addr):Prop :=
 H b=none/\b≠X.env.locals/\b ∉ X.fs/\(b∈X.ex\/X.s₀.heap.objs.size<=b)/\(∀ x c,X.env.cells.lookup x=some c->c≠b)/\∀ p∈X.pn++pins,p.1≠b
theorem Inv.fpOk {X:Cx}{pins:List (Addr × Obj)}{σ:St}{H H':Hp}{s:Shared}{b:Addr}(I:Inv X pins σ H s)(hb:s.heap.objs.size<=b)(hn:H' b=none):Hq X pins H' b:=by
 refine ⟨hn,Nat.ne_of_gt (qtB I.lt hb),I.nofs hb,.inr (qaB I.sz hb),fun x c e z=>?_,fun p hp z=>?_⟩
 ·obtain ⟨v,q⟩:=I.cell x c e;exact absurd (qtB q.lt (by rw [z];exact hb)) (qbB _)
 ·exact absurd (qtB (qeB (I.pin p hp).1) (by rw [z];exact hb)) (qbB _)
structure Turn (P:Program)(w:World)(K:FZ9)(tg:Expr)(J:It)(fp:List Addr)(it:Addr)(tn:Nat->Heap->Prop):Prop where
 mem:it∈fp
 obj:∀ i h,tn i h->∀ b∈fp,∃ o,h.get? b=some o/\∀ v,o.data ≠ .cell v
 keep:∀ i h h',tn i h->(∀ b∈fp,∀ o,h.get? b=some o->h'.get? b=some o)->tn i h'
 item:∀ (X:Cx),X.prog=P->X.w=w->X.K=K->X.calm=true->∀ (i:Nat) (pins:List (Addr × Obj)) (s:Shared) (σ:St) (H:Hp) (E:Value->Shared->Prop),Inv X pins σ H s->(∀ b∈fp,Hq X pins H b)->tn i s.heap->J.go i H ->
  wpAny (model P w) X.A (pyNext (.ref it)) (fun r s1=>∃ u,r=some u /\
   wpAny (model P w) X.A (letOwnedTupleGo tg (.ref it) u) (fun _ s2=>∃ x H',Inv X pins σ H' s2/\RelV x u/\J.yld i H x H'/\tn (i+1) s2.heap/\∀ b∈fp,H' b=none) E s1) E s
 done:∀ (X:Cx),X.prog=P->X.w=w->X.K=K->X.calm=true->∀ (i:Nat) (pins:List (Addr × Obj)) (s:Shared) (σ:St) (H:Hp) (E:Value->Shared->Prop),Inv X pins σ H s->(∀ b∈fp,Hq X pins H b)->tn i s.heap->J.stop i H ->
  wpAny (model P w) X.A (pyNext (.ref it)) (fun r s1=>r=none/\Inv X pins σ H s1) E s
 self:∀ (A:Around) (i:Nat) (s:Shared) (Q:Value->Shared->Prop) (E:Value->Shared->Prop),tn i s.heap->Q (.ref it) s->wpAny (model P w) A (pyIter (.ref it)) Q E s
abbrev TI:=St->Hp->(It->Hp->Prop)->Prop
def PIE (X:Cx)(pins:List (Addr × Obj))(σ:St)(tg:Expr)(R:It->Hp->Prop)(itv:Value)(s2:Shared):Prop :=
 ∃ (it:Addr) (fp:List Addr) (tn:Nat->Heap->Prop) (J:It) (H':Hp),itv = .ref it/\Inv X pins σ H' s2/\Turn X.prog X.w X.K tg J fp it tn/\tn 0 s2.heap/\(∀ b∈fp,Hq X pins H' b)/\R J H'
def PI (X:Cx)(tg iter:Expr)(wi:TI):Prop :=
 ∀ (pins:List (Addr × Obj)) (s:Shared) (σ:St) (H:Hp) (R:It->Hp->Prop),Inv X pins σ H s->wi σ H R ->
  wpAny (model X.prog X.w) X.A (eval iter X.env) (fun v s1=>wpAny (model X.prog X.w) X.A (pyIter v) (PIE X pins σ tg R) X.xe s1) X.xe s
theorem Kz {M:Model}{A:Around}{E:Value->Shared->Prop}{s:Shared}{tg:Expr}{it:Addr}{u:Value}{o:Obj}{n:String}{vs:Array Value}{Q:Unit->Shared->Prop}(ho:s.heap.get? it=some o)(hc:o.cls = .type n)(hd:o.data = .fields vs)
  (hn:["enumerate","zip","dict_itemiterator","dict_reverseitemiterator","odict_iterator","itertools.zip_longest","itertools.pairwise"].contains n=false) (hQ:Q () s):wpAny M A (letOwnedTupleGo tg (.ref it) u) Q E s:=by
 unfold letOwnedTupleGo
 cases tg<;>first
  | exact qcA hQ
  | (cases u<;>first
    | exact qcA hQ
    | (refine qbA (wpAny_load ho ?_)
       rw [hc,hd];show wpAny M A (if (["enumerate","zip","dict_itemiterator","dict_reverseitemiterator","odict_iterator","itertools.zip_longest","itertools.pairwise"].contains n && vs[0]? == some (rawInt _))=true then _ else _) Q E s;rw [if_neg (by intro h;rw [hn,Bool.false_and] at h;cases h)]
       exact qcA hQ))
def Itl (K:FZ9)(a:Addr):It :=
 ⟨fun i H=>∃ xs x,SqL K H a xs/\xs[i]? = some x,fun i H x H'=>H'=H/\∀ xs,SqL K H a xs->xs[i]? = some x,fun i H=>∃ xs,SqL K H a xs/\xs.length<=i⟩
def Itt (K:FZ9)(a:Addr):It :=
 ⟨fun i H=>∃ xs x,SqT K H a xs/\xs[i]? = some x,fun i H x H'=>H'=H/\∀ xs,SqT K H a xs->xs[i]? = some x,fun i H=>∃ xs,SqT K H a xs/\xs.length<=i⟩
def Itr (lo:Int)(n:Nat):It:=⟨fun i _=>i<n,fun i H x H'=>H'=H/\x = .int (lo+i),fun i _=>n<=i⟩
theorem ND {P:Program}{w:World}{K:FZ9}{tg:Expr}(a it:Addr):Turn P w K tg (Itl K a) [it] it (fun i h=>h.IsListIter it a i) where
 mem:=by simp
 obj:=fun i h st b hb=>by
  have e:b=it:=by simpa using hb
  subst e;obtain ⟨o,e,c,d⟩:=st;exact ⟨o,e,fun v z=>by rw [d] at z;cases z⟩
 keep:=fun i h h' st k=>st.at fun o e=>k it (by simp) o e
 item:=by
  intro X hP hw hK hc i pins s σ H E I hf st hg;subst hP hw hK;obtain ⟨xs,x,hq,hx⟩:=hg;obtain ⟨its,rv,p,hz⟩:=I.list hq;obtain ⟨u,hu,ru⟩:=rv.get hx;obtain ⟨f0,f1,f2,f3,f4,f5⟩:=hf it (by simp);refine wpAny_pyNext_list_item st p.isList (x:=u) (by simpa using hu) fun h' st' sb=>?_;have I1:Inv X pins σ H { s with heap:=h' }:=I.turned (t':=s.toks) (fun b o hb e=>(sb.2 b hb).trans e) f0 f1 f3 f4 f5;obtain ⟨o,e,c,d⟩:=id st';exact ⟨u,rfl,Kz (s:={ s with heap:=h' }) e c d (by decide) ⟨x,H,I1,ru,⟨rfl,fun ys hy=>by rw [I.list_inj hy hq];exact hx⟩,st',fun b hb=>(hf b hb).1⟩⟩
 done:=by
  intro X hP hw hK hc i pins s σ H E I hf st hg;subst hP hw hK;obtain ⟨xs,hq,hx⟩:=hg;obtain ⟨its,rv,p,hz⟩:=I.list hq;obtain ⟨f0,f1,f2,f3,f4,f5⟩:=hf it (by simp);have hl:=rv.length;exact wpAny_pyNext_list_end (I.ok.hd hc) st p.isList (by simp;omega) fun h' eb=>⟨rfl,I.turned (t':=s.toks) (fun b o hb e=>eb b o hb e) f0 f1 f3 f4 f5⟩
 self:=fun _ _ _ _ _ st h=>wpAny_pyIter_listiter st h
theorem Lc {P:Program}{w:World}{K:FZ9}{tg:Expr}(a it:Addr):Turn P w K tg (Itt K a) [it] it (fun i h=>h.IsTupleIter it a i) where
 mem:=by simp
 obj:=fun i h st b hb=>by
  have e:b=it:=by simpa using hb
  subst e;obtain ⟨o,e,c,d⟩:=st;exact ⟨o,e,fun v z=>by rw [d] at z;cases z⟩
 keep:=fun i h h' st k=>st.at fun o e=>k it (by simp) o e
 item:=by
  intro X hP hw hK hc i pins s σ H E I hf st hg;subst hP hw hK;obtain ⟨xs,x,hq,hx⟩:=hg;obtain ⟨its,rv,p,hz⟩:=I.tuple hq;obtain ⟨u,hu,ru⟩:=rv.get hx;obtain ⟨f0,f1,f2,f3,f4,f5⟩:=hf it (by simp);refine wpAny_pyNext_tuple_item st (show s.heap.IsTuple a its.toArray from p) (x:=u) (by simpa using hu) fun h' st' sb=>?_;have I1:Inv X pins σ H { s with heap:=h' }:=I.turned (t':=s.toks) (fun b o hb e=>(sb.2 b hb).trans e) f0 f1 f3 f4 f5;obtain ⟨o,e,c,d⟩:=id st';exact ⟨u,rfl,Kz (s:={ s with heap:=h' }) e c d (by decide) ⟨x,H,I1,ru,⟨rfl,fun ys hy=>by rw [I.tuple_inj hy hq];exact hx⟩,st',fun b hb=>(hf b hb).1⟩⟩
 done:=by
  intro X hP hw hK hc i pins s σ H E I hf st hg;subst hP hw hK;obtain ⟨xs,hq,hx⟩:=hg;obtain ⟨its,rv,p,hz⟩:=I.tuple hq;obtain ⟨f0,f1,f2,f3,f4,f5⟩:=hf it (by simp);have hl:=rv.length;exact wpAny_pyNext_tuple_end (I.ok.hd hc) st (show s.heap.IsTuple a its.toArray from p) (by simp;omega) fun h' eb=>⟨rfl,I.turned (t':=s.toks) (fun b o hb e=>eb b o hb e) f0 f1 f3 f4 f5⟩
 self:=fun _ _ _ _ _ st h=>wpAny_pyIter_tupleiter st h
theorem Ld {P:Program}{w:World}{K:FZ9}{tg:Expr}(it:Addr)(lo:Int)(n:Nat):Turn P w K tg (Itr lo n) [it] it (fun i h=>IsRangeIter h it (lo+(i:Nat) * 1) ((n:Int) - (i:Nat)) 1) where
 mem:=by simp
 obj:=fun i h st b hb=>by
  have e:b=it:=by simpa using hb
  subst e
  exact ⟨_,st,fun v z=>by
   have z':Data.fields _=Data.cell v:=z
   cases z'⟩
 keep:=fun i h h' st k=>k it (by simp) _ st
 item:=by
  intro X hP hw hK hc i pins s σ H E I hf st hg;subst hP hw hK;obtain ⟨f0,f1,f2,f3,f4,f5⟩:=hf it (by simp);have W:=Walks.range (prog:=X.prog) (w:=X.w) (I.ok.hd hc) it lo 1 n;refine W.item i s _ _ hg st fun v h' tk hv st' kk=>?_;obtain ⟨t,rfl⟩:=hv;have I1:Inv X pins σ H { s with heap:=h',toks:=tk }:=I.turned (fun b o hb e=>kk b o (by simpa using hb) e) f0 f1 f3 f4 f5;refine ⟨_,rfl,Kz (s:={ s with heap:=h',toks:=tk }) (n := "range_iterator") st' rfl rfl (by decide) ⟨.int (lo+i),H,I1,⟨t,?_⟩,⟨rfl,rfl⟩,st',fun b hb=>(hf b hb).1⟩⟩;rw [Int.mul_one]
 done:=by
  intro X hP hw hK hc i pins s σ H E I hf st hg;subst hP hw hK;obtain ⟨f0,f1,f2,f3,f4,f5⟩:=hf it (by simp);exact wpAny_pyNext_range_end (I.ok.hd hc) st (by have:n<=i:=hg;omega) fun h' eb=>⟨rfl,I.turned (t':=s.toks) (fun b o hb e=>eb b o hb e) f0 f1 f3 f4 f5⟩
 self:=fun _ _ _ _ _ st h=>wpAny_pyIter_rangeiter st h
section
variable {X:Cx}{tg:Expr}
theorem range_it {pins:List (Addr × Obj)}{σ:St}{H:Hp}{s:Shared}{R:It->Hp->Prop}{E:Value->Shared->Prop}{lo hi:Int}{t u v:Tok}{tk:Nat}(I:Inv X pins σ H s)(h1:-(2 ^ 62)<=lo)(h2:lo<2 ^ 62)(h3:-(2 ^ 62)<=hi)(h4:hi<2 ^ 62)
  (q:R (Itr lo (hi - lo).toNat) H):wpAny (model X.prog X.w) X.A (pyIter (.ref s.heap.objs.size)) (PIE X pins σ tg R) E { s with heap:=s.heap.push { cls:=.type "range",data:=.fields #[.int lo t,.int hi u,.int 1 v] },toks:=tk }:=by
 refine wpAny_pyIter_range (IsRange.new ..) (small_one h1 h2 h3 h4) ?_;have I1:Inv X pins σ H { s with heap:=s.heap.push { cls:=.type "range",data:=.fields #[.int lo t,.int hi u,.int 1 v] },toks:=tk }:=I.kept fun b o e=>qfB _ e
 refine ⟨(s.heap.push { cls:=.type "range",data:=.fields #[.int lo t,.int hi u,.int 1 v] }).objs.size,[(s.heap.push { cls:=.type "range",data:=.fields #[.int lo t,.int hi u,.int 1 v] }).objs.size],_,_,H,rfl,
  I1.kept (t':=tk) fun b o e=>qfB _ e,Ld _ lo (hi - lo).toNat,?_,fun b hb=>?_,q⟩
 ·have e1:lo+((0:Nat):Int) * 1=lo:=by simp
  have e2:(((hi - lo).toNat:Nat):Int) - ((0:Nat):Int)=Builtin.Range.rangeSize lo hi 1:=by rw [rangeSize_one];split<;>omega
  show IsRangeIter _ _ (lo+((0:Nat):Int) * 1) ((((hi - lo).toNat:Nat):Int) - ((0:Nat):Int)) 1;rw [e1,e2];exact qgB _ rfl
 ·have e:b=(s.heap.push { cls:=.type "range",data:=.fields #[.int lo t,.int hi u,.int 1 v] }).objs.size:=by simpa using hb
  subst e;exact I1.fpOk (qzA _) (I1.hok.fresh (qzA _))
def iRng1 (ta:TA):TI:=fun σ H R=>ta σ H fun vs H1=>∃ j:Int,vs=[.int j]/\-(2 ^ 62)<=j/\j<2 ^ 62/\R (Itr 0 j.toNat) H1
theorem Cp {a:Expr}{ta:TA}{p pos:Pos}(hg:Gl X "range")(hm:X.mg "range" = none)(ha:PA X [a] ta)(hs:starEach [a] X.env=[(false,eval a X.env)]:=by rfl):PI X tg (.Call (.Name "range" p) [a] [] pos) (iRng1 ta):=by
 intro pins s σ H R I h;refine Call_ (IG I hg hm boot_range (PyProof.Rows.callWith_type1 (thn (ha pos pins s σ H _ I h) fun us s1 ⟨vs,H1,I1,r1,q1⟩=>?_) hs rfl));obtain ⟨j,e,q1,q2,q⟩:=q1;subst e
 cases r1 with
 | cons r rr =>
  cases rr;obtain ⟨t,rfl⟩:=r;exact call_range_1 (range_it I1 (by omega) (by omega) q1 q2 (by simpa using q))
def tFor (wi:TI)(g:TG)(tb:TS):TS:=fun D σ H=>wi σ H fun J H1=>∃ W:Nat->Nat->St->Hp->Prop,(∃ m,W 0 m σ H1)/\∀ i m σ H,W i m σ H ->
 (J.stop i H/\D.nx σ H)\/(J.go i H/\∃ N:St->Hp->Prop,(∀ σ' H',N σ' H'->∃ m',m'<m/\W (i+1) m' σ' H')/\∀ x H',J.yld i H x H'->g x σ H' fun σ2 H2=>tb { D with nx:=N,ct:=N,bk:=D.nx } σ2 H2)
def Hb (fp:List Addr)(h:Heap):List (Addr × Obj):=fp.filterMap fun b=>(h.get? b).map fun o=>(b,o)
theorem EQ {fp:List Addr}{h:Heap}{b:Addr}{o:Obj}(hb:b∈fp)(e:h.get? b=some o):(b,o)∈Hb fp h:=List.mem_filterMap.mpr ⟨b,hb,by rw [e];rfl⟩
theorem NG {fp:List Addr}{h:Heap}{p:Addr × Obj}(hp:p∈Hb fp h):p.1∈fp/\h.get? p.1=some p.2:=by
 obtain ⟨b,hb,e⟩:=List.mem_filterMap.mp hp
 cases q:h.get? b with
 | none=>rw [q] at e;cases e
 | some o =>
  rw [q] at e;have e':(b,o)=p:=qdB e;subst e';exact ⟨hb,q⟩
theorem Inv.pinned {pins:List (Addr × Obj)}{σ:St}{H:Hp}{s:Shared}{fp:List Addr}(I:Inv X pins σ H s)(hf:∀ b∈fp,Hq X pins H b)(ho:∀ b∈fp,∃ o,s.heap.get? b=some o/\∀ v,o.data ≠ .cell v):Inv X (pins++Hb fp s.heap) σ H s :=
 I.pins_of fun p hp=>(qkA.mp hp).elim (fun z=>I.pin p (quB _ z)) fun z=>by
  obtain ⟨hb,e⟩:=NG z;obtain ⟨f0,f1,f2,_⟩:=hf p.1 hb;obtain ⟨o,e',d⟩:=ho p.1 hb;rw [e] at e';cases e';exact ⟨e,f0,f1,f2,d⟩
theorem Inv.unpinned {pins pl:List (Addr × Obj)}{σ:St}{H:Hp}{s:Shared}(I:Inv X (pins++pl) σ H s):Inv X pins σ H s:=I.pins_of fun p hp=>I.pin p (quB _ (List.mem_append_left _ hp))
theorem Ji {iter:Expr}{body:List Stmt}{wi:TI}{g:TG}{tb:TS}{pos:Pos}(hp:PassesOwn (model X.prog X.w) X.A X.env X.xe)(hc:X.calm=true)(hi:PI X tg iter wi)(hg:PG X tg g)(hb:PSs X body tb)
  (hs:∀ x,foldedSetIterable iter X.env x=pure x:=by intro _;rfl):PS X (.For tg iter body [] pos) (tFor wi g tb):=by
 intro pins s σ H D I h;refine wpAny_For (thn (hi pins s σ H _ I h) fun v s1 h1=>thn h1 fun itv s2 h2=>?_) hs;obtain ⟨it,fp,tn,J,H2,e,I2,T,st2,f2,W,⟨m0,w0⟩,turn⟩:=h2;subst e;have stat:∀ {H':Hp},(∀ b∈fp,H' b=none)->∀ b∈fp,Hq X pins H' b:=fun hn b hb=>⟨hn b hb,(f2 b hb).2⟩;refine codeAny_forLoop_any (fun n s'=>∃ i σ' H',Inv X pins σ' H' s'/\tn i s'.heap/\(∀ b∈fp,H' b=none)/\W i n σ' H') ?_ m0 ⟨0,σ,H2,I2,st2,fun b hb=>(f2 b hb).1,w0⟩;rintro n s3 ⟨i,σ3,H3,I3,st3,fr3,w3⟩;rcases turn i n σ3 H3 w3 with ⟨stop,qn⟩ | ⟨go,N,hN,step⟩
 ·refine wpAny_passesOwn hp (thn (T.done X rfl rfl rfl hc i pins s3 σ3 H3 X.xe I3 (stat fr3) st3 stop) fun r s4 ⟨hr,I4⟩=>?_);subst hr;exact wpAny_execs_nil ⟨σ3,H3,I4,qn⟩
 ·refine wpAny_passesOwn hp (thn (T.item X rfl rfl rfl hc i pins s3 σ3 H3 X.xe I3 (stat fr3) st3 go) fun r s4 ⟨u,hr,h4⟩=>?_);subst hr;refine wpAny_passesOwn hp (thn h4 fun _ s5 ⟨x,H5,I5,r5,y5,st5,fr5⟩=>?_);have I5':=I5.pinned (stat fr5) (T.obj _ _ st5);refine wpAny_passesOwn hp (thn (hg _ s5 σ3 H5 x u _ I5' r5 (step x H5 y5)) fun _ s6 ⟨σ6,H6,I6,q6⟩=>?_);refine wpAny_passesOwn hp (thn (hb _ s6 σ6 H6 _ I6 q6) fun f s7 q7=>?_)
  have again:∀ {σ7:St}{H7:Hp},Inv X (pins++Hb fp s5.heap) σ7 H7 s7->N σ7 H7->∃ m,m<n/\∃ i σ' H',Inv X pins σ' H' s7/\tn i s7.heap/\(∀ b∈fp,H' b=none)/\W i m σ' H':=fun {σ7 H7} I7 n7=>by
   obtain ⟨m',hm,w7⟩:=hN σ7 H7 n7;refine ⟨m',hm,i+1,σ7,H7,I7.unpinned,T.keep _ _ _ st5 fun b hb o e=>(I7.pin (b,o) (quB _ (quB _ (EQ hb e)))).1,fun b hb=>?_,w7⟩;obtain ⟨o,e,d⟩:=T.obj _ _ st5 b hb;exact (I7.pin (b,o) (quB _ (quB _ (EQ hb e)))).2.1
  cases f with
  | next=>obtain ⟨σ7,H7,I7,n7⟩:=q7;exact again I7 n7
  | cont=>obtain ⟨σ7,H7,I7,n7⟩:=q7;exact again I7 n7
  | brk=>obtain ⟨σ7,H7,I7,q7⟩:=q7;exact ⟨σ7,H7,I7.unpinned,q7⟩
  | ret v=>obtain ⟨x7,σ7,H7,I7,r7,q7⟩:=q7;exact ⟨x7,σ7,H7,I7.unpinned,r7,q7⟩
end
abbrev R2:=V->V->Hp->VK->Prop
def OpR (X:Cx)(f:Value->Value->Sem Value)(r:R2):Prop :=
 ∀ (pins:List (Addr × Obj)) (s:Shared) (σ:St) (H:Hp) (x y:V) (v u:Value) (Q:VK),Inv X pins σ H s->RelV x v->RelV y u->r x y H Q ->
  wpAny (model X.prog X.w) X.A (f v u) (EP X pins σ Q) X.xe s
def UnR (X:Cx)(f:Value->Sem Value)(r:V->Hp->VK->Prop):Prop :=
 ∀ (pins:List (Addr × Obj)) (s:Shared) (σ:St) (H:Hp) (x:V) (v:Value) (Q:VK),Inv X pins σ H s->RelV x v->r x H Q ->
  wpAny (model X.prog X.w) X.A (f v) (EP X pins σ Q) X.xe s
def CW (X:Cx)(f:Value)(r:List V->Hp->VK->Prop):Prop :=
 ∀ (pins:List (Addr × Obj)) (s:Shared) (σ:St) (H:Hp) (xs:List V) (us:List Value) (Q:VK),Inv X pins σ H s->Vals xs us->r xs H Q ->
  wpAny (model X.prog X.w) X.A (call f us) (EP X pins σ Q) X.xe s
def TruR (X:Cx)(r:V->Hp->(Bool->Hp->Prop)->Prop):Prop :=
 ∀ (pins:List (Addr × Obj)) (s:Shared) (σ:St) (H:Hp) (x:V) (v:Value) (Q:Bool->Hp->Prop),Inv X pins σ H s->RelV x v->r x H Q ->
  wpAny (model X.prog X.w) X.A (truthy v) (TP X pins σ Q) X.xe s
abbrev tOp (r:R2)(ta tb:TE):TE:=fun σ H Q=>ta σ H fun x H1=>tb σ H1 fun y H2=>r x y H2 Q
abbrev tUn (r:V->Hp->VK->Prop)(ta:TE):TE:=fun σ H Q=>ta σ H fun x H1=>r x H1 Q
def rI (C:Int->Int->Prop)(g:Int->Int->V):R2:=fun x y H Q=>∃ i j,x = .int i/\y = .int j/\C i j/\Q (g i j) H
def rI0 (g:Int->Int->V):R2:=fun x y H Q=>∃ i j,x = .int i/\y = .int j/\Q (g i j) H
def rU (g:Int->V):V->Hp->VK->Prop:=fun x H Q=>∃ i,x = .int i/\Q (g i) H
section
variable {X:Cx}{a b c:Expr}{ta tb tc:TE}{pos:Pos}
theorem binT (ha:PE X a ta)(hb:PE X b tb){pins:List (Addr × Obj)}{s:Shared}{σ:St}{H:Hp}{R:V->V->Hp->Prop}(I:Inv X pins σ H s)
  (h:ta σ H fun x H1=>tb σ H1 fun y H2=>R x y H2) {Q:Value->Shared->Prop}{f:Value->Value->Sem Value}
  (hf:∀ v u s2 x y H2,Inv X pins σ H2 s2->RelV x v->RelV y u->R x y H2->wpAny (model X.prog X.w) X.A (f v u) Q X.xe s2) :
  wpAny (model X.prog X.w) X.A (eval a X.env) (fun v s₁=>wpAny (model X.prog X.w) X.A (eval b X.env) (fun u s₂=>wpAny (model X.prog X.w) X.A (f v u) Q X.xe s₂) X.xe s₁) X.xe s:=by
 refine thn (ha pins s σ H _ I h) fun v s1 ⟨x,H1,I1,r1,q1⟩=>?_;refine thn (hb pins s1 σ H1 _ I1 q1) fun u s2 ⟨y,H2,I2,r2,q2⟩=>?_;exact hf v u s2 x y H2 I2 r1 r2 q2
theorem AS {op:Operator}{r:R2}(ho:OpR X (binaryOp op) r)(ha:PE X a ta)(hb:PE X b tb):PE X (.BinOp a op b pos) (tOp r ta tb):=by
 intro pins s σ H Q I h;exact wpAny_BinOp (binT ha hb I h fun v u s2 x y H2 I2 rx ry q=>ho pins s2 σ H2 x y v u Q I2 rx ry q)
theorem IA {op:UnaryOp}{r:V->Hp->VK->Prop}(ho:UnR X (unaryOp op) r)(ha:PE X a ta):PE X (.UnaryOp op a pos) (tUn r ta):=by
 intro pins s σ H Q I h;exact UnaryOp_ (thn (ha pins s σ H _ I h) fun v s1 ⟨x,H1,I1,r1,q1⟩=>ho pins s1 σ H1 x v Q I1 r1 q1)
theorem opI {f:Value->Value->Sem Value}{C:Int->Int->Prop}{g:Int->Int->Int}
  (rule:∀ (i j:Int) (t u:Tok) (s:Shared) (Q:Value->Shared->Prop) (E:Value->Shared->Prop),C i j->Q (.int (g i j) s.toks) { s with toks:=s.toks+1 }->wpAny (model X.prog X.w) X.A (f (.int i t) (.int j u)) Q E s) :
  OpR X f (rI C fun i j=>.int (g i j)):=by
 intro pins s σ H x y v u Q I rx ry h;obtain ⟨i,j,rfl,rfl,hc,q⟩:=h;obtain ⟨t,rfl⟩:=rx;obtain ⟨t',rfl⟩:=ry;exact rule i j t t' s _ _ hc ⟨.int (g i j),H,I.tok _,⟨_,rfl⟩,q⟩
theorem opI0 {f:Value->Value->Sem Value}{g:Int->Int->Int}
  (rule:∀ (i j:Int) (t u:Tok) (s:Shared) (Q:Value->Shared->Prop) (E:Value->Shared->Prop),Q (.int (g i j) s.toks) { s with toks:=s.toks+1 }->wpAny (model X.prog X.w) X.A (f (.int i t) (.int j u)) Q E s) :
  OpR X f (rI0 fun i j=>.int (g i j)):=by
 intro pins s σ H x y v u Q I rx ry h;obtain ⟨i,j,rfl,rfl,q⟩:=h;obtain ⟨t,rfl⟩:=rx;obtain ⟨t',rfl⟩:=ry;exact rule i j t t' s _ _ ⟨.int (g i j),H,I.tok _,⟨_,rfl⟩,q⟩
theorem opB0 {f:Value->Value->Sem Value}{g:Int->Int->Bool}
  (rule:∀ (i j:Int) (t u:Tok) (s:Shared) (Q:Value->Shared->Prop) (E:Value->Shared->Prop),Q (.bool (g i j)) s->wpAny (model X.prog X.w) X.A (f (.int i t) (.int j u)) Q E s) :
  OpR X f (rI0 fun i j=>.bl (g i j)):=by
 intro pins s σ H x y v u Q I rx ry h;obtain ⟨i,j,rfl,rfl,q⟩:=h;obtain ⟨t,rfl⟩:=rx;obtain ⟨t',rfl⟩:=ry;exact rule i j t t' s _ _ ⟨.bl (g i j),H,I,rfl,q⟩
def LY (i j:Int):Prop:=0<j/\j<1073741824
def CPow (i j:Int):Prop:=0<=j/\j<=1000000/\i.natAbs<2 ^ 64
def CMul (i j:Int):Prop:=(-(2 ^ 64)<i/\i<2 ^ 64)\/(-(2 ^ 64)<j/\j<2 ^ 64)
theorem CMul.ok {i j:Int}(h:CMul i j):IntMulOk i j:=by
 rcases h with ⟨h1,h2⟩ | ⟨h1,h2⟩
 ·exact .of_left (intBits_le_64 h1 h2)
 ·exact .of_right (intBits_le_64 h1 h2)
theorem op_add:OpR X (binaryOp .Add) (rI0 fun i j=>.int (i+j)):=opI0 fun _ _ _ _ _ _ _ q=>add_int q
theorem op_sub:OpR X (binaryOp .Sub) (rI0 fun i j=>.int (i - j)):=opI0 fun _ _ _ _ _ _ _ q=>sub_int q
theorem op_mul:OpR X (binaryOp .Mult) (rI CMul fun i j=>.int (i * j)):=opI fun _ _ _ _ _ _ _ hc q=>mul_int q hc.ok
theorem B8:OpR X (binaryOp .FloorDiv) (rI LY fun i j=>.int (i / j)):=opI fun i j _ _ _ _ _ hc q=>by
 have h1:(0:Int)<j:=hc.1;have h2:j<1073741824:=hc.2;exact floordiv_int (by omega) (by rw [Int.fdiv_eq_ediv_of_nonneg i (by omega)];exact q) (.inl (PyProof.noPylong_small (by omega)))
theorem Ai:OpR X (binaryOp .Mod) (rI (fun _ j=>0<j) fun i j=>.int (i % j)):=opI fun i j _ _ _ _ _ hc q=>by
 have h1:(0:Int)<j:=hc;exact mod_int' (by omega) (by rw [Int.fmod_eq_emod_of_nonneg i (by omega)];exact q)
theorem Lw:OpR X (binaryOp .Pow) (rI CPow fun i j=>.int (i ^ j.toNat)):=opI fun _ _ _ _ _ _ _ hc q=>pow_int_small hc.1 hc.2.1 hc.2.2 q
theorem unI {f:Value->Sem Value}{g:Int->Int}
  (rule:∀ (i:Int) (t:Tok) (s:Shared) (Q:Value->Shared->Prop) (E:Value->Shared->Prop),Q (.int (g i) s.toks) { s with toks:=s.toks+1 }->wpAny (model X.prog X.w) X.A (f (.int i t)) Q E s) :
  UnR X f (rU fun i=>.int (g i)):=by
 intro pins s σ H x v Q I rx h;obtain ⟨i,rfl,q⟩:=h;obtain ⟨t,rfl⟩:=rx;exact rule i t s _ _ ⟨.int (g i),H,I.tok _,⟨_,rfl⟩,q⟩
theorem FU:UnR X (unaryOp .USub) (rU fun i=>.int (-i)):=unI fun _ _ _ _ _ q=>neg_int q
end
def scal:V->V->Bool
 | .non,.non=>true | .non,.int _=>true | .int _,.non=>true | .non,.bl _=>true | .bl _,.non=>true | .non,.str _=>true | .str _,.non=>true
 | .int _,.int _=>true | .bl _,.bl _=>true | .str _,.str _=>true | .byt _,.byt _=>true
 | .int _,.str _=>true | .str _,.int _=>true | .bl _,.str _=>true | .str _,.bl _=>true
 | _,_=>false
def rEq:R2:=fun x y H Q=>scal x y=true/\Q (.bl (decide (x=y))) H
def rNe:R2:=fun x y H Q=>scal x y=true/\Q (.bl (!decide (x=y))) H
theorem Me {i j:Int}:decide (V.int i=V.int j)=(i == j):=by
 rw [Bool.eq_iff_iff];simp
theorem dec_bl {i j:Bool}:decide (V.bl i=V.bl j)=(i == j):=by
 rw [Bool.eq_iff_iff];simp
theorem MH {i j:Str}:decide (V.str i=V.str j)=(i == j):=by
 rw [Bool.eq_iff_iff];simp
theorem Mb {i j:Array UInt8}:decide (V.byt i=V.byt j)=(i.toList == j.toList):=by
 rw [Bool.eq_iff_iff];cases i;cases j;simp
section
variable {X:Cx}{a b c:Expr}{ta tb tc:TE}{pos:Pos}
theorem BC {pins:List (Addr × Obj)}{σ:St}{H:Hp}{s:Shared}{Q:VK}{k k':Bool}(I:Inv X pins σ H s)(q:Q (.bl k) H)(e:k=k'):EP X pins σ Q (.bool k') s:=by
 subst e;exact ⟨.bl k,H,I,rfl,q⟩
theorem BX:OpR X (compareOp .Eq) rEq:=by
 intro pins s σ H x y v u Q I rx ry h;obtain ⟨hs,q⟩:=h
 cases x with
 | non =>
  cases rx
  cases y with
  | non=>cases ry;exact PySem.EqNone.eq_none_none (BC I q (by simp))
  | bl j=>cases ry;exact PySem.EqNone.eq_none_bool (BC I q (by simp))
  | int j=>obtain ⟨t',rfl⟩:=ry;exact PySem.EqNone.eq_none_int (BC I q (by simp))
  | str j=>obtain ⟨t',rfl⟩:=ry;exact PySem.EqNone.eq_none_str (BC I q (by simp))
  | _=>exact absurd (show false=true from hs) qnB
 | bl i =>
  cases rx
  cases y with
  | non=>cases ry;exact PySem.EqNone.eq_bool_none (BC I q (by simp))
  | bl j=>cases ry;exact eq_bool (BC I q dec_bl)
  | str j=>obtain ⟨t',rfl⟩:=ry;exact PySem.EqMixed.eq_bool_str (BC I q (by simp))
  | _=>exact absurd (show false=true from hs) qnB
 | int i =>
  obtain ⟨t,rfl⟩:=rx
  cases y with
  | non=>cases ry;exact PySem.EqNone.eq_int_none (BC I q (by simp))
  | int j=>obtain ⟨t',rfl⟩:=ry;exact eq_int (BC I q Me)
  | str j=>obtain ⟨t',rfl⟩:=ry;exact PySem.EqMixed.eq_int_str (BC I q (by simp))
  | _=>exact absurd (show false=true from hs) qnB
 | str i =>
  obtain ⟨t,rfl⟩:=rx
  cases y with
  | non=>cases ry;exact PySem.EqNone.eq_str_none (BC I q (by simp))
  | bl j=>cases ry;exact PySem.EqMixed.eq_str_bool (BC I q (by simp))
  | int j=>obtain ⟨t',rfl⟩:=ry;exact PySem.EqMixed.eq_str_int (BC I q (by simp))
  | str j=>obtain ⟨t',rfl⟩:=ry;exact eq_str (BC I q MH)
  | _=>exact absurd (show false=true from hs) qnB
 | byt i =>
  obtain ⟨t,rfl⟩:=rx
  cases y with
  | byt j=>obtain ⟨t',rfl⟩:=ry;exact PySem.W.eq_bytes (BC I q Mb)
  | _=>exact absurd (show false=true from hs) qnB
 | _=>cases y<;>exact absurd (show false=true from hs) qnB
theorem Lz:OpR X (compareOp .NotEq) rNe:=by
 intro pins s σ H x y v u Q I rx ry h;obtain ⟨hs,q⟩:=h
 cases x with
 | non =>
  cases rx
  cases y with
  | non=>cases ry;exact PySem.EqNone.ne_none_none (BC I q (by simp))
  | bl j=>cases ry;exact PySem.EqNone.ne_none_bool (BC I q (by simp))
  | int j=>obtain ⟨t',rfl⟩:=ry;exact PySem.EqNone.ne_none_int (BC I q (by simp))
  | str j=>obtain ⟨t',rfl⟩:=ry;exact PySem.EqNone.ne_none_str (BC I q (by simp))
  | _=>exact absurd (show false=true from hs) qnB
 | bl i =>
  cases rx
  cases y with
  | non=>cases ry;exact PySem.EqNone.ne_bool_none (BC I q (by simp))
  | bl j=>cases ry;exact ne_bool (BC I q (congrArg not dec_bl))
  | str j=>obtain ⟨t',rfl⟩:=ry;exact PySem.EqMixed.ne_bool_str (BC I q (by simp))
  | _=>exact absurd (show false=true from hs) qnB
 | int i =>
  obtain ⟨t,rfl⟩:=rx
  cases y with
  | non=>cases ry;exact PySem.EqNone.ne_int_none (BC I q (by simp))
  | int j=>obtain ⟨t',rfl⟩:=ry;exact ne_int (BC I q (congrArg not Me))
  | str j=>obtain ⟨t',rfl⟩:=ry;exact PySem.EqMixed.ne_int_str (BC I q (by simp))
  | _=>exact absurd (show false=true from hs) qnB
 | str i =>
  obtain ⟨t,rfl⟩:=rx
  cases y with
  | non=>cases ry;exact PySem.EqNone.ne_str_none (BC I q (by simp))
  | bl j=>cases ry;exact PySem.EqMixed.ne_str_bool (BC I q (by simp))
  | int j=>obtain ⟨t',rfl⟩:=ry;exact PySem.EqMixed.ne_str_int (BC I q (by simp))
  | str j=>obtain ⟨t',rfl⟩:=ry;exact ne_str (BC I q (congrArg not MH))
  | _=>exact absurd (show false=true from hs) qnB
 | byt i =>
  obtain ⟨t,rfl⟩:=rx
  cases y with
  | byt j=>obtain ⟨t',rfl⟩:=ry;exact PySem.W.ne_bytes (BC I q (congrArg not Mb))
  | _=>exact absurd (show false=true from hs) qnB
 | _=>cases y<;>exact absurd (show false=true from hs) qnB
theorem op_lt:OpR X (compareOp .Lt) (rI0 fun i j=>.bl (decide (i<j))):=opB0 fun _ _ _ _ _ _ _ q=>lt_int q
theorem op_le:OpR X (compareOp .LtE) (rI0 fun i j=>.bl (decide (i<=j))):=opB0 fun _ _ _ _ _ _ _ q=>le_int q
theorem op_gt:OpR X (compareOp .Gt) (rI0 fun i j=>.bl (decide (j<i))):=opB0 fun _ _ _ _ _ _ _ q=>gt_int q
theorem AX (b:Expr){op:CmpOp}(h:op ≠ .In:=by decide)(h2:op ≠ .NotIn:=by decide):behindInMarks op b=false:=by
 have e1:(op == CmpOp.In)=false:=by cases op<;>first|rfl|exact absurd rfl h
 have e2:(op == CmpOp.NotIn)=false:=by cases op<;>first|rfl|exact absurd rfl h2
 cases b<;>simp [behindInMarks,e1,e2]
theorem Dd {op:CmpOp}{r:R2}(ho:OpR X (compareOp op) r)(ha:PE X a ta)(hb:PE X b tb)(hm:behindInMarks op b=false):PE X (.Compare a [op] [b] pos) (tOp r ta tb):=by
 intro pins s σ H Q I h;exact wpAny_Compare1 (binT ha hb I h fun v u s2 x y H2 I2 rx ry q=>ho pins s2 σ H2 x y v u Q I2 rx ry q) hm
abbrev tTest (t:TE):TT:=fun σ H Q=>t σ H fun x H'=>∃ k,x = .bl k/\Q k H'
theorem AU {op:CmpOp}{r:R2}(ho:OpR X (compareOp op) r)(ha:PE X a ta)(hb:PE X b tb)(hm:behindInMarks op b=false):PT X (.Compare a [op] [b] pos) (tTest (tOp r ta tb)):=by
 intro pins s σ H Q I h
 refine wpAny_isTrue_Compare1 (thn (ha pins s σ H _ I h) fun v s1 ⟨x,H1,I1,r1,q1⟩=>thn (hb pins s1 σ H1 _ I1 q1) fun u s2 ⟨y,H2,I2,r2,q2⟩ =>
  thn (ho pins s2 σ H2 x y v u _ I2 r1 r2 q2) fun c s3 ⟨z,H3,I3,r3,k,e,q3⟩=>?_) hm
 subst e;cases r3;exact wpAny_truthy_bool ⟨H3,I3,q3⟩
def tChain (r r':R2)(ta tb tc:TE):TE:=fun σ H Q=>ta σ H fun x H1=>tb σ H1 fun y H2=>r x y H2 fun z H3=>∃ k,z = .bl k /\
 (if k=true then tc σ H3 fun w' H4=>r' y w' H4 Q else Q (.bl false) H3)
theorem pe_chain {op op':CmpOp}{r r':R2}(ho:OpR X (compareOp op) r)(ho':OpR X (compareOp op') r')(ha:PE X a ta)(hb:PE X b tb)(hc:PE X c tc)
  (hm:lastMarks [op,op'] [b,c]=false:=by with_unfolding_all rfl):PE X (.Compare a [op,op'] [b,c] pos) (tChain r r' ta tb tc):=by
 intro pins s σ H Q I h
 refine Compare_chain (thn (ha pins s σ H _ I h) fun v s1 ⟨x,H1,I1,r1,q1⟩=>chain_link (thn (hb pins s1 σ H1 _ I1 q1) fun u s2 ⟨y,H2,I2,r2,q2⟩ =>
  thn (ho pins s2 σ H2 x y v u _ I2 r1 r2 q2) fun d s3 ⟨z,H3,I3,r3,k,e,q3⟩=>?_)) hm
 subst e;cases r3;refine wpAny_truthy_bool ?_
 cases k with
 | false=>exact ite_ff ⟨.bl false,H3,I3,rfl,q3⟩
 | true=>exact ite_tt (chain_last (thn (hc pins s3 σ H3 _ I3 q3) fun w' s4 ⟨z',H4,I4,r4,q4⟩=>ho' pins s4 σ H4 y z' u w' Q I4 r2 r4 q4))
def TruV (K:FZ9)(x:V)(H:Hp)(k:Bool):Prop :=
 match x with
 | .non=>k=false
 | .bl b=>k=b
 | .int i=>k=(i != 0)
 | .str y=>y.length<=sizeLine/\k=((y.length:Int) != 0)
 | .byt y=>y.size<=sizeLine/\k=((y.size:Int) != 0)
 | .ref p=>(∃ xs,SqL K H p xs/\k = !xs.isEmpty)\/(∃ xs,SqT K H p xs/\k = !xs.isEmpty)\/∃ kvs,H p=some (.dK kvs)/\k = !kvs.isEmpty
 | _=>False
theorem Lo {κ:Type}{kvs:List (κ × V)}{vs:List (κ × Value)}(r:KV kvs vs):(!vs.isEmpty) = !kvs.isEmpty:=by
 cases r<;>rfl
theorem II {xs:List V}{its:List Value}(r:Vals xs its):(!its.toArray.isEmpty) = !xs.isEmpty:=by
 cases r<;>simp
theorem FG:(sizeLine:Nat)<2 ^ 63:=by rw [qhB];decide
theorem tru_ok:TruR X (fun x H Q=>∃ k,TruV X.K x H k/\Q k H):=by
 intro pins s σ H x v Q I rx h;obtain ⟨k,e,q⟩:=h;have hl:=FG;have hs:sizeLine=16777216:=qhB
 cases x with
 | non =>
  cases rx;have e':k=false:=e;subst e';exact truthy_none ⟨H,I,q⟩
 | bl b =>
  cases rx;have e':k=b:=e;subst e';exact wpAny_truthy_bool ⟨H,I,q⟩
 | int i =>
  obtain ⟨t,rfl⟩:=rx;have e':k=(i != 0):=e;subst e';exact PySem.P.truthy_int ⟨H,I,q⟩
 | str y =>
  obtain ⟨t,rfl⟩:=rx;obtain ⟨hy,e'⟩:y.length<=sizeLine/\k=((y.length:Int) != 0):=e;subst e';exact PySem.P.truthy_str (by omega) ⟨H,I.tok _,q⟩
 | byt y =>
  obtain ⟨t,rfl⟩:=rx;obtain ⟨hy,e'⟩:y.size<=sizeLine/\k=((y.size:Int) != 0):=e;subst e';exact PySem.W.truthy_bytes (by omega) ⟨H,I.tok _,q⟩
 | ref p =>
  cases rx;have e':(∃ xs,SqL X.K H p xs/\k = !xs.isEmpty)\/(∃ xs,SqT X.K H p xs/\k = !xs.isEmpty)\/∃ kvs,H p=some (.dK kvs)/\k = !kvs.isEmpty:=e;rcases e' with ⟨xs,hx,e'⟩ | ⟨xs,hx,e'⟩ | ⟨kvs,hx,e'⟩
  ·subst e';obtain ⟨its,r,pl,hz⟩:=I.list hx;have hlen:=r.length;exact wpAny_truthy_list pl.isList (by simp only [qoB];omega) ⟨H,I.tok _,by rw [II r];exact q⟩
  ·subst e';obtain ⟨its,r,pl,hz⟩:=I.tuple hx;have hlen:=r.length;exact truthy_tuple pl (by simp only [qoB];omega) ⟨H,I.tok _,by rw [II r];exact q⟩
  ·subst e';obtain ⟨hz,hS,vs,r,m⟩:kvs.length<=sizeLine/\(p == sysModules)=false/\∃ vs,KV kvs vs/\s.heap.DictOf (BS X.prog X.w) p vs:=I.hok p _ hx;have hlen:kvs.length=vs.length:=Paired.length r;exact wpAny_truthy_dict hS m (by omega) ⟨H,I.tok _,by rw [Lo r];exact q⟩
 | _=>exact (show False from e).elim
theorem pt_truth (ha:PE X a ta)(he:∀ whole,isTrue a X.env whole=(do let v <- whole;standAt a.pos;holding [v] (truthy v))) :
  PT X a (fun σ H Q=>ta σ H fun x H'=>∃ k,TruV X.K x H' k/\Q k H'):=by
 intro pins s σ H Q I h;exact isTrue_plain (thn (ha pins s σ H _ I h) fun v s1 ⟨x,H1,I1,r1,q1⟩=>tru_ok pins s1 σ H1 x v Q I1 r1 q1) (he _)
theorem Lr:OpR X (binaryOp .Add) (fun x y H Q=>∃ i j,x = .str i/\y = .str j/\i.length+j.length<=sizeLine/\Q (.str (i++j)) H):=by
 intro pins s σ H x y v u Q I rx ry h;obtain ⟨i,j,rfl,rfl,hz,q⟩:=h;obtain ⟨t,rfl⟩:=rx;obtain ⟨t',rfl⟩:=ry;exact add_str (fun t' tk=>⟨.str (i++j),H,I.tok _,⟨_,rfl⟩,q⟩) hz
theorem Dy {x:V}{us:List Value}(r:Vals [x] us):∃ u,us=[u]/\RelV x u:=by
 cases r with
 | cons r1 r2=>cases r2;exact ⟨_,rfl,r1⟩
theorem KF {x y:V}{us:List Value}(r:Vals [x,y] us):∃ u w',us=[u,w']/\RelV x u/\RelV y w':=by
 cases r with
 | cons r1 r2 =>
  cases r2 with
  | cons r3 r4=>cases r4;exact ⟨_,_,rfl,r1,r3⟩
theorem Mk (hc:X.calm=true):CW X (.builtin "min") (fun xs H Q=>∃ i j,xs=[.int i,.int j]/\Q (.int (if j<i then j else i)) H):=by
 intro pins s σ H xs us Q I r h;obtain ⟨i,j,rfl,q⟩:=h;obtain ⟨u,w',rfl,⟨t,rfl⟩,⟨t',rfl⟩⟩:=KF r;refine min_two_ints (I.ok.hd hc) fun h' tk k=>⟨_,H,I.kept k,?_,q⟩;by_cases hj:j<i
 ·rw [if_pos hj,if_pos hj];exact ⟨_,rfl⟩
 ·rw [if_neg hj,if_neg hj];exact ⟨_,rfl⟩
theorem GU:CW X (.type "int") (fun xs H Q=>(∃ i,xs=[.int i]/\Q (.int i) H)\/∃ k,xs=[.bl k]/\Q (.int (if k then 1 else 0)) H):=by
 intro pins s σ H xs us Q I r h;rcases h with ⟨i,rfl,q⟩ | ⟨k,rfl,q⟩
 ·obtain ⟨u,rfl,t,rfl⟩:=Dy r;exact call_int_int ⟨.int i,H,I,⟨_,rfl⟩,q⟩
 ·obtain ⟨u,rfl,r1⟩:=Dy r;cases r1;exact call_int_bool ⟨.int (if k then 1 else 0),H,I.tok _,⟨_,rfl⟩,q⟩
end
structure Room (k:Nat)(A:Around):Prop where
 hd:A.handled=none
 dp:A.depth+3 * k+5<recursionLimit
 un:A.units+16 * k+200<cLine
theorem Room.mono {j k:Nat}{A:Around}(r:Room k A)(h:j<=k):Room j A:=⟨r.hd,by have:=r.dp;omega,by have:=r.un;omega⟩
theorem Room.deeper {k:Nat}{A:Around}(r:Room (k+1) A)(env:Env):Room k (A.deeper env) :=
 ⟨r.hd,by have:=r.dp;show A.depth+1+3 * k+5<_;omega,by have:=r.un;show A.units+3+16 * k+200<_;omega⟩
theorem Room.depth {k:Nat}{A:Around}(r:Room k A):A.depth<recursionLimit:=by have:=r.dp;omega
theorem Room.units {k:Nat}{A:Around}(r:Room k A):A.units+64<cLine:=by have:=r.un;omega
abbrev CB:TA:=fun _ H Q=>Q [] H
abbrev At (ta:TE)(tr:TA):TA:=fun σ H Q=>ta σ H fun x H1=>tr σ H1 fun xs H2=>Q (x::xs) H2
section
variable {X:Cx}{e:Expr}{es:List Expr}{te:TE}{t:TA}{pos:Pos}
theorem AC:PA X [] CB:=fun _ _ _ _ H Q I h=>Calls.spliced_nil ⟨[],H,I,.nil,h⟩
theorem A4 (ha:PE X e te)(hr:PA X es t)(hs:starEach (e::es) X.env=(false,eval e X.env)::starEach es X.env:=by rfl):PA X (e::es) (At te t):=by
 intro pos pins s σ H Q I h;rw [hs];show wpAny _ _ (spliced ((false,eval e X.env)::backTo pos (starEach es X.env))) _ _ s;refine Calls.spliced_cons (thn (ha pins s σ H _ I h) fun u s1 ⟨x,H1,I1,r1,q1⟩=>?_);exact thn (hr pos pins s1 σ H1 _ I1 q1) fun us s2 ⟨xs,H2,I2,r2,q2⟩=>⟨x::xs,H2,I2,.cons r1 r2,q2⟩
abbrev tTup (t:TA):TE:=fun σ H Q=>t σ H fun xs H1=>xs.length<=sizeLine/\∀ p,H1 p=none->Q (.ref p) (upd H1 p (.tup xs))
abbrev tLst (t:TA):TE:=fun σ H Q=>t σ H fun xs H1=>xs.length<=sizeLine/\∀ p,H1 p=none->Q (.ref p) (upd H1 p (.lst xs))
theorem Ap {x1}(h:PA X es t):PE X (.Tuple es x1 pos) (tTup t):=by
 intro pins s σ H Q I hq;refine wpAny_Tuple_spliced (thn (h pos pins s σ H _ I hq) fun us s1 ⟨xs,H1,I1,r,z,q⟩=>⟨by rw [<- r.length];exact z,?_⟩);have hf:H1 s1.heap.objs.size=none:=I1.hok.fresh (qzA _);refine ⟨.ref s1.heap.objs.size,upd H1 s1.heap.objs.size (.tup xs),I1.laid (t':=s1.toks) (fun b u e=>qfB _ e) (qzA _) ?_,rfl,q _ hf⟩;exact ⟨z,us,r,⟨_,qgB _ rfl,rfl,_,rfl⟩⟩
theorem Ae (h:PA X es t):PE X (.List es pos) (tLst t):=by
 intro pins s σ H Q I hq;refine wpAny_List_spliced (thn (h pos pins s σ H _ I hq) fun us s1 ⟨xs,H1,I1,r,z,q⟩=>⟨by rw [<- r.length];exact z,?_⟩);have hf:H1 s1.heap.objs.size=none:=I1.hok.fresh (qzA _);refine ⟨.ref s1.heap.objs.size,upd H1 s1.heap.objs.size (.lst xs),I1.laid (t':=s1.toks) (fun b u e=>qfB _ e) (qzA _) ?_,rfl,q _ hf⟩;exact ⟨z,us,0,r,qgB _ rfl⟩
end
abbrev Sp:=List V->Hp->VK->XK->Prop
abbrev CXT:=List Env->Hp->Shared->XK->Value->Shared->Prop
structure Env0 (P:Program)(w:World)(K:FZ9)(mg:Str->Option Value)(base:Heap)(A:Around)(outer:List Env)(s:Shared)(H:Hp):Prop where
 frames:A.frames=some outer
 mod:Mod K mg base
 bs:∀ b o,base.get? b=some o->s.heap.get? b=some o/\H b=none
 bsz:base.objs.size<=s.heap.objs.size
 funs:s.heap.FunFrames base outer
 frf:∀ b∈frs outer,H b=none
 hok:HOk P w H s.heap
 bare:AllBare s.gens
def CE (outer:List Env)(P:Program)(w:World)(H:Hp)(s:Shared)(Q:VK)(u:Value)(s':Shared):Prop :=
 ∃ v H',s'.os=s.os/\AllBare s'.gens/\Un (frs outer) [] H H' s.heap s'.heap/\HOk P w H' s'.heap/\RelV v u/\Q v H'
def CR (CX:CXT)(outer:List Env)(P:Program)(w:World)(H:Hp)(s:Shared)(Q:VK)(E:XK)(r:Result)(s':Shared):Prop :=
 match r with
 | .ok (.ret u)=>CE outer P w H s Q u s'
 | .ok _=>False
 | .error e=>CX outer H s E e s'
structure FnOk (P:Program)(w:World)(K:FZ9)(mg:Str->Option Value)(base:Heap)(CX:CXT)(k:Nat)(f:Addr)(fd:FuncData)(ps:List Str)(sp:Sp):Prop where
 len:∀ vs H Q E,sp vs H Q E->vs.length=ps.length
 run:∀ (A:Around) (outer:List Env) (s:Shared) (H:Hp) (args:Args) (us:List Value) (vs:List V) (Q:VK) (E:XK),Room k A->Env0 P w K mg base A outer s H->BindsTo s fd args (ps.zip us)->Vals vs us->sp vs H Q E ->
  codeAny (model P w) A (.call (.ref f) args) (CR CX outer P w H s Q E) s
theorem FnOk.imp {P:Program}{w:World}{K:FZ9}{mg:Str->Option Value}{base:Heap}{CX:CXT}{k:Nat}{f:Addr}{fd:FuncData}{ps:List Str}{sp sp':Sp}(F:FnOk P w K mg base CX k f fd ps sp)
  (h:∀ vs H Q E,sp' vs H Q E->sp vs H Q E):FnOk P w K mg base CX k f fd ps sp' :=
 ⟨fun vs H Q E q=>F.len vs H Q E (h _ _ _ _ q),fun A outer s H args us vs Q E hr he hb hv hs=>F.run A outer s H args us vs Q E hr he hb hv (h _ _ _ _ hs)⟩
section
variable {X:Cx}{pins:List (Addr × Obj)}{σ:St}{H:Hp}{s s':Shared}
theorem Inv.env0 (I:Inv X pins σ H s):Env0 X.prog X.w X.K X.mg X.base X.A X.stack s H :=
 ⟨I.ok.frames,I.ok.mod,I.bs,qaB I.ok.bsz I.sz,I.stack,I.stkFree,I.hok,I.bare⟩
theorem Inv.after {Q:VK}{u:Value}(I:Inv X pins σ H s)(h:CE X.stack X.prog X.w H s Q u s'):EP X pins σ Q u s':=by
 obtain ⟨v,H',os,bare,un,hok,r,q⟩:=h;obtain ⟨hh,g,d,t,os'⟩:=s';obtain rfl:os'=s.os:=os;exact ⟨v,H',I.call (h':=hh) (g':=g) (d':=d) (t':=t) (ch:=[]) un hok bare (fun b z=>absurd z (by simp)),r,q⟩
end
abbrev Hd (sp:Sp)(dvs:List V)(E:XK)(t:TA):TE:=fun σ H Q=>t σ H fun vs H1=>sp (vs++dvs) H1 Q E
def Binds (K:FZ9)(fd:FuncData)(ps:List Str)(ds:List Value):Prop :=
 ∀ (s:Shared) (us:List Value),K.In s.heap->(us++ds).length=ps.length->BindsTo s fd ⟨us,[]⟩ (ps.zip (us++ds))
theorem Binds.all {K:FZ9}{fd:FuncData}{ps:List Str}(h:∀ us:List Value,us.length=ps.length->bindArgs fd ⟨us,[]⟩=pure (ps.zip us)):Binds K fd ps []:=fun s us _ hl=>by
 rw [List.append_nil] at hl ⊢;exact .of_eq (h us hl)
def La (CX:CXT)(X:Cx)(E:XK):Prop:=∀ (pins:List (Addr × Obj)) (σ:St) (H:Hp) (s:Shared) (e:Value) (s':Shared),Inv X pins σ H s->CX X.stack H s E e s'->X.xe e s'
section
variable {X:Cx}{CX:CXT}{k:Nat}{f C:Addr}{fd:FuncData}{ps:List Str}{sp:Sp}{dvs:List V}{ds:List Value}{E:XK}{x m:Str}{p pos apos:Pos}{e o:Expr}{es:List Expr}{ta:TE}{t:TA}
theorem run_fn {pins:List (Addr × Obj)}{σ:St}{H:Hp}{s:Shared}{Q:VK}{us:List Value}{vs:List V}(F:FnOk X.prog X.w X.K X.mg X.base CX k f fd ps sp)(hr:Room k X.A)(hb:Binds X.K fd ps ds)(hd:Vals dvs ds)(hx:La CX X E)
  (I:Inv X pins σ H s) (r:Vals vs us) (h:sp (vs++dvs) H Q E):wpAny (model X.prog X.w) X.A (call (.ref f) us) (EP X pins σ Q) X.xe s:=by
 have r2:Vals (vs++dvs) (us++ds):=r.append hd;have hl:(us++ds).length=ps.length:=by rw [<- r2.length];exact F.len _ _ _ _ h
 refine wpAny_call (codeAny_mono (F.run X.A X.stack s H ⟨us,[]⟩ (us++ds) (vs++dvs) Q E hr I.env0 (hb s us I.kIn hl) r2 h) fun r s' hq=>?_)
 cases r with
 | error e=>exact hx pins σ H s e s' I hq
 | ok fl =>
  cases fl with
  | ret u=>exact I.after hq
  | next=>exact False.elim hq
  | brk=>exact False.elim hq
  | cont=>exact False.elim hq
theorem pe_call (F:FnOk X.prog X.w X.K X.mg X.base CX k f fd ps sp)(hr:Room k X.A)(hg:Gl X x)(hm:X.mg x=some (.ref f))(hk:PySem.W.keepIn X.K (.ref f)=true)(hb:Binds X.K fd ps ds)(hd:Vals dvs ds)(hx:La CX X E)
  (ha:PA X (e::es) t) (hdb:(x == ("__debug__" : Str))=false:=by decide) (he:starEach (e::es) X.env=(false,eval e X.env)::starEach es X.env:=by rfl) (hpl:(backTo pos (starEach es X.env)).any (·.1)=false:=by rfl) :
  PE X (.Call (.Name x p) (e::es) [] pos) (Hd sp dvs E t):=by
 intro pins s σ H Q I h;refine wpAny_Call_Name_kw (MI I hg hm ?_ hdb);refine PySem.W.callWith_K (h₀:=X.base) I.ok.mod.kin hk (thn (ha pos pins s σ H _ I h) fun us s1 ⟨vs,H1,I1,r,q⟩=>⟨I1.kIn,?_⟩) he hpl;exact run_fn F hr hb hd hx I1 r q
end
structure FnScope (N P:List Str)(sc:Scope):Prop where
 kind:sc.kind = .function
 co:sc.isCoroutine=false
 gen:sc.isGenerator=false
 nd:N.Nodup
 pre:N.take P.length=P
 par:∀ x∈P,sc.names.lookup x=some .local \/ sc.names.lookup x=some .cell
 nofree:∀ y∈sc.names,y.2 ≠ .free
theorem J1 {kindOf:Str->Option NameKind}{x:Str}:∀ {binds:List (Str × Value)}{m:Str->Option Value},(∀ v,(x,v) ∉ binds)->bindL kindOf binds m x=m x
 | [],_,_=>rfl
 | (n,v)::r,m,h=>by
  unfold bindL;rw [J1 fun w hw=>h w (qqA _ hw)];split
  ·have:x≠n:=by rintro rfl;exact h v qpA
   simp [this]
  ·rfl
theorem JB {kindOf:Str->Option NameKind}{x:Str}:∀ {binds:List (Str × Value)}{m:Str->Option Value},(∀ v,(x,v) ∉ binds)->bindC kindOf binds m x=m x
 | [],_,_=>rfl
 | (n,v)::r,m,h=>by
  unfold bindC;rw [JB fun w hw=>h w (qqA _ hw)];split
  ·rfl
  ·have:x≠n:=by rintro rfl;exact h v qpA
   simp [this]
theorem J2 {kindOf:Str->Option NameKind}{x:Str}{v:Value}:∀ {P:List Str}{vs:List Value}{i:Nat}{m:Str->Option Value},P.Nodup->P[i]? = some x->vs[i]? = some v->kindOf x=some .local ->
  bindL kindOf (P.zip vs) m x=some v
 | [],_,_,_,_,h,_,_=>by simp at h
 | _::_,[],_,_,_,_,h,_=>by simp at h
 | p::P,w::vs,0,m,nd,h1,h2,hk=>by
  simp at h1 h2;subst h1;subst h2;show bindL kindOf ((p,w)::P.zip vs) m p=_;unfold bindL;rw [J1 fun v hv=>(List.nodup_cons.mp nd).1 (List.of_mem_zip hv).1,if_pos hk];simp
 | p::P,w::vs,i+1,m,nd,h1,h2,hk=>by
  show bindL kindOf ((p,w)::P.zip vs) m x=_;unfold bindL;exact J2 (i:=i) (List.nodup_cons.mp nd).2 (by simpa using h1) (by simpa using h2) hk
theorem Ih {kindOf:Str->Option NameKind}{x:Str}{v:Value}:∀ {P:List Str}{vs:List Value}{i:Nat}{m:Str->Option Value},P.Nodup->P[i]? = some x->vs[i]? = some v->kindOf x≠some .local ->
  bindC kindOf (P.zip vs) m x=some v
 | [],_,_,_,_,h,_,_=>by simp at h
 | _::_,[],_,_,_,_,h,_=>by simp at h
 | p::P,w::vs,0,m,nd,h1,h2,hk=>by
  simp at h1 h2;subst h1;subst h2;show bindC kindOf ((p,w)::P.zip vs) m p=_;unfold bindC;rw [JB fun v hv=>(List.nodup_cons.mp nd).1 (List.of_mem_zip hv).1,if_neg hk];simp
 | p::P,w::vs,i+1,m,nd,h1,h2,hk=>by
  show bindC kindOf ((p,w)::P.zip vs) m x=_;unfold bindC;exact Ih (i:=i) (List.nodup_cons.mp nd).2 (by simpa using h1) (by simpa using h2) hk
def start (N:List Str)(vs:List V):St:=vs.map some++List.replicate (N.length - vs.length) none
def IR (CX:CXT)(P:Program)(w:World)(K:FZ9)(mg:Str->Option Value)(base:Heap)(N:List Str)(qual:Str)(scope:Scope)(f:Addr)(cd:Value)(A:Around)(outer:List Env)(s:Shared)(H:Hp)(E:XK):Cx where
 prog:=P
 w:=w
 K:=K
 mg:=mg
 base:=base
 A:=A.deeper (envOfC qual scope s.heap.objs.size f cd)
 N:=N
 s₀:=s
 H₀:=H
 env:=envOfC qual scope s.heap.objs.size f cd
 outer:=outer
 stack:=envOfC qual scope s.heap.objs.size f cd::outer
 ex:=[]
 calm:=true
 fn:=fun _=>true
 pn:=[]
 xe:=fun e s'=>wpAny (model P w) (A.deeper (envOfC qual scope s.heap.objs.size f cd)) (leaving (envOfC qual scope s.heap.objs.size f cd) e) (fun _ s''=>CX outer H s E e s'') (fun e' s''=>CX outer H s E e' s'') s'
theorem Kc {sc:Scope}{n:Nat}{x:Str}(h:sc.names.lookup x=some .cell):∃ c,(cellsFrom n sc.names []).lookup x=some c:=by
 have q:=PySem.W.cellsFrom_some sc.names n [] (.inl h);exact Option.isSome_iff_exists.mp q
theorem NO {CX:CXT}{P:Program}{w:World}{K:FZ9}{mg:Str->Option Value}{base:Heap}{N ps:List Str}{qual:Str}{scope:Scope}{f:Addr}{cd:Value}{A:Around}{outer:List Env}{s s1:Shared}{H:Hp}{E:XK}{us:List Value}{vs:List V}
  (S:FnScope N ps scope) (hd:A.handled=none) (e0:Env0 P w K mg base A outer s H) (hl:vs.length=ps.length) (r:Vals vs us)
  (x:InCallC s s.heap.objs.size (bindL (envOfC qual scope s.heap.objs.size f cd).kindOf (ps.zip us) fun _=>none) (cellsFrom (s.heap.objs.size+1) scope.names []) (bindC (envOfC qual scope s.heap.objs.size f cd).kindOf (ps.zip us) fun _=>none) s1) :
  Inv (IR CX P w K mg base N qual scope f cd A outer s H E) [] (start N vs) H s1:=by
 have hpl:ps.length<=N.length:=by have:=congrArg List.length S.pre;rw [qjA] at this;omega
 obtain ⟨h1,tk,rfl,hk⟩:=x.done;have noA:∀ b:Addr,b ∉ (IR CX P w K mg base N qual scope f cd A outer s H E).ex:=fun b z=>absurd (show b∈([]:List Addr) from z) (by simp)
 refine ⟨⟨e0.mod,S.kind,rfl,rfl,qzA _,fun y z c h1 h2=>?_,fun y hy=>?_,fun y c _ h=>?_,fun _=>hd,Around.frames_deeper e0.frames,.inr ⟨rfl,rfl⟩,fun b z=>absurd z (noA b),e0.bs,e0.bsz,fun b _ _=>noA b,fun b z=>absurd z (noA b),e0.funs,e0.frf⟩,
  rfl,e0.bare,Un.kept hk,⟨_,x.toInCall.ns,fun i y v h1 h2 h3=>?_⟩,fun y c h=>⟨_,x.cell y c h⟩,e0.hok.fresh (qzA _),fun y c h=>?_,fun p hp=>absurd (show p∈([]:List (Addr × Obj)) from hp) (by simp),e0.hok.kept hk,?_⟩
 ·exact name_of_addr x.apart (PySem.mem_of_lookup h1) (PySem.mem_of_lookup h2)
 ·have hy:scope.names.lookup y=some .cell\/scope.names.lookup y=some .free:=hy;rcases hy with hy|hy
  ·exact Kc hy
  ·exact absurd rfl (S.nofree _ (PySem.mem_of_lookup hy))
 ·exact Nat.le_of_lt (x.above y c (PySem.mem_of_lookup h))
 ·have hi:i<vs.length:=by
   unfold start at h2;by_cases hi:i<vs.length
   ·exact hi
   ·rw [qvA (by simpa using hi)] at h2;rw [List.getElem?_replicate] at h2;split at h2<;>cases h2
  have ha:vs[i]? = some v:=by
   unfold start at h2;rw [List.getElem?_append_left (by simpa using hi),qwA] at h2
   cases e:vs[i]? with
   | none=>rw [e] at h2;cases h2
   | some a=>rw [e] at h2;cases h2;rfl
  obtain ⟨u,hu,rv⟩:=r.get ha
  have hp:ps[i]? = some y:=by
   rw [<- S.pre,List.getElem?_take_of_lt (by omega)];exact h1
  have ndP:ps.Nodup:=by rw [<- S.pre];exact S.nd.sublist (List.take_sublist _ _)
  refine ⟨u,rv,?_⟩;rcases S.par y (qsA hp) with k|k
  ·exact .inl ⟨k,J2 ndP hp hu k⟩
  ·obtain ⟨c,e⟩:=Kc (n:=s.heap.objs.size+1) k;refine .inr ⟨.inl k,c,e,?_⟩;have q:=x.cell y c e;rw [Ih ndP hp hu (by show scope.names.lookup y≠_;rw [k];decide)] at q;exact q
 ·exact e0.hok.fresh (Nat.le_of_lt (x.above y c (PySem.mem_of_lookup h)))
 ·unfold start;show _=N.length;rw [qfA,qeA,List.length_replicate];omega
theorem fn_of {CX:CXT}{P:Program}{w:World}{K:FZ9}{mg:Str->Option Value}{base:Heap}{k:Nat}{f:Addr}{name qual:Str}{params:Arguments}{body:List Stmt}{scope:Scope}{dV kV doc pm cdv ct oc:Value}{an od:Option Addr}
  {osl:Array (Option Value)}{N ps:List Str}{sp:Sp}(lk:K.lookup f=some ⟨oc,od,.func (qpB name qual params body scope dV kV doc pm an cdv ct),osl⟩) (hcd:PySem.W.codeIn K cdv qual=true) (S:FnScope N ps scope)
  (len:∀ vs H Q E,sp vs H Q E->vs.length=ps.length)
  (hbody:∀ (A:Around) (outer:List Env) (s:Shared) (H:Hp) (vs:List V) (Q:VK) (E:XK),Room k (A.deeper (envOfC qual scope s.heap.objs.size f cdv))->sp vs H Q E ->
   ∃ t,PSs (IR CX P w K mg base N qual scope f cdv A outer s H E) body t/\t { nx:=fun _ H'=>Q .non H',rt:=Q } (start N vs) H) :
  FnOk P w K mg base CX (k+1) f (qpB name qual params body scope dV kV doc pm an cdv ct) ps sp:=by
 refine ⟨len,fun A outer s H args us vs Q E hr e0 hb r hsp=>?_⟩;have hl:=len _ _ _ _ hsp;have KX:K.In s.heap:=e0.mod.kin.keeps fun b o e=>(e0.bs b o e).1;have lim:s.heap.NoLimit:=e0.mod.nolimit.keeps fun b o e=>(e0.bs b o e).1
 have hkind:∀ y∈ps.zip us,scope.names.lookup y.1=some .local \/ (scope.names.lookup y.1=some .cell/\((cellsFrom (s.heap.objs.size+1) scope.names []).lookup y.1).isSome=true):=fun ⟨n,v⟩ hy=>by
  rcases S.par n (List.of_mem_zip hy).1 with q|q
  ·exact .inl q
  ·exact .inr ⟨q,PySem.W.cellsFrom_some _ _ _ (.inl q)⟩
 refine codeAny_call_function hr.depth (KX _ _ lk) rfl S.co S.gen rfl (PySem.W.codeRec_of KX hcd) (hb _ _ _ _ ?_);refine wpAny_newFunctionEnv_cells S.kind hkind fun env he s1 x=>?_;subst he;refine ⟨lim.keeps x.toInCall.keep,codeAny_func ?_⟩;obtain ⟨t,ht,hq⟩:=hbody A outer s H vs Q E (hr.deeper _) hsp;have I:Inv (IR CX P w K mg base N qual scope f cdv A outer s H E) [] (start N vs) H s1:=NO S hr.hd e0 hl r x;refine wpAny_mono (ht [] s1 (start N vs) H _ I hq) (fun fl s' hs=>?_) fun e s' hs=>hs
 have fin:∀ {σ':St}{H':Hp}{v:V}{u:Value},Inv (IR CX P w K mg base N qual scope f cdv A outer s H E) [] σ' H' s'->RelV v u->Q v H'->CE outer P w H s Q u s' :=
  fun {σ' H' v u} J rv q=>⟨v,H',J.os,J.bare,J.base,J.hok,rv,q⟩
 cases fl with
 | ret u =>
  obtain ⟨v,σ',H',J,rv,q⟩:=hs;exact fin J rv q
 | next =>
  obtain ⟨σ',H',J,q⟩:=hs;exact fin (v:=V.non) (u:=Value.none) J rfl q
 | brk =>
  obtain ⟨_,_,_,q⟩:=hs;exact False.elim q
 | cont =>
  obtain ⟨_,_,_,q⟩:=hs;exact False.elim q
section
variable {X:Cx}{x:Str}{p pos:Pos}{e:Expr}{es:List Expr}{t:TA}{id T:String}{r:List V->Hp->VK->Prop}
abbrev tCB (r:List V->Hp->VK->Prop)(t:TA):TE:=fun σ H Q=>t σ H fun vs H1=>r vs H1 Q
theorem B5 (hc:CW X (.builtin id) r)(hg:Gl X x)(hm:X.mg x=none)(hv:bootBuiltins x=some (.builtin id))(ha:PA X (e::es) t)(hn:x ≠ "__name__" := by decide)(hdb:(x == ("__debug__" : Str))=false:=by decide)
  (he:starEach (e::es) X.env=(false,eval e X.env)::starEach es X.env:=by rfl) (hpl:(backTo pos (starEach es X.env)).any (·.1)=false:=by rfl):PE X (.Call (.Name x p) (e::es) [] pos) (tCB r t):=by
 intro pins s σ H Q I h;refine wpAny_Call_Name_kw (IG I hg hm hv ?_ hn hdb);exact PyProof.Rows.callWith_builtin1 (thn (ha pos pins s σ H _ I h) fun us s1 ⟨vs,H1,I1,r1,q1⟩=>hc pins s1 σ H1 vs us Q I1 r1 q1) he hpl
theorem BG (hc:CW X (.type T) r)(hg:Gl X x)(hm:X.mg x=none)(hv:bootBuiltins x=some (.type T))(ha:PA X (e::es) t)(hn:x ≠ "__name__" := by decide)(hdb:(x == ("__debug__" : Str))=false:=by decide)
  (he:starEach (e::es) X.env=(false,eval e X.env)::starEach es X.env:=by rfl) (hpl:(backTo pos (starEach es X.env)).any (·.1)=false:=by rfl):PE X (.Call (.Name x p) (e::es) [] pos) (tCB r t):=by
 intro pins s σ H Q I h;refine wpAny_Call_Name_kw (IG I hg hm hv ?_ hn hdb);exact PyProof.Rows.callWith_type1 (thn (ha pos pins s σ H _ I h) fun us s1 ⟨vs,H1,I1,r1,q1⟩=>hc pins s1 σ H1 vs us Q I1 r1 q1) he hpl
end
end L2
namespace HT
open PySem PyProof.Rows
section
open PySem.SeqAt
open PySem.AutoSeq1 (wpAny_loadPart')
open PySem.MeetsSeq PySem.MeetsSeq2 PySem.MeetsSeq3
end
section
variable {prog:Program}{w:World}{A:Around}{E:Value->Shared->Prop}{s:Shared}
def sIx (n d:Nat):Option Int->Nat
 | none=>d
 | some v=>if v<0 then (v+(n:Int)).toNat else min v.toNat n
theorem sIx_le (n d:Nat)(hd:d<=n)(o:Option Int):sIx n d o<=n:=by
 cases o with
 | none=>exact hd
 | some v =>
  show (if v<0 then (v+(n:Int)).toNat else min v.toNat n)<=n;by_cases hv:v<0
  ·rw [if_pos hv];omega
  ·rw [if_neg hv];exact Nat.min_le_right _ _
theorem MQ (v:Int)(n d:Nat):(if v<0 then max (v+(n:Int)) 0 else min v (n:Int))=((sIx n d (some v):Nat):Int):=by
 show (if v<0 then max (v+(n:Int)) 0 else min v (n:Int))=(((if v<0 then (v+(n:Int)).toNat else min v.toNat n):Nat):Int);by_cases hv:v<0
 ·simp only [if_pos hv];omega
 ·simp only [if_neg hv];omega
theorem LL (lo hi:Option Int)(n:Nat):Builtin.Slice.sliceAdjust lo hi 1 (n:Int)=(((sIx n 0 lo:Nat):Int),((sIx n n hi:Nat):Int)):=by
 have h1:¬ ((1:Int)<0):=by omega
 unfold Builtin.Slice.sliceAdjust;simp only [h1,if_false];refine Prod.ext ?_ ?_
 ·cases lo with
  | none=>rfl
  | some v=>exact MQ v n 0
 ·cases hi with
  | none=>rfl
  | some v=>exact MQ v n n
theorem LS (i j:Nat):Builtin.Slice.slicePlaces (i:Int) (j:Int) 1=j - i:=by
 unfold Builtin.Slice.slicePlaces;have h1:(1:Int) > 0:=by omega
 simp only [h1,if_true,Int.ediv_one];split<;>omega
theorem IH {v:Value}{o:Option Int}{Q:Option Int->Shared->Prop}(p:IsPart v o)(h:Q o s):wpAny (model prog w) A (Builtin.Slice.slicePartIndex v) Q E s:=by
 cases p with
 | none=>exact slicePart_none h
 | int i t=>exact slicePart_int h
theorem E9 {sl:Addr}{vl vu:Value}{lo hi:Option Int}{n:Nat}{Q:Int × Int × Nat->Shared->Prop}(hs:s.heap.IsSliceOf sl vl vu .none)(pl:IsPart vl lo)(pu:IsPart vu hi)
  (h:Q (((sIx n 0 lo:Nat):Int),1,sIx n n hi - sIx n 0 lo) s):wpAny (model prog w) A (Builtin.Slice.sliceApplied (.ref sl) (pure (n:Int))) Q E s:=by
 obtain ⟨os,hos,hcs,hds⟩:=id hs;unfold Builtin.Slice.sliceApplied Builtin.Slice.sliceFields;refine qbA (qbA (wpAny_field hos hds (x:=vl) rfl (qbA (wpAny_field hos hds (x:=vu) rfl (qbA (wpAny_field hos hds (x:=.none) rfl (qcA ?_)))))));refine qbA (slicePart_none ?_);show wpAny _ _ (if ((1:Int) == 0)=true then _ else _) _ _ s;rw [if_neg (by decide)];refine qbA (IH pl (qbA (IH pu (qbA (qcA ?_)))));show wpAny _ _ (match Builtin.Slice.sliceAdjust lo hi 1 (n:Int) with | (lo,hi)=>pure (lo,(1:Int),Builtin.Slice.slicePlaces lo hi 1)) _ _ s;rw [LL lo hi n];show wpAny _ _ (pure (((sIx n 0 lo:Nat):Int),(1:Int),Builtin.Slice.slicePlaces ((sIx n 0 lo:Nat):Int) ((sIx n n hi:Nat):Int) 1)) _ _ s;rw [LS];exact qcA h
theorem pick_gen (xs:Array Value)(i k:Nat):((List.range k).filterMap fun (m:Nat)=>xs[((i:Int)+(m:Int) * 1).toNat]?).toArray=((xs.toList.drop i).take k).toArray:=by
 have e:(fun (m:Nat)=>xs[((i:Int)+(m:Int) * 1).toNat]?)=fun m=>xs[i+m]?:=by
  funext m
  have:((i:Int)+(m:Int) * 1).toNat=i+m:=by omega
  rw [this]
 rw [e];have:=pick_run xs i k;rw [List.filterMap_map] at this;have e2:((fun x=>xs[x]?)∘fun x=>i+x)=fun m=>xs[i+m]?:=rfl;rw [e2] at this;rw [this]
theorem getItem_tuple_cut {t sl:Addr}{items:Array Value}{vl vu:Value}{lo hi:Option Int}{Q:Value->Shared->Prop}(ht:IsTup s.heap t items)(hs:s.heap.IsSliceOf sl vl vu .none)(pl:IsPart vl lo)(pu:IsPart vu hi)
  (hw:¬ (sIx items.size 0 lo=0/\sIx items.size items.size hi=items.size))
  (h:Q (.ref s.heap.objs.size) { s with heap:=s.heap.push { cls:=.type "tuple",data:=.seq ((items.toList.drop (sIx items.size 0 lo)).take (sIx items.size items.size hi - sIx items.size 0 lo)).toArray } })
  (hsz:items.size<=sizeLine):wpAny (model prog w) A (getItem (.ref t) (.ref sl)) Q E s:=by
 have htake:sizeOk (.seq ((items.toList.drop (sIx items.size 0 lo)).take (sIx items.size items.size hi - sIx items.size 0 lo)).toArray):=by
  show ((items.toList.drop (sIx items.size 0 lo)).take (sIx items.size items.size hi - sIx items.size 0 lo)).toArray.size<=sizeLine;rw [qoB,qjA,List.length_drop,qqB];omega
 have hj:sIx items.size items.size hi<=items.size:=sIx_le _ _ (qzA _) hi;obtain ⟨os,hos,hcs,hds⟩:=id hs;have hTs:s.TypeIs (.ref sl) "slice" := ⟨os,hos,hcs⟩;unfold getItem
 try with_reducible refine qdA ?_
 first|refine qbA (qcA ?_)|skip
 refine qbA (wpAny_sequenceKey ht.typeIs (by decide) ?_)
 refine qbA (wpAny_callSpecial?_slot (name:=Str.ofString "__getitem__") ht.typeIs PyProof.Rows.slot_tuple_getitem
  (wpAny_call_entry PyProof.Rows.slot_tuple_getitem ht.typeIs entry_tuple_getitem ?_ (args_tuple_getitem _ _)))
 show wpAny _ _ (Builtin.Tuple.tupleItemsOf (.ref t) >>= _) _ _ s;refine qbA (tupleItemsOf_ ht ?_);refine qbA (wpAny_typeOf hTs ?_);rw [if_pos (by decide)];refine qbA (E9 hs pl pu ?_)
 have hno:¬ ((((sIx items.size 0 lo:Nat):Int) == 0 && (1:Int) == 1 && (sIx items.size items.size hi - sIx items.size 0 lo) == items.size)=true):=by
  intro q;rw [qyB,qyB] at q;have q1:((sIx items.size 0 lo:Nat):Int)=0:=eq_of_beq q.1.1;have q2:sIx items.size items.size hi - sIx items.size 0 lo=items.size:=eq_of_beq q.2;exact hw ⟨by omega,by omega⟩
 show wpAny _ _ (if (((sIx items.size 0 lo:Nat):Int) == 0 && (1:Int) == 1 && (sIx items.size items.size hi - sIx items.size 0 lo) == items.size)=true then _ else _) _ _ s;rw [if_neg hno,pick_gen]
 first
  | exact qbA (m:=Builtin.Tuple.tupleExact _) (wpAny_newObj_type (qcA ⟨_,rfl,qcA h⟩) htake)
  | exact qbA (m:=Builtin.Tuple.tupleExact _) (wpAny_newObj_type (qbA (qcA (qcA ⟨_,rfl,qcA h⟩))) htake)
  | exact qbA (qbA (m:=Builtin.Tuple.tupleExact _) (wpAny_newObj_type (qcA (qcA ⟨_,rfl,qcA h⟩)) htake))
  | exact qbA (qbA (m:=Builtin.Tuple.tupleExact _) (wpAny_newObj_type (qcA ⟨_,rfl,qcA h⟩) htake))
end
end HT
namespace L2
open PySem PySem.Spec PyProof.Rows
abbrev TO:=St->Hp->(Option Int->Hp->Prop)->Prop
def PO (X:Cx)(e:Option Expr)(t:TO):Prop :=
 ∀ (pins:List (Addr × Obj)) (s:Shared) (σ:St) (H:Hp) (Q:Option Int->Hp->Prop),Inv X pins σ H s->t σ H Q ->
  wpAny (model X.prog X.w) X.A (evalPart e X.env) (fun u s'=>∃ o H',Inv X pins σ H' s'/\IsPart u o/\Q o H') X.xe s
abbrev MD:TO:=fun _ H Q=>Q none H
abbrev tPart (t:TE):TO:=fun σ H Q=>t σ H fun x H1=>∃ i,x = .int i/\Q (some i) H1
theorem Lm {ns:List Int}:∀ {us:List Value},Vals (ns.map V.int) us->IntsAre us ns:=by
 induction ns with
 | nil=>intro us r;rw [List.map_nil] at r;cases r;exact .nil
 | cons n ns ih =>
  intro us r;rw [qxA] at r
  cases r with
  | cons r1 r2 =>
   obtain ⟨t,e⟩:=r1;subst e;exact .cons n t (ih r2)
section
variable {X:Cx}{e:Expr}{te:TE}{lo hi:Option Expr}{tl th:TO}{pos p2:Pos}
theorem JV:PO X none MD:=by
 intro pins s σ H Q I h;rw [evalPart_none];exact qcA ⟨none,H,I,.none,h⟩
theorem JX (h:PE X e te):PO X (some e) (tPart te):=by
 intro pins s σ H Q I hw;rw [evalPart_some];refine thn (h pins s σ H _ I hw) fun u s1 ⟨x,H1,I1,r1,q1⟩=>?_;obtain ⟨i,rfl,q⟩:=q1;obtain ⟨t,rfl⟩:=r1;exact ⟨some i,H1,I1,.int i t,q⟩
def SlR (X:Cx)(r:V->Option Int->Option Int->Hp->VK->Prop):Prop :=
 ∀ (pins:List (Addr × Obj)) (s:Shared) (σ:St) (H:Hp) (x:V) (v vl vu:Value) (lo hi:Option Int) (sl:Addr) (Q:VK),Inv X pins σ H s->RelV x v->s.heap.IsSliceOf sl vl vu .none->IsPart vl lo->IsPart vu hi->r x lo hi H Q ->
  ∃ T id,typeLookup (.type T) "__getitem__" = pure (some (.builtin id))/\s.TypeIs v T/\wpAny (model X.prog X.w) X.A (getItem v (.ref sl)) (EP X pins σ Q) X.xe s
abbrev tSl (r:V->Option Int->Option Int->Hp->VK->Prop)(te:TE)(tl th:TO):TE:=fun σ H Q=>te σ H fun x H1=>tl σ H1 fun l H2=>th σ H2 fun u H3=>r x l u H3 Q
theorem Hs {r:V->Option Int->Option Int->Hp->VK->Prop}(hr:SlR X r)(he:PE X e te)(hl:PO X lo tl)(hu:PO X hi th):PE X (.Subscript e (.Slice lo hi none p2) pos) (tSl r te tl th):=by
 intro pins s σ H Q I h;refine Subscript_ (thn (he pins s σ H _ I h) fun v s1 ⟨x,H1,I1,r1,q1⟩=>?_);refine wpAny_Slice (thn (hl pins s1 σ H1 _ I1 q1) fun vl s2 ⟨l,H2,I2,pl,q2⟩=>thn (hu pins s2 σ H2 _ I2 q2) fun vu s3 ⟨u,H3,I3,pu,q3⟩=>?_);rw [evalPart_none];refine qcA ?_;have I4:Inv X pins σ H3 { s3 with heap:=s3.heap.push { cls:=.type "slice",data:=.fields #[vl,vu,.none] } }:=I3.kept (t':=s3.toks) fun b ob q=>qfB _ q;obtain ⟨T,id,hT,ht,hg⟩:=hr pins { s3 with heap:=s3.heap.push { cls:=.type "slice",data:=.fields #[vl,vu,.none] } } σ H3 x v vl vu l u s3.heap.objs.size Q I4 r1 (Heap.IsSliceOf.new ..) pl pu q3;show wpAny (model X.prog X.w) X.A (subscriptTail e (.Slice lo hi none p2) v (.ref s3.heap.objs.size)) (EP X pins σ Q) X.xe { s3 with heap:=s3.heap.push { cls:=.type "slice",data:=.fields #[vl,vu,.none] } };exact tail_any (ops:=[.ref s3.heap.objs.size,v]) ht hT hg (by with_unfolding_all rfl)
def HY (xs:List V)(lo hi:Option Int):List V:=(xs.drop (HT.sIx xs.length 0 lo)).take (HT.sIx xs.length xs.length hi - HT.sIx xs.length 0 lo)
theorem Da (xs:List V)(lo hi:Option Int):(HY xs lo hi).length<=xs.length:=by
 unfold HY;rw [qjA,List.length_drop];omega
def rSlT (K:FZ9):V->Option Int->Option Int->Hp->VK->Prop:=fun x lo hi H Q=>∃ a xs,x = .ref a/\SqT K H a xs /\
 ¬ (HT.sIx xs.length 0 lo=0/\HT.sIx xs.length xs.length hi=xs.length)/\∀ p,H p=none->Q (.ref p) (upd H p (.tup (HY xs lo hi)))
theorem sl_tup:SlR X (rSlT X.K):=by
 intro pins s σ H x v vl vu lo hi sl Q I rx hs pl pu h;obtain ⟨a,xs,rfl,hx,hw,q⟩:=h;cases rx;obtain ⟨its,r,ht,hz⟩:=I.tuple hx;have hlen:its.toArray.size=xs.length:=by rw [qoB];exact r.length.symm
 refine ⟨"tuple",_,PyProof.Rows.slot_tuple_getitem.lookup,ht.typeIs,?_⟩;refine HT.getItem_tuple_cut ht hs pl pu (by rw [hlen];exact hw) ?_ (by rw [hlen];exact hz);rw [hlen];refine ⟨.ref s.heap.objs.size,_,I.laid (t':=s.toks) (o:=.tup (HY xs lo hi)) (fun b ob q=>qfB _ q) (qzA _) ?_,rfl,q _ (I.hok.fresh (qzA _))⟩;exact ⟨qaB (Da xs lo hi) hz,_,(r.drop (HT.sIx xs.length 0 lo)).take (HT.sIx xs.length xs.length hi - HT.sIx xs.length 0 lo),IsTup.new _ _⟩
end
def ixN (n:Nat)(i:Int):Option Nat:=if 0<=i then (if i<n then some i.toNat else none) else if -(n:Int)<=i then some (i+n).toNat else none
def atI {α:Type}(xs:List α)(i:Int):Option α:=(ixN xs.length i).bind fun j=>xs[j]?
theorem M8 {n:Nat}{i:Int}{j:Nat}(h:ixN n i=some j):seqIndex? i n=some j/\j<n/\-(n:Int)<=i/\i<n:=by
 unfold ixN at h;by_cases h0:0<=i
 ·rw [if_pos h0] at h;by_cases h1:i<n
  ·rw [if_pos h1] at h;have e:i.toNat=j:=qdB h;exact ⟨by rw [seqIndex_of h0 h1,e],by omega,by omega,h1⟩
  ·rw [if_neg h1] at h;cases h
 ·rw [if_neg h0] at h;by_cases h1:-(n:Int)<=i
  ·rw [if_pos h1] at h;have e:(i+n).toNat=j:=qdB h;exact ⟨by rw [seqIndex_neg (by omega) h1,e],by omega,h1,by omega⟩
  ·rw [if_neg h1] at h;cases h
theorem JW {α:Type}{xs:List α}{i:Int}{v:α}(h:atI xs i=some v):∃ j,seqIndex? i xs.length=some j/\xs[j]? = some v/\j<xs.length/\-(xs.length:Int)<=i/\i<xs.length:=by
 unfold atI at h
 cases e:ixN xs.length i with
 | none=>rw [e] at h;cases h
 | some j =>
  rw [e] at h;obtain ⟨h1,h2,h3,h4⟩:=M8 e;exact ⟨j,h1,h,h2,h3,h4⟩
theorem atI_nat {α:Type}{xs:List α}{j:Nat}{v:α}(h:xs[j]? = some v):atI xs (j:Int)=some v:=by
 have hj:j<xs.length:=(qtA.mp h).1
 have e:ixN xs.length (j:Int)=some j:=by
  unfold ixN;rw [if_pos (by omega),if_pos (by omega)];simp
 unfold atI;rw [e];exact h
theorem atI_last {α:Type}(xs:List α)(v:α):atI (xs++[v]) (-1)=some v:=by
 have hl:(xs++[v]).length=xs.length+1:=by simp
 have e:ixN (xs++[v]).length (-1)=some xs.length:=by
  unfold ixN;rw [hl,if_neg (by decide),if_pos (by omega)]
  congr 1
  omega
 unfold atI;rw [e];show (xs++[v])[xs.length]? = some v;simp
def Mh (b:Expr):Prop:=∀ o i,subscripted b false o i=operate [o,i] (getItem o i)
def IxR (X:Cx)(r:R2):Prop :=
 ∀ (value slice:Expr) (pins:List (Addr × Obj)) (s:Shared) (σ:St) (H:Hp) (x y:V) (v u:Value) (Q:VK),Inv X pins σ H s->RelV x v->RelV y u->r x y H Q ->
  subscripted slice false v u=operate [v,u] (getItem v u)->wpAny (model X.prog X.w) X.A (subscriptTail value slice v u) (EP X pins σ Q) X.xe s
def MtR (X:Cx)(id:String)(r:V->List V->Hp->VK->Prop):Prop :=
 ∀ (pins:List (Addr × Obj)) (s:Shared) (σ:St) (H:Hp) (x:V) (xs:List V) (v:Value) (us:List Value) (Q:VK),Inv X pins σ H s->RelV x v->Vals xs us->r x xs H Q ->
  wpAny (model X.prog X.w) X.A (call (.builtin id) (v::us)) (EP X pins σ Q) X.xe s
section
variable {X:Cx}{a b:Expr}{ta tb:TE}{pos:Pos}
theorem pe_ix {r:R2}(hr:IxR X r)(ha:PE X a ta)(hb:PE X b tb)(hs:Mh b):PE X (.Subscript a b pos) (tOp r ta tb):=by
 intro pins s σ H Q I h;exact Subscript_ (binT ha hb I h fun v u s2 x y H2 I2 rx ry q=>hr a b pins s2 σ H2 x y v u Q I2 rx ry q (hs _ _))
def rIxL (K:FZ9):R2:=fun x y H Q=>∃ p xs i v,x = .ref p/\y = .int i/\SqL K H p xs/\atI xs i=some v/\Q v H
def rIxT (K:FZ9):R2:=fun x y H Q=>∃ p xs i v,x = .ref p/\y = .int i/\SqT K H p xs/\atI xs i=some v/\Q v H
def rIxS:R2:=fun x y H Q=>∃ z i c,x = .str z/\y = .int i/\z.length<=sizeLine/\atI z.cps.toList i=some c/\Q (.str ⟨#[c]⟩) H
theorem ix_list:IxR X (rIxL X.K):=by
 intro value slice pins s σ H x y v u Q I rx ry h hs;obtain ⟨p,xs,i,z,rfl,rfl,hq,he,q⟩:=h;cases rx;obtain ⟨t,rfl⟩:=ry;obtain ⟨its,r,pl,hz⟩:=I.list hq;obtain ⟨j,h1,h2,h3,h4,h5⟩:=JW he;obtain ⟨w,ew,rw'⟩:=r.get h2;have hl:=r.length;have hn:=FG;have fin:EP X pins σ Q w s:=⟨z,H,I,rw',q⟩;by_cases h0:0<=i
 ·have hj:i.toNat=j:=by
   rw [seqIndex_of h0 h5] at h1;exact qdB h1
  exact item_listR pl.isList h0 (by omega) (by rw [hj];simpa using ew) fin hs
 ·have hj:(i+(its.toArray.size:Int)).toNat=j:=by
   rw [seqIndex_neg (by omega) h4] at h1;rw [qoB,<- hl];exact qdB h1
  exact subscriptTail_builtinR (x:=w) pl.isList.typeIs slot_list_getitem.lookup
   (wpAny_getItem_list_neg (Q:=fun r s'=>r=w/\EP X pins σ Q r s') pl.isList (by omega) (by rw [qoB]<;>omega) (by omega) (by rw [hj];simpa using ew) ⟨rfl,fin⟩) hs
theorem ix_tup:IxR X (rIxT X.K):=by
 intro value slice pins s σ H x y v u Q I rx ry h hs;obtain ⟨p,xs,i,z,rfl,rfl,hq,he,q⟩:=h;cases rx;obtain ⟨t,rfl⟩:=ry;obtain ⟨its,r,pl,hz⟩:=I.tuple hq;obtain ⟨j,h1,h2,h3,h4,h5⟩:=JW he;obtain ⟨w,ew,rw'⟩:=r.get h2;have hl:=r.length;have hn:=FG;have fin:EP X pins σ Q w s:=⟨z,H,I,rw',q⟩
 exact subscriptTail_builtinR (x:=w) pl.typeIs slot_tuple_getitem.lookup
  (getItem_tuple (j:=j) (Q:=fun r s'=>r=w/\EP X pins σ Q r s') pl (by omega) (by omega) (by rw [qoB,<- hl];exact h1) (by simpa using ew) ⟨rfl,fin⟩) hs
theorem ix_str:IxR X rIxS:=by
 intro value slice pins s σ H x y v u Q I rx ry h hs;obtain ⟨z,i,c,rfl,rfl,hz,he,q⟩:=h;obtain ⟨t,rfl⟩:=rx;obtain ⟨t',rfl⟩:=ry;obtain ⟨j,h1,h2,h3,h4,h5⟩:=JW he;have hl:z.cps.toList.length=z.length:=by simp [Str.length]
 rw [hl] at h1 h4 h5;have hn:=FG
 exact tail_any (typeIs_str s z t) slot_str_getitem.lookup (getItem_str (c:=c) (by
  have e1:decide (i < -(2 ^ 63:Int))=false:=decide_eq_false (by omega);have e2:decide (i>=2 ^ 63)=false:=decide_eq_false (by omega)
  rw [e1,e2,Bool.or_false]) (by rw [h1];simpa using h2) ⟨.str ⟨#[c]⟩,H,I.tok _,⟨_,rfl⟩,q⟩) hs
theorem LZ (its:List Value)(n j:Nat)(u:Value):Obj.mapSeq (·.setIfInBounds j u) { cls:=.type "list",data:=.seq its.toArray n } = { cls:=.type "list",data:=.seq (its.set j u).toArray n }:=by
 simp [Obj.mapSeq]
theorem Inv.lst {pins:List (Addr × Obj)}{σ:St}{H:Hp}{s:Shared}{p:Addr}{xs:List V}(I:Inv X pins σ H s)(h:H p=some (.lst xs)) :
  ∃ (its:List Value) (n:Nat),Vals xs its/\s.heap.get? p=some { cls:=.type "list",data:=.seq its.toArray n }/\xs.length<=sizeLine:=by
 obtain ⟨z,its,n,r,e⟩:=I.hok p _ h;exact ⟨its,n,r,e,z⟩
theorem Inv.lstUpd {pins:List (Addr × Obj)}{σ:St}{H:Hp}{s:Shared}{p:Addr}{xs ys:List V}{its its':List Value}{n n':Nat}{f:Obj->Obj}(I:Inv X pins σ H s)(h:H p=some (.lst xs))
  (ho:s.heap.get? p=some { cls:=.type "list",data:=.seq its.toArray n }) (hf:f { cls:=.type "list",data:=.seq its.toArray n } = { cls:=.type "list",data:=.seq its'.toArray n' }) (r:Vals ys its') (hz:ys.length<=sizeLine) (t:Nat) :
  Inv X pins σ (upd H p (.lst ys)) { s with heap:=s.heap.update p f,toks:=t }:=by
 have e:(s.heap.update p f).get? p=some { cls:=.type "list",data:=.seq its'.toArray n' }:=by
  rw [Heap.get?_update_self f ho (by rw [hf]<;>rfl),hf]
 refine I.write (x:=p) (e:=p) (by rw [h];trivial) (.inl rfl) (fun b u hb q=>(Heap.get?_update_other _ _ (Ne.symm hb)).trans q) ⟨_,e⟩ ?_;exact ⟨hz,its',n',r,e⟩
def rSetL:V->V->V->Hp->(Hp->Prop)->Prop:=fun o i v H Q=>∃ p xs k j,o = .ref p/\i = .int k/\H p=some (.lst xs)/\ixN xs.length k=some j/\Q (upd H p (.lst (xs.set j v)))
theorem E3:PSet X rSetL:=by
 intro pins s σ H o i v ov iv u Q I ro ri rv h;obtain ⟨p,xs,k,j,rfl,rfl,hp,hj,q⟩:=h;cases ro;obtain ⟨t,rfl⟩:=ri;obtain ⟨its,n,r,ho,hz⟩:=I.lst hp;obtain ⟨h1,h2,h3,h4⟩:=M8 hj;have hl:=r.length;have hn:=FG
 have I':Inv X pins σ (upd H p (.lst (xs.set j v))) { s with heap:=s.heap.update p (Obj.mapSeq (·.setIfInBounds j u)) } :=
  I.lstUpd hp ho (LZ its n j u) (r.set rv j) (by rw [List.length_set];exact hz) s.toks
 by_cases h0:0<=k
 ·have hk:k.toNat=j:=by
   rw [seqIndex_of h0 h4] at h1;exact qdB h1
  exact PySem.W.ki_setAt ho h0 (by omega) (by rw [qoB,<- hl];exact h4) (by rw [hk];exact ⟨_,I',q⟩)
 ·have hk:(k+(its.toArray.size:Int)).toNat=j:=by
   rw [seqIndex_neg (by omega) h3] at h1;rw [qoB,<- hl];exact qdB h1
  exact PySem.W.ki_setBack ho (by omega) (by rw [qoB,<- hl];exact h3) (by omega) (by rw [hk];exact ⟨_,I',q⟩)
theorem JG (lo hi:Option Int)(n:Nat):(sliceBounds lo hi none n).1=((HT.sIx n 0 lo:Nat):Int)/\(sliceBounds lo hi none n).2.1=((HT.sIx n n hi:Nat):Int)/\(sliceBounds lo hi none n).2.2=1:=by
 refine ⟨?_,?_,rfl⟩
 ·cases lo with
  | none=>simp [sliceBounds,HT.sIx]
  | some i =>
   simp only [sliceBounds,HT.sIx,Option.getD_none,show (1:Int) > 0 by decide,if_true];by_cases h:i<0
   ·simp only [h,if_true]<;>omega
   ·simp only [h,if_false]<;>omega
 ·cases hi with
  | none=>simp [sliceBounds,HT.sIx]
  | some i =>
   simp only [sliceBounds,HT.sIx,Option.getD_none,show (1:Int) > 0 by decide,if_true];by_cases h:i<0
   ·simp only [h,if_true]<;>omega
   ·simp only [h,if_false]<;>omega
theorem IY (its:List Value)(lo hi:Option Int):slicePick its.toArray lo hi none=((its.drop (HT.sIx its.length 0 lo)).take (HT.sIx its.length its.length hi - HT.sIx its.length 0 lo)).toArray:=by
 obtain ⟨h1,h2,h3⟩:=JG lo hi its.toArray.size;unfold slicePick;rw [h1,h2,h3];simp only [sliceRange_one,pick_run,qoB]<;>rfl
def rSlL (K:FZ9):V->Option Int->Option Int->Hp->VK->Prop:=fun x lo hi H Q=>∃ a xs,x = .ref a/\SqL K H a xs/\∀ p,H p=none->Q (.ref p) (upd H p (.lst (HY xs lo hi)))
theorem sl_list:SlR X (rSlL X.K):=by
 intro pins s σ H x v vl vu lo hi sl Q I rx hs pl pu h;obtain ⟨a,xs,rfl,hx,q⟩:=h;cases rx;obtain ⟨its,r,ht,hz⟩:=I.list hx;have hlen:=r.length;refine ⟨"list",_,slot_list_getitem.lookup,ht.isList.typeIs,?_⟩;refine wpAny_getItem_list_slice ht.isList hs pl pu .none (by simp) ?_ (by rw [qoB]<;>omega);rw [IY,<- hlen];refine ⟨.ref s.heap.objs.size,_,I.laid (t':=s.toks) (o:=.lst (HY xs lo hi)) (fun b ob q=>qfB _ q) (qzA _) ?_,rfl,q _ (I.hok.fresh (qzA _))⟩;exact ⟨qaB (Da xs lo hi) hz,_,0,(r.drop (HT.sIx xs.length 0 lo)).take (HT.sIx xs.length xs.length hi - HT.sIx xs.length 0 lo),qgB _ rfl⟩
def F9:V->Bool
 | .non=>true
 | .bl _=>true
 | .int _=>true
 | .str _=>true
 | _=>false
def eqV:V->V->Bool
 | .non,.non=>true
 | .bl a,.bl b=>a == b
 | .bl a,.int b=>(if a then 1 else 0) == b
 | .int a,.bl b=>a == (if b then 1 else 0)
 | .int a,.int b=>a == b
 | .str a,.str b=>a == b
 | _,_=>false
theorem eqAt_V {A:Around}{s:Shared}{y x:V}{u v:Value}(ry:RelV y u)(rx:RelV x v)(fy:F9 y=true)(fx:F9 x=true):SeqAt.EqAt A s u v (eqV y x):=by
 cases y with
 | non =>
  cases ry
  cases x with
  | non=>cases rx;exact SeqAt.EqAt.same _
  | bl b=>cases rx;exact SeqAt.EqAt.none_bool b
  | int b=>obtain ⟨t,rfl⟩:=rx;exact SeqAt.EqAt.none_int b t
  | str b=>obtain ⟨t,rfl⟩:=rx;exact SeqAt.EqAt.none_str b t
  | _=>exact absurd (show false=true from fx) qnB
 | bl a =>
  cases ry
  cases x with
  | non=>cases rx;exact SeqAt.EqAt.bool_none a
  | bl b=>cases rx;exact SeqAt.EqAt.bool_bool a b
  | int b=>obtain ⟨t,rfl⟩:=rx;exact SeqAt.EqAt.bool_int a b t
  | str b=>obtain ⟨t,rfl⟩:=rx;exact SeqAt.EqAt.bool_str a b t
  | _=>exact absurd (show false=true from fx) qnB
 | int a =>
  obtain ⟨t',rfl⟩:=ry
  cases x with
  | non=>cases rx;exact SeqAt.EqAt.int_none a t'
  | bl b=>cases rx;exact SeqAt.EqAt.int_bool a t' b
  | int b=>obtain ⟨t,rfl⟩:=rx;exact SeqAt.EqAt.int_int a t' b t
  | str b=>obtain ⟨t,rfl⟩:=rx;exact SeqAt.EqAt.int_str a t' b t
  | _=>exact absurd (show false=true from fx) qnB
 | str a =>
  obtain ⟨t',rfl⟩:=ry
  cases x with
  | non=>cases rx;exact SeqAt.EqAt.str_none a t'
  | bl b=>cases rx;exact SeqAt.EqAt.str_bool a t' b
  | int b=>obtain ⟨t,rfl⟩:=rx;exact SeqAt.EqAt.str_int a t' b t
  | str b=>obtain ⟨t,rfl⟩:=rx;exact SeqAt.EqAt.str_str a t' b t
  | _=>exact absurd (show false=true from fx) qnB
 | _=>exact absurd (show false=true from fy) qnB
def eqU (x:V)(u:Value):Bool:=match u with
 | .none=>eqV .non x
 | .bool b=>eqV (.bl b) x
 | .int i _=>eqV (.int i) x
 | .str z _=>eqV (.str z) x
 | _=>false
theorem eqU_of {x y:V}{u:Value}(r:RelV y u)(f:F9 y=true):eqU x u=eqV y x:=by
 cases y with
 | non=>cases r;rfl
 | bl b=>cases r;rfl
 | int i=>obtain ⟨t,rfl⟩:=r;rfl
 | str z=>obtain ⟨t,rfl⟩:=r;rfl
 | _=>exact absurd (show false=true from f) qnB
theorem Jc {x:V}:∀ {xs:List V}{us:List Value},Vals xs us->xs.all F9=true->us.any (eqU x)=xs.any fun y=>eqV y x
 | _,_,.nil,_=>rfl
 | y::xs,u::us,.cons r t,f=>by
  rw [List.all_cons,qyB] at f;rw [List.any_cons,List.any_cons,eqU_of r f.1,Jc t f.2]
theorem HX {A:Around}{s:Shared}{x:V}{v:Value}(rx:RelV x v)(fx:F9 x=true):∀ {xs:List V}{us:List Value},Vals xs us->xs.all F9=true->∀ u∈us,SeqAt.EqAt A s u v (eqU x u)
 | _,_,.nil,_=>fun u hu=>by cases hu
 | y::xs,u::us,.cons r t,f=>fun u' hu=>by
  rw [List.all_cons,qyB] at f;rcases qmA.mp hu with rfl|hu
  ·rw [eqU_of r f.1];exact eqAt_V r rx f.1 fx
  ·exact HX rx fx t f.2 u' hu
def inV (x:V)(xs:List V):Bool:=xs.any fun y=>eqV y x
def rIn (K:FZ9)(neg:Bool):R2:=fun x y H Q=>∃ p xs,y = .ref p/\(SqL K H p xs\/SqT K H p xs)/\F9 x=true/\xs.all F9=true/\Q (.bl (if neg then !inV x xs else inV x xs)) H
theorem NQ:OpR X (compareOp .In) (rIn X.K false):=by
 intro pins s σ H x y v u Q I rx ry h;obtain ⟨p,xs,rfl,hq,fx,fs,q⟩:=h;cases ry;rcases hq with hq|hq
 ·obtain ⟨its,r,pl,hz⟩:=I.list hq;refine SeqAt.in_listAt (eqU x) pl.isList (fun w hw=>HX rx fx r fs w (by simpa using hw)) ⟨.bl _,H,I,rfl,?_⟩;rw [show its.toArray.any (eqU x)=its.any (eqU x) by simp,Jc r fs];exact q
 ·obtain ⟨its,r,pl,hz⟩:=I.tuple hq;refine SeqAt.in_tupleAt (eqU x) pl (fun w hw=>HX rx fx r fs w (by simpa using hw)) ⟨.bl _,H,I,rfl,?_⟩;rw [show its.toArray.any (eqU x)=its.any (eqU x) by simp,Jc r fs];exact q
theorem Jh:CW X (.builtin "len") (fun xs H Q=>∃ p ys,xs=[.ref p]/\(SqL X.K H p ys\/SqT X.K H p ys)/\Q (.int ys.length) H):=by
 intro pins s σ H xs us Q I r h;obtain ⟨p,ys,rfl,hq,q⟩:=h;obtain ⟨u,rfl,rx⟩:=Dy r;cases rx;have hn:=FG;rcases hq with hq|hq
 ·obtain ⟨its,r',pl,hz⟩:=I.list hq;have hlen:=r'.length;exact Calls.call_len_list pl.isList (by simp only [qoB]<;>omega) ⟨.int ys.length,H,I.tok _,⟨s.toks+1,by rw [qoB,hlen]⟩,q⟩
 ·obtain ⟨its,r',pl,hz⟩:=I.tuple hq;have hlen:=r'.length;exact len_tuple pl (by simp only [qoB]<;>omega) ⟨.int ys.length,H,I.tok _,⟨s.toks+1,by rw [qoB,hlen]⟩,q⟩
theorem JN:CW X (.builtin "len") (fun xs H Q=>∃ z,xs=[.str z]/\z.length<=sizeLine/\Q (.int z.length) H):=by
 intro pins s σ H xs us Q I r h;obtain ⟨z,rfl,hz,q⟩:=h;obtain ⟨u,rfl,t,rfl⟩:=Dy r;have hn:=FG;exact len_str (by omega) ⟨.int z.length,H,I.tok _,⟨_,rfl⟩,q⟩
theorem JM:CW X (.type "list") (fun xs H Q=>∃ p ys,xs=[.ref p]/\(SqL X.K H p ys\/SqT X.K H p ys)/\∀ l,H l=none->Q (.ref l) (upd H l (.lst ys))):=by
 intro pins s σ H xs us Q I r h;obtain ⟨p,ys,rfl,hq,q⟩:=h;obtain ⟨u,rfl,rx⟩:=Dy r;cases rx
 have fin:∀ (its:List Value),Vals ys its->ys.length<=sizeLine->∀ (h':Heap) (c':Nat),(∀ b o',s.heap.get? b=some o'->h'.get? b=some o') ->
   h'.get? s.heap.objs.size=some { cls:=.type "list",dict:=none,data:=.seq its.toArray c',slots:=#[] }->EP X pins σ Q (.ref s.heap.objs.size) { s with heap:=h' }:=fun its r' hz h' c' kp e =>
  ⟨.ref s.heap.objs.size,_,I.laid (t':=s.toks) kp (qzA _) (show ObjOk X.prog X.w _ h' _ (.lst ys) from ⟨hz,its,c',r',e⟩),rfl,q _ (I.hok.fresh (qzA _))⟩
 rcases hq with hq|hq
 ·obtain ⟨its,r',pl,hz⟩:=I.list hq;have hlen:=r'.length;obtain ⟨o,ho,hc,n,hd⟩:=pl.isList;exact call_list_seq p (.inl rfl) ho hc hd (fun h' c' kp e=>fin its r' hz h' c' kp e) (by simp only [qoB]<;>omega)
 ·obtain ⟨its,r',pl,hz⟩:=I.tuple hq;have hlen:=r'.length;obtain ⟨o,ho,hc,n,hd⟩:=pl;exact call_list_seq p (.inr rfl) ho hc hd (fun h' c' kp e=>fin its r' hz h' c' kp e) (by simp only [qoB]<;>omega)
theorem Ia:CW X (.type "tuple") (fun xs H Q=>∃ p ys,xs=[.ref p]/\((SqL X.K H p ys/\∀ l,H l=none->Q (.ref l) (upd H l (.tup ys)))\/(SqT X.K H p ys/\Q (.ref p) H))):=by
 intro pins s σ H xs us Q I r h;obtain ⟨p,ys,rfl,h⟩:=h;obtain ⟨u,rfl,rx⟩:=Dy r;cases rx;rcases h with ⟨hq,q⟩ | ⟨hq,q⟩
 ·obtain ⟨its,r',pl,hz⟩:=I.list hq;have hlen:=r'.length;refine call_tuple_list pl.isList (fun h' kp=>?_) (by simp only [qoB]<;>omega);have I1:Inv X pins σ H { s with heap:=h' }:=I.kept (t':=s.toks) kp
  have I2:Inv X pins σ (upd H h'.objs.size (.tup ys)) { s with heap:=h'.push { cls:=.type "tuple",data:=.seq its.toArray } } :=
   I1.laid (t':=s.toks) (fun b o e=>qfB _ e) (qzA _) (show ObjOk X.prog X.w _ _ _ (.tup ys) from ⟨hz,its,r',IsTup.new _ _⟩)
  exact ⟨.ref h'.objs.size,_,I2,rfl,q _ (I1.hok.fresh (qzA _))⟩
 ·obtain ⟨its,r',pl,hz⟩:=I.tuple hq;exact call_tuple_same pl ⟨.ref p,H,I,rfl,q⟩
def tyV (K:FZ9)(T:String)(x:V)(H:Hp):Prop:=match x with
 | .str _=>T = "str"
 | .int _=>T = "int"
 | .ref p=>(T = "list" /\ ∃ xs,SqL K H p xs)\/(T = "tuple" /\ ∃ o,K.lookup p=some o/\o.cls = .type "tuple" /\ o.dict=none) \/
   (T = "dict" /\ ((∃ kvs,H p=some (.dK kvs))\/∃ kvs,H p=some (.dT kvs)))\/(T = "set" /\ ∃ S n,H p=some (.set S n))
 | _=>False
theorem tyV_is {pins:List (Addr × Obj)}{σ:St}{H:Hp}{s:Shared}{T:String}{x:V}{v:Value}(I:Inv X pins σ H s)(r:RelV x v)(ty:tyV X.K T x H) :
  s.TypeIs v T/\∀ a,v = .ref a->∃ ob,s.heap.get? a=some ob/\ob.dict=none:=by
 cases x with
 | str z =>
  obtain ⟨t,rfl⟩:=r;cases (show T = "str" from ty);exact ⟨typeIs_str s z t,fun _ e=>nomatch e⟩
 | int i =>
  obtain ⟨t,rfl⟩:=r;cases (show T = "int" from ty);exact ⟨typeIs_int s i t,fun _ e=>nomatch e⟩
 | ref p =>
  cases r;rcases ty with ⟨rfl,xs,hq⟩ | ⟨rfl,o,hk,hc,hd⟩ | ⟨rfl,hk⟩ | ⟨rfl,S,n,hk⟩
  ·obtain ⟨its,_,pl,_⟩:=I.list hq;refine ⟨pl.isList.typeIs,fun a e=>?_⟩;cases e;obtain ⟨o,n,e,c,hd,_⟩:=pl;exact ⟨o,e,hd⟩
  ·refine ⟨⟨o,I.kIn p o hk,hc⟩,fun a e=>?_⟩;cases e;exact ⟨o,I.kIn _ o hk,hd⟩
  ·have z:∃ o,s.heap.get? p=some o/\o.ExactDict:=by
    rcases hk with ⟨kvs,hk⟩ | ⟨kvs,hk⟩
    ·obtain ⟨_,_,_,_,o,_,_,e,ex,_⟩:=I.hok p _ hk;exact ⟨o,e,ex⟩
    ·obtain ⟨_,_,_,_,o,_,_,e,ex,_⟩:=I.hok p _ hk;exact ⟨o,e,ex⟩
   obtain ⟨o,e,ex⟩:=z;refine ⟨⟨o,e,ex.1⟩,fun a e2=>?_⟩;cases e2;exact ⟨o,e,ex.2.1⟩
  ·obtain ⟨o,_,_,_,e,ex,_⟩:=I.hok p _ hk;refine ⟨⟨o,e,ex.1⟩,fun a e2=>?_⟩;cases e2;exact ⟨o,e,ex.2.1⟩
 | _=>exact False.elim ty
abbrev tBM (K:FZ9)(T:String)(r:V->List V->Hp->VK->Prop)(to:TE)(t:TA):TE:=fun σ H Q=>to σ H fun x H1=>tyV K T x H1/\t σ H1 fun xs H2=>r x xs H2 Q
variable {o e:Expr}{es:List Expr}{to:TE}{t:TA}{name:Str}{apos cpos:Pos}{T id:String}{r:V->List V->Hp->VK->Prop}
theorem pe_bm (pa:PlainAttrs T)(slot:Slot T name id)(hty:typeOf (.builtin id)=pure (.type "method_descriptor"))(hm:MtR X id r)(ho:PE X o to)(ha:PA X (e::es) t)
  (hbase:attributeBase o name X.env (eval o X.env)=eval o X.env:=by rfl)
  (hfew:((backTo cpos (starEach (e::es) X.env)).all (fun x=>!x.1) && (backToKw cpos (keywordEach [] X.env)).all (fun x=>x.1.isSome)
   && decide ((e::es).length+([]:List Keyword).length+(if ([]:List Keyword).isEmpty then 0 else 1)<30))=true:=by rfl)
  (hline:(apos.endLine == cpos.line)=true:=by rfl) (hs:starEach (e::es) X.env=(false,eval e X.env)::starEach es X.env:=by rfl) (hplain:(backTo cpos (starEach es X.env)).any (·.1)=false:=by rfl) :
  PE X (.Call (.Attribute o name apos) (e::es) [] cpos) (tBM X.K T r to t):=by
 intro pins s σ H Q I h;refine wpAny_Call_method_late hbase hfew hline rfl (thn (ho pins s σ H _ I h) fun v s1 ⟨x,H1,I1,r1,ty,q1⟩=>?_);obtain ⟨h1,h2⟩:=tyV_is I1 r1 ty;refine ⟨T,id,pa,slot,hty,h1,h2,?_⟩;have hA:=ha cpos pins s1 σ H1 _ I1 q1;rw [hs] at hA ⊢;refine Calls.callWith_builtin (by show (false || (backTo cpos (starEach es X.env)).any (·.1))=false;rw [hplain]<;>rfl) (Calls.evalArgs_plain ?_);exact thn hA fun us s2 ⟨vs,H2,I2,r2,q2⟩=>hm pins s2 σ H2 x vs v us Q I2 r1 r2 q2
end
def MtM (X:Cx)(id:String)(r:V->List V->Hp->VK->Prop):Prop :=
 ∀ (pins:List (Addr × Obj)) (s:Shared) (σ:St) (H:Hp) (x:V) (xs:List V) (v:Value) (us:List Value) (Q:VK),Inv X pins σ H s->RelV x v->Vals xs us->r x xs H Q ->
  wpAny (model X.prog X.w) X.A (call (.builtin id) (v::us)) (EP X pins σ Q) X.xe s
theorem Vals.one:∀ {x:V}{us:List Value},Vals [x] us->∃ u,us=[u]/\RelV x u
 | _,_,.cons r .nil=>⟨_,rfl,r⟩
theorem Vals.rep {xs:List V}{us:List Value}(h:Vals xs us):∀ k:Nat,Vals (List.replicate k xs).flatten (List.replicate k us).flatten
 | 0=>.nil
 | k+1=>by
  rw [List.replicate_succ,List.replicate_succ,List.flatten_cons,List.flatten_cons];exact Vals.append h (Vals.rep h k)
theorem GL (its:List Value):∀ (k:Nat) (acc:List Value),
  List.foldl (fun x1 x2=>x1++x2) acc.toArray (List.replicate k its.toArray)=(acc++(List.replicate k its).flatten).toArray
 | 0,acc=>by simp
 | k+1,acc=>by
  have e:acc.toArray++its.toArray=(acc++its).toArray:=by simp
  have e2:(acc++its)++(List.replicate k its).flatten=acc++(List.replicate (k+1) its).flatten:=by
   rw [List.replicate_succ,List.flatten_cons,qyA]
  rw [<- e2,<- GL its k (acc++its),<- e,List.replicate_succ,qwB]
section
variable {X:Cx}{pins:List (Addr × Obj)}{σ:St}{H:Hp}{s:Shared}{l b:Addr}{xs ys zs:List V}
theorem Inv.lset {its its':List Value}{n:Nat}{f:Array Value->Array Value}{t':Nat}(I:Inv X pins σ H s)(hH:H l=some (.lst xs))
  (e:s.heap.get? l=some { cls:=.type "list",data:=.seq its.toArray n }) (hf:f its.toArray=its'.toArray) (hv:Vals ys its') (hz:ys.length<=sizeLine) :
  Inv X pins σ (upd H l (.lst ys)) { s with heap:=s.heap.update l (Obj.mapSeq f),toks:=t' }:=by
 have q:=PySem.IsL.update e f;rw [hf] at q;refine I.write (x:=l) (e:=l) (by rw [hH];exact trivial) (.inl rfl) (fun b' u hb hu=>(Heap.get?_update_other s.heap (Obj.mapSeq f) (Ne.symm hb)).trans hu) ⟨_,q⟩ ?_;exact ⟨hz,its',_,hv,q⟩
theorem Inv.lnew {its:List Value}{t':Nat}(I:Inv X pins σ H s)(hv:Vals ys its)(hz:ys.length<=sizeLine) :
  Inv X pins σ (upd H s.heap.objs.size (.lst ys)) { s with heap:=s.heap.push { cls:=.type "list",data:=.seq its.toArray },toks:=t' } :=
 I.laid (fun _ _ q=>qfB _ q) (qzA _) ⟨hz,its,0,hv,qgB _ rfl⟩
theorem Inv.fresh (I:Inv X pins σ H s):H s.heap.objs.size=none:=I.hok.fresh (qzA _)
theorem Inv.lstM (I:Inv X pins σ H s)(hH:H l=some (.lst xs)):xs.length<=sizeLine/\∃ (its:List Value) (n:Nat),Vals xs its/\xs.length=its.length/\s.heap.get? l=some { cls:=.type "list",data:=.seq its.toArray n }:=by
 obtain ⟨z,its,n,r,e⟩:=I.hok l _ hH;exact ⟨z,its,n,r,r.length,e⟩
theorem KD {n:Nat}(h:n<=sizeLine):Builtin.List.listTooLong n=false:=by
 unfold Builtin.List.listTooLong;exact decide_eq_false (by omega)
end
section
variable {X:Cx}
def K7:V->List V->Hp->VK->Prop:=fun x vs H Q=>∃ l xs y,x = .ref l/\vs=[y]/\H l=some (.lst xs)/\xs.length<sizeLine/\Q .non (upd H l (.lst (xs++[y])))
theorem Im:MtM X "list.append" K7:=by
 intro pins s σ H x vs v us Q I rx rv h;obtain ⟨l,xs,y,rfl,rfl,hH,hz,q⟩:=h;cases rx;obtain ⟨u,rfl,ru⟩:=rv.one;obtain ⟨z,its,n,r,hl,e⟩:=I.lstM hH;refine call_meets F.slot_list_append ⟨_,e,rfl⟩ F.entry_list_append (F.args_list_append_2 _ _) (PySem.list_append l its.toArray n u (by rw [qoB];omega)) ⟨e,?_⟩;refine ⟨.non,_,I.lset (its':=its++[u]) hH e (by simp) (r.append (.cons ru .nil)) ?_,rfl,q⟩;rw [qfA,qhA];omega
def rRep:R2:=fun x y H Q=>∃ l k xs,x = .ref l/\y = .int k/\H l=some (.lst xs)/\-(2 ^ 63)<=k/\k<2 ^ 63/\xs.length * k.toNat<=sizeLine /\
 ∀ p,H p=none->Q (.ref p) (upd H p (.lst (List.replicate k.toNat xs).flatten))
theorem Jj {α:Type}(xs:List α)(k:Nat):(List.replicate k xs).flatten.length=k * xs.length:=by
 induction k with
 | zero=>simp
 | succ k ih=>rw [List.replicate_succ,List.flatten_cons,qfA,ih,Nat.succ_mul,Nat.add_comm]
theorem op_rep:OpR X (binaryOp .Mult) rRep:=by
 intro pins s σ H x y v u Q I rx ry h;obtain ⟨l,k,xs,rfl,rfl,hH,h1,h2,hz,q⟩:=h;cases rx;obtain ⟨t,rfl⟩:=ry;obtain ⟨z,its,n,r,hl,e⟩:=I.lstM hH;have hlen:its.toArray.size * k.toNat<=sizeLine:=by rw [qoB,<- hl];exact hz
 have hcap:¬ its.toArray.size * k.toNat > (2 ^ 63 - 1) / 8:=by
  have:(sizeLine:Nat)<=(2 ^ 63 - 1) / 8:=by decide
  omega
 have hfit:¬ (!Builtin.List.listFitsIndex k)=true:=by
  rw [fitsIndex_both h1 h2];exact qnB
 have hlong:¬ Builtin.List.listTooLong (its.toArray.size * k.toNat)=true:=by
  rw [KD hlen];exact qnB
 have hnew:List.foldl (fun x1 x2=>x1++x2) #[] (List.replicate (if its.toArray.isEmpty=true then 0 else k.toNat) its.toArray)=(List.replicate k.toNat its).flatten.toArray:=by
  have f0:∀ m:Nat,List.foldl (fun x1 x2=>x1++x2) #[] (List.replicate m its.toArray)=(List.replicate m its).flatten.toArray:=fun m=>by
   have:=GL its m [];rw [List.nil_append] at this;exact this
  rw [f0]
  cases its with
  | nil=>simp
  | cons a r'=>rw [if_neg (by simp)]
 refine wpAny_binaryOp_repeat_ref (T := "list") (U := "int") (by decide) ⟨_,e,rfl⟩ (fun s'=>typeIs_int s' k t) noFill_list_mul F.fills_int_mul F.slot_int_rmul repeat_list F.slot_int_index.lookup
  (call_meets F.slot_int_rmul (typeIs_int s k t) F.entry_int_rmul (F.args_int_rmul_2 _ _) (int___rmul___int_list k t l its.toArray n)
   ⟨e,rfl,⟨_,e,rfl⟩,call_meets F.slot_list_mul ⟨_,e,rfl⟩ F.entry_list_mul (F.args_list_mul_2 _ _) (AutoListH.list___mul___list_int_3 l its.toArray n k t hfit hcap hlong) ⟨e,?_⟩⟩)
 rw [hnew];exact ⟨.ref _,_,I.lnew (t':=s.toks) (r.rep k.toNat) (by rw [Jj,Nat.mul_comm];exact hz),rfl,q _ I.fresh⟩
end
end L2
namespace Att
open PySem PySem.W PySem.Calls PyProof.Rows
theorem Go {P:Params}{h:Heap}:∀ (ns:List Int) (vs:List Value),WellAll P h vs (ns.map WData.int)->IntsAre vs ns:=by
 intro ns
 induction ns with
 | nil =>
  intro vs w;rw [List.map_nil] at w;cases w;exact .nil
 | cons n ns ih =>
  intro vs w;rw [qxA] at w
  cases w with
  | cons a b =>
   cases a;exact .cons _ _ (ih _ b)
theorem Mx {l:OpenLaw}{n:Nat}(hn:l.most=some n){P:Params}{h:Heap}{args:List WData}{vals:List Value}
  (hpre:l.row.toRowW.claim.pre args=true) (hwl:WellAll P h vals args) :
  ∃ a vs ns,vals=[Value.ref a]/\args=[WData.list (ns.map WData.int)]/\h.get? a=some { cls:=.type "list",data:=.seq vs.toArray }/\IntsAre vs ns/\ns.length<=n:=by
 have hsh:WShape.hasAll [] args [.list .int]=true:=(pre_splitW hpre).1;have hc:l.pre.holds [] { args:=args }=true:=(pre_splitW hpre).2;obtain ⟨d,r,rfl,h1,h2⟩:=hasAllW_cons hsh;obtain rfl:=hasAllW_nil h2;obtain ⟨xs,rfl,h3⟩:=hasW_list h1;obtain ⟨ns,rfl⟩:=items_int h3
 have hlen:ns.length<=n:=by
  unfold OpenLaw.pre at hc
  have h4:(WTm.not (.lt (.lit (.int (n:Int))) (.len (.arg 0)))).holds [] { args:=[.list (ns.map .int)] }=true:=by
   have h4:=(holds_andW hc).1;rw [hn] at h4;exact h4
  have h5:=condW_of h4 (w_not (w_lt w_lit (w_len_list (w_arg rfl))));rw [qeA] at h5;refine Nat.le_of_not_lt fun q=>?_;have q':(n:Int)<((ns.length:Nat):Int):=by omega
  first
   | (rw [decide_eq_true q'] at h5;exact absurd h5 (by decide))
   | (simp at h5;omega)
 cases hwl with
 | cons w1 w2 =>
  cases w2
  cases w1 with
  | list ho hall=>exact ⟨_,_,ns,rfl,rfl,ho,Go ns _ hall,hlen⟩
theorem N1 (l:OpenLaw)(args:List WData):l.row.toRowW.claim.post args (.bool true) args=true :=
 postW_of (r:=l.row.toRowW) (X:=(true == true))
  (show WShape.has [] (.bool true) .bool=true by first|rfl|decide|simp [WShape.has,WShape.arms,WShape.armsAll])
  (show (WTm.eq .res (.lit (.bool true))).value [] { args:=args,res:=some (.bool true),after:=args }=some (.bool (true == true)) from w_eq_bool (w_res rfl) w_lit) rfl
theorem attach_call {l:OpenLaw}{n:Nat}{q:Program}{loose:List Str}{XP:(Str->Option Value)->Heap->Prop}{YP:World->Heap->Prop}{d:DefRec}
  (hn:l.most=some n) (hdf:d.params.defaults=[])
  (call:∀ (w:World) (s₀ s₁:Shared) (mg mb:Str->Option Value) (fa:Addr) (o:Obj) (pm cd doc:Value) (a:Addr) (vs:List Value) (ns:List Int),
   Ground q loose [] XP w s₀ mg mb s₁.heap->YP w s₁.heap ->
   s₁.heap.get? fa=some o->o.data = .func (docDef d.name d.params d.body d.scope pm cd doc)->s₁.heap.CodeRec cd d.name->mg d.name=some (.ref fa) ->
   s₁.heap.get? a=some { cls:=.type "list",data:=.seq vs.toArray }->IntsAre vs ns->ns.length<=n->s₁.gens = #[] ->
   codeAny (model l.prog w) callerA (.call (.ref fa) ⟨[.ref a],[]⟩) (fun r s'=>r = .ok (.ret (.bool true))/\OldK s₁.heap s'.heap/\s'.os=s₁.os/\AllBare s'.gens) s₁) :
  WalkO q loose XP YP l.row.toRowW d [] (fun f vs=>PySem.call f vs):=by
 intro w s₀ s₁ mg mb G Y fa o pm cd doc dV kV ho hd hcd hD hmg hg args vals as hpre hlay hrd hwl hlo;obtain rfl:dV = .none:=Dflts.none hD hdf;obtain rfl:kV = .none:=Dflts.noKw hD;obtain ⟨a,vs,ns,rfl,rfl,hobj,hints,hlen⟩:=Mx hn hpre hwl;refine enter_call (codeAny_mono (call w s₀ s₁ mg mb fa o pm cd doc a vs ns G Y ho (fd_plain hd) hcd hmg hobj hints hlen hg) fun r s' hq=>?_);obtain ⟨rfl,h2,h3,h4⟩:=hq;exact ⟨.inl ⟨.bool true,.bool true,[],rfl,fun _=>rfl,.bool true,N1 l _,fun _=>⟨List.Pairwise.nil,fun _ hm=>(nomatch hm)⟩⟩,h2,h3,h4⟩
end Att
namespace L2
open PySem PySem.Spec PyProof.Rows
theorem GP:∀ {vs:List Value}{ns:List Int},IntsAre vs ns->Vals (ns.map V.int) vs
 | _,_,.nil=>.nil
 | _,_,.cons n t h=>.cons ⟨t,rfl⟩ (GP h)
def Only (H:Hp):Prop:=∀ b,H b=none\/∃ o xs,H b=some (.frz o (.lst xs))
theorem law_call {P:Program}{w:World}{K:FZ9}{mg mb:Str->Option Value}{CX:CXT}{k:Nat}{fa a:Addr}{fd:FuncData}{x:Str}{sp:Sp}{s₁:Shared}{vs:List Value}{ns:List Int}
  (KX:K.In s₁.heap) (hns:s₁.heap.Ns mainGlobals mg) (hb:s₁.heap.Ns builtinsNs mb) (hbb:∀ x:Str,x ≠ "__name__" -> mb x=bootBuiltins x) (hlim:s₁.heap.NoLimit) (hg:s₁.gens = #[])
  (ha:s₁.heap.get? a=some { cls:=.type "list",data:=.seq vs.toArray }) (hi:IntsAre vs ns) (hl:ns.length<=sizeLine) (hr:Room k callerA)
  (F:∀ base:Heap,K.In base->base.Ns mainGlobals mg->FnOk P w K mg base CX k fa fd [x] sp) (hbind:∀ (s:Shared) (u:Value),BindsTo s fd ⟨[u],[]⟩ [(x,u)])
  (hsp:∀ H:Hp,Only H->SqL K H a (ns.map V.int)->sp [.ref a] H (fun v _=>v = .bl true) fun _ _ _=>False)
  (hCX:∀ H e s',CX [] H s₁ (fun _ _ _=>False) e s'->False) :
  codeAny (model P w) callerA (.call (.ref fa) ⟨[.ref a],[]⟩) (fun r s'=>r = .ok (.ret (.bool true))/\OldK s₁.heap s'.heap/\s'.os=s₁.os/\AllBare s'.gens) s₁:=by
 have rv:=GP hi;have lenV:=hi.length
 have core:∀ H:Hp,Only H->SqL K H a (ns.map V.int)->HOk P w H s₁.heap->(∀ b,H b≠none->b=a)->(H a≠none->K.lookup a=none) ->
   codeAny (model P w) callerA (.call (.ref fa) ⟨[.ref a],[]⟩) (fun r s'=>r = .ok (.ret (.bool true))/\OldK s₁.heap s'.heap/\s'.os=s₁.os/\AllBare s'.gens) s₁:=by
  intro H hO hS hok hA hK;have base_of:∀ {b:Addr}{o:Obj},s₁.heap.get? b=some o->H b=none->(Jw s₁.heap H).get? b=some o:=fun e n=>hidT_get e n
  have noA:∀ {b:Addr}{o:Obj}{es:Array DictEntry}{ep:Nat},s₁.heap.get? b=some o->o.data = .dict es ep->H b=none:=fun {b o es ep} e d=>by
   cases q:H b with
   | none=>rfl
   | some u =>
    have e':b=a:=hA b (by rw [q];simp);subst e';rw [ha] at e;cases e;have d':Data.seq vs.toArray _=Data.dict es ep:=d;cases d'
  have nsK:∀ {b:Addr}{m:Str->Option Value},s₁.heap.Ns b m->(Jw s₁.heap H).Ns b m:=fun {b m} ⟨o,es,ep,e,d,r⟩=>⟨o,es,ep,base_of e (noA e d),d,r⟩
  have hKb:K.In (Jw s₁.heap H):=fun b o e=>base_of (KX b o e) (by
   cases q:H b with
   | none=>rfl
   | some u =>
    have e':b=a:=hA b (by rw [q];simp);subst e'
    rw [hK (by rw [q];simp)] at e;cases e)
  have hM:Mod K mg (Jw s₁.heap H):=⟨hKb,nsK hns,⟨mb,nsK hb,hbb⟩,let ⟨mc,h1,h2⟩:=hlim;⟨mc,nsK h1,h2⟩⟩;have e0:Env0 P w K mg (Jw s₁.heap H) callerA [] s₁ H:=⟨rfl,hM,fun b o e=>of_hidT e,Nat.le_of_eq (NM _ _),trivial,fun b hb=>absurd (show b∈([]:List Addr) from hb) (by simp),hok,.of_eq hg⟩;refine codeAny_mono ((F _ hKb (nsK hns)).run callerA [] s₁ H ⟨[.ref a],[]⟩ [.ref a] [.ref a] _ _ hr e0 (hbind s₁ (.ref a)) (.cons rfl .nil) (hsp H hO hS)) fun r s' h=>?_
  cases r with
  | error e=>exact (hCX H e s' h).elim
  | ok fl =>
   cases fl with
   | next=>exact False.elim h
   | brk=>exact False.elim h
   | cont=>exact False.elim h
   | ret u =>
    obtain ⟨v,H',os,bare,un,hok',r',q⟩:=h;have q':v = .bl true:=q;subst q';obtain rfl:u=Value.bool true:=r';refine ⟨rfl,OldK.of_keep fun b o e=>?_,os,bare⟩
    cases q:H b with
    | none=>exact un.keep b o e q (by intro z;exact absurd (show b∈([]:List Addr) from z) (by simp)) (by simp)
    | some u =>
     rcases hO b with z | ⟨ob,xs,z⟩
     ·rw [q] at z;cases z
     ·have z2:=un.frzs b ob _ z;obtain ⟨e1,_⟩:=hok b _ z;obtain ⟨e2,_⟩:=hok' b _ z2;rw [e] at e1;cases e1;exact e2
 cases hk:K.lookup a with
 | some o =>
  have e:=KX a o hk;rw [ha] at e;cases e;refine core (fun _=>none) (fun _=>.inl rfl) (.inr ⟨_,vs.toArray,_,hk,rfl,rfl,rfl,by rw [qoB,lenV];exact hl,by simpa using rv⟩) (fun b u z=>by have z':(none:Option HO)=some u:=z;cases z') (fun b z=>absurd rfl z) fun z=>absurd rfl z
 | none =>
  refine core (fun b=>if b=a then some (.frz { cls:=.type "list",data:=.seq vs.toArray } (.lst (ns.map V.int))) else none) (fun b=>?_) (.inl (.inr ⟨{ cls:=.type "list",data:=.seq vs.toArray },if_pos rfl⟩)) (fun b u z=>?_) (fun b z=>?_) fun _=>hk
  ·by_cases hb:b=a
   ·exact .inr ⟨_,_,if_pos hb⟩
   ·exact .inl (if_neg hb)
  ·by_cases hb:b=a
   ·have z':=(if_pos hb).symm.trans z;cases z';subst hb;exact ⟨ha,by rw [qeA];exact hl,vs,_,rv,ha⟩
   ·have z':=(if_neg hb).symm.trans z;cases z'
  ·by_cases hb:b=a
   ·exact hb
   ·exact absurd (if_neg hb) z
theorem walk_of {l:PySem.W.OpenLaw}{n k:Nat}{q:Program}{loose:List Str}{XP:(Str->Option Value)->Heap->Prop}{YP:World->Heap->Prop}{d:DefRec}{K:Params->FZ9}{CX:World->CXT}{sp:World->Sp}{x:Str}
  (hn:l.most=some n) (hn2:n<=sizeLine) (hdf:d.params.defaults=[]) (hr:Room k callerA)
  (hY:∀ (w:World) (h:Heap),YP w h->(K w.params).In h)
  (F:∀ (w:World) (mg:Str->Option Value) (fa:Addr) (h:Heap),(K w.params).In h->h.Ns mainGlobals mg->mg d.name=some (.ref fa) ->
   ∃ fd:FuncData,(∀ (s:Shared) (u:Value),BindsTo s fd ⟨[u],[]⟩ [(x,u)]) /\
    ∀ base:Heap,(K w.params).In base->base.Ns mainGlobals mg->FnOk l.prog w (K w.params) mg base (CX w) k fa fd [x] (sp w))
  (hsp:∀ (w:World) (H:Hp) (a:Addr) (ns:List Int),ns.length<=n->Only H->SqL (K w.params) H a (ns.map V.int)->sp w [.ref a] H (fun v _=>v = .bl true) fun _ _ _=>False)
  (hCX:∀ (w:World) (H:Hp) (s:Shared) (e:Value) (s':Shared),CX w [] H s (fun _ _ _=>False) e s'->False) :
  PySem.W.WalkO q loose XP YP l.row.toRowW d [] (fun f vs=>PySem.call f vs):=by
 refine Att.attach_call hn hdf fun w s₀ s₁ mg mb fa o pm cd doc a vs ns G Y ho hd hcd hmg hobj hints hlen hg=>?_;have KX:=hY w _ Y;obtain ⟨fd,hb,hF⟩:=F w mg fa _ KX G.T.g hmg;exact law_call KX G.T.g G.T.b G.T.builtins G.T.nolimit hg hobj hints (qaB hlen hn2) hr hF hb (fun H hO hS=>hsp w H a ns hlen hO hS) fun H e s'=>hCX w H s₁ e s'
def Cw (s:Stmt):Arguments:=match s with
 | .FunctionDef _ a _ _ _ _ _ _ _ _=>a
 | _=>{ posonlyargs:=[],args:=[],vararg:=none,kwonlyargs:=[],kw_defaults:=[],kwarg:=none,defaults:=[] }
def Bs (s:Stmt):List Stmt:=match s with
 | .FunctionDef _ _ b _ _ _ _ _ _ _=>b
 | _=>[]
def AR (s:Stmt):Scope:=match s with
 | .FunctionDef _ _ _ _ _ _ sc _ _ _=>sc
 | _=>{ kind:=.function,names:=[],isGenerator:=false,isCoroutine:=false }
abbrev CX0:CXT:=fun _ _ _ _ _ _=>False
abbrev E0:XK:=fun _ _ _=>False
theorem pass0 {X:Cx}:La CX0 X E0:=fun _ _ _ _ _ _ _ h=>h.elim
structure Fun (K:FZ9)(x qual:Str)(st:Stmt)(f:Addr)(fd:FuncData):Prop where
 ex:∃ (oc:Value) (od:Option Addr) (kV doc pm:Value) (an:Option Addr) (cdv ct:Value) (osl:Array (Option Value)),
  fd=qpB x qual (Cw st) (Bs st) (AR st) .none kV doc pm an cdv ct/\K.lookup f=some ⟨oc,od,.func fd,osl⟩/\PySem.W.codeIn K cdv qual=true
 kp:PySem.W.keepIn K (.ref f)=true
section
variable {P:Program}{w:World}{K:FZ9}{mg:Str->Option Value}{base:Heap}
theorem Fun.ok {x qual:Str}{st:Stmt}{f:Addr}{fd:FuncData}{N ps:List Str}{k:Nat}{sp:Sp}(F:Fun K x qual st f fd)(S:FnScope N ps (AR st))(len:∀ vs H Q E,sp vs H Q E->vs.length=ps.length)
  (hbody:∀ (cdv:Value) (A:Around) (outer:List Env) (s:Shared) (H:Hp) (vs:List V) (Q:VK) (E:XK),Room k (A.deeper (envOfC qual (AR st) s.heap.objs.size f cdv))->sp vs H Q E ->
   ∃ t,PSs (IR CX0 P w K mg base N qual (AR st) f cdv A outer s H E).nox (Bs st) t/\t { nx:=fun _ H'=>Q .non H',rt:=Q } (start N vs) H):FnOk P w K mg base CX0 (k+1) f fd ps sp:=by
 obtain ⟨oc,od,kV,doc,pm,an,cdv,ct,osl,rfl,lk,hcd⟩:=F.ex;refine fn_of lk hcd S len fun A outer s H vs Q E hr hsp=>?_;obtain ⟨t,h,q⟩:=hbody cdv A outer s H vs Q E hr hsp;exact ⟨t,h.nox,q⟩
theorem Fun.binds {x qual:Str}{st:Stmt}{f:Addr}{fd:FuncData}{ps:List Str}(F:Fun K x qual st f fd)
  (h:∀ (kV doc pm:Value) (an:Option Addr) (cdv ct:Value) (us:List Value),us.length=ps.length->bindArgs (qpB x qual (Cw st) (Bs st) (AR st) .none kV doc pm an cdv ct) ⟨us,[]⟩=pure (ps.zip us)):Binds K fd ps []:=by
 obtain ⟨oc,od,kV,doc,pm,an,cdv,ct,osl,rfl,lk,hcd⟩:=F.ex;exact .all (h kV doc pm an cdv ct)
theorem fun_mk {x qual:Str}{st:Stmt}{f:Addr}{oc:Value}{od an:Option Addr}{osl:Array (Option Value)}{kV doc pm cdv ct:Value}(l:K.lookup f=some ⟨oc,od,.func (qpB x qual (Cw st) (Bs st) (AR st) .none kV doc pm an cdv ct),osl⟩)
  (c:PySem.W.codeIn K cdv qual=true) (k:PySem.W.keepIn K (.ref f)=true):Fun K x qual st f (qpB x qual (Cw st) (Bs st) (AR st) .none kV doc pm an cdv ct):=⟨⟨oc,od,kV,doc,pm,an,cdv,ct,osl,rfl,l,c⟩,k⟩
end
section
variable {X:Cx}
theorem pv (i:Nat){x:Str}{pos:Pos}(hN:X.N[i]? = some x:=by rfl)(hv:Vis X.env.scope x:=by first|exact Or.inl rfl|exact Or.inr (Or.inl rfl)|exact Or.inr (Or.inr rfl))(hd:(x == ("__debug__" : Str))=false:=by decide)
  (hcd:(x == ("__classdict__" : Str))=false:=by decide):PE X (.Name x pos) (Gn i):=pe_var hN hv hd hcd
end
theorem Aw {A B:Prop}(h:B):if false=true then A else B:=by
 rw [if_neg qnB];exact h
theorem Ax {A B:Prop}(h:A):if true=true then A else B:=by
 rw [if_pos rfl];exact h
def Same (H H':Hp):Prop:=∀ b o,H b=some o->H' b=some o
theorem Same.refl (H:Hp):Same H H:=fun _ _ h=>h
theorem Same.trans {H H1 H2:Hp}(a:Same H H1)(b:Same H1 H2):Same H H2:=fun c o h=>b c o (a c o h)
theorem Same.free {H H':Hp}(e:Same H H'){l:Addr}(h:H' l=Option.none):H l=Option.none:=by
 cases q:H l with
 | none=>rfl
 | some o =>
  rw [e l o q] at h;cases h
theorem Same.seq {K:FZ9}{H H':Hp}{a:Addr}{xs:List V}(e:Same H H')(h:SqL K H a xs):SqL K H' a xs:=by
 rcases h with (h | ⟨o,h⟩)|h
 ·exact .inl (.inl (e _ _ h))
 ·exact .inl (.inr ⟨o,e _ _ h⟩)
 ·exact .inr h
section
variable {P:Program}{w:World}{H:Hp}{h:Heap}{a:Addr}
theorem rd_of {u:HO}(ok:HOk P w H h)(e:Rd H a u):ObjOk P w H h a u:=e.ok ok
theorem dk_rd {kvs:List (Key × V)}(ok:HOk P w H h)(e:Rd H a (.dK kvs)):kvs.length<=sizeLine/\(a == sysModules)=false/\∃ vs,KV kvs vs/\h.DictOf (BS P w) a vs :=
 show ObjOk P w H h a (.dK kvs) from rd_of ok e
end
section
variable {X:Cx}{pins:List (Addr × Obj)}{σ:St}{H:Hp}{s:Shared}{a:Addr}{y v:V}{u r:Value}{o:Option V}{A:Around}{E:Value->Shared->Prop}
theorem Inv.big (I:Inv X pins σ H s):sysModules<s.heap.objs.size:=by
 have h:mainGlobals<s.heap.objs.size:=(I.mod.glob.keeps I.bk).lt;exact Nat.lt_trans (by decide) h
end
theorem dk_empty {P:Program}{w:World}{H:Hp}(h:Heap)(hb:sysModules<h.objs.size):ObjOk P w H (h.push { cls:=.type "dict",data:=.dict #[] }) h.objs.size (.dK []) :=
 ⟨qxB _,beq_eq_false_iff_ne.mpr (Ne.symm (qrB hb)),[],.nil,Heap.DictOf.new h⟩
def tDNewK:TE:=fun _ H Q=>∀ p,H p=none->Q (.ref p) (upd H p (.dK []))
section
variable {X:Cx}{pos:Pos}
theorem E8:PE X (.Dict [] [] pos) tDNewK:=fun pins s σ H Q I h =>
 wpAny_Dict_empty ⟨.ref s.heap.objs.size,_,I.laid (a:=s.heap.objs.size) (o:=.dK []) (t':=s.toks) (fun _ _ q=>qfB _ q) (qzA _) (dk_empty s.heap I.big),rfl,h _ (I.hok.fresh (qzA _))⟩
end
theorem len_app (x y:Str):(x++y).length=x.length+y.length:=by
 show (x.cps++y.cps).size=_;rw [Array.size_append]
 rfl
theorem MG (a b:Nat):([a] < [b]) ↔ a<b:=by
 rw [List.cons_lt_cons_iff];simp
def IK (scope:Scope)(env:Env):List (Str × Addr) :=
 (scope.names.filterMap fun p=>if p.2 == NameKind.free then (env.cells.lookup p.1).map fun c=>(p.1,c) else none).reverse
theorem EC {env:Env}:∀ (names:List (Str × NameKind)) (acc:List (Str × Addr)),(∀ y∈names,y.2 = .free->∃ c,env.cells.lookup y.1=some c) ->
  (forIn names acc fun (x:Str × NameKind) (cs:List (Str × Addr))=>(match x with
   | (name,kind)=>if (kind == NameKind.free)=true then do
     let c <- cellOf env name
     pure (ForInStep.yield ((name,c)::cs))
    else pure (ForInStep.yield cs):Sem (ForInStep (List (Str × Addr))))) =
   pure ((names.filterMap fun p=>if p.2 == NameKind.free then (env.cells.lookup p.1).map fun c=>(p.1,c) else none).reverse++acc)
 | [],acc,_=>rfl
 | (n,k)::r,acc,h=>by
  rw [List.forIn_cons];by_cases hk:k = .free
  ·subst hk;obtain ⟨c,hc⟩:=h (n,.free) qpA rfl;have e1:cellOf env n=pure c:=by unfold cellOf;rw [hc]
   have ih:=EC r ((n,c)::acc) fun y hy=>h y (qqA _ hy);simp only [beq_self_eq_true,if_true,e1,pure_bind,List.filterMap_cons,hc,Option.map_some,List.reverse_cons,qyA,List.singleton_append];exact ih
  ·have hb:(k == NameKind.free)=false:=by simpa using hk
   have ih:=EC r acc fun y hy=>h y (qqA _ hy);simp only [hb,Bool.false_eq_true,if_false,pure_bind,List.filterMap_cons];exact ih
theorem IQ {scope:Scope}{env:Env}(h:∀ y∈scope.names,y.2 = .free->∃ c,env.cells.lookup y.1=some c):closureFor scope env=pure (IK scope env):=by
 have e:=EC (env:=env) scope.names [] h;unfold closureFor;rw [List.append_nil] at e;exact (congrArg (· >>= pure) e).trans (by rfl)
theorem clOf_mem {scope:Scope}{env:Env}{y:Str}{c:Addr}(h:(y,c)∈IK scope env):(y,NameKind.free)∈scope.names/\env.cells.lookup y=some c:=by
 unfold IK at h;obtain ⟨⟨n,k⟩,hp,e⟩:=List.mem_filterMap.mp (List.mem_reverse.mp h);by_cases hk:k = .free
 ·subst hk;simp only [beq_self_eq_true,if_true] at e
  cases hc:env.cells.lookup n with
  | none=>rw [hc] at e;cases e
  | some c' =>
   rw [hc] at e;have e':(n,c')=(y,c):=qdB e;cases e';exact ⟨hp,hc⟩
 ·have hb:(k == NameKind.free)=false:=by simpa using hk
  simp only [hb,Bool.false_eq_true,if_false] at e;cases e
theorem EA {scope:Scope}{env:Env}{y:Str}{c:Addr}(h:(IK scope env).lookup y=some c):env.cells.lookup y=some c:=(clOf_mem (PySem.mem_of_lookup h)).2
theorem F5 {α:Type}{y:Str}:∀ {l:List (Str × α)}{c:α},(y,c)∈l->∃ c',l.lookup y=some c'
 | (n,a)::r,c,h=>by
  by_cases e:y=n
  ·subst e;exact ⟨a,by simp [List.lookup_cons]⟩
  ·have hb:(y == n)=false:=by simpa using e
   rcases qmA.mp h with h|h
   ·cases h;exact absurd rfl e
   ·obtain ⟨c',h'⟩:=F5 h;exact ⟨c',by simp [List.lookup_cons,hb,h']⟩
theorem KA {scope:Scope}{env:Env}{y:Str}{c:Addr}(h1:(y,NameKind.free)∈scope.names)(h2:env.cells.lookup y=some c):(IK scope env).lookup y=some c:=by
 have m:(y,c)∈IK scope env:=by
  unfold IK;exact List.mem_reverse.mpr (List.mem_filterMap.mpr ⟨(y,.free),h1,by simp [h2]⟩)
 obtain ⟨c',h'⟩:=F5 m;have:=EA h';rw [h2] at this;cases this;exact h'
theorem K3 {scope:Scope}{env:Env}(hcell:∀ y∈scope.names,y.2 ≠ .cell){y:Str}(h:(relabel scope env).names.lookup y=some .cell\/(relabel scope env).names.lookup y=some .free):(y,NameKind.free)∈scope.names:=by
 have m:∃ k,(k = .cell\/k = .free)/\(y,k)∈(relabel scope env).names:=by
  rcases h with h|h
  ·exact ⟨_,.inl rfl,PySem.mem_of_lookup h⟩
  ·exact ⟨_,.inr rfl,PySem.mem_of_lookup h⟩
 obtain ⟨k,hk,hm⟩:=m;unfold relabel at hm;obtain ⟨⟨n,k'⟩,hp,e⟩:=qnA.mp hm;dsimp only at e;by_cases hf:k' = .free
 ·subst hf;split at e<;>(cases e;exact hp)
 ·have hb:(k' == NameKind.free)=false:=by simpa using hf
  rw [hb,Bool.false_and,Bool.false_and,if_neg (by decide)] at e;cases e;rcases hk with hk|hk
  ·exact absurd hk (hcell _ hp)
  ·exact absurd hk hf
def CD (X:Cx)(N:List Str)(scope:Scope)(C:Addr)(s:Shared)(H:Hp)(fp:List Addr):Cx where
 prog:=X.prog
 w:=X.w
 K:=X.K
 mg:=X.mg
 base:=X.base
 A:=X.A
 N:=N
 s₀:=s
 H₀:=H
 env:=compEnvC scope (IK scope X.env) C X.env
 outer:=X.stack
 stack:=X.stack
 ex:=fp
 fn:=fun _=>false
 calm:=true
 pn:=[]
 xe:=fun _ _=>False
def Caps (X:Cx)(scope:Scope):List Str->List Nat->Prop
 | [],[]=>True
 | x::xs,i::is=>(X.N[i]? = some x/\(X.env.scope.names.lookup x=some .cell\/X.env.scope.names.lookup x=some .free)/\scope.names.lookup x=some .free)/\Caps X scope xs is
 | _,_=>False
theorem Caps.len {X:Cx}{scope:Scope}:∀ {xs:List Str}{is:List Nat},Caps X scope xs is->is.length=xs.length
 | [],[],_=>rfl
 | _::_,_::_,h=>congrArg (· + 1) (Caps.len h.2)
 | [],_::_,h=>h.elim
 | _::_,[],h=>h.elim
theorem Caps.at {X:Cx}{scope:Scope}:∀ {xs:List Str}{is:List Nat}{j:Nat}{x:Str},Caps X scope xs is->xs[j]? = some x->∃ i,is[j]? = some i/\X.N[i]? = some x/\(X.env.scope.names.lookup x=some .cell\/X.env.scope.names.lookup x=some .free)/\scope.names.lookup x=some .free
 | [],[],_,_,_,e=>by simp at e
 | y::_,i::_,0,x,h,e=>by
  simp at e;subst e;exact ⟨i,rfl,h.1⟩
 | _::xs,_::is,j+1,x,h,e=>by
  obtain ⟨i,h1,h2⟩:=Caps.at (j:=j) h.2 (by simpa using e);exact ⟨i,by simpa using h1,h2⟩
 | [],_::_,_,_,h,_=>h.elim
 | _::_,[],_,_,h,_=>h.elim
def D3 (cap:List Nat)(σ:St):St:=none::cap.map fun i=>(σ[i]?).join
def PTs (X:Cx)(ifs:List Expr)(t:TT):Prop :=
 ∀ (pins:List (Addr × Obj)) (s:Shared) (σ:St) (H:Hp) (Q:Bool->Hp->Prop),Inv X pins σ H s->t σ H Q ->
  wpAny (model X.prog X.w) X.A (forIn ifs true fun c r=>if r=true then do let ok <- isTrue c X.env (eval c X.env);pure (ForInStep.yield ok) else pure (ForInStep.yield r)) (TP X pins σ Q) X.xe s
def tYes:TT:=fun _ H Q=>Q true H
theorem C4 {X:Cx}:PTs X [] tYes:=fun _ _ _ H _ I h=>wpAny_tests_nil ⟨H,I,h⟩
theorem JU {prog:Program}{w:World}{A:Around}{R:Result->Shared->Prop}{s:Shared}{elt target iter:Expr}{ifs:List Expr}{scope:Scope}{pos:Pos}{it acc:Value}{env:Env}(I:Nat->Shared->Prop)
  (turn:∀ n s,I n s->wpAny (model prog w) A (pyNext it) (fun r s₁=>match r with
   | none=>R (.ok .next) s₁
   | some v=>wpAny (model prog w) A (letOwnedTupleGo target it v) (fun _ s₁'=>wpAny (model prog w) A (assign target env v) (fun _ s₂ =>
     wpAny (model prog w) A (forIn ifs true fun c r=>if r=true then do let ok <- isTrue c env (eval c env);pure (ForInStep.yield ok) else pure (ForInStep.yield r)) (fun ok s₃ =>
      if ok=true then wpAny (model prog w) A (eval elt env) (fun x s₄ =>
       wpAny (model prog w) A (call (.builtin "list.append") [acc,x]) (fun _ s₅=>∃ m,m<n/\I m s₅) (fun _ _=>False) s₄) (fun _ _=>False) s₃
      else ∃ m,m<n/\I m s₃) (fun _ _=>False) s₂) (fun _ _=>False) s₁') (fun _ _=>False) s₁) (fun _ _=>False) s)
  (n:Nat) (h:I n s) :
  codeAny (model prog w) A (.compLoop (.ListComp elt [⟨target,iter,ifs,0⟩] scope pos) 0 it acc env) R s:=by
 refine codeAny_loop rfl I (fun n s hI=>?_) n h;show wpAny _ A ((compTurn (.ListComp elt [⟨target,iter,ifs,0⟩] scope pos) 0 it acc env).onRaise (fun x=>do noteFrame x env;theTreesLotGoes x)) _ _ s;refine wpAny_noted ?_;rw [compTurn_list];refine qbA (wpAny_standAt (qbA (wpAny_mono (turn n s hI) (fun r s₁ h₁=>?_) fun _ _ h'=>h'.elim)))
 cases r with
 | none=>exact qcA h₁
 | some v =>
  refine qbA (wpAny_mono h₁ (fun _ s₁' h₁'=>?_) fun _ _ h'=>h'.elim);refine qbA (wpAny_mono h₁' (fun _ s₂ h₂=>qbA (wpAny_mono h₂ (fun ok s₃ h₃=>?_) fun _ _ h'=>h'.elim)) fun _ _ h'=>h'.elim)
  cases ok with
  | false=>exact qcA ⟨rfl,h₃⟩
  | true =>
   exact qbA (qbA (wpAny_mono h₃ (fun x s₄ h₄=>qbA (wpAny_mono h₄ (fun _ s₅ h₅=>qcA (qcA ⟨rfl,h₅⟩)) fun _ _ h'=>h'.elim)) fun _ _ h'=>h'.elim))
def MY (cap:List Nat)(wi:TI)(tc:TT)(te:TE):TE:=fun σ H Q=>wi σ H fun J H1=>∀ p,H1 p=none ->
 ∃ W:Nat->Nat->List V->Hp->Prop,(∃ m,W 0 m [] (upd H1 p (.lst [])))/\∀ i m xs H2,W i m xs H2 ->
  (J.stop i H2/\Q (.ref p) H2)\/(J.go i H2/\∃ N:List V->Hp->Prop,(∀ xs' H',N xs' H'->∃ m',m'<m/\W (i+1) m' xs' H') /\
   ∀ x H3,J.yld i H2 x H3->tc ((D3 cap σ).set 0 (some x)) H3 fun b H5=>if b=true then te ((D3 cap σ).set 0 (some x)) H5 fun v H6=>H6 p=some (.lst xs)/\xs.length<sizeLine/\N (xs++[v]) (upd H6 p (.lst (xs++[v]))) else N xs H5)
section
variable {X:Cx}{pins:List (Addr × Obj)}{σ:St}
structure CompScope (X:Cx)(scope:Scope):Prop where
 cell:∀ y∈scope.names,y.2 ≠ .cell
 kind:scope.kind = .function
 names:∀ y∈scope.names,y.2 = .local -> scope.names.lookup y.1=some .local
 free:∀ y∈scope.names,y.2 = .free->X.env.scope.names.lookup y.1=some .cell\/X.env.scope.names.lookup y.1=some .free
theorem CompScope.clos {scope:Scope}{H:Hp}{s:Shared}(S:CompScope X scope)(I:Inv X pins σ H s):closureFor scope X.env=pure (IK scope X.env) :=
 IQ fun y hy hf=>I.ok.has y.1 (S.free y hy hf)
theorem LQ {scope:Scope}{x:Str}{cn:List Str}{cap:List Nat}{s3:Shared}{H3:Hp}{fp:List Addr}{h₁:Heap}{tk:Nat}{H2:Hp}(S:CompScope X scope)(I:Inv X pins σ H3 s3)(hc:X.calm=true)(hcap:Caps X scope cn cap)
  (f2:∀ b∈fp,Hq X pins H2 b) (lt:∀ b∈fp,b<s3.heap.objs.size) (keep:∀ b o,s3.heap.get? b=some o->h₁.get? b=some o) (hns:h₁.Ns s3.heap.objs.size fun _=>none) :
  Inv (CD X (x::cn) scope s3.heap.objs.size s3 H3 fp) [] (D3 cap σ) H3 { s3 with heap:=h₁,toks:=tk }:=by
 have noS:∀ b o,X.base.get? b=some o->b<X.s₀.heap.objs.size:=fun b o e=>qtB (qeB e) I.ok.bsz
 refine ⟨⟨I.ok.mod,S.kind,I.ok.glob,I.ok.blt,qzA _,fun y z c h1 h2=>I.ok.inj y z c (EA h1) (EA h2),fun y hy=>?_,fun y c h=>?_,fun _=>I.ok.hd hc,I.ok.frames,.inl rfl,fun b hb=>⟨qrB (lt b hb),fun y c h=>(f2 b hb).2.2.2.2.1 y c (EA h)⟩,
  I.bs,qaB I.ok.bsz I.sz,fun b o e hb=>?_,fun b hb z=>?_,I.stack,I.stkFree⟩,rfl,I.bare,Un.kept keep,⟨_,hns,fun i y v e1 e2 e3=>?_⟩,fun y c e=>?_,I.hok.fresh (qzA _),fun y c e=>I.freeC y c (EA e),fun p hp=>absurd (show p∈([]:List (Addr × Obj)) from hp) (by simp),I.hok.kept keep,?_⟩
 ·have m:=K3 S.cell hy;obtain ⟨c,hc'⟩:=I.ok.has y (S.free _ m rfl);exact ⟨c,KA m hc'⟩
 ·cases h
 ·rcases (f2 b hb).2.2.2.1 with z|z
  ·exact I.ok.noex b o e z
  ·exact absurd (qtB (noS b o e) z) (qbB _)
 ·rcases qmA.mp (I.stkSub b z) with e|e
  ·exact (f2 b hb).2.1 e
  ·exact (f2 b hb).2.2.1 e
 ·cases i with
  | zero =>
   have e2:(some none:Option (Option V))=some (some v):=e2;cases e2
  | succ j =>
   have e1:cn[j]? = some y:=e1;obtain ⟨k,hk,hN,hkind,hfr⟩:=hcap.at e1;have e2:(cap.map fun i=>(σ[i]?).join)[j]? = some (some v):=e2;rw [qwA,hk] at e2;have e2:(σ[k]?).join=some v:=qdB e2
   have e2:σ[k]? = some (some v):=by
    cases q:σ[k]? with
    | none=>rw [q] at e2;cases e2
    | some o=>rw [q] at e2;cases o with
     | none=>cases e2
     | some v'=>have e2:some v'=some v:=e2;rw [e2]
   obtain ⟨m,hn,hl⟩:=I.loc;obtain ⟨u,r,l⟩:=hl k y v hN e2 (.inr hkind);refine ⟨u,r,?_⟩;rcases l with ⟨kl,_⟩ | ⟨_,c,hc',o,ho,hd⟩
   ·have kl:X.env.scope.names.lookup y=some .local := kl;rw [kl] at hkind;rcases hkind with z|z<;>cases z
   ·refine .inr ⟨?_,c,KA (PySem.mem_of_lookup hfr) hc',o,keep c o ho,hd⟩;rcases e3 with z|z
    ·
     exfalso;have z:(relabel scope X.env).names.lookup y=some .local := z;have hm:=PySem.mem_of_lookup z;unfold relabel at hm;obtain ⟨⟨n,k'⟩,hp,e⟩:=qnA.mp hm;dsimp only at e
     have hl2:(y,NameKind.local)∈scope.names:=by
      split at e
      ·cases e
      ·cases e;exact hp
     have:=S.names _ hl2 rfl;rw [hfr] at this;cases this
    ·exact z
 ·obtain ⟨v,o,ho,hd⟩:=I.cell y c (EA e);exact ⟨v,o,keep c o ho,hd⟩
 ·show (D3 cap σ).length=(x::cn).length;unfold D3;rw [qgA,qeA,hcap.len,qgA]
theorem KI {scope:Scope}{N:List Str}{C:Addr}{s3 s':Shared}{H2 H3 Hf:Hp}{fp:List Addr}{pins':List (Addr × Obj)}{σ':St}(I:Inv X pins σ H3 s3)(J:Inv (CD X N scope C s3 H3 fp) pins' σ' Hf s')(f2:∀ b∈fp,Hq X pins H2 b):Inv X pins σ Hf s' :=
 I.call' (ch:=fp) J.os J.base J.hok J.bare fun b hb=>⟨(f2 b hb).2.2.2.1,(f2 b hb).2.1,(f2 b hb).2.2.2.2.1,(f2 b hb).2.2.2.2.2⟩
theorem Ik {scope:Scope}{x:Str}{px pos:Pos}{elt iter:Expr}{ifs:List Expr}{cn:List Str}{cap:List Nat}{s2:Shared}{H2:Hp}{it:Addr}{fp:List Addr}{tn:Nat->Heap->Prop}{J:It}{tc:TT}{te:TE}{Q:VK}{RR:Value->Addr->Result->Shared->Prop}{E:Value->Shared->Prop}
  (S:CompScope X scope) (I2:Inv X pins σ H2 s2) (hc:X.calm=true) (hcap:Caps X scope cn cap) (hx:scope.names.lookup x=some .local) (hnd:(x::cn).Nodup)
  (T:Turn X.prog X.w X.K (.Name x px) J fp it tn) (st2:tn 0 s2.heap) (f2:∀ b∈fp,Hq X pins H2 b)
  (body:∀ (C:Addr) (s:Shared) (H:Hp) (fp:List Addr),PTs (CD X (x::cn) scope C s H fp) ifs tc/\PE (CD X (x::cn) scope C s H fp) elt te)
  (q:∀ p,H2 p=none->∃ W:Nat->Nat->List V->Hp->Prop,(∃ m,W 0 m [] (upd H2 p (.lst [])))/\∀ i m xs H3,W i m xs H3 ->
   (J.stop i H3/\Q (.ref p) H3)\/(J.go i H3/\∃ N:List V->Hp->Prop,(∀ xs' H',N xs' H'->∃ m',m'<m/\W (i+1) m' xs' H') /\
    ∀ v H4,J.yld i H3 v H4->tc ((D3 cap σ).set 0 (some v)) H4 fun b H5=>if b=true then te ((D3 cap σ).set 0 (some v)) H5 fun v H6=>H6 p=some (.lst xs)/\xs.length<sizeLine/\N (xs++[v]) (upd H6 p (.lst (xs++[v]))) else N xs H5))
  (hRR:∀ (p C:Addr) (s3 s':Shared) (H3 Hf:Hp) (σ':St),Inv X pins σ H3 s3->s3.heap.objs.size=C->Inv (CD X (x::cn) scope C s3 H3 fp) [] σ' Hf s'->Q (.ref p) Hf->RR (.ref p) C (.ok .next) s') :
  wpAny (model X.prog X.w) X.A (newList []) (fun acc s₃=>wpAny (model X.prog X.w) X.A (newFunctionEnv scope X.env.globals (IK scope X.env) [] X.env.qual none .none (some X.env)) (fun cenv s₄ =>
   codeAny (model X.prog X.w) X.A (.compStart (.ListComp elt [⟨.Name x px,iter,ifs,0⟩] scope pos) 0 (.ref it) acc { cenv with scope:=relabel scope X.env }) (RR acc cenv.locals) s₄) E s₃) E s2:=by
 refine wpAny_newObj_type (wpAny_newFunctionEnv S.cell (by intro y hy;simp at hy) (fun h₁ hns₁ hsb₁=>?_) S.kind);dsimp only at hns₁ hsb₁ ⊢;have hfr:H2 s2.heap.objs.size=none:=I2.hok.fresh (qzA _);obtain ⟨W,⟨m0,w0⟩,turn⟩:=q _ hfr
 have I3:Inv X pins σ (upd H2 s2.heap.objs.size (.lst [])) { s2 with heap:=s2.heap.push { cls:=.type "list",data:=.seq ([]:List Value).toArray } } :=
  I2.lnew (its:=[]) (t':=s2.toks) .nil (qxB _)
 generalize hs3:({ s2 with heap:=s2.heap.push { cls:=.type "list",data:=.seq ([]:List Value).toArray } }:Shared)=s3 at I3;have hs3h:s3.heap=s2.heap.push { cls:=.type "list",data:=.seq ([]:List Value).toArray }:=by rw [<- hs3]
 have hst3:tn 0 s3.heap:=T.keep _ _ _ st2 fun b hb o e=>by rw [hs3h];exact qfB _ e
 have ltf:∀ b∈fp,b<s3.heap.objs.size:=fun b hb=>by
  obtain ⟨o,e,_⟩:=T.obj _ _ hst3 b hb;exact qeB e
 have hC:(s2.heap.push { cls:=.type "list",dict:=none,data:=.seq ([]:List Value).toArray }).objs.size=s3.heap.objs.size:=by rw [hs3h]
 rw [hC] at hns₁ hsb₁ ⊢
 have keep:∀ b o,s3.heap.get? b=some o->h₁.get? b=some o:=fun b o e=>by
  refine hsb₁.extBut b o (qrB (qeB e)) (qfB _ ?_);rw [hs3h] at e;exact e
 have J4:Inv (CD X (x::cn) scope s3.heap.objs.size s3 (upd H2 s2.heap.objs.size (.lst [])) fp) [] (D3 cap σ) (upd H2 s2.heap.objs.size (.lst [])) { s3 with heap:=h₁,toks:=s2.toks+([]:List (Str × Value)).length } :=
  LQ S I3 hc hcap f2 ltf keep hns₁
 have st4:tn 0 h₁:=T.keep _ _ _ hst3 fun b hb o e=>keep b o e
 have fr4:∀ b∈fp,(upd H2 s2.heap.objs.size (.lst [])) b=none:=fun b hb=>by
  obtain ⟨o,e,_⟩:=T.obj _ _ st2 b hb;rw [BQ (qrB (qeB e))];exact (f2 b hb).1
 have hst:({ s2 with heap:=h₁,toks:=s2.toks+([]:List (Str × Value)).length }:Shared) = { s3 with heap:=h₁,toks:=s2.toks+([]:List (Str × Value)).length }:=by rw [<- hs3]
 have loop:codeAny (model X.prog X.w) X.A (.compLoop (.ListComp elt [⟨.Name x px,iter,ifs,0⟩] scope pos) 0 (.ref it) (.ref s2.heap.objs.size) (compEnvC scope (IK scope X.env) s3.heap.objs.size X.env))
   (RR (.ref s2.heap.objs.size) s3.heap.objs.size) { s2 with heap:=h₁,toks:=s2.toks+([]:List (Str × Value)).length }:=by
  rw [hst];generalize hX':CD X (x::cn) scope s3.heap.objs.size s3 (upd H2 s2.heap.objs.size (.lst [])) fp=X' at J4
  have hfpk:∀ {Hc:Hp},(∀ b∈fp,Hc b=none)->∀ b∈fp,Hq X' [] Hc b:=fun {Hc} hn b hb=>by
   subst hX';refine ⟨hn b hb,(J4.ok.exf b hb).1,J4.ok.exfs b hb,.inl hb,(J4.ok.exf b hb).2,fun p hp=>absurd (show p∈([]:List (Addr × Obj)) from hp) (by simp)⟩
  refine JU (fun n s'=>∃ i xs Hc,Inv X' [] (D3 cap σ) Hc s'/\tn i s'.heap/\(∀ b∈fp,Hc b=none)/\W i n xs Hc) ?_ m0 ⟨0,[],_,J4,st4,fr4,w0⟩;rintro n s5 ⟨i,xs,Hc,I5,st5,fr5,w5⟩;have B:=body s3.heap.objs.size s3 (upd H2 s2.heap.objs.size (.lst [])) fp;rcases turn i n xs Hc w5 with ⟨stop,qn⟩ | ⟨go,N,hN,step⟩
  ·subst hX';refine thn (T.done (CD X (x::cn) scope s3.heap.objs.size s3 (upd H2 s2.heap.objs.size (.lst [])) fp) rfl rfl rfl rfl i [] s5 (D3 cap σ) Hc (fun _ _=>False) I5 (hfpk fr5) st5 stop) fun r s6 ⟨hr,I6⟩=>?_;subst hr;exact hRR _ _ s3 s6 _ Hc _ I3 rfl I6 qn
  ·subst hX';refine thn (T.item (CD X (x::cn) scope s3.heap.objs.size s3 (upd H2 s2.heap.objs.size (.lst [])) fp) rfl rfl rfl rfl i [] s5 (D3 cap σ) Hc (fun _ _=>False) I5 (hfpk fr5) st5 go) fun r s6 ⟨u,hr,h6⟩=>?_;subst hr;refine thn h6 fun _ s7 ⟨v,H7,I7,r7,y7,st7,fr7⟩=>?_;have I7':=I7.pinned (hfpk fr7) (T.obj _ _ st7);have hlook:(relabel scope X.env).names.lookup x=some .local := lookup_relabel_local hx;refine wpAny_assign_Name (IN (X:=CD X (x::cn) scope s3.heap.objs.size s3 (upd H2 s2.heap.objs.size (.lst [])) fp) I7' (i:=0) hnd rfl (.inl hlook) r7 (fun s8 I8=>?_) (.inr hlook))
   have again:∀ {s9:Shared}{H9:Hp}{ys:List V},Inv (CD X (x::cn) scope s3.heap.objs.size s3 (upd H2 s2.heap.objs.size (.lst [])) fp) ([]++Hb fp s7.heap) ((D3 cap σ).set 0 (some v)) H9 s9->N ys H9 ->
     ∃ m,m<n/\∃ i xs Hc,Inv (CD X (x::cn) scope s3.heap.objs.size s3 (upd H2 s2.heap.objs.size (.lst [])) fp) [] (D3 cap σ) Hc s9/\tn i s9.heap/\(∀ b∈fp,Hc b=none)/\W i m xs Hc:=fun {s9 H9 ys} I9 n9=>by
    obtain ⟨m',hm,w9⟩:=hN ys H9 n9;refine ⟨m',hm,i+1,ys,H9,(I9.unpinned (pins:=[])).weak (by simp [D3]) (fun j w e=>?_),T.keep _ _ _ st7 fun b hb o e=>(I9.pin (b,o) (quB _ (quB _ (EQ hb e)))).1,fun b hb=>?_,w9⟩
    ·cases j with
     | zero =>
      have e:(some none:Option (Option V))=some (some w):=e;cases e
     | succ j=>exact e
    ·obtain ⟨o,e,_⟩:=T.obj _ _ st7 b hb;exact (I9.pin (b,o) (quB _ (quB _ (EQ hb e)))).2.1
   refine thn (B.1 _ s8 _ H7 _ I8 (step v H7 y7)) fun ok s9 ⟨H9,I9,q9⟩=>?_
   cases ok with
   | false =>
    rw [if_neg qnB] at q9 ⊢;exact again I9 q9
   | true =>
    rw [if_pos rfl] at q9 ⊢;refine thn (B.2 _ s9 _ H9 _ I9 q9) fun uy s10 ⟨y,H10,I10,r10,hp,hl,n10⟩=>?_;refine thn (Im _ s10 _ H10 (.ref s2.heap.objs.size) [y] (.ref s2.heap.objs.size) [uy] (fun _ H11=>N (xs++[y]) H11) I10 rfl (.cons r10 .nil) ⟨_,xs,y,rfl,rfl,hp,hl,n10⟩) fun _ s11 ⟨_,H11,I11,_,n11⟩=>?_;exact again I11 n11
 exact codeAny_compStart_list loop (T.self _ _ _ _ _ st4 loop)
theorem CL {scope:Scope}{x:Str}{px pos:Pos}{elt iter:Expr}{ifs:List Expr}{cn:List Str}{cap:List Nat}{wi:TI}{tc:TT}{te:TE}
  (hc:X.calm=true) (S:CompScope X scope) (hx:scope.names.lookup x=some .local) (hnd:(x::cn).Nodup) (hcap:Caps X scope cn cap) (hi:PI X (.Name x px) iter wi)
  (body:∀ (C:Addr) (s:Shared) (H:Hp) (fp:List Addr),PTs (CD X (x::cn) scope C s H fp) ifs tc/\PE (CD X (x::cn) scope C s H fp) elt te)
  (hs:∀ x,foldedSetIterable iter X.env x=pure x:=by intro _;rfl):PE X (.ListComp elt [⟨.Name x px,iter,ifs,0⟩] scope pos) (MY cap wi tc te):=by
 intro pins s σ H Q I h;rw [eval_ListComp];refine wpAny_comprehension_free (use:=none) rfl hs (S.clos I) S.kind S.names (thn (hi pins s σ H _ I h) fun xv s1 h1=>thn h1 fun itv s2 h2=>?_);obtain ⟨it,fp,tn,J,H2,e,I2,T,st2,f2,q⟩:=h2;subst e;refine Ik (RR:=fun acc C=>compPost (model X.prog X.w) X.A X.xe none (EP X pins σ Q) acc C) S I2 hc hcap hx hnd T st2 f2 body q ?_;intro p C s3 s' H3 Hf σ' I3 hC J' qf;subst hC;have I4:=KI I3 J' f2;obtain ⟨m,hn,_⟩:=J'.loc;refine ⟨m,hn,fun h' hs'=>?_⟩;refine ⟨.ref p,Hf,?_,rfl,qf⟩;have f:=I3.fpOk (H':=Hf) (qzA _) J'.free;exact I4.turned (t':=s'.toks) (it:=s3.heap.objs.size) (fun b o hb e=>(hs'.2 b hb).trans e) f.1 f.2.1 f.2.2.2.1 f.2.2.2.2.1 f.2.2.2.2.2
theorem HP {scope:Scope}{x y:Str}{px py pos spos:Pos}{elt iter:Expr}{ifs:List Expr}{cn:List Str}{cap:List Nat}{wi:TI}{tc:TT}{te:TE}{i:Nat}
  (hN:X.N.Nodup) (hi:X.N[i]? = some y) (hy:Loc X.env.scope y) (hc:X.calm=true) (S:CompScope X scope) (hx:scope.names.lookup x=some .local) (hnd:(x::cn).Nodup) (hcap:Caps X scope cn cap) (hit:PI X (.Name x px) iter wi)
  (body:∀ (C:Addr) (s:Shared) (H:Hp) (fp:List Addr),PTs (CD X (x::cn) scope C s H fp) ifs tc/\PE (CD X (x::cn) scope C s H fp) elt te)
  (hsw:swapsWith (.ListComp elt [⟨.Name x px,iter,ifs,0⟩] scope pos) (some (.Name y py)) spos.line X.env=pure true:=by rfl)
  (hf:X.fn y=true\/X.env.scope.names.lookup y=some .local := by first|exact .inl rfl|exact .inr rfl|assumption)
  (hs:∀ x,foldedSetIterable iter X.env x=pure x:=by intro _;rfl):PS X (.Assign [.Name y py] (.ListComp elt [⟨.Name x px,iter,ifs,0⟩] scope pos) spos) (HH (MY cap wi tc te) (DT i)):=by
 intro pins s σ H D I h;rw [exec_Assign_Name_used _ _ _ _ hsw];refine qbA (wpAny_standAt (qbA ?_));show wpAny _ X.A (do let _ <- comprehension (.ListComp elt [⟨.Name x px,iter,ifs,0⟩] scope pos) scope X.env _ (newList []) false (eval iter X.env) (some (assign (.Name y py) X.env))) _ _ s
 refine qbA (wpAny_mono (wpAny_comprehension_free (use:=some (assign (.Name y py) X.env)) (Q:=fun _ s'=>SP X pins D .next s') rfl hs (S.clos I) S.kind S.names
  (thn (hit pins s σ H _ I h) fun xv s1 h1=>thn h1 fun itv s2 h2=>?_)) (fun _ s' hq=>qcA (qcA hq)) fun _ _ e=>e)
 obtain ⟨it,fp,tn,J,H2,e,I2,T,st2,f2,q⟩:=h2;subst e;refine Ik (Q:=fun v H1=>DT i v σ H1 D.nx) (RR:=fun acc C=>compPost (model X.prog X.w) X.A X.xe (some (assign (.Name y py) X.env)) (fun _ s'=>SP X pins D .next s') acc C) S I2 hc hcap hx hnd T st2 f2 body q ?_;intro p C s3 s' H3 Hf σ' I3 hC J' qf;subst hC;have I4:=KI I3 J' f2;obtain ⟨m,hn,_⟩:=J'.loc;have f:=I3.fpOk (H':=Hf) (qzA _) J'.free;show wpAny _ X.A (assign (.Name y py) X.env (.ref p)) _ _ _;refine wpAny_assign_Name (Ir (v:=V.ref p) I4 hN hi hy rfl (fun s'' I5 ch=>?_) hf);obtain ⟨a,hsb,ha⟩:=ch
 have hCa:s3.heap.objs.size≠a:=by
  rcases ha with rfl|ha
  ·exact f.2.1
  ·exact fun z=>f.2.2.2.2.1 y a ha z.symm
 refine ⟨m,hn.sameBut hsb hCa,fun h' hs'=>?_⟩;exact ⟨_,Hf,I5.turned (t':=s''.toks) (it:=s3.heap.objs.size) (fun b o hb e=>(hs'.2 b hb).trans e) f.1 f.2.1 f.2.2.2.1 f.2.2.2.2.1 f.2.2.2.2.2,qf⟩
end
theorem LO:bootBuiltins "len" = some (.builtin "len"):=by decide +kernel
theorem B2:bootBuiltins "isinstance" = some (.builtin "isinstance"):=by decide +kernel
theorem bt_min:bootBuiltins "min" = some (.builtin "min"):=by decide +kernel
theorem JZ:bootBuiltins "all" = some (.builtin "all"):=by decide +kernel
theorem Ip:bootBuiltins "sorted" = some (.builtin "sorted"):=by decide +kernel
theorem CJ:bootBuiltins "list" = some (.type "list"):=by decide +kernel
theorem DS:bootBuiltins "tuple" = some (.type "tuple"):=by decide +kernel
theorem JR:bootBuiltins "int" = some (.type "int"):=by decide +kernel
theorem bt_str:bootBuiltins "str" = some (.type "str"):=by decide +kernel
theorem Mf:bootBuiltins "bool" = some (.type "bool"):=by decide +kernel
theorem bt_set:bootBuiltins "set" = some (.type "set"):=by decide +kernel
theorem Hz {X:Cx}{x:Str}{i:Int}{pos:Pos}(hg:Gl X x)(h:∃ t,X.mg x=some (.int i t))(hd:(x == ("__debug__" : Str))=false:=by decide):PE X (.Name x pos) (tC (.int i)):=by
 obtain ⟨t,h⟩:=h;exact pe_glob (u:=.int i t) hg h ⟨t,rfl⟩ hd
def N3 (T c:String):Option Bool:=if (T == c)=true then some true else if PySem.W.kitMeta c=true then (fastBuiltinMro T).map (·.contains (.type c)) else none
theorem kit_of {K:FZ9}{T c:String}{b:Bool}(h:N3 T c=some b):PySem.W.kitOne K (.type T) (.type c)=some b:=by
 unfold N3 at h;unfold PySem.W.kitOne;by_cases e:T=c
 ·subst e;rw [if_pos (by simp)] at h;rw [if_pos (by simp)];exact h
 ·rw [if_neg (by simpa using e)] at h;rw [if_neg (by intro z;exact e (by simpa using z))];exact h
structure DefOk (P:Program)(w:World)(K:FZ9)(mg:Str->Option Value)(base:Heap)(x:Str)(k:Nat)(ps:List Str)(sp:Sp):Prop where
 ex:∃ f fd,FnOk P w K mg base CX0 k f fd ps sp/\mg x=some (.ref f)/\PySem.W.keepIn K (.ref f)=true/\Binds K fd ps []
section
variable {X:Cx}{x:Str}{k j:Nat}{ps:List Str}{sp:Sp}{e:Expr}{es:List Expr}{t:TA}{p pos:Pos}
theorem Al (F:DefOk X.prog X.w X.K X.mg X.base x k ps sp)(hr:Room j X.A)(hj:k<=j)(hg:Gl X x)(ha:PA X (e::es) t)(hdb:(x == ("__debug__" : Str))=false:=by decide)
  (he:starEach (e::es) X.env=(false,eval e X.env)::starEach es X.env:=by rfl) (hpl:(backTo pos (starEach es X.env)).any (·.1)=false:=by rfl) :
  PE X (.Call (.Name x p) (e::es) [] pos) (Hd sp [] E0 t):=by
 obtain ⟨f,fd,G,m,kp,b⟩:=F.ex;exact pe_call G (hr.mono hj) hg m kp b .nil pass0 ha hdb he hpl
end
theorem LM {P:Program}{w:World}{K:FZ9}{mg:Str->Option Value}{base:Heap}{x:Str}{st:Stmt}{f:Addr}{fd:FuncData}{k:Nat}{ps:List Str}{sp:Sp}(F:Fun K x x st f fd)(m:mg x=some (.ref f))(b:Binds K fd ps [])(G:FnOk P w K mg base CX0 k f fd ps sp):DefOk P w K mg base x k ps sp :=
 ⟨f,fd,G,m,F.kp,b⟩
theorem C3 {X:Cx}{scope:Scope}(h:(scope.names.all fun p=>p.2 != .free || X.env.scope.names.lookup p.1 == some .cell || X.env.scope.names.lookup p.1 == some .free)=true) :
  ∀ y∈scope.names,y.2 = .free->X.env.scope.names.lookup y.1=some .cell\/X.env.scope.names.lookup y.1=some .free:=fun y hy hf=>by
 have:=List.all_eq_true.mp h y hy;rw [hf] at this
 simpa using this
theorem Same.new {H:Hp}{p:Addr}{o:HO}(h:H p=none):Same H (upd H p o):=fun b u e=>by rw [BQ (BF e h)];exact e
theorem Same.put {H H':Hp}{p:Addr}{o:HO}(s:Same H H')(h:H p=none):Same H (upd H' p o):=fun b u e=>by rw [BQ (BF e h)];exact s b u e
def Its (x:Str):It:=⟨fun i _=>i<x.cps.size,fun i H v H'=>H'=H/\∃ c,x.cps[i]? = some c/\v = .str ⟨#[c]⟩,fun i _=>i=x.cps.size⟩
def StrIt (it:Addr)(x:Str)(t:Tok)(i:Nat)(h:Heap):Prop:=h.IsStrIter it "str_ascii_iterator" x t i\/h.IsStrIter it "str_iterator" x t i
theorem L8 {P:Program}{w:World}{K:FZ9}{tg:Expr}(x:Str)(t:Tok)(it:Addr):Turn P w K tg (Its x) [it] it (StrIt it x t) where
 mem:=by simp
 obj:=fun i h st b hb=>by
  have e:b=it:=by simpa using hb
  subst e;rcases st with ⟨o,e,c,d⟩ | ⟨o,e,c,d⟩<;>exact ⟨o,e,fun v z=>by rw [d] at z;cases z⟩
 keep:=fun i h h' st k=>by
  rcases st with ⟨o,e,r⟩ | ⟨o,e,r⟩
  ·exact .inl ⟨o,k it (by simp) o e,r⟩
  ·exact .inr ⟨o,k it (by simp) o e,r⟩
 item:=by
  intro X hP hw hK hc i pins s σ H E I hf st hg;subst hP hw hK;obtain ⟨f0,f1,f2,f3,f4,f5⟩:=hf it (by simp);rcases st with st|st
  ·refine (Walks.strAscii (prog:=X.prog) (w:=X.w) (I.ok.hd hc) it x t).item i s _ _ hg st fun v h' tk hv st' kk=>?_;obtain ⟨c,u,hcx,rfl⟩:=hv;have I1:=I.turned (h':=h') (t':=tk) (fun b o hb e=>kk b o (by simpa using hb) e) f0 f1 f3 f4 f5;obtain ⟨o,e,hc',d⟩:=id st';exact ⟨_,rfl,Kz (s:={ s with heap:=h',toks:=tk }) e hc' d (by decide) ⟨.str ⟨#[c]⟩,H,I1,⟨u,rfl⟩,⟨rfl,c,hcx,rfl⟩,.inl st',fun b hb=>(hf b hb).1⟩⟩
  ·refine (Walks.strWide (prog:=X.prog) (w:=X.w) (I.ok.hd hc) it x t).item i s _ _ hg st fun v h' tk hv st' kk=>?_;obtain ⟨c,u,hcx,rfl⟩:=hv;have I1:=I.turned (h':=h') (t':=tk) (fun b o hb e=>kk b o (by simpa using hb) e) f0 f1 f3 f4 f5;obtain ⟨o,e,hc',d⟩:=id st';exact ⟨_,rfl,Kz (s:={ s with heap:=h',toks:=tk }) e hc' d (by decide) ⟨.str ⟨#[c]⟩,H,I1,⟨u,rfl⟩,⟨rfl,c,hcx,rfl⟩,.inr st',fun b hb=>(hf b hb).1⟩⟩
 done:=by
  intro X hP hw hK hc i pins s σ H E I hf st hg;subst hP hw hK;obtain ⟨f0,f1,f2,f3,f4,f5⟩:=hf it (by simp);have hg:i=x.cps.size:=hg;subst hg;rcases st with st|st
  ·exact (Walks.strAscii (prog:=X.prog) (w:=X.w) (I.ok.hd hc) it x t).done s _ _ st fun h' tk kk=>⟨rfl,I.turned (fun b o hb e=>kk b o (by simpa using hb) e) f0 f1 f3 f4 f5⟩
  ·exact (Walks.strWide (prog:=X.prog) (w:=X.w) (I.ok.hd hc) it x t).done s _ _ st fun h' tk kk=>⟨rfl,I.turned (fun b o hb e=>kk b o (by simpa using hb) e) f0 f1 f3 f4 f5⟩
 self:=fun _ _ _ _ _ st h=>by
  rcases st with st|st
  ·exact wpAny_pyIter_striter_ascii st h
  ·exact wpAny_pyIter_striter_wide st h
section
variable {X:Cx}{tg:Expr}
def iAny (K:FZ9)(tl:TE):TI:=fun σ H R=>tl σ H fun v H1=>match v with
 | .str x=>R (Its x) H1
 | .ref a=>((∃ xs,SqL K H1 a xs)/\R (Itl K a) H1)\/((∃ xs,SqT K H1 a xs)/\R (Itt K a) H1)
 | _=>False
theorem pi_any {l:Expr}{tl:TE}(hl:PE X l tl):PI X tg l (iAny X.K tl):=by
 intro pins s σ H R I h;refine thn (hl pins s σ H _ I h) fun v s1 ⟨x,H1,I1,r1,q1⟩=>?_
 have one:∀ b∈[s1.heap.objs.size],Hq X pins H1 b:=fun b hb=>by
  have e:b=s1.heap.objs.size:=by simpa using hb
  subst e;exact I1.fpOk (qzA _) (I1.hok.fresh (qzA _))
 cases x with
 | str z =>
  obtain ⟨t,rfl⟩:=r1;have q1:R (Its z) H1:=q1;cases ha:z.cps.all (· < 128)
  ·exact wpAny_pyIter_wide ha ⟨s1.heap.objs.size,[s1.heap.objs.size],_,_,H1,rfl,I1.kept (t':=s1.toks) fun b o e=>qfB _ e,L8 z t _,.inr ⟨_,qgB _ rfl,rfl,rfl⟩,one,q1⟩
  ·exact wpAny_pyIter_ascii ha ⟨s1.heap.objs.size,[s1.heap.objs.size],_,_,H1,rfl,I1.kept (t':=s1.toks) fun b o e=>qfB _ e,L8 z t _,.inl ⟨_,qgB _ rfl,rfl,rfl⟩,one,q1⟩
 | ref a =>
  cases r1;have q1:((∃ xs,SqL X.K H1 a xs)/\R (Itl X.K a) H1)\/((∃ xs,SqT X.K H1 a xs)/\R (Itt X.K a) H1):=q1;rcases q1 with ⟨⟨xs,hq⟩,q⟩ | ⟨⟨xs,hq⟩,q⟩
  ·obtain ⟨its,rv,p,hz⟩:=I1.list hq;exact wpAny_pyIter_list p.isList ⟨s1.heap.objs.size,[s1.heap.objs.size],_,_,H1,rfl,I1.kept (t':=s1.toks) fun b o e=>qfB _ e,ND a _,⟨_,qgB _ rfl,rfl,rfl⟩,one,q⟩
  ·obtain ⟨its,rv,p,hz⟩:=I1.tuple hq;exact wpAny_pyIter_tuple (show s1.heap.IsTuple a its.toArray from p) ⟨s1.heap.objs.size,[s1.heap.objs.size],_,_,H1,rfl,I1.kept (t':=s1.toks) fun b o e=>qfB _ e,Lc a _,⟨_,qgB _ rfl,rfl,rfl⟩,one,q⟩
 | _=>exact (show False from q1).elim
end
structure Yields (J:It)(H:Hp)(xs:List V):Prop where
 go:∀ i H',Same H H'->i<xs.length->J.go i H'
 stop:∀ H',Same H H'->J.stop xs.length H'
 yld:∀ i H' x H'',Same H H'->i<xs.length->J.yld i H' x H''->H''=H'/\xs[i]? = some x
def De (x:Str):List V:=x.cps.toList.map fun c=>.str ⟨#[c]⟩
theorem Lq (x:Str)(H:Hp):Yields (Its x) H (De x) where
 go:=fun i H' _ hi=>by
  have:(De x).length=x.cps.size:=by simp [De]
  show i<x.cps.size;omega
 stop:=fun H' _=>by
  show (De x).length=x.cps.size;simp [De]
 yld:=fun i H' v H'' _ _ y=>by
  obtain ⟨rfl,c,hc,rfl⟩:=y;refine ⟨rfl,?_⟩;simp only [De,qwA,Array.getElem?_toList,hc,Option.map_some]
theorem Jn (lo:Int)(n:Nat)(H:Hp):Yields (Itr lo n) H ((List.range n).map fun (i:Nat)=>V.int (lo+(i:Int))) where
 go:=fun i H' _ hi=>by
  show i<n
  simpa using hi
 stop:=fun H' _=>by
  show n<=((List.range n).map fun (i:Nat)=>V.int (lo+(i:Int))).length;simp
 yld:=fun i H' v H'' _ hi y=>by
  obtain ⟨rfl,rfl⟩:=y;rw [qeA,qiA] at hi;refine ⟨rfl,?_⟩;simp [hi]
theorem GZ {K:FZ9}{a:Addr}{xs:List V}{H:Hp}(h:SqL K H a xs):Yields (Itl K a) H xs where
 go:=fun i H' s hi=>⟨xs,xs[i],s.seq h,by simp [hi]⟩
 stop:=fun H' s=>⟨xs,s.seq h,qzA _⟩
 yld:=fun i H' v H'' s _ y=>⟨y.1,y.2 xs (s.seq h)⟩
section
variable {X:Cx}
def JD (K:FZ9):R2:=fun x y H Q=>match x,y with
 | .int i,.int j=>Q (.int (i+j)) H
 | .str a,.str b=>a.length+b.length<=sizeLine/\Q (.str (a++b)) H
 | .ref a,.ref b=>∃ xs ys,Rd H a (.lst xs)/\Rd H b (.lst ys)/\xs.length+ys.length<=sizeLine/\∀ p,H p=none->Q (.ref p) (upd H p (.lst (xs++ys)))
 | _,_=>False
theorem op_catS:OpR X (binaryOp .Add) (fun x y H Q=>∃ a b xs ys,x = .ref a/\y = .ref b/\Rd H a (.lst xs)/\Rd H b (.lst ys)/\xs.length+ys.length<=sizeLine/\∀ p,H p=none->Q (.ref p) (upd H p (.lst (xs++ys)))):=by
 intro pins s σ H x y v u Q I rx ry h;obtain ⟨l,b,xs,zs,rfl,rfl,hH,hB,hz,q⟩:=h;cases rx;cases ry;obtain ⟨z,its,n,r,e⟩:=hH.ok I.hok;obtain ⟨z2,its2,n2,r2,e2⟩:=hB.ok I.hok;have hl:=r.length;have hl2:=r2.length;refine PySem.P.add_list e e2 ?_ (by rw [qoB,qoB];omega);have ea:its.toArray++its2.toArray=(its++its2).toArray:=by simp
 rw [ea];exact ⟨.ref _,_,I.lnew (t':=s.toks) (r.append r2) (by rw [qfA];omega),rfl,q _ I.fresh⟩
theorem op_plus:OpR X (binaryOp .Add) (JD X.K):=by
 intro pins s σ H x y v u Q I rx ry h
 cases x with
 | int i=>cases y with
  | int j=>exact op_add pins s σ H _ _ v u Q I rx ry ⟨i,j,rfl,rfl,h⟩
  | _=>exact (show False from h).elim
 | str a=>cases y with
  | str b=>exact Lr pins s σ H _ _ v u Q I rx ry ⟨a,b,rfl,rfl,h.1,h.2⟩
  | _=>exact (show False from h).elim
 | ref a=>cases y with
  | ref b =>
   obtain ⟨xs,ys,h1,h2,h3,h4⟩:=h;exact op_catS pins s σ H _ _ v u Q I rx ry ⟨a,b,xs,ys,rfl,rfl,h1,h2,h3,h4⟩
  | _=>exact (show False from h).elim
 | _=>exact (show False from h).elim
def K9 (fi:Int->Int->Bool)(fs:List Nat->List Nat->Bool):R2:=fun x y H Q=>match x,y with
 | .int i,.int j=>Q (.bl (fi i j)) H
 | .str a,.str b=>Q (.bl (fs a.cps.toList b.cps.toList)) H
 | _,_=>False
theorem LX {f:Value->Value->Sem Value}{fi:Int->Int->Bool}{fs:List Nat->List Nat->Bool}(hi:OpR X f (rI0 fun i j=>.bl (fi i j)))
  (hs:∀ (s:Shared) (a b:Str) (t u:Tok) (Q:Value->Shared->Prop),Q (.bool (fs a.cps.toList b.cps.toList)) s->wpAny (model X.prog X.w) X.A (f (.str a t) (.str b u)) Q X.xe s):OpR X f (K9 fi fs):=by
 intro pins s σ H x y v u Q I rx ry h
 cases x with
 | int i=>cases y with
  | int j=>exact hi pins s σ H _ _ v u Q I rx ry ⟨i,j,rfl,rfl,h⟩
  | _=>exact (show False from h).elim
 | str a=>cases y with
  | str b =>
   obtain ⟨t,rfl⟩:=rx;obtain ⟨t',rfl⟩:=ry;exact hs s a b t t' _ ⟨.bl _,H,I,rfl,h⟩
  | _=>exact (show False from h).elim
 | _=>exact (show False from h).elim
theorem EY:OpR X (compareOp .Lt) (K9 (fun i j=>decide (i<j)) fun a b=>decide (a<b)):=LX op_lt fun _ _ _ _ _ _ h=>lt_str h
theorem op_leU:OpR X (compareOp .LtE) (K9 (fun i j=>decide (i<=j)) fun a b=>!decide (b<a)):=LX op_le fun _ _ _ _ _ _ h=>PySem.P.le_str h
theorem FT:OpR X (compareOp .Gt) (K9 (fun i j=>decide (j<i)) fun a b=>decide (b<a)):=LX op_gt fun _ _ _ _ _ _ h=>PySem.P.gt_str h
def rMul (K:FZ9):R2:=fun x y H Q=>match x,y with
 | .int i,.int j=>CMul i j/\Q (.int (i * j)) H
 | .ref l,.int k=>∃ xs,H l=some (.lst xs)/\-(2 ^ 63)<=k/\k<2 ^ 63/\xs.length * k.toNat<=sizeLine/\∀ p,H p=none->Q (.ref p) (upd H p (.lst (List.replicate k.toNat xs).flatten))
 | _,_=>False
theorem op_mulU:OpR X (binaryOp .Mult) (rMul X.K):=by
 intro pins s σ H x y v u Q I rx ry h
 cases x with
 | int i=>cases y with
  | int j=>exact op_mul pins s σ H _ _ v u Q I rx ry ⟨i,j,rfl,rfl,h.1,h.2⟩
  | _=>exact (show False from h).elim
 | ref l=>cases y with
  | int k =>
   obtain ⟨xs,h1,h2,h3,h4,h5⟩:=h;exact op_rep pins s σ H _ _ v u Q I rx ry ⟨l,k,xs,rfl,rfl,h1,h2,h3,h4,h5⟩
  | _=>exact (show False from h).elim
 | _=>exact (show False from h).elim
def rSl (K:FZ9):V->Option Int->Option Int->Hp->VK->Prop:=fun x lo hi H Q=>match x with
 | .str z=>z.length<=sizeLine/\Q (.str (Txt.slice z lo hi)) H
 | .ref a=>(∃ xs,SqL K H a xs/\∀ p,H p=none->Q (.ref p) (upd H p (.lst (HY xs lo hi))))
 | _=>False
theorem sl_str:SlR X (fun x lo hi H Q=>∃ z,x = .str z/\z.length<=sizeLine/\Q (.str (Txt.slice z lo hi)) H):=by
 intro pins s σ H x v vl vu lo hi sl Q I rx hs pl pu h;obtain ⟨z,rfl,hz,q⟩:=h;obtain ⟨t,rfl⟩:=rx;refine ⟨"str",_,F.slot_str_getitem.lookup,typeIs_str _ _ _,?_⟩;have fin:∀ (t':Tok) (k:Nat),EP X pins σ Q (.str (Txt.slice z lo hi) t') { s with toks:=k }:=fun t' k=>⟨.str _,H,I.tok k,⟨t',rfl⟩,q⟩
 cases pl with
 | none=>cases pu with
  | none=>exact wpAny_getItem_str_slice (l:=none) (u:=none) (st:=none) hs rfl (post_val_or_str ⟨qaB (Txt.slice_le z _ _) hz,fin⟩)
  | int j uj=>exact wpAny_getItem_str_slice (l:=none) (u:=some (j,uj)) (st:=none) hs rfl (post_val_or_str ⟨qaB (Txt.slice_le z _ _) hz,fin⟩)
 | int i ui=>cases pu with
  | none=>exact wpAny_getItem_str_slice (l:=some (i,ui)) (u:=none) (st:=none) hs rfl (post_val_or_str ⟨qaB (Txt.slice_le z _ _) hz,fin⟩)
  | int j uj=>exact wpAny_getItem_str_slice (l:=some (i,ui)) (u:=some (j,uj)) (st:=none) hs rfl (post_val_or_str ⟨qaB (Txt.slice_le z _ _) hz,fin⟩)
theorem sl_any:SlR X (rSl X.K):=by
 intro pins s σ H x v vl vu lo hi sl Q I rx hs pl pu h
 cases x with
 | str z=>exact sl_str pins s σ H _ v vl vu lo hi sl Q I rx hs pl pu ⟨z,rfl,h.1,h.2⟩
 | ref a =>
  obtain ⟨xs,h1,h2⟩:=h;exact sl_list pins s σ H _ v vl vu lo hi sl Q I rx hs pl pu ⟨a,xs,rfl,h1,h2⟩
 | _=>exact (show False from h).elim
def rAt (K:FZ9):R2:=fun x y H Q=>match x,y with
 | .str z,.int i=>z.length<=sizeLine/\∃ c,atI z.cps.toList i=some c/\Q (.str ⟨#[c]⟩) H
 | .ref p,.int i=>(∃ xs v,SqL K H p xs/\atI xs i=some v/\Q v H)\/(∃ xs v,SqT K H p xs/\atI xs i=some v/\Q v H)
 | _,_=>False
theorem ix_any:IxR X (rAt X.K):=by
 intro value slice pins s σ H x y v u Q I rx ry q hs
 cases x with
 | str z=>cases y with
  | int i =>
   obtain ⟨hz,c,hc,q⟩:=q;exact ix_str value slice pins s σ H _ _ v u Q I rx ry ⟨z,i,c,rfl,rfl,hz,hc,q⟩ hs
  | _=>exact (show False from q).elim
 | ref p=>cases y with
  | int i =>
   rcases q with ⟨xs,w',h1,h2,h3⟩ | ⟨xs,w',h1,h2,h3⟩
   ·exact ix_list value slice pins s σ H _ _ v u Q I rx ry ⟨p,xs,i,w',rfl,rfl,h1,h2,h3⟩ hs
   ·exact ix_tup value slice pins s σ H _ _ v u Q I rx ry ⟨p,xs,i,w',rfl,rfl,h1,h2,h3⟩ hs
  | _=>exact (show False from q).elim
 | _=>exact (show False from q).elim
def N8 (K:FZ9):List V->Hp->VK->Prop:=fun vs H Q=>match vs with
 | [.str z]=>z.length<=sizeLine/\Q (.int z.length) H
 | [.ref p]=>∃ ys,(SqL K H p ys\/SqT K H p ys)/\Q (.int ys.length) H
 | _=>False
theorem Mr:CW X (.builtin "len") (N8 X.K):=by
 intro pins s σ H vs us Q I r h
 match vs,h with
 | [.str z],h=>exact JN pins s σ H _ us Q I r ⟨z,rfl,h.1,h.2⟩
 | [.ref p],h =>
  obtain ⟨ys,h1,h2⟩:=h;exact Jh pins s σ H _ us Q I r ⟨p,ys,rfl,h1,h2⟩
theorem Ln {ys:List Str}:∀ {us:List Value},Vals (ys.map V.str) us->StrsAre us ys:=by
 induction ys with
 | nil=>intro us r;rw [List.map_nil] at r;cases r;exact .nil
 | cons n ns ih =>
  intro us r;rw [qxA] at r
  cases r with
  | cons r1 r2 =>
   obtain ⟨t,e⟩:=r1;subst e;exact .cons n t (ih r2)
end
structure EqTy (K:FZ9)(k:Nat){α:Type}[DecidableEq α](R:Hp->V->α->Prop):Prop where
 fn:∀ {X:Cx}{pins:List (Addr × Obj)}{σ:St}{H:Hp}{s:Shared}{x:V}{a b:α},X.K=K->Inv X pins σ H s->R H x a->R H x b->a=b
 eq:∀ {X:Cx}{pins:List (Addr × Obj)}{σ:St}{H:Hp}{s:Shared}{x y:V}{u v:Value}{a b:α}(A:Around),X.K=K->Inv X pins σ H s->A.units+k<cLine->RelV x u->RelV y v->R H x a->R H y b->SeqAt.EqAt A s u v (decide (a=b))
 rc:∀ {X:Cx}{pins:List (Addr × Obj)}{σ:St}{H:Hp}{s:Shared}{x y:V}{u v:Value}{a b:α}(A:Around),X.K=K->Inv X pins σ H s->A.units+k<cLine->RelV x u->RelV y v->R H x a->R H y b->SeqAt.RcAt A s u v (decide (a=b))/\SeqAt.RcNeAt A s u v (!decide (a=b))
def isStr:Hp->V->Str->Prop:=fun _ x a=>x = .str a
def isInt:Hp->V->Int->Prop:=fun _ x a=>x = .int a
def isBl:Hp->V->Bool->Prop:=fun _ x a=>x = .bl a
theorem EH {α:Type}[DecidableEq α][BEq α][LawfulBEq α](a b:α):(a == b)=decide (a=b):=by
 by_cases h:a=b
 ·subst h;simp
 ·rw [decide_eq_false h];simpa using h
theorem eqStr {K:FZ9}:EqTy K 0 isStr where
 fn:=fun _ _ h1 h2=>by cases h1;cases h2;rfl
 eq:=fun A _ _ _ r1 r2 h1 h2=>by
  cases h1;cases h2;obtain ⟨t,rfl⟩:=r1;obtain ⟨t',rfl⟩:=r2;rw [<- EH];exact SeqAt.EqAt.str_str _ _ _ _
 rc:=fun A _ _ _ r1 r2 h1 h2=>by
  cases h1;cases h2;obtain ⟨t,rfl⟩:=r1;obtain ⟨t',rfl⟩:=r2;rw [<- EH];exact ⟨SeqAt.RcAt.str_str _ _ _ _,SeqAt.RcNeAt.str_str _ _ _ _⟩
theorem eqInt {K:FZ9}:EqTy K 0 isInt where
 fn:=fun _ _ h1 h2=>by cases h1;cases h2;rfl
 eq:=fun A _ _ _ r1 r2 h1 h2=>by
  cases h1;cases h2;obtain ⟨t,rfl⟩:=r1;obtain ⟨t',rfl⟩:=r2;rw [<- EH];exact SeqAt.EqAt.int_int _ _ _ _
 rc:=fun A _ _ _ r1 r2 h1 h2=>by
  cases h1;cases h2;obtain ⟨t,rfl⟩:=r1;obtain ⟨t',rfl⟩:=r2;rw [<- EH];exact ⟨SeqAt.RcAt.int_int _ _ _ _,SeqAt.RcNeAt.int_int _ _ _ _⟩
theorem eqBl {K:FZ9}:EqTy K 0 isBl where
 fn:=fun _ _ h1 h2=>by cases h1;cases h2;rfl
 eq:=fun A _ _ _ r1 r2 h1 h2=>by
  cases h1;cases h2;cases r1;cases r2;rw [<- EH];exact SeqAt.EqAt.bool_bool _ _
 rc:=fun A _ _ _ r1 r2 h1 h2=>by
  cases h1;cases h2;cases r1;cases r2;rw [<- EH];exact ⟨SeqAt.RcAt.bool_bool _ _,SeqAt.RcNeAt.bool_bool _ _⟩
theorem Paired.at' {α β:Type}{F:α->β->Prop}:∀ {l₁:List α}{l₂:List β}{i:Nat}{a:α}{b:β},Paired F l₁ l₂->l₁[i]? = some a->l₂[i]? = some b->F a b
 | _,_,_,_,_,.nil,e,_=>by simp at e
 | _,_,0,_,_,.cons h _,e1,e2=>by simp at e1 e2;subst e1;subst e2;exact h
 | _,_,i+1,_,_,.cons _ t,e1,e2=>Paired.at' (i:=i) t (by simpa using e1) (by simpa using e2)
theorem JE {α β:Type}{F:α->β->Prop}(hf:∀ a b c,F a b->F a c->b=c):∀ {xs:List α}{as bs:List β},Paired F xs as->Paired F xs bs->as=bs
 | _,_,_,.nil,.nil=>rfl
 | _,_,_,.cons h t,.cons h' t'=>by rw [hf _ _ _ h h',JE hf t t']
theorem all_dec {α:Type}[DecidableEq α]:∀ (as bs:List α) (hl:as.length=bs.length),((List.range as.length).all fun j=>decide (as[j]? = bs[j]?))=decide (as=bs):=by
 intro as bs hl;apply Bool.eq_iff_iff.mpr;rw [decide_eq_true_iff,List.all_eq_true];constructor
 ·intro h;apply List.ext_getElem?;intro i;by_cases hi:i<as.length
  ·exact of_decide_eq_true (h i (qrA.mpr hi))
  ·rw [List.getElem?_eq_none (by omega),List.getElem?_eq_none (by omega)]
 ·rintro rfl i _;simp
def KL (K:FZ9){α:Type}(R:Hp->V->α->Prop):Hp->V->List α->Prop:=fun H x as=>∃ l xs,x = .ref l/\SqL K H l xs/\Paired (R H) xs as
theorem Lv {K:FZ9}{k:Nat}{α:Type}[DecidableEq α]{R:Hp->V->α->Prop}(E:EqTy K k R){X:Cx}{pins:List (Addr × Obj)}{σ:St}{H:Hp}{s:Shared}{A:Around}(hK:X.K=K)(I:Inv X pins σ H s)(hu:A.units+(k+1)<cLine)
  {xs ys:List V}{us vs:List Value}{as bs:List α}(rx:Vals xs us) (ry:Vals ys vs) (px:Paired (R H) xs as) (py:Paired (R H) ys bs) :
  ∀ j (h1:j<us.toArray.size) (h2:j<vs.toArray.size),SeqAt.EqAt A.in1 s us.toArray[j] vs.toArray[j] (decide (as[j]? = bs[j]?)):=by
 intro j h1 h2;have h1':j<us.length:=by simpa using h1
 have h2':j<vs.length:=by simpa using h2
 have lx:=rx.length;have ly:=ry.length;have lpx:=Paired.length px;have lpy:=Paired.length py;have ex:xs[j]? = some xs[j]:=quA (by omega);have ey:ys[j]? = some ys[j]:=quA (by omega);have ea:as[j]? = some as[j]:=quA (by omega);have eb:bs[j]? = some bs[j]:=quA (by omega);obtain ⟨u,hu',ru⟩:=rx.get ex;obtain ⟨v,hv',rv⟩:=ry.get ey
 have e1:us.toArray[j]=u:=by
  rw [quA h1'] at hu'
  simpa using hu'
 have e2:vs.toArray[j]=v:=by
  rw [quA h2'] at hv'
  simpa using hv'
 rw [e1,e2,ea,eb];have:=E.eq A.in1 hK I (show A.units+1+k<cLine by omega) ru rv (Paired.at' px ex ea) (Paired.at' py ey eb);have e3:decide (some as[j]=some bs[j])=decide (as[j]=bs[j]):=by simp
 rw [e3];exact this
theorem eqLst {K:FZ9}{k:Nat}{α:Type}[DecidableEq α]{R:Hp->V->α->Prop}(E:EqTy K k R):EqTy K (k+1) (KL K R):=by
 have fn:∀ {X:Cx}{pins:List (Addr × Obj)}{σ:St}{H:Hp}{s:Shared}{x:V}{a b:List α},X.K=K->Inv X pins σ H s->KL K R H x a->KL K R H x b->a=b:=by
  intro X pins σ H s x a b hK I ha hb;obtain ⟨l,xs,rfl,h1,p1⟩:=ha;obtain ⟨l',ys,e,h2,p2⟩:=hb;cases e;subst hK;have:=I.list_inj h1 h2;subst this;exact JE (F:=R H) (fun _ _ _ p q=>E.fn rfl I p q) p1 p2
 have rc:∀ {X:Cx}{pins:List (Addr × Obj)}{σ:St}{H:Hp}{s:Shared}{x y:V}{u v:Value}{a b:List α}(A:Around),X.K=K->Inv X pins σ H s->A.units+(k+1)<cLine->RelV x u->RelV y v->KL K R H x a->KL K R H y b ->
   SeqAt.RcAt A s u v (decide (a=b))/\SeqAt.RcNeAt A s u v (!decide (a=b)):=by
  intro X pins σ H s x y u v a b A hK I hu r1 r2 ha hb;obtain ⟨l,xs,rfl,h1,p1⟩:=ha;obtain ⟨l',ys,rfl,h2,p2⟩:=hb;cases r1;cases r2;subst hK;obtain ⟨us,rx,plx,_⟩:=I.list h1;obtain ⟨vs,ry,ply,_⟩:=I.list h2;have lx:=rx.length;have ly:=ry.length;have lpx:=Paired.length p1;have lpy:=Paired.length p2;by_cases hl:a.length=b.length
  ·have hsz:us.toArray.size=vs.toArray.size:=by simp;omega
   have it:=Lv E rfl I hu rx ry p1 p2
   have ed:((List.range us.toArray.size).all fun j=>decide (a[j]? = b[j]?))=decide (a=b):=by
    rw [<- all_dec a b hl,qoB,<- lx,lpx]
   rw [<- ed];exact ⟨SeqAt.RcAt.lists plx.isList ply.isList hsz (by omega) it,SeqAt.RcNeAt.lists plx.isList ply.isList hsz (by omega) it⟩
  ·have hsz:(us.toArray.size != vs.toArray.size)=true:=by simp;omega
   have ne:a≠b:=fun e=>hl (by rw [e]);rw [decide_eq_false ne];exact ⟨SeqAt.RcAt.lists_lengths plx.isList ply.isList hsz (by omega),SeqAt.RcNeAt.lists_lengths plx.isList ply.isList hsz (by omega)⟩
 refine ⟨fn,?_,rc⟩;intro X pins σ H s x y u v a b A hK I hu r1 r2 ha hb;have h:=(rc A hK I hu r1 r2 ha hb).1;obtain ⟨l,xs,rfl,h1,p1⟩:=id ha;obtain ⟨l',ys,rfl,h2,p2⟩:=id hb;cases r1;cases r2;by_cases e:l=l'
 ·subst e;have:a=b:=fn hK I ha hb;rw [decide_eq_true this];exact SeqAt.EqAt.same _
 ·exact SeqAt.EqAt.of_refs e h
def HZ (K:FZ9){α β:Type}(R:Hp->V->α->Prop)(S:Hp->V->β->Prop):Hp->V->α × β->Prop:=fun H x p=>∃ t a b,x = .ref t/\SqT K H t [a,b]/\R H a p.1/\S H b p.2
theorem eqPair {K:FZ9}{k:Nat}{α β:Type}[DecidableEq α][DecidableEq β]{R:Hp->V->α->Prop}{S:Hp->V->β->Prop}(E:EqTy K k R)(G:EqTy K k S):EqTy K (k+1) (HZ K R S):=by
 have fn:∀ {X:Cx}{pins:List (Addr × Obj)}{σ:St}{H:Hp}{s:Shared}{x:V}{a b:α × β},X.K=K->Inv X pins σ H s->HZ K R S H x a->HZ K R S H x b->a=b:=by
  intro X pins σ H s x a b hK I ha hb;obtain ⟨l,x1,x2,rfl,h1,p1,p2⟩:=ha;obtain ⟨l',y1,y2,e,h2,q1,q2⟩:=hb;cases e;subst hK;have:=I.tuple_inj h1 h2;cases this;exact Prod.ext (E.fn rfl I p1 q1) (G.fn rfl I p2 q2)
 have rc:∀ {X:Cx}{pins:List (Addr × Obj)}{σ:St}{H:Hp}{s:Shared}{x y:V}{u v:Value}{a b:α × β}(A:Around),X.K=K->Inv X pins σ H s->A.units+(k+1)<cLine->RelV x u->RelV y v->HZ K R S H x a->HZ K R S H y b ->
   SeqAt.RcAt A s u v (decide (a=b))/\SeqAt.RcNeAt A s u v (!decide (a=b)):=by
  intro X pins σ H s x y u v a b A hK I hu r1 r2 ha hb;obtain ⟨l,x1,x2,rfl,h1,p1,p2⟩:=ha;obtain ⟨l',y1,y2,rfl,h2,q1,q2⟩:=hb;cases r1;cases r2;subst hK;obtain ⟨us,rx,plx,_⟩:=I.tuple h1;obtain ⟨vs,ry,ply,_⟩:=I.tuple h2;obtain ⟨u1,u2,rfl,ru1,ru2⟩:=KF rx;obtain ⟨v1,v2,rfl,rv1,rv2⟩:=KF ry;have e1:=E.eq A.in1 rfl I (show A.units+1+k<cLine by omega) ru1 rv1 p1 q1;have e2:=G.eq A.in1 rfl I (show A.units+1+k<cLine by omega) ru2 rv2 p2 q2
  have it:∀ j (h1:j < [u1,u2].toArray.size) (h2:j < [v1,v2].toArray.size),SeqAt.EqAt A.in1 s [u1,u2].toArray[j] [v1,v2].toArray[j] ((fun j=>if j=0 then decide (a.1=b.1) else decide (a.2=b.2)) j):=by
   intro j h1 h2
   match j,h1 with
   | 0,_=>exact e1
   | 1,_=>exact e2
   | j+2,h=>exact absurd h (by simp)
  have ed:((List.range (min [u1,u2].toArray.size [v1,v2].toArray.size)).all (fun j=>if j=0 then decide (a.1=b.1) else decide (a.2=b.2)) && [u1,u2].toArray.size == [v1,v2].toArray.size)=decide (a=b):=by
   apply Bool.eq_iff_iff.mpr;rw [decide_eq_true_iff];constructor
   ·intro h;have h:(decide (a.1=b.1) && (decide (a.2=b.2) && true) && true)=true:=h;simp only [Bool.and_true,qyB,decide_eq_true_iff] at h;exact Prod.ext h.1 h.2
   ·rintro rfl;show (decide (a.1=a.1) && (decide (a.2=a.2) && true) && true)=true;simp
  rw [<- ed];exact ⟨SeqAt.RcAt.tuples plx ply (by omega) it,SeqAt.RcNeAt.tuples plx ply (by omega) it⟩
 refine ⟨fn,?_,rc⟩;intro X pins σ H s x y u v a b A hK I hu r1 r2 ha hb;have h:=(rc A hK I hu r1 r2 ha hb).1;obtain ⟨l,x1,x2,rfl,h1,p1,p2⟩:=id ha;obtain ⟨l',y1,y2,rfl,h2,q1,q2⟩:=id hb;cases r1;cases r2;by_cases e:l=l'
 ·subst e;have:a=b:=fn hK I ha hb;rw [decide_eq_true this];exact SeqAt.EqAt.same _
 ·exact SeqAt.EqAt.of_refs e h
section
variable {X:Cx}
theorem op_neD {k j:Nat}{α:Type}[DecidableEq α]{R:Hp->V->α->Prop}(E:EqTy X.K k R)(hr:Room j X.A)(hk:k<=10):OpR X (compareOp .NotEq) (fun x y H Q=>∃ a b,R H x a/\R H y b/\Q (.bl (!decide (a=b))) H):=by
 intro pins s σ H x y v u Q I rx ry h;obtain ⟨a,b,h1,h2,q⟩:=h;exact (E.rc X.A rfl I (by have:=hr.un;omega) rx ry h1 h2).2 _ _ _ _ ⟨.bl _,H,I,rfl,q⟩
end
class Rp (α:Type) where
 rel:FZ9->Hp->V->α->Prop
 mono:∀ {K:FZ9}{H H':Hp}{v:V}{a:α},Same H H'->rel K H v a->rel K H' v a
theorem Same.rd {H H':Hp}{a:Addr}{u:HO}(s:Same H H')(h:Rd H a u):Rd H' a u:=by
 rcases h with h | ⟨o,h⟩
 ·exact .inl (s _ _ h)
 ·exact .inr ⟨o,s _ _ h⟩
theorem Same.tup {K:FZ9}{H H':Hp}{a:Addr}{xs:List V}(e:Same H H')(h:SqT K H a xs):SqT K H' a xs:=by
 rcases h with h|h
 ·exact .inl (e.rd h)
 ·exact .inr h
instance rpInt:Rp Int:=⟨fun _ _ v a=>v = .int a,fun _ h=>h⟩
instance rpBool:Rp Bool:=⟨fun _ _ v a=>v = .bl a,fun _ h=>h⟩
instance rpStr:Rp Str:=⟨fun _ _ v a=>v = .str a/\a.length<=sizeLine,fun _ h=>h⟩
instance rpUnit:Rp Unit:=⟨fun _ _ v _=>v = .non,fun _ h=>h⟩
instance rpList {α:Type}[Rp α]:Rp (List α) :=
 ⟨fun K H v as=>∃ l xs,v = .ref l/\Rd H l (.lst xs)/\xs.length<=sizeLine/\Paired (Rp.rel K H) xs as,
  fun s ⟨l,xs,e,h,z,p⟩=>⟨l,xs,e,s.rd h,z,Paired.imp' (fun _ _ r=>Rp.mono s r) p⟩⟩
instance rpPair {α β:Type}[Rp α][Rp β]:Rp (α × β) :=
 ⟨fun K H v p=>∃ t a b,v = .ref t/\SqT K H t [a,b]/\Rp.rel K H a p.1/\Rp.rel K H b p.2,
  fun s ⟨t,a,b,e,h,r1,r2⟩=>⟨t,a,b,e,s.tup h,Rp.mono s r1,Rp.mono s r2⟩⟩
structure T3 (α β γ:Type) where
 a:α
 b:β
 c:γ
 deriving DecidableEq
structure T4 (α β γ δ:Type) where
 a:α
 b:β
 c:γ
 d:δ
 deriving DecidableEq
structure Tp (α:Type) where
 l:List α
 deriving DecidableEq
instance rpT4 {α β γ δ:Type}[Rp α][Rp β][Rp γ][Rp δ]:Rp (T4 α β γ δ) :=
 ⟨fun K H v p=>∃ t a b c d,v = .ref t/\SqT K H t [a,b,c,d]/\Rp.rel K H a p.a/\Rp.rel K H b p.b/\Rp.rel K H c p.c/\Rp.rel K H d p.d,
  fun s ⟨t,a,b,c,d,e,h,r1,r2,r3,r4⟩=>⟨t,a,b,c,d,e,s.tup h,Rp.mono s r1,Rp.mono s r2,Rp.mono s r3,Rp.mono s r4⟩⟩
instance rpTp {α:Type}[Rp α]:Rp (Tp α) :=
 ⟨fun K H v as=>∃ t xs,v = .ref t/\SqT K H t xs/\xs.length<=sizeLine/\Paired (Rp.rel K H) xs as.l,
  fun s ⟨l,xs,e,h,z,p⟩=>⟨l,xs,e,s.tup h,z,Paired.imp' (fun _ _ r=>Rp.mono s r) p⟩⟩
class RpA (α:Type) where
 n:Nat
 rel:FZ9->Hp->List V->α->Prop
 mono:∀ {K:FZ9}{H H':Hp}{v:List V}{a:α},Same H H'->rel K H v a->rel K H' v a
 len:∀ {K:FZ9}{H:Hp}{v:List V}{a:α},rel K H v a->v.length=n
instance raNil:RpA Unit:=⟨0,fun _ _ vs _=>vs=[],fun _ h=>h,fun h=>by rw [h];rfl⟩
instance raCons {α β:Type}[Rp α][RpA β]:RpA (α × β) :=
 ⟨RpA.n β+1,fun K H vs p=>∃ v r,vs=v::r/\Rp.rel K H v p.1/\RpA.rel K H r p.2,
  fun s ⟨v,r,e,h1,h2⟩=>⟨v,r,e,Rp.mono s h1,RpA.mono s h2⟩,fun ⟨v,r,e,h1,h2⟩=>by rw [e,qgA,RpA.len h2]⟩
structure Ext (G H G' H':Hp):Prop where
 gg:Same G G'
 gh:Same G' H'
 hh:Same H H'
 no:∀ b,G b=none->H b≠none->G' b=none
section
variable {G H G1 H1 G2 H2 G0 H0:Hp}{p:Addr}{o:HO}
theorem Ext.refl (s:Same G H):Ext G H G H:=⟨.refl _,s,.refl _,fun _ h _=>h⟩
theorem Ext.trans (x:Ext G H G1 H1)(y:Ext G1 H1 G2 H2):Ext G H G2 H2 :=
 ⟨x.gg.trans y.gg,y.gh,x.hh.trans y.hh,fun b h1 h2=>y.no b (x.no b h1 h2) fun z=>h2 (x.hh.free z)⟩
theorem Same.both (s:Same G H):Same (upd G p o) (upd H p o):=fun b u e=>by
 by_cases hb:b=p
 ·subst hb;rw [Ak] at e ⊢;exact e
 ·rw [BQ hb] at e ⊢;exact s b u e
theorem Ext.new (s:Same G H)(h:H p=none):Ext G H (upd G p o) (upd H p o) :=
 ⟨Same.new (s.free h),s.both,Same.new h,fun b h1 h2=>by
  have hb:b≠p:=fun z=>h2 (by rw [z];exact h);rw [BQ hb]
  exact h1⟩
theorem Ext.own (s:Same G H)(h:H p=none):Ext G H G (upd H p o):=⟨.refl _,s.trans (Same.new h),Same.new h,fun _ h _=>h⟩
theorem Ext.put (x:Ext G0 H0 G H)(h0:H0 p=none)(hg:G p=none):Ext G0 H0 G (upd H p o):=⟨x.gg,x.gh.put hg,x.hh.put h0,x.no⟩
theorem Ext.frz (x:Ext G0 H0 G H)(h0:H0 p=none)(hg:G p=none)(hh:H p=some o):Ext G0 H0 (upd G p o) H :=
 ⟨x.gg.trans (Same.new hg),fun b u e=>by
  by_cases hb:b=p
  ·subst hb;rw [Ak] at e;rw [hh];exact e
  ·rw [BQ hb] at e
   exact x.gh b u e,x.hh,fun b h1 h2=>by
  have hb:b≠p:=fun z=>h2 (by rw [z];exact h0);rw [BQ hb]
  exact x.no b h1 h2⟩
end
section
variable {K:FZ9}{σ:St}{G:Hp}
def EV (K:FZ9){α:Type}[Rp α](te:TE)(σ:St)(G:Hp)(m:Option α):Prop :=
 ∀ G1,Same G G1->∀ a,m=some a->∀ H,Same G1 H->∀ Q:VK,(∀ v G2 H2,Ext G1 H G2 H2->Rp.rel K G2 v a->Q v H2)->te σ H Q
def TV (t:TT)(σ:St)(G:Hp)(m:Option Bool):Prop :=
 ∀ G1,Same G G1->∀ a,m=some a->∀ H,Same G1 H->∀ Q:Bool->Hp->Prop,(∀ G2 H2,Ext G1 H G2 H2->Q a H2)->t σ H Q
def LV (K:FZ9){α:Type}[Rp α](t:TA)(σ:St)(G:Hp)(n:Nat)(m:Option (List α)):Prop :=
 ∀ G1,Same G G1->∀ a,m=some a->∀ H,Same G1 H->∀ Q:List V->Hp->Prop,(∀ vs G2 H2,Ext G1 H G2 H2->vs.length=n->Paired (Rp.rel K G2) vs a->Q vs H2)->t σ H Q
def OV (t:TO)(σ:St)(G:Hp)(m:Option (Option Int)):Prop :=
 ∀ G1,Same G G1->∀ a,m=some a->∀ H,Same G1 H->∀ Q:Option Int->Hp->Prop,(∀ G2 H2,Ext G1 H G2 H2->Q a H2)->t σ H Q
def FV (K:FZ9){α:Type}[Rp α](te:TE)(σ:St)(G:Hp)(m:Option (List α)):Prop :=
 ∀ G1,Same G G1->∀ a,m=some a->∀ H,Same G1 H->∀ Q:VK,(∀ p vs G2 H2,Ext G1 H G2 H2->H p=none->G2 p=none->H2 p=some (.lst vs)->vs.length<=sizeLine->Paired (Rp.rel K G2) vs a->Q (.ref p) H2)->te σ H Q
section
variable {α β γ δ:Type}[Rp α][Rp β][Rp γ][Rp δ]{ta tb tc td:TE}{ma:Option α}{mb:Option β}{mc:Option γ}
theorem EV.run {te:TE}{H:Hp}{a:α}{Q:VK}{m:Option α}(e:EV K te σ G m)(hm:m=some a)(s:Same G H)(k:∀ v G2 H2,Ext G H G2 H2->Rp.rel K G2 v a->Q v H2):te σ H Q:=e G (.refl G) a hm H s Q k
theorem TV.run {t:TT}{H:Hp}{a:Bool}{Q:Bool->Hp->Prop}{m:Option Bool}(e:TV t σ G m)(hm:m=some a)(s:Same G H)(k:∀ G2 H2,Ext G H G2 H2->Q a H2):t σ H Q:=e G (.refl G) a hm H s Q k
theorem EV.of {te:TE}{m m':Option α}(e:EV K te σ G m)(h:m=m'):EV K te σ G m':=h ▸ e
theorem FV.ev {te:TE}{m:Option (List α)}(e:FV K te σ G m):EV K te σ G m:=by
 intro G1 s1 a ha H sH Q k;refine e G1 s1 a ha H sH Q fun p vs G2 H2 x h0 hg hh hz hp=>?_;exact k _ _ _ (x.frz h0 hg hh) ⟨p,vs,rfl,.inl Ak,hz,Paired.imp' (fun _ _ r=>Rp.mono (Same.new hg) r) hp⟩
theorem ev_var {i:Nat}{v:V}{a:α}(h:σ[i]? = some (some v))(r:Rp.rel K G v a):EV K (Gn i) σ G (some a):=fun G1 s a' e H sH Q k=>by
 cases e;exact ⟨v,h,k v G1 H (.refl sH) (Rp.mono s r)⟩
theorem ev_c {v:V}{a:α}(h:∀ G,Rp.rel K G v a):EV K (tC v) σ G (some a):=fun G1 s a' e H sH Q k=>by
 cases e;exact k v G1 H (.refl sH) (h _)
theorem AK {i:Int}:EV K (tC (.int i)) σ G (some i):=ev_c fun _=>rfl
theorem DC {b:Bool}:EV K (tC (.bl b)) σ G (some b):=ev_c fun _=>rfl
theorem C1 {x:Str}(h:x.length<=sizeLine:=by decide +kernel):EV K (tC (.str x)) σ G (some x):=ev_c fun _=>⟨rfl,h⟩
theorem EU:EV K (tC .non) σ G (some ()):=ev_c fun _=>rfl
theorem BZ {r:R2}{f:α->β->Option γ}
  (h:∀ {G H:Hp}{v u:V}{a:α}{b:β}{c:γ},Same G H->Rp.rel K G v a->Rp.rel K G u b->f a b=some c->∀ {Q:VK},(∀ w G2 H2,Ext G H G2 H2->Rp.rel K G2 w c->Q w H2)->r v u H Q)
  (ea:EV K ta σ G ma) (eb:EV K tb σ G mb):EV K (tOp r ta tb) σ G (ma.bind fun a=>mb.bind fun b=>f a b):=by
 clear 7;obtain ⟨a,ha,hc⟩:=qaA.mp hc;obtain ⟨b,hb,hc⟩:=qaA.mp hc;clear 8 ea a ha;refine eb G2 (s1.trans x2.gg) b hb H2 x2.gh _ fun u G3 H3 x3 r3=>?_;exact h x3.gh (Rp.mono x3.gg r2) r3 hc fun w G4 H4 x4 r4=>k w G4 H4 ((x2.trans x3).trans x4) r4
theorem ev_un {r:V->Hp->VK->Prop}{f:α->Option γ}
  (h:∀ {G H:Hp}{v:V}{a:α}{c:γ},Same G H->Rp.rel K G v a->f a=some c->∀ {Q:VK},(∀ w G2 H2,Ext G H G2 H2->Rp.rel K G2 w c->Q w H2)->r v H Q)
  (ea:EV K ta σ G ma):EV K (tUn r ta) σ G (ma.bind fun a=>f a):=by
 clear 7;obtain ⟨a,ha,hc⟩:=qaA.mp hc;clear 8 ea a ha;exact h x2.gh r2 hc fun w G4 H4 x4 r4=>k w G4 H4 (x2.trans x4) r4
instance decMul (i j:Int):Decidable (CMul i j):=by unfold CMul;infer_instance
instance decDiv (i j:Int):Decidable (LY i j):=by unfold LY;infer_instance
instance decPow (i j:Int):Decidable (CPow i j):=by unfold CPow;infer_instance
def IU (a b:Int):Option Int:=if CMul a b then some (a * b) else none
def divO (a b:Int):Option Int:=if LY a b then some (a / b) else none
def CM (a b:Int):Option Int:=if 0<b then some (a % b) else none
def powO (a b:Int):Option Int:=if CPow a b then some (a ^ b.toNat) else none
theorem BO {p:Prop}[Decidable p]{α:Type}{a c:α}(h:(if p then some a else none)=some c):p/\a=c:=by
 by_cases hp:p
 ·rw [if_pos hp] at h;exact ⟨hp,qdB h⟩
 ·rw [if_neg hp] at h;cases h
section
variable {ia ib:Option Int}
theorem Bf (ea:EV K ta σ G ia)(eb:EV K tb σ G ib):EV K (tOp (JD K) ta tb) σ G (ia.bind fun a=>ib.bind fun b=>some (a+b)) :=
 BZ (fun s ra rb e Q k=>by cases ra;cases rb;cases e;exact k _ _ _ (.refl s) rfl) ea eb
theorem ev_sub (ea:EV K ta σ G ia)(eb:EV K tb σ G ib):EV K (tOp (rI0 fun i j=>.int (i - j)) ta tb) σ G (ia.bind fun a=>ib.bind fun b=>some (a - b)) :=
 BZ (fun s ra rb e Q k=>by cases ra;cases rb;cases e;exact ⟨_,_,rfl,rfl,k _ _ _ (.refl s) rfl⟩) ea eb
theorem Js (ea:EV K ta σ G ia)(eb:EV K tb σ G ib):EV K (tOp (rMul K) ta tb) σ G (ia.bind fun a=>ib.bind fun b=>IU a b) :=
 BZ (fun s ra rb e Q k=>by cases ra;cases rb;obtain ⟨h,rfl⟩:=BO e;exact ⟨h,k _ _ _ (.refl s) rfl⟩) ea eb
theorem BL (ea:EV K ta σ G ia)(eb:EV K tb σ G ib):EV K (tOp (rI (fun _ j=>0<j) fun i j=>.int (i % j)) ta tb) σ G (ia.bind fun a=>ib.bind fun b=>CM a b) :=
 BZ (fun s ra rb e Q k=>by cases ra;cases rb;obtain ⟨h,rfl⟩:=BO e;exact ⟨_,_,rfl,rfl,h,k _ _ _ (.refl s) rfl⟩) ea eb
theorem ev_div (ea:EV K ta σ G ia)(eb:EV K tb σ G ib):EV K (tOp (rI LY fun i j=>.int (i / j)) ta tb) σ G (ia.bind fun a=>ib.bind fun b=>divO a b) :=
 BZ (fun s ra rb e Q k=>by cases ra;cases rb;obtain ⟨h,rfl⟩:=BO e;exact ⟨_,_,rfl,rfl,h,k _ _ _ (.refl s) rfl⟩) ea eb
theorem Lf (ea:EV K ta σ G ia)(eb:EV K tb σ G ib):EV K (tOp (rI CPow fun i j=>.int (i ^ j.toNat)) ta tb) σ G (ia.bind fun a=>ib.bind fun b=>powO a b) :=
 BZ (fun s ra rb e Q k=>by cases ra;cases rb;obtain ⟨h,rfl⟩:=BO e;exact ⟨_,_,rfl,rfl,h,k _ _ _ (.refl s) rfl⟩) ea eb
theorem Ec (ea:EV K ta σ G ia):EV K (tUn (rU fun i=>.int (-i)) ta) σ G (ia.bind fun a=>some (-a)) :=
 ev_un (fun s ra e Q k=>by cases ra;cases e;exact ⟨_,rfl,k _ _ _ (.refl s) rfl⟩) ea
theorem DD {p:Int->Int->Bool}{q:List Nat->List Nat->Bool}(ea:EV K ta σ G ia)(eb:EV K tb σ G ib):EV K (tOp (K9 p q) ta tb) σ G (ia.bind fun a=>ib.bind fun b=>some (p a b)) :=
 BZ (fun s ra rb e Q k=>by cases ra;cases rb;cases e;exact k _ _ _ (.refl s) rfl) ea eb
theorem Ah (ea:EV K ta σ G ia)(eb:EV K tb σ G ib):EV K (tOp rEq ta tb) σ G (ia.bind fun a=>ib.bind fun b=>some (decide (a=b))) :=
 BZ (fun s ra rb e Q k=>by cases ra;cases rb;cases e;exact ⟨rfl,k _ _ _ (.refl s) (by show V.bl _=V.bl _;congr 1;simp)⟩) ea eb
theorem Lg (ea:EV K ta σ G ia)(eb:EV K tb σ G ib):EV K (tOp rNe ta tb) σ G (ia.bind fun a=>ib.bind fun b=>some (!decide (a=b))) :=
 BZ (fun s ra rb e Q k=>by cases ra;cases rb;cases e;exact ⟨rfl,k _ _ _ (.refl s) (by show V.bl _=V.bl _;congr 1;simp)⟩) ea eb
end
section
variable {ba bb:Option Bool}
theorem ev_eqB (ea:EV K ta σ G ba)(eb:EV K tb σ G bb):EV K (tOp rEq ta tb) σ G (ba.bind fun a=>bb.bind fun b=>some (decide (a=b))) :=
 BZ (fun s ra rb e Q k=>by cases ra;cases rb;cases e;exact ⟨rfl,k _ _ _ (.refl s) (by show V.bl _=V.bl _;congr 1;simp)⟩) ea eb
theorem ev_neB (ea:EV K ta σ G ba)(eb:EV K tb σ G bb):EV K (tOp rNe ta tb) σ G (ba.bind fun a=>bb.bind fun b=>some (!decide (a=b))) :=
 BZ (fun s ra rb e Q k=>by cases ra;cases rb;cases e;exact ⟨rfl,k _ _ _ (.refl s) (by show V.bl _=V.bl _;congr 1;simp)⟩) ea eb
theorem ev_not (ea:EV K ta σ G ba):EV K (tNotV ta) σ G (ba.bind fun a=>some (!a)):=by
 clear 7;obtain ⟨a,ha,hc⟩:=qaA.mp hc;cases hc;clear 8 ea a ha;cases r2;exact ⟨_,rfl,k _ _ _ x2 rfl⟩
theorem Hg (ea:EV K ta σ G ba)(eb:EV K tb σ G bb):EV K (tAndV ta tb) σ G (ba.bind fun a=>cond a bb (some false)):=by
 clear 7;obtain ⟨a,ha,hc⟩:=qaA.mp hc;clear 8 ea a ha;cases r2;refine ⟨_,rfl,?_⟩
 cases a with
 | false=>cases hc;exact Aw (k _ _ _ x2 rfl)
 | true=>exact Ax (eb G2 (s1.trans x2.gg) c hc H2 x2.gh _ fun u G3 H3 x3 r3=>k _ _ _ (x2.trans x3) r3)
theorem ev_or (ea:EV K ta σ G ba)(eb:EV K tb σ G bb):EV K (tOrV ta tb) σ G (ba.bind fun a=>cond a (some true) bb):=by
 clear 7;obtain ⟨a,ha,hc⟩:=qaA.mp hc;clear 8 ea a ha;cases r2;refine ⟨_,rfl,?_⟩
 cases a with
 | true=>cases hc;exact Ax (k _ _ _ x2 rfl)
 | false=>exact Aw (eb G2 (s1.trans x2.gg) c hc H2 x2.gh _ fun u G3 H3 x3 r3=>k _ _ _ (x2.trans x3) r3)
theorem ev_ifx {tt:TT}{m1 m2:Option α}(et:TV tt σ G ba)(ea:EV K ta σ G m1)(eb:EV K tb σ G m2):EV K (tIf tt ta tb) σ G (ba.bind fun a=>cond a m1 m2):=by
 clear 7;obtain ⟨a,ha,hc⟩:=qaA.mp hc;refine et G1 s1 a ha H sH _ fun G2 H2 x2=>?_
 cases a with
 | true=>exact Ax (ea G2 (s1.trans x2.gg) c hc H2 x2.gh _ fun u G3 H3 x3 r3=>k _ _ _ (x2.trans x3) r3)
 | false=>exact Aw (eb G2 (s1.trans x2.gg) c hc H2 x2.gh _ fun u G3 H3 x3 r3=>k _ _ _ (x2.trans x3) r3)
theorem AL (ea:EV K ta σ G ba):TV (tTest ta) σ G ba:=by
 clear 7;clear 8 ea c hc;cases r2;exact ⟨_,rfl,k _ _ x2⟩
theorem DA {t:TT}(ea:TV t σ G ba):TV (tNot t) σ G (ba.bind fun a=>some (!a)):=by
 clear 7;obtain ⟨a,ha,hc⟩:=qaA.mp hc;cases hc;exact ea G1 s1 a ha H sH _ fun G2 H2 x2=>k _ _ x2
theorem Ls {t u:TT}(ea:TV t σ G ba)(eb:TV u σ G bb):TV (tAnd t u) σ G (ba.bind fun a=>cond a bb (some false)):=by
 clear 7;obtain ⟨a,ha,hc⟩:=qaA.mp hc;refine ea G1 s1 a ha H sH _ fun G2 H2 x2=>?_
 cases a with
 | false=>cases hc;exact Aw (k _ _ x2)
 | true=>exact Ax (eb G2 (s1.trans x2.gg) c hc H2 x2.gh _ fun G3 H3 x3=>k _ _ (x2.trans x3))
theorem E2 {t u:TT}(ea:TV t σ G ba)(eb:TV u σ G bb):TV (tOr t u) σ G (ba.bind fun a=>cond a (some true) bb):=by
 clear 7;obtain ⟨a,ha,hc⟩:=qaA.mp hc;refine ea G1 s1 a ha H sH _ fun G2 H2 x2=>?_
 cases a with
 | true=>cases hc;exact Ax (k _ _ x2)
 | false=>exact Aw (eb G2 (s1.trans x2.gg) c hc H2 x2.gh _ fun G3 H3 x3=>k _ _ (x2.trans x3))
theorem tv_tru {f:α->Bool}(h:∀ {G:Hp}{v:V}{a:α},Rp.rel K G v a->TruV K v G (f a))(mn:∀ {G H:Hp}{v:V}{k:Bool},Same G H->TruV K v G k->TruV K v H k)(ea:EV K ta σ G ma) :
  TV (fun σ H Q=>ta σ H fun x H'=>∃ k,TruV K x H' k/\Q k H') σ G (ma.bind fun a=>some (f a)):=by
 clear 7;obtain ⟨a,ha,hc⟩:=qaA.mp hc;cases hc;clear 8 ea a ha;exact ⟨_,mn x2.gh (h r2),k _ _ x2⟩
end
end
end
section
variable {K:FZ9}{σ:St}{G:Hp}{α β γ δ:Type}[Rp α][Rp β][Rp γ][Rp δ]{ta tb tc td:TE}{ma:Option α}{mb:Option β}{mc:Option γ}{md:Option δ}
section
variable {sa sb:Option Str}{ia ib:Option Int}
def catS (a b:Str):Option Str:=if a.length+b.length<=sizeLine then some (a++b) else none
theorem ev_catS (ea:EV K ta σ G sa)(eb:EV K tb σ G sb):EV K (tOp (JD K) ta tb) σ G (sa.bind fun a=>sb.bind fun b=>catS a b) :=
 BZ (fun s ra rb e Q k=>by
  obtain ⟨rfl,z1⟩:=ra;obtain ⟨rfl,z2⟩:=rb;obtain ⟨h,rfl⟩:=BO e
  exact ⟨h,k _ _ _ (.refl s) ⟨rfl,by rw [len_app];exact h⟩⟩) ea eb
theorem Jf {p:Int->Int->Bool}{q:List Nat->List Nat->Bool}(ea:EV K ta σ G sa)(eb:EV K tb σ G sb):EV K (tOp (K9 p q) ta tb) σ G (sa.bind fun a=>sb.bind fun b=>some (q a.cps.toList b.cps.toList)) :=
 BZ (fun s ra rb e Q k=>by obtain ⟨rfl,z1⟩:=ra;obtain ⟨rfl,z2⟩:=rb;cases e;exact k _ _ _ (.refl s) rfl) ea eb
theorem ev_atS (ea:EV K ta σ G sa)(eb:EV K tb σ G ib):EV K (tOp (rAt K) ta tb) σ G (sa.bind fun a=>ib.bind fun i=>(atI a.cps.toList i).bind fun c=>some (⟨#[c]⟩:Str)) :=
 BZ (fun s ra rb e Q k=>by
  obtain ⟨rfl,z1⟩:=ra;cases rb;obtain ⟨c,hc,e⟩:=qaA.mp e;cases e
  exact ⟨z1,c,hc,k _ _ _ (.refl s) ⟨rfl,by show 1<=sizeLine;decide⟩⟩) ea eb
end
theorem C5 {R:V->α->Prop}{xs:List V}{as:List α}{i:Int}{a:α}(p:Paired R xs as)(h:atI as i=some a):∃ v,atI xs i=some v/\R v a:=by
 have hl:=Paired.length p;unfold atI at h ⊢;obtain ⟨j,hj,h⟩:=qaA.mp h;rw [hl,hj]
 have hlt:j<xs.length:=by
  have:=(qtA.mp h).1;omega
 exact ⟨xs[j],quA hlt,Paired.at' p (quA hlt) h⟩
theorem Paired.app {α β:Type}{F:α->β->Prop}:∀ {l1 l2:List α}{m1 m2:List β},Paired F l1 m1->Paired F l2 m2->Paired F (l1++l2) (m1++m2)
 | _,_,_,_,.nil,h=>h
 | _,_,_,_,.cons r t,h=>.cons r (Paired.app t h)
theorem Paired.tk {α β:Type}{F:α->β->Prop}:∀ (n:Nat) {l:List α}{m:List β},Paired F l m->Paired F (l.take n) (m.take n)
 | 0,_,_,_=>by simpa using .nil
 | n+1,_,_,.nil=>by simpa using .nil
 | n+1,_,_,.cons r t=>.cons r (Paired.tk n t)
theorem Paired.dp {α β:Type}{F:α->β->Prop}:∀ (n:Nat) {l:List α}{m:List β},Paired F l m->Paired F (l.drop n) (m.drop n)
 | 0,_,_,h=>h
 | n+1,_,_,.nil=>by simpa using .nil
 | n+1,_,_,.cons r t=>Paired.dp n t
theorem Paired.rep {α β:Type}{F:α->β->Prop}{l:List α}{m:List β}(h:Paired F l m):∀ n:Nat,Paired F (List.replicate n l).flatten (List.replicate n m).flatten
 | 0=>.nil
 | n+1=>by
  rw [List.replicate_succ,List.replicate_succ,List.flatten_cons,List.flatten_cons];exact Paired.app h (Paired.rep h n)
theorem Paired.st {α β:Type}{F:α->β->Prop}{a:α}{b:β}(r:F a b):∀ {l:List α}{m:List β}(j:Nat),Paired F l m->Paired F (l.set j a) (m.set j b)
 | _,_,_,.nil=>.nil
 | _,_,0,.cons _ t=>.cons r t
 | _,_,j+1,.cons q t=>.cons q (Paired.st r j t)
section
variable {la lb:Option (List α)}{ia ib:Option Int}
theorem CC (ea:EV K ta σ G la)(eb:EV K tb σ G ib):EV K (tOp (rAt K) ta tb) σ G (la.bind fun a=>ib.bind fun i=>atI a i) :=
 BZ (fun s ra rb e Q k=>by
  obtain ⟨l,xs,rfl,h,z,p⟩:=ra;cases rb;obtain ⟨v,hv,r⟩:=C5 p e
  exact .inl ⟨xs,v,.inl (s.rd h),hv,k _ _ _ (.refl s) r⟩) ea eb
theorem MC {τ:Type}[Rp τ]{mt:Option τ}{i:Int}{f:τ->α}(h:∀ {G:Hp}{v:V}{p:τ},Rp.rel K G v p->∃ t xs w,v = .ref t/\SqT K G t xs/\atI xs i=some w/\Rp.rel K G w (f p))(ea:EV K ta σ G mt) :
  EV K (tOp (rAt K) ta (tC (.int i))) σ G (mt.bind fun p=>some (f p)):=by
 clear 7;obtain ⟨a,ha,hc⟩:=qaA.mp hc;cases hc;clear 8 ea a ha;obtain ⟨t,xs,w,rfl,ht,hw,r⟩:=h r2;exact .inr ⟨xs,w,x2.gh.tup ht,hw,k _ _ _ x2 r⟩
theorem ev_snd {mt:Option (α × β)}(ea:EV K ta σ G mt):EV K (tOp (rAt K) ta (tC (.int 1))) σ G (mt.bind fun p=>some p.2) :=
 MC (τ:=α × β) (fun ⟨t,a,b,e,h,r1,r2⟩=>⟨t,_,b,e,h,rfl,r2⟩) ea
theorem ev_p41 {mt:Option (T4 α β γ δ)}(ea:EV K ta σ G mt):EV K (tOp (rAt K) ta (tC (.int 0))) σ G (mt.bind fun p=>some p.a) :=
 MC (τ:=T4 α β γ δ) (fun ⟨t,a,b,c,d,e,h,r1,r2,r3,r4⟩=>⟨t,_,a,e,h,rfl,r1⟩) ea
theorem Gb {H:Hp}{Q:VK}{as:List α}{G1:Hp}(s:Same G1 H){vs:List V}(hz:vs.length<=sizeLine)(hp:Paired (Rp.rel K G1) vs as)
  (k:∀ p vs G2 H2,Ext G1 H G2 H2->H p=none->G2 p=none->H2 p=some (.lst vs)->vs.length<=sizeLine->Paired (Rp.rel K G2) vs as->Q (.ref p) H2):∀ p,H p=none->Q (.ref p) (upd H p (.lst vs)) :=
 fun p h=>k p vs G1 _ (.own s h) h (s.free h) Ak hz hp
theorem FV.mono {H H' G1 G2:Hp}{as:List α}{Q:VK}(x:Ext G1 H G2 H')
  (k:∀ p vs G3 H3,Ext G1 H G3 H3->H p=none->G3 p=none->H3 p=some (.lst vs)->vs.length<=sizeLine->Paired (Rp.rel K G3) vs as->Q (.ref p) H3) :
  ∀ p vs G3 H3,Ext G2 H' G3 H3->H' p=none->G3 p=none->H3 p=some (.lst vs)->vs.length<=sizeLine->Paired (Rp.rel K G3) vs as->Q (.ref p) H3 :=
 fun p vs G3 H3 y h0=>k p vs G3 H3 (x.trans y) (x.hh.free h0)
def Eu {α:Type}(a b:List α):Option (List α):=if a.length+b.length<=sizeLine then some (a++b) else none
theorem CQ (ea:EV K ta σ G la)(eb:EV K tb σ G lb):FV K (tOp (JD K) ta tb) σ G (la.bind fun a=>lb.bind fun b=>Eu a b):=by
 clear 7;obtain ⟨a,ha,hc⟩:=qaA.mp hc;obtain ⟨b,hb,hc⟩:=qaA.mp hc;obtain ⟨hl,rfl⟩:=BO hc;clear 8 ea a ha;refine eb G2 (s1.trans x2.gg) b hb H2 x2.gh _ fun u G3 H3 x3 r3=>?_;obtain ⟨l1,xs,rfl,h1,z1,p1⟩:=Rp.mono x3.gg r2;obtain ⟨l2,ys,rfl,h2,z2,p2⟩:=r3;have e1:=Paired.length p1;have e2:=Paired.length p2;have hz:(xs++ys).length<=sizeLine:=by rw [qfA];omega
 exact ⟨xs,ys,x3.gh.rd h1,x3.gh.rd h2,by rw [qfA] at hz;exact hz,Gb x3.gh hz (Paired.app p1 p2) (FV.mono (x2.trans x3) k)⟩
def Fh {α:Type}(xs:List α)(lo hi:Option Int):List α:=(xs.drop (HT.sIx xs.length 0 lo)).take (HT.sIx xs.length xs.length hi - HT.sIx xs.length 0 lo)
theorem Paired.cut {α:Type}{R:V->α->Prop}{xs:List V}{as:List α}(p:Paired R xs as)(lo hi:Option Int):Paired R (HY xs lo hi) (Fh as lo hi):=by
 unfold HY Fh;rw [Paired.length p];exact Paired.tk _ (Paired.dp _ p)
section
variable {t1 t2:TO}{m1 m2:Option (Option Int)}
theorem K2:OV MD σ G (some none):=fun G1 s1 a ha H sH Q k=>by
 cases ha;exact k _ _ (.refl sH)
theorem Jk (ea:EV K ta σ G ia):OV (tPart ta) σ G (ia.bind fun i=>some (some i)):=by
 clear 7;obtain ⟨a,ha,hc⟩:=qaA.mp hc;cases hc;clear 8 ea a ha;cases r2;exact ⟨_,rfl,k _ _ x2⟩
theorem KG (ea:EV K ta σ G la)(e1:OV t1 σ G m1)(e2:OV t2 σ G m2):FV K (tSl (rSl K) ta t1 t2) σ G (la.bind fun a=>m1.bind fun lo=>m2.bind fun hi=>some (Fh a lo hi)):=by
 clear 7;obtain ⟨a,ha,hc⟩:=qaA.mp hc;obtain ⟨lo,hlo,hc⟩:=qaA.mp hc;obtain ⟨hi,hhi,hc⟩:=qaA.mp hc;cases hc;clear 8 ea a ha;refine e1 G2 (s1.trans x2.gg) lo hlo H2 x2.gh _ fun G3 H3 x3=>?_;refine e2 G3 (s1.trans (x2.trans x3).gg) hi hhi H3 x3.gh _ fun G4 H4 x4=>?_;obtain ⟨l,xs,rfl,h,z,p⟩:=Rp.mono (x3.trans x4).gg r2;exact ⟨xs,.inl (x4.gh.rd h),Gb x4.gh (qaB (Da _ _ _) z) (Paired.cut p lo hi) (FV.mono ((x2.trans x3).trans x4) k)⟩
end
end
section
variable {t:TA}{n:Nat}{ml:Option (List α)}
theorem AF:LV K CB σ G 0 (some ([]:List α)):=fun G1 s1 a ha H sH Q k=>by
 cases ha;exact k _ _ _ (.refl sH) rfl .nil
theorem A5 (ea:EV K ta σ G ma)(er:LV K t σ G n ml):LV K (At ta t) σ G (n+1) (ma.bind fun a=>ml.bind fun r=>some (a::r)):=by
 clear 7;obtain ⟨a,ha,hc⟩:=qaA.mp hc;obtain ⟨r,hr,hc⟩:=qaA.mp hc;cases hc;clear 8 ea a ha;refine er G2 (s1.trans x2.gg) r hr H2 x2.gh _ fun vs G3 H3 x3 hl hp=>?_;exact k _ _ _ (x2.trans x3) (by rw [qgA,hl]) (.cons (Rp.mono x3.gg r2) hp)
theorem AQ (e:LV K t σ G n ml)(hn:n<=sizeLine:=by decide):FV K (tLst t) σ G ml:=by
 clear 7;refine e G1 s1 c hc H sH _ fun vs G2 H2 x2 hl hp=>?_;exact ⟨by omega,Gb x2.gh (by omega) hp (FV.mono x2 k)⟩
theorem Af (e:LV K t σ G n ml)(hn:n<=sizeLine:=by decide):EV K (tTup t) σ G (ml.bind fun l=>some (Tp.mk l)):=by
 clear 7;obtain ⟨l,hl,hc⟩:=qaA.mp hc;cases hc;refine e G1 s1 l hl H sH _ fun vs G2 H2 x2 hl hp=>⟨by omega,fun p h=>?_⟩;exact k _ _ _ (x2.trans (.new x2.gh h)) ⟨p,vs,rfl,SqT.of Ak,by omega,Paired.imp' (fun _ _ r=>Rp.mono (Same.new (x2.gh.free h)) r) hp⟩
theorem HB (ea:EV K ta σ G ma)(eb:EV K tb σ G mb):EV K (tTup (At ta (At tb CB))) σ G (ma.bind fun a=>mb.bind fun b=>some (a,b)):=by
 clear 7;obtain ⟨a,ha,hc⟩:=qaA.mp hc;obtain ⟨b,hb,hc⟩:=qaA.mp hc;cases hc;clear 8 ea a ha;refine eb G2 (s1.trans x2.gg) b hb H2 x2.gh _ fun u G3 H3 x3 r3=>⟨by show 2<=sizeLine;decide,fun p h=>?_⟩;have s:=Same.new (o:=.tup [v,u]) (x3.gh.free h);exact k _ _ _ ((x2.trans x3).trans (.new x3.gh h)) ⟨p,v,u,rfl,SqT.of Ak,Rp.mono (x3.gg.trans s) r2,Rp.mono s r3⟩
theorem MO (ea:EV K ta σ G ma)(eb:EV K tb σ G mb)(ec:EV K tc σ G mc)(ed:EV K td σ G md):EV K (tTup (At ta (At tb (At tc (At td CB))))) σ G (ma.bind fun a=>mb.bind fun b=>mc.bind fun c=>md.bind fun d=>some (T4.mk a b c d)):=by
 clear 7;obtain ⟨a,ha,hc⟩:=qaA.mp hc;obtain ⟨b,hb,hc⟩:=qaA.mp hc;obtain ⟨c',hc',hc⟩:=qaA.mp hc;obtain ⟨d,hd,hc⟩:=qaA.mp hc;cases hc;clear 8 ea a ha;refine eb G2 (s1.trans x2.gg) b hb H2 x2.gh _ fun u G3 H3 x3 r3=>?_;refine ec G3 (s1.trans (x2.trans x3).gg) c' hc' H3 x3.gh _ fun w G4 H4 x4 r4=>?_;refine ed G4 (s1.trans ((x2.trans x3).trans x4).gg) d hd H4 x4.gh _ fun y G5 H5 x5 r5=>⟨by show 4<=sizeLine;decide,fun p h=>?_⟩;have s:=Same.new (o:=.tup [v,u,w,y]) (x5.gh.free h);exact k _ _ _ ((((x2.trans x3).trans x4).trans x5).trans (.new x5.gh h)) ⟨p,v,u,w,y,rfl,SqT.of Ak,Rp.mono (((x3.trans x4).trans x5).gg.trans s) r2,Rp.mono ((x4.trans x5).gg.trans s) r3,Rp.mono (x5.gg.trans s) r4,Rp.mono s r5⟩
end
section
variable {t:TA}{A B:Type}[RpA A][RpA B]{mA:Option A}
def spM (K:FZ9){A:Type}{ρ:Type}[RpA A][Rp ρ](m:A->Option ρ):Sp:=fun vs H Q _ =>
 ∃ G a r,Same G H/\RpA.rel K G vs a/\m a=some r/\∀ v G2 H2,Ext G H G2 H2->Rp.rel K G2 v r->Q v H2
theorem Ez {A:Type}{ρ:Type}[RpA A][Rp ρ]{m:A->Option ρ}{vs:List V}{H:Hp}{Q:VK}{E:XK}(h:spM K m vs H Q E):vs.length=RpA.n A:=by
 obtain ⟨G,a,r,_,h,_⟩:=h;exact RpA.len h
theorem BP {la:Option (List α)}(ea:EV K ta σ G la):EV K (tCB (N8 K) (At ta CB)) σ G (la.bind fun a=>some (a.length:Int)):=by
 clear 7;obtain ⟨a,ha,hc⟩:=qaA.mp hc;cases hc;clear 8 ea a ha;obtain ⟨l,xs,rfl,h,z,p⟩:=r2;exact ⟨xs,.inl (.inl (x2.gh.rd h)),by rw [Paired.length p];exact k _ _ _ x2 rfl⟩
theorem ev_min {ia ib:Option Int}(ea:EV K ta σ G ia)(eb:EV K tb σ G ib):EV K (tCB (fun xs H Q=>∃ i j,xs=[.int i,.int j]/\Q (.int (if j<i then j else i)) H) (At ta (At tb CB))) σ G (ia.bind fun a=>ib.bind fun b=>some (if b<a then b else a)):=by
 clear 7;obtain ⟨a,ha,hc⟩:=qaA.mp hc;obtain ⟨b,hb,hc⟩:=qaA.mp hc;cases hc;clear 8 ea a ha;refine eb G2 (s1.trans x2.gg) b hb H2 x2.gh _ fun u G3 H3 x3 r3=>?_;cases r2;cases r3;exact ⟨_,_,rfl,k _ _ _ (x2.trans x3) rfl⟩
theorem Cz {ba:Option Bool}(ea:EV K ta σ G ba):EV K (tCB (fun xs H Q=>(∃ i,xs=[.int i]/\Q (.int i) H)\/∃ k,xs=[.bl k]/\Q (.int (if k then 1 else 0)) H) (At ta CB)) σ G (ba.bind fun a=>some (if a then (1:Int) else 0)):=by
 clear 7;obtain ⟨a,ha,hc⟩:=qaA.mp hc;cases hc;clear 8 ea a ha;cases r2;exact .inr ⟨_,rfl,k _ _ _ x2 (by show V.int _=V.int _;cases a<;>rfl)⟩
theorem Gq {la:Option (List α)}(ea:EV K ta σ G la):FV K (tCB (fun xs H Q=>∃ p ys,xs=[.ref p]/\(SqL K H p ys\/SqT K H p ys)/\∀ l,H l=none->Q (.ref l) (upd H l (.lst ys))) (At ta CB)) σ G la:=by
 intro G1 s1 a ha H sH Q k;clear 8 ea a ha;obtain ⟨l,xs,rfl,h,z,p⟩:=r2;exact ⟨l,xs,rfl,.inl (.inl (x2.gh.rd h)),Gb x2.gh z p (FV.mono x2 k)⟩
end
inductive TyS (K:FZ9)(H:Hp):V->String->Prop where
 | non:TyS K H .non "NoneType"
 | bl (x:Bool):TyS K H (.bl x) "bool"
 | int (i:Int):TyS K H (.int i) "int"
 | str (x:Str):TyS K H (.str x) "str"
 | lst {a:Addr}{xs:List V}(e:SqL K H a xs):TyS K H (.ref a) "list"
 | tup {a:Addr}{xs:List V}(e:SqT K H a xs):TyS K H (.ref a) "tuple"
 | dK {a:Addr}{kvs:List (Key × V)}(e:Rd H a (.dK kvs)):TyS K H (.ref a) "dict"
 | dT {a:Addr}{kvs:List (List Key × V)}(e:Rd H a (.dT kvs)):TyS K H (.ref a) "dict"
def MJ (K:FZ9):List V->Hp->VK->Prop:=fun vs H Q=>∃ x t T b,vs=[x,.ty T]/\TyS K H x t/\N3 t T=some b/\Q (.bl b) H
theorem NW {X:Cx}:CW X (.builtin "isinstance") (MJ X.K):=by
 intro pins s σ H vs us Q I r h;obtain ⟨x,t,T,b,rfl,ty,e,q⟩:=h;obtain ⟨u,w',rfl,rx,r2⟩:=KF r;obtain rfl:w'=Value.type T:=r2;have e:=kit_of (K:=X.K) e;have fin:∀ tk,EP X pins σ Q (.bool b) { s with toks:=tk }:=fun tk=>⟨.bl b,H,I.tok tk,rfl,q⟩
 cases ty with
 | non=>cases (show u=Value.none from rx);exact PySem.W.kia_one PySem.W.kitx_none I.kIn True.intro e (fun z=>nomatch z) fin
 | bl y=>cases (show u=Value.bool y from rx);exact PySem.W.kia_one PySem.W.kitx_bool I.kIn True.intro e (fun z=>nomatch z) fin
 | int i=>obtain ⟨t,q'⟩:=(show ∃ t,u=Value.int i t from rx);cases q';exact PySem.W.kia_one PySem.W.kitx_int I.kIn True.intro e (fun z=>nomatch z) fin
 | str y=>obtain ⟨t,q'⟩:=(show ∃ t,u=Value.str y t from rx);cases q';exact PySem.W.kia_one PySem.W.kitx_str I.kIn True.intro e (fun z=>nomatch z) fin
 | @lst a xs ea =>
  cases (show u=Value.ref a from rx);obtain ⟨its,_,pl,_⟩:=I.list ea;obtain ⟨o,n,h1,h2,_⟩:=pl;exact PySem.W.kia_one PySem.W.kitx_list I.kIn ⟨o,h1,h2⟩ e (fun z=>nomatch z) fin
 | @tup a xs ea =>
  cases (show u=Value.ref a from rx);obtain ⟨its,_,pl,_⟩:=I.tuple ea;obtain ⟨o,h1,h2,_⟩:=pl;exact PySem.W.kia_one PySem.W.kitx_tuple I.kIn ⟨o,h1,h2⟩ e (fun z=>nomatch z) fin
 | @dK a kvs ea =>
  cases (show u=Value.ref a from rx);obtain ⟨_,_,vs,_,p⟩:=ea.ok I.hok;obtain ⟨o,es,ep,h1,h2,_⟩:=p;exact PySem.W.kia_one PySem.W.kitx_dict I.kIn ⟨o,h1,h2.1⟩ e (fun z=>nomatch z) fin
 | @dT a kvs ea =>
  cases (show u=Value.ref a from rx);obtain ⟨_,_,xs,_,o,es,ep,h1,h2,_⟩:=ea.ok I.hok;exact PySem.W.kia_one PySem.W.kitx_dict I.kIn ⟨o,h1,h2.1⟩ e (fun z=>nomatch z) fin
class RpT (α:Type) [Rp α] where
 tn:String
 ty:∀ {K:FZ9}{H:Hp}{v:V}{a:α},Rp.rel K H v a->TyS K H v tn
instance rtBool:RpT Bool:=⟨"bool",fun h=>by cases h;exact .bl _⟩
theorem TyS.mono {H H':Hp}{v:V}{t:String}(s:Same H H')(h:TyS K H v t):TyS K H' v t:=by
 cases h with
 | non=>exact .non
 | bl=>exact .bl _
 | int=>exact .int _
 | str=>exact .str _
 | lst e=>exact .lst (s.seq e)
 | tup e=>exact .tup (s.tup e)
 | dK e=>exact .dK (s.rd e)
 | dT e=>exact .dT (s.rd e)
theorem ev_inst [RpT α]{T:String}{b:Bool}(h:N3 (RpT.tn α) T=some b)(ea:EV K ta σ G ma):EV K (tCB (MJ K) (At ta (At (tC (.ty T)) CB))) σ G (ma.bind fun _=>some b):=by
 clear 7;obtain ⟨a,ha,hc⟩:=qaA.mp hc;cases hc;clear 8 ea a ha;exact ⟨_,_,_,_,rfl,(RpT.ty r2).mono x2.gh,h,k _ _ _ x2 rfl⟩
theorem EqTy.imp {k:Nat}{α:Type}[DecidableEq α]{R R':Hp->V->α->Prop}(E:EqTy K k R)(h:∀ H v a,R' H v a->R H v a):EqTy K k R' :=
 ⟨fun hK I a b=>E.fn hK I (h _ _ _ a) (h _ _ _ b),fun A hK I hu r1 r2 a b=>E.eq A hK I hu r1 r2 (h _ _ _ a) (h _ _ _ b),fun A hK I hu r1 r2 a b=>E.rc A hK I hu r1 r2 (h _ _ _ a) (h _ _ _ b)⟩
class RpE (α:Type) [Rp α] [DecidableEq α] where
 k:Nat
 ty:∀ K:FZ9,EqTy K k (Rp.rel (α:=α) K)
instance reInt:RpE Int:=⟨0,fun _=>eqInt⟩
instance reList {α:Type}[Rp α][DecidableEq α][RpE α]:RpE (List α):=⟨RpE.k α+1,fun K=>(eqLst (RpE.ty K)).imp fun _ _ _ ⟨l,xs,e,h,_,p⟩=>⟨l,xs,e,.inl h,p⟩⟩
theorem EqTy.up {k j:Nat}{α:Type}[DecidableEq α]{R:Hp->V->α->Prop}(E:EqTy K k R)(h:k<=j):EqTy K j R :=
 ⟨fun hK I a b=>E.fn hK I a b,fun A hK I hu r1 r2 a b=>E.eq A hK I (by omega) r1 r2 a b,fun A hK I hu r1 r2 a b=>E.rc A hK I (by omega) r1 r2 a b⟩
instance rePair {α β:Type}[Rp α][DecidableEq α][RpE α][Rp β][DecidableEq β][RpE β]:RpE (α × β) :=
 ⟨max (RpE.k α) (RpE.k β)+1,fun K=>(eqPair ((RpE.ty (α:=α) K).up (Nat.le_max_left _ _)) ((RpE.ty (α:=β) K).up (Nat.le_max_right _ _)))⟩
section
variable {α:Type}[Rp α][DecidableEq α]{m1 m2:Option α}
def rNeD (K:FZ9)(α:Type)[Rp α][DecidableEq α]:R2:=fun x y H Q=>∃ a b:α,Rp.rel K H x a/\Rp.rel K H y b/\Q (.bl (!decide (a=b))) H
theorem op_neM {X:Cx}{j:Nat}(α:Type)[Rp α][DecidableEq α][RpE α](hr:Room j X.A)(hk:RpE.k α<=10):OpR X (compareOp .NotEq) (rNeD X.K α):=op_neD (RpE.ty X.K) hr hk
theorem ev_ne (ea:EV K ta σ G m1)(eb:EV K tb σ G m2):EV K (tOp (rNeD K α) ta tb) σ G (m1.bind fun a=>m2.bind fun b=>some (!decide (a=b))) :=
 BZ (fun s ra rb e Q k=>by cases e;exact ⟨_,_,Rp.mono s ra,Rp.mono s rb,k _ _ _ (.refl s) rfl⟩) ea eb
end
end
inductive Fl (S ρ:Type) where
 | nx (s:S)
 | bk (s:S)
 | rt (r:ρ)
def Hm {α S ρ:Type}(f:α->S->Option (Fl S ρ)):List α->S->Option (Fl S ρ)
 | [],s=>some (.nx s)
 | a::as,s=>(f a s).bind fun fl=>match fl with
  | .nx s'=>Hm f as s'
  | .bk s'=>some (.nx s')
  | .rt r=>some (.rt r)
def Gg {α β:Type}(fc:α->Option Bool)(fe:α->Option β):List α->Option (List β)
 | []=>some []
 | a::r=>(fc a).bind fun b=>cond b ((fe a).bind fun y=>(Gg fc fe r).bind fun ys=>some (y::ys)) (Gg fc fe r)
def D5 {α β:Type}(fe:α->Option β):List α->Option (List β)
 | []=>some []
 | a::r=>(fe a).bind fun y=>(D5 fe r).bind fun ys=>some (y::ys)
theorem IL {α β:Type}(fe:α->Option β):∀ as,Gg (fun _=>some true) fe as=D5 fe as
 | []=>rfl
 | a::r=>by
  show ((fe a).bind fun y=>(Gg (fun _=>some true) fe r).bind fun ys=>some (y::ys))=_;rw [IL fe r]
  rfl
def Jx (lo hi:Int):Option (List Int):=if (-(2 ^ 62)<=lo/\lo<2 ^ 62/\-(2 ^ 62)<=hi/\hi<2 ^ 62)/\(hi - lo).toNat<=sizeLine then some ((List.range (hi - lo).toNat).map fun (i:Nat)=>lo+(i:Int)) else none
section
variable {K:FZ9}{σ:St}{G:Hp}{α β γ δ:Type}[Rp α][Rp β][Rp γ][Rp δ]{ta tb tc td:TE}{ma:Option α}{mb:Option β}{mc:Option γ}{md:Option δ}
def IW (K:FZ9){α:Type}[Rp α](wi:TI)(σ:St)(G:Hp)(m:Option (List α)):Prop :=
 ∀ G1,Same G G1->∀ a,m=some a->∀ H,Same G1 H->∀ R:It->Hp->Prop,(∀ J vs G2 H2,Ext G1 H G2 H2->Yields J G2 vs->vs.length<=sizeLine->Paired (Rp.rel K G2) vs a->R J H2)->wi σ H R
theorem LF {a:Addr}{xs:List V}{H:Hp}(h:SqT K H a xs):Yields (Itt K a) H xs where
 go:=fun i H' s hi=>⟨xs,xs[i],s.tup h,by simp [hi]⟩
 stop:=fun H' s=>⟨xs,s.tup h,qzA _⟩
 yld:=fun i H' v H'' s _ y=>⟨y.1,y.2 xs (s.tup h)⟩
theorem Gy {la:Option (List α)}(ea:EV K ta σ G la):IW K (iAny K ta) σ G la:=by
 intro G1 s1 a ha H sH R k;clear 8 ea a ha;obtain ⟨l,xs,rfl,h,z,p⟩:=r2;exact .inl ⟨⟨xs,.inl (x2.gh.rd h)⟩,k _ xs G2 H2 x2 (GZ (.inl h)) z p⟩
def Ju (x:Str):List Str:=x.cps.toList.map fun c=>(⟨#[c]⟩:Str)
theorem K5 (x:Str)(H:Hp):Paired (Rp.rel K H) (De x) (Ju x):=by
 unfold De Ju
 induction x.cps.toList with
 | nil=>exact .nil
 | cons c r ih=>exact .cons ⟨rfl,by show 1<=sizeLine;decide⟩ ih
theorem GY (H:Hp)(f:Nat->Int):∀ l:List Nat,Paired (Rp.rel K H) (l.map fun i=>V.int (f i)) (l.map fun i=>f i)
 | []=>.nil
 | a::r=>.cons rfl (GY H f r)
theorem ER {ia:Option Int}(ea:EV K ta σ G ia):IW K (iRng1 (At ta CB)) σ G (ia.bind fun j=>Jx 0 j):=by
 intro G1 s1 a ha H sH R k;obtain ⟨j,hj,ha⟩:=qaA.mp ha;obtain ⟨⟨hb,hz⟩,rfl⟩:=BO ha;clear 8 ea j hj;cases r2;refine ⟨j,rfl,hb.2.2.1,hb.2.2.2,?_⟩;have e:(j - 0).toNat=j.toNat:=by omega
 rw [e] at hz k;exact k (Itr 0 j.toNat) _ G2 H2 x2 (Jn 0 j.toNat G2) (by rw [qeA,qiA];exact hz) (GY G2 (fun i=>(0:Int)+(i:Int)) _)
theorem tv_yes:TV tYes σ G (some true):=fun G1 s1 a ha H sH Q k=>by
 cases ha;exact k _ _ (.refl sH)
theorem Paired.getR {F:V->α->Prop}:∀ {xs:List V}{as:List α}{i:Nat}{v:V},Paired F xs as->xs[i]? = some v->∃ a,as[i]? = some a/\F v a
 | _,_,_,_,.nil,e=>by simp at e
 | _,_,0,_,.cons r _,e=>by simp at e;subst e;exact ⟨_,rfl,r⟩
 | _,_,i+1,_,.cons _ t,e=>Paired.getR (i:=i) t (by simpa using e)
theorem fv_comp {cap:List Nat}{wi:TI}{tt:TT}{te:TE}{mi:Option (List α)}{fc:α->Option Bool}{fe:α->Option β}(ei:IW K wi σ G mi)
  (hb:∀ (x:V) (a:α) (G1:Hp),Same G G1->Rp.rel K G1 x a->TV tt ((D3 cap σ).set 0 (some x)) G1 (fc a)/\EV K te ((D3 cap σ).set 0 (some x)) G1 (fe a)) :
  FV K (MY cap wi tt te) σ G (mi.bind fun as=>Gg fc fe as):=by
 clear 7;obtain ⟨as,has,hc⟩:=qaA.mp hc;refine ei G1 s1 as has H sH _ fun J vs Ga Ha xa Y hz pr p hp=>?_;have hla:=Paired.length pr
 refine ⟨fun i m ys H2=>m=vs.length - i/\i<=vs.length/\∃ G2 bs cs,Ext Ga Ha G2 H2/\G2 p=none/\H2 p=some (.lst ys)/\ys.length<=i/\Paired (Rp.rel K G2) ys bs/\Gg fc fe (as.drop i)=some cs/\c=bs++cs,
  ⟨vs.length,by simp,qxB _,Ga,[],c,.own xa.gh hp,xa.gh.free hp,Ak,qzA _,.nil,hc,rfl⟩,?_⟩
 rintro i m ys H2 ⟨rfl,hi,G2,bs,cs,x2,hg,hh,hy,hpr,hcs,rfl⟩;by_cases hlt:i<vs.length
 ·refine .inr ⟨Y.go i _ (x2.gg.trans x2.gh) hlt,fun ys' H'=>∃ G2 bs' cs',Ext Ga Ha G2 H'/\G2 p=none/\H' p=some (.lst ys')/\ys'.length<=i+1/\Paired (Rp.rel K G2) ys' bs'/\Gg fc fe (as.drop (i+1))=some cs'/\bs++cs=bs'++cs',
   fun ys' H' ⟨G3,bs',cs',h⟩=>⟨vs.length - (i+1),by omega,rfl,hlt,G3,bs',cs',h⟩,fun x H3 y=>?_⟩
  obtain ⟨rfl,hx⟩:=Y.yld i _ x H3 (x2.gg.trans x2.gh) hlt y;obtain ⟨a,hai,ra⟩:=Paired.getR pr hx
  have hd:as.drop i=a::as.drop (i+1):=by
   obtain ⟨h1,h2⟩:=qtA.mp hai;rw [List.drop_eq_getElem_cons h1,h2]
  rw [hd] at hcs;obtain ⟨b,hbb,hcs⟩:=qaA.mp hcs;have B:=hb x a G2 (s1.trans (xa.gg.trans x2.gg)) (Rp.mono x2.gg ra);refine B.1 G2 (.refl _) b hbb _ x2.gh _ fun G5 H5 x5=>?_;have hp5:H5 p=some (.lst ys):=x5.hh _ _ hh;have hg5:G5 p=none:=x5.no p hg (by rw [hh];exact fun z=>nomatch z)
  cases b with
  | false =>
   rw [if_neg qnB];exact ⟨G5,bs,cs,x2.trans x5,hg5,hp5,by omega,Paired.imp' (fun _ _ r=>Rp.mono x5.gg r) hpr,hcs,rfl⟩
  | true =>
   rw [if_pos rfl];obtain ⟨z,hze,hcs⟩:=qaA.mp hcs;obtain ⟨cs',hcs',hcs⟩:=qaA.mp hcs;cases hcs;refine B.2 G5 x5.gg z hze H5 x5.gh _ fun v G6 H6 x6 r6=>?_;have hp6:H6 p=some (.lst ys):=x6.hh _ _ hp5;have hg6:G6 p=none:=x6.no p hg5 (by rw [hp5];exact fun z=>nomatch z);refine ⟨hp6,by omega,G6,bs++[z],cs',((x2.trans x5).trans x6).put hp hg6,hg6,Ak,?_,Paired.app (Paired.imp' (fun _ _ r=>Rp.mono (x5.trans x6).gg r) hpr) (.cons r6 .nil),hcs',by simp⟩;rw [qfA,qhA];omega
 ·have e:i=vs.length:=by omega
  subst e;have hd:as.drop vs.length=[]:=List.drop_eq_nil_of_le (by omega);rw [hd] at hcs;cases hcs;refine .inl ⟨Y.stop _ (x2.gg.trans x2.gh),?_⟩;rw [List.append_nil] at k;exact k p ys G2 H2 (xa.trans x2) (xa.hh.free hp) hg hh (by omega) hpr
theorem CZ {cap:List Nat}{wi:TI}{te:TE}{mi:Option (List α)}{fe:α->Option β}(ei:IW K wi σ G mi)
  (hb:∀ (x:V) (a:α) (G1:Hp),Same G G1->Rp.rel K G1 x a->EV K te ((D3 cap σ).set 0 (some x)) G1 (fe a)) :
  FV K (MY cap wi tYes te) σ G (mi.bind fun as=>D5 fe as):=by
 have h:=fv_comp (tt:=tYes) (fc:=fun _=>some true) ei fun x a G1 s r=>⟨tv_yes,hb x a G1 s r⟩;have e:(fun as=>Gg (fun _=>some true) fe as)=fun as=>D5 fe as:=funext (IL fe);rw [e] at h;exact h
def F1 {α:Type}(a:List α)(k:Int):Option (List α):=if (-(2 ^ 63)<=k/\k<2 ^ 63)/\a.length * k.toNat<=sizeLine then some (List.replicate k.toNat a).flatten else none
end
section
variable {K:FZ9}{σ:St}{G H:Hp}{α β:Type}[Rp α][Rp β]{te:TE}{tt:TT}{t u rest:TS}{D:Ends}{i:Nat}{a:α}{m:Option α}
theorem B1 (e:EV K te σ G m)(hm:m=some a)(s:Same G H)(k:∀ v G2 H2,Ext G H G2 H2->Rp.rel K G2 v a->rest D (σ.set i (some v)) H2):El (HH te (DT i)) rest D σ H:=e.run hm s k
theorem AN (e:EV K te σ G m)(hm:m=some a)(s:Same G H)(k:∀ v G2 H2,Ext G H G2 H2->Rp.rel K G2 v a->D.rt v H2):El (tRet te) rest D σ H:=e.run hm s k
theorem Ag {b:Bool}{m:Option Bool}(e:TV tt σ G m)(hm:m=some b)(s:Same G H)(k:∀ G2 H2,Ext G H G2 H2->if b=true then t { D with nx:=rest D } σ H2 else u { D with nx:=rest D } σ H2) :
  El (HM tt t u) rest D σ H:=e.run hm s k
theorem DW (Pv:St->Hp->Prop)(h:∀ nx:St->Hp->Prop,(∀ σ' H',Pv σ' H'->nx σ' H')->El t DN { D with nx:=nx } σ H)(key:∀ σ' H',Pv σ' H'->rest D σ' H'):El t rest D σ H:=h (rest D) key
structure LoopOb (K:FZ9){α S ρ:Type}[Rp α](RR:ρ->V->Hp->Hp->Prop)(f:α->S->Option (Fl S ρ))(g:TG)(tb:TS)(D:Ends)(σ:St)(G2 H2:Hp)(as:List α)(s0:S)(res:Fl S ρ)(RS:S->St->Hp->Hp->Prop):Prop where
 start:RS s0 σ G2 H2
 keep:∀ s σ' G' H',RS s σ' G' H'->Same G2 G'/\Same G' H'
 step:∀ (x:V) (a:α) (s:S) (σ1:St) (G1 H1:Hp) (fl:Fl S ρ),a∈as->RS s σ1 G1 H1->Rp.rel K G1 x a->f a s=some fl->∀ D':Ends,(∀ s' σ' G' H',fl = .nx s'->RS s' σ' G' H'->D'.nx σ' H')->(∀ s' σ' G' H',fl = .nx s'->RS s' σ' G' H'->D'.ct σ' H') ->
  (∀ s' σ' G' H',fl = .bk s'->RS s' σ' G' H'->D'.bk σ' H')->(∀ r v G' H',fl = .rt r->RR r v G' H'->D'.rt v H')->g x σ1 H1 fun σ2 H2=>tb D' σ2 H2
 nxt:∀ s σ' G' H',res = .nx s->RS s σ' G' H'->D.nx σ' H'
 rtn:∀ r v G' H',res = .rt r->RR r v G' H'->D.rt v H'
theorem JP {S ρ:Type}{RR:ρ->V->Hp->Hp->Prop}{f:α->S->Option (Fl S ρ)}{wi:TI}{g:TG}{tb:TS}{mi:Option (List α)}{as:List α}{s0:S}{res:Fl S ρ}(ei:IW K wi σ G mi)(hm:mi=some as)(hf:Hm f as s0=some res)(sg:Same G H)
  (k:∀ G2 H2,Ext G H G2 H2->∃ RS,LoopOb K RR f g tb { D with nx:=rest D } σ G2 H2 as s0 res RS):El (tFor wi g tb) rest D σ H:=by
 refine ei G (.refl G) as hm H sg _ fun J vs G2 H2 x2 Y hz pr=>?_;obtain ⟨RS,L⟩:=k G2 H2 x2;have hla:=Paired.length pr;refine ⟨fun i m σ' H'=>m=vs.length - i/\i<=vs.length/\∃ s G',RS s σ' G' H'/\Hm f (as.drop i) s=some res,⟨vs.length,by simp,qxB _,s0,G2,L.start,hf⟩,?_⟩;rintro i m σ' H' ⟨rfl,hi,s,G',rs,hfo⟩;obtain ⟨k1,k2⟩:=L.keep _ _ _ _ rs;by_cases hlt:i<vs.length
 ·refine .inr ⟨Y.go i _ (k1.trans k2) hlt,fun σ'' H''=>∃ s' G'',RS s' σ'' G'' H''/\Hm f (as.drop (i+1)) s'=some res,fun σ'' H'' ⟨s',G'',h⟩=>⟨vs.length - (i+1),by omega,rfl,hlt,s',G'',h⟩,fun x H3 y=>?_⟩;obtain ⟨rfl,hx⟩:=Y.yld i _ x H3 (k1.trans k2) hlt y;obtain ⟨a,hai,ra⟩:=Paired.getR pr hx
  have hd:as.drop i=a::as.drop (i+1):=by
   obtain ⟨h1,h2⟩:=qtA.mp hai;rw [List.drop_eq_getElem_cons h1,h2]
  rw [hd] at hfo;obtain ⟨fl,hfl,hfo⟩:=qaA.mp hfo;refine L.step x a s σ' G' _ fl (qsA hai) rs (Rp.mono k1 ra) hfl _ ?_ ?_ ?_ ?_
  ·intro s' σ'' G'' H'' e r;subst e;exact ⟨s',G'',r,hfo⟩
  ·intro s' σ'' G'' H'' e r;subst e;exact ⟨s',G'',r,hfo⟩
  ·intro s' σ'' G'' H'' e r;subst e;exact L.nxt s' σ'' G'' H'' (qdB hfo).symm r
  ·intro r v G'' H'' e rl;subst e;exact L.rtn r v G'' H'' (qdB hfo).symm rl
 ·have e:i=vs.length:=by omega
  subst e;have hd:as.drop vs.length=[]:=List.drop_eq_nil_of_le (by omega);rw [hd] at hfo;exact .inl ⟨Y.stop _ (k1.trans k2),L.nxt s σ' G' H' (qdB hfo).symm rs⟩
end
structure Own (K:FZ9){α:Type}[Rp α](G H:Hp)(v:V)(p:Addr)(vs:List V)(as:List α):Prop where
 v:v = .ref p
 g:G p=none
 h:H p=some (.lst vs)
 z:vs.length<=sizeLine
 p:Paired (Rp.rel K G) vs as
section
variable {K:FZ9}{σ:St}{G H G1 H1 G0 H0:Hp}{α β:Type}[Rp α][Rp β]{te ti:TE}{tt:TT}{t u rest:TS}{D:Ends}{i:Nat}{a:α}{m:Option α}{as:List α}{v:V}{p q:Addr}{vs:List V}
theorem Own.ext (o:Own K G H v p vs as)(x:Ext G H G1 H1):Own K G1 H1 v p vs as :=
 ⟨o.v,x.no p o.g (by rw [o.h];exact fun z=>nomatch z),x.hh _ _ o.h,o.z,Paired.imp' (fun _ _ r=>Rp.mono x.gg r) o.p⟩
theorem Own.put {ho:HO}(o:Own K G H v p vs as)(h:p≠q):Own K G (upd H q ho) v p vs as:=⟨o.v,o.g,by rw [BQ h];exact o.h,o.z,o.p⟩
theorem Own.tell (o:Own K G H v p vs as):Rp.rel K (upd G p (.lst vs)) v as:=⟨p,vs,o.v,.inl Ak,o.z,Paired.imp' (fun _ _ r=>Rp.mono (Same.new o.g) r) o.p⟩
theorem Own.same (o:Own K G H v p vs as)(s:Same G H):Same (upd G p (.lst vs)) H:=fun b x e=>by
 by_cases hb:b=p
 ·subst hb;rw [Ak] at e;rw [o.h];exact e
 ·rw [BQ hb] at e;exact s b x e
theorem Ck {m:Option (List α)}{as:List α}(e:FV K te σ G m)(hm:m=some as)(s:Same G H)(k:∀ p vs G2 H2,Ext G H G2 H2->H p=none->Own K G2 H2 (.ref p) p vs as->rest D (σ.set i (some (.ref p))) H2):El (HH te (DT i)) rest D σ H :=
 e G (.refl G) as hm H s _ fun p vs G2 H2 x h0 hg hh hz hp=>k p vs G2 H2 x h0 ⟨rfl,hg,hh,hz,hp⟩
def MM {α:Type}(as:List α)(a:α):Option (List α):=if as.length<sizeLine then some (as++[a]) else none
theorem J0 {as':List α}(hσ:σ[i]? = some (some v))(o:Own K G H v p vs as)(e:EV K te σ G m)(hm:m=some a)(hp:MM as a=some as')(s:Same G H)
  (k:∀ G2 H2 w,Ext G H G2 H2->Own K G2 (upd H2 p (.lst (vs++[w]))) v p (vs++[w]) as'->rest D σ (upd H2 p (.lst (vs++[w])))):El (MB (tBM K "list" K7 (Gn i) (At te CB))) rest D σ H:=by
 obtain ⟨hl,rfl⟩:=BO hp;have hlen:=Paired.length o.p;obtain ⟨rfl,og,oh,oz,op⟩:=o;refine ⟨_,hσ,.inl ⟨rfl,_,SqL.of oh⟩,?_⟩;refine e.run hm s fun w G2 H2 x r=>?_;refine ⟨p,vs,w,rfl,rfl,x.hh _ _ oh,by omega,?_⟩;refine k G2 H2 w x ⟨rfl,x.no p og (by rw [oh];exact fun z=>nomatch z),Ak,?_,Paired.app (Paired.imp' (fun _ _ r=>Rp.mono x.gg r) op) (.cons r .nil)⟩;rw [qfA,qhA];omega
structure TupK (H H':Hp):Prop where
 rd:∀ b xs,Rd H b (.tup xs)->Rd H' b (.tup xs)
 eq:∀ b xs,H b=some (.tup xs)->H' b=some (.tup xs)
class Imm (α:Type) [Rp α]:Prop where
 im:∀ {K:FZ9}{H H':Hp}{v:V}{a:α},TupK H H'->Rp.rel K H v a->Rp.rel K H' v a
instance imInt:Imm Int:=⟨fun _ h=>h⟩
def del (G:Hp)(p:Addr):Hp:=fun b=>if b=p then none else G b
theorem GR {G:Hp}{p b:Addr}(h:b≠p):del G p b=G b:=by unfold del;rw [if_neg h]
theorem KN {G:Hp}{p:Addr}:del G p p=none:=by unfold del;rw [if_pos rfl]
theorem Ext.del {ho:HO}{G2 H2:Hp}(hg:G p=none)(x:Ext (upd G p ho) H G2 H2):Ext G H (L2.del G2 p) H2 :=
 ⟨fun b o e=>by
  have hb:b≠p:=BF e hg;rw [GR hb]
  exact x.gg b o (by rw [BQ hb];exact e),fun b o e=>by
  by_cases hb:b=p
  ·subst hb;rw [KN] at e;cases e
  ·rw [GR hb] at e
   exact x.gh b o e,x.hh,fun b h1 h2=>by
  by_cases hb:b=p
  ·subst hb;exact KN
  ·rw [GR hb]
   exact x.no b (by rw [BQ hb];exact h1) h2⟩
theorem Imm.del {β:Type}[Rp β][Imm β]{G2:Hp}{w:V}{c:β}{ys:List V}(h:G2 p=some (.lst ys))(r:Rp.rel K G2 w c):Rp.rel K (L2.del G2 p) w c :=
 Imm.im ⟨fun b xs e=>by
  have hb:b≠p:=fun z=>by
   subst z;rcases e with e | ⟨o,e⟩<;>(rw [h] at e;cases e)
  rcases e with e | ⟨o,e⟩
  ·exact .inl (by rw [GR hb];exact e)
  ·exact .inr ⟨o,by rw [GR hb];exact e⟩,fun b xs e=>by
  have hb:b≠p:=fun z=>by
   subst z;rw [h] at e;cases e
  rw [GR hb]
  exact e⟩ r
theorem EV.runB {β:Type}[Rp β][Imm β]{mb:Option β}{b:β}{Q:VK}(o:Own K G H v p vs as)(e:EV K te σ (upd G p (.lst vs)) mb)(hm:mb=some b)(s:Same G H)(k:∀ w G2 H2,Ext G H G2 H2->Rp.rel K G2 w b->Q w H2):te σ H Q :=
 e.run hm (o.same s) fun w G2 H2 x r=>k w (del G2 p) H2 (x.del o.g) (Imm.del (x.gg _ _ Ak) r)
theorem TV.runB {mb:Option Bool}{b:Bool}{Q:Bool->Hp->Prop}(o:Own K G H v p vs as)(e:TV tt σ (upd G p (.lst vs)) mb)(hm:mb=some b)(s:Same G H)(k:∀ G2 H2,Ext G H G2 H2->Q b H2):tt σ H Q :=
 e.run hm (o.same s) fun G2 H2 x=>k (del G2 p) H2 (x.del o.g)
end
section
variable {K:FZ9}{σ:St}{G:Hp}
theorem Ch {ρ A0:Type}[Rp ρ][Rp A0]{t0:TE}{m0:Option A0}{m:A0 × Unit->Option ρ}(e0:EV K t0 σ G m0):EV K (Hd (spM K m) [] E0 (At t0 CB)) σ G (m0.bind fun a0=>m (a0,())):=by
 clear 7;obtain ⟨a0,ha0,hc⟩:=qaA.mp hc;refine e0 G1 s1 a0 ha0 H sH _ fun v0 G2 H2 x0 r0=>?_;have y0:=x0;exact ⟨G2,_,c,y0.gh,⟨v0,_,rfl,r0,rfl⟩,hc,fun v G9 H9 x9 r9=>k v G9 H9 (y0.trans x9) r9⟩
theorem B7 {ρ A0 A1:Type}[Rp ρ][Rp A0][Rp A1]{t0 t1:TE}{m0:Option A0}{m1:Option A1}{m:A0 × A1 × Unit->Option ρ}(e0:EV K t0 σ G m0)(e1:EV K t1 σ G m1):EV K (Hd (spM K m) [] E0 (At t0 (At t1 CB))) σ G (m0.bind fun a0=>m1.bind fun a1=>m (a0,a1,())):=by
 clear 7;obtain ⟨a0,ha0,hc⟩:=qaA.mp hc;obtain ⟨a1,ha1,hc⟩:=qaA.mp hc;refine e0 G1 s1 a0 ha0 H sH _ fun v0 G2 H2 x0 r0=>?_;have y0:=x0;refine e1 G2 (s1.trans y0.gg) a1 ha1 H2 y0.gh _ fun v1 G3 H3 x1 r1=>?_;have y1:=y0.trans x1;exact ⟨G3,_,c,y1.gh,⟨v0,_,rfl,(Rp.mono x1.gg r0),⟨v1,_,rfl,r1,rfl⟩⟩,hc,fun v G9 H9 x9 r9=>k v G9 H9 (y1.trans x9) r9⟩
theorem MW {ρ A0 A1 A2:Type}[Rp ρ][Rp A0][Rp A1][Rp A2]{t0 t1 t2:TE}{m0:Option A0}{m1:Option A1}{m2:Option A2}{m:A0 × A1 × A2 × Unit->Option ρ}(e0:EV K t0 σ G m0)(e1:EV K t1 σ G m1)(e2:EV K t2 σ G m2):EV K (Hd (spM K m) [] E0 (At t0 (At t1 (At t2 CB)))) σ G (m0.bind fun a0=>m1.bind fun a1=>m2.bind fun a2=>m (a0,a1,a2,())):=by
 clear 7;obtain ⟨a0,ha0,hc⟩:=qaA.mp hc;obtain ⟨a1,ha1,hc⟩:=qaA.mp hc;obtain ⟨a2,ha2,hc⟩:=qaA.mp hc;refine e0 G1 s1 a0 ha0 H sH _ fun v0 G2 H2 x0 r0=>?_;have y0:=x0;refine e1 G2 (s1.trans y0.gg) a1 ha1 H2 y0.gh _ fun v1 G3 H3 x1 r1=>?_;have y1:=y0.trans x1;refine e2 G3 (s1.trans y1.gg) a2 ha2 H3 y1.gh _ fun v2 G4 H4 x2 r2=>?_;have y2:=y1.trans x2;exact ⟨G4,_,c,y2.gh,⟨v0,_,rfl,(Rp.mono x2.gg (Rp.mono x1.gg r0)),⟨v1,_,rfl,(Rp.mono x2.gg r1),⟨v2,_,rfl,r2,rfl⟩⟩⟩,hc,fun v G9 H9 x9 r9=>k v G9 H9 (y2.trans x9) r9⟩
section
variable {ta tb:TE}{a b:Bool}{tt tu:TT}{mb:Option Bool}
theorem ev_orP (ea:EV K ta σ G (some a))(eb:EV K tb σ G (some b)):EV K (tOrV ta tb) σ G (some (a || b)):=(ev_or ea eb).of (by cases a<;>rfl)
theorem TV.of {m m':Option Bool}(e:TV tt σ G m)(h:m=m'):TV tt σ G m':=h ▸ e
theorem Mj (ea:TV tt σ G (some a))(eb:TV tu σ G (some b)):TV (tAnd tt tu) σ G (some (a && b)):=(Ls ea eb).of (by cases a<;>rfl)
theorem TruV.mono {G H:Hp}{v:V}{k:Bool}(s:Same G H)(h:TruV K v G k):TruV K v H k:=by
 cases v with
 | ref p =>
  rcases h with ⟨xs,hx,e⟩ | ⟨xs,hx,e⟩ | ⟨kvs,hx,e⟩
  ·exact .inl ⟨xs,s.seq hx,e⟩
  ·exact .inr (.inl ⟨xs,s.tup hx,e⟩)
  ·exact .inr (.inr ⟨kvs,s _ _ hx,e⟩)
 | _=>exact h
theorem FI {mb:Option Bool}(ea:EV K ta σ G mb):TV (fun σ H Q=>ta σ H fun x H'=>∃ k,TruV K x H' k/\Q k H') σ G mb:=by
 have h:=tv_tru (K:=K) (f:=fun (a:Bool)=>a) (fun {G v a}(r:Rp.rel K G v a)=>by cases r;exact rfl) (fun s=>TruV.mono s) ea;refine h.of ?_;cases mb<;>rfl
end
theorem cT {α:Type}{A B:Option α}{r:Option α}(h:cond true A B=r):A=r:=h
theorem cF {α:Type}{A B:Option α}{r:Option α}(h:cond false A B=r):B=r:=h
theorem Gz {i:Nat}{x:V}{σ:St}{H:Hp}{tb:TS}{D:Ends}(h:tb D (σ.set i (some x)) H):DT i x σ H fun σ2 H2=>tb D σ2 H2:=h
end
section
variable {K:FZ9}{σ:St}{G H:Hp}{α β γ:Type}[Rp α][Rp β][Rp γ]{ta tb te:TE}{ia ib:Option Int}{c:Int}{rest t u:TS}{D:Ends}{i j:Nat}{tt:TT}
theorem Gs (ea:EV K ta σ G ia)(hc:-(2 ^ 64)<c/\c<2 ^ 64:=by decide):EV K (tOp (rMul K) ta (tC (.int c))) σ G (ia.bind fun a=>some (a * c)):=by
 have h:=Js ea (AK (K:=K) (σ:=σ) (G:=G) (i:=c))
 have e:(ia.bind fun a=>(some c).bind fun b=>IU a b)=ia.bind fun a=>some (a * c):=by
  congr 1;funext a
  show IU a c=_;unfold IU;rw [if_pos (.inr hc)]
 exact h.of e
theorem ev_mulL (eb:EV K tb σ G ib)(hc:-(2 ^ 64)<c/\c<2 ^ 64:=by decide):EV K (tOp (rMul K) (tC (.int c)) tb) σ G (ib.bind fun b=>some (c * b)):=by
 have h:=Js (AK (K:=K) (σ:=σ) (G:=G) (i:=c)) eb
 have e:((some c).bind fun a=>ib.bind fun b=>IU a b)=ib.bind fun b=>some (c * b):=by
  show (ib.bind fun b=>IU c b)=_
  congr 1;funext b
  unfold IU;rw [if_pos (.inl hc)]
 exact h.of e
theorem Aa (ea:EV K ta σ G ia)(hc:0<c:=by decide):EV K (tOp (rI (fun _ j=>0<j) fun i j=>.int (i % j)) ta (tC (.int c))) σ G (ia.bind fun a=>some (a % c)):=by
 have h:=BL ea (AK (K:=K) (σ:=σ) (G:=G) (i:=c))
 have e:(ia.bind fun a=>(some c).bind fun b=>CM a b)=ia.bind fun a=>some (a % c):=by
  congr 1;funext a
  show CM a c=_;unfold CM;rw [if_pos hc]
 exact h.of e
theorem AY (ea:EV K ta σ G ia)(hc:0<c/\c<1073741824:=by decide):EV K (tOp (rI LY fun i j=>.int (i / j)) ta (tC (.int c))) σ G (ia.bind fun a=>some (a / c)):=by
 have h:=ev_div ea (AK (K:=K) (σ:=σ) (G:=G) (i:=c))
 have e:(ia.bind fun a=>(some c).bind fun b=>divO a b)=ia.bind fun a=>some (a / c):=by
  congr 1;funext a
  show divO a c=_;unfold divO;rw [if_pos (show LY a c from hc)]
 exact h.of e
structure Scr where
 l:List Int
instance rpScr:Rp Scr:=⟨fun K H v a=>∃ l,v = .ref l/\SqL K H l (a.l.map V.int),fun s ⟨l,e,h⟩=>⟨l,e,s.seq h⟩⟩
theorem JT {ma:Option Scr}(ea:EV K ta σ G ma):EV K (tCB (N8 K) (At ta CB)) σ G (ma.bind fun a=>some (a.l.length:Int)):=by
 clear 7;obtain ⟨a,ha,hc⟩:=qaA.mp hc;cases hc;clear 8 ea a ha;obtain ⟨l,rfl,h⟩:=r2;exact ⟨_,.inl (x2.gh.seq h),by rw [qeA];exact k _ _ _ x2 rfl⟩
theorem MA {H:Hp}:∀ ns:List Int,Paired (Rp.rel K H) (ns.map V.int) ns
 | []=>.nil
 | _::r=>.cons rfl (MA r)
theorem ev_atX {ma:Option Scr}(ea:EV K ta σ G ma)(eb:EV K tb σ G ib):EV K (tOp (rAt K) ta tb) σ G (ma.bind fun a=>ib.bind fun i=>atI a.l i) :=
 BZ (fun s ra rb e Q k=>by
  obtain ⟨l,rfl,h⟩:=ra;cases rb;obtain ⟨v,hv,r⟩:=C5 (MA (K:=K) _) e
  exact .inl ⟨_,v,s.seq h,hv,k _ _ _ (.refl s) r⟩) ea eb
theorem EM {X:Cx}:OpR X (binaryOp .Mult) (fun x y H Q=>∃ l k xs,x = .ref l/\y = .int k/\Rd H l (.lst xs)/\-(2 ^ 63)<=k/\k<2 ^ 63/\xs.length * k.toNat<=sizeLine/\∀ p,H p=none->Q (.ref p) (upd H p (.lst (List.replicate k.toNat xs).flatten))):=by
 intro pins s σ H x y v u Q I rx ry h;obtain ⟨l,k,xs,rfl,rfl,hH,h1,h2,hz,q⟩:=h;cases rx;obtain ⟨t,rfl⟩:=ry;obtain ⟨z,its,n,r,e⟩:=hH.ok I.hok;have hl:=r.length;have hlen:its.toArray.size * k.toNat<=sizeLine:=by rw [qoB,<- hl];exact hz
 have hcap:¬ its.toArray.size * k.toNat > (2 ^ 63 - 1) / 8:=by
  have:(sizeLine:Nat)<=(2 ^ 63 - 1) / 8:=by decide
  omega
 have hfit:¬ (!Builtin.List.listFitsIndex k)=true:=by
  rw [fitsIndex_both h1 h2];exact qnB
 have hlong:¬ Builtin.List.listTooLong (its.toArray.size * k.toNat)=true:=by
  rw [KD hlen];exact qnB
 have hnew:List.foldl (fun x1 x2=>x1++x2) #[] (List.replicate (if its.toArray.isEmpty=true then 0 else k.toNat) its.toArray)=(List.replicate k.toNat its).flatten.toArray:=by
  have f0:∀ m:Nat,List.foldl (fun x1 x2=>x1++x2) #[] (List.replicate m its.toArray)=(List.replicate m its).flatten.toArray:=fun m=>by
   have:=GL its m [];rw [List.nil_append] at this;exact this
  rw [f0]
  cases its with
  | nil=>simp
  | cons a r'=>rw [if_neg (by simp)]
 refine wpAny_binaryOp_repeat_ref (T := "list") (U := "int") (by decide) ⟨_,e,rfl⟩ (fun s'=>typeIs_int s' k t) noFill_list_mul F.fills_int_mul F.slot_int_rmul repeat_list F.slot_int_index.lookup
  (call_meets F.slot_int_rmul (typeIs_int s k t) F.entry_int_rmul (F.args_int_rmul_2 _ _) (int___rmul___int_list k t l its.toArray n)
   ⟨e,rfl,⟨_,e,rfl⟩,call_meets F.slot_list_mul ⟨_,e,rfl⟩ F.entry_list_mul (F.args_list_mul_2 _ _) (AutoListH.list___mul___list_int_3 l its.toArray n k t hfit hcap hlong) ⟨e,?_⟩⟩)
 rw [hnew];exact ⟨.ref _,_,I.lnew (t':=s.toks) (r.rep k.toNat) (by rw [Jj,Nat.mul_comm];exact hz),rfl,q _ I.fresh⟩
theorem Cd {la:Option (List α)}(ea:EV K ta σ G la)(eb:EV K tb σ G ib) :
  FV K (tOp (fun x y H Q=>∃ l k xs,x = .ref l/\y = .int k/\Rd H l (.lst xs)/\-(2 ^ 63)<=k/\k<2 ^ 63/\xs.length * k.toNat<=sizeLine/\∀ p,H p=none->Q (.ref p) (upd H p (.lst (List.replicate k.toNat xs).flatten))) ta tb) σ G (la.bind fun a=>ib.bind fun b=>F1 a b):=by
 clear 7;obtain ⟨a,ha,hc⟩:=qaA.mp hc;obtain ⟨b,hb,hc⟩:=qaA.mp hc;obtain ⟨⟨hl,hz⟩,rfl⟩:=BO hc;clear 8 ea a ha;refine eb G2 (s1.trans x2.gg) b hb H2 x2.gh _ fun u G3 H3 x3 r3=>?_;obtain ⟨l1,xs,rfl,h1,z1,p1⟩:=Rp.mono x3.gg r2;cases r3;have e1:=Paired.length p1;rw [<- e1] at hz;exact ⟨l1,b,xs,rfl,rfl,x3.gh.rd h1,hl.1,hl.2,hz,Gb x3.gh (by rw [Jj,Nat.mul_comm];exact hz) (Paired.rep p1 _) (FV.mono (x2.trans x3) k)⟩
theorem FX {a:α}{m:Option α}[Imm α]{v:V}{p:Addr}{vs:List V}{as:List β}(o:Own K G H v p vs as)(e:EV K te σ (upd G p (.lst vs)) m)(hm:m=some a)(s:Same G H)(k:∀ v G2 H2,Ext G H G2 H2->Rp.rel K G2 v a->rest D (σ.set i (some v)) H2) :
  El (HH te (DT i)) rest D σ H:=EV.runB o e hm s k
theorem sv_ifB {b:Bool}{m:Option Bool}{v:V}{p:Addr}{vs:List V}{as:List β}(o:Own K G H v p vs as)(e:TV tt σ (upd G p (.lst vs)) m)(hm:m=some b)(s:Same G H)(k:∀ G2 H2,Ext G H G2 H2->if b=true then t { D with nx:=rest D } σ H2 else u { D with nx:=rest D } σ H2) :
  El (HM tt t u) rest D σ H:=TV.runB o e hm s k
def DB {α:Type}(as:List α)(k:Int)(a:α):Option (List α):=(ixN as.length k).bind fun j=>some (as.set j a)
theorem B0 {a:α}{m:Option α}{ti:TE}{mi:Option Int}{k':Int}{as as':List α}{v:V}{p:Addr}{vs:List V}(hσ:σ[i]? = some (some v))(o:Own K G H v p vs as)(e:EV K te σ G m)(hm:m=some a)(ei:EV K ti σ G mi)(hi:mi=some k')(hs:DB as k' a=some as')(s:Same G H)
  (k:∀ G2 H2 w j,Ext G H G2 H2->Own K G2 (upd H2 p (.lst (vs.set j w))) v p (vs.set j w) as'->rest D σ (upd H2 p (.lst (vs.set j w)))):El (HH te (gSub (Gn i) ti rSetL)) rest D σ H:=by
 obtain ⟨j,hj,e'⟩:=qaA.mp hs;cases e';have hlen:=Paired.length o.p;refine e.run hm s fun w G2 H2 x r=>?_;have o2:=o.ext x;refine ⟨v,hσ,?_⟩;refine ei G2 x.gg k' hi H2 x.gh _ fun u G3 H3 x3 r3=>?_;cases r3;have o3:=o2.ext x3;refine ⟨p,vs,k',j,o3.v,rfl,o3.h,by rw [hlen];exact hj,?_⟩;refine k G3 H3 w j (x.trans x3) ⟨o3.v,o3.g,Ak,by rw [List.length_set];exact o3.z,Paired.st (Rp.mono x3.gg r) j o3.p⟩
end
section
variable {X:Cx}{K:FZ9}
theorem op_plusK (h:X.K=K):OpR X (binaryOp .Add) (JD K):=h ▸ op_plus
theorem EK (h:X.K=K):OpR X (binaryOp .Mult) (rMul K):=h ▸ op_mulU
theorem MF (h:X.K=K):SlR X (rSl K):=h ▸ sl_any
theorem ix_anyK (h:X.K=K):IxR X (rAt K):=h ▸ ix_any
theorem NN (h:X.K=K):CW X (.builtin "len") (N8 K):=h ▸ Mr
theorem BW (h:X.K=K):CW X (.builtin "isinstance") (MJ K):=h ▸ NW
theorem op_neK {j:Nat}(h:X.K=K)(α:Type)[Rp α][DecidableEq α][RpE α](hr:Room j X.A)(hk:RpE.k α<=10):OpR X (compareOp .NotEq) (rNeD K α):=h ▸ op_neM α hr hk
theorem CO (h:X.K=K):CW X (.type "list") (fun xs H Q=>∃ p ys,xs=[.ref p]/\(SqL K H p ys\/SqT K H p ys)/\∀ l,H l=none->Q (.ref l) (upd H l (.lst ys))):=h ▸ JM
theorem Cf {tg l:Expr}{tl:TE}(h:X.K=K)(hl:PE X l tl):PI X tg l (iAny K tl):=h ▸ pi_any hl
theorem N9 {a:Expr}{ta:TE}(h:X.K=K)(ha:PE X a ta)(he:∀ whole,isTrue a X.env whole=(do let v <- whole;standAt a.pos;holding [v] (truthy v))) :
  PT X a (fun σ H Q=>ta σ H fun x H'=>∃ k,TruV K x H' k/\Q k H'):=h ▸ pt_truth ha he
section
variable {o e:Expr}{es:List Expr}{to:TE}{t:TA}{name:Str}{apos cpos:Pos}{T id:String}{r:V->List V->Hp->VK->Prop}
theorem Er (h:X.K=K)(pa:PlainAttrs T)(slot:Slot T name id)(hty:typeOf (.builtin id)=pure (.type "method_descriptor"))(hm:MtR X id r)(ho:PE X o to)(ha:PA X (e::es) t)
  (hbase:attributeBase o name X.env (eval o X.env)=eval o X.env:=by rfl)
  (hfew:((backTo cpos (starEach (e::es) X.env)).all (fun x=>!x.1) && (backToKw cpos (keywordEach [] X.env)).all (fun x=>x.1.isSome)
   && decide ((e::es).length+([]:List Keyword).length+(if ([]:List Keyword).isEmpty then 0 else 1)<30))=true:=by rfl)
  (hline:(apos.endLine == cpos.line)=true:=by rfl) (hs:starEach (e::es) X.env=(false,eval e X.env)::starEach es X.env:=by rfl) (hplain:(backTo cpos (starEach es X.env)).any (·.1)=false:=by rfl) :
  PE X (.Call (.Attribute o name apos) (e::es) [] cpos) (tBM K T r to t):=h ▸ pe_bm pa slot hty hm ho ha hbase hfew hline hs hplain
end
end
theorem MS {f:St->Hp->Prop}{rt:VK}{bk ct:St->Hp->Prop}{σ:St}{H:Hp}(h:f σ H):({ nx:=f,rt:=rt,bk:=bk,ct:=ct }:Ends).nx σ H:=h
inductive D where
 | non
 | bl (b:Bool)
 | int (i:Int)
 | str (x:Str)
 | lst (l:List D)
 | tup (l:List D)
 | dic
 | emp
mutual
inductive RelD (K:FZ9)(H:Hp):V->D->Prop where
 | non:RelD K H .non .non
 | bl (b:Bool):RelD K H (.bl b) (.bl b)
 | int (i:Int):RelD K H (.int i) (.int i)
 | str (x:Str) (z:x.length<=sizeLine):RelD K H (.str x) (.str x)
 | lst {a:Addr}{xs:List V}{ds:List D}(h:Rd H a (.lst xs)) (z:xs.length<=sizeLine) (r:RelDs K H xs ds):RelD K H (.ref a) (.lst ds)
 | tup {a:Addr}{xs:List V}{ds:List D}(h:SqT K H a xs) (z:xs.length<=sizeLine) (r:RelDs K H xs ds):RelD K H (.ref a) (.tup ds)
 | dK {a:Addr}{kvs:List (Key × V)}(h:Rd H a (.dK kvs)):RelD K H (.ref a) .dic
 | eK {a:Addr}(h:Rd H a (.dK [])):RelD K H (.ref a) .emp
inductive RelDs (K:FZ9)(H:Hp):List V->List D->Prop where
 | nil:RelDs K H [] []
 | cons {x:V}{d:D}{xs:List V}{ds:List D}(h:RelD K H x d) (t:RelDs K H xs ds):RelDs K H (x::xs) (d::ds)
end
mutual
theorem RelD.mono {K:FZ9}{H H':Hp}(s:Same H H'):∀ {v:V}{d:D},RelD K H v d->RelD K H' v d
 | _,_,.non=>.non
 | _,_,.bl b=>.bl b
 | _,_,.int i=>.int i
 | _,_,.str x z=>.str x z
 | _,_,.lst h z r=>.lst (s.rd h) z (RelDs.mono s r)
 | _,_,.tup h z r=>.tup (s.tup h) z (RelDs.mono s r)
 | _,_,.dK h=>.dK (s.rd h)
 | _,_,.eK h=>.eK (s.rd h)
theorem RelDs.mono {K:FZ9}{H H':Hp}(s:Same H H'):∀ {v:List V}{d:List D},RelDs K H v d->RelDs K H' v d
 | _,_,.nil=>.nil
 | _,_,.cons h t=>.cons (RelD.mono s h) (RelDs.mono s t)
end
instance rpD:Rp D:=⟨RelD,fun s h=>RelD.mono s h⟩
theorem Fo {K:FZ9}{H:Hp}:∀ {xs:List V}{ds:List D},Paired (Rp.rel K H) xs ds->RelDs K H xs ds
 | _,_,.nil=>.nil
 | _,_,.cons h t=>.cons h (Fo t)
theorem BI {K:FZ9}{H:Hp}:∀ {xs:List V}{ds:List D},RelDs K H xs ds->Paired (Rp.rel K H) xs ds
 | _,_,.nil=>.nil
 | _,_,.cons h t=>.cons h (BI t)
class ToD (α:Type) [Rp α] where
 to:α->D
 rel:∀ {K:FZ9}{H:Hp}{v:V}{a:α},Rp.rel K H v a->RelD K H v (to a)
theorem toDs {K:FZ9}{H:Hp}{α:Type}[Rp α][ToD α]:∀ {xs:List V}{as:List α},Paired (Rp.rel K H) xs as->Paired (Rp.rel (α:=D) K H) xs (as.map ToD.to)
 | _,_,.nil=>.nil
 | _,_,.cons h t=>.cons (ToD.rel h) (toDs t)
instance tdD:ToD D:=⟨id,fun h=>h⟩
instance tdInt:ToD Int:=⟨.int,fun h=>by cases h;exact .int _⟩
instance tdBool:ToD Bool:=⟨.bl,fun h=>by cases h;exact .bl _⟩
instance tdStr:ToD Str:=⟨.str,fun h=>by obtain ⟨rfl,z⟩:=h;exact .str _ z⟩
instance tdUnit:ToD Unit:=⟨fun _=>.non,fun h=>by cases h;exact .non⟩
instance tdList {α:Type}[Rp α][ToD α]:ToD (List α):=⟨fun l=>.lst (l.map ToD.to),fun ⟨l,xs,e,h,z,p⟩=>by subst e;exact .lst h z (Fo (toDs p))⟩
instance tdTp {α:Type}[Rp α][ToD α]:ToD (Tp α):=⟨fun l=>.tup (l.l.map ToD.to),fun ⟨l,xs,e,h,z,p⟩=>by subst e;exact .tup h z (Fo (toDs p))⟩
instance tdPair {α β:Type}[Rp α][ToD α][Rp β][ToD β]:ToD (α × β):=⟨fun p=>.tup [ToD.to p.1,ToD.to p.2],fun ⟨t,x,y,e,h,r1,r2⟩=>by subst e;exact .tup h (by show 2<=sizeLine;decide) (.cons (ToD.rel r1) (.cons (ToD.rel r2) .nil))⟩
def Il:D->Option Str
 | .str x=>some x
 | _=>none
def D0:D->Option (List D)
 | .lst l=>some l
 | _=>none
def dk:D->String
 | .non => "NoneType"
 | .bl _ => "bool"
 | .int _ => "int"
 | .str _ => "str"
 | .lst _ => "list"
 | .tup _ => "tuple"
 | .dic => "dict"
 | .emp => "dict"
def isK (T:String)(d:D):Bool:=dk d == T || (T == "int" && dk d == "bool")
def Ca:D->Option Int
 | .str x=>some (x.length:Int)
 | .lst l=>some (l.length:Int)
 | .tup l=>some (l.length:Int)
 | _=>none
def atD:D->Int->Option D
 | .lst l,i=>atI l i
 | .tup l,i=>atI l i
 | .str x,i=>(atI x.cps.toList i).bind fun c=>some (.str ⟨#[c]⟩)
 | _,_=>none
def Cb:D->Option (List D)
 | .lst l=>some l
 | .tup l=>some l
 | .str x=>some ((Ju x).map D.str)
 | _=>none
section
variable {K:FZ9}{σ:St}{G:Hp}{α β:Type}[Rp α][Rp β]{ta tb te:TE}{md:Option D}
theorem A6 [ToD α]{m:Option α}(e:EV K te σ G m):EV K te σ G (m.bind fun a=>some (ToD.to a)):=by
 clear 7;obtain ⟨a,ha,hc⟩:=qaA.mp hc;cases hc;exact e G1 s1 a ha H sH Q fun v G2 H2 x r=>k v G2 H2 x (ToD.rel r)
theorem MV [ToD α]{m:Option (List α)}(e:EV K te σ G m):EV K te σ G (m.bind fun a=>some (a.map (ToD.to:α->D))):=by
 clear 7;obtain ⟨a,ha,hc⟩:=qaA.mp hc;cases hc;exact e G1 s1 a ha H sH Q fun v G2 H2 x ⟨l,xs,e,h,z,p⟩=>k v G2 H2 x ⟨l,xs,e,h,z,toDs p⟩
theorem Fk (e:EV K te σ G md):EV K te σ G (md.bind fun d=>Il d):=by
 clear 7;obtain ⟨d,hd,hc⟩:=qaA.mp hc;refine e G1 s1 d hd H sH Q fun v G2 H2 x r=>?_
 cases d with
 | str y =>
  cases hc
  cases r with
  | str _ z=>exact k _ _ _ x ⟨rfl,z⟩
 | _=>cases hc
theorem RelD.ty {H:Hp}{v:V}{d:D}(r:RelD K H v d):TyS K H v (dk d):=by
 cases r with
 | non=>exact .non
 | bl=>exact .bl _
 | int=>exact .int _
 | str=>exact .str _
 | lst h=>exact .lst (.inl h)
 | tup h=>exact .tup h
 | dK h=>exact .dK h
 | eK h=>exact .dK h
theorem kit_all:∀ n∈["NoneType","bool","int","str","list","tuple","dict"],∀ T∈["str","list","tuple","bool","int","dict"],N3 n T=some (n == T || (T == "int" && n == "bool")):=by decide +kernel
theorem isK_ok {T:String}(hT:T∈["str","list","tuple","bool","int","dict"])(d:D):N3 (dk d) T=some (isK T d):=by
 unfold isK;exact kit_all (dk d) (by cases d<;>simp [dk]) T hT
theorem C7 {T:String}(hT:T∈["str","list","tuple","bool","int","dict"])(ea:EV K ta σ G md):EV K (tCB (MJ K) (At ta (At (tC (.ty T)) CB))) σ G (md.bind fun d=>some (isK T d)):=by
 clear 7;obtain ⟨a,ha,hc⟩:=qaA.mp hc;cases hc;clear 8 ea a ha;exact ⟨_,_,_,_,rfl,(RelD.ty r2).mono x2.gh,isK_ok hT a,k _ _ _ x2 rfl⟩
theorem RelDs.len {H:Hp}{xs:List V}{ds:List D}(r:RelDs K H xs ds):xs.length=ds.length:=Paired.length (BI r)
theorem CY (ea:EV K ta σ G md):EV K (tCB (N8 K) (At ta CB)) σ G (md.bind fun d=>Ca d):=by
 clear 7;obtain ⟨a,ha,hc⟩:=qaA.mp hc;clear 8 ea a ha
 cases r2 with
 | str x z=>cases hc;exact ⟨z,k _ _ _ x2 rfl⟩
 | lst h z r=>cases hc;exact ⟨_,.inl (.inl (x2.gh.rd h)),by rw [r.len];exact k _ _ _ x2 rfl⟩
 | tup h z r=>cases hc;exact ⟨_,.inr (x2.gh.tup h),by rw [r.len];exact k _ _ _ x2 rfl⟩
 | _=>cases hc
theorem GN {ib:Option Int}(ea:EV K ta σ G md)(eb:EV K tb σ G ib):EV K (tOp (rAt K) ta tb) σ G (md.bind fun d=>ib.bind fun i=>atD d i) :=
 BZ (fun s ra rb e Q k=>by
  cases rb
  cases ra with
  | str x z =>
   obtain ⟨c,hc,e⟩:=qaA.mp e;cases e;exact ⟨z,c,hc,k _ _ _ (.refl s) (.str _ (by show 1<=sizeLine;decide))⟩
  | lst h z r =>
   obtain ⟨v,hv,r⟩:=C5 (BI r) e;exact .inl ⟨_,v,.inl (s.rd h),hv,k _ _ _ (.refl s) r⟩
  | tup h z r =>
   obtain ⟨v,hv,r⟩:=C5 (BI r) e;exact .inr ⟨_,v,s.tup h,hv,k _ _ _ (.refl s) r⟩
  | _=>cases e) ea eb
theorem FS (ea:EV K ta σ G md):IW K (iAny K ta) σ G (md.bind fun d=>Cb d):=by
 intro G1 s1 a ha H sH R k;obtain ⟨b,hb,ha⟩:=qaA.mp ha;clear 8 ea b hb
 cases r2 with
 | str x z =>
  cases ha;exact k _ (De x) G2 H2 x2 (Lq x G2) (by unfold De;rw [qeA];exact z) (toDs (K5 x G2))
 | lst h z r=>cases ha;exact .inl ⟨⟨_,.inl (x2.gh.rd h)⟩,k _ _ G2 H2 x2 (GZ (.inl h)) z (BI r)⟩
 | tup h z r=>cases ha;exact .inr ⟨⟨_,x2.gh.tup h⟩,k _ _ G2 H2 x2 (LF h) z (BI r)⟩
 | _=>cases ha
theorem Ey {X:Cx}(h:X.K=K):CW X (.type "tuple") (fun xs H Q=>∃ p ys,xs=[.ref p]/\((SqL K H p ys/\∀ l,H l=none->Q (.ref l) (upd H l (.tup ys)))\/(SqT K H p ys/\Q (.ref p) H))):=h ▸ Ia
theorem CG {la:Option (List α)}(ea:EV K ta σ G la):EV K (tCB (fun xs H Q=>∃ p ys,xs=[.ref p]/\((SqL K H p ys/\∀ l,H l=none->Q (.ref l) (upd H l (.tup ys)))\/(SqT K H p ys/\Q (.ref p) H))) (At ta CB)) σ G (la.bind fun a=>some (Tp.mk a)):=by
 clear 7;obtain ⟨a,ha,hc⟩:=qaA.mp hc;cases hc;clear 8 ea a ha;obtain ⟨l,xs,rfl,h,z,p⟩:=r2;refine ⟨l,xs,rfl,.inl ⟨.inl (x2.gh.rd h),fun q hq=>?_⟩⟩;exact k _ _ _ (x2.trans (.new x2.gh hq)) ⟨q,xs,rfl,SqT.of Ak,z,Paired.imp' (fun _ _ r=>Rp.mono (Same.new (x2.gh.free hq)) r) p⟩
theorem Bd:EV K tDNewK σ G (some D.emp):=by
 clear 7;cases hc;exact fun p hp=>k _ _ _ (.new sH hp) (.eK (.inl Ak))
end
section
variable {K:FZ9}{σ:St}{G:Hp}{ta:TE}
def rAllB (K:FZ9):List V->Hp->VK->Prop:=fun vs H Q=>∃ (l:Addr) (bs:List Bool),vs=[.ref l]/\SqL K H l (bs.map V.bl)/\Q (.bl (bs.all id)) H
theorem bools_at {bs:List Bool}{its:List Value}(r:Vals (bs.map V.bl) its){i:Nat}{v:Value}(h:its.toArray[i]? = some v):v = .bool (bs.getD i true):=by
 have h:its[i]? = some v:=by simpa using h
 have hl:=r.length;rw [qeA] at hl;obtain ⟨hi,_⟩:=qtA.mp h
 have e:(bs.map V.bl)[i]? = some (V.bl (bs.getD i true)):=by
  have:i<bs.length:=by omega
  simp [this]
 obtain ⟨u,hu,ru⟩:=r.get e;rw [h] at hu;cases hu;exact ru
theorem F0 {X:Cx}(hc:X.calm=true)(h:X.K=K):CW X (.builtin "all") (rAllB K):=by
 subst h;intro pins s σ H vs us Q I r h;obtain ⟨l,bs,rfl,hl,q⟩:=h;obtain ⟨u,rfl,ru⟩:=Dy r;cases ru;obtain ⟨its,rv,pl,_⟩:=I.list hl;have hL:=pl.isList;have hlt:l<s.heap.objs.size:=by obtain ⟨_,e,_⟩:=hL;exact qeB e
 have hlen:=rv.length;rw [qeA] at hlen;refine call_all_walk (wpAny_pyIter_list hL ?_);refine ⟨_,_,_,_,_,_,fun i=>bs.getD i true,rfl,Walks.list (A:=X.A.in1) (I.ok.hd hc) _ l (qrB hlt) its.toArray,⟨⟨_,qgB _ rfl,rfl,rfl⟩,hL.push _⟩,?_,fun h' tk hk=>?_⟩
 ·intro i v s' Q' E' hP hQ;rw [bools_at rv hP];exact wpAny_truthy_bool hQ
 ·have e:(List.range its.toArray.size).all (fun i=>bs.getD i true)=bs.all id:=by
   rw [qoB,<- hlen];apply Bool.eq_iff_iff.mpr;rw [List.all_eq_true,List.all_eq_true];constructor
   ·intro hh b hb;obtain ⟨i,hi⟩:=List.mem_iff_getElem?.mp hb;have hi2:=(qtA.mp hi).1;have:=hh i (qrA.mpr hi2);rw [List.getD_eq_getElem?_getD,hi] at this;exact this
   ·intro hh i hi;have hi2:=qrA.mp hi;have:=hh bs[i] (List.getElem_mem hi2);rw [List.getD_eq_getElem?_getD,quA hi2];exact this
  rw [e];refine ⟨.bl _,H,I.kept fun b o eb=>?_,rfl,q⟩;refine hk b o (fun hm=>?_) (qfB _ eb);have:b=s.heap.objs.size:=by simpa using hm
  exact absurd (this ▸ qeB eb) (qbB _)
theorem Fy {H:Hp}:∀ {xs:List V}{ys:List Bool},Paired (Rp.rel K H) xs ys->xs=ys.map V.bl
 | _,_,.nil=>rfl
 | _,_,.cons r t=>by
  cases r;rw [Fy t]
  rfl
theorem JI {lb:Option (List Bool)}(ea:EV K ta σ G lb):EV K (tCB (rAllB K) (At ta CB)) σ G (lb.bind fun bs=>some (bs.all id)):=by
 clear 7;obtain ⟨a,ha,hc⟩:=qaA.mp hc;cases hc;clear 8 ea a ha;obtain ⟨l,xs,rfl,h,z,p⟩:=r2;obtain rfl:=Fy p;exact ⟨l,a,rfl,.inl (x2.gh.rd h),k _ _ _ x2 rfl⟩
end
def OK {α:Type}(m:Option α)(P:α->Prop):Prop:=∃ a,m=some a/\P a
section
variable {α β S ρ:Type}{m:Option α}{P Q:α->Prop}{R:β->Prop}
theorem OK.mono (h:OK m P)(k:∀ a,P a->Q a):OK m Q:=let ⟨a,e,p⟩:=h;⟨a,e,k a p⟩
theorem AO {a:α}(h:P a):OK (some a) P:=⟨a,rfl,h⟩
theorem AE {f:α->Option β}(h:OK m fun a=>OK (f a) R):OK (m.bind f) R:=by
 obtain ⟨a,rfl,h⟩:=h;exact h
theorem LA {f:α->Option β}(a:α)(e:m=some a)(h:OK (f a) R):OK (m.bind f) R:=AE ⟨a,e,h⟩
theorem En {f:α->Option β}(h:OK m P)(k:∀ a,P a->OK (f a) R):OK (m.bind f) R:=AE (h.mono k)
theorem BN {b:Bool}{x y:Option α}(h1:b=true->OK x P)(h2:b=false->OK y P):OK (cond b x y) P:=by
 cases b with
 | true=>exact h1 rfl
 | false=>exact h2 rfl
theorem OK.eq {a:α}(h:OK m fun b=>b=a):m=some a:=by obtain ⟨b,e,rfl⟩:=h;exact e
theorem AT {α β:Type}(a:α)(f:α->Option β):(some a).bind f=f a:=by rw [Option.bind_some]
theorem Cr {α:Type}(m:Option α):(m.bind fun x=>some x)=m:=by cases m<;>rfl
theorem Cj {a b:Int}{P:Int->Prop}(hb:0<b)(h:P (a % b)):OK (CM a b) P:=⟨_,if_pos hb,h⟩
theorem ok_mul {a b:Int}{P:Int->Prop}(hb:CMul a b)(h:P (a * b)):OK (IU a b) P:=⟨_,if_pos hb,h⟩
theorem ok_catS {a b:Str}{P:Str->Prop}(hb:a.length+b.length<=sizeLine)(h:P (a++b)):OK (catS a b) P:=⟨_,if_pos hb,h⟩
theorem Dc {a b:List α}{P:List α->Prop}(hb:a.length+b.length<=sizeLine)(h:P (a++b)):OK (Eu a b) P:=⟨_,if_pos hb,h⟩
theorem M3 {a:List α}{b:α}{P:List α->Prop}(hb:a.length<sizeLine)(h:P (a++[b])):OK (MM a b) P:=⟨_,if_pos hb,h⟩
theorem FP {a:List α}{k:Nat}{P:List α->Prop}(hk:a.length * k<=sizeLine)(hs:k<4611686018427387904)(h:P (List.replicate k a).flatten):OK (F1 a (k:Int)) P :=
 ⟨_,if_pos ⟨⟨by omega,by omega⟩,by rw [Int.toNat_natCast];exact hk⟩,by rw [Int.toNat_natCast];exact h⟩
theorem FQ {lo hi:Int}{n:Nat}{P:List Int->Prop}(hn:hi - lo=n)(h0:-1000000000<=lo/\lo<=1000000000)(h1:n<=sizeLine)(h:P ((List.range n).map fun (i:Nat)=>lo+(i:Int))):OK (Jx lo hi) P:=by
 have hs:sizeLine=16777216:=qhB;have e:(hi - lo).toNat=n:=by omega
 refine ⟨_,if_pos ⟨⟨by omega,by omega,by omega,by omega⟩,by omega⟩,?_⟩;rw [e];exact h
theorem Fm {a:List α}{i:Int}(h0:0<=i)(h1:i<a.length)(h:∀ x,a[i.toNat]? = some x->P x):OK (atI a i) P:=by
 obtain ⟨k,rfl⟩:=qjB h0;have hk:k<a.length:=by omega
 refine ⟨a[k],atI_nat (by simp [hk]),h _ ?_⟩;rw [Int.toNat_natCast];simp [hk]
theorem ML {a:List α}(h:a ≠ [])(k:P (a.getLast h)):OK (atI a (-1)) P:=by
 refine ⟨_,?_,k⟩;have:=atI_last a.dropLast (a.getLast h)
 rwa [List.dropLast_concat_getLast] at this
theorem ok_for {f:α->S->Option (Fl S ρ)}{as:List α}{s0:S}(I:Nat->S->Prop)(J:S->Prop)(R:ρ->Prop){P:Fl S ρ->Prop}(h0:I 0 s0)
  (hs:∀ (i:Nat) a s,as[i]? = some a->I i s->OK (f a s) fun fl=>match fl with | .nx s'=>I (i+1) s' | .bk s'=>J s' | .rt r=>R r)
  (hn:∀ s,I as.length s->P (.nx s)) (hj:∀ s,J s->P (.nx s)) (hr:∀ r,R r->P (.rt r)):OK (Hm f as s0) P:=by
 have key:∀ (n i:Nat) (s:S),n=as.length - i->i<=as.length->I i s->OK (Hm f (as.drop i) s) P:=by
  intro n
  induction n with
  | zero =>
   intro i s hn0 hi hI;have e:i=as.length:=by omega
   subst e;rw [List.drop_length];exact AO (hn s hI)
  | succ n ih =>
   intro i s hn0 hi hI;have hlt:i<as.length:=by omega
   rw [List.drop_eq_getElem_cons hlt];obtain ⟨fl,e,h⟩:=hs i as[i] s (by simp [hlt]) hI;show OK ((f as[i] s).bind _) P;rw [e]
   cases fl with
   | nx s'=>exact ih (i+1) s' (by omega) hlt h
   | bk s'=>exact AO (hj s' h)
   | rt r=>exact AO (hr r h)
 exact key as.length 0 s0 (by omega) (qxB _) h0
theorem HD {f:α->S->Option (Fl S ρ)}{as:List α}{s0:S}(I:Nat->S->Prop){P:Fl S ρ->Prop}(h0:I 0 s0)
  (hs:∀ (i:Nat) a s,as[i]? = some a->I i s->OK (f a s) fun fl=>∃ s',fl = .nx s'/\I (i+1) s') (hn:∀ s,I as.length s->P (.nx s)):OK (Hm f as s0) P :=
 ok_for I (fun _=>False) (fun _=>False) h0 (fun i a s ha hI=>(hs i a s ha hI).mono fun fl ⟨s',e,h⟩=>by subst e;exact h) hn (fun _ h=>h.elim) fun _ h=>h.elim
theorem HU {f:α->Option β}{g:α->β}{P:List β->Prop}:∀ {as:List α},(∀ a∈as,f a=some (g a))->P (as.map g)->OK (D5 f as) P:=by
 intro as
 have key:∀ as:List α,(∀ a∈as,f a=some (g a))->D5 f as=some (as.map g):=by
  intro as
  induction as with
  | nil=>intro _;rfl
  | cons a r ih =>
   intro h;show ((f a).bind fun y=>(D5 f r).bind fun ys=>some (y::ys))=_;rw [h a qpA,ih fun x hx=>h x (qqA _ hx)]
   rfl
 exact fun h p=>⟨_,key as h,p⟩
theorem MP {f:α->Option β}{R:α->β->Prop}{P:List β->Prop}:∀ {as:List α},(∀ a∈as,OK (f a) (R a))->(∀ bs:List β,bs.length=as.length->(∀ b∈bs,∃ a∈as,R a b)->(∀ (i:Nat) a b,as[i]? = some a->bs[i]? = some b->R a b)->P bs)->OK (D5 f as) P:=by
 intro as
 have key:∀ as:List α,(∀ a∈as,OK (f a) (R a))->OK (D5 f as) fun bs=>bs.length=as.length/\(∀ b∈bs,∃ a∈as,R a b)/\∀ (i:Nat) a b,as[i]? = some a->bs[i]? = some b->R a b:=by
  intro as
  induction as with
  | nil=>intro _;exact AO ⟨rfl,fun b h=>by simp at h,fun i a b h=>by simp at h⟩
  | cons a r ih =>
   intro h;refine En (h a qpA) fun y hy=>En (ih fun x hx=>h x (qqA _ hx)) fun ys ⟨h1,h2,h3⟩=>AO ⟨by simp [h1],?_,?_⟩
   ·intro b hb;rcases qmA.mp hb with e|e
    ·subst e;exact ⟨a,qpA,hy⟩
    ·obtain ⟨x,hx,hr⟩:=h2 b e;exact ⟨x,qqA _ hx,hr⟩
   ·intro i x b hx hb
    cases i with
    | zero=>simp at hx hb;subst hx;subst hb;exact hy
    | succ i=>exact h3 i x b (by simpa using hx) (by simpa using hb)
 exact fun h p=>(key as h).mono fun bs ⟨h1,h2,h3⟩=>p bs h1 h2 h3
end
end L2
namespace Lasso
variable {α β:Type}
end Lasso
namespace Lasso
variable {α:Type}[DecidableEq α]
end Lasso
namespace L2
open PySem PySem.Spec PyProof.Rows
section
variable {K:FZ9}{σ:St}{G H G1 H1 G0 H0:Hp}{α β:Type}[Rp α][Rp β]{te ti:TE}{tt:TT}{t u rest:TS}{D:Ends}{i j:Nat}{a:α}{m:Option α}{as:List α}{v:V}{p q:Addr}{vs:List V}
def era (H:Hp)(C:List Addr):Hp:=fun a=>if a∈C then none else H a
theorem Hk {C:List Addr}{b:Addr}(h:b∈C):era H C b=none:=if_pos h
theorem Jl {C:List Addr}{b:Addr}(h:b ∉ C):era H C b=H b:=if_neg h
theorem era_same {C:List Addr}:Same (era H C) H:=fun b o e=>by
 by_cases h:b∈C
 ·rw [Hk h] at e;cases e
 ·rw [Jl h] at e;exact e
theorem Ext.begin {C:List Addr}(s:Same G H):Ext G (era H C) G H:=⟨.refl _,s,era_same,fun _ h _=>h⟩
theorem Ext.past {C:List Addr}(x:Ext G0 H0 G H)(h0:∀ b∈C,H0 b=none)(y:Ext G (era H C) G1 H1):Ext G0 H0 G1 H1:=by
 refine ⟨x.gg.trans y.gg,y.gh,fun b o e=>?_,fun b g h=>?_⟩
 ·have hb:b ∉ C:=fun hc=>by
   rw [h0 b hc] at e;cases e
  exact y.hh b o (by rw [Jl hb];exact x.hh b o e)
 ·have hb:b ∉ C:=fun hc=>h (h0 b hc);refine y.no b (x.no b g h) ?_;rw [Jl hb]
  cases e:H0 b with
  | none=>exact absurd e h
  | some o =>
   rw [x.hh b o e];exact fun z=>nomatch z
end
inductive Nt where
 | txt (x:Str)
 | tup (l:List Nt)
 | int (n:Int)
mutual
def Nt.dec:(a b:Nt)->Decidable (a=b)
 | .txt x,.txt y=>if h:x=y then .isTrue (by rw [h]) else .isFalse fun e=>h (by cases e;rfl)
 | .txt _,.tup _=>.isFalse fun e=>by cases e
 | .tup _,.txt _=>.isFalse fun e=>by cases e
 | .int m,.int n=>if h:m=n then .isTrue (by rw [h]) else .isFalse fun e=>h (by cases e;rfl)
 | .int _,.txt _=>.isFalse fun e=>by cases e
 | .int _,.tup _=>.isFalse fun e=>by cases e
 | .txt _,.int _=>.isFalse fun e=>by cases e
 | .tup _,.int _=>.isFalse fun e=>by cases e
 | .tup l,.tup m=>match Nt.decs l m with
  | .isTrue h=>.isTrue (by rw [h])
  | .isFalse h=>.isFalse fun e=>h (by cases e;rfl)
def Nt.decs:(l m:List Nt)->Decidable (l=m)
 | [],[]=>.isTrue rfl
 | [],_::_=>.isFalse fun e=>by cases e
 | _::_,[]=>.isFalse fun e=>by cases e
 | a::l,b::m=>match Nt.dec a b with
  | .isFalse h=>.isFalse fun e=>h (by cases e;rfl)
  | .isTrue h=>match Nt.decs l m with
   | .isTrue h2=>.isTrue (by rw [h,h2])
   | .isFalse h2=>.isFalse fun e=>h2 (by cases e;rfl)
end
mutual
def Nt.dep:Nt->Nat
 | .txt _=>0
 | .int _=>0
 | .tup l=>Nt.deps l+1
def Nt.deps:List Nt->Nat
 | []=>0
 | a::l=>max (Nt.dep a) (Nt.deps l)
end
mutual
inductive RelN (K:FZ9)(H:Hp):V->Nt->Prop where
 | txt (x:Str) (z:x.length<=sizeLine):RelN K H (.str x) (.txt x)
 | int (n:Int):RelN K H (.int n) (.int n)
 | tup {a:Addr}{xs:List V}{ds:List Nt}(h:SqT K H a xs) (z:xs.length<=sizeLine) (r:RelNs K H xs ds) (l:ds[0]? = some (.txt "lamp")->H a=some (.tup xs)):RelN K H (.ref a) (.tup ds)
inductive RelNs (K:FZ9)(H:Hp):List V->List Nt->Prop where
 | nil:RelNs K H [] []
 | cons {x:V}{d:Nt}{xs:List V}{ds:List Nt}(h:RelN K H x d) (t:RelNs K H xs ds):RelNs K H (x::xs) (d::ds)
end
mutual
theorem RelN.mono {K:FZ9}{H H':Hp}(s:Same H H'):∀ {v:V}{d:Nt},RelN K H v d->RelN K H' v d
 | _,_,.txt x z=>.txt x z
 | _,_,.int n=>.int n
 | _,_,.tup h z r l=>.tup (s.tup h) z (RelNs.mono s r) fun e=>s _ _ (l e)
theorem RelNs.mono {K:FZ9}{H H':Hp}(s:Same H H'):∀ {v:List V}{d:List Nt},RelNs K H v d->RelNs K H' v d
 | _,_,.nil=>.nil
 | _,_,.cons h t=>.cons (RelN.mono s h) (RelNs.mono s t)
end
instance rpN:Rp Nt:=⟨RelN,fun s h=>RelN.mono s h⟩
theorem SqT.keep {K:FZ9}{H H':Hp}{a:Addr}{xs:List V}(s:TupK H H')(h:SqT K H a xs):SqT K H' a xs:=by
 rcases h with h|h
 ·exact .inl (s.rd _ _ h)
 ·exact .inr h
mutual
theorem RelN.keep {K:FZ9}{H H':Hp}(s:TupK H H'):∀ {v:V}{d:Nt},RelN K H v d->RelN K H' v d
 | _,_,.txt x z=>.txt x z
 | _,_,.int n=>.int n
 | _,_,.tup h z r l=>.tup (SqT.keep s h) z (RelNs.keep s r) fun e=>s.eq _ _ (l e)
theorem RelNs.keep {K:FZ9}{H H':Hp}(s:TupK H H'):∀ {v:List V}{d:List Nt},RelNs K H v d->RelNs K H' v d
 | _,_,.nil=>.nil
 | _,_,.cons h t=>.cons (RelN.keep s h) (RelNs.keep s t)
end
instance imN:Imm Nt:=⟨fun s h=>RelN.keep s h⟩
section
variable {X:Cx}{K:FZ9}
theorem LW (h:X.K=K):OpR X (compareOp .In) (rIn K false):=h ▸ NQ
end
section
variable {K:FZ9}{σ:St}{G:Hp}{α:Type}[Rp α]{ta tb tc te:TE}{t1 t2:TO}{ia ib ic:Option Int}{m1 m2:Option (Option Int)}
theorem ev_chain {p p':Int->Int->Bool}{q q':List Nat->List Nat->Bool}(ea:EV K ta σ G ia)(eb:EV K tb σ G ib)(ec:EV K tc σ G ic) :
  EV K (tChain (K9 p q) (K9 p' q') ta tb tc) σ G (ia.bind fun a=>ib.bind fun b=>cond (p a b) (ic.bind fun c=>some (p' b c)) (some false)):=by
 intro G1 s1 r hr H sH Q k;obtain ⟨a,ha,hr⟩:=qaA.mp hr;obtain ⟨b,hb,hr⟩:=qaA.mp hr;clear 8 ea a ha;refine eb G2 (s1.trans x2.gg) b hb H2 x2.gh _ fun u G3 H3 x3 r3=>?_;cases r2;cases r3;refine ⟨p a b,rfl,?_⟩
 cases hp:p a b with
 | false =>
  rw [hp] at hr;cases hr;rw [if_neg qnB];exact k _ _ _ (x2.trans x3) rfl
 | true =>
  rw [hp] at hr;obtain ⟨c,hc,hr⟩:=qaA.mp (cT hr);cases hr;rw [if_pos rfl];refine ec G3 (s1.trans (x2.trans x3).gg) c hc H3 x3.gh _ fun w G4 H4 x4 r4=>?_;cases r4;exact k _ _ _ ((x2.trans x3).trans x4) rfl
class Flat (α:Type) [Rp α] [DecidableEq α]:Prop where
 fl:∀ {K:FZ9}{H:Hp}{v:V}{a:α},Rp.rel K H v a->F9 v=true
 eq:∀ {K:FZ9}{H H':Hp}{v u:V}{a b:α},Rp.rel K H v a->Rp.rel K H' u b->eqV v u=decide (a=b)
instance flInt:Flat Int:=⟨fun h=>by cases h;rfl,fun h h'=>by cases h;cases h';exact EH _ _⟩
theorem HN [DecidableEq α][Flat α]{H:Hp}:∀ {xs:List V}{as:List α},Paired (Rp.rel K H) xs as->xs.all F9=true
 | _,_,.nil=>rfl
 | _,_,.cons h t=>by rw [List.all_cons,Flat.fl h,HN t];rfl
theorem Je [DecidableEq α][Flat α]{H H':Hp}{v:V}{a:α}(hv:Rp.rel K H' v a):∀ {xs:List V}{as:List α},Paired (Rp.rel K H) xs as->inV v xs=decide (a∈as)
 | _,_,.nil=>by simp [inV]
 | _,_,.cons (b:=b) h t=>by
  have ih:=Je hv t;unfold inV at ih ⊢;rw [List.any_cons,ih,Flat.eq h hv];apply Bool.eq_iff_iff.mpr;simp only [Bool.or_eq_true,decide_eq_true_iff,qmA];exact ⟨fun h=>h.imp Eq.symm id,fun h=>h.imp Eq.symm id⟩
theorem ev_inL [DecidableEq α][Flat α]{ma:Option α}{ml:Option (List α)}(ea:EV K ta σ G ma)(eb:EV K tb σ G ml):EV K (tOp (rIn K false) ta tb) σ G (ma.bind fun a=>ml.bind fun l=>some (decide (a∈l))) :=
 BZ (fun s ra rb e Q k=>by
  cases e;obtain ⟨l,xs,rfl,h,z,p⟩:=rb
  exact ⟨l,xs,rfl,.inl (.inl (s.rd h)),Flat.fl ra,HN p,by rw [if_neg qnB,Je ra p];exact k _ _ _ (.refl s) rfl⟩) ea eb
theorem ev_inT [DecidableEq α][Flat α]{ma:Option α}{ml:Option (Tp α)}(ea:EV K ta σ G ma)(eb:EV K tb σ G ml):EV K (tOp (rIn K false) ta tb) σ G (ma.bind fun a=>ml.bind fun l=>some (decide (a∈l.l))) :=
 BZ (fun s ra rb e Q k=>by
  cases e;obtain ⟨l,xs,rfl,h,z,p⟩:=rb
  exact ⟨l,xs,rfl,.inr (s.tup h),Flat.fl ra,HN p,by rw [if_neg qnB,Je ra p];exact k _ _ _ (.refl s) rfl⟩) ea eb
end
mutual
def Nt.toD:Nt->D
 | .txt x=>.str x
 | .int n=>.int n
 | .tup l=>.tup (Nt.toDs l)
def Nt.toDs:List Nt->List D
 | []=>[]
 | a::l=>Nt.toD a::Nt.toDs l
end
mutual
theorem RelN.toD {K:FZ9}{H:Hp}:∀ {v:V}{a:Nt},RelN K H v a->RelD K H v a.toD
 | _,_,.txt x z=>by unfold Nt.toD;exact .str x z
 | _,_,.int n=>by unfold Nt.toD;exact .int n
 | _,_,.tup h z r _=>by unfold Nt.toD;exact .tup h z (RelNs.toD r)
theorem RelNs.toD {K:FZ9}{H:Hp}:∀ {xs:List V}{l:List Nt},RelNs K H xs l->RelDs K H xs (Nt.toDs l)
 | _,_,.nil=>by unfold Nt.toDs;exact .nil
 | _,_,.cons h t=>by unfold Nt.toDs;exact .cons (RelN.toD h) (RelNs.toD t)
end
instance tdN:ToD Nt:=⟨Nt.toD,fun h=>RelN.toD h⟩
section
variable {K:FZ9}{σ:St}{G H G1 H1 G0 H0:Hp}{α β γ:Type}[Rp α][Rp β][Rp γ]{te ti:TE}{tt:TT}{t u rest:TS}{D:Ends}{i j:Nat}{as:List α}{bs:List β}{v w:V}{p q:Addr}{vs ws:List V}
theorem Own.over {o:HO}(h:Own K G H v p vs as)(ne:p≠q)(hq:G q=none):Own K (upd G q o) H v p vs as :=
 ⟨h.v,by rw [BQ ne];exact h.g,h.h,h.z,Paired.imp' (fun _ _ r=>Rp.mono (Same.new hq) r) h.p⟩
end
class NoN (α:Type) [Rp α]:Prop where
 no_non:∀ {K:FZ9}{H:Hp}{x:V}{a:α},Rp.rel K H x a->x ≠ .non
 ne:∀ {K:FZ9}{X:Cx}{pins:List (Addr × Obj)}{σ:St}{H:Hp}{s:Shared}{x:V}{u:Value}{a:α}(A:Around),X.K=K->Inv X pins σ H s->A.units<cLine->RelV x u->Rp.rel K H x a ->
  (SeqAt.EqAt A s .none u false/\SeqAt.RcAt A s .none u false/\SeqAt.RcNeAt A s .none u true)/\SeqAt.EqAt A s u .none false/\SeqAt.RcAt A s u .none false/\SeqAt.RcNeAt A s u .none true
class Fix (α:Type) [Rp α]:Prop where
 fx:∀ {K:FZ9}{G G':Hp}{v:V}{a:α},Rp.rel K G v a->Rp.rel K G' v a
end L2
namespace L3
open PySem
end L3
namespace L2
open PySem PySem.Spec PyProof.Rows
inductive SI where
 | s (x:Str)
 | i (n:Int)
 deriving DecidableEq
def rInE (K:FZ9)(α:Type)[Rp α][DecidableEq α](neg:Bool):R2:=fun x y H Q=>∃ p xs a as,y = .ref p/\SqL K H p xs/\Rp.rel (α:=α) K H x a/\Paired (Rp.rel (α:=α) K H) xs as/\Q (.bl (if neg then !decide (a∈as) else decide (a∈as))) H
open Classical in
def eqW {α:Type}[Rp α](K:FZ9)(H:Hp)(a:α)(u:Value):Bool:=decide (∃ y,RelV y u/\Rp.rel K H y a)
theorem eqW_of {α:Type}[Rp α][DecidableEq α][RpE α]{X:Cx}{pins:List (Addr × Obj)}{σ:St}{H:Hp}{s:Shared}(I:Inv X pins σ H s){a b:α}{y:V}{u:Value}(r:RelV y u)(h:Rp.rel X.K H y b):eqW X.K H a u=decide (b=a):=by
 unfold eqW
 classical
 by_cases e:b=a
 ·subst e;rw [decide_eq_true rfl,decide_eq_true];exact ⟨y,r,h⟩
 ·rw [decide_eq_false e,decide_eq_false];rintro ⟨z,rz,hz⟩;have:=RelV.inj r rz;subst this;exact e ((RpE.ty X.K).fn rfl I h hz)
theorem MT {α:Type}[Rp α][DecidableEq α][RpE α]{X:Cx}{pins:List (Addr × Obj)}{σ:St}{H:Hp}{s:Shared}(I:Inv X pins σ H s){a:α}:∀ {xs:List V}{us:List Value}{as:List α},Vals xs us->Paired (Rp.rel X.K H) xs as->us.any (eqW X.K H a)=decide (a∈as)
 | _,_,_,.nil,.nil=>by simp
 | y::xs,u::us,b::as,.cons r t,.cons h p=>by
  rw [List.any_cons,eqW_of I r h,MT I t p];by_cases e:b=a
  ·subst e;simp
  ·rw [decide_eq_false e,Bool.false_or]
   exact decide_eq_decide.mpr ⟨fun m=>qqA _ m,fun m=>by
    rcases qmA.mp m with rfl|m
    ·exact absurd rfl e
    ·exact m⟩
theorem Ly {α:Type}[Rp α][DecidableEq α][RpE α]{X:Cx}{A:Around}{pins:List (Addr × Obj)}{σ:St}{H:Hp}{s:Shared}(I:Inv X pins σ H s)(hA:A.units+RpE.k α<cLine){a:α}{x:V}{v:Value}(rx:RelV x v)(hx:Rp.rel X.K H x a):∀ {xs:List V}{us:List Value}{as:List α},Vals xs us->Paired (Rp.rel X.K H) xs as->∀ u∈us,SeqAt.EqAt A s u v (eqW X.K H a u)
 | _,_,_,.nil,.nil=>fun u hu=>by cases hu
 | y::xs,u::us,b::as,.cons r t,.cons h p=>fun u' hu=>by
  rcases qmA.mp hu with rfl|hu
  ·rw [eqW_of I r h];exact (RpE.ty X.K).eq A rfl I hA r rx h hx
  ·exact Ly I hA rx hx t p u' hu
theorem Mu {X:Cx}{K:FZ9}{j:Nat}(hK:X.K=K)(α:Type)[Rp α][DecidableEq α][RpE α](hr:Room j X.A)(hk:RpE.k α<=40):OpR X (compareOp .NotIn) (rInE K α true):=by
 subst hK;intro pins s σ H x y v u Q I rx ry h;obtain ⟨p,xs,a,as,rfl,hq,hx,pr,q⟩:=h;cases ry;obtain ⟨its,r,pl,hz⟩:=I.list hq;refine SeqAt.notIn_listAt (eqW X.K H a) pl.isList (fun w hw=>Ly I (by have:=hr.un;rw [Around.in1_units];omega) rx hx r pr w (by simpa using hw)) ⟨.bl _,H,I,rfl,?_⟩;rw [show its.toArray.any (eqW X.K H a)=its.any (eqW X.K H a) by simp,MT I r pr];exact q
section
variable {K:FZ9}{σ:St}{G H:Hp}{ta tb te td ti:TE}{α:Type}[Rp α]
theorem NS [DecidableEq α]{ma:Option α}{ml:Option (List α)}(ea:EV K ta σ G ma)(eb:EV K tb σ G ml):EV K (tOp (rInE K α true) ta tb) σ G (ma.bind fun a=>ml.bind fun l=>some (!decide (a∈l))) :=
 BZ (fun {G' H' x y a b c} s ra rb e Q k=>by
  cases e;obtain ⟨l,xs,rfl,h,z,p⟩:=rb
  exact ⟨l,xs,a,b,rfl,.inl (s.rd h),Rp.mono s ra,Paired.imp' (fun _ _ r=>Rp.mono s r) p,k _ _ _ (.refl s) rfl⟩) ea eb
theorem KC {la:Option (Tp α)}(ea:EV K ta σ G la):FV K (tCB (fun xs H Q=>∃ p ys,xs=[.ref p]/\(SqL K H p ys\/SqT K H p ys)/\∀ l,H l=none->Q (.ref l) (upd H l (.lst ys))) (At ta CB)) σ G (la.bind fun a=>some a.l):=by
 clear 7;obtain ⟨a,ha,hc⟩:=qaA.mp hc;cases hc;clear 8 ea a ha;obtain ⟨l,xs,rfl,h,z,p⟩:=r2;exact ⟨l,xs,rfl,.inr (x2.gh.tup h),Gb x2.gh z p (FV.mono x2 k)⟩
end
theorem EN {K:FZ9}{H:Hp}:∀ {xs:List V}{ns:List Int},Paired (Rp.rel K H) xs ns->xs=ns.map V.int
 | _,_,.nil=>rfl
 | _,_,.cons h t=>by
  cases h;rw [qxA,EN t]
structure Mp (α:Type) where
 l:List (Int × α)
section
variable {K:FZ9}{σ:St}{G H:Hp}{ta tb te:TE}{rest:TS}{D:Ends}{i:Nat}{v:V}{p:Addr}{vs:List V}
theorem Fn {G:Hp}:∀ {xs:List V}{ys:List Str},Paired (Rp.rel K G) xs ys->xs=ys.map V.str
 | _,_,.nil=>rfl
 | _,_,.cons h t=>by
  obtain ⟨rfl,_⟩:=h;rw [qxA,Fn t]
end
def leS (a b:Str):Bool:=!decide (b.cps.toList<a.cps.toList)
theorem leS_iff {a b:Str}:leS a b=true ↔ a.cps.toList<=b.cps.toList:=by
 unfold leS;rw [Bool.not_eq_true',decide_eq_false_iff_not];exact List.not_lt
theorem GQ (a b c:Str)(h1:leS a b=true)(h2:leS b c=true):leS a c=true:=leS_iff.mpr (List.le_trans (leS_iff.mp h1) (leS_iff.mp h2))
theorem J5 (a b:Str):(leS a b || leS b a)=true:=by
 rw [Bool.or_eq_true,leS_iff,leS_iff];exact List.le_total _ _
theorem L7 {a b:Str}(h1:leS a b=true)(h2:leS b a=true):a=b:=by
 have:=List.le_antisymm (leS_iff.mp h1) (leS_iff.mp h2);cases a;cases b
 congr 1
 exact Array.toList_inj.mp this
def HJ (ys:List Str):List Str:=ys.mergeSort leS
theorem DU (ys:List Str):(HJ ys).Perm ys:=List.mergeSort_perm ys leS
theorem Iw:∀ (p:Str) (l:List Str),risingS p l=true->(p::l).Pairwise fun a b=>leS a b=true
 | p,[],_=>by simp
 | p,x::r,h=>by
  have h:(!ltCps x.cps.toList p.cps.toList && risingS x r)=true:=h;rw [qyB,ltCps_eq] at h;have h1:leS p x=true:=h.1;have ih:=Iw x r h.2;refine List.pairwise_cons.mpr ⟨fun y hy=>?_,ih⟩;rcases qmA.mp hy with rfl|hy
  ·exact h1
  ·exact GQ _ _ _ h1 (List.rel_of_pairwise_cons ih hy)
theorem sortS_of {ss ss':List Str}(hp:ss'.Perm ss)(hs:sortedS ss'=true):ss'=HJ ss:=by
 have pw:ss'.Pairwise fun a b=>leS a b=true:=by
  cases ss' with
  | nil=>exact .nil
  | cons x r=>exact Iw x r hs
 exact List.Perm.eq_of_pairwise (fun a b _ _ h1 h2=>L7 h1 h2) pw (List.pairwise_mergeSort GQ J5 ss) (hp.trans (DU ss).symm)
def M7 (ys:List Str):Option (List Str):=if ys.length<64 then some (HJ ys) else none
theorem J6:∀ {vs:List Value}{ss:List Str},StrsAre vs ss->Vals (ss.map V.str) vs
 | _,_,.nil=>.nil
 | _,_,.cons x t r=>.cons ⟨t,rfl⟩ (J6 r)
def rSortS (K:FZ9):List V->Hp->VK->Prop:=fun vs H Q=>∃ (l:Addr) (ys:List Str),vs=[.ref l]/\SqL K H l (ys.map V.str)/\ys.length<64/\∀ p,H p=none->Q (.ref p) (upd H p (.lst ((HJ ys).map V.str)))
theorem Jz {X:Cx}{K:FZ9}(h:X.K=K):CW X (.builtin "sorted") (rSortS K):=by
 subst h;intro pins s σ H vs us Q I r h;obtain ⟨l,ys,rfl,hl,h64,q⟩:=h;obtain ⟨u,rfl,ru⟩:=Dy r;cases ru;obtain ⟨its,rv,pl,_⟩:=I.list hl;have hlen:=rv.length;rw [qeA] at hlen;refine sorted_strs pl.isList (Ln rv) (by omega) fun out ss' a1 a2 a3=>?_;have e:=sortS_of a2 a3;subst e;obtain ⟨n,he⟩:=sortedAll_at s.heap its out;refine ⟨.ref (s.heap.objs.size+1),_,I.laid (a:=s.heap.objs.size+1) (t':=s.toks) (o:=.lst ((HJ ys).map V.str)) (fun b ob q=>sortedAll_old q) (Nat.le_succ _) ?_,rfl,q _ (I.hok.fresh (Nat.le_succ _))⟩;refine ⟨?_,out.toList,n,J6 a1,he⟩;rw [qeA,(DU ys).length_eq,qhB];omega
theorem Hi {K:FZ9}{G:Hp}:∀ {xs:List V}{ys:List Str},Paired (Rp.rel K G) xs ys->∀ y∈ys,y.length<=sizeLine
 | _,_,.nil=>fun y hy=>by cases hy
 | _,_,.cons h t=>fun y hy=>by
  rcases qmA.mp hy with rfl|hy
  ·exact h.2
  ·exact Hi t y hy
section
variable {K:FZ9}{σ:St}{G:Hp}{ta:TE}
theorem fv_sortS {la:Option (List Str)}(ea:EV K ta σ G la):FV K (tCB (rSortS K) (At ta CB)) σ G (la.bind fun ys=>M7 ys):=by
 clear 7;obtain ⟨a,ha,hc⟩:=qaA.mp hc;obtain ⟨h64,rfl⟩:=BO hc;clear 8 ea a ha;obtain ⟨l,xs,rfl,h,z,p⟩:=r2;have e:=Fn p;subst e;refine ⟨l,a,rfl,.inl (x2.gh.rd h),h64,?_⟩;refine Gb x2.gh ?_ ?_ (FV.mono x2 k)
 ·rw [qeA,(DU a).length_eq,qhB];omega
 ·have hl:∀ y∈a,y.length<=sizeLine:=fun y hy=>by
   have:=Hi p y hy;exact this
  have:∀ zs:List Str,(∀ y∈zs,y.length<=sizeLine)->Paired (Rp.rel K G2) (zs.map V.str) zs:=fun zs=>by
   induction zs with
   | nil=>intro _;exact .nil
   | cons y zs ih=>intro h;exact .cons ⟨rfl,h y qpA⟩ (ih fun w hw=>h w (qqA _ hw))
  exact this _ fun y hy=>hl y ((DU a).mem_iff.mp hy)
end
def rCatTp (K:FZ9):R2:=fun x y H Q=>∃ a b xs ys,x = .ref a/\y = .ref b/\SqT K H a xs/\SqT K H b ys/\xs.length+ys.length<=sizeLine/\(xs=[]->Q (.ref b) H)/\(ys=[]->Q (.ref a) H)/\∀ p,H p=none->Q (.ref p) (upd H p (.tup (xs++ys)))
theorem op_catTp {X:Cx}{K:FZ9}(h:X.K=K):OpR X (binaryOp .Add) (rCatTp K):=by
 subst h;intro pins s σ H x y v u Q I rx ry h;obtain ⟨t,b,xs,ys,rfl,rfl,h1,h2,hz,q0,q1,q2⟩:=h;cases rx;cases ry;obtain ⟨vs,rv,ht,_⟩:=I.tuple h1;obtain ⟨ws,rw',hb,_⟩:=I.tuple h2;have l1:=rv.length;have l2:=rw'.length;obtain ⟨⟨cls,dd,data,sl⟩,ho,hc,n,hd⟩:=id ht;obtain ⟨⟨cls2,dd2,data2,sl2⟩,ho2,hc2,n2,hd2⟩:=id hb;simp only at hc hd hc2 hd2;subst hc hd hc2 hd2;have e:vs.toArray++ws.toArray=(vs++ws).toArray:=by simp
 by_cases hv:vs=[]
 ·have hx:xs=[]:=List.length_eq_zero_iff.mp (by rw [l1,hv];rfl)
  exact concat_meets ⟨_,ho,rfl⟩ ⟨_,ho2,rfl⟩ noFill_tuple_add seq_tuple_add PySem.F.slot_tuple_add PySem.F.entry_tuple_add (PySem.F.args_tuple_add_2 _ _)
   (tuple_addW0 t b vs.toArray ws.toArray n n2 dd dd2 sl sl2 (by simp [hv])) ⟨ho,ho2,⟨.ref b,H,I.tok _,rfl,q0 hx⟩⟩
 ·by_cases hw:ws=[]
  ·have hy:ys=[]:=List.length_eq_zero_iff.mp (by rw [l2,hw];rfl)
   exact concat_meets ⟨_,ho,rfl⟩ ⟨_,ho2,rfl⟩ noFill_tuple_add seq_tuple_add PySem.F.slot_tuple_add PySem.F.entry_tuple_add (PySem.F.args_tuple_add_2 _ _)
    (tuple_addW1 t b vs.toArray ws.toArray n n2 dd dd2 sl sl2 (by simpa using hv) (by simp [hw])) ⟨ho,ho2,⟨.ref t,H,I.tok _,rfl,q1 hy⟩⟩
  ·refine concat_meets ⟨_,ho,rfl⟩ ⟨_,ho2,rfl⟩ noFill_tuple_add seq_tuple_add PySem.F.slot_tuple_add PySem.F.entry_tuple_add (PySem.F.args_tuple_add_2 _ _)
    (tuple_addW2 t b vs.toArray ws.toArray n n2 dd dd2 sl sl2 (by simpa using hv) (by simpa using hw) (by rw [qoB,qoB];omega)) ⟨ho,ho2,?_⟩
   rw [e];exact ⟨.ref s.heap.objs.size,_,I.laid (t':=s.toks) (o:=.tup (xs++ys)) (fun b ob q=>qfB _ q) (qzA _) ⟨by rw [qfA];exact hz,vs++ws,rv.append rw',IsTup.new _ _⟩,rfl,q2 _ (I.hok.fresh (qzA _))⟩
def catTO {α:Type}(a b:Tp α):Option (Tp α):=if a.l.length+b.l.length<=sizeLine then some ⟨a.l++b.l⟩ else none
section
variable {K:FZ9}{σ:St}{G:Hp}{α:Type}[Rp α]{ta tb:TE}
theorem ev_catTp {m1 m2:Option (Tp α)}(ea:EV K ta σ G m1)(eb:EV K tb σ G m2):EV K (tOp (rCatTp K) ta tb) σ G (m1.bind fun a=>m2.bind fun b=>catTO a b) :=
 BZ (fun {G' H' x y a b c} s ra rb e Q k=>by
  obtain ⟨hz,rfl⟩:=BO e;obtain ⟨l,xs,rfl,h,z,p⟩:=ra;obtain ⟨l',ys,rfl,h',z',p'⟩:=rb;have e1:=Paired.length p;have e2:=Paired.length p';refine ⟨l,l',xs,ys,rfl,rfl,s.tup h,s.tup h',by omega,fun hx=>?_,fun hy=>?_,fun q hq=>?_⟩
  ·have ea:a.l=[]:=List.length_eq_zero_iff.mp (by rw [<- e1,hx];rfl);exact k _ _ _ (.refl s) ⟨l',ys,rfl,h',z',by show Paired _ ys (a.l++b.l);rw [ea];exact p'⟩
  ·have eb:b.l=[]:=List.length_eq_zero_iff.mp (by rw [<- e2,hy];rfl);exact k _ _ _ (.refl s) ⟨l,xs,rfl,h,z,by show Paired _ xs (a.l++b.l);rw [eb,List.append_nil];exact p⟩
  ·have sn:=Same.new (o:=.tup (xs++ys)) (s.free hq)
   exact k _ _ _ (.new s hq) ⟨q,xs++ys,rfl,SqT.of Ak,by rw [qfA];omega,Paired.app (Paired.imp' (fun _ _ r=>Rp.mono sn r) p) (Paired.imp' (fun _ _ r=>Rp.mono sn r) p')⟩) ea eb
end
def Ris (xs:Array Nat):Prop:=∀ i j,i<j->(hj:j<xs.size)->xs.getD i 0<xs.getD j 0
theorem below_go (xs:Array Nat)(j:Nat)(hr:Ris xs):∀ fuel lo hi,lo<=hi->hi<=xs.size->hi - lo<=fuel->(∀ i,i<lo->xs.getD i 0<j)->(∀ i,hi<=i->i<xs.size->j<=xs.getD i 0) ->
  (SetTable.below.go xs j fuel lo hi<=xs.size/\(∀ i,i<SetTable.below.go xs j fuel lo hi->xs.getD i 0<j)/\∀ i,SetTable.below.go xs j fuel lo hi<=i->i<xs.size->j<=xs.getD i 0):=by
 intro fuel
 induction fuel with
 | zero =>
  intro lo hi h1 h2 h3 h4 h5;have e:lo=hi:=by omega
  subst e;exact ⟨h2,h4,h5⟩
 | succ fuel ih =>
  intro lo hi h1 h2 h3 h4 h5;unfold SetTable.below.go;by_cases hlt:lo<hi
  ·rw [if_pos hlt];dsimp only;have hm1:lo<=(lo+hi) / 2:=by omega
   have hm2:(lo+hi) / 2<hi:=by omega
   generalize (lo+hi) / 2=mid at hm1 hm2 ⊢;have hms:mid<xs.size:=by omega
   have e1:xs.getD mid j=xs.getD mid 0:=by simp [Array.getD,hms]
   rw [e1]
   have mono:∀ a b,a<=b->b<xs.size->xs.getD a 0<=xs.getD b 0:=fun a b hab hb=>by
    rcases Nat.lt_or_eq_of_le hab with h|h
    ·exact Nat.le_of_lt (hr a b h hb)
    ·rw [h];exact qzA _
   by_cases hc:xs.getD mid 0<j
   ·rw [if_pos hc];refine ih (mid+1) hi (by omega) h2 (by omega) (fun i hi'=>?_) h5;exact Nat.lt_of_le_of_lt (mono i mid (by omega) hms) hc
   ·rw [if_neg hc];refine ih lo mid hm1 (by omega) (by omega) h4 fun i hi' hs=>?_;exact qaB (Nat.le_of_not_lt hc) (mono mid i hi' hs)
  ·rw [if_neg hlt];have e:lo=hi:=by omega
   subst e;exact ⟨h2,h4,h5⟩
theorem Kr {xs:Array Nat}(hr:Ris xs)(j:Nat):SetTable.below xs j<=xs.size/\(∀ i,i<SetTable.below xs j->xs.getD i 0<j)/\∀ i,SetTable.below xs j<=i->i<xs.size->j<=xs.getD i 0 :=
 below_go xs j hr xs.size 0 xs.size (qxB _) (qzA _) (qzA _) (fun i h=>absurd h (Nat.not_lt_zero _)) fun i h h'=>absurd h' (Nat.not_lt.mpr h)
theorem Dx {xs:Array Nat}(hr:Ris xs){j p:Nat}(hp:p<=xs.size)(h1:∀ i,i<p->xs.getD i 0<j)(h2:∀ i,p<=i->i<xs.size->j<=xs.getD i 0):SetTable.below xs j=p:=by
 obtain ⟨a,b,c⟩:=Kr hr j;rcases Nat.lt_trichotomy (SetTable.below xs j) p with h|h|h
 ·have:=c _ (qzA _) (by omega);have:=h1 _ h;omega
 ·exact h
 ·have:=b _ h;have:=h2 p (qzA _) (by omega);omega
theorem GH {xs:Array Nat}(h:xs.toList.Pairwise (· < ·)):Ris xs:=fun i j hij hj=>by
 have:=List.pairwise_iff_getElem.mp h i j (by simpa using Nat.lt_trans hij hj) (by simpa using hj) hij
 simpa [Array.getD,hj,Nat.lt_trans hij hj] using this
theorem NI {xs:Array Nat}(h:Ris xs):xs.toList.Pairwise (· < ·):=by
 rw [List.pairwise_iff_getElem];intro i j hi hj hij;have hi':i<xs.size:=by simpa using hi
 have hj':j<xs.size:=by simpa using hj
 have:=h i j hij hj'
 simpa [Array.getD,hj',hi'] using this
theorem IF {xs:Array Nat}(hr:Ris xs){j:Nat}(hn:xs[SetTable.below xs j]?≠some j):Ris (SetTable.insertAt xs (SetTable.below xs j) j):=by
 apply GH;rw [SetTable.toList_insertAt];obtain ⟨a,b,c⟩:=Kr hr j;have pw:=NI hr;generalize hp:SetTable.below xs j=p at a b c hn
 have hA:∀ x∈xs.toList.take p,x<j:=fun x hx=>by
  obtain ⟨i,hi,rfl⟩:=List.mem_iff_getElem.mp hx;rw [qjA] at hi;have h1:i<p:=by omega
  have h2:i<xs.size:=by rw [qqB] at hi;omega
  have:=b i h1;rw [List.getElem_take]
  simpa [Array.getD,h2] using this
 have hB:∀ x∈xs.toList.drop p,j<x:=fun x hx=>by
  obtain ⟨i,hi,rfl⟩:=List.mem_iff_getElem.mp hx;rw [List.length_drop,qqB] at hi;have h2:p+i<xs.size:=by omega
  have hp2:p<xs.size:=by omega
  have h3:=c (p+i) (Nat.le_add_right _ _) h2;rw [List.getElem_drop]
  have h4:xs.getD (p+i) 0≠j:=fun e=>by
   have h5:=c p (qzA _) hp2
   have h6:xs.getD p 0<=xs.getD (p+i) 0:=by
    cases i with
    | zero=>exact qzA _
    | succ i=>exact Nat.le_of_lt (hr p (p+(i+1)) (by omega) h2)
   have h7:xs.getD p 0=j:=by omega
   apply hn;simp only [Array.getD,hp2,dite_true] at h7;rw [Array.getElem?_eq_getElem hp2];exact congrArg some h7
  simp only [Array.getD,h2,dite_true] at h3 h4;have e:xs.toList[p+i]'(by simpa using h2)=xs[p+i]:=by simp
  rw [e];have h3':j<=xs[p+i]:=by simpa using h3
  have h4':xs[p+i]≠j:=by simpa using h4
  omega
 rw [List.pairwise_append];refine ⟨pw.take,List.pairwise_cons.mpr ⟨hB,pw.drop⟩,fun x hx y hy=>?_⟩;have h1:=hA x hx;rcases qmA.mp hy with rfl|hy
 ·exact h1
 ·exact Nat.lt_trans h1 (hB y hy)
structure RT (t:SetTable):Prop where
 ris:Ris t.place
 dum:t.dummies = #[]
theorem E1 (j:Nat):SetTable.has #[] j=false:=by
 unfold SetTable.has;simp
theorem Ku {t:SetTable}(hd:t.dummies = #[])(f:Nat->Int)(h:Int):∀ fuel p j d,p.dummy=none->SetTable.probe.go t f h fuel p=some (.empty j d)->d=none/\t.place[SetTable.below t.place j]?≠some j:=by
 intro fuel
 induction fuel with
 | zero=>intro p j d _ e;cases e
 | succ fuel ih =>
  intro p j d hp e;unfold SetTable.probe.go at e
  have hadv:(t.advance p).dummy=none:=by
   unfold SetTable.advance;split
   ·exact hp
   ·exact hp
  cases hs:t.slot p.j with
  | empty =>
   rw [hs] at e;dsimp only at e;cases e;refine ⟨hp,fun hc=>?_⟩;unfold SetTable.slot at hs;dsimp only at hs;rw [hc] at hs;simp at hs
  | dummy =>
   unfold SetTable.slot at hs;dsimp only at hs;rw [hd,E1] at hs;split at hs<;>simp at hs
  | live i =>
   rw [hs] at e;dsimp only at e;split at e
   ·cases e
   ·exact ih _ _ _ hadv e
theorem KO {t:SetTable}(hd:t.dummies = #[]){h:Int}{j:Nat}{b:Bool}(e:t.freeSlot h=some (j,b)):b=false/\t.place[SetTable.below t.place j]?≠some j:=by
 unfold SetTable.freeSlot at e
 cases hp:t.probe (fun _=>h+1) h (t.probeStart h) with
 | none=>rw [hp] at e;cases e
 | some m =>
  rw [hp] at e
  cases m with
  | candidate _ _ _=>cases e
  | empty j' d =>
   obtain ⟨rfl,h2⟩:=Ku hd _ _ _ _ _ _ rfl hp;simp only [Option.getD_none,Option.isSome_none,Option.some.injEq,Prod.mk.injEq] at e;obtain ⟨rfl,rfl⟩:=e;exact ⟨rfl,h2⟩
theorem EF (t:SetTable)(n:Nat):RT (t.standIn n):=⟨GH (by show (Array.range n).toList.Pairwise _;rw [Array.toList_range];exact List.pairwise_lt_range),rfl⟩
theorem Ja {t:SetTable}(h:RT t)(n:Nat):RT (t.orStandIn n):=by
 unfold SetTable.orStandIn;split
 ·exact h
 ·exact EF t n
theorem IS (t:SetTable)(n:Nat):(t.orStandIn n).led=t.led:=by
 unfold SetTable.orStandIn;split<;>rfl
theorem NF {t:SetTable}(ht:RT t)(es:Array (Int × Value))(h:Int)(x:Value):RT (layNew t es h x).2.1/\(layNew t es h x).2.1.led=t.led:=by
 unfold layNew;split
 ·rename_i slot wd e;obtain ⟨_,h2⟩:=KO ht.dum e;refine ⟨Ja ⟨?_,?_⟩ _,IS _ _⟩
  ·exact IF ht.ris h2
  ·show (if SetTable.has t.dummies slot then _ else t.dummies) = #[];rw [ht.dum,E1]
   rfl
 ·exact ⟨EF _ _,rfl⟩
theorem Fx {β:Type}(f:Nat->Option β):∀ l:List Nat,l.Pairwise (· < ·)->((l.filterMap fun j=>(f j).map (j,·)).map (·.1)).Pairwise (· < ·)
 | [],_=>.nil
 | a::l,h=>by
  have ih:=Fx f l h.tail
  cases hf:f a with
  | none=>rw [List.filterMap_cons_none (by rw [hf];rfl)];exact ih
  | some b =>
   rw [List.filterMap_cons_some (b:=(a,b)) (by rw [hf];rfl),qxA];refine List.pairwise_cons.mpr ⟨fun y hy=>?_,ih⟩;obtain ⟨⟨j,c⟩,hq,rfl⟩:=qnA.mp hy;obtain ⟨j',hj',e⟩:=List.mem_filterMap.mp hq
   cases hf':f j' with
   | none=>rw [hf'] at e;cases e
   | some c' =>
    rw [hf'] at e;cases e;exact List.rel_of_pairwise_cons h hj'
theorem Jb {mask finger moves:Nat}{led plain:Bool}{hs:Array Int}{t:SetTable}{o:Array Nat}(e:SetTable.laid mask finger moves led plain hs=some (t,o)):RT t/\t.led=led/\t.plain=plain/\t.mask=mask:=by
 unfold SetTable.laid at e
 cases hl:SetTable.layClean mask hs with
 | none=>rw [hl] at e;cases e
 | some ow =>
  rw [hl] at e;simp only [Option.pure_def,Option.bind_eq_bind,Option.bind_some,Option.some.injEq,Prod.mk.injEq] at e;obtain ⟨rfl,rfl⟩:=e;refine ⟨⟨GH ?_,rfl⟩,rfl,rfl,rfl⟩;exact Fx (fun j=>ow.getD j none) _ List.pairwise_lt_range
theorem Ki (t:SetTable)(ht:RT t)(es:Array (Int × Value))(wanted:Nat):RT (relayAll t es wanted).2.1/\(relayAll t es wanted).2.1.led=t.led:=by
 unfold relayAll;split
 ·rename_i t' order e;dsimp only;split
  ·unfold SetTable.relaid at e;obtain ⟨a,b,_⟩:=Jb e;exact ⟨a,b⟩
  ·exact ⟨EF _ _,rfl⟩
 ·exact ⟨EF _ _,rfl⟩
def byT (w:World):Bool:=w.params.followText "set-order"
def Ent (w:World)(e:Int × Value)(k:Key):Prop:=DP k e.2=true/\e.1=KU w k
theorem Kk {k:Key}{v:Value}(h:DP k v=true):v.scannable=true:=by
 rcases Ba h with ⟨i,t,rfl,rfl⟩ | ⟨x,t,rfl,rfl⟩<;>rfl
structure SObj (w:World)(o:Obj)(es:Array (Int × Value))(ep:Nat)(t:SetTable)(ks:List Key):Prop where
 exact':o.ExactSet
 data:o.data = .set es ep t
 ent:Paired (Ent w) es.toList ks
 few:ks.length<scanBound
 fit:t.fits es.size=true
 rt:RT t
 led:t.led = !byT w
def SetIs (w:World)(h:Heap)(a:Addr)(ks:List Key):Prop:=∃ o es ep t,h.get? a=some o/\SObj w o es ep t ks
theorem DV {α β:Type}{F:α->β->Prop}:∀ {l₁:List α}{l₂:List β},Paired F l₁ l₂->l₁.length=l₂.length
 | _,_,.nil=>rfl
 | _,_,.cons _ t=>congrArg (· + 1) (DV t)
theorem SObj.size {w:World}{o es ep t ks}(S:SObj w o es ep t ks):es.size=ks.length:=by
 have:=DV S.ent
 rwa [qqB] at this
theorem SObj.elems {prog:Program}{w:World}{o es ep t ks}(S:SObj w o es ep t ks):ElemsOf (BS prog w) es.toList:=by
 have:∀ {l:List (Int × Value)}{ks:List Key},Paired (Ent w) l ks->ElemsOf (BS prog w) l:=by
  intro l ks p
  induction p with
  | nil=>intro e he;cases he
  | cons hd _ ih =>
   intro e he;rcases qmA.mp he with rfl|he
   ·exact ⟨⟨_,hd.1,hd.2⟩,Kk hd.1⟩
   ·exact ih e he
 exact this S.ent
theorem Gf {α β:Type}{F:α->β->Prop}{l l':List α}(hp:l'.Perm l):∀ {m:List β},Paired F l m->∃ m',m'.Perm m/\Paired F l' m':=by
 have:=hp.symm;clear hp
 induction this with
 | nil=>intro m p;exact ⟨m,.rfl,p⟩
 | cons x _ ih =>
  intro m p
  cases p with
  | cons h t =>
   obtain ⟨m',e,q⟩:=ih t;exact ⟨_,e.cons _,.cons h q⟩
 | swap x y l =>
  intro m p
  cases p with
  | cons h t=>cases t with
   | cons h2 t2=>exact ⟨_,List.Perm.swap _ _ _,.cons h2 (.cons h t2)⟩
 | trans _ _ ih1 ih2 =>
  intro m p;obtain ⟨m1,e1,q1⟩:=ih1 p;obtain ⟨m2,e2,q2⟩:=ih2 q1;exact ⟨m2,e2.trans e1,q2⟩
theorem Ke {w:World}{k:Key}:∀ {l:List (Int × Value)}{ks:List Key},Paired (Ent w) l ks->((∃ e∈l,DP k e.2=true) ↔ k∈ks)
 | _,_,.nil=>by simp
 | _,_,.cons (a:=e) (b:=k') h t=>by
  have ih:=Ke (k:=k) t;have hk:DP k e.2=true ↔ k=k':=⟨fun q=>(BS default w).inj _ _ _ q h.1,fun q=>q ▸ h.1⟩;constructor
  ·rintro ⟨x,hx,q⟩;rcases qmA.mp hx with rfl|hx
   ·exact qmA.mpr (.inl (hk.mp q))
   ·exact qmA.mpr (.inr (ih.mp ⟨x,hx,q⟩))
  ·intro hm;rcases qmA.mp hm with rfl|hm
   ·exact ⟨e,qpA,h.1⟩
   ·obtain ⟨x,hx,q⟩:=ih.mpr hm;exact ⟨x,qqA _ hx,q⟩
def F4 (ks:List Key)(k:Key):List Key:=if ks.any (fun y=>decide (y=k)) then ks else ks++[k]
theorem any_mem {ks:List Key}{k:Key}:ks.any (fun y=>decide (y=k))=true ↔ k∈ks:=by
 rw [List.any_eq_true];exact ⟨fun ⟨y,hy,e⟩=>(of_decide_eq_true e) ▸ hy,fun h=>⟨k,h,decide_eq_true rfl⟩⟩
theorem K0 {ks:List Key}{k:Key}(h:k∈ks):F4 ks k=ks:=by unfold F4;rw [if_pos (any_mem.mpr h)]
theorem I0 {ks:List Key}{k:Key}(h:k ∉ ks):F4 ks k=ks++[k]:=by unfold F4;rw [if_neg (fun q=>h (any_mem.mp q))]
theorem K1 {t:SetTable}(h:RT t):RT { t with plain:=false }:=⟨h.ris,h.dum⟩
section
variable {prog:Program}{w:World}{A:Around}{E:Value->Shared->Prop}{s:Shared}
theorem Ex {a:Addr}{o:Obj}{es:Array (Int × Value)}{ep:Nat}{t:SetTable}{es':Array (Int × Value)}{t':SetTable}(ho:s.heap.get? a=some o)(hd:o.data = .set es ep t) :
  (s.heap.update a (Obj.putSet es' t')).get? a=some { o with data:=.set es' (ep+1) t' }:=by
 have:=Heap.get?_update_self (Obj.putSet es' t') ho (by rw [putSet_of es' t' hd];rfl)
 rwa [putSet_of es' t' hd] at this
theorem KW {n:Nat}(h:n<scanBound):n<=sizeLine:=fits_of_scanBound h
theorem Ky {g:Bool->Sem Unit}(hg:∀ (b:Bool) (s₁:Shared) (Q':Unit->Shared->Prop),Q' () s₁->wpAny (model prog w) A (g b) Q' E s₁)
  {a:Addr}{o:Obj}{es:Array (Int × Value)}{ep:Nat}{t:SetTable}(gA:s.heap.get? a=some o) (xA:o.ExactSet) (dA:o.data = .set es ep t)
  {es1:Array (Int × Value)}{t2:SetTable}{ks:List Key}(p1:Paired (Ent w) es1.toList ks) (f1:ks.length<scanBound) (ft:t2.fits es1.size=true) (r2:RT t2) (l2:t2.led = !byT w) {wd:Bool}{R:Option Bool->Shared->Prop}
  (h:∀ h' ks',Heap.SameBut a s.heap h'->SetIs w h' a ks'->ks'.Perm ks->R (some true) { s with heap:=h' }) :
  wpAny (model prog w) A (do
    storeSet a es1 t2
    if (!wd && t2.tooFull)=true then do
      g (relayAll t2 es1 (SetTable.grown es1.size)).2.2;storeSet a (relayAll t2 es1 (SetTable.grown es1.size)).1 (relayAll t2 es1 (SetTable.grown es1.size)).2.1
      pure (some true)
     else pure (some true)) R E s:=by
 have z1:es1.size=ks.length:=by have:=DV p1;rwa [qqB] at this
 refine qbA (wpAny_storeSet_of gA dA ?_ (KW (by rw [z1];exact f1)));have g1:=Ex (es':=es1) (t':=t2) gA dA;have b1:=Heap.SameBut.update s.heap a (Obj.putSet es1 t2);split
 ·have hp:=relayAll_perm t2 es1 (SetTable.grown es1.size);have hfr:=relayAll_fits t2 es1 (SetTable.grown es1.size);obtain ⟨hrt,hld⟩:=Ki t2 r2 es1 (SetTable.grown es1.size);generalize relayAll t2 es1 (SetTable.grown es1.size)=Rl at hp hfr hrt hld ⊢;obtain ⟨es2,t3,gave2⟩:=Rl;dsimp only at hp hfr hrt hld ⊢;obtain ⟨ks',e',p2⟩:=Gf hp p1;have f2:ks'.length<scanBound:=by rw [e'.length_eq];exact f1
  have z2:es2.size=ks'.length:=by have:=DV p2;rwa [qqB] at this
  refine qbA (hg _ _ _ (qbA (wpAny_storeSet_of (o:={ o with data:=.set es1 (ep+1) t2 }) g1 rfl ?_ (KW (by rw [z2];exact f2)))));have g2:=Ex (s:={ s with heap:=s.heap.update a (Obj.putSet es1 t2) }) (es':=es2) (t':=t3) g1 rfl;exact qcA (h _ ks' (b1.trans (Heap.SameBut.update _ a _)) ⟨_,es2,_,t3,g2,⟨xA,rfl,p2,f2,hfr,hrt,hld.trans l2⟩⟩ e')
 ·exact qcA (h _ ks b1 ⟨_,es1,_,t2,g1,⟨xA,rfl,p1,f1,ft,r2,l2⟩⟩ .rfl)
theorem add_ok {a:Addr}{ks:List Key}{k:Key}{x:Value}{Q:Bool->Shared->Prop}(hk:DP k x=true)(hS:SetIs w s.heap a ks)(hroom:ks.length+1<scanBound)
  (h:∀ h' ks',Heap.SameBut a s.heap h'->SetIs w h' a ks'->ks'.Perm (F4 ks k)->∀ b,Q b { s with heap:=h' }) :
  wpAny (model prog w) A (setAddHashed a x (KU w k)) Q E s:=by
 obtain ⟨o,es,ep,t,gA,S⟩:=hS;have hel:=S.elems (prog:=prog);have hsz:=S.size;have hsc:=Kk hk;unfold setAddHashed setAddHashedIn;refine qdA (qbA (qvB gA S.data S.fit ?_));dsimp only;rw [byScan_of hsc (by rw [hsz];exact S.few) hel];simp only [↓reduceIte];unfold setAddByScan;refine qbA (qbA (wpAny_rule (qbA (wpAny_setScan_of (knd:=BS prog w) (k:=k) hk gA S.data S.fit hel ?_))));have hf:=Ke (k:=k) S.ent
 cases hr:List.findIdx? (fun e=>(BS prog w).is k e.2) es.toList with
 | some j =>
  dsimp only;obtain ⟨hj,hpj,_⟩:=List.findIdx?_eq_some_iff_getElem.mp hr;have hm:k∈ks:=hf.mp ⟨es.toList[j],List.getElem_mem hj,hpj⟩;refine qcA (qcA ?_);have e:s = { s with heap:=s.heap }:=by cases s;rfl
  have q:=h s.heap ks (Heap.SameBut.refl a s.heap) ⟨o,es,ep,t,gA,S⟩ (by rw [K0 hm]) false;rw [<- e] at q;exact q
 | none =>
  dsimp only
  have hm:k ∉ ks:=fun hm=>by
   obtain ⟨e,he,q⟩:=hf.mpr hm;have:=List.findIdx?_eq_none_iff.mp hr e he;have q':(BS prog w).is k e.2=true:=q;rw [q'] at this;exact Bool.noConfusion this
  have hgw:∀ (b:Bool) {s₁:Shared}{Q':Unit->Shared->Prop},Q' () s₁->wpAny (model prog w) A (match b with|true=>rule "set.scan.the-table-gave-way" | false=>pure ()) Q' E s₁:=by
   intro b s₁ Q' hq;cases b
   ·exact qcA hq
   ·exact wpAny_rule hq
  have hperm:=layNew_perm t es (KU w k) x;have hfits:=layNew_fits t es (KU w k) x;obtain ⟨hrt,hld⟩:=NF S.rt es (KU w k) x;generalize hL:layNew t es (KU w k) x=L at hperm hfits hrt hld;obtain ⟨es1,t1,wd,gave⟩:=L;dsimp only at hperm hfits hrt hld ⊢;rw [Array.toList_push] at hperm;obtain ⟨ks1,e1,p1⟩:=Gf hperm (S.ent.snoc (b:=k) (show Ent w (KU w k,x) k from ⟨hk,rfl⟩));have f1:ks1.length<scanBound:=by rw [e1.length_eq,qfA];exact hroom
  have fin:∀ (h':Heap) (ks':List Key),Heap.SameBut a s.heap h'->SetIs w h' a ks'->ks'.Perm ks1->Q true { s with heap:=h' }:=fun h' ks' b1 b2 b3=>h h' ks' b1 b2 (by rw [I0 hm];exact b3.trans e1) true;refine qbA (hgw _ ?_);split
  ·refine qbA ?_;rw [hashByValue_scannable 8 hsc];refine qcA (Ky (fun b s₁ Q' hq=>by cases b<;>first|exact qcA hq|exact wpAny_rule hq) gA S.exact' S.data p1 f1 ?_ ?_ ?_ fun h' ks' b1 b2 b3=>?_)
   ·split
    ·exact hfits
    ·exact SetTable.fits_plain_off hfits
   ·split
    ·exact hrt
    ·exact K1 hrt
   ·split
    ·exact hld.trans S.led
    ·exact hld.trans S.led
   ·exact qcA (fin h' ks' b1 b2 b3)
  ·refine qbA (qcA ?_);simp only [↓reduceIte];refine Ky (fun b s₁ Q' hq=>by cases b<;>first|exact qcA hq|exact wpAny_rule hq) gA S.exact' S.data p1 f1 hfits hrt (hld.trans S.led) fun h' ks' b1 b2 b3=>?_;exact qcA (fin h' ks' b1 b2 b3)
end
def FW (ks:List Key):List Key:=ks.foldl F4 []
theorem Mv {a b:List Key}(h:a.Perm b)(k:Key):(F4 a k).Perm (F4 b k):=by
 by_cases hk:k∈b
 ·rw [K0 hk,K0 (h.mem_iff.mpr hk)];exact h
 ·rw [I0 hk,I0 (fun q=>hk (h.mem_iff.mp q))];exact h.append_right _
theorem addK_len (a:List Key)(k:Key):(F4 a k).length<=a.length+1:=by
 unfold F4;split
 ·exact Nat.le_succ _
 ·rw [qfA];exact qzA _
theorem N4 (ks:List Key):∀ a:List Key,(ks.foldl F4 a).length<=a.length+ks.length:=by
 induction ks with
 | nil=>intro a;exact qzA _
 | cons k ks ih =>
  intro a;have h1:=ih (F4 a k);have h2:=addK_len a k;rw [qwB,qgA];omega
theorem dedK_len (ks:List Key):(FW ks).length<=ks.length:=by
 have:=N4 ks [];rw [List.length_nil] at this;unfold FW;omega
theorem N0 (ks:List Key)(k:Key):FW (ks++[k])=F4 (FW ks) k:=by
 unfold FW;rw [List.foldl_append]
 rfl
def SetP (w:World)(h:Heap)(a:Addr)(ks:List Key):Prop:=∃ ks',SetIs w h a ks'/\ks'.Perm ks
theorem SetIs.at {w:World}{h h':Heap}{a:Addr}{ks:List Key}(x:SetIs w h a ks)(k:∀ o,h.get? a=some o->h'.get? a=some o):SetIs w h' a ks:=by
 obtain ⟨o,es,ep,t,g,S⟩:=x;exact ⟨o,es,ep,t,k _ g,S⟩
theorem SetP.at {w:World}{h h':Heap}{a:Addr}{ks:List Key}(x:SetP w h a ks)(k:∀ o,h.get? a=some o->h'.get? a=some o):SetP w h' a ks:=by
 obtain ⟨ks',g,e⟩:=x;exact ⟨ks',g.at k,e⟩
def B6 (w:World):Obj:={ cls:=.type "set",dict:=none,data:=.set #[] 0 (.fresh 0 0 (!byT w)) }
theorem fresh_is {w:World}{h:Heap}{a:Addr}(g:h.get? a=some (B6 w)):SetIs w h a [] :=
 ⟨_,#[],0,_,g,⟨⟨rfl,rfl,rfl⟩,rfl,.nil,by decide,rfl,⟨fun i j _ hj=>absurd hj (Nat.not_lt_zero _),rfl⟩,rfl⟩⟩
section
variable {prog:Program}{w:World}{A:Around}{R:Result->Shared->Prop}{I:Addr}{fp wr:List Addr}{G:Array GenState->Array GenState->Prop}{n:Nat}{P:Nat->Value->Prop}{St:Nat->Shared->Prop}
theorem upd_loop (W:WalksS prog w A.in1 I fp wr G n P St)(S:Addr)(nS:S ∉ fp)(val:List Key)(hn:val.length=n)(hv:∀ i v,P i v->∃ k,val[i]? = some k/\DP k v=true)(hb:n+1<scanBound) :
  ∀ (k i:Nat) (s:Shared),n - i=k->i<=n->St i s->SetP w s.heap S (FW (val.take i)) ->
   (∀ s',Moved (S::wr) G s s'->SetP w s'.heap S (FW val)->R (.ok (.ret .none)) s') ->
   codeAny (model prog w) A (.builtin "set.update.loop" ⟨[.ref S,.ref I],[]⟩) R s:=by
 have nW:S ∉ wr:=fun h=>nS (W.sub _ h);have up:∀ b∈wr,b∈S::wr:=fun b hb=>qqA _ hb;intro k
 induction k with
 | zero =>
  intro i s e1 e2 st hS hR;have ei:i=n:=by omega
  subst ei;refine codeAny_builtin PyProof.Rows.F.entry_set_update_loop ?_;rw [Around.under_plainId PyProof.Rows.F.plain_set_update_loop _];show wpAny _ A.in1 (pyNext (.ref I) >>= _) _ _ s;refine qbA (W.done s _ _ st fun s' hm=>?_);show wpAny _ A.in1 (ret Value.none) _ _ s';refine qcA (hR s' (hm.mono up) ?_);rw [List.take_of_length_le (Nat.le_of_eq hn)] at hS;exact hS.at fun o e=>hm.heap S _ nW e
 | succ k ih =>
  intro i s e1 e2 st hS hR;have hlt:i<n:=by omega
  refine codeAny_builtin PyProof.Rows.F.entry_set_update_loop ?_;rw [Around.under_plainId PyProof.Rows.F.plain_set_update_loop _];show wpAny _ A.in1 (pyNext (.ref I) >>= _) _ _ s;refine qbA (W.item i s _ _ hlt st fun v s' hP st' hm=>?_);obtain ⟨kk,hkk,hi⟩:=hv i v hP;obtain ⟨ks',hS',ep⟩:SetP w s'.heap S (FW (val.take i)):=hS.at fun o e=>hm.heap S _ nW e;show wpAny _ A.in1 (holding [v] (setAdd S v) >>= _) _ _ s';refine qbA (qdA ?_);unfold setAdd;refine qdA (qbA ((BS prog w).pyHash (k:=kk) hi ?_))
  have hl:ks'.length<=i:=by
   rw [ep.length_eq];exact qaB (dedK_len _) (by rw [qjA];exact Nat.min_le_left _ _)
  refine add_ok (s:={ s' with toks:=s'.toks+1 }) hi hS' (by omega) fun h' ks2 hsb hS2 e2' b=>?_
  have hnext:SetP w h' S (FW (val.take (i+1))):=by
   refine ⟨ks2,hS2,?_⟩;rw [List.take_add_one,hkk];show ks2.Perm (FW (val.take i++[kk]));rw [N0];exact e2'.trans (Mv ep kk)
  refine qcA ⟨plainId_quiet PyProof.Rows.F.plain_set_update_loop _,ih (i+1) _ (by omega) hlt (W.frame _ s' _ _ st' (Nat.le_succ _) fun b hb o e=>?_) hnext fun s'' hm'' hS''=>?_⟩
  ·exact (hsb.2 b (fun h:b=S=>nS (by rw [<- h];exact hb))).trans e
  ·refine hR s'' (Moved.trans W.gtrans ((hm.mono up).then_heap (Nat.le_succ _) fun b o hb e=>?_) hm'') hS'';exact (hsb.2 b (fun h:b=S=>hb (by rw [h];exact qpA))).trans e
end
def Src (prog:Program)(w:World)(x:Value)(h0:Heap)(n:Nat)(P:Nat->Value->Prop):Prop :=
 ∀ s₁:Shared,(∀ b o,h0.get? b=some o->s₁.heap.get? b=some o)->∃ (oI:Obj) (fp:List Addr) (St:Nat->Heap->Prop),oI.isFreed=false/\(∀ b∈fp,b=s₁.heap.objs.size\/b<h0.objs.size)/\St 0 (s₁.heap.push oI) /\
  (∀ (A':Around) (Q:Value->Shared->Prop) (E:Value->Shared->Prop),A'.handled=none->Q (.ref s₁.heap.objs.size) { s₁ with heap:=s₁.heap.push oI }->wpAny (model prog w) A' (pyIter x) Q E s₁) /\
  ∀ A':Around,A'.handled=none->Walks prog w A' s₁.heap.objs.size fp [s₁.heap.objs.size] n P St
section
variable {prog:Program}{w:World}{A:Around}{E:Value->Shared->Prop}{s:Shared}
theorem Kq {l:Addr}{items:Array Value}(hl:s.heap.IsList l items):Src prog w (.ref l) s.heap items.size (fun i v=>items[i]? = some v):=fun s₁ hk=>by
 have hl1:s₁.heap.IsList l items:=hl.at fun o e=>hk _ _ e;obtain ⟨o0,ho0,_⟩:=hl;have ne:l≠s₁.heap.objs.size:=qrB (qeB (hk _ _ ho0));refine ⟨{ cls:=.type "list_iterator",data:=.fields #[.ref l,.int 0 0] },[s₁.heap.objs.size,l],_,rfl,fun b hb=>?_,?_,fun A' Q E' hh q=>wpAny_pyIter_list hl1 q,fun A' hh=>Walks.list hh _ l ne items⟩
 ·rcases qmA.mp hb with e|e
  ·exact .inl e
  ·rw [qoA.mp e];exact .inr (qeB ho0)
 ·exact ⟨⟨_,qgB _ rfl,rfl,rfl⟩,hl1.push _⟩
theorem Fd (a:Value){Q₁:Value->Shared->Prop}(h:Q₁ (.ref s.heap.objs.size) { s with heap:=s.heap.push (B6 w) }) :
  codeAny (model prog w) A (.call (.builtin "set.__new__") ⟨[.type "set",a],[]⟩) (wants Q₁ E) s:=by
 refine codeAny_of_tree ?_;show wpAny _ A.in1 (checkBuiltinCall "set.__new__" ⟨[.type "set",a],[]⟩ >>= fun _=>again (.builtin "set.__new__" ⟨[.type "set",a],[]⟩)) _ _ s;refine qbA (wpAny_of_eq (PySem.F.newCall_set_1 a) (qcA ⟨plainId_quiet F.plain_set_new _,codeAny_builtin F.entry_set_new ?_⟩));rw [Around.under_plainId F.plain_set_new _];unfold Builtin.«set.__new__» Builtin.Frozenset.newClass;have hsub:=sub_set_self;obtain ⟨hp,g,d,tk,os⟩:=s;dsimp only
 wp_walk
 refine wpAny_askSetting (qcA ?_);dsimp only;simp only [newObj];exact qbA (wpAny_alloc (qcA (qcA h)))
end
section
variable {prog:Program}{w:World}{A:Around}{E:Value->Shared->Prop}{s:Shared}
theorem Jm {x:Value}{T:String}{n:Nat}{P:Nat->Value->Prop}{val:List Key}{Q:Value->Shared->Prop}(hh:A.handled=none)(hx:Src prog w x s.heap n P)
  (tx:∀ s₁:Shared,(∀ b o,s.heap.get? b=some o->s₁.heap.get? b=some o)->s₁.TypeIs x T) (n1:isSubtype (.type T) (.type "set")=pure false) (n2:isSubtype (.type T) (.type "frozenset")=pure false) (n3:(Value.type T == Value.type "dict")=false)
  (hn:val.length=n) (hv:∀ i v,P i v->∃ k,val[i]? = some k/\DP k v=true) (hb:n+1<scanBound)
  (h:∀ (h':Heap) (tk:Nat),SetP w h' s.heap.objs.size (FW val)->(∀ b o,s.heap.get? b=some o->h'.get? b=some o)->Q (.ref s.heap.objs.size) { s with heap:=h',toks:=tk }) :
  wpAny (model prog w) A (call (.type "set") [x]) Q E s:=by
 obtain ⟨c,tl,hmro⟩:=F.called_set.mro;have hmade:=F.called_set.made;have hsub:=F.called_set.sub;refine wpAny_call (codeAny_of_tree ?_);show wpAny _ _ (callAny (.type "set") _) _ _ _;refine qcA ⟨Code.quiet_builtin _ (by decide +kernel),codeAny_builtin F.entry_type_call ?_⟩;rw [Around.under_plain (weight_type_call_type "set" [x] []) rfl];have h1:=F.called_set.notType;have h2:=F.called_set.canCreate;have hct:=PySem.F.typeCall_set_1 x
 repeat (any_goals (first|assumption|wp_step))
 refine codeAny_mono (Fd x (E:=E) (Q₁:=fun obj s₁=>obj = .ref s.heap.objs.size/\s₁ = { s with heap:=s.heap.push (B6 w) }) ⟨rfl,rfl⟩) fun r s₁ hr=>?_
 cases r with
 | error e=>exact hr
 | ok fl=>cases fl with
  | ret obj =>
   obtain ⟨rfl,rfl⟩:=hr;have gS:(s.heap.push (B6 w)).get? s.heap.objs.size=some (B6 w):=qgB _ rfl;have hT:Shared.TypeIs { s with heap:=s.heap.push (B6 w) } (.ref s.heap.objs.size) "set" := ⟨_,gS,rfl⟩;have hli:=F.called_set.init.lookup;have hbi:=F.called_set.init.bind (.ref s.heap.objs.size)
   repeat (any_goals (first|assumption|wp_step))
   refine codeAny_mono (codeAny_call_builtin (R:=wants (fun r s₂=>r = .none/\∃ h' tk,s₂ = { s with heap:=h',toks:=tk }/\SetP w h' s.heap.objs.size (FW val)/\(∀ b o,s.heap.get? b=some o->h'.get? b=some o)) E) F.called_set.init.plain F.entry_set_init (check_set_init_1 hT ?_)) fun r₂ s₂ hr₂=>?_
   ·obtain ⟨hp,g,d,tk0,os⟩:=s;dsimp only at *;have kp:∀ b o,hp.get? b=some o->(hp.push (B6 w)).get? b=some o:=fun b o e=>qfB _ e;have hTx:Shared.TypeIs { heap:=hp.push (B6 w),gens:=g,drawn:=d,toks:=tk0,os:=os } x T:=tx _ kp;unfold Builtin.«set.__init__» noKeywords Builtin.Frozenset.updateFrom;generalize hPI:pyIter=PI;unfold B6 at *
    wp_walk
    subst hPI;obtain ⟨oI,fp,St,hf,hfp,st0,hit,hW⟩:=hx { heap:=hp.push (B6 w),gens:=g,drawn:=d,toks:=tk0,os:=os } kp;refine hit _ _ _ (by simp [hh]) (qbA (wpAny_runValue ?_));have eS:(hp.push (B6 w)).objs.size=hp.objs.size+1:=size_push' _ _
    have nS:hp.objs.size ∉ fp:=fun hm=>by
     rcases hfp _ hm with e|e
     ·rw [eS] at e;exact absurd e (qrB (Nat.lt_succ_self _))
     ·exact qbB _ e
    refine upd_loop (hW _ (by simp [hh])).toS hp.objs.size nS val hn hv hb n 0 _ rfl (qxB _) st0 ?_ fun s' hm hS'=>?_
    ·exact ⟨[],fresh_is (qfB _ gS),.rfl⟩
    ·obtain ⟨h',g',d',tk',os'⟩:=s';obtain rfl:g'=g:=hm.gens;obtain rfl:d'=d:=hm.drawn;obtain rfl:os'=os:=hm.os;refine qcA ?_;show wpAny _ _ (ret Value.none) _ _ _;refine qcA ⟨rfl,h',tk',rfl,hS',fun b o e=>?_⟩;have lb:b<hp.objs.size:=qeB e;refine hm.heap b o (fun hmem=>?_) (qfB _ (kp b o e));rcases qmA.mp hmem with q|q
     ·exact absurd q (qrB lb)
     ·have q:=qoA.mp q;rw [eS] at q;exact absurd q (qrB (Nat.lt_succ_of_lt lb))
   ·cases r₂ with
    | error e=>exact hr₂
    | ok fl₂=>cases fl₂ with
     | ret r =>
      obtain ⟨rfl,h',tk,rfl,hS',hk'⟩:=hr₂
      repeat (any_goals (first|assumption|wp_step))
      exact h _ _ hS' hk'
     | _=>exact hr₂.elim
  | _=>exact hr.elim
end
def SetO (w:World)(p:Addr)(ks:List Key):HO:=.ext fun h=>SetP w h p ks
theorem setO_ok {P:Program}{w:World}{H:Hp}{h:Heap}{p:Addr}{ks:List Key}(x:SetP w h p ks):ObjOk P w H h p (SetO w p ks):=by
 refine ⟨x,?_,fun h1 h2 a b=>a.at b⟩;obtain ⟨_,⟨o,_,_,_,g,_⟩,_⟩:=x;exact ⟨o,g⟩
theorem setO_get {P:Program}{w:World}{H:Hp}{h:Heap}{p:Addr}{ks:List Key}(x:HOk P w H h)(e:H p=some (SetO w p ks)):SetP w h p ks:=(x p _ e).1
section
variable {X:Cx}{pins:List (Addr × Obj)}{σ:List (Option V)}{H:Hp}{s s':Shared}
theorem Inv.same (I:Inv X pins σ H s)(e1:s'.heap=s.heap)(e2:s'.gens=s.gens)(e3:s'.os=s.os):Inv X pins σ H s':=by
 obtain ⟨h,g,d,t,o⟩:=s;obtain ⟨h',g',d',t',o'⟩:=s';dsimp only at e1 e2 e3;subst e1;subst e2;subst e3;exact ⟨I.ok,I.os,I.bare,I.base,I.loc,I.cell,I.free,I.freeC,I.pin,I.hok,I.len⟩
theorem Inv.laid' {a:Addr}{o:HO}(I:Inv X pins σ H s)(k:∀ b u,s.heap.get? b=some u->s'.heap.get? b=some u)(hp:s.heap.objs.size<=a)(new:ObjOk X.prog X.w (upd H a o) s'.heap a o)(e2:s'.gens=s.gens)(e3:s'.os=s.os) :
  Inv X pins σ (upd H a o) s':=(I.laid (t':=s.toks) k hp new).same rfl e2 e3
end
theorem rel_key:∀ {k:Key}{u:Value},RelV (kV k) u->DP k u=true
 | .inl i,u,h=>by obtain ⟨t,rfl⟩:=h;exact GM i t
 | .inr x,u,h=>by obtain ⟨t,rfl⟩:=h;exact NJ x t
theorem vals_key {ks:List Key}:∀ {us:List Value},Vals (ks.map kV) us->∀ (i:Nat) (v:Value),us[i]? = some v->∃ k,ks[i]? = some k/\DP k v=true:=by
 induction ks with
 | nil=>intro us r i v e;cases r;cases e
 | cons k ks ih =>
  intro us r i v e;rw [qxA] at r
  cases r with
  | cons h t=>cases i with
   | zero =>
    cases e;exact ⟨k,rfl,rel_key h⟩
   | succ i=>exact ih t i v e
def rSetK (w:World)(K:FZ9):List V->Hp->VK->Prop:=fun vs H Q=>∃ (l:Addr) (ks:List Key),vs=[.ref l]/\SqL K H l (ks.map kV)/\ks.length<4000/\∀ p,H p=none->Q (.ref p) (upd H p (SetO w p (FW ks)))
theorem NP {X:Cx}{w:World}{K:FZ9}(hc:X.calm=true)(hw:X.w=w)(hK:X.K=K):CW X (.type "set") (rSetK w K):=by
 subst hK;subst hw;intro pins s σ H vs us Q I r h;obtain ⟨l,ks,rfl,hl,hz,q⟩:=h;obtain ⟨u,rfl,ru⟩:=Dy r;cases ru;obtain ⟨its,rv,pl,_⟩:=I.list hl;have hlen:=rv.length;rw [qeA] at hlen;have il:=pl.isList;refine Jm (val:=ks) (T := "list") (I.ok.hd hc) (Kq il) (fun s1 k=>(il.at fun o e=>k _ _ e).typeIs) PySem.F.sub_list_set PySem.F.sub_list_frozenset (by decide) ?_ (fun i v e=>vals_key rv i v (by rw [List.getElem?_toArray] at e;exact e)) ?_ fun h' tk hS hk=>?_
 ·rw [qoB];exact hlen
 ·rw [qoB,<- hlen];unfold scanBound;omega
 ·exact ⟨.ref s.heap.objs.size,_,I.laid' (s':={ s with heap:=h',toks:=tk }) (fun b o e=>hk b o e) (qzA _) (setO_ok hS) rfl rfl,rfl,q _ (I.hok.fresh (qzA _))⟩
def leZ (a b:Int):Bool:=decide (a<=b)
def Gh (ys:List Int):List Int:=ys.mergeSort leZ
theorem sortZ_of {ss ss':List Int}(hp:ss'.Perm ss)(hs:ss'.Pairwise (· <= ·)):ss'=Gh ss:=by
 refine List.Perm.eq_of_pairwise (le:=fun a b=>leZ a b=true) (fun a b _ _ h1 h2=>Int.le_antisymm (of_decide_eq_true h1) (of_decide_eq_true h2)) (hs.imp fun h=>decide_eq_true h) (List.pairwise_mergeSort (le:=leZ) (fun a b c h1 h2=>decide_eq_true (Int.le_trans (of_decide_eq_true h1) (of_decide_eq_true h2))) (fun a b=>?_) ss) (hp.trans (List.mergeSort_perm ss leZ).symm);unfold leZ;rcases Int.le_total a b with h|h<;>simp [h]
def GJ {α:Type}[DecidableEq α](ks:List α)(k:α):List α:=if ks.any (fun y=>decide (y=k)) then ks else ks++[k]
def Gp {α:Type}[DecidableEq α](ks:List α):List α:=ks.foldl GJ []
theorem addA_map {α:Type}[DecidableEq α]{f:α->Key}(hf:∀ a b,f a=f b->a=b)(ks:List α)(k:α):F4 (ks.map f) (f k)=(GJ ks k).map f:=by
 have e:(ks.map f).any (fun y=>decide (y=f k))=ks.any (fun y=>decide (y=k)):=by
  rw [List.any_map]
  congr 1
  funext y
  show decide (f y=f k)=decide (y=k);by_cases h:y=k
  ·rw [h,decide_eq_true rfl,decide_eq_true rfl]
  ·rw [decide_eq_false h,decide_eq_false (fun q=>h (hf _ _ q))]
 unfold F4 GJ;rw [e];split
 ·rfl
 ·rw [List.map_append];rfl
theorem dedA_map {α:Type}[DecidableEq α]{f:α->Key}(hf:∀ a b,f a=f b->a=b)(ks:List α):FW (ks.map f)=(Gp ks).map f:=by
 have:∀ (ks acc:List α),(ks.map f).foldl F4 (acc.map f)=(ks.foldl GJ acc).map f:=by
  intro ks
  induction ks with
  | nil=>intro acc;rfl
  | cons k ks ih=>intro acc;rw [qxA,qwB,qwB,addA_map hf,ih]
 exact this ks []
theorem inl_inj (a b:Int)(h:(Sum.inl a:Key)=Sum.inl b):a=b:=Sum.inl.inj h
theorem mem_addA {α:Type}[DecidableEq α]{ks:List α}{k x:α}:x∈GJ ks k ↔ x∈ks\/x=k:=by
 unfold GJ;split
 ·rename_i h;obtain ⟨y,hy,e⟩:=List.any_eq_true.mp h;have e:=of_decide_eq_true e;constructor
  ·exact .inl
  ·rintro (h|rfl)
   ·exact h
   ·exact e ▸ hy
 ·rw [qkA,qoA]
theorem mem_dedA {α:Type}[DecidableEq α]{ks:List α}{x:α}:x∈Gp ks ↔ x∈ks:=by
 have:∀ (ks acc:List α),x∈ks.foldl GJ acc ↔ x∈acc\/x∈ks:=by
  intro ks
  induction ks with
  | nil=>intro acc;simp
  | cons k ks ih=>intro acc;rw [qwB,ih,mem_addA,qmA,or_assoc]
 rw [Gp,this];simp
theorem Ho {α:Type}[DecidableEq α](ks:List α):(Gp ks).Nodup:=by
 have:∀ (ks acc:List α),acc.Nodup->(ks.foldl GJ acc).Nodup:=by
  intro ks
  induction ks with
  | nil=>intro acc h;exact h
  | cons k ks ih =>
   intro acc h;rw [qwB];refine ih _ ?_;unfold GJ;split
   ·exact h
   ·rename_i hn;refine List.nodup_append.mpr ⟨h,by simp,fun a ha b hb e=>hn ?_⟩;rw [qoA] at hb;exact List.any_eq_true.mpr ⟨a,ha,decide_eq_true (e.trans hb)⟩
 exact this ks [] List.nodup_nil
def lcg:Nat->Nat->Nat
 | 0,x=>x
 | n+1,x=>lcg n (5 * x+1)
def Hj:Nat->Nat
 | 0=>0
 | n+1=>Hj n+5 ^ n
theorem JY:∀ n x,lcg n x=5 ^ n * x+Hj n
 | 0,x=>by simp [lcg,Hj]
 | n+1,x=>by
  rw [lcg,JY n,Hj,Nat.pow_succ]
  grind
theorem Ma:∀ m n x,lcg (m+n) x=lcg n (lcg m x)
 | 0,n,x=>by rw [Nat.zero_add];rfl
 | m+1,n,x=>by
  have e:m+1+n=(m+n)+1:=by omega
  rw [e,lcg,lcg,Ma m n]
theorem Kf (m:Nat):∀ n,Hj (m+n)=Hj m+5 ^ m * Hj n
 | 0=>by simp [Hj]
 | n+1=>by
  rw [<- Nat.add_assoc,Hj,Hj,Kf m n,Nat.pow_add]
  grind
theorem pow5:∀ k:Nat,(∃ d,5 ^ (2 ^ k)=1+4 * 2 ^ k * d)/\∃ e,Hj (2 ^ k)=2 ^ k+2 * 2 ^ k * e
 | 0=>⟨⟨1,rfl⟩,⟨0,rfl⟩⟩
 | k+1=>by
  obtain ⟨⟨d,hd⟩,⟨e,he⟩⟩:=pow5 k;have e2:2 ^ (k+1)=2 ^ k+2 ^ k:=by rw [Nat.pow_succ];omega
  refine ⟨⟨d+2 * 2 ^ k * d * d,?_⟩,⟨e+2 ^ k * d+2 * e * 2 ^ k * d,?_⟩⟩
  ·rw [e2,Nat.pow_add,hd];generalize 2 ^ k=q
   grind
  ·rw [e2,Kf,hd,he];generalize 2 ^ k=q
   grind
theorem lcg_turn (k x:Nat):∃ c,lcg (2 ^ k) x=x+2 ^ k+2 * 2 ^ k * c:=by
 obtain ⟨⟨d,hd⟩,⟨e,he⟩⟩:=pow5 k;refine ⟨2 * d * x+e,?_⟩;rw [JY,hd,he];generalize 2 ^ k=q
 grind
theorem JC:∀ k x j:Nat,∃ n,n<2 ^ k/\lcg n x % 2 ^ k=j % 2 ^ k
 | 0,x,j=>⟨0,by simp,by simp [Nat.mod_one]⟩
 | k+1,x,j=>by
  obtain ⟨n,hn,e⟩:=JC k x j;have e2:2 ^ (k+1)=2 ^ k * 2:=Nat.pow_succ 2 k;have hq:0<2 ^ k:=Nat.two_pow_pos k;obtain ⟨c,hc⟩:=lcg_turn k (lcg n x);generalize hy:lcg n x=y at e hc;generalize 2 ^ k=q at e2 hq hn e hc;have hM:∀ z,z % (q * 2)=z % q+q * (z / q % 2):=fun z=>Nat.mod_mul
  have h2:(y+q+2 * q * c) % (q * 2)=(y+q) % (q * 2):=by
   rw [show y+q+2 * q * c=y+q+q * 2 * c by rw [Nat.mul_comm 2 q],Nat.add_mul_mod_self_left]
  have hdiv:(y+q) / q=y / q+1:=Nat.add_div_right y hq;have hmod:(y+q) % q=y % q:=Nat.add_mod_right y q;rw [e2];by_cases hc2:y / q % 2=j / q % 2
  ·exact ⟨n,by omega,by rw [hy,hM,hM,e,hc2]⟩
  ·refine ⟨n+q,by omega,?_⟩;have:∀ u:Nat,lcg (n+q) x=u->u % (q * 2)=j % (q * 2)->lcg (n+q) x % (q * 2)=j % (q * 2):=fun u h1 h3=>by rw [h1];exact h3
   rw [Ma,hy,hc,h2,hM,hM,hmod,hdiv,e];have:(y / q+1) % 2=j / q % 2:=by omega
   rw [this]
def CU (mask:Nat):Nat->Nat × Nat->Nat × Nat
 | 0,p=>p
 | n+1,p=>CU mask n (SetTable.leap mask p.1 p.2)
theorem JF (mask:Nat):∀ m n p,CU mask (m+n) p=CU mask n (CU mask m p)
 | 0,n,p=>by rw [Nat.zero_add];rfl
 | m+1,n,p=>by
  have e:m+1+n=(m+n)+1:=by omega
  rw [e,CU,CU,JF mask m n]
theorem Is (mask:Nat):∀ n p,(CU mask n p).2=p.2 / 32 ^ n
 | 0,p=>by simp [CU]
 | n+1,p=>by
  rw [CU,Is mask n];show p.2 / 32 / 32 ^ n=_;rw [Nat.div_div_eq_div_mul,Nat.pow_succ,Nat.mul_comm]
theorem Fw {mask:Nat}:∀ n p,p.1<mask+1->(CU mask n p).1<mask+1
 | 0,p,h=>h
 | n+1,p,h=>by
  rw [CU];exact Fw n _ (Nat.mod_lt _ (Nat.succ_pos _))
theorem Ii {mask:Nat}:∀ n i,i<mask+1->(CU mask n (i,0)).1=lcg n i % (mask+1)
 | 0,i,h=>(Nat.mod_eq_of_lt h).symm
 | n+1,i,h=>by
  rw [CU,lcg];have e:SetTable.leap mask i 0=((i * 5+1) % (mask+1),0):=by unfold SetTable.leap;simp
  show (CU mask n (SetTable.leap mask i 0)).1=_;rw [e,Ii n _ (Nat.mod_lt _ (Nat.succ_pos _))];rw [JY,JY,Nat.add_mod,Nat.mul_mod,Nat.mod_mod,<- Nat.mul_mod,<- Nat.add_mod,Nat.mul_comm i 5]
theorem Gc {mask k:Nat}(hm:mask+1=2 ^ k){i p j:Nat}(hi:i<mask+1)(hp:p<2 ^ 64)(hj:j<mask+1):∃ n,n<mask+15/\(CU mask n (i,p)).1=j:=by
 have h0:(CU mask 13 (i,p)).2=0:=by
  rw [Is];exact Nat.div_eq_of_lt (qtB hp (by decide))
 have h1:=Fw (mask:=mask) 13 (i,p) hi;generalize hx:CU mask 13 (i,p)=x at h0 h1;obtain ⟨a,b⟩:=x;dsimp only at h0 h1;subst h0;obtain ⟨n,hn,e⟩:=JC k a j;refine ⟨13+n,by omega,?_⟩;rw [JF,hx,Ii n a h1,hm,e,<- hm];exact Nat.mod_eq_of_lt hj
theorem Lh (mask:Nat)(owner:Array (Option Nat)):∀ n fuel i p,n<fuel->(owner.getD (CU mask n (i,p)).1 (some 0)).isNone=true->∃ j,SetTable.layClean.free mask owner fuel i p=some j/\(owner.getD j (some 0)).isNone=true:=by
 intro n
 induction n with
 | zero =>
  intro fuel i p h e;obtain ⟨fuel,rfl⟩:∃ f,fuel=f+1:=⟨fuel - 1,by omega⟩;unfold SetTable.layClean.free
  cases hf:(List.range (SetTable.runEnd mask i+1 - i)).find? fun k=>(owner.getD (i+k) (some 0)).isNone with
  | some k=>exact ⟨i+k,rfl,by have:=List.find?_some hf;exact this⟩
  | none =>
   have h0:0∈List.range (SetTable.runEnd mask i+1 - i):=by
    rw [qrA];unfold SetTable.runEnd;split<;>omega
   have:=List.find?_eq_none.mp hf 0 h0;rw [Nat.add_zero] at this;exact absurd e this
 | succ n ih =>
  intro fuel i p h e;obtain ⟨fuel,rfl⟩:∃ f,fuel=f+1:=⟨fuel - 1,by omega⟩;unfold SetTable.layClean.free
  cases hf:(List.range (SetTable.runEnd mask i+1 - i)).find? fun k=>(owner.getD (i+k) (some 0)).isNone with
  | some k=>exact ⟨i+k,rfl,by have:=List.find?_some hf;exact this⟩
  | none =>
   dsimp only;rw [CU] at e;exact ih fuel _ _ (by omega) e
theorem Mg (h:Int):SetTable.bits h<2 ^ 64:=by
 unfold SetTable.bits;have h1:=qkB h (show (2 ^ 64:Int)≠0 by decide);have h2:=qmB h (show (0:Int)<2 ^ 64 by decide);omega
structure LaidTo (mask n:Nat)(ow:Array (Option Nat)):Prop where
 size:ow.size=mask+1
 perm:(ow.toList.filterMap id).Perm (List.range n)
theorem fm_set:∀ (l:List (Option Nat)) (j k:Nat) (h:j<l.length),l[j]=none->((l.set j (some k)).filterMap id).Perm (k::l.filterMap id):=by
 intro l
 induction l with
 | nil=>intro j k h;exact absurd h (Nat.not_lt_zero _)
 | cons x l ih =>
  intro j k h e
  cases j with
  | zero =>
   have e:x=none:=e;subst e;exact .rfl
  | succ j =>
   have q:=ih j k (by simpa using h) (by simpa using e);rw [List.set_cons_succ]
   cases x with
   | none=>exact q
   | some y =>
    show (y::(l.set j (some k)).filterMap id).Perm (k::y::l.filterMap id);exact (q.cons y).trans (List.Perm.swap _ _ _)
theorem fm_len:∀ l:List (Option Nat),(l.filterMap id).length<l.length->∃ j,∃ h:j<l.length,l[j]=none:=by
 intro l
 induction l with
 | nil=>intro h;exact absurd h (Nat.not_lt_zero _)
 | cons x l ih =>
  intro h
  cases x with
  | none=>exact ⟨0,Nat.succ_pos _,rfl⟩
  | some y =>
   obtain ⟨j,hj,e⟩:=ih (by
    have h:(y::l.filterMap id).length<(some y::l).length:=h;simp only [qgA] at h
    omega)
   exact ⟨j+1,by simpa using hj,e⟩
theorem lay_go {mask k:Nat}(hm:mask+1=2 ^ k):∀ (hs:List Int) (ow:Array (Option Nat)) (n:Nat),LaidTo mask n ow->n+hs.length<=mask ->
  ∃ ow',(hs.foldl (init:=some (ow,n)) fun acc h=>do
   let (owner,k) <- acc
   let j <- SetTable.layClean.free mask owner (SetTable.turns mask) (SetTable.bits h % (mask+1)) (SetTable.bits h)
   pure (owner.setIfInBounds j (some k),k+1))=some (ow',n+hs.length)/\LaidTo mask (n+hs.length) ow':=by
 intro hs
 induction hs with
 | nil=>intro ow n L _;exact ⟨ow,rfl,L⟩
 | cons h hs ih =>
  intro ow n L hn;rw [qgA] at hn;have hlen:(ow.toList.filterMap id).length=n:=by rw [L.perm.length_eq,qiA]
  obtain ⟨j0,hj0,e0⟩:=fm_len ow.toList (by rw [hlen,qqB,L.size];omega);rw [qqB] at hj0;have e0':ow.getD j0 (some 0)=none:=by simp only [Array.getD,hj0,dite_true];simpa using e0
  obtain ⟨m,hm1,hm2⟩:=Gc hm (i:=SetTable.bits h % (mask+1)) (p:=SetTable.bits h) (j:=j0) (Nat.mod_lt _ (Nat.succ_pos _)) (Mg h) (by rw [<- L.size];exact hj0);obtain ⟨j,hf,hj⟩:=Lh mask ow m (SetTable.turns mask) (SetTable.bits h % (mask+1)) (SetTable.bits h) hm1 (by rw [hm2,e0'];rfl)
  have hjl:j<ow.size:=by
   rcases Nat.lt_or_ge j ow.size with q|q
   ·exact q
   ·have:ow.getD j (some 0)=some 0:=by simp [Array.getD,Nat.not_lt.mpr q]
    rw [this] at hj;cases hj
  have hjn:ow.toList[j]'(by simpa using hjl)=none:=by
   have:ow.getD j (some 0)=ow[j]:=by simp [Array.getD,hjl]
   rw [this,Option.isNone_iff_eq_none] at hj
   simpa using hj
  have L':LaidTo mask (n+1) (ow.setIfInBounds j (some n)):=by
   refine ⟨by rw [Array.size_setIfInBounds];exact L.size,?_⟩;rw [Array.toList_setIfInBounds];refine (fm_set _ j n (by simpa using hjl) hjn).trans ((L.perm.cons n).trans ?_);rw [List.range_succ];exact (List.perm_append_singleton n _).symm
  obtain ⟨ow',e1,e2⟩:=ih _ (n+1) L' (by omega);refine ⟨ow',?_,?_⟩
  ·rw [qwB];simp only [Option.bind_eq_bind,Option.bind_some,hf,Option.pure_def] at e1 ⊢;rw [e1,qgA]
   congr 2
   omega
  ·rw [qgA,show n+(hs.length+1)=n+1+hs.length by omega];exact e2
theorem lay_ok {mask k:Nat}(hm:mask+1=2 ^ k)(hs:Array Int)(hn:hs.size<=mask):∃ ow,SetTable.layClean mask hs=some ow/\LaidTo mask hs.size ow:=by
 have L0:LaidTo mask 0 (Array.replicate (mask+1) none):=by
  refine ⟨Array.size_replicate,?_⟩;rw [Array.toList_replicate]
  have:∀ n,(List.replicate n (none:Option Nat)).filterMap id=[]:=fun n=>by
   induction n with
   | zero=>rfl
   | succ n ih=>rw [List.replicate_succ,List.filterMap_cons_none rfl,ih]
  rw [this];exact .rfl
 obtain ⟨ow,e1,e2⟩:=lay_go hm hs.toList _ 0 L0 (by rw [qqB];omega);rw [Nat.zero_add,qqB] at e1 e2;refine ⟨ow,?_,e2⟩;unfold SetTable.layClean;rw [<- Array.foldl_toList];rw [e1]
 rfl
theorem Mc {mask k finger moves:Nat}{led plain:Bool}(hm:mask+1=2 ^ k)(hs:Array Int)(hn:hs.size<=mask) :
  ∃ t order,SetTable.laid mask finger moves led plain hs=some (t,order)/\order.toList.Perm (List.range hs.size)/\t.place.size=hs.size:=by
 obtain ⟨ow,e,L⟩:=lay_ok hm hs hn
 have hl:∀ (l:List (Option Nat)) (d:Nat) (f:Nat->Option Nat),(∀ i,i<l.length->f (d+i)=l.getD i none)->(((List.range' d l.length).filterMap fun j=>(f j).map (j,·)).map (·.2))=l.filterMap id:=by
  intro l
  induction l with
  | nil=>intro d f _;rfl
  | cons x l ih =>
   intro d f hf;rw [qgA,List.range'_succ];have h0:=hf 0 (Nat.succ_pos _);rw [Nat.add_zero] at h0;have h0:f d=x:=h0
   have ih':=ih (d+1) f fun i hi=>by
    have:=hf (i+1) (by rw [qgA];omega);rw [show d+1+i=d+(i+1) by omega,this]
    rfl
   cases x with
   | none=>rw [List.filterMap_cons_none (by rw [h0];rfl),ih'];rfl
   | some y=>rw [List.filterMap_cons_some (b:=(d,y)) (by rw [h0];rfl),qxA,ih'];rfl
 have e2:(((List.range (mask+1)).filterMap fun j=>(ow.getD j none).map (j,·)).map (·.2))=ow.toList.filterMap id:=by
  have:=hl ow.toList 0 (fun j=>ow.getD j none) fun i hi=>by
   rw [Nat.zero_add];simp [Array.getD,List.getD];split<;>simp_all
  rw [qqB,L.size] at this;rw [<- this,List.range_eq_range']
 refine ⟨_,_,by unfold SetTable.laid;rw [e];rfl,?_,?_⟩
 ·show (((List.range (mask+1)).filterMap fun j=>(ow.getD j none).map (j,·)).map (·.2)).Perm _;rw [e2];exact L.perm
 ·show ((((List.range (mask+1)).filterMap fun j=>(ow.getD j none).map (j,·)).map (·.1)).toArray).size=_;rw [qoB,qeA];have:=congrArg List.length e2;rw [qeA,L.perm.length_eq,qiA] at this;exact this
theorem IT:∀ fuel (size n:Nat),(∃ k,size=2 ^ k)->0<size->n<size * 2 ^ fuel->(∃ k,SetTable.sizeAbove.go n fuel size=2 ^ k)/\n<SetTable.sizeAbove.go n fuel size:=by
 intro fuel
 induction fuel with
 | zero=>intro size n h _ hn;exact ⟨h,by show n<size;simpa using hn⟩
 | succ fuel ih =>
  intro size n h hp hn;unfold SetTable.sizeAbove.go;split
  ·obtain ⟨k,rfl⟩:=h;exact ih _ _ ⟨k+1,by rw [Nat.pow_succ]⟩ (by omega) (by rw [Nat.pow_succ] at hn;rw [Nat.mul_assoc,Nat.mul_comm 2];exact hn)
  ·rename_i q;exact ⟨h,by omega⟩
theorem Lj {n:Nat}(h:n<2 ^ 60):(∃ k,SetTable.sizeAbove n=2 ^ k)/\n<SetTable.sizeAbove n :=
 IT 64 8 n ⟨3,rfl⟩ (by decide) (qtB h (by decide))
theorem dedA_len {α:Type}[DecidableEq α](ks:List α):(Gp ks).length<=ks.length:=by
 have:∀ (ks acc:List α),(ks.foldl GJ acc).length<=acc.length+ks.length:=by
  intro ks
  induction ks with
  | nil=>intro acc;exact qzA _
  | cons k ks ih =>
   intro acc;have h1:=ih (GJ acc k)
   have h2:(GJ acc k).length<=acc.length+1:=by
    unfold GJ;split
    ·exact Nat.le_succ _
    ·rw [qfA];exact qzA _
   rw [qwB,qgA];omega
 have:=this ks [];rw [List.length_nil] at this;unfold Gp;omega
section
variable {K:FZ9}{σ:St}{G:Hp}{ta tb:TE}{w:World}
theorem Ml (a:List Int):a.map V.int=(a.map (Sum.inl:Int->Key)).map kV:=by rw [List.map_map];rfl
theorem Kv {G2:Hp}:∀ zs:List Int,Paired (Rp.rel K G2) (zs.map V.int) zs
 | []=>.nil
 | z::zs=>.cons rfl (Kv zs)
theorem Iz (ys:List Int):(Gh ys).length=ys.length:=(List.mergeSort_perm ys leZ).length_eq
end
structure MpS (α:Type) where
 l:List (Str × α)
end L2
namespace HT
open PySem PySem.Spec PyProof.Rows
section
variable {prog:Program}{w:World}{A:Around}{E:Value->Shared->Prop}{s:Shared}
theorem getItem_tuple_all {t sl:Addr}{items:Array Value}{vl vu:Value}{lo hi:Option Int}{Q:Value->Shared->Prop}(ht:IsTup s.heap t items)(hs:s.heap.IsSliceOf sl vl vu .none)(pl:IsPart vl lo)(pu:IsPart vu hi)
  (hw:sIx items.size 0 lo=0/\sIx items.size items.size hi=items.size) (h:Q (.ref t) s):wpAny (model prog w) A (getItem (.ref t) (.ref sl)) Q E s:=by
 obtain ⟨os,hos,hcs,hds⟩:=id hs;have hTs:s.TypeIs (.ref sl) "slice" := ⟨os,hos,hcs⟩;unfold getItem
 try with_reducible refine qdA ?_
 first|refine qbA (qcA ?_)|skip
 refine qbA (wpAny_sequenceKey ht.typeIs (by decide) ?_);refine qbA (wpAny_callSpecial?_slot (name:=Str.ofString "__getitem__") ht.typeIs PyProof.Rows.slot_tuple_getitem (wpAny_call_entry PyProof.Rows.slot_tuple_getitem ht.typeIs entry_tuple_getitem ?_ (args_tuple_getitem _ _)));show wpAny _ _ (Builtin.Tuple.tupleItemsOf (.ref t) >>= _) _ _ s;refine qbA (tupleItemsOf_ ht ?_);refine qbA (wpAny_typeOf hTs ?_);rw [if_pos (by decide)];refine qbA (E9 hs pl pu ?_);show wpAny _ _ (if (((sIx items.size 0 lo:Nat):Int) == 0 && (1:Int) == 1 && (sIx items.size items.size hi - sIx items.size 0 lo) == items.size)=true then _ else _) _ _ s;rw [if_pos (by rw [hw.1,hw.2];simp)];refine qbA ?_;unfold Builtin.Tuple.tupleIsExact;refine qbA (wpAny_typeOf ht.typeIs (qcA ?_));rw [if_pos (by decide)];refine qbA (wpAny_rule ?_);exact qcA ⟨_,rfl,qcA h⟩
end
end HT
namespace L2
open PySem PySem.Spec PyProof.Rows
def rSlA (K:FZ9):V->Option Int->Option Int->Hp->VK->Prop:=fun x lo hi H Q=>∃ a xs,x = .ref a/\SqT K H a xs /\
 ((HT.sIx xs.length 0 lo=0/\HT.sIx xs.length xs.length hi=xs.length)->Q (.ref a) H) /\
 (¬ (HT.sIx xs.length 0 lo=0/\HT.sIx xs.length xs.length hi=xs.length)->∀ p,H p=none->Q (.ref p) (upd H p (.tup (HY xs lo hi))))
theorem sl_tupA {X:Cx}{K:FZ9}(h:X.K=K):SlR X (rSlA K):=by
 subst h;intro pins s σ H x v vl vu lo hi sl Q I rx hs pl pu h;obtain ⟨a,xs,rfl,hx,q1,q2⟩:=h;by_cases hw:HT.sIx xs.length 0 lo=0/\HT.sIx xs.length xs.length hi=xs.length
 ·cases rx;obtain ⟨its,r,ht,hz⟩:=I.tuple hx;have hlen:its.toArray.size=xs.length:=by rw [qoB];exact r.length.symm
  exact ⟨"tuple",_,PyProof.Rows.slot_tuple_getitem.lookup,ht.typeIs,HT.getItem_tuple_all ht hs pl pu (by rw [hlen];exact hw) ⟨.ref a,H,I,rfl,q1 hw⟩⟩
 ·exact sl_tup pins s σ H _ v vl vu lo hi sl Q I rx hs pl pu ⟨a,xs,rfl,hx,hw,q2 hw⟩
section
variable {K:FZ9}{σ:St}{G:Hp}{α:Type}[Rp α]{ta tb tc te:TE}{t1 t2:TO}{sa sb sc:Option Str}{m1 m2:Option (Option Int)}
theorem cutA_all {α:Type}{l:List α}{lo hi:Option Int}(h:HT.sIx l.length 0 lo=0/\HT.sIx l.length l.length hi=l.length):Fh l lo hi=l:=by
 unfold Fh;rw [h.1,h.2];simp
theorem LN {ma:Option (Tp α)}(ea:EV K ta σ G ma)(e1:OV t1 σ G m1)(e2:OV t2 σ G m2):EV K (tSl (rSlA K) ta t1 t2) σ G (ma.bind fun a=>m1.bind fun lo=>m2.bind fun hi=>some (Tp.mk (Fh a.l lo hi))):=by
 clear 7;obtain ⟨a,ha,hc⟩:=qaA.mp hc;obtain ⟨lo,hlo,hc⟩:=qaA.mp hc;obtain ⟨hi,hhi,hc⟩:=qaA.mp hc;cases hc;clear 8 ea a ha;refine e1 G2 (s1.trans x2.gg) lo hlo H2 x2.gh _ fun G3 H3 x3=>?_;refine e2 G3 (s1.trans (x2.trans x3).gg) hi hhi H3 x3.gh _ fun G4 H4 x4=>?_;obtain ⟨l,xs,rfl,h,z,p⟩:=Rp.mono (x3.trans x4).gg r2;have hl:=Paired.length p;refine ⟨l,xs,rfl,x4.gh.tup h,fun hw=>?_,fun hw q hq=>?_⟩
 ·rw [hl] at hw;rw [cutA_all hw] at k;exact k _ G4 H4 ((x2.trans x3).trans x4) ⟨l,xs,rfl,h,z,p⟩
 ·have hg:G4 q=none:=x4.gh.free hq;exact k _ (upd G4 q (.tup (HY xs lo hi))) _ (((x2.trans x3).trans x4).trans (.new x4.gh hq)) ⟨q,_,rfl,.inl (.inl Ak),qaB (Da _ _ _) z,Paired.imp' (fun _ _ r=>Rp.mono (Same.new hg) r) (Paired.cut p lo hi)⟩
end
def sortRO (ys:List Int):Option (List Int):=if ys.length<64 then some (Gh ys).reverse else none
def tSortR (K:FZ9)(ta:TA):TE:=fun σ H Q=>ta σ H fun us H1=>∃ (l:Addr) (ns:List Int),us=[.ref l]/\SqL K H1 l (ns.map V.int)/\ns.length<64/\∀ p,H1 p=none->Q (.ref p) (upd H1 p (.lst ((Gh ns).reverse.map V.int)))
theorem sortR_of {ns ns':List Int}(hp:ns'.Perm ns)(ho:Ordered true ns'):ns'=(Gh ns).reverse:=by
 have h1:ns'.reverse.Pairwise (· <= ·):=List.pairwise_reverse.mpr (by unfold Ordered at ho;simpa using ho);have h2:=sortZ_of (ss:=ns) (ss':=ns'.reverse) ((List.reverse_perm ns').trans hp) h1;rw [<- h2,List.reverse_reverse]
theorem pe_sortR {X:Cx}{K:FZ9}{a:Expr}{ta:TA}{p pos cp kp:Pos}(hK:X.K=K)(hg:Gl X "sorted")(hm:X.mg "sorted" = none)(ha:PA X [a] ta)
  (hs:starEach [a] X.env=[(false,eval a X.env)]:=by rfl) :
  PE X (.Call (.Name "sorted" p) [a] [⟨some "reverse",.Constant (.bool true) 0 cp,kp⟩] pos) (tSortR K ta):=by
 subst hK;intro pins s σ H R I h;refine wpAny_Call_Name_kw (IG I hg hm Ip ?_);refine PyProof.Rows.callWith_kw (thn (ha pos pins s σ H _ I h) fun us s1 ⟨vs,H1,I1,r1,q1⟩=>?_) (by rw [hs];rfl) (by rw [hs];rfl);refine PyProof.Rows.kwAll_cons (thn (C2 (b:=true) pins s1 σ H1 (fun v H'=>v = .bl true/\H'=H1) I1 ⟨rfl,rfl⟩) fun u s2 ⟨x,H2,I2,r2,e1,e2⟩=>?_);subst e1 e2;cases r2;refine PyProof.Rows.kwAll_nil ?_;obtain ⟨l,ns,e,hq,hl,q⟩:=q1;subst e;obtain ⟨u1,rfl,ru⟩:=Dy r1;cases ru;obtain ⟨its,r,pl,_⟩:=I2.list hq;have hlen:=r.length;rw [qeA] at hlen;refine sorted_ints_rev (b:=true) pl.isList (Lm r) (by omega) fun out ns' a1 a2 a3=>?_;have e:=sortR_of a2 a3;subst e;obtain ⟨c,hc⟩:=sortedAll_at s2.heap its out;refine ⟨.ref (s2.heap.objs.size+1),_,I2.laid (t':=s2.toks) (o:=.lst ((Gh ns).reverse.map V.int)) (fun b o e=>sortedAll_old e) (Nat.le_succ _) ⟨?_,out.toList,c,GP a1,by simpa using hc⟩,rfl,q _ (I2.hok.fresh (Nat.le_succ _))⟩;rw [qeA,List.length_reverse,Iz,qhB];omega
section
variable {K:FZ9}{σ:St}{G H:Hp}{ta tb te:TE}{rest:TS}{D:Ends}{i:Nat}{v:V}{p:Addr}{vs:List V}{β:Type}[Rp β]
theorem fv_sortR {la:Option (List Int)}(ea:EV K ta σ G la):FV K (tSortR K (At ta CB)) σ G (la.bind fun ys=>sortRO ys):=by
 clear 7;obtain ⟨a,ha,hc⟩:=qaA.mp hc;obtain ⟨hl,rfl⟩:=BO hc;clear 8 ea a ha;obtain ⟨l,xs,rfl,h,z,p⟩:=r2;have e:=EN p;subst e;refine ⟨l,a,rfl,.inl (x2.gh.rd h),hl,Gb x2.gh ?_ (Kv _) (FV.mono x2 k)⟩;rw [qeA,List.length_reverse,Iz,qhB];omega
end
def memE {α:Type}[DecidableEq α](a:α)(l:List α):Bool:=decide (a∈l)
section
variable {K:FZ9}{σ:St}{G:Hp}{α:Type}[Rp α][DecidableEq α]{ta tb:TE}{ma:Option α}{ml:Option (List α)}
theorem LH (ea:EV K ta σ G ma)(eb:EV K tb σ G ml):EV K (tOp (rInE K α true) ta tb) σ G (ma.bind fun a=>ml.bind fun l=>some (!memE a l)):=NS ea eb
end
structure Rk where
 l:List SI
def FH:D->Option (Tp D)
 | .tup l=>some ⟨l⟩
 | _=>none
section
variable {K:FZ9}{σ:St}{G:Hp}{te ta:TE}
theorem GF {md:Option D}(e:EV K te σ G md):EV K te σ G (md.bind fun d=>FH d):=by
 clear 7;obtain ⟨d,hd,hc⟩:=qaA.mp hc;refine e G1 s1 d hd H sH Q fun v G2 H2 x r=>?_
 cases d with
 | tup l =>
  cases hc
  cases r with
  | tup h z r=>exact k _ _ _ x ⟨_,_,rfl,h,z,BI r⟩
 | _=>cases hc
end
section
variable {κ:PyProof.Rows.KeyKind}
def ky (κ:PyProof.Rows.KeyKind)(p:Keyed):κ.α:=(κ.keyOf p.1).getD κ.dflt
variable {prog:Program}{w:World}{A:Around}{E:Value->Shared->Prop}{s:Shared}
end
section
variable {κ:PyProof.Rows.KeyKind}
def kl (κ:PyProof.Rows.KeyKind)(x y:Keyed):Prop:=κ.kle (ky κ x) (ky κ y)
end
def sg (st:SortSt)(g:Nat):SortSt:=SortSt.mk' (kindOf st) (arrOf st) (pendingOf st) g (failedOf st)
end L2
set_option maxHeartbeats 2000000
namespace L2
open PySem PySem.Spec PyProof.Rows
end L2
set_option maxHeartbeats 2000000
namespace L2
open PySem PySem.Spec PyProof.Rows
end L2
set_option maxHeartbeats 2000000
namespace L2
open PySem PySem.Spec PyProof.Rows
end L2
set_option maxHeartbeats 2000000
namespace L2
open PySem PySem.Spec PyProof.Rows
end L2
set_option maxHeartbeats 2000000
namespace L2
open PySem PySem.Spec PyProof.Rows
end L2
set_option maxHeartbeats 2000000
namespace L2
open PySem PySem.Spec PyProof.Rows
end L2
set_option maxHeartbeats 2000000
namespace L2
open PySem PySem.Spec PyProof.Rows
end L2
set_option maxHeartbeats 2000000
namespace L2
open PySem PySem.Spec PyProof.Rows
section
variable {κ:PyProof.Rows.KeyKind}{prog:Program}{w:World}{A:Around}{E:Value->Shared->Prop}{s:Shared}
abbrev mk (X:Array Keyed)(p:Array (Nat × Nat × Nat))(g:Nat):SortSt:=SortSt.mk' oneType' X p g none
end
end L2
set_option maxHeartbeats 2000000
namespace L2
open PySem PySem.Spec PyProof.Rows
end L2
set_option maxHeartbeats 2000000
namespace L2
open PySem PySem.Spec PyProof.Rows
structure MpR (α:Type) where
 l:List (Rk × α)
class RpC (γ:Type) [Rp γ] where
 P:FZ9->Hp->HO->γ->Prop
 mono:∀ {K:FZ9}{G G':Hp}{ho:HO}{a:γ},Same G G'->P K G ho a->P K G' ho a
 rel:∀ {K:FZ9}{G:Hp}{ho:HO}{a:γ}{q:Addr},P K G ho a->G q=some ho->Rp.rel K G (.ref q) a
def Lx (w:World):List V->Hp->VK->Prop:=fun vs H Q=>∃ (l:Addr) (ks:List Key),vs=[.ref l]/\H l=some (SetO w l ks)/\ks.length<4000/\Q (.int ks.length) H
theorem Ka {X:Cx}{w:World}(hw:X.w=w):CW X (.builtin "len") (Lx w):=by
 subst hw;intro pins s σ H vs us Q I r h;obtain ⟨l,ks,rfl,hl,hz,q⟩:=h;obtain ⟨u,rfl,ru⟩:=Dy r;cases ru;obtain ⟨ks',⟨o,es,ep,t,g,S⟩,pm⟩:=setO_get I.hok hl;have e:es.size=ks.length:=S.size.trans pm.length_eq;refine call_len_set g S.exact' S.data S.fit (by omega) ⟨.int ks.length,H,I.tok _,⟨s.toks+1,by rw [e]⟩,q⟩
def JK (ys:List Int):Option Int:=if ys.length<4000 then some ((Gp ys).length:Int) else none
section
variable {K:FZ9}{σ:St}{G:Hp}{ta:TE}{w:World}
theorem NR {la:Option (List Int)}(ea:EV K ta σ G la):EV K (tCB (Lx w) (At (tCB (rSetK w K) (At ta CB)) CB)) σ G (la.bind fun ys=>JK ys):=by
 clear 7;obtain ⟨a,ha,hc⟩:=qaA.mp hc;obtain ⟨h4,rfl⟩:=BO hc;have hl:=dedA_len a;clear 8 ea a ha;obtain ⟨l,xs,rfl,h,z,p⟩:=r2;have e:=EN p;subst e;refine ⟨l,a.map Sum.inl,rfl,?_,by rw [qeA];exact h4,fun q hq=>?_⟩
 ·rw [<- Ml];exact .inl (x2.gh.rd h)
 ·rw [dedA_map inl_inj];refine ⟨q,(Gp a).map Sum.inl,rfl,Ak,by rw [qeA];omega,?_⟩;have x3:Ext G2 H2 G2 (upd H2 q (SetO w q ((Gp a).map Sum.inl))):=.own x2.gh hq;rw [qeA];exact k _ _ _ (x2.trans x3) rfl
end
def DJ {α:Type}(as:List α)(i:Int)(a:α):Option (List α):=if (0<=i/\i<=(as.length:Int))/\as.length<sizeLine then some (as.take i.toNat++a::as.drop i.toNat) else none
def HI:V->List V->Hp->VK->Prop:=fun x vs H Q=>∃ l xs y i,x = .ref l/\vs=[.int i,y]/\H l=some (.lst xs)/\(0<=i/\i<=(xs.length:Int))/\xs.length<sizeLine/\Q .non (upd H l (.lst (xs.take i.toNat++y::xs.drop i.toNat)))
theorem DY {α β:Type}{R:α->β->Prop}:∀ {xs:List α}{ys:List β}(n:Nat),Paired R xs ys->Paired R (xs.take n) (ys.take n)
 | _,_,0,_=>by rw [List.take_zero,List.take_zero];exact .nil
 | _,_,n+1,.nil=>.nil
 | _,_,n+1,.cons h t=>by rw [List.take_succ_cons,List.take_succ_cons];exact .cons h (DY n t)
theorem DZ {α β:Type}{R:α->β->Prop}:∀ {xs:List α}{ys:List β}(n:Nat),Paired R xs ys->Paired R (xs.drop n) (ys.drop n)
 | _,_,0,h=>h
 | _,_,n+1,.nil=>.nil
 | _,_,n+1,.cons h t=>by rw [List.drop_succ_cons,List.drop_succ_cons];exact DZ n t
theorem CP {X:Cx}:MtR X "list.insert" HI:=by
 intro pins s σ H x vs v us Q I rx rv h;obtain ⟨l,xs,y,i,rfl,rfl,hH,hi,hz,q⟩:=h;cases rx;obtain ⟨u0,u,rfl,r0,ru⟩:=KF rv;obtain ⟨t0,rfl⟩:=r0;obtain ⟨z,its,n,r,hl,e⟩:=I.lstM hH;have hs:sizeLine=16777216:=qhB
 have hfit:¬(!Builtin.List.listFitsIndex i)=true:=by
  unfold Builtin.List.listFitsIndex;simp;omega
 refine call_meets F.slot_list_insert ⟨_,e,rfl⟩ F.entry_list_insert (F.args_list_insert_3 _ _ _) (AutoSeq1.list_insert_list_int_val_1 l its.toArray n i t0 u hfit (by rw [qoB];omega)) ⟨e,?_⟩;refine ⟨.non,_,I.lset (its':=its.take i.toNat++u::its.drop i.toNat) hH e ?_ ?_ ?_,rfl,q⟩
 ·have h1:¬i<0:=by omega
  have h2:min i.toNat its.toArray.size=i.toNat:=by rw [qoB];omega
  show (its.toArray.extract 0 (if i<0 then (i+((its.toArray.size:Nat):Int)).toNat else min i.toNat its.toArray.size)).push u++its.toArray.extract (if i<0 then (i+((its.toArray.size:Nat):Int)).toNat else min i.toNat its.toArray.size)=_;rw [if_neg h1,h2];apply Array.ext';rw [Array.toList_append,Array.toList_push,Array.toList_extract,Array.toList_extract];simp only [List.extract_eq_take_drop,List.drop_zero,Nat.sub_zero,qyA,List.singleton_append];have h3:(its.drop i.toNat).take (its.toArray.size - i.toNat)=its.drop i.toNat:=List.take_of_length_le (by rw [List.length_drop,qoB];exact qzA _);rw [h3]
 ·exact Paired.app (DY _ r) (.cons ru (DZ _ r))
 ·rw [qfA,qjA,qgA,List.length_drop];omega
section
variable {K:FZ9}{σ:St}{G H:Hp}{α:Type}[Rp α]{te ti ta:TE}{rest:TS}{D:Ends}{i:Nat}{v:V}{p:Addr}{vs:List V}{as:List α}{w:World}
theorem Ct {mi:Option Int}{j:Int}{m:Option α}{a:α}{as':List α}(hσ:σ[i]? = some (some v))(o:Own K G H v p vs as)(e1:EV K ti σ (upd G p (.lst vs)) mi)(h1:mi=some j)(e:EV K te σ G m)(hm:m=some a)(hp:DJ as j a=some as')(s:Same G H)
  (k:∀ G2 H2 w,Ext G H G2 H2->Own K G2 (upd H2 p (.lst (vs.take j.toNat++w::vs.drop j.toNat))) v p (vs.take j.toNat++w::vs.drop j.toNat) as'->rest D σ (upd H2 p (.lst (vs.take j.toNat++w::vs.drop j.toNat)))) :
  El (MB (tBM K "list" HI (Gn i) (At ti (At te CB)))) rest D σ H:=by
 obtain ⟨⟨hj,hl⟩,rfl⟩:=BO hp;have hlen:=Paired.length o.p;have o':=o;obtain ⟨rfl,og,oh,oz,op⟩:=o;refine ⟨_,hσ,.inl ⟨rfl,_,SqL.of oh⟩,?_⟩;refine EV.runB o' e1 h1 s fun u G1 H1 x1 r1=>?_;cases r1;refine e G1 x1.gg a hm H1 x1.gh _ fun w G2 H2 x2 r2=>?_;have o2:=o'.ext (x1.trans x2);refine ⟨p,vs,w,j,rfl,rfl,o2.h,by omega,by omega,?_⟩;refine k G2 H2 w (x1.trans x2) ⟨rfl,o2.g,Ak,?_,Paired.app (DY _ o2.p) (.cons r2 (DZ _ o2.p))⟩;rw [qfA,qjA,qgA,List.length_drop];omega
instance tdT4 {α β γ δ:Type}[Rp α][ToD α][Rp β][ToD β][Rp γ][ToD γ][Rp δ][ToD δ]:ToD (T4 α β γ δ):=⟨fun p=>.tup [ToD.to p.a,ToD.to p.b,ToD.to p.c,ToD.to p.d],fun ⟨t,x,y,z,u,e,h,r1,r2,r3,r4⟩=>by
 subst e
 exact .tup h (by show 4<=sizeLine;decide) (Fo (.cons (ToD.rel r1) (.cons (ToD.rel r2) (.cons (ToD.rel r3) (.cons (ToD.rel r4) .nil)))))⟩
end
def asIntD:D->Option Int
 | .int i=>some i
 | _=>none
section
variable {K:FZ9}{σ:St}{G H:Hp}{α β γ δ:Type}[Rp α][Rp β][Rp γ][Rp δ]{ta te:TE}
theorem NX {md:Option D}(e:EV K te σ G md):EV K te σ G (md.bind fun d=>asIntD d):=by
 clear 7;obtain ⟨d,hd,hc⟩:=qaA.mp hc;refine e G1 s1 d hd H sH Q fun v G2 H2 x r=>k v G2 H2 x ?_
 cases d with
 | int i =>
  have e:=qdB (show some i=some c from hc);subst e;cases (show RelD K G2 v (.int i) from r);exact rfl
 | _=>exact nomatch hc
end
structure MpRF (α:Type) where
 l:List (Rk × α)
structure DIn (K:FZ9)(mg:Str->Option Value)(x:Str)(st:Stmt):Prop where
 ex:∃ f fd,mg x=some (.ref f)/\Fun K x x st f fd
def BnO (x:Str)(st:Stmt)(ps:List Str):Prop:=∀ (kV doc pm:Value) (an:Option Addr) (cdv ct:Value) (us:List Value),us.length=ps.length->bindArgs (qpB x x (Cw st) (Bs st) (AR st) .none kV doc pm an cdv ct) ⟨us,[]⟩=pure (ps.zip us)
abbrev Nn (K:FZ9)(x:Str):Prop:=PySem.W.nsIn K mainGlobals x=some none
theorem scm {N ps:List Str}{sc:Scope}(a:sc.kind = .function:=by rfl)(b:sc.isCoroutine=false:=by rfl)(c:sc.isGenerator=false:=by rfl)(d:N.Nodup:=by decide +kernel)(e:N.take ps.length=ps:=by rfl)(f:∀ x∈ps,sc.names.lookup x=some .local \/ sc.names.lookup x=some .cell:=by decide +kernel)(g:∀ y∈sc.names,y.2 ≠ .free:=by decide +kernel):FnScope N ps sc:=⟨a,b,c,d,e,f,g⟩
theorem din {K:FZ9}{h:Heap}{mg:Str->Option Value}{x:Str}{st:Stmt}{f:Addr}{oc:Value}{od an:Option Addr}{osl:Array (Option Value)}{kV doc pm cdv ct:Value}(X:K.In h)(G:h.Ns mainGlobals mg)(a:PySem.W.nsIn K mainGlobals x=some (some (.ref f)))
  (l:K.lookup f=some ⟨oc,od,.func (qpB x x (Cw st) (Bs st) (AR st) .none kV doc pm an cdv ct),osl⟩) (c:PySem.W.codeIn K cdv x=true) (k:PySem.W.keepIn K (.ref f)=true):DIn K mg x st:=⟨f,_,PySem.W.mg_of X G a,fun_mk l c k⟩
section
variable {P:Program}{w:World}{K:FZ9}{mg:Str->Option Value}{base:Heap}{x:Str}{st:Stmt}{N ps:List Str}{k:Nat}{sp:Sp}{ρ:Type}[Rp ρ]
theorem DIn.ok (Z:DIn K mg x st)(S:FnScope N ps (AR st))(b:BnO x st ps)(len:∀ vs H Q E,sp vs H Q E->vs.length=ps.length)
  (hbody:∀ (f:Addr) (cdv:Value) (A:Around) (outer:List Env) (s:Shared) (H:Hp) (vs:List V) (Q:VK) (E:XK),Room k (A.deeper (envOfC x (AR st) s.heap.objs.size f cdv))->sp vs H Q E ->
   ∃ t,PSs (IR CX0 P w K mg base N x (AR st) f cdv A outer s H E).nox (Bs st) t/\t { nx:=fun _ H'=>Q .non H',rt:=Q } (start N vs) H):DefOk P w K mg base x (k+1) ps sp:=by
 obtain ⟨f,fd,a,F⟩:=Z.ex;exact LM F a (F.binds b) (F.ok S len fun cdv A outer s H vs Q E hr h=>hbody f cdv A outer s H vs Q E hr h)
theorem bn1 {p0:Str}(h:∀ (kV doc pm:Value) (an:Option Addr) (cdv ct:Value) (a0:Value),bindArgs (qpB x x (Cw st) (Bs st) (AR st) .none kV doc pm an cdv ct) ⟨[a0],[]⟩=pure (List.zip [p0] [a0]):=by intros;rfl):BnO x st [p0]:=fun kV doc pm an cdv ct us hl=>match us,hl with | [a0],_=>h kV doc pm an cdv ct a0
theorem DIn.okM1 {α0:Type}[Rp α0]{p0:Str}{m:α0->Option ρ}(Z:DIn K mg x st)(S:FnScope N [p0] (AR st))
  (hbody:∀ (f:Addr) (cdv:Value) (A:Around) (outer:List Env) (s:Shared) (H:Hp) (Q:VK) (E:XK),Room k (A.deeper (envOfC x (AR st) s.heap.objs.size f cdv))->∀ G a0 res v0,Ext G H G H->Rp.rel K G v0 a0->m a0=some res->(∀ v G2 H2,Ext G H G2 H2->Rp.rel K G2 v res->Q v H2) ->
   ∃ t,PSs (IR CX0 P w K mg base N x (AR st) f cdv A outer s H E).nox (Bs st) t/\t { nx:=fun _ H'=>Q .non H',rt:=Q } (start N [v0]) H)
  (b:BnO x st [p0]:=by exact bn1):DefOk P w K mg base x (k+1) [p0] (spM K fun x:α0 × Unit=>m x.1) :=
 Z.ok S b (fun vs H Q E h=>(Ez h).trans rfl) fun f cdv A outer s H vs Q E hr h=>by
  obtain ⟨G,⟨a0,⟨⟩⟩,res,sg,⟨v0,_,rfl,r0,rfl⟩,hm,q⟩:=h;exact hbody f cdv A outer s H Q E hr G a0 res v0 (Ext.refl sg) r0 hm q
theorem bn2 {p0 p1:Str}(h:∀ (kV doc pm:Value) (an:Option Addr) (cdv ct:Value) (a0 a1:Value),bindArgs (qpB x x (Cw st) (Bs st) (AR st) .none kV doc pm an cdv ct) ⟨[a0,a1],[]⟩=pure (List.zip [p0,p1] [a0,a1]):=by intros;rfl):BnO x st [p0,p1]:=fun kV doc pm an cdv ct us hl=>match us,hl with | [a0,a1],_=>h kV doc pm an cdv ct a0 a1
theorem DIn.okM2 {α0 α1:Type}[Rp α0][Rp α1]{p0 p1:Str}{m:α0->α1->Option ρ}(Z:DIn K mg x st)(S:FnScope N [p0,p1] (AR st))
  (hbody:∀ (f:Addr) (cdv:Value) (A:Around) (outer:List Env) (s:Shared) (H:Hp) (Q:VK) (E:XK),Room k (A.deeper (envOfC x (AR st) s.heap.objs.size f cdv))->∀ G a0 a1 res v0 v1,Ext G H G H->Rp.rel K G v0 a0->Rp.rel K G v1 a1->m a0 a1=some res->(∀ v G2 H2,Ext G H G2 H2->Rp.rel K G2 v res->Q v H2) ->
   ∃ t,PSs (IR CX0 P w K mg base N x (AR st) f cdv A outer s H E).nox (Bs st) t/\t { nx:=fun _ H'=>Q .non H',rt:=Q } (start N [v0,v1]) H)
  (b:BnO x st [p0,p1]:=by exact bn2):DefOk P w K mg base x (k+1) [p0,p1] (spM K fun x:α0 × α1 × Unit=>m x.1 x.2.1) :=
 Z.ok S b (fun vs H Q E h=>(Ez h).trans rfl) fun f cdv A outer s H vs Q E hr h=>by
  obtain ⟨G,⟨a0,a1,⟨⟩⟩,res,sg,⟨v0,_,rfl,r0,⟨v1,_,rfl,r1,rfl⟩⟩,hm,q⟩:=h;exact hbody f cdv A outer s H Q E hr G a0 a1 res v0 v1 (Ext.refl sg) r0 r1 hm q
theorem bn3 {p0 p1 p2:Str}(h:∀ (kV doc pm:Value) (an:Option Addr) (cdv ct:Value) (a0 a1 a2:Value),bindArgs (qpB x x (Cw st) (Bs st) (AR st) .none kV doc pm an cdv ct) ⟨[a0,a1,a2],[]⟩=pure (List.zip [p0,p1,p2] [a0,a1,a2]):=by intros;rfl):BnO x st [p0,p1,p2]:=fun kV doc pm an cdv ct us hl=>match us,hl with | [a0,a1,a2],_=>h kV doc pm an cdv ct a0 a1 a2
theorem DIn.okM3 {α0 α1 α2:Type}[Rp α0][Rp α1][Rp α2]{p0 p1 p2:Str}{m:α0->α1->α2->Option ρ}(Z:DIn K mg x st)(S:FnScope N [p0,p1,p2] (AR st))
  (hbody:∀ (f:Addr) (cdv:Value) (A:Around) (outer:List Env) (s:Shared) (H:Hp) (Q:VK) (E:XK),Room k (A.deeper (envOfC x (AR st) s.heap.objs.size f cdv))->∀ G a0 a1 a2 res v0 v1 v2,Ext G H G H->Rp.rel K G v0 a0->Rp.rel K G v1 a1->Rp.rel K G v2 a2->m a0 a1 a2=some res->(∀ v G2 H2,Ext G H G2 H2->Rp.rel K G2 v res->Q v H2) ->
   ∃ t,PSs (IR CX0 P w K mg base N x (AR st) f cdv A outer s H E).nox (Bs st) t/\t { nx:=fun _ H'=>Q .non H',rt:=Q } (start N [v0,v1,v2]) H)
  (b:BnO x st [p0,p1,p2]:=by exact bn3):DefOk P w K mg base x (k+1) [p0,p1,p2] (spM K fun x:α0 × α1 × α2 × Unit=>m x.1 x.2.1 x.2.2.1) :=
 Z.ok S b (fun vs H Q E h=>(Ez h).trans rfl) fun f cdv A outer s H vs Q E hr h=>by
  obtain ⟨G,⟨a0,a1,a2,⟨⟩⟩,res,sg,⟨v0,_,rfl,r0,⟨v1,_,rfl,r1,⟨v2,_,rfl,r2,rfl⟩⟩⟩,hm,q⟩:=h;exact hbody f cdv A outer s H Q E hr G a0 a1 a2 res v0 v1 v2 (Ext.refl sg) r0 r1 r2 hm q
theorem bn4 {p0 p1 p2 p3:Str}(h:∀ (kV doc pm:Value) (an:Option Addr) (cdv ct:Value) (a0 a1 a2 a3:Value),bindArgs (qpB x x (Cw st) (Bs st) (AR st) .none kV doc pm an cdv ct) ⟨[a0,a1,a2,a3],[]⟩=pure (List.zip [p0,p1,p2,p3] [a0,a1,a2,a3]):=by intros;rfl):BnO x st [p0,p1,p2,p3]:=fun kV doc pm an cdv ct us hl=>match us,hl with | [a0,a1,a2,a3],_=>h kV doc pm an cdv ct a0 a1 a2 a3
end
section
variable {X:Cx}{K:FZ9}{N ps:List Str}{sc:Scope}{i:Nat}{x:Str}{e a b:Expr}{te ta tb:TE}{pos pos':Pos}{σ:St}{G:Hp}{α:Type}[Rp α]{v:V}{c:α}
theorem AZ (S:FnScope N ps sc)(he:PE X e te)(hN:X.N=N:=by rfl)(hi:X.N[i]? = some x:=by rfl)(hx:Loc X.env.scope x:=by first|exact Or.inl rfl|exact Or.inr rfl)(hs:swapsWith e (some (.Name x pos')) pos.line X.env=pure false:=by rfl)(hf:X.fn x=true\/X.env.scope.names.lookup x=some .local := by first|exact .inl rfl|exact .inr rfl|assumption) :
  PS X (.Assign [.Name x pos'] e pos) (HH te (DT i)):=ps_set (hN ▸ S.nd) hi hx he hs hf
theorem Bv (S:FnScope N ps sc)(hN:X.N=N:=by rfl)(hi:X.N[i]? = some x:=by rfl)(hx:Loc X.env.scope x:=by first|exact Or.inl rfl|exact Or.inr rfl)(hf:X.fn x=true\/X.env.scope.names.lookup x=some .local := by first|exact .inl rfl|exact .inr rfl|assumption):PG X (.Name x pos) (DT i):=pg_name (hN ▸ S.nd) hi hx hf
theorem BE (K:FZ9)(ha:PE X a ta)(hb:PE X b tb)(hs:Mh b:=by exact fun _ _=>rfl)(h:X.K=K:=by rfl):PE X (.Subscript a b pos) (tOp (rAt K) ta tb):=pe_ix (ix_anyK h) ha hb hs
theorem Ao (K:FZ9)(ha:PE X a ta)(hb:PE X b tb)(h:X.K=K:=by rfl):PE X (.BinOp a .Add b pos) (tOp (JD K) ta tb):=AS (op_plusK h) ha hb
theorem Ay (K:FZ9)(hm:X.mg "len" = none)(ha:PE X e te)(hg:Gl X "len" := by rfl)(h:X.K=K:=by rfl)(he:starEach [e] X.env=(false,eval e X.env)::starEach [] X.env:=by rfl):PE X (.Call (.Name "len" pos') [e] [] pos) (tCB (N8 K) (At te CB)):=B5 (NN h) hg hm LO (A4 ha AC he) (by decide) (by decide) he rfl
theorem BJ (K:FZ9)(ha:PE X a ta)(he:∀ whole,isTrue a X.env whole=(do let v <- whole;standAt a.pos;holding [v] (truthy v)):=by exact fun _=>rfl)(h:X.K=K:=by rfl):PT X a (fun σ H Q=>ta σ H fun x H'=>∃ k,TruV K x H' k/\Q k H'):=N9 h ha he
theorem HS (K:FZ9)(ha:PE X a ta)(hb:PE X e te)(h:X.K=K:=by rfl)(hbase:attributeBase a "append" X.env (eval a X.env)=eval a X.env:=by rfl)
  (hfew:((backTo pos (starEach [e] X.env)).all (fun x=>!x.1) && (backToKw pos (keywordEach [] X.env)).all (fun x=>x.1.isSome) && decide ([e].length+([]:List Keyword).length+(if ([]:List Keyword).isEmpty then 0 else 1)<30))=true:=by rfl)
  (hline:(pos'.endLine == pos.line)=true:=by rfl) (hs:starEach [e] X.env=(false,eval e X.env)::starEach [] X.env:=by rfl) (hplain:(backTo pos (starEach [] X.env)).any (·.1)=false:=by rfl) :
  PE X (.Call (.Attribute a "append" pos') [e] [] pos) (tBM K "list" K7 ta (At te CB)):=Er h PySem.F.plainAttrs_list PySem.F.slot_list_append PySem.F.type_list_append Im ha (A4 hb AC hs) hbase hfew hline hs hplain
theorem nd_of (S:FnScope N ps sc):N.Nodup:=S.nd
theorem A8 (r:Rp.rel K G v c)(h:σ[i]? = some (some v):=by rfl):EV K (Gn i) σ G (some c):=ev_var h r
end
def Ek (a b:Int):Int:=reduceHash (Builtin.Tuple.tupleHashOf [hashInt a,hashInt b])
def Iv (b:SetTable × Array Int)(h:Int):Option (SetTable × Array Int) :=
 if b.2.size<1000/\b.1.gaveWay=false then
  match b.1.probe (fun i=>(b.2[i]?).getD 0) h (b.1.probeStart h) with
  | some (.empty j none) =>
   let t1:=(b.1.put j).1
   let h1:=SetTable.insertAt b.2 (b.1.put j).2 h
   if t1.fits h1.size=true/\h1.size=b.2.size+1 then
    if t1.tooFull=true then
     match t1.relaid h1 (SetTable.grown (b.2.size+1)) with
     | some (t2,od) =>
      let h2:=od.filterMap (h1[·]?)
      if h2.size=h1.size/\t2.fits h2.size=true/\SetTable.sizeAbove (SetTable.grown (b.2.size+1))<=100000 then some (t2,h2) else none
     | none=>none
    else some (t1,h1)
   else none
  | _=>none
 else none
def SetQ (h:Heap)(a:Addr)(b:SetTable × Array Int):Prop :=
 ∃ o es ep,h.get? a=some o/\o.ExactSet/\o.data = .set es ep b.1/\es.map (·.1)=b.2/\b.1.fits es.size=true
theorem SetQ.at {h h':Heap}{a:Addr}{b:SetTable × Array Int}(x:SetQ h a b)(k:∀ o,h.get? a=some o->h'.get? a=some o):SetQ h' a b:=by
 obtain ⟨o,es,ep,g,S⟩:=x;exact ⟨o,es,ep,k _ g,S⟩
theorem SetQ.size {h:Heap}{a:Addr}{b:SetTable × Array Int}(x:SetQ h a b):∃ o es ep,h.get? a=some o/\o.ExactSet/\o.data = .set es ep b.1/\b.1.fits es.size=true/\es.size=b.2.size:=by
 obtain ⟨o,es,ep,g,e,d,m,f⟩:=x;exact ⟨o,es,ep,g,e,d,f,by rw [<- m,Array.size_map]⟩
theorem JO {α β:Type}(f:α->β)(xs:Array α)(p:Nat)(x:α):(SetTable.insertAt xs p x).map f=SetTable.insertAt (xs.map f) p (f x):=by
 unfold SetTable.insertAt;simp [Array.map_append,Array.map_push,Array.map_extract]
theorem filterMap_map {α β:Type}(f:α->β)(es:Array α)(od:Array Nat):(od.filterMap (es[·]?)).map f=od.filterMap ((es.map f)[·]?):=by
 rw [Array.map_filterMap]
 congr 1
 funext i
 simp
section
variable {prog:Program}{w:World}{A:Around}{E:Value->Shared->Prop}{s:Shared}
def IsP (h:Heap)(a:Addr)(x y:Int):Prop:=∃ o n t u,h.get? a=some o/\o.cls = .type "tuple" /\ o.data = .seq #[.int x t,.int y u] n
theorem IsP.key {h:Heap}{a:Addr}{x y:Int}(k:IsP h a x y):IsTupleKey (BS prog w) h [.inl x,.inl y] a:=by
 obtain ⟨o,n,t,u,g,c,d⟩:=k;exact ⟨o,_,n,g,c,d,.cons (GM x t) (.cons (GM y u) .nil)⟩
theorem hbv {a:Addr}{x y:Int}{Q:Bool->Shared->Prop}(k:IsP s.heap a x y)(h:Q true s):wpAny (model prog w) A (hashByValue 8 (.ref a)) Q E s:=by
 have hT:=(k.key (prog:=prog) (w:=w)).typeIs;obtain ⟨o,n,t,u,g,c,d⟩:=k;unfold hashByValue;refine qbA (wpAny_specialOf hT F.slot_tuple_hash.lookup ?_);dsimp only;refine qbA (wpAny_seqItems g d ?_);refine qbA ?_;rw [<- Array.forIn_toList];show wpAny _ _ (forIn [Value.int x t,Value.int y u] _ _) _ _ _;simp only [List.forIn_cons,List.forIn_nil,hashByValue,pure_bind,Bool.not_true,Bool.false_eq_true,if_false];exact qcA (qcA h)
end
def tb0 (led:Bool):SetTable × Array Int:=(.fresh 0 0 led,#[])
theorem IsP.at {h h':Heap}{a:Addr}{x y:Int}(k:IsP h a x y)(q:∀ o,h.get? a=some o->h'.get? a=some o):IsP h' a x y:=by
 obtain ⟨o,n,t,u,g,c,d⟩:=k;exact ⟨o,n,t,u,q _ g,c,d⟩
def Prs (P:Nat->Value->Prop)(ps:List (Int × Int))(no:List Addr)(h:Heap):Prop:=∀ i v,P i v->∃ c p,v = .ref c/\ps[i]? = some p/\c ∉ no/\IsP h c p.1 p.2
theorem Prs.at {P:Nat->Value->Prop}{ps:List (Int × Int)}{no:List Addr}{h h':Heap}(k:Prs P ps no h)(q:∀ a o,a ∉ no->h.get? a=some o->h'.get? a=some o):Prs P ps no h':=fun i v e=>by
 obtain ⟨c,p,e1,e2,e3,e4⟩:=k i v e;exact ⟨c,p,e1,e2,e3,e4.at fun o=>q c o e3⟩
def Kd (p:Addr)(b:SetTable × Array Int):HO:=.ext fun h=>SetQ h p b
theorem setQO_ok {P:Program}{w:World}{H:Hp}{h:Heap}{p:Addr}{b:SetTable × Array Int}(x:SetQ h p b):ObjOk P w H h p (Kd p b):=by
 refine ⟨x,?_,fun h1 h2 a b=>a.at b⟩;obtain ⟨o,_,_,g,_⟩:=x;exact ⟨o,g⟩
theorem NZ {P:Program}{w:World}{H:Hp}{h:Heap}{p:Addr}{b:SetTable × Array Int}(x:HOk P w H h)(e:H p=some (Kd p b)):SetQ h p b:=(x p _ e).1
def PrV (K:FZ9)(H:Hp)(v:V)(p:Int × Int):Prop:=∃ t,v = .ref t/\SqT K H t [.int p.1,.int p.2]
theorem prs_of {X:Cx}{pins:List (Addr × Obj)}{s:Shared}{σ:St}{H:Hp}(I:Inv X pins σ H s):∀ {xs:List V}{ps:List (Int × Int)}{us:List Value},Paired (PrV X.K H) xs ps->Vals xs us->Prs (fun i v=>us[i]? = some v) ps [] s.heap
 | _,_,_,.nil,.nil=>fun i v e=>by cases e
 | _,_,_,.cons h t,.cons r rs=>fun i v e=>by
  cases i with
  | zero =>
   cases e;obtain ⟨a,rfl,q⟩:=h;cases r;obtain ⟨its,rv,it,_⟩:=I.tuple q;obtain ⟨o,g,c,n,d⟩:=it
   cases rv with
   | cons r1 rv=>cases rv with
    | cons r2 rv =>
     cases rv;obtain ⟨t1,rfl⟩:=r1;obtain ⟨t2,rfl⟩:=r2;exact ⟨a,_,rfl,rfl,by simp,o,n,t1,t2,g,c,d⟩
  | succ i=>exact prs_of I t rs i v e
def rLenQ:List V->Hp->VK->Prop:=fun vs H Q=>∃ (l:Addr) (b:SetTable × Array Int),vs=[.ref l]/\H l=some (Kd l b)/\b.2.size<4000/\Q (.int b.2.size) H
theorem Mo {X:Cx}:CW X (.builtin "len") rLenQ:=by
 intro pins s σ H vs us Q I r h;obtain ⟨l,b,rfl,hl,hz,q⟩:=h;obtain ⟨u,rfl,ru⟩:=Dy r;cases ru;obtain ⟨o,es,ep,g,ex,d,f,e⟩:=(NZ I.hok hl).size;refine call_len_set g ex d f (by omega) ⟨.int b.2.size,H,I.tok _,⟨s.toks+1,by rw [e]⟩,q⟩
theorem hu60 {A:Around}{k:Nat}(hr:Room k A):A.units+60<cLine:=by have:=hr.units;omega
section
variable {K:FZ9}{σ:St}{G:Hp}{ta:TE}{w:World}
theorem prV_of {H:Hp}:∀ {xs:List V}{ps:List (Int × Int)},Paired (Rp.rel K H) xs ps->Paired (PrV K H) xs ps
 | _,_,.nil=>.nil
 | _,_,.cons ⟨t,a,b,e,h,r1,r2⟩ p=>.cons ⟨t,e,by cases r1;cases r2;exact h⟩ (prV_of p)
end
theorem EL {α:Type}[DecidableEq α]:∀ {l m:List α},l.Nodup->(∀ x∈l,x∈m)->l.length<=m.length
 | [],_,_,_=>qxB _
 | a::l,m,nd,h=>by
  have ⟨h1,h2⟩:=List.nodup_cons.mp nd
  have:=EL (l:=l) (m:=m.erase a) h2 fun x hx=>by
   have ne:x≠a:=fun e=>h1 (e ▸ hx);exact (List.mem_erase_of_ne ne).mpr (h x (qqA _ hx))
  have hm:a∈m:=h a (qpA ..);rw [List.length_erase_of_mem hm] at this;have:=List.length_pos_of_mem hm;rw [qgA];omega
theorem N2 {t:SetTable}(hd:t.dummies = #[]){j:Nat}(h:j ∉ t.place.toList):t.slot j = .empty:=by
 unfold SetTable.slot;dsimp only;rw [if_neg (fun q=>?_),hd,E1]
 ·rfl
 ·have q:=eq_of_beq q;exact h (qsA (by rw [<- Array.getElem?_toList] at q;exact q))
theorem FR {t:SetTable}(hd:t.dummies = #[])(j:Nat):t.slot j = .empty\/∃ i,t.slot j = .live i/\i<t.place.size:=by
 unfold SetTable.slot;dsimp only;split
 ·rename_i q;have q:=eq_of_beq q;exact .inr ⟨_,rfl,(Array.getElem?_eq_some_iff.mp q).1⟩
 ·rw [hd,E1];exact .inl rfl
def hdP (mask:Nat)(q:Nat × Nat):SetTable.Probe:={ j:=q.1,more:=SetTable.runEnd mask q.1 - q.1,i:=q.1,perturb:=q.2,dummy:=none }
theorem run_le (mask i:Nat):SetTable.runEnd mask i - i<=9:=by
 unfold SetTable.runEnd;split<;>omega
section
variable {t:SetTable}{f:Nat->Int}{h:Int}
theorem go_run (hd:t.dummies = #[])(hf:∀ i,i<t.place.size->f i≠h):∀ (m fuel:Nat) (p:SetTable.Probe),p.more=m->p.dummy=none ->
  (∃ j,SetTable.probe.go t f h (fuel+m+1) p=some (.empty j none))\/SetTable.probe.go t f h (fuel+m+1) p=SetTable.probe.go t f h fuel (hdP t.mask (SetTable.leap t.mask p.i p.perturb)):=by
 intro m
 induction m with
 | zero =>
  intro fuel p e1 e2;rcases FR hd p.j with s | ⟨i,s,hi⟩
  ·refine .inl ⟨p.j,?_⟩;rw [SetTable.probe.go,s,e2]
  ·refine .inr ?_;rw [SetTable.probe.go,s];dsimp only;rw [if_neg (by simpa using hf i hi)];unfold SetTable.advance;rw [if_neg (by omega)];rw [e2]
   rfl
 | succ m ih =>
  intro fuel p e1 e2;rcases FR hd p.j with s | ⟨i,s,hi⟩
  ·refine .inl ⟨p.j,?_⟩;rw [SetTable.probe.go,s,e2]
  ·have e:SetTable.probe.go t f h (fuel+(m+1)+1) p=SetTable.probe.go t f h (fuel+m+1) { p with j:=p.j+1,more:=p.more - 1 }:=by
    rw [SetTable.probe.go,s];dsimp only;rw [if_neg (by simpa using hf i hi)];unfold SetTable.advance;rw [if_pos (by omega)]
    rfl
   rw [e];exact ih fuel { p with j:=p.j+1,more:=p.more - 1 } (by show p.more - 1=m;omega) e2
theorem go_leaps (hd:t.dummies = #[])(hf:∀ i,i<t.place.size->f i≠h):∀ (n fuel:Nat) (q:Nat × Nat),10 * n<fuel->t.slot (CU t.mask n q).1 = .empty->∃ j,SetTable.probe.go t f h fuel (hdP t.mask q)=some (.empty j none):=by
 intro n
 induction n with
 | zero =>
  intro fuel q hl hs;obtain ⟨fuel,rfl⟩:∃ g,fuel=g+1:=⟨fuel - 1,by omega⟩;have hs:t.slot (hdP t.mask q).j = .empty:=hs;refine ⟨q.1,?_⟩;rw [SetTable.probe.go,hs]
  rfl
 | succ n ih =>
  intro fuel q hl hs;have hr:=run_le t.mask q.1;obtain ⟨g,rfl⟩:∃ g,fuel=g+(SetTable.runEnd t.mask q.1 - q.1)+1:=⟨fuel - (SetTable.runEnd t.mask q.1 - q.1) - 1,by omega⟩;rcases go_run hd hf (SetTable.runEnd t.mask q.1 - q.1) g (hdP t.mask q) rfl rfl with e|e
  ·exact e
  ·rw [e];exact ih g _ (by omega) hs
theorem probe_ok (hd:t.dummies = #[])(hf:∀ i,i<t.place.size->f i≠h){k:Nat}(hm:t.mask+1=2 ^ k)(hz:t.place.size<=t.mask):∃ j,t.probe f h (t.probeStart h)=some (.empty j none):=by
 obtain ⟨j,hj,nj⟩:∃ j,j<t.mask+1/\j ∉ t.place.toList:=by
  apply Classical.byContradiction;intro q;have sub:List.range (t.mask+1) ⊆ t.place.toList:=fun x hx=>Classical.byContradiction fun nx=>q ⟨x,qrA.mp hx,nx⟩;have:=EL (List.nodup_range (n:=t.mask+1)) sub;rw [qiA,qqB] at this;omega
 obtain ⟨n,hn,e⟩:=Gc hm (i:=SetTable.bits h % (t.mask+1)) (p:=SetTable.bits h) (j:=j) (Nat.mod_lt _ (Nat.succ_pos _)) (Mg h) hj;exact go_leaps hd hf n (10 * SetTable.turns t.mask) (SetTable.bits h % (t.mask+1),SetTable.bits h) (by unfold SetTable.turns;omega) (by rw [e];exact N2 hd nj)
structure TbI (b:SetTable × Array Int):Prop where
 rt:b.1.dummies = #[]
 pw:∃ k,b.1.mask+1=2 ^ k/\1<=k
 sz:b.1.place.size=b.2.size
 few:b.2.size * 5<b.1.mask * 3
theorem KM {α:Type}(xs:Array α){p:Nat}(x:α)(hp:p<=xs.size):(SetTable.insertAt xs p x).size=xs.size+1:=by
 unfold SetTable.insertAt;rw [Array.size_append,Array.size_push,Array.size_extract,Array.size_extract];omega
theorem HC {α:Type}{xs:Array α}{p:Nat}{x y:α}(h:y∈(SetTable.insertAt xs p x).toList):y=x\/y∈xs.toList:=by
 unfold SetTable.insertAt at h;rw [Array.toList_append,Array.toList_push,qyA] at h;rcases qkA.mp h with h|h
 ·rw [Array.toList_extract] at h;exact .inr (List.mem_of_mem_drop (List.mem_of_mem_take h))
 ·rcases qmA.mp h with h|h
  ·exact .inl h
  ·rw [Array.toList_extract] at h;exact .inr (List.mem_of_mem_drop (List.mem_of_mem_take h))
theorem Kg (xs:Array Nat)(j:Nat):SetTable.below xs j<=xs.size:=by
 unfold SetTable.below
 have:∀ fuel lo hi,lo<=hi->hi<=xs.size->SetTable.below.go xs j fuel lo hi<=xs.size:=by
  intro fuel
  induction fuel with
  | zero=>intro lo hi h1 h2;unfold SetTable.below.go;omega
  | succ fuel ih =>
   intro lo hi h1 h2;unfold SetTable.below.go;split
   ·dsimp only;split
    ·exact ih _ _ (by omega) h2
    ·exact ih _ _ (by omega) (by omega)
   ·omega
 exact this _ _ _ (qxB _) (qzA _)
theorem above_le {n:Nat}:SetTable.sizeAbove n<=2 * n+8:=by
 have:∀ fuel size,size<=2 * n+8->SetTable.sizeAbove.go n fuel size<=2 * n+8:=by
  intro fuel
  induction fuel with
  | zero=>intro size h;exact h
  | succ fuel ih =>
   intro size h;unfold SetTable.sizeAbove.go;split
   ·exact ih _ (by omega)
   ·exact h
 exact this 64 8 (by omega)
theorem L4 {b:SetTable × Array Int}{h:Int}(T:TbI b)(hn:h ∉ b.2.toList)(hz:b.2.size<1000):∃ c,Iv b h=some c/\TbI c/\c.2.size=b.2.size+1/\∀ y∈c.2.toList,y=h\/y∈b.2.toList:=by
 obtain ⟨t,hs⟩:=b;obtain ⟨rt,⟨k,hm,hk⟩,sz,few⟩:=T;dsimp only at *
 have hg:t.gaveWay=false:=by
  obtain ⟨k,rfl⟩:∃ q,k=q+1:=⟨k - 1,by omega⟩;rw [Nat.pow_succ] at hm;unfold SetTable.gaveWay;have:t.mask % 2=1:=by omega
  rw [this]
  rfl
 obtain ⟨j,hj⟩:=probe_ok (t:=t) (f:=fun i=>(hs[i]?).getD 0) (h:=h) rt (fun i hi e=>hn (by
  rw [sz] at hi;rw [Array.getElem?_eq_getElem hi] at e;have e:hs[i]=h:=e;rw [<- e]
  exact Array.getElem_mem_toList hi)) hm (by omega)
 have hp:(t.put j).2<=t.place.size:=Kg _ _;have z1:(SetTable.insertAt hs (t.put j).2 h).size=hs.size+1:=KM hs h (by rw [<- sz];exact hp);have z2:(t.put j).1.place.size=t.place.size+1:=KM t.place j hp
 have dm:(t.put j).1.dummies = #[]:=by
  show (if SetTable.has t.dummies j then _ else t.dummies)=_;rw [rt,E1]
  rfl
 have hmk:(t.put j).1.mask=t.mask:=rfl
 have hfit:(t.put j).1.fits (SetTable.insertAt hs (t.put j).2 h).size=true:=by
  unfold SetTable.fits SetTable.fill;rw [dm,z1,z2,sz,hmk];simp;omega
 unfold Iv;dsimp only;rw [if_pos ⟨hz,hg⟩,hj];dsimp only;rw [if_pos ⟨hfit,z1⟩];by_cases tf:(t.put j).1.tooFull=true
 ·rw [if_pos tf]
  have gr:SetTable.grown (hs.size+1)=4 * (hs.size+1):=by
   unfold SetTable.grown;rw [if_neg (by omega),Nat.mul_comm]
  obtain ⟨⟨k2,hk2⟩,lt2⟩:=Lj (n:=SetTable.grown (hs.size+1)) (qtB (m:=100000) (by rw [gr];omega) (by decide));have ab:=above_le (n:=SetTable.grown (hs.size+1));have hk1:SetTable.sizeAbove (SetTable.grown (hs.size+1)) - 1+1=2 ^ k2:=by omega
  obtain ⟨t2,od,e1,e2,e3⟩:=Mc (mask:=SetTable.sizeAbove (SetTable.grown (hs.size+1)) - 1) (finger:=(t.put j).1.finger) (moves:=(t.put j).1.movedTo (SetTable.sizeAbove (SetTable.grown (hs.size+1)) - 1)) (led:=(t.put j).1.led) (plain:=(t.put j).1.plain) hk1 (SetTable.insertAt hs (t.put j).2 h) (by rw [z1];omega);have e1':(t.put j).1.relaid (SetTable.insertAt hs (t.put j).2 h) (SetTable.grown (hs.size+1))=some (t2,od):=e1;obtain ⟨q1,q2,q3,q4⟩:=Jb e1;rw [e1'];dsimp only;generalize hH:SetTable.insertAt hs (t.put j).2 h=H1 at *
  have r1:(od.filterMap (H1[·]?)).toList.Perm H1.toList:=by
   rw [Array.toList_filterMap];exact (e2.filterMap _).trans (by rw [filterMap_getElem?_range])
  have r2:(od.filterMap (H1[·]?)).size=H1.size:=by rw [<- qqB,r1.length_eq,qqB]
  have k2p:1<=k2:=by
   rcases Nat.eq_zero_or_pos k2 with z|z
   ·rw [z] at hk2;omega
   ·exact z
  have f2:t2.fits (od.filterMap (H1[·]?)).size=true:=by
   unfold SetTable.fits SetTable.fill;rw [q1.dum,e3,r2,q4];simp;omega
  rw [if_pos ⟨r2,f2,by omega⟩];refine ⟨_,rfl,⟨q1.dum,⟨k2,by rw [q4];exact hk1,k2p⟩,by rw [e3];exact r2.symm,?_⟩,by show (od.filterMap (H1[·]?)).size=_;rw [r2];exact z1,fun y hy=>?_⟩
  ·show (od.filterMap (H1[·]?)).size * 5<t2.mask * 3;rw [r2,z1,q4];omega
  ·have:=r1.mem_iff.mp hy;rw [<- hH] at this;exact HC this
 ·rw [if_neg tf];refine ⟨_,rfl,⟨dm,⟨k,hm,hk⟩,by show (t.put j).1.place.size=_;rw [z2,z1,sz],?_⟩,z1,fun y hy=>HC hy⟩
  have tf:¬ (t.mask * 3<=((t.put j).1.place.size+(t.put j).1.dummies.size) * 5):=by
   intro q;apply tf;unfold SetTable.tooFull SetTable.fill;exact decide_eq_true q
  rw [dm,z2] at tf;show (SetTable.insertAt hs (t.put j).2 h).size * 5<t.mask * 3;rw [z1];have:(#[]:Array Nat).size=0:=rfl;omega
def Sm (p:Int × Int):Prop:=0<=p.1/\p.1<8/\0<=p.2/\p.2<8
theorem NA:((List.range 8).all fun a=>(List.range 8).all fun b=>(List.range 8).all fun c=>(List.range 8).all fun d=>!(Ek ((a:Nat):Int) ((b:Nat):Int) == Ek ((c:Nat):Int) ((d:Nat):Int)) || (a == c && b == d))=true:=by decide +kernel
theorem NL (a:Nat)(ha:a<8)(b:Nat)(hb:b<8)(c:Nat)(hc:c<8)(d:Nat)(hd:d<8)(e:Ek (a:Int) (b:Int)=Ek (c:Int) (d:Int)):a=c/\b=d:=by
 have h:=List.all_eq_true.mp (List.all_eq_true.mp (List.all_eq_true.mp (List.all_eq_true.mp NA a (qrA.mpr ha)) b (qrA.mpr hb)) c (qrA.mpr hc)) d (qrA.mpr hd);rw [e,beq_self_eq_true] at h
 simpa using h
theorem Ix {p q:Int × Int}(hp:Sm p)(hq:Sm q)(e:Ek p.1 p.2=Ek q.1 q.2):p=q:=by
 obtain ⟨a,b⟩:=p;obtain ⟨c,d⟩:=q;obtain ⟨a0,a1,b0,b1⟩:=hp;obtain ⟨c0,c1,d0,d1⟩:=hq;dsimp only at *;obtain ⟨a,rfl⟩:=qjB a0;obtain ⟨b,rfl⟩:=qjB b0;obtain ⟨c,rfl⟩:=qjB c0;obtain ⟨d,rfl⟩:=qjB d0;obtain ⟨rfl,rfl⟩:=NL a (by omega) b (by omega) c (by omega) d (by omega) e
 rfl
end
open Builtin Builtin.Str
end L2
namespace PySem
open Sem (wp)
end PySem
namespace L2
open PySem PySem.Spec PyProof.Rows
end L2
namespace L2
open PySem PySem.Spec PyProof.Rows PySem.W
theorem HE {K:FZ9}{σ:St}{G:Hp}{te:TE}{α:Type}[Rp α][ToD α]{m:Option (List α)}(e:FV K te σ G m):FV K te σ G (m.bind fun a=>some (a.map (ToD.to:α->D))):=by
 clear 7;obtain ⟨a,ha,hc⟩:=qaA.mp hc;cases hc;exact e G1 s1 a ha H sH Q fun p vs G2 H2 x h1 h2 h3 h4 pr=>k p vs G2 H2 x h1 h2 h3 h4 (toDs pr)
def Jp (mask:Nat)(p:SetTable.Probe):SetTable.Probe :=
 if p.more > 0 then { p with j:=p.j+1,more:=p.more - 1 } else
 { p with j:=(SetTable.leap mask p.i p.perturb).1,more:=SetTable.runEnd mask (SetTable.leap mask p.i p.perturb).1 - (SetTable.leap mask p.i p.perturb).1,i:=(SetTable.leap mask p.i p.perturb).1,perturb:=(SetTable.leap mask p.i p.perturb).2 }
inductive Rch (occ:Nat->Prop)(mask:Nat):Nat->SetTable.Probe->Nat->Prop where
 | here (p:SetTable.Probe):Rch occ mask 0 p p.j
 | step {n:Nat}{p:SetTable.Probe}{j:Nat}:occ p.j->Rch occ mask n (Jp mask p) j->Rch occ mask (n+1) p j
theorem Rch.mono {occ occ':Nat->Prop}{mask n:Nat}{p:SetTable.Probe}{j:Nat}(h:Rch occ mask n p j)(k:∀ x,occ x->occ' x):Rch occ' mask n p j:=by
 induction h with
 | here p=>exact .here p
 | step o _ ih=>exact .step (k _ o) ih
def startM (mask:Nat)(h:Int):SetTable.Probe:=hdP mask (SetTable.bits h % (mask+1),SetTable.bits h)
theorem Na {t:SetTable}{j i:Nat}(h:t.slot j = .live i):t.place[i]? = some j:=by
 unfold SetTable.slot at h;dsimp only at h;split at h
 ·rename_i q;cases h;exact eq_of_beq q
 ·split at h<;>cases h
theorem Km {t:SetTable}(r:RT t){j:Nat}(h:j∈t.place.toList):∃ i,t.slot j = .live i/\t.place[i]? = some j:=by
 obtain ⟨i,hi,e⟩:=List.getElem_of_mem h;rw [qqB] at hi;have e:t.place[i]=j:=by simpa using e
 have hb:SetTable.below t.place j=i:=by
  refine Dx r.ris (Nat.le_of_lt hi) (fun k hk=>?_) fun k hk hk2=>?_
  ·have:=r.ris k i hk hi;rw [<- e]
   simpa [Array.getD,hi] using this
  ·rcases Nat.eq_or_lt_of_le hk with q|q
   ·subst q;simp [Array.getD,hi,e]
   ·have:=r.ris i k q hk2;rw [<- e];exact Nat.le_of_lt (by simpa [Array.getD,hi] using this)
 have e2:t.place[i]? = some j:=by rw [Array.getElem?_eq_getElem hi,e]
 refine ⟨i,?_,e2⟩;unfold SetTable.slot;dsimp only;rw [hb,e2];simp
section
variable {t:SetTable}{f:Nat->Int}{h:Int}
theorem go_cand (r:RT t):∀ {n:Nat}{p:SetTable.Probe}{j:Nat},Rch (·∈t.place.toList) t.mask n p j->(∃ i,t.place[i]? = some j/\f i=h)->∀ fuel,n<fuel->∃ j' i' nx,SetTable.probe.go t f h fuel p=some (.candidate j' i' nx)/\f i'=h/\i'<t.place.size:=by
 intro n p j R
 induction R with
 | here p =>
  rintro ⟨i,hi,e⟩ fuel hf;obtain ⟨fuel,rfl⟩:∃ g,fuel=g+1:=⟨fuel - 1,by omega⟩;obtain ⟨i2,hs,h2⟩:=Km r (j:=p.j) (qsA (by rw [Array.getElem?_toList];exact hi))
  obtain rfl:i=i2:=by
   have l1:=(Array.getElem?_eq_some_iff.mp hi).1;have l2:=(Array.getElem?_eq_some_iff.mp h2).1;rw [Array.getElem?_eq_getElem l1] at hi;rw [Array.getElem?_eq_getElem l2] at h2;rcases Nat.lt_trichotomy i i2 with q|q|q
   ·have:=r.ris i i2 q l2;simp [Array.getD,l1,l2,qdB hi,qdB h2] at this
   ·exact q
   ·have:=r.ris i2 i q l1;simp [Array.getD,l1,l2,qdB hi,qdB h2] at this
  refine ⟨p.j,i,t.advance p,?_,e,(Array.getElem?_eq_some_iff.mp hi).1⟩;rw [SetTable.probe.go,hs];dsimp only;rw [if_pos (by simpa using e)]
 | @step n p j o _ ih =>
  intro hx fuel hf;obtain ⟨fuel,rfl⟩:∃ g,fuel=g+1:=⟨fuel - 1,by omega⟩;obtain ⟨i2,hs,h2⟩:=Km r o;by_cases e:f i2=h
  ·refine ⟨p.j,i2,t.advance p,?_,e,(Array.getElem?_eq_some_iff.mp h2).1⟩;rw [SetTable.probe.go,hs];dsimp only;rw [if_pos (by simpa using e)]
  ·obtain ⟨a,b,c,q1,q2,q3⟩:=ih hx fuel (by omega);refine ⟨a,b,c,?_,q2,q3⟩;rw [SetTable.probe.go,hs];dsimp only;rw [if_neg (by simpa using e)];exact q1
theorem go_empty (hd:t.dummies = #[]):∀ (fuel:Nat) (p:SetTable.Probe) (j:Nat),SetTable.probe.go t f h fuel p=some (.empty j none)->∃ n,n<fuel/\Rch (·∈t.place.toList) t.mask n p j:=by
 intro fuel
 induction fuel with
 | zero=>intro p j e;cases e
 | succ fuel ih =>
  intro p j e;rcases FR hd p.j with s | ⟨i,s,hi⟩
  ·rw [SetTable.probe.go,s] at e;simp only [Option.some.injEq,SetTable.Met.empty.injEq] at e;obtain ⟨rfl,_⟩:=e;exact ⟨0,Nat.succ_pos _,.here p⟩
  ·rw [SetTable.probe.go,s] at e;dsimp only at e;split at e
   ·cases e
   ·obtain ⟨n,hn,R⟩:=ih _ j e;exact ⟨n+1,by omega,.step (qsA (by rw [Array.getElem?_toList];exact Na s)) R⟩
end
def IP (ow:Array (Option Nat))(x:Nat):Prop:=(ow.getD x (some 0)).isNone=false
theorem MN {occ:Nat->Prop}{mask:Nat}{q:Nat × Nat}:∀ (k a:Nat),a+k<=SetTable.runEnd mask q.1 - q.1->(∀ x,a<=x->x<a+k->occ (q.1+x)) ->
  Rch occ mask k { hdP mask q with j:=q.1+a,more:=SetTable.runEnd mask q.1 - q.1 - a } (q.1+(a+k))
 | 0,a,_,_=>.here _
 | k+1,a,hk,ho=>by
  refine .step (ho a (qzA _) (by omega)) ?_
  have e:Jp mask { hdP mask q with j:=q.1+a,more:=SetTable.runEnd mask q.1 - q.1 - a } = { hdP mask q with j:=q.1+(a+1),more:=SetTable.runEnd mask q.1 - q.1 - (a+1) }:=by
   unfold Jp;rw [if_pos (by show SetTable.runEnd mask q.1 - q.1 - a > 0;omega)]
   rfl
  rw [e,show a+(k+1)=a+1+k by omega];exact MN k (a+1) (by omega) fun x h1 h2=>ho x (by omega) (by omega)
theorem M9 {occ:Nat->Prop}{mask:Nat}{q:Nat × Nat}:∀ (k a:Nat),a+k=SetTable.runEnd mask q.1 - q.1->(∀ x,a<=x->x<=a+k->occ (q.1+x))->∀ {n j:Nat},Rch occ mask n (hdP mask (SetTable.leap mask q.1 q.2)) j ->
  Rch occ mask (n+k+1) { hdP mask q with j:=q.1+a,more:=SetTable.runEnd mask q.1 - q.1 - a } j
 | 0,a,hk,ho,n,j,R=>by
  refine .step (ho a (qzA _) (by omega)) ?_
  have e:Jp mask { hdP mask q with j:=q.1+a,more:=SetTable.runEnd mask q.1 - q.1 - a }=hdP mask (SetTable.leap mask q.1 q.2):=by
   unfold Jp;rw [if_neg (by show ¬ SetTable.runEnd mask q.1 - q.1 - a > 0;omega)]
   rfl
  rw [e];exact R
 | k+1,a,hk,ho,n,j,R=>by
  have e:Jp mask { hdP mask q with j:=q.1+a,more:=SetTable.runEnd mask q.1 - q.1 - a } = { hdP mask q with j:=q.1+(a+1),more:=SetTable.runEnd mask q.1 - q.1 - (a+1) }:=by
   unfold Jp;rw [if_pos (by show SetTable.runEnd mask q.1 - q.1 - a > 0;omega)]
   rfl
  refine .step (ho a (qzA _) (by omega)) ?_;rw [e];exact M9 k (a+1) (by omega) (fun x h1 h2=>ho x (by omega) (by omega)) R
theorem hd0 (mask:Nat)(q:Nat × Nat):({ hdP mask q with j:=q.1+0,more:=SetTable.runEnd mask q.1 - q.1 - 0 }:SetTable.Probe)=hdP mask q:=rfl
theorem Lu (mask i:Nat):i<=SetTable.runEnd mask i:=by unfold SetTable.runEnd;split<;>omega
theorem free_rch {mask:Nat}{ow:Array (Option Nat)}:∀ (fuel i p j:Nat),SetTable.layClean.free mask ow fuel i p=some j->∃ n,n<10 * fuel/\Rch (IP ow) mask n (hdP mask (i,p)) j:=by
 intro fuel
 induction fuel with
 | zero=>intro i p j e;cases e
 | succ fuel ih =>
  intro i p j e;have hr:=run_le mask i;have hg:=Lu mask i;unfold SetTable.layClean.free at e
  cases hf:(List.range (SetTable.runEnd mask i+1 - i)).find? fun k=>(ow.getD (i+k) (some 0)).isNone with
  | some k =>
   rw [hf] at e;cases e;have hk:=qrA.mp (List.mem_of_find?_eq_some hf)
   have hb:∀ x,x<k->IP ow (i+x):=fun x hx=>by
    obtain ⟨_,as,bs,e1,e2⟩:=List.find?_eq_some_iff_append.mp hf
    have hx':x∈as:=by
     have hl:as.length=k:=by
      have h3:(List.range (SetTable.runEnd mask i+1 - i))[as.length]? = some k:=by
       rw [e1,qvA (qzA _),Nat.sub_self]
       rfl
      obtain ⟨z1,z2⟩:=qtA.mp h3
      simpa using z2
     have h2:(List.range (SetTable.runEnd mask i+1 - i))[x]? = as[x]?:=by rw [e1,List.getElem?_append_left (by omega)]
     rw [List.getElem?_range (by omega)] at h2;exact qsA h2.symm
    exact Bool.not_eq_true' _ |>.mp (e2 x hx')
   have R:=MN (occ:=IP ow) (mask:=mask) (q:=(i,p)) k 0 (by show 0+k<=SetTable.runEnd mask i - i;omega) fun x _ hx=>hb x (by omega);rw [hd0,Nat.zero_add] at R;exact ⟨k,by omega,R⟩
  | none =>
   rw [hf] at e;dsimp only at e;obtain ⟨n,hn,R⟩:=ih _ _ j e
   have ha:∀ x,x<=SetTable.runEnd mask i - i->IP ow (i+x):=fun x hx=>by
    exact Bool.eq_false_iff.mpr (List.find?_eq_none.mp hf x (qrA.mpr (by omega)))
   have R2:=M9 (occ:=IP ow) (mask:=mask) (q:=(i,p)) (SetTable.runEnd mask i - i) 0 (by show 0+_=SetTable.runEnd mask i - i;omega) (fun x _ hx=>ha x (by omega)) R;rw [hd0] at R2;exact ⟨_,by omega,R2⟩
def PB (mask:Nat)(p:SetTable.Probe):Prop:=p.j+p.more<=mask
theorem end_le {mask i:Nat}(h:i<=mask):SetTable.runEnd mask i<=mask:=by unfold SetTable.runEnd;split<;>omega
theorem pb_hd {mask:Nat}{q:Nat × Nat}(h:q.1<=mask):PB mask (hdP mask q):=by
 have:=end_le h;have:=Lu mask q.1;show q.1+(SetTable.runEnd mask q.1 - q.1)<=mask;omega
theorem pb_adv {mask:Nat}{p:SetTable.Probe}(h:PB mask p):PB mask (Jp mask p):=by
 unfold Jp;unfold PB at h ⊢;split
 ·show p.j+1+(p.more - 1)<=mask;omega
 ·have hl:(SetTable.leap mask p.i p.perturb).1<=mask:=Nat.lt_succ_iff.mp (Nat.mod_lt _ (Nat.succ_pos _));have:=end_le hl;have:=Lu mask (SetTable.leap mask p.i p.perturb).1;show (SetTable.leap mask p.i p.perturb).1+(SetTable.runEnd mask (SetTable.leap mask p.i p.perturb).1 - (SetTable.leap mask p.i p.perturb).1)<=mask;omega
theorem Rch.bound {occ:Nat->Prop}{mask n:Nat}{p:SetTable.Probe}{j:Nat}(h:Rch occ mask n p j)(hb:PB mask p):Rch (fun x=>occ x/\x<=mask) mask n p j:=by
 induction h with
 | here p=>exact .here p
 | @step n p j o _ ih=>exact .step ⟨o,by unfold PB at hb;omega⟩ (ih (pb_adv hb))
theorem pb_start (mask:Nat)(h:Int):PB mask (startM mask h):=pb_hd (Nat.lt_succ_iff.mp (Nat.mod_lt _ (Nat.succ_pos _)))
def Fnd (occ:Nat->Prop)(mask:Nat)(h:Int)(j:Nat):Prop:=∃ n,n<10 * SetTable.turns mask/\Rch occ mask n (startM mask h) j
theorem Fnd.mono {occ occ':Nat->Prop}{mask:Nat}{h:Int}{j:Nat}(f:Fnd occ mask h j)(k:∀ x,x<=mask->occ x->occ' x):Fnd occ' mask h j:=by
 obtain ⟨n,hn,R⟩:=f;exact ⟨n,hn,(R.bound (pb_start mask h)).mono fun x hx=>k x hx.2 hx.1⟩
def LayP (mask:Nat)(H:List Int)(ow:Array (Option Nat)):Prop:=∀ j k,ow[j]? = some (some k)->∃ h,H[k]? = some h/\Fnd (IP ow) mask h j
theorem Mi {ow:Array (Option Nat)}{j k x:Nat}(h:IP ow x):IP (ow.setIfInBounds j (some k)) x:=by
 unfold IP at *;simp only [Array.getD_eq_getD_getElem?] at *;rw [Array.getElem?_setIfInBounds];split
 ·split<;>rfl
 ·exact h
theorem lay_path {mask:Nat}{H:List Int}:∀ (hs:List Int) (ow:Array (Option Nat)) (n:Nat) (z:Array (Option Nat) × Nat),H.drop n=hs->LayP mask H ow ->
  (hs.foldl (init:=some (ow,n)) fun acc h=>do
   let (owner,k) <- acc
   let j <- SetTable.layClean.free mask owner (SetTable.turns mask) (SetTable.bits h % (mask+1)) (SetTable.bits h)
   pure (owner.setIfInBounds j (some k),k+1))=some z->LayP mask H z.1:=by
 intro hs
 induction hs with
 | nil=>intro ow n z _ L e;cases e;exact L
 | cons h hs ih =>
  intro ow n z hd L e;rw [qwB] at e
  have hn:H[n]? = some h:=by
   have:=congrArg (fun l=>l[0]?) hd
   simpa using this
  cases hf:SetTable.layClean.free mask ow (SetTable.turns mask) (SetTable.bits h % (mask+1)) (SetTable.bits h) with
  | none =>
   exfalso;simp only [Option.bind_eq_bind,Option.bind_some,hf,Option.bind_none] at e;clear ih hd L hn
   induction hs with
   | nil=>cases e
   | cons a l ih=>rw [qwB] at e;exact ih e
  | some j =>
   simp only [Option.bind_eq_bind,Option.bind_some,hf,Option.pure_def] at e;refine ih _ (n+1) z ?_ (fun j' k' hj=>?_) e
   ·rw [<- List.drop_drop,hd]
    rfl
   ·rw [Array.getElem?_setIfInBounds] at hj;split at hj
    ·rename_i q;subst q;split at hj
     ·cases hj;obtain ⟨m,hm,R⟩:=free_rch _ _ _ _ hf;exact ⟨h,hn,m,hm,R.mono fun x hx=>Mi hx⟩
     ·cases hj
    ·obtain ⟨h',e1,f⟩:=L j' k' hj;exact ⟨h',e1,f.mono fun x _ hx=>Mi hx⟩
structure TbJ (b:SetTable × Array Int):Prop where
 i:TbI b
 r:Ris b.1.place
 p:∀ (k j:Nat) (h:Int),b.1.place[k]? = some j->b.2[k]? = some h->Fnd (·∈b.1.place.toList) b.1.mask h j
theorem TbJ.found {b:SetTable × Array Int}(T:TbJ b){h:Int}(hm:h∈b.2.toList):∃ j i nx,b.1.probe (fun i=>(b.2[i]?).getD 0) h (b.1.probeStart h)=some (.candidate j i nx)/\b.2[i]? = some h:=by
 obtain ⟨k,hk,e⟩:=List.getElem_of_mem hm;rw [qqB] at hk;have e:b.2[k]=h:=by simpa using e
 have e2:b.2[k]? = some h:=by rw [Array.getElem?_eq_getElem hk,e]
 have hk2:k<b.1.place.size:=by rw [T.i.sz];exact hk
 obtain ⟨n,hn,R⟩:=T.p k _ h (Array.getElem?_eq_getElem hk2) e2;obtain ⟨j,i,nx,q1,q2,q3⟩:=go_cand (f:=fun i=>(b.2[i]?).getD 0) (h:=h) ⟨T.r,T.i.rt⟩ R ⟨k,Array.getElem?_eq_getElem hk2,by show (b.2[k]?).getD 0=h;rw [e2];rfl⟩ (10 * SetTable.turns b.1.mask) hn;refine ⟨j,i,nx,q1,?_⟩;rw [T.i.sz] at q3;rw [Array.getElem?_eq_getElem q3] at q2 ⊢;exact congrArg some q2
theorem Fj {α:Type}{xs:Array α}{p:Nat}{x y:α}{i:Nat}(hp:p<=xs.size)(h:(SetTable.insertAt xs p x)[i]? = some y):(i<p/\xs[i]? = some y)\/(i=p/\x=y)\/(p<i/\xs[i - 1]? = some y):=by
 have e:(SetTable.insertAt xs p x).toList=xs.toList.take p++x::xs.toList.drop p:=by
  unfold SetTable.insertAt;simp [Array.toList_extract]
  try exact List.take_of_length_le (by rw [List.length_drop,qqB];omega)
 rw [<- Array.getElem?_toList,e] at h;have hl:(xs.toList.take p).length=p:=by rw [qjA,qqB];omega
 rcases Nat.lt_trichotomy i p with q|q|q
 ·rw [List.getElem?_append_left (by omega),List.getElem?_take_of_lt q,Array.getElem?_toList] at h;exact .inl ⟨q,h⟩
 ·subst q;rw [qvA (by omega),hl,Nat.sub_self] at h;exact .inr (.inl ⟨rfl,qdB h⟩)
 ·rw [qvA (by omega),hl,show i - p=(i - p - 1)+1 by omega,List.getElem?_cons_succ,List.getElem?_drop,show p+(i - p - 1)=i - 1 by omega,Array.getElem?_toList] at h;exact .inr (.inr ⟨q,h⟩)
theorem Jq {α:Type}{xs:Array α}{p:Nat}{x y:α}(h:y=x\/y∈xs.toList):y∈(SetTable.insertAt xs p x).toList:=by
 have e:(SetTable.insertAt xs p x).toList=xs.toList.take p++x::xs.toList.drop p:=by
  unfold SetTable.insertAt;simp [Array.toList_extract]
  try exact List.take_of_length_le (by rw [List.length_drop,qqB];omega)
 rw [e];rcases h with rfl|h
 ·exact quB _ qpA
 ·rw [<- List.take_append_drop p xs.toList] at h;rcases qkA.mp h with h|h
  ·exact List.mem_append_left _ h
  ·exact quB _ (qqA _ h)
theorem Mn {mask finger moves:Nat}{led plain:Bool}{H1:Array Int}{t2:SetTable}{od:Array Nat}(e:SetTable.laid mask finger moves led plain H1=some (t2,od))(hz:(od.filterMap (H1[·]?)).size=H1.size)(hm:H1.size<=mask){kk:Nat}(hk:mask+1=2 ^ kk) :
  ∀ (k j:Nat) (h:Int),t2.place[k]? = some j->(od.filterMap (H1[·]?))[k]? = some h->Fnd (·∈t2.place.toList) mask h j:=by
 unfold SetTable.laid at e;obtain ⟨ow,ho,e⟩:=qaA.mp e;cases e;obtain ⟨ow2,ho2,LT⟩:=lay_ok hk H1 hm;rw [ho] at ho2;cases ho2
 have hL:LayP mask H1.toList ow:=by
  unfold SetTable.layClean at ho;obtain ⟨z,hz2,e2⟩:=qcB.mp ho;subst e2;rw [<- Array.foldl_toList] at hz2;refine lay_path H1.toList (Array.replicate (mask+1) none) 0 z (List.drop_zero ..) (fun j k hj=>?_) hz2;rw [Array.getElem?_replicate] at hj;split at hj<;>cases hj
 generalize hlv:(List.range (mask+1)).filterMap (fun j=>(ow.getD j none).map (j,·))=live at *
 have hlive:∀ q∈live,ow[q.1]? = some (some q.2):=fun q hq=>by
  rw [<- hlv] at hq;obtain ⟨j,hj,e⟩:=List.mem_filterMap.mp hq;obtain ⟨k,hk,e⟩:=qcB.mp e;subst e;rw [Array.getD_eq_getD_getElem?] at hk
  cases h:ow[j]? with
  | none=>rw [h] at hk;cases hk
  | some v=>rw [h] at hk;have hk:v=some k:=hk;rw [hk]
 have hfm:((live.map (·.2)).toArray.filterMap (H1[·]?)).toList=live.map fun q=>(H1[q.2]?).getD 0:=by
  rw [Array.toList_filterMap];show (live.map (·.2)).filterMap _=_;rw [List.filterMap_map]
  have:∀ l:List (Nat × Nat),(∀ q∈l,ow[q.1]? = some (some q.2))->l.filterMap ((H1[·]?)∘(·.2))=l.map fun q=>(H1[q.2]?).getD 0:=by
   intro l
   induction l with
   | nil=>intro _;rfl
   | cons q l ih =>
    intro hq;obtain ⟨h,e1,_⟩:=hL q.1 q.2 (hq q qpA);rw [Array.getElem?_toList] at e1;rw [List.filterMap_cons,qxA,<- ih fun x hx=>hq x (qqA _ hx)];rw [show ((fun x=>H1[x]?)∘fun x=>x.snd) q=some h from e1,e1]
    rfl
  exact this live hlive
 intro k j h hj hh;rw [<- Array.getElem?_toList,hfm,qwA] at hh;obtain ⟨q,hq,e2⟩:=qcB.mp hh;have hj:(live.map (·.1))[k]? = some j:=by simpa using hj
 rw [qwA,hq] at hj;cases hj;have hqm:=qsA hq;obtain ⟨h',e1,f⟩:=hL q.1 q.2 (hlive q hqm);rw [Array.getElem?_toList] at e1;rw [e1] at e2;have e2:h'=h:=e2;subst e2;refine f.mono fun x hx ho=>?_;show x∈live.map (·.1);have hxs:x<ow.size:=by rw [LT.size];omega
 unfold IP at ho;rw [Array.getD_eq_getD_getElem?,Array.getElem?_eq_getElem hxs] at ho
 cases hv:ow[x] with
 | none=>rw [hv] at ho;cases ho
 | some k2 =>
  refine qnA.mpr ⟨(x,k2),?_,rfl⟩;rw [<- hlv];refine List.mem_filterMap.mpr ⟨x,qrA.mpr (by omega),?_⟩;rw [Array.getD_eq_getD_getElem?,Array.getElem?_eq_getElem hxs,hv]
  rfl
theorem tbAdd_J {b c:SetTable × Array Int}{h:Int}(T:TbJ b)(hn:h ∉ b.2.toList)(hz:b.2.size<1000)(e:Iv b h=some c):TbJ c/\c.2.size=b.2.size+1/\∀ y,y∈c.2.toList ↔ y=h\/y∈b.2.toList:=by
 obtain ⟨c',e',Ic,zc,mc⟩:=L4 T.i hn hz;rw [e] at e';cases e';obtain ⟨t,hs⟩:=b;obtain ⟨I,R,PP⟩:=T;dsimp only at *;unfold Iv at e;dsimp only at e;split at e
 case isFalse=>cases e
 split at e
 case h_2=>cases e
 rename_i j hp;obtain ⟨n,hn1,Rn⟩:=go_empty (t:=t) (f:=fun i=>(hs[i]?).getD 0) (h:=h) I.rt (10 * SetTable.turns t.mask) (t.probeStart h) j hp;have hne:=(Ku (t:=t) I.rt (fun i=>(hs[i]?).getD 0) h (10 * SetTable.turns t.mask) (t.probeStart h) j none rfl hp).2;have hpl:(t.put j).2<=t.place.size:=Kg _ _;have hpl2:(t.put j).2<=hs.size:=by rw [<- I.sz];exact hpl
 have e1:(t.put j).1.place=SetTable.insertAt t.place (t.put j).2 j:=rfl
 have P1:∀ (k x:Nat) (y:Int),(t.put j).1.place[k]? = some x->(SetTable.insertAt hs (t.put j).2 h)[k]? = some y->Fnd (·∈(t.put j).1.place.toList) t.mask y x:=fun k x y hx hy=>by
  rw [e1] at hx;have up:∀ z,z<=t.mask->z∈t.place.toList->z∈(t.put j).1.place.toList:=fun z _ hz=>by rw [e1];exact Jq (.inr hz)
  rcases Fj hpl hx with ⟨q,hx⟩ | ⟨q,hx⟩ | ⟨q,hx⟩
  ·rcases Fj hpl2 hy with ⟨_,hy⟩ | ⟨q2,_⟩ | ⟨q2,_⟩
   ·exact (PP k x y hx hy).mono up
   ·omega
   ·omega
  ·rcases Fj hpl2 hy with ⟨q2,_⟩ | ⟨_,hy⟩ | ⟨q2,_⟩
   ·omega
   ·subst hx hy;exact Fnd.mono ⟨n,hn1,Rn⟩ up
   ·omega
  ·rcases Fj hpl2 hy with ⟨q2,_⟩ | ⟨q2,_⟩ | ⟨_,hy⟩
   ·omega
   ·omega
   ·exact (PP (k - 1) x y hx hy).mono up
 have R1:Ris (t.put j).1.place:=IF R hne;split at e
 case isFalse=>cases e
 rename_i hf;split at e
 ·rename_i tf;split at e
  case h_2=>cases e
  rename_i t2 od hrl;split at e
  case isFalse=>cases e
  rename_i h3;cases e;obtain ⟨z1,z2,z3⟩:=h3;obtain ⟨q1,q2,q3,q4⟩:=Jb hrl;obtain ⟨kk,hk,_⟩:=Ic.pw;have hmk:t2.mask=SetTable.sizeAbove (SetTable.grown (hs.size+1)) - 1:=q4;have few:=Ic.few;dsimp only at hk few;have hH:(SetTable.insertAt hs (t.put j).2 h).size<=t2.mask:=by rw [<- z1];omega
  refine ⟨⟨Ic,q1.ris,?_⟩,zc,fun y=>⟨mc y,fun hy=>?_⟩⟩
  ·intro k x y hx hy;have:=Mn hrl z1 (by rw [<- hmk];exact hH) (kk:=kk) (by rw [<- hmk];exact hk) k x y hx hy;show Fnd _ t2.mask y x;rw [hmk];exact this
  ·obtain ⟨_,od2,w1,w2,w3⟩:=Mc (mask:=SetTable.sizeAbove (SetTable.grown (hs.size+1)) - 1) (finger:=(t.put j).1.finger) (moves:=(t.put j).1.movedTo (SetTable.sizeAbove (SetTable.grown (hs.size+1)) - 1)) (led:=(t.put j).1.led) (plain:=(t.put j).1.plain) (by rw [<- hmk];exact hk) (SetTable.insertAt hs (t.put j).2 h) (by rw [<- hmk];exact hH);have w1':=w1.symm.trans hrl;cases w1'
   have r1:(od.filterMap ((SetTable.insertAt hs (t.put j).2 h)[·]?)).toList.Perm (SetTable.insertAt hs (t.put j).2 h).toList:=by
    rw [Array.toList_filterMap];exact (w2.filterMap _).trans (by rw [filterMap_getElem?_range])
   exact r1.mem_iff.mpr (Jq hy)
 ·cases e;exact ⟨⟨Ic,R1,P1⟩,zc,fun y=>⟨mc y,fun hy=>Jq hy⟩⟩
def SetE (h:Heap)(a:Addr)(b:SetTable × Array Int)(l:List (Int × Value)):Prop :=
 ∃ o es ep,h.get? a=some o/\o.ExactSet/\o.data = .set es ep b.1/\es.map (·.1)=b.2/\b.1.fits es.size=true/\es.toList=l
theorem SetE.q {h:Heap}{a:Addr}{b:SetTable × Array Int}{l:List (Int × Value)}(x:SetE h a b l):SetQ h a b:=by
 obtain ⟨o,es,ep,g,e,d,m,f,_⟩:=x;exact ⟨o,es,ep,g,e,d,m,f⟩
theorem SetE.at {h h':Heap}{a:Addr}{b:SetTable × Array Int}{l:List (Int × Value)}(x:SetE h a b l)(k:∀ o,h.get? a=some o->h'.get? a=some o):SetE h' a b l:=by
 obtain ⟨o,es,ep,g,S⟩:=x;exact ⟨o,es,ep,k _ g,S⟩
section
variable {prog:Program}{w:World}{A:Around}{E:Value->Shared->Prop}{s:Shared}
theorem addE {a c:Addr}{x y:Int}{b b':SetTable × Array Int}{hh:Int}{Q:Bool->Shared->Prop}(k:IsP s.heap c x y){es0:List (Int × Value)}(S:SetE s.heap a b es0)(e:Iv b hh=some b')
  (h:∀ h',Heap.SameBut a s.heap h'->(∃ es',SetE h' a b' es'/\∀ q∈es',q=(hh,Value.ref c)\/q∈es0)->∀ bb,Q bb { s with heap:=h' }):wpAny (model prog w) A (setAddHashed a (.ref c) hh) Q E s:=by
 obtain ⟨t,hs⟩:=b;obtain ⟨o,es,ep,g,ex,d,m,f,rfl⟩:=S;dsimp only at d m f;subst m;unfold Iv at e;dsimp only at e;split at e
 case isFalse=>cases e
 rename_i hc;obtain ⟨hz,hg⟩:=hc;rw [Array.size_map] at hz;split at e
 case h_2=>cases e
 rename_i j hp
 have hp':t.probe (fun i=>((es[i]?).map (·.1)).getD 0) hh (t.probeStart hh)=some (.empty j none):=by
  rw [<- hp]
  congr 1
  funext i
  rw [Array.getElem?_map]
 unfold setAddHashed setAddHashedIn;refine qdA (qbA (qvB g d f ?_));dsimp only;rw [show byScan (.ref c) es=false from rfl];simp only [Bool.false_eq_true,if_false];unfold setSearch setSearchFrom;refine qbA (qbA (qvB g d f ?_));dsimp only;rw [hg];simp only [Bool.false_eq_true,if_false];generalize hr:SetTable.probe t _ _ _=r;have er:r=some (.empty j none):=hr.symm.trans hp';subst er;dsimp only;refine qcA ?_;dsimp only;refine qbA (qvB g d f ?_);dsimp only;rw [<- JO (·.1) es (t.put j).2 (hh,Value.ref c)] at e;generalize hes:SetTable.insertAt es (t.put j).2 (hh,Value.ref c)=es1 at e ⊢;split at e
 case isFalse=>cases e
 rename_i hf;obtain ⟨hf1,hf2⟩:=hf;rw [Array.size_map] at hf1 hf2;rw [Array.size_map] at hf2;have hpl:(t.put j).1.plain=t.plain:=rfl;have few:es1.size<=sizeLine:=by rw [qhB];omega
 have go:wpAny (model prog w) A (do
   storeSet a es1 (t.put j).1
   if (!false && (t.put j).1.tooFull)=true then do
     setRelay a (SetTable.grown (es.size+1))
     pure true
    else pure true) Q E s:=by
  refine qbA (wpAny_storeSet_of g d ?_ few);have g1:=Ex (es':=es1) (t':=(t.put j).1) g d;have b1:=Heap.SameBut.update s.heap a (Obj.putSet es1 (t.put j).1);split at e
  ·rename_i tf;rw [if_pos (by rw [tf];rfl)];rw [Array.size_map] at e;split at e
   case h_2=>cases e
   rename_i t2 od hrl;split at e
   case isFalse=>cases e
   rename_i h3;cases e;rw [<- filterMap_map,Array.size_map,Array.size_map] at h3;obtain ⟨z1,z2,z3⟩:=h3;unfold setRelay;refine qbA (qbA (qvB g1 rfl hf1 ?_));dsimp only;rw [if_neg (Nat.not_lt.mpr (qaB z3 (by rw [qhB];decide)))];rw [hrl];refine qbA ?_;show wpAny _ _ (if ((od.filterMap (es1[·]?)).size != es1.size)=true then unsupported "internal:set-table-lost-an-element" >>= fun _=>pure (od.filterMap (es1[·]?),t2) else pure (od.filterMap (es1[·]?),t2)) _ _ _;rw [if_neg (by rw [z1];simp)];refine qcA ?_;dsimp only;refine wpAny_storeSet_of g1 rfl ?_ (by rw [z1];exact few);have g2:=Ex (s:={ s with heap:=s.heap.update a (Obj.putSet es1 (t.put j).1) }) (es':=od.filterMap (es1[·]?)) (t':=t2) g1 rfl
   exact qcA (h _ (b1.trans (Heap.SameBut.update _ a _)) ⟨_,⟨_,_,_,g2,ex,rfl,filterMap_map _ _ _,z2,rfl⟩,fun q hq=>by
    rw [Array.toList_filterMap] at hq;obtain ⟨i,_,hi⟩:=List.mem_filterMap.mp hq;have hq1:q∈es1.toList:=qsA (by rw [Array.getElem?_toList];exact hi);rw [<- hes] at hq1
    exact HC hq1⟩ true)
  ·rename_i tf;rw [if_neg (by rw [Bool.not_eq_true] at tf;rw [tf];exact Bool.noConfusion)];cases e
   exact qcA (h _ b1 ⟨_,⟨_,_,_,g1,ex,rfl,rfl,hf1,rfl⟩,fun q hq=>by
    rw [<- hes] at hq
    exact HC hq⟩ true)
 split
 ·refine qbA (hbv k ?_);simp only [if_true];exact go
 ·refine qbA (qcA ?_);simp only [if_true];exact go
theorem ofA_no {a:Addr}{x y:Int}{Q:Bool->Shared->Prop}(k:IsP s.heap a x y)(h:Q false s):wpAny (model prog w) A (ofAClassStatement 8 (.ref a)) Q E s:=by
 have hT:=(k.key (prog:=prog) (w:=w)).typeIs;obtain ⟨o,n,t,u,g,c,d⟩:=k;unfold ofAClassStatement;refine qbA (wpAny_typeOf hT ?_);dsimp only;refine qbA (qcA ?_);simp only [Bool.not_true,Bool.false_eq_true,if_false];refine qbA (wpAny_seqItems g d ?_);dsimp only;refine qbA ?_;rw [<- Array.forIn_toList];show wpAny _ _ (forIn [Value.int x t,Value.int y u] _ _) _ _ _;simp only [List.forIn_cons,List.forIn_nil,ofAClassStatement,pure_bind,Bool.false_eq_true,if_false];exact qcA (qcA h)
theorem seen_no {c:Addr}{x y:Int}(k:IsP s.heap c x y):∀ (ys:List Value),(∀ v∈ys,∃ c' x' y',v = .ref c'/\IsP s.heap c' x' y')->∀ {Q:Bool->Shared->Prop},Q false s->wpAny (model prog w) A (searchCouldBeSeen (.ref c) ys) Q E s:=by
 intro ys hy Q h;unfold searchCouldBeSeen;refine qbA ?_;refine wpAny_forIn_list _ (fun rest r s'=>r.1=none/\s'=s/\∀ v∈rest,∃ c' x' y',v = .ref c'/\IsP s.heap c' x' y') _ ?_ ?_ _ _ ⟨rfl,rfl,hy⟩
 ·rintro v rest r s' ⟨hr,rfl,hall⟩;obtain ⟨c',x',y',rfl,k'⟩:=hall v qpA;have hrest:∀ v∈rest,∃ c' x' y',v=Value.ref c'/\IsP s'.heap c' x' y':=fun u hu=>hall u (qqA _ hu);dsimp only;split
  ·exact qcA ⟨rfl,rfl,hrest⟩
  ·refine qbA (wpAny_eqIsQuiet_tuple (knd:=BS prog w) k.key ?_);simp only [Bool.not_true,Bool.false_eq_true,if_false];refine qbA (wpAny_eqIsQuiet_tuple (knd:=BS prog w) k'.key ?_);simp only [Bool.not_true,Bool.false_eq_true,if_false];refine qbA (ofA_no k ?_);simp only [Bool.false_eq_true,if_false];refine qbA (ofA_no k' ?_);simp only [Bool.false_eq_true,if_false];exact qcA ⟨rfl,rfl,hrest⟩
 ·rintro ⟨r1,r2⟩ s' ⟨hr,rfl,_⟩;simp only at hr;subst hr;exact qcA h
theorem addD {a c:Addr}{x y:Int}{b:SetTable × Array Int}{hh:Int}{l:List (Int × Value)}{Q:Bool->Shared->Prop}(hu:A.units<cLine)(k:IsP s.heap c x y)(S:SetE s.heap a b l)(hg:b.1.gaveWay=false)
  (hl:∀ q∈l,∃ c' x' y',q.2 = .ref c'/\IsP s.heap c' x' y'/\(q.1=hh->x'=x/\y'=y)) (e:∃ j i nx,b.1.probe (fun i=>(b.2[i]?).getD 0) hh (b.1.probeStart hh)=some (.candidate j i nx)/\b.2[i]? = some hh)
  (h:∀ bb,Q bb s):wpAny (model prog w) A (setAddHashed a (.ref c) hh) Q E s:=by
 obtain ⟨t,hs⟩:=b;obtain ⟨o,es,ep,g,ex,d,m,f,rfl⟩:=S;dsimp only at d m f hg e;subst m;obtain ⟨j,i,nx,hp,hi⟩:=e
 have hp':t.probe (fun i=>((es[i]?).map (·.1)).getD 0) hh (t.probeStart hh)=some (.candidate j i nx):=by
  rw [<- hp]
  congr 1
  funext i
  rw [Array.getElem?_map]
 rw [Array.getElem?_map] at hi;obtain ⟨q,hq,hq1⟩:=qcB.mp hi;obtain ⟨h1,v⟩:=q;have hq1:h1=hh:=hq1;subst hq1;obtain ⟨c',x',y',rfl,k',hxy⟩:=hl _ (qsA (by rw [Array.getElem?_toList];exact hq));obtain ⟨rfl,rfl⟩:=hxy rfl;unfold setAddHashed setAddHashedIn;refine qdA (qbA (qvB g d f ?_));dsimp only;rw [show byScan (.ref c) es=false from rfl];simp only [Bool.false_eq_true,if_false];unfold setSearch setSearchFrom;refine qbA (qbA (qvB g d f ?_));dsimp only;rw [hg];simp only [Bool.false_eq_true,if_false];generalize hr:SetTable.probe t _ _ _=r;have er:r=some (.candidate j i nx):=hr.symm.trans hp';subst er;dsimp only
 have go:wpAny (model prog w) A (do
   let some (_,y):=es[i]?|unsupported "internal:set-entry"
   let equal <- holding [y] (eqBool y (.ref c))
   let (es',_,t') <- setState a
   if (true && equal)=true then return SetFound.there none
   let some sm9:=t'.sameMemory t.moves t.mask|unsupported "set.changed-during-lookup:is-the-new-block-at-the-old-address"
   let still <- match (if sm9 then t'.slot j else .empty) with
    | .live i'=>match es'[i']? with
     | some (_,y')=>do pure (if <- isSame y' y then some i' else none)
     | none=>pure none
    | _=>pure none
   match still with
   | none=>rule "set.search.anew";setSearchFrom a (.ref c) h1 true 99999 none
   | some i'=>if equal then return .there (some i') else setSearchFrom a (.ref c) h1 true 99999 (some nx)) (fun r s'=>r=SetFound.there none/\s'=s) E s:=by
  rw [hq];dsimp only;refine qbA (qdA ?_);refine (tupleKind (BS prog w)).eqBool (x:=[.inl x',.inl y']) (y:=[.inl x',.inl y']) hu k'.key k.key ?_;rw [decide_eq_true rfl];refine qbA (qvB g d f ?_);dsimp only;rw [if_pos (show (true && true)=true from rfl)];exact qcA ⟨rfl,rfl⟩
 have fin:wpAny (model prog w) A (do
   if !t.led then
    if <- searchCouldBeSeen (.ref c) ((es.filter (·.1 == h1)).toList.map (·.2)) then unsupported "set:the-search-would-show-the-table"
   let some (_,y):=es[i]?|unsupported "internal:set-entry"
   let equal <- holding [y] (eqBool y (.ref c))
   let (es',_,t') <- setState a
   if (true && equal)=true then return SetFound.there none
   let some sm9:=t'.sameMemory t.moves t.mask|unsupported "set.changed-during-lookup:is-the-new-block-at-the-old-address"
   let still <- match (if sm9 then t'.slot j else .empty) with
    | .live i'=>match es'[i']? with
     | some (_,y')=>do pure (if <- isSame y' y then some i' else none)
     | none=>pure none
    | _=>pure none
   match still with
   | none=>rule "set.search.anew";setSearchFrom a (.ref c) h1 true 99999 none
   | some i'=>if equal then return .there (some i') else setSearchFrom a (.ref c) h1 true 99999 (some nx)) (fun r s'=>r=SetFound.there none/\s'=s) E s:=by
  cases t.led with
  | true=>exact go
  | false =>
   simp only [Bool.not_false,if_true];refine qbA (seen_no k _ (fun v hv=>?_) ?_)
   ·obtain ⟨q,hq,rfl⟩:=qnA.mp hv;rw [Array.toList_filter] at hq;obtain ⟨c',x',y',e1,e2,_⟩:=hl q (List.mem_filter.mp hq).1;exact ⟨c',x',y',e1,e2⟩
   ·simp only [Bool.false_eq_true,if_false];exact go
 refine wpAny_mono fin (fun r s' hr=>?_) fun _ _ z=>z;obtain ⟨rfl,rfl⟩:=hr;exact qcA (h false)
end
def Eb (ks:List (Int × Int)):List (Int × Int)->List (Int × Int)
 | []=>ks
 | p::ps=>Eb (if p∈ks then ks else ks++[p]) ps
theorem gw_no {b:SetTable × Array Int}(T:TbI b):b.1.gaveWay=false:=by
 obtain ⟨k,hm,hk⟩:=T.pw;obtain ⟨k,rfl⟩:∃ q,k=q+1:=⟨k - 1,by omega⟩;rw [Nat.pow_succ] at hm;unfold SetTable.gaveWay;have:b.1.mask % 2=1:=by omega
 rw [this]
 rfl
structure KS (no:List Addr)(h:Heap)(a:Addr)(b:SetTable × Array Int)(ks:List (Int × Int)):Prop where
 ent:∃ l,SetE h a b l/\∀ q∈l,∃ c p,q=(Ek p.1 p.2,Value.ref c)/\c ∉ no/\IsP h c p.1 p.2/\Sm p
 tab:TbJ b
 mem:∀ y,y∈b.2.toList ↔ ∃ p∈ks,y=Ek p.1 p.2
 size:b.2.size=ks.length
 sm:∀ p∈ks,Sm p
theorem KS.q {no:List Addr}{h:Heap}{a:Addr}{b:SetTable × Array Int}{ks:List (Int × Int)}(x:KS no h a b ks):SetQ h a b:=by
 obtain ⟨l,e,_⟩:=x.ent;exact e.q
theorem KS.at {wr:List Addr}{h h':Heap}{a:Addr}{b:SetTable × Array Int}{ks:List (Int × Int)}(x:KS (a::wr) h a b ks)(nw:a ∉ wr)(k:∀ o,h.get? a=some o->h'.get? a=some o)(k2:∀ c o,c ∉ a::wr->h.get? c=some o->h'.get? c=some o):KS (a::wr) h' a b ks:=by
 obtain ⟨l,e,f⟩:=x.ent
 exact ⟨⟨l,e.at k,fun q hq=>by
  obtain ⟨c,p,e1,e2,e3,e4⟩:=f q hq
  exact ⟨c,p,e1,e2,e3.at fun o=>k2 c o e2,e4⟩⟩,x.tab,x.mem,x.size,x.sm⟩
theorem freshK {w:World}{h:Heap}{a:Addr}{no:List Addr}(g:h.get? a=some (B6 w)):KS no h a (tb0 (!byT w)) [] :=
 ⟨⟨[],⟨_,#[],0,g,⟨rfl,rfl,rfl⟩,rfl,Array.map_empty,rfl,rfl⟩,fun q hq=>nomatch hq⟩,⟨⟨rfl,⟨3,rfl,by decide⟩,rfl,by show 0 * 5<7 * 3;decide⟩,fun i j _ hj=>absurd hj (Nat.not_lt_zero _),fun k j h hj=>by simp [tb0,SetTable.fresh] at hj⟩,fun y=>by simp [tb0],rfl,fun p hp=>nomatch hp⟩
section
variable {prog:Program}{w:World}{A:Around}{E:Value->Shared->Prop}{s:Shared}{no:List Addr}{a:Addr}{b:SetTable × Array Int}{ks:List (Int × Int)}
theorem KS.addD {c:Addr}{p:Int × Int}{Q:Bool->Shared->Prop}(x:KS no s.heap a b ks)(hu:A.units<cLine)(sp:Sm p)(k:IsP s.heap c p.1 p.2)(hk:p∈ks)(h:∀ bb,Q bb s):wpAny (model prog w) A (setAddHashed a (.ref c) (Ek p.1 p.2)) Q E s:=by
 obtain ⟨l,e,f⟩:=x.ent;refine L2.addD hu k e (gw_no x.tab.i) (fun q hq=>?_) (x.tab.found ((x.mem _).mpr ⟨p,hk,rfl⟩)) h;obtain ⟨c',p',rfl,_,e3,e4⟩:=f q hq;refine ⟨c',p'.1,p'.2,rfl,e3,fun e5=>?_⟩;have:=Ix e4 sp e5;rw [this];exact ⟨rfl,rfl⟩
theorem KS.addN {wr:List Addr}{c:Addr}{p:Int × Int}{Q:Bool->Shared->Prop}(x:KS (a::wr) s.heap a b ks)(sp:Sm p)(k:IsP s.heap c p.1 p.2)(nc:c ∉ a::wr)(hk:p ∉ ks)(hz:ks.length<1000)
  (h:∀ h',Heap.SameBut a s.heap h'->∀ b',KS (a::wr) h' a b' (ks++[p])->∀ bb,Q bb { s with heap:=h' }):wpAny (model prog w) A (setAddHashed a (.ref c) (Ek p.1 p.2)) Q E s:=by
 obtain ⟨l,e,f⟩:=x.ent
 have hn:Ek p.1 p.2 ∉ b.2.toList:=fun q=>by
  obtain ⟨p',hp',e5⟩:=(x.mem _).mp q;rw [Ix sp (x.sm p' hp') e5] at hk;exact hk hp'
 obtain ⟨b',eb,_⟩:=L4 x.tab.i hn (by rw [x.size];exact hz);obtain ⟨T',zc,mc⟩:=tbAdd_J x.tab hn (by rw [x.size];exact hz) eb;refine addE k e eb fun h' hsb ⟨es',e',sub⟩ bb=>h h' hsb b' ⟨⟨es',e',fun q hq=>?_⟩,T',fun y=>?_,by rw [zc,x.size,qfA];rfl,fun q hq=>?_⟩ bb
 ·have lift:∀ c o,c ∉ a::wr->s.heap.get? c=some o->h'.get? c=some o:=fun c o nb e=>(hsb.2 c (fun h:c=a=>nb (by rw [h];exact qpA))).trans e;rcases sub q hq with rfl|hq
  ·exact ⟨c,p,rfl,nc,k.at fun o=>lift c o nc,sp⟩
  ·obtain ⟨c',p',e1,e2,e3,e4⟩:=f q hq;exact ⟨c',p',e1,e2,e3.at fun o=>lift c' o e2,e4⟩
 ·rw [mc,x.mem];constructor
  ·rintro (rfl | ⟨p',hp',e⟩)
   ·exact ⟨p,quB _ qpA,rfl⟩
   ·exact ⟨p',List.mem_append_left _ hp',e⟩
  ·rintro ⟨p',hp',e⟩;rcases qkA.mp hp' with hp'|hp'
   ·exact .inr ⟨p',hp',e⟩
   ·rw [qoA.mp hp'] at e;exact .inl e
 ·rcases qkA.mp hq with hq|hq
  ·exact x.sm q hq
  ·rw [qoA.mp hq];exact sp
end
section
variable {prog:Program}{w:World}{A:Around}{R:Result->Shared->Prop}{I:Addr}{fp wr:List Addr}{G:Array GenState->Array GenState->Prop}{n:Nat}{P:Nat->Value->Prop}{St:Nat->Shared->Prop}
theorem N6 (W:WalksS prog w A.in1 I fp wr G n P St)(S:Addr)(nS:S ∉ fp)(ps:List (Int × Int))(hn:ps.length=n)(hu:A.units+1<cLine)(hsm:∀ p∈ps,Sm p) :
  ∀ (k i:Nat) (s:Shared) (b:SetTable × Array Int) (ks:List (Int × Int)),n - i=k->i<=n->St i s->KS (S::wr) s.heap S b ks->ks.length+(n - i)<=900->Prs P ps (S::wr) s.heap ->
   (∀ s' b',Moved (S::wr) G s s'->SetQ s'.heap S b'->b'.2.size=(Eb ks (ps.drop i)).length->R (.ok (.ret .none)) s') ->
   codeAny (model prog w) A (.builtin "set.update.loop" ⟨[.ref S,.ref I],[]⟩) R s:=by
 have nW:S ∉ wr:=fun h=>nS (W.sub _ h);have up:∀ b∈wr,b∈S::wr:=fun b hb=>qqA _ hb;intro k
 induction k with
 | zero =>
  intro i s b ks e1 e2 st hS hb hv hR;have ei:i=n:=by omega
  subst ei;refine codeAny_builtin PyProof.Rows.F.entry_set_update_loop ?_;rw [Around.under_plainId PyProof.Rows.F.plain_set_update_loop _];show wpAny _ A.in1 (pyNext (.ref I) >>= _) _ _ s;refine qbA (W.done s _ _ st fun s' hm=>?_);show wpAny _ A.in1 (ret Value.none) _ _ s';refine qcA (hR s' b (hm.mono up) (hS.q.at fun o e=>hm.heap S _ nW e) ?_);rw [List.drop_of_length_le (Nat.le_of_eq hn)];exact hS.size
 | succ k ih =>
  intro i s b ks e1 e2 st hS hb hv hR;have hlt:i<n:=by omega
  refine codeAny_builtin PyProof.Rows.F.entry_set_update_loop ?_;rw [Around.under_plainId PyProof.Rows.F.plain_set_update_loop _];show wpAny _ A.in1 (pyNext (.ref I) >>= _) _ _ s;refine qbA (W.item i s _ _ hlt st fun v s' hP st' hm=>?_);have hv':Prs P ps (S::wr) s'.heap:=hv.at fun a o na e=>hm.heap a o (fun q=>na (up _ q)) e;obtain ⟨c,p,rfl,hp,nc,hi⟩:=hv' i v hP;have hS':KS (S::wr) s'.heap S b ks:=hS.at nW (fun o e=>hm.heap S _ nW e) fun a o na e=>hm.heap a o (fun q=>na (up _ q)) e
  have ed:ps.drop i=p::ps.drop (i+1):=by
   rw [List.drop_eq_getElem_cons (by omega:i<ps.length)];have ep:ps[i]=p:=by rw [quA (by omega)] at hp;exact qdB hp
   rw [ep]
  have sp:Sm p:=hsm p (qsA hp);show wpAny _ A.in1 (holding [Value.ref c] (setAdd S (.ref c)) >>= _) _ _ s';refine qbA (qdA ?_);unfold setAdd;refine qdA (qbA ((tupleKind (BS prog w)).pyHash (k:=[.inl p.1,.inl p.2]) (tupleKind_room_in1 hu) hi.key ?_));by_cases hk:p∈ks
  ·refine KS.addD (prog:=prog) (w:=w) (A:=A.in1) (s:={ s' with toks:=s'.toks+(tupleKind (BS prog w)).draws [Sum.inl p.1,Sum.inl p.2] }) hS' (by show A.units+1<cLine;omega) sp hi hk fun bb=>?_;refine qcA ⟨plainId_quiet PyProof.Rows.F.plain_set_update_loop _,ih (i+1) _ b ks (by omega) hlt (W.frame _ s' _ _ st' (Nat.le_add_right _ _) fun b hb o e=>e) hS' (by omega) hv' fun s'' b'' hm'' hS'' hz=>?_⟩;refine hR s'' b'' (Moved.trans W.gtrans ((hm.mono up).then_heap (Nat.le_add_right _ _) fun b o hb e=>e) hm'') hS'' ?_;rw [ed];show _=(Eb (if p∈ks then ks else ks++[p]) (ps.drop (i+1))).length;rw [if_pos hk];exact hz
  ·refine KS.addN (prog:=prog) (w:=w) (A:=A.in1) (s:={ s' with toks:=s'.toks+(tupleKind (BS prog w)).draws [Sum.inl p.1,Sum.inl p.2] }) hS' sp hi nc hk (by omega) fun h' hsb b2 hS2 bb=>?_;have lift:∀ b o,b ∉ S::wr->s'.heap.get? b=some o->h'.get? b=some o:=fun b o nb e=>(hsb.2 b (fun h:b=S=>nb (by rw [h];exact qpA))).trans e;refine qcA ⟨plainId_quiet PyProof.Rows.F.plain_set_update_loop _,ih (i+1) _ b2 (ks++[p]) (by omega) hlt (W.frame _ s' _ _ st' (Nat.le_add_right _ _) fun b hb o e=>?_) hS2 (by rw [qfA,qhA];omega) (hv'.at lift) fun s'' b'' hm'' hS'' hz=>?_⟩
   ·exact (hsb.2 b (fun h:b=S=>nS (by rw [<- h];exact hb))).trans e
   ·refine hR s'' b'' (Moved.trans W.gtrans ((hm.mono up).then_heap (Nat.le_add_right _ _) fun b o hb e=>lift b o hb e) hm'') hS'' ?_;rw [ed];show _=(Eb (if p∈ks then ks else ks++[p]) (ps.drop (i+1))).length;rw [if_neg hk];exact hz
end
section
variable {prog:Program}{w:World}{A:Around}{E:Value->Shared->Prop}{s:Shared}
theorem NB {x:Value}{T:String}{n:Nat}{P:Nat->Value->Prop}{ps:List (Int × Int)}{Q:Value->Shared->Prop}(hh:A.handled=none)(hx:Src prog w x s.heap n P)
  (tx:∀ s₁:Shared,(∀ b o,s.heap.get? b=some o->s₁.heap.get? b=some o)->s₁.TypeIs x T) (n1:isSubtype (.type T) (.type "set")=pure false) (n2:isSubtype (.type T) (.type "frozenset")=pure false) (n3:(Value.type T == Value.type "dict")=false)
  (hn:ps.length=n) (hv:Prs P ps [] s.heap) (hsm:∀ p∈ps,Sm p) (hz9:ps.length<=900) (hu:A.units+60<cLine)
  (h:∀ (h':Heap) (tk:Nat) (b':SetTable × Array Int),SetQ h' s.heap.objs.size b'->b'.2.size=(Eb [] ps).length->(∀ b o,s.heap.get? b=some o->h'.get? b=some o)->Q (.ref s.heap.objs.size) { s with heap:=h',toks:=tk }) :
  wpAny (model prog w) A (call (.type "set") [x]) Q E s:=by
 obtain ⟨c,tl,hmro⟩:=F.called_set.mro;have hmade:=F.called_set.made;have hsub:=F.called_set.sub;refine wpAny_call (codeAny_of_tree ?_);show wpAny _ _ (callAny (.type "set") _) _ _ _;refine qcA ⟨Code.quiet_builtin _ (by decide +kernel),codeAny_builtin F.entry_type_call ?_⟩;rw [Around.under_plain (weight_type_call_type "set" [x] []) rfl];have h1:=F.called_set.notType;have h2:=F.called_set.canCreate;have hct:=PySem.F.typeCall_set_1 x
 repeat (any_goals (first|assumption|wp_step))
 refine codeAny_mono (Fd x (E:=E) (Q₁:=fun obj s₁=>obj = .ref s.heap.objs.size/\s₁ = { s with heap:=s.heap.push (B6 w) }) ⟨rfl,rfl⟩) fun r s₁ hr=>?_
 cases r with
 | error e=>exact hr
 | ok fl=>cases fl with
  | ret obj =>
   obtain ⟨rfl,rfl⟩:=hr;have gS:(s.heap.push (B6 w)).get? s.heap.objs.size=some (B6 w):=qgB _ rfl;have hT:Shared.TypeIs { s with heap:=s.heap.push (B6 w) } (.ref s.heap.objs.size) "set" := ⟨_,gS,rfl⟩;have hli:=F.called_set.init.lookup;have hbi:=F.called_set.init.bind (.ref s.heap.objs.size)
   repeat (any_goals (first|assumption|wp_step))
   refine codeAny_mono (codeAny_call_builtin (R:=wants (fun r s₂=>r = .none/\∃ h' tk b',s₂ = { s with heap:=h',toks:=tk }/\SetQ h' s.heap.objs.size b'/\b'.2.size=(Eb [] ps).length/\(∀ b o,s.heap.get? b=some o->h'.get? b=some o)) E) F.called_set.init.plain F.entry_set_init (check_set_init_1 hT ?_)) fun r₂ s₂ hr₂=>?_
   ·obtain ⟨hp,g,d,tk0,os⟩:=s;dsimp only at *;have kp:∀ b o,hp.get? b=some o->(hp.push (B6 w)).get? b=some o:=fun b o e=>qfB _ e;have hTx:Shared.TypeIs { heap:=hp.push (B6 w),gens:=g,drawn:=d,toks:=tk0,os:=os } x T:=tx _ kp;unfold Builtin.«set.__init__» noKeywords Builtin.Frozenset.updateFrom;generalize hPI:pyIter=PI;unfold B6 at *
    wp_walk
    subst hPI;obtain ⟨oI,fp,St,hf,hfp,st0,hit,hW⟩:=hx { heap:=hp.push (B6 w),gens:=g,drawn:=d,toks:=tk0,os:=os } kp;refine hit _ _ _ (by simp [hh]) (qbA (wpAny_runValue ?_));have eS:(hp.push (B6 w)).objs.size=hp.objs.size+1:=size_push' _ _
    have nS:hp.objs.size ∉ fp:=fun hm=>by
     rcases hfp _ hm with e|e
     ·rw [eS] at e;exact absurd e (qrB (Nat.lt_succ_self _))
     ·exact qbB _ e
    refine N6 (hW _ (by simp [hh])).toS hp.objs.size nS ps hn (by simp;omega) hsm n 0 _ _ [] rfl (qxB _) st0 (freshK (w:=w) (qfB _ gS)) (by rw [List.length_nil];omega) ?_ fun s' b9 hm hS' hz=>?_
    ·intro i v e;obtain ⟨c,p,e1,e2,_,e4⟩:=hv i v e;have lc:c<hp.objs.size:=by obtain ⟨_,_,_,_,g,_⟩:=e4;exact qeB g
     refine ⟨c,p,e1,e2,fun hm=>?_,e4.at fun o q=>qfB _ (kp _ _ q)⟩;rcases qmA.mp hm with q|q
     ·exact absurd q (qrB lc)
     ·have q:=qoA.mp q;rw [eS] at q;exact absurd q (qrB (Nat.lt_succ_of_lt lc))
    ·obtain ⟨h',g',d',tk',os'⟩:=s';obtain rfl:g'=g:=hm.gens;obtain rfl:d'=d:=hm.drawn;obtain rfl:os'=os:=hm.os;refine qcA ?_;show wpAny _ _ (ret Value.none) _ _ _;refine qcA ⟨rfl,h',tk',b9,rfl,hS',by rw [List.drop_zero] at hz;exact hz,fun b o e=>?_⟩;have lb:b<hp.objs.size:=qeB e;refine hm.heap b o (fun hmem=>?_) (qfB _ (kp b o e));rcases qmA.mp hmem with q|q
     ·exact absurd q (qrB lb)
     ·have q:=qoA.mp q;rw [eS] at q;exact absurd q (qrB (Nat.lt_succ_of_lt lb))
   ·cases r₂ with
    | error e=>exact hr₂
    | ok fl₂=>cases fl₂ with
     | ret r =>
      obtain ⟨rfl,h',tk,b9,rfl,hS',hz,hk'⟩:=hr₂
      repeat (any_goals (first|assumption|wp_step))
      exact h _ _ _ hS' hz hk'
     | _=>exact hr₂.elim
  | _=>exact hr.elim
end
def rSetD (K:FZ9):List V->Hp->VK->Prop:=fun vs H Q=>∃ (l:Addr) (xs:List V) (ps:List (Int × Int)),vs=[.ref l]/\SqL K H l xs/\Paired (PrV K H) xs ps/\(∀ p∈ps,Sm p)/\ps.length<=900/\∀ p b,H p=none->b.2.size=(Eb [] ps).length->Q (.ref p) (upd H p (Kd p b))
theorem Le {X:Cx}{K:FZ9}(hu:X.A.units+60<cLine)(hc:X.calm=true)(hK:X.K=K):CW X (.type "set") (rSetD K):=by
 subst hK;intro pins s σ H vs us Q I r h;obtain ⟨l,xs,ps,rfl,hl,hp,hs,h9,q⟩:=h;obtain ⟨u,rfl,ru⟩:=Dy r;cases ru;obtain ⟨its,rv,pl,_⟩:=I.list hl;have il:=pl.isList;refine NB (ps:=ps) (T := "list") (I.ok.hd hc) (Kq il) (fun s1 k=>(il.at fun o e=>k _ _ e).typeIs) PySem.F.sub_list_set PySem.F.sub_list_frozenset (by decide) ?_ (fun i v e=>prs_of I hp rv i v (by rw [List.getElem?_toArray] at e;exact e)) hs h9 hu fun h' tk b hS hb hk=>?_
 ·rw [qoB,<- rv.length,hp.length]
 ·exact ⟨.ref s.heap.objs.size,_,I.laid' (s':={ s with heap:=h',toks:=tk }) (fun b o e=>hk b o e) (qzA _) (setQO_ok hS) rfl rfl,rfl,q _ _ (I.hok.fresh (qzA _)) hb⟩
theorem Jt:∀ (ps ks:List (Int × Int)),(Eb ks ps).length<=ks.length+ps.length
 | [],ks=>by simp [Eb]
 | p::ps,ks=>by
  unfold Eb;refine qaB (Jt ps _) ?_;split<;>simp<;>omega
instance decSm (p:Int × Int):Decidable (Sm p):=by unfold Sm;infer_instance
def Ht (ps:List (Int × Int)):Option Int:=if ((ps.all fun p=>decide (Sm p)) && decide (ps.length<=900))=true then some ((Eb [] ps).length:Int) else none
def J9:List D->Option (List Int)
 | []=>some []
 | .int i::ds=>(J9 ds).map (i::·)
 | _::_=>none
def LI:List D->Option (List (Int × Int))
 | []=>some []
 | .tup [.int i,.int j]::ds=>(LI ds).map ((i,j)::·)
 | _::_=>none
def Lb (d:D):Option (List Int):=(D0 d).bind J9
def asPrs (d:D):Option (List (Int × Int)):=(D0 d).bind LI
section
variable {K:FZ9}{σ:St}{G:Hp}{ta:TE}
theorem LD {la:Option (List (Int × Int))}(ea:EV K ta σ G la):EV K (tCB rLenQ (At (tCB (rSetD K) (At ta CB)) CB)) σ G (la.bind fun ys=>Ht ys):=by
 clear 7;obtain ⟨a,ha,hc⟩:=qaA.mp hc;obtain ⟨h4,rfl⟩:=BO hc;simp only [qyB,decide_eq_true_eq,List.all_eq_true] at h4;clear 8 ea a ha;obtain ⟨l,xs,rfl,h,z,p⟩:=r2;refine ⟨l,xs,a,rfl,.inl (x2.gh.rd h),?_,h4.1,h4.2,fun q b hq e2=>?_⟩
 ·exact prV_of (Paired.imp' (fun _ _ r=>Rp.mono x2.gh r) p)
 ·have hl:=Jt a [];refine ⟨q,b,rfl,Ak,?_,?_⟩
  ·have:=h4.2;simp only [List.length_nil] at hl;omega
  have x3:Ext G2 H2 G2 (upd H2 q (Kd q b)):=.own x2.gh hq;rw [e2];exact k _ _ _ (x2.trans x3) rfl
theorem Ij {H:Hp}:∀ {xs:List V}{ds:List D}{l:List Int},Paired (Rp.rel K H) xs ds->J9 ds=some l->Paired (Rp.rel K H) xs l
 | _,_,l,.nil,e=>by cases e;exact .nil
 | _,_,l,.cons (b:=d) h t,e=>by
  cases d with
  | int i =>
   obtain ⟨m,hm,rfl⟩:=qcB.mp e;cases (show RelD K H _ (.int i) from h);exact .cons rfl (Ij t hm)
  | _=>cases e
theorem Kl {H:Hp}:∀ {xs:List V}{ds:List D}{l:List (Int × Int)},Paired (Rp.rel K H) xs ds->LI ds=some l->Paired (Rp.rel K H) xs l
 | _,_,l,.nil,e=>by cases e;exact .nil
 | _,_,l,.cons (b:=d) h t,e=>by
  unfold LI at e;split at e
  ·rename_i q;cases q
  ·rename_i i j ds' q;cases q;obtain ⟨m,hm,rfl⟩:=qcB.mp e
   cases (show RelD K H _ (.tup [.int i,.int j]) from h) with
   | tup h z r =>
    cases r with
    | cons r1 r=>cases r with
     | cons r2 r =>
      cases r;exact .cons ⟨_,_,_,rfl,h,by cases r1;rfl,by cases r2;rfl⟩ (Kl t hm)
  ·cases e
theorem NU {md:Option D}(e:EV K ta σ G md):EV K ta σ G (md.bind fun d=>Lb d):=by
 clear 7;obtain ⟨d,hd,hc⟩:=qaA.mp hc;refine e G1 s1 d hd H sH Q fun v G2 H2 x r=>k v G2 H2 x ?_;obtain ⟨ds,h1,h2⟩:=qaA.mp (show (D0 d).bind J9=some c from hc)
 cases d with
 | lst l =>
  obtain rfl:=qdB (show some l=some ds from h1)
  cases (show RelD K G2 v (.lst l) from r) with
  | lst h z r=>exact ⟨_,_,rfl,h,z,Ij (BI r) h2⟩
 | _=>cases h1
theorem ev_asPrs {md:Option D}(e:EV K ta σ G md):EV K ta σ G (md.bind fun d=>asPrs d):=by
 clear 7;obtain ⟨d,hd,hc⟩:=qaA.mp hc;refine e G1 s1 d hd H sH Q fun v G2 H2 x r=>k v G2 H2 x ?_;obtain ⟨ds,h1,h2⟩:=qaA.mp (show (D0 d).bind LI=some c from hc)
 cases d with
 | lst l =>
  obtain rfl:=qdB (show some l=some ds from h1)
  cases (show RelD K G2 v (.lst l) from r) with
  | lst h z r=>exact ⟨_,_,rfl,h,z,Kl (BI r) h2⟩
 | _=>cases h1
end
theorem Gu {prog prog':Program}{w w':World}{K K':Type}[DecidableEq K][DecidableEq K']{knd:KeyKind prog w K}{knd':KeyKind prog' w' K'}{h:Heap}{a:Addr}(x:h.DictOf knd a []):h.DictOf knd' a []:=by
 obtain ⟨o,es,ep,h1,h2,h3,h4,h5,_⟩:=x;obtain ⟨l⟩:=es;cases (show Pairs knd l [] from h5);exact ⟨o,_,ep,h1,h2,h3,fun e he=>(by simp at he),.nil,.nil⟩
inductive Dp:Nat->D->Prop
 | non (n:Nat):Dp n .non
 | bl (n:Nat) (b:Bool):Dp n (.bl b)
 | int (n:Nat) (i:Int):Dp n (.int i)
 | str (n:Nat) (x:Str):Dp n (.str x)
 | emp (n:Nat):Dp n .emp
 | lst {n:Nat}{ds:List D}(h:∀ d∈ds,Dp n d):Dp (n+1) (.lst ds)
 | tup {n:Nat}{ds:List D}(h:∀ d∈ds,Dp n d):Dp (n+1) (.tup ds)
theorem KH {K:FZ9}{H:Hp}{xs:List V}{ds:List D}(r:RelDs K H xs ds){j:Nat}{x:V}{d:D}(e1:xs[j]? = some x)(e2:ds[j]? = some d):RelD K H x d:=Paired.at' (BI r) e1 e2
def EqS (K:FZ9)(n:Nat)(d:D):Prop:=∀ {X:Cx}{pins:List (Addr × Obj)}{σ:St}{H:Hp}{s:Shared}{x y:V}{u v:Value}(A:Around),X.K=K->Inv X pins σ H s->A.units+n<cLine->RelV x u->RelV y v->RelD K H x d->RelD K H y d ->
 SeqAt.EqAt A s u v true/\SeqAt.RcAt A s u v true/\SeqAt.RcNeAt A s u v false
theorem J3 {K:FZ9}{n:Nat}{ds:List D}(ih:∀ d∈ds,EqS K n d){X:Cx}{pins:List (Addr × Obj)}{σ:St}{H:Hp}{s:Shared}{A:Around}(hK:X.K=K)(I:Inv X pins σ H s)(hu:A.units+(n+1)<cLine)
  {xs ys:List V}{us vs:List Value}(rx:Vals xs us) (ry:Vals ys vs) (px:RelDs K H xs ds) (py:RelDs K H ys ds) :
  ∀ j (h1:j<us.toArray.size) (h2:j<vs.toArray.size),SeqAt.EqAt A.in1 s us.toArray[j] vs.toArray[j] true:=by
 intro j h1 h2;have h1':j<us.length:=by simpa using h1
 have h2':j<vs.length:=by simpa using h2
 have lx:=rx.length;have ly:=ry.length;have lpx:=Paired.length (BI px);have lpy:=Paired.length (BI py);have ex:xs[j]? = some xs[j]:=quA (by omega);have ey:ys[j]? = some ys[j]:=quA (by omega);have ea:ds[j]? = some ds[j]:=quA (by omega);obtain ⟨u,hu',ru⟩:=rx.get ex;obtain ⟨v,hv',rv⟩:=ry.get ey
 have e1:us.toArray[j]=u:=by
  rw [quA h1'] at hu'
  simpa using hu'
 have e2:vs.toArray[j]=v:=by
  rw [quA h2'] at hv'
  simpa using hv'
 rw [e1,e2];exact (ih _ (qsA ea) A.in1 hK I (show A.units+1+n<cLine by omega) ru rv (KH px ex ea) (KH py ey ea)).1
theorem HW {A:Around}{s:Shared}{a b:Addr}(h:SeqAt.RcAt A s (.ref a) (.ref b) true):SeqAt.EqAt A s (.ref a) (.ref b) true:=by
 by_cases e:a=b
 ·subst e;exact SeqAt.EqAt.same _
 ·exact SeqAt.EqAt.of_refs e h
theorem eqS {K:FZ9}{n:Nat}{d:D}(h:Dp n d):EqS K n d:=by
 induction h with
 | non n =>
  intro X pins σ H s x y u v A hK I hu r1 r2 ha hb;cases ha;cases hb;cases r1;cases r2;exact ⟨SeqAt.EqAt.same _,SeqAt.RcAt.none_none,SeqAt.RcNeAt.none_none⟩
 | bl n b =>
  intro X pins σ H s x y u v A hK I hu r1 r2 ha hb;cases ha;cases hb;have e:=eqBl.eq (K:=K) (a:=b) (b:=b) A hK I (by omega) r1 r2 rfl rfl;have r:=eqBl.rc (K:=K) (a:=b) (b:=b) A hK I (by omega) r1 r2 rfl rfl
  simpa using And.intro e r
 | int n b =>
  intro X pins σ H s x y u v A hK I hu r1 r2 ha hb;cases ha;cases hb;have e:=eqInt.eq (K:=K) (a:=b) (b:=b) A hK I (by omega) r1 r2 rfl rfl;have r:=eqInt.rc (K:=K) (a:=b) (b:=b) A hK I (by omega) r1 r2 rfl rfl
  simpa using And.intro e r
 | str n b =>
  intro X pins σ H s x y u v A hK I hu r1 r2 ha hb;cases ha;cases hb;have e:=eqStr.eq (K:=K) (a:=b) (b:=b) A hK I (by omega) r1 r2 rfl rfl;have r:=eqStr.rc (K:=K) (a:=b) (b:=b) A hK I (by omega) r1 r2 rfl rfl
  simpa using And.intro e r
 | emp n =>
  intro X pins σ H s x y u v A hK I hu r1 r2 ha hb
  cases ha with
  | eK ha=>cases hb with
   | eK hb =>
    cases r1;cases r2;obtain ⟨_,na,vs,kv,da⟩:=dk_rd I.hok ha;obtain ⟨_,nb,us,ku,db⟩:=dk_rd I.hok hb;cases kv;cases ku;have rc:SeqAt.RcAt A s (.ref _) (.ref _) true:=fun prog w E Q h=>PySem.W.keq_eq (knd:=BS prog w) (r:=true) na nb (Gu da) (Gu db) (by omega) (fun _=>.nil) h;exact ⟨HW rc,rc,fun prog w E Q h=>PySem.W.keq_ne (knd:=BS prog w) (r:=true) na nb (Gu da) (Gu db) (by omega) (fun _=>.nil) h⟩
 | lst h ih =>
  intro X pins σ H s x y u v A hK I hu r1 r2 ha hb
  cases ha with
  | lst ha za pa=>cases hb with
   | lst hb zb pb =>
    cases r1;cases r2;obtain ⟨us,rx,plx,_⟩:=I.list (.inl ha);obtain ⟨vs,ry,ply,_⟩:=I.list (.inl hb);have it:=J3 (A:=A) ih hK I hu rx ry pa pb
    have hsz:us.toArray.size=vs.toArray.size:=by
     have:=rx.length;have:=ry.length;have:=Paired.length (BI pa);have:=Paired.length (BI pb);simp;omega
    have rc:=SeqAt.RcAt.lists (e:=fun _=>true) plx.isList ply.isList hsz (by omega) it;have rn:=SeqAt.RcNeAt.lists (e:=fun _=>true) plx.isList ply.isList hsz (by omega) it;have ea:((List.range us.toArray.size).all fun _=>true)=true:=by simp
    rw [ea] at rc rn;exact ⟨HW rc,rc,rn⟩
 | tup h ih =>
  intro X pins σ H s x y u v A hK I hu r1 r2 ha hb
  cases ha with
  | tup ha za pa=>cases hb with
   | tup hb zb pb =>
    subst hK;cases r1;cases r2;obtain ⟨us,rx,plx,_⟩:=I.tuple ha;obtain ⟨vs,ry,ply,_⟩:=I.tuple hb;have it:=J3 (A:=A) ih rfl I hu rx ry pa pb
    have hsz:us.toArray.size=vs.toArray.size:=by
     have:=rx.length;have:=ry.length;have:=Paired.length (BI pa);have:=Paired.length (BI pb);simp;omega
    have rc:=SeqAt.RcAt.tuples (e:=fun _=>true) plx ply (by omega) it;have rn:=SeqAt.RcNeAt.tuples (e:=fun _=>true) plx ply (by omega) it;have ea:((List.range (min us.toArray.size vs.toArray.size)).all (fun _=>true) && us.toArray.size == vs.toArray.size)=true:=by simp [hsz]
    rw [ea] at rc rn;exact ⟨HW rc,rc,rn⟩
open Classical in
def NC (a b:D):Option Bool:=if a=b/\Dp 9 a then some false else none
theorem Mm {a:D}(h:Dp 9 a):NC a a=some false:=by
 unfold NC;rw [if_pos ⟨rfl,h⟩]
theorem N5 {a b:D}{c:Bool}(h:NC a b=some c):a=b/\Dp 9 a/\c=false:=by
 unfold NC at h;split at h
 ·rename_i q;exact ⟨q.1,q.2,(qdB h).symm⟩
 ·cases h
def rNeS (K:FZ9):R2:=fun x y H Q=>∃ d:D,Dp 9 d/\RelD K H x d/\RelD K H y d/\Q (.bl false) H
theorem op_neS {X:Cx}{j:Nat}(hr:Room j X.A):OpR X (compareOp .NotEq) (rNeS X.K):=by
 intro pins s σ H x y v u Q I rx ry h;obtain ⟨d,h0,h1,h2,q⟩:=h;exact (eqS h0 X.A rfl I (by have:=hr.un;omega) rx ry h1 h2).2.2 _ _ _ _ ⟨.bl _,H,I,rfl,q⟩
theorem ev_neDD {K:FZ9}{σ:St}{G:Hp}{ta tb:TE}{m1 m2:Option D}(ea:EV K ta σ G m1)(eb:EV K tb σ G m2):EV K (tOp (rNeS K) ta tb) σ G (m1.bind fun a=>m2.bind fun b=>NC a b) :=
 BZ (fun s ra rb e Q k=>by
  obtain ⟨rfl,hd,rfl⟩:=N5 e
  exact ⟨_,hd,Rp.mono s ra,Rp.mono s rb,k _ _ _ (.refl s) rfl⟩) ea eb
def spC (K:FZ9){A:Type}[RpA A]{α β:Type}[Rp α][Rp β](m:List α->A->Option β):Sp:=fun vs H Q _ =>
 ∃ G p xs us as a r,vs = .ref p::us/\Same G H/\Own K G H (.ref p) p xs as/\RpA.rel K G us a/\m as a=some r /\
  ∀ w G2 H2,Ext G (era H [p]) G2 H2->Rp.rel K G2 w r->Q w H2
def asTpD:D->Option (Tp D)
 | .tup l=>some ⟨l⟩
 | _=>none
def CS {α:Type}(a b:List α):Option Bool:=if b.isEmpty=true then some a.isEmpty else none
def rEqNil (K:FZ9):R2:=fun x y H Q=>∃ l l' xs,x = .ref l/\y = .ref l'/\SqL K H l xs/\SqL K H l' []/\Q (.bl xs.isEmpty) H
theorem Fi {X:Cx}{j:Nat}(hr:Room j X.A):OpR X (compareOp .Eq) (rEqNil X.K):=by
 intro pins s σ H x y v u Q I rx ry h;obtain ⟨l,l',xs,rfl,rfl,h1,h2,q⟩:=h;cases rx;cases ry;obtain ⟨us,r1,p1,_⟩:=I.list h1;obtain ⟨vs,r2,p2,_⟩:=I.list h2;cases r2;have hu:X.A.units<cLine:=by have:=hr.un;omega
 cases r1 with
 | nil =>
  have rc:=SeqAt.RcAt.lists (e:=fun _=>true) p1.isList p2.isList rfl hu (fun j h1=>absurd h1 (Nat.not_lt_zero _));exact rc _ _ _ _ ⟨.bl _,H,I,rfl,q⟩
 | cons a b =>
  have rc:=SeqAt.RcAt.lists_lengths p1.isList p2.isList (by simp) hu;exact rc _ _ _ _ ⟨.bl _,H,I,rfl,q⟩
section
variable {K:FZ9}{σ:St}{G H:Hp}{α β γ δ ε:Type}[Rp α][Rp β][Rp γ][Rp δ][Rp ε]{rest:TS}{D':Ends}{i j:Nat}{v:V}{p:Addr}{vs:List V}{as:List α}{ta tb te t0 t1 t2 t3 ti tj:TE}
theorem HA {A:Type}[RpA A]{m:List α->A->Option β}{vs:List V}{Q:VK}{E:XK}(h:spC K m vs H Q E):vs.length=RpA.n A+1:=by
 obtain ⟨G,p,xs,us,as,a,r,rfl,_,_,h,_⟩:=h;rw [qgA,RpA.len h]
theorem ev_defC3 {m0:Option (List α)}{m1:Option γ}{m2:Option δ}{m:List α->γ × δ × Unit->Option β}(e0:FV K t0 σ G m0)(e1:EV K t1 σ G m1)(e2:EV K t2 σ G m2) :
  EV K (Hd (spC K m) [] E0 (At t0 (At t1 (At t2 CB)))) σ G (m0.bind fun a0=>m1.bind fun a1=>m2.bind fun a2=>m a0 (a1,a2,())):=by
 clear 7;obtain ⟨a0,ha0,hc⟩:=qaA.mp hc;obtain ⟨a1,ha1,hc⟩:=qaA.mp hc;obtain ⟨a2,ha2,hc⟩:=qaA.mp hc;refine e0 G1 s1 a0 ha0 H sH _ fun p vs G2 H2 x0 hn hg hh hz hp=>?_;refine e1 G2 (s1.trans x0.gg) a1 ha1 H2 x0.gh _ fun v1 G3 H3 x1 r1=>?_;have y1:=x0.trans x1;refine e2 G3 (s1.trans y1.gg) a2 ha2 H3 x1.gh _ fun v2 G4 H4 x2 r2=>?_;have o:Own K G2 H2 (.ref p) p vs a0:=⟨rfl,hg,hh,hz,hp⟩;exact ⟨G4,p,vs,[v1,v2],a0,(a1,a2,()),c,rfl,x2.gh,(o.ext x1).ext x2,⟨v1,_,rfl,Rp.mono x2.gg r1,v2,_,rfl,r2,rfl⟩,hc,fun w G5 H5 y r=>k w G5 H5 (Ext.past (y1.trans x2) (fun b hb=>by rw [qoA.mp hb];exact hn) y) r⟩
theorem HR {m0:Option (List α)}{m1:Option γ}{m2:Option δ}{m3:Option ε}{m:List α->γ × δ × ε × Unit->Option β}(e0:FV K t0 σ G m0)(e1:EV K t1 σ G m1)(e2:EV K t2 σ G m2)(e3:EV K t3 σ G m3) :
  EV K (Hd (spC K m) [] E0 (At t0 (At t1 (At t2 (At t3 CB))))) σ G (m0.bind fun a0=>m1.bind fun a1=>m2.bind fun a2=>m3.bind fun a3=>m a0 (a1,a2,a3,())):=by
 clear 7;obtain ⟨a0,ha0,hc⟩:=qaA.mp hc;obtain ⟨a1,ha1,hc⟩:=qaA.mp hc;obtain ⟨a2,ha2,hc⟩:=qaA.mp hc;obtain ⟨a3,ha3,hc⟩:=qaA.mp hc;refine e0 G1 s1 a0 ha0 H sH _ fun p vs G2 H2 x0 hn hg hh hz hp=>?_;refine e1 G2 (s1.trans x0.gg) a1 ha1 H2 x0.gh _ fun v1 G3 H3 x1 r1=>?_;have y1:=x0.trans x1;refine e2 G3 (s1.trans y1.gg) a2 ha2 H3 x1.gh _ fun v2 G4 H4 x2 r2=>?_;have y2:=y1.trans x2;refine e3 G4 (s1.trans y2.gg) a3 ha3 H4 x2.gh _ fun v3 G5 H5 x3 r3=>?_;have o:Own K G2 H2 (.ref p) p vs a0:=⟨rfl,hg,hh,hz,hp⟩;exact ⟨G5,p,vs,[v1,v2,v3],a0,(a1,a2,a3,()),c,rfl,x3.gh,((o.ext x1).ext x2).ext x3,⟨v1,_,rfl,Rp.mono x3.gg (Rp.mono x2.gg r1),v2,_,rfl,Rp.mono x3.gg r2,v3,_,rfl,r3,rfl⟩,hc,fun w G6 H6 y r=>k w G6 H6 (Ext.past (y2.trans x3) (fun b hb=>by rw [qoA.mp hb];exact hn) y) r⟩
theorem EV.up {G':Hp}{m:Option α}(e:EV K te σ G m)(h:Same G G'):EV K te σ G' m:=fun G1 s1=>e G1 (h.trans s1)
theorem Bj {mi:Option Int}{j1:Int}{mj:Option Int}{j2:Int}{a:α}{as':List α}(hσ:σ[i]? = some (some v))(o:Own K G H v p vs as)(e1:EV K ti σ (upd G p (.lst vs)) mi)(h1:mi=some j1)(e2:EV K tj σ (upd G p (.lst vs)) mj)(h2:mj=some j2)(ha:atI as j2=some a)(hp:DJ as j1 a=some as')(s:Same G H)
  (k:∀ G2 H2 w,Ext G H G2 H2->Own K G2 (upd H2 p (.lst (vs.take j1.toNat++w::vs.drop j1.toNat))) v p (vs.take j1.toNat++w::vs.drop j1.toNat) as'->rest D' σ (upd H2 p (.lst (vs.take j1.toNat++w::vs.drop j1.toNat)))) :
  El (MB (tBM K "list" HI (Gn i) (At ti (At (tOp (rAt K) (Gn i) tj) CB)))) rest D' σ H:=by
 obtain ⟨⟨hj,hl⟩,rfl⟩:=BO hp;have hlen:=Paired.length o.p;have o':=o;obtain ⟨rfl,og,oh,oz,op⟩:=o;refine ⟨_,hσ,.inl ⟨rfl,_,SqL.of oh⟩,?_⟩;refine EV.runB o' e1 h1 s fun u G1 H1 x1 r1=>?_;cases r1;have o1:=o'.ext x1;refine ⟨_,hσ,?_⟩;refine EV.runB o1 (e2.up x1.gg.both) h2 x1.gh fun u G2 H2 x2 r2=>?_;cases r2;have o2:=o1.ext x2;obtain ⟨w,hw,r⟩:=C5 o2.p ha;refine .inl ⟨vs,w,SqL.of o2.h,hw,?_⟩;refine ⟨p,vs,w,j1,rfl,rfl,o2.h,by omega,by omega,?_⟩;refine k G2 H2 w (x1.trans x2) ⟨rfl,o2.g,Ak,?_,Paired.app (DY _ o2.p) (.cons r (DZ _ o2.p))⟩;rw [qfA,qjA,qgA,List.length_drop];omega
theorem Kj {ds:List D}{bs:List D}{mj:Option Int}{j2:Int}(hσ:σ[i]? = some (some v))(o:Own K G H v p vs ds)(e2:EV K tj σ (upd G p (.lst vs)) mj)(h2:mj=some j2)(hm:(atI ds j2).bind D0=some bs)(s:Same G H)
  (k:∀ q ws G2 H2,Ext G H G2 H2->H q=none->Own K G2 H2 (.ref q) q ws bs->rest D' (σ.set j (some (.ref q))) H2) :
  El (HH (tCB (fun xs H Q=>∃ p ys,xs=[.ref p]/\(SqL K H p ys\/SqT K H p ys)/\∀ l,H l=none->Q (.ref l) (upd H l (.lst ys))) (At (tOp (rAt K) (Gn i) tj) CB)) (DT j)) rest D' σ H:=by
 obtain ⟨d,hd,hb⟩:=qaA.mp hm;have o':=o;obtain ⟨rfl,og,oh,oz,op⟩:=o;refine ⟨_,hσ,?_⟩;refine EV.runB o' e2 h2 s fun u G2 H2 x2 r2=>?_;cases r2;have o2:=o'.ext x2;obtain ⟨w,hw,r⟩:=C5 o2.p hd;refine .inl ⟨vs,w,SqL.of o2.h,hw,?_⟩
 cases d with
 | lst l =>
  obtain rfl:=qdB (show some l=some bs from hb)
  cases (show RelD K G2 w (.lst l) from r) with
  | lst h z r =>
   refine ⟨_,_,rfl,.inl (.inl (x2.gh.rd h)),fun q hq=>?_⟩;exact k q _ G2 _ (x2.trans (.own x2.gh hq)) (x2.hh.free hq) ⟨rfl,x2.gh.free hq,Ak,z,BI r⟩
 | _=>cases hb
theorem He {i j k l:Nat}{a:T4 α β γ δ}{m:Option (T4 α β γ δ)}(e:EV K te σ G m)(hm:m=some a)(s:Same G H)
  (q:∀ v1 v2 v3 v4 G2 H2,Ext G H G2 H2->Rp.rel K G2 v1 a.a->Rp.rel K G2 v2 a.b->Rp.rel K G2 v3 a.c->Rp.rel K G2 v4 a.d->rest D' ((((σ.set i (some v1)).set j (some v2)).set k (some v3)).set l (some v4)) H2) :
  El (HH te (gTup K 4 (KR (DT i) (KR (DT j) (KR (DT k) (KR (DT l) gNil)))))) rest D' σ H:=by
 refine e.run hm s fun v G2 H2 x r=>?_;obtain ⟨t,x1,x2,x3,x4,rfl,ht,r1,r2,r3,r4⟩:=r;exact ⟨t,_,rfl,x.gh.tup ht,rfl,x1,_,rfl,x2,_,rfl,x3,_,rfl,x4,_,rfl,rfl,q _ _ _ _ _ _ x r1 r2 r3 r4⟩
theorem Kn {ds l rs as':List D}{a:D}{n:Nat}{tk:TE}{tr:TA}{mk1 mj mi:Option Int}{mr:Option (List D)}{k1 jj k':Int}(hσ:σ[i]? = some (some v))(o:Own K G H v p vs ds)(e1:EV K tk σ (upd G p (.lst vs)) mk1)(h1:mk1=some k1)(hl:(atI ds k1).bind D0=some l)(er:LV K tr σ G n mr)(hr:mr=some rs)(hn:n+1<=sizeLine)(ej:EV K tj σ G mj)(hj:mj=some jj)(ha:atI (D.tup l::rs) jj=some a)(ei:EV K ti σ G mi)(hi:mi=some k')(hs:DB ds k' a=some as')(s:Same G H)
  (k:∀ G2 H2 w j,Ext G H G2 H2->Own K G2 (upd H2 p (.lst (vs.set j w))) v p (vs.set j w) as'->rest D' σ (upd H2 p (.lst (vs.set j w)))) :
  El (HH (tOp (rAt K) (tLst (At (tCB (fun xs H Q=>∃ p ys,xs=[.ref p]/\((SqL K H p ys/\∀ l,H l=none->Q (.ref l) (upd H l (.tup ys)))\/(SqT K H p ys/\Q (.ref p) H))) (At (tOp (rAt K) (Gn i) tk) CB)) tr)) tj) (gSub (Gn i) ti rSetL)) rest D' σ H:=by
 obtain ⟨d,hd,hb⟩:=qaA.mp hl;obtain ⟨j',hj',e'⟩:=qaA.mp hs;cases e';have hlen:=Paired.length o.p;refine ⟨_,hσ,?_⟩;have ov:=o.v;subst ov;refine EV.runB o e1 h1 s fun u G1 H1 x1 r1=>?_;cases r1;have o1:=o.ext x1;obtain ⟨w,hw,r⟩:=C5 o1.p hd;refine .inl ⟨vs,w,SqL.of o1.h,hw,?_⟩
 cases d with
 | lst l' =>
  obtain rfl:=qdB (show some l'=some l from hb)
  cases (show RelD K G1 w (.lst l') from r) with
  | @lst b0 ys _ h z r =>
   refine ⟨_,ys,rfl,.inl ⟨.inl (x1.gh.rd h),fun q hq=>?_⟩⟩;have x2:Ext G1 H1 (upd G1 q (.tup ys)) (upd H1 q (.tup ys)):=Ext.new x1.gh hq;have rt:RelD K (upd G1 q (.tup ys)) (.ref q) (.tup l'):=.tup (SqT.of Ak) z (RelDs.mono x2.gg r);have y2:=x1.trans x2;refine er _ y2.gg rs hr _ x2.gh _ fun ws G3 H3 x3 hl3 hp3=>?_;have y3:=y2.trans x3;refine ⟨by rw [qgA];omega,fun t ht=>?_⟩;have x4:Ext G3 H3 (upd G3 t (.lst (V.ref q::ws))) (upd H3 t (.lst (V.ref q::ws))):=Ext.new x3.gh ht;have y4:=y3.trans x4;refine ej _ y4.gg jj hj _ x4.gh _ fun u5 G5 H5 x5 r5=>?_;cases r5;have y5:=y4.trans x5;have pp:Paired (Rp.rel K G5) (V.ref q::ws) (D.tup l'::rs):=.cons (Rp.mono (α:=D) (x3.gg.trans (x4.gg.trans x5.gg)) rt) (Paired.imp' (fun _ _ r=>Rp.mono (x4.gg.trans x5.gg) r) hp3);obtain ⟨w6,hw6,r6⟩:=C5 pp ha;refine .inl ⟨_,w6,SqL.of (x5.hh _ _ Ak),hw6,?_⟩;refine ⟨_,hσ,?_⟩;refine ei _ y5.gg k' hi _ x5.gh _ fun u7 G7 H7 x7 r7=>?_;cases r7;have o7:=o.ext (y5.trans x7);refine ⟨p,vs,k',j',rfl,rfl,o7.h,by rw [hlen];exact hj',?_⟩;exact k G7 H7 w6 j' (y5.trans x7) ⟨rfl,o7.g,Ak,by rw [List.length_set];exact o7.z,Paired.st (Rp.mono x7.gg r6) j' o7.p⟩
 | _=>cases hb
theorem C6 {m1 m2:Option (List α)}(ea:EV K ta σ G m1)(eb:EV K tb σ G m2):EV K (tOp (rEqNil K) ta tb) σ G (m1.bind fun a=>m2.bind fun b=>CS a b) :=
 BZ (fun s ra rb e Q k=>by
  obtain ⟨hb,rfl⟩:=BO e;obtain ⟨l,xs,rfl,h,z,p⟩:=ra;obtain ⟨l',ys,rfl,h',z',p'⟩:=rb;rw [List.isEmpty_iff] at hb;subst hb;cases p';refine ⟨l,l',xs,rfl,rfl,.inl (s.rd h),.inl (s.rd h'),?_⟩;refine k _ _ _ (.refl s) ?_
  cases p<;>exact rfl) ea eb
theorem ev_asTpD {md:Option D}(e:EV K te σ G md):EV K te σ G (md.bind fun d=>asTpD d):=by
 clear 7;obtain ⟨d,hd,hc⟩:=qaA.mp hc;refine e G1 s1 d hd H sH Q fun v G2 H2 x r=>k v G2 H2 x ?_
 cases d with
 | tup l =>
  cases hc
  cases (show RelD K G2 v (.tup l) from r) with
  | tup h z r=>exact ⟨_,_,rfl,h,z,BI r⟩
 | _=>cases hc
end
end L2
namespace My
open PySem PySem.Spec PyProof.Rows L2
def C8 (AA:Int):Option Int :=
 (some (decide (((AA / (8:Int)) % (4:Int))=(3:Int)))).bind fun b1=>cond b1
  ((some ((1:Int)+(AA % (8:Int)))))
  ((some ((1:Int)+(AA % (4:Int)))))
abbrev F7 (x:Int × Unit):Option Int:=C8 x.1
def Bi (AA:Int)(Bk:Int):Option (List Int) :=
 (some ([]:List Int)).bind fun GC =>
 ((some Bk).bind fun t9=>Jx 0 t9).bind fun as10=>(Hm (S:=(Int × (List Int))) (ρ:=(List Int)) (fun (k_:Int) s17 =>
   (some (decide ((s17.1 % (2:Int))=(1:Int)))).bind fun b32=>(cond b32
    ((some k_).bind fun a41=>(MM s17.2 a41).bind fun z49 =>
    some z49)
    (some s17.2)).bind fun s37 =>
   (some (s17.1 / (2:Int))).bind fun AA =>
   some (Fl.nx (AA,s37))) as10 (AA,GC)).bind fun fl12=>match fl12 with
  | .nx s17 =>
   (some s17.2)
  | .rt r=>some r
  | .bk _=>none
abbrev Do (x:Int × Int × Unit):Option (List Int):=Bi x.1 x.2.1
def Ar (script_:Scr)(k_:Int):Option Int :=
 (some (decide (k_<(script_.l.length:Int)))).bind fun b1=>cond b1
  (((some script_).bind fun t6=>(some k_).bind fun t7=>atI t6.l t7))
  ((some ((k_ * (7919:Int))+(5:Int))).bind fun Cy =>
  (some (decide ((0:Int)<(script_.l.length:Int)))).bind fun b19=>(cond b19
   ((((((some script_).bind fun t32=>((some (k_ * (7:Int))).bind fun t30=>(some (script_.l.length:Int)).bind fun t31=>CM t30 t31).bind fun t33=>atI t32.l t33).bind fun t34=>(some (t34 * (48271:Int)))).bind fun t35=>(some (t35+(k_ * (7919:Int))))).bind fun t36=>(some (t36 % (2147483647:Int)))).bind fun Cy =>
   some Cy)
   (some Cy)).bind fun s24 =>
  (((some s24).bind fun t46=>(some s24).bind fun t47=>IU t46 t47).bind fun t48=>(some (t48 % (2147483629:Int)))))
abbrev B9 (x:Scr × Int × Unit):Option Int:=Ar x.1 x.2.1
def Cs (Bx:(List Str))(Kt:Int):Option Str :=
 (some ("" : Str)).bind fun text_ =>
 ((some Bx).bind fun t7=>M7 t7).bind fun as8=>(Hm (S:=(Int × Str)) (ρ:=Str) (fun (letter_:Str) s15 =>
   (some (decide ((s15.1 % (2:Int))=(1:Int)))).bind fun b32=>(cond b32
    (((some s15.2).bind fun t43=>(some letter_).bind fun t44=>catS t43 t44).bind fun text_ =>
    some text_)
    (some s15.2)).bind fun s37 =>
   (some (s15.1 / (2:Int))).bind fun Kt =>
   some (Fl.nx (Kt,s37))) as8 (Kt,text_)).bind fun fl10=>match fl10 with
  | .nx s15 =>
   (some s15.2)
  | .rt r=>some r
  | .bk _=>none
abbrev ID (x:(List Str) × Int × Unit):Option Str:=Cs x.1 x.2.1
def Bw (script_:Scr)(Bx:(List Str)):Option (T4 (List Str) (List (Int × Int)) (List Int) (List (List Int))) :=
 (((some script_).bind fun t1=>(some (1:Int)).bind fun t2=>Ar t1 t2).bind fun t3=>C8 t3).bind fun Bk =>
 (some ((3:Int) * Bk)).bind fun L5 =>
 (((((some script_).bind fun t16=>(some (2:Int)).bind fun t17=>Ar t16 t17).bind fun t18=>(some (t18 / (25:Int)))).bind fun t19=>(some (t19 % (4:Int)))).bind fun t20=>(some (decide (t20=(3:Int))))).bind fun b21=>(cond b21
  (((some Bk).bind fun t32=>(some Bk).bind fun t33=>IU t32 t33).bind fun L5 =>
  some L5)
  (some L5)).bind fun s26 =>
 (some ([]:List (Int × Int))).bind fun ways_ =>
 ((((some script_).bind fun t51=>(some (2:Int)).bind fun t52=>Ar t51 t52).bind fun t53=>(some ((if s26<(24:Int) then s26 else (24:Int))+(1:Int))).bind fun t54=>CM t53 t54).bind fun t55=>Jx 0 t55).bind fun as56=>(Hm (S:=((List (Int × Int)))) (ρ:=(T4 (List Str) (List (Int × Int)) (List Int) (List (List Int)))) (fun (k_:Int) s63 =>
   ((some script_).bind fun t78=>(some ((8:Int)+k_)).bind fun t79=>Ar t78 t79).bind fun AA =>
   (((some (AA / (9:Int))).bind fun t86=>(some Bk).bind fun t87=>CM t86 t87).bind fun t90=>((some AA).bind fun t88=>(some Bk).bind fun t89=>CM t88 t89).bind fun t91=>(some (t90,t91))).bind fun way_ =>
   (some (decide (k_<Bk))).bind fun b98=>(cond b98
    (((some k_).bind fun t112=>((some AA).bind fun t109=>(some Bk).bind fun t110=>CM t109 t110).bind fun t113=>some (t112,t113)).bind fun way_ =>
    some way_)
    (some way_)).bind fun s103 =>
   (some (!memE s103 s63)).bind fun b123=>cond b123
    ((some s103).bind fun a128=>(MM s63 a128).bind fun z136 =>
    some (Fl.nx z136))
    (some (Fl.nx s63))) as56 ways_).bind fun fl58=>match fl58 with
  | .nx s63 =>
   (((some Bk).bind fun t143=>Jx 0 t143).bind fun t153=>D5 (fun (k_:Int)=>((some Bx).bind fun t151=>(((some script_).bind fun t148=>(some ((32:Int)+k_)).bind fun t149=>Ar t148 t149).bind fun t150=>(some (t150 % (16:Int)))).bind fun t152=>Cs t151 t152)) t153).bind fun lit_here_ =>
   (((some script_).bind fun t160=>(some (3:Int)).bind fun t161=>Ar t160 t161).bind fun t162=>(some Bk).bind fun t163=>Bi t162 t163).bind fun starts_ =>
   (((((some script_).bind fun t170=>(some (3:Int)).bind fun t171=>Ar t170 t171).bind fun t172=>(some (t172 / (256:Int)))).bind fun t173=>(some (t173 % (2:Int)))).bind fun t174=>(some (decide (t174=(1:Int))))).bind fun b175=>(cond b175
    (((some starts_).bind fun t186=>sortRO t186).bind fun starts_ =>
    some starts_)
    (some starts_)).bind fun s180 =>
   (((((some script_).bind fun t210=>(some (4:Int)).bind fun t211=>Ar t210 t211).bind fun t212=>(some (t212 % (4:Int)))).bind fun t213=>Jx 0 t213).bind fun t222=>D5 (fun (k_:Int)=>(((some script_).bind fun t218=>(some ((5:Int)+k_)).bind fun t219=>Ar t218 t219).bind fun t220=>(some (s63.length:Int)).bind fun t221=>Bi t220 t221)) t222).bind fun marks_ =>
   (some (T4.mk lit_here_ s63 s180 marks_))
  | .rt r=>some r
  | .bk _=>none
abbrev Ef (x:Scr × (List Str) × Unit):Option (T4 (List Str) (List (Int × Int)) (List Int) (List (List Int))):=Bw x.1 x.2.1
def Be (self_:D->Option D)(AW:D):Option D :=
 (some (isK "list" AW)).bind fun b1=>cond b1
  (((((some AW).bind fun t6=>Cb t6).bind fun t12=>D5 (fun (one_:D)=>((some one_).bind fun t11=>self_ t11)) t12).bind fun t13=>(some (ToD.to t13))))
  ((some (isK "tuple" AW)).bind fun b19=>cond b19
   ((((((some AW).bind fun t24=>Cb t24).bind fun t30=>D5 (fun (one_:D)=>((some one_).bind fun t29=>self_ t29)) t30).bind fun t31=>(some (Tp.mk t31))).bind fun t32=>(some (ToD.to t32))))
   ((some AW)))
def Br:Nat->D->Option D
 | 0=>fun _=>none
 | n+1=>fun AW=>Be (Br n) AW
abbrev Bb (Eh:Nat)(x:D × Unit):Option D:=Br Eh x.1
def Aj (AW:D)(Bm:Int):Option Bool :=
 ((some (isK "int" AW)).bind fun t7=>cond t7 ((some (!(isK "bool" AW))).bind fun t6=>cond t6 ((some (0:Int)).bind fun t3=>((some AW).bind fun t1=>asIntD t1).bind fun t4=>cond (decide (t3<=t4)) ((some Bm).bind fun t5=>some (decide (t4<t5))) (some false)) (some false)) (some false))
abbrev Bt (x:D × Int × Unit):Option Bool:=Aj x.1 x.2.1
def AH (AW:D)(Bm:Int):Option Bool :=
 ((some (!(isK "list" AW))).bind fun t11=>cond t11 (some true) (((((some AW).bind fun t1=>Cb t1).bind fun t8=>D5 (fun (Cy:D)=>((some Cy).bind fun t6=>(some Bm).bind fun t7=>Aj t6 t7)) t8).bind fun t9=>(some (t9.all id))).bind fun t10=>(some (!t10)))).bind fun b12=>cond b12
  ((some false))
  (((((some AW).bind fun t22=>Lb t22).bind fun t23=>JK t23).bind fun t26=>((some AW).bind fun t25=>Ca t25).bind fun t27=>(some (decide (t26=t27)))))
abbrev CF (x:D × Int × Unit):Option Bool:=AH x.1 x.2.1
def Am (AW:D)(many_ways_:Int):Option Bool :=
 ((some (!(isK "list" AW))).bind fun t3=>cond t3 (some true) (((some AW).bind fun t1=>Ca t1).bind fun t2=>(some (decide ((3:Int)<t2))))).bind fun b4=>cond b4
  ((some false))
  (((((some AW).bind fun t14=>Cb t14).bind fun t21=>D5 (fun (mark_:D)=>((some mark_).bind fun t19=>(some many_ways_).bind fun t20=>AH t19 t20)) t21).bind fun t22=>(some (t22.all id))))
abbrev Fz (x:D × Int × Unit):Option Bool:=Am x.1 x.2.1
def Az (AW:D):Option Bool :=
 (some (!(isK "str" AW))).bind fun b1=>cond b1
  ((some false))
  ((some ("" : Str)).bind fun Kp =>
  ((some AW).bind fun t17=>Cb t17).bind fun as18=>(Hm (S:=(Str)) (ρ:=Bool) (fun (MR:D) s25 =>
    ((((some MR).bind fun t40=>Il t40).bind fun t41=>(some (decide (t41.cps.toList<("a" : Str).cps.toList)))).bind fun t47=>cond t47 (some true) ((((some MR).bind fun t42=>Il t42).bind fun t43=>(some (decide (("z" : Str).cps.toList<t43.cps.toList)))).bind fun t46=>cond t46 (some true) (((some MR).bind fun t44=>Il t44).bind fun t45=>(some (!decide (s25.cps.toList<t45.cps.toList)))))).bind fun b48=>cond b48
     ((some false).bind fun rr58=>some (Fl.rt rr58))
     (((some MR).bind fun t60=>Il t60).bind fun Kp =>
     some (Fl.nx Kp))) as18 Kp).bind fun fl20=>match fl20 with
   | .nx s25 =>
    (some true)
   | .rt r=>some r
   | .bk _=>none)
abbrev Fu (x:D × Unit):Option Bool:=Az x.1
def Ac (AW:D):Option Bool :=
 ((some (!(isK "list" AW))).bind fun t6=>cond t6 (some true) ((((some AW).bind fun t1=>Ca t1).bind fun t2=>(some (decide (t2=(0:Int))))).bind fun t5=>cond t5 (some true) (((some AW).bind fun t3=>Ca t3).bind fun t4=>(some (decide ((8:Int)<t4)))))).bind fun b7=>cond b7
  ((some false))
  (((((some AW).bind fun t17=>Cb t17).bind fun t23=>D5 (fun (Gw:D)=>((some Gw).bind fun t22=>Az t22)) t23).bind fun t24=>(some (t24.all id))))
abbrev Es (x:D × Unit):Option Bool:=Ac x.1
def DK (AW:D)(Bm:Int):Option Bool :=
 ((some (!(isK "tuple" AW))).bind fun t3=>cond t3 (some true) (((some AW).bind fun t1=>Ca t1).bind fun t2=>(some (!decide (t2=(2:Int)))))).bind fun b4=>cond b4
  ((some false))
  (((((some AW).bind fun t14=>(some (0:Int)).bind fun t15=>atD t14 t15).bind fun t16=>(some Bm).bind fun t17=>Aj t16 t17).bind fun t22=>cond t22 (((some AW).bind fun t18=>(some (1:Int)).bind fun t19=>atD t18 t19).bind fun t20=>(some Bm).bind fun t21=>Aj t20 t21) (some false)))
abbrev Iy (x:D × Int × Unit):Option Bool:=DK x.1 x.2.1
def Aq (AW:D)(Bm:Int):Option Bool :=
 ((some (!(isK "list" AW))).bind fun t3=>cond t3 (some true) (((some AW).bind fun t1=>Ca t1).bind fun t2=>(some (decide ((24:Int)<t2))))).bind fun b4=>cond b4
  ((some false))
  ((((((some AW).bind fun t14=>Cb t14).bind fun t21=>D5 (fun (way_:D)=>((some way_).bind fun t19=>(some Bm).bind fun t20=>DK t19 t20)) t21).bind fun t22=>(some (t22.all id))).bind fun t29=>cond t29 ((((some AW).bind fun t23=>asPrs t23).bind fun t24=>Ht t24).bind fun t27=>((some AW).bind fun t26=>Ca t26).bind fun t28=>(some (decide (t27=t28)))) (some false)))
abbrev Gk (x:D × Int × Unit):Option Bool:=Aq x.1 x.2.1
def Ab (AW:D):Option Bool :=
 ((some (!(isK "tuple" AW))).bind fun t3=>cond t3 (some true) (((some AW).bind fun t1=>Ca t1).bind fun t2=>(some (!decide (t2=(4:Int)))))).bind fun b4=>cond b4
  ((some false))
  (((some AW).bind fun t14=>(some (0:Int)).bind fun t15=>atD t14 t15).bind fun lit_ =>
  ((some AW).bind fun t22=>(some (1:Int)).bind fun t23=>atD t22 t23).bind fun ways_ =>
  ((((some lit_).bind fun t30=>Ac t30).bind fun t31=>(some (!t31))).bind fun t36=>cond t36 (some true) (((some ways_).bind fun t33=>((some lit_).bind fun t32=>Ca t32).bind fun t34=>Aq t33 t34).bind fun t35=>(some (!t35)))).bind fun b37=>cond b37
   ((some false))
   (((((some AW).bind fun t47=>(some (2:Int)).bind fun t48=>atD t47 t48).bind fun t50=>((some lit_).bind fun t49=>Ca t49).bind fun t51=>AH t50 t51).bind fun t57=>cond t57 (((some AW).bind fun t52=>(some (3:Int)).bind fun t53=>atD t52 t53).bind fun t55=>((some ways_).bind fun t54=>Ca t54).bind fun t56=>Am t55 t56) (some false))))
abbrev CH (x:D × Unit):Option Bool:=Ab x.1
def Bz (AA:Int):Option (List Str) :=
 (some ("abcdefghijklmnopqrstuvwxyz" : Str)).bind fun row_ =>
 (some [AA,((AA+(1:Int))+((AA / (26:Int)) % (8:Int))),((AA+(9:Int))+((AA / (208:Int)) % (8:Int))),((AA+(17:Int))+((AA / (1664:Int)) % (9:Int)))]).bind fun M2 =>
 ((some M2).bind fun t19=>D5 (fun (at_:Int)=>((some row_).bind fun t17=>(some (at_ % (26:Int))).bind fun t18=>(atI t17.cps.toList t18).bind fun z=>some (⟨#[z]⟩:Str))) t19)
abbrev Ee (x:Int × Unit):Option (List Str):=Bz x.1
def BU (made_:(T4 (List Str) (List (Int × Int)) (List Int) (List (List Int))))(AA:Int):Option D :=
 (some made_).bind fun p1 =>
 (some ((decide ((AA % (3:Int))=(0:Int))) && (decide ((0:Int)∈p1.c)))).bind fun b14=>cond b14
  (((((((((some p1.c).bind fun t24=>D5 (fun (GI:Int)=>((some (decide (GI=(0:Int)))).bind fun t23=>cond t23 (some (ToD.to false)) (some (ToD.to GI)))) t24).bind fun t25=>(some (ToD.to t25))).bind fun t26=>(some [t26,(ToD.to p1.d)])).bind fun t27=>(some ((ToD.to p1.b)::t27))).bind fun t28=>(some ((ToD.to p1.a)::t28))).bind fun t29=>(some (Tp.mk t29))).bind fun t30=>(some (ToD.to t30))))
  (((some (decide ((AA % (3:Int))=(1:Int)))).bind fun t41=>cond t41 ((some (!decide (p1.d=([]:List (List Int))))).bind fun t40=>cond t40 ((some (0:Int)).bind fun t38=>((some p1.d).bind fun t36=>(some (-(1:Int))).bind fun t37=>atI t36 t37).bind fun t39=>some (decide (t38∈t39))) (some false)) (some false)).bind fun b42=>cond b42
   ((((((((((some ((Fh p1.d none (some (-(1:Int)))).map (ToD.to:(List Int)->D))).bind fun t72=>(((((some p1.d).bind fun t62=>(some (-(1:Int))).bind fun t63=>atI t62 t63).bind fun t69=>D5 (fun (k_:Int)=>((some (decide (k_=(0:Int)))).bind fun t68=>cond t68 (some (ToD.to false)) (some (ToD.to k_)))) t69).bind fun t70=>(some (ToD.to t70))).bind fun t71=>(some [t71])).bind fun t73=>Eu t72 t73).bind fun t74=>(some (ToD.to t74))).bind fun t75=>(some [t75])).bind fun t76=>(some ((ToD.to p1.c)::t76))).bind fun t77=>(some ((ToD.to p1.b)::t77))).bind fun t78=>(some ((ToD.to p1.a)::t78))).bind fun t79=>(some (Tp.mk t79))).bind fun t80=>(some (ToD.to t80))))
   ((some (!decide (p1.b=([]:List (Int × Int))))).bind fun b86=>cond b86
    (((some p1.b).bind fun t91=>(some (0:Int)).bind fun t92=>atI t91 t92).bind fun way_ =>
    (((((((((some [(ToD.to (Tp.mk [(ToD.to false),(ToD.to way_.2)])),(ToD.to (Tp.mk [(ToD.to (0:Int)),(ToD.to false)]))]).bind fun t102=>(some ((AA / (3:Int)) % (2:Int))).bind fun t103=>atI t102 t103).bind fun t104=>(some [t104])).bind fun t105=>(some ((Fh p1.b (some (1:Int)) none).map (ToD.to:(Int × Int)->D))).bind fun t106=>Eu t105 t106).bind fun t107=>(some (ToD.to t107))).bind fun t108=>(some [t108,(ToD.to ([]:List D)),(ToD.to ([]:List D))])).bind fun t109=>(some ((ToD.to p1.a)::t109))).bind fun t110=>(some (Tp.mk t110))).bind fun t111=>(some (ToD.to t111))))
    ((some (ToD.to (Tp.mk [(ToD.to p1.a),(ToD.to p1.b),(ToD.to [(ToD.to false)]),(ToD.to p1.d)]))))))
abbrev DR (x:(T4 (List Str) (List (Int × Int)) (List Int) (List (List Int))) × Int × Unit):Option D:=BU x.1 x.2.1
def CV (made_:D)(way_:Int)(AA:Int):Option D :=
 (some (decide (way_=(0:Int)))).bind fun b1=>cond b1
  (((((some made_).bind fun t6=>FH t6).bind fun t7=>(some t7.l)).bind fun t8=>(some (ToD.to t8))))
  ((some (decide (way_=(1:Int)))).bind fun b14=>cond b14
   (((((some made_).bind fun t19=>FH t19).bind fun t20=>(some (Tp.mk (Fh t20.l none (some (3:Int)))))).bind fun t21=>(some (ToD.to t21))))
   ((some (decide (way_=(2:Int)))).bind fun b27=>cond b27
    (((((some made_).bind fun t32=>asTpD t32).bind fun t33=>(some (Tp.mk [(ToD.to ([]:List D))])).bind fun t34=>catTO t33 t34).bind fun t35=>(some (ToD.to t35))))
    ((some (decide (way_=(10:Int)))).bind fun b41=>cond b41
     (((((((some [("a" : Str)]).bind fun t46=>(some (8:Int)).bind fun t47=>F1 t46 t47).bind fun t48=>(some (ToD.to t48))).bind fun t57=>(((((some (25:Int)).bind fun t49=>Jx 0 t49).bind fun t54=>D5 (fun (k_:Int)=>(some ((k_ / (8:Int)),(k_ % (8:Int))))) t54).bind fun t55=>(some (ToD.to t55))).bind fun t56=>(some [t56,(ToD.to [(ToD.to (0:Int))]),(ToD.to ([]:List D))])).bind fun t58=>(some (t57::t58))).bind fun t59=>(some (Tp.mk t59))).bind fun t60=>(some (ToD.to t60))))
     ((some (decide (way_=(18:Int)))).bind fun b66=>cond b66
      ((((some made_).bind fun t71=>FH t71).bind fun t72=>(some t72.l)).bind fun HV =>
      (((((((some made_).bind fun t83=>(some (AA % (4:Int))).bind fun t84=>atD t83 t84).bind fun t85=>D0 t85).bind fun t86=>(some (Tp.mk t86))).bind fun t87=>(some (ToD.to t87))).bind fun t88=>(some [t88,(ToD.to ()),(ToD.to ("" : Str)),(ToD.to (0:Int)),D.emp])).bind fun t89=>(some ((AA / (4:Int)) % (5:Int))).bind fun t90=>atI t89 t90).bind fun a91=>(some (AA % (4:Int))).bind fun k93=>(DB HV k93 a91).bind fun z102 =>
      (some (ToD.to (Tp.mk z102))))
      (((some [(ToD.to ()),(ToD.to true),(ToD.to (0:Int)),(ToD.to ("machine" : Str)),(ToD.to ([]:List D)),(ToD.to (Tp.mk ([]:List D))),D.emp,(ToD.to (100000000000000000000000000000000000000000000000000000000000:Int))]).bind fun t109=>(some (AA % (8:Int))).bind fun t110=>atI t109 t110))))))
abbrev Fa (x:D × Int × Int × Unit):Option D:=CV x.1 x.2.1 x.2.2.1
def Av (marks_:(List D))(way_:Int)(AA:Int)(Bm:Int):Option D :=
 (some (decide (way_=(14:Int)))).bind fun b1=>cond b1
  ((((some marks_).bind fun t19=>((some [(ToD.to ([]:List D))]).bind fun t17=>(some ((4:Int) - (marks_.length:Int))).bind fun t18=>F1 t17 t18).bind fun t20=>Eu t19 t20).bind fun t21=>(some (ToD.to t21))))
  (((some marks_).bind fun t29=>(some ([]:List D)).bind fun t30=>CS t29 t30).bind fun b31=>cond b31
   ((some [(ToD.to ([]:List D))]).bind fun marks_ =>
   ((some AA).bind fun t46=>(some (marks_.length:Int)).bind fun t47=>CM t46 t47).bind fun at_ =>
   (some at_).bind fun j62=>((atI marks_ j62).bind D0).bind fun mark_ =>
   (some (decide (way_=(15:Int)))).bind fun b64=>cond b64
    (((some (AA / (3:Int))).bind fun t71=>(some ((mark_.length:Int)+(1:Int))).bind fun t72=>CM t71 t72).bind fun j75=>((some [(ToD.to Bm),(ToD.to (-(1:Int))),(ToD.to true),(ToD.to ()),(ToD.to ("0" : Str)),(ToD.to (Tp.mk [(ToD.to (0:Int))])),(ToD.to [(ToD.to (0:Int))]),D.emp]).bind fun t73=>(some ((AA / (75:Int)) % (8:Int))).bind fun t74=>atI t73 t74).bind fun a77=>(DJ mark_ j75 a77).bind fun z85 =>
    (some (ToD.to z85)).bind fun a87=>(some at_).bind fun k89=>(DB marks_ k89 a87).bind fun z98 =>
    (some (decide (way_=(16:Int)))).bind fun b99=>cond b99
     (((some z85).bind fun t109=>((some [(ToD.to (0:Int))]).bind fun t107=>(((some z85).bind fun t104=>(some ([]:List D)).bind fun t105=>CS t104 t105).bind fun t106=>(some (if t106 then (1:Int) else 0))).bind fun t108=>F1 t107 t108).bind fun t110=>Eu t109 t110).bind fun mark_ =>
     ((some (AA / (3:Int))).bind fun t121=>(some ((mark_.length:Int)+(1:Int))).bind fun t122=>CM t121 t122).bind fun j127=>((some (AA / (75:Int))).bind fun t125=>(some (mark_.length:Int)).bind fun t126=>CM t125 t126).bind fun j129=>(atI mark_ j129).bind fun a131=>(DJ mark_ j127 a131).bind fun z139 =>
     (some (ToD.to z139)).bind fun a141=>(some at_).bind fun k143=>(DB z98 k143 a141).bind fun z152 =>
     (some (decide (way_=(17:Int)))).bind fun b153=>cond b153
      (((some [(ToD.to (Tp.mk z139)),(ToD.to ()),(ToD.to (0:Int)),(ToD.to ("" : Str)),D.emp]).bind fun t158=>(some ((AA / (3:Int)) % (5:Int))).bind fun t159=>atI t158 t159).bind fun a160=>(some at_).bind fun k162=>(DB z152 k162 a160).bind fun z171 =>
      (some (ToD.to z171)))
      ((some (ToD.to z152))))
     ((some (decide (way_=(17:Int)))).bind fun b184=>cond b184
      (((some [(ToD.to (Tp.mk z85)),(ToD.to ()),(ToD.to (0:Int)),(ToD.to ("" : Str)),D.emp]).bind fun t189=>(some ((AA / (3:Int)) % (5:Int))).bind fun t190=>atI t189 t190).bind fun a191=>(some at_).bind fun k193=>(DB z98 k193 a191).bind fun z202 =>
      (some (ToD.to z202)))
      ((some (ToD.to z98)))))
    ((some (decide (way_=(16:Int)))).bind fun b216=>cond b216
     (((some mark_).bind fun t226=>((some [(ToD.to (0:Int))]).bind fun t224=>(((some mark_).bind fun t221=>(some ([]:List D)).bind fun t222=>CS t221 t222).bind fun t223=>(some (if t223 then (1:Int) else 0))).bind fun t225=>F1 t224 t225).bind fun t227=>Eu t226 t227).bind fun mark_ =>
     ((some (AA / (3:Int))).bind fun t238=>(some ((mark_.length:Int)+(1:Int))).bind fun t239=>CM t238 t239).bind fun j244=>((some (AA / (75:Int))).bind fun t242=>(some (mark_.length:Int)).bind fun t243=>CM t242 t243).bind fun j246=>(atI mark_ j246).bind fun a248=>(DJ mark_ j244 a248).bind fun z256 =>
     (some (ToD.to z256)).bind fun a258=>(some at_).bind fun k260=>(DB marks_ k260 a258).bind fun z269 =>
     (some (decide (way_=(17:Int)))).bind fun b270=>cond b270
      (((some [(ToD.to (Tp.mk z256)),(ToD.to ()),(ToD.to (0:Int)),(ToD.to ("" : Str)),D.emp]).bind fun t275=>(some ((AA / (3:Int)) % (5:Int))).bind fun t276=>atI t275 t276).bind fun a277=>(some at_).bind fun k279=>(DB z269 k279 a277).bind fun z288 =>
      (some (ToD.to z288)))
      ((some (ToD.to z269))))
     ((some (decide (way_=(17:Int)))).bind fun b301=>cond b301
      (((some [(ToD.to (Tp.mk mark_)),(ToD.to ()),(ToD.to (0:Int)),(ToD.to ("" : Str)),D.emp]).bind fun t306=>(some ((AA / (3:Int)) % (5:Int))).bind fun t307=>atI t306 t307).bind fun a308=>(some at_).bind fun k310=>(DB marks_ k310 a308).bind fun z319 =>
      (some (ToD.to z319)))
      ((some (ToD.to marks_))))))
   (((some AA).bind fun t334=>(some (marks_.length:Int)).bind fun t335=>CM t334 t335).bind fun at_ =>
   (some at_).bind fun j350=>((atI marks_ j350).bind D0).bind fun mark_ =>
   (some (decide (way_=(15:Int)))).bind fun b352=>cond b352
    (((some (AA / (3:Int))).bind fun t359=>(some ((mark_.length:Int)+(1:Int))).bind fun t360=>CM t359 t360).bind fun j363=>((some [(ToD.to Bm),(ToD.to (-(1:Int))),(ToD.to true),(ToD.to ()),(ToD.to ("0" : Str)),(ToD.to (Tp.mk [(ToD.to (0:Int))])),(ToD.to [(ToD.to (0:Int))]),D.emp]).bind fun t361=>(some ((AA / (75:Int)) % (8:Int))).bind fun t362=>atI t361 t362).bind fun a365=>(DJ mark_ j363 a365).bind fun z373 =>
    (some (ToD.to z373)).bind fun a375=>(some at_).bind fun k377=>(DB marks_ k377 a375).bind fun z386 =>
    (some (decide (way_=(16:Int)))).bind fun b387=>cond b387
     (((some z373).bind fun t397=>((some [(ToD.to (0:Int))]).bind fun t395=>(((some z373).bind fun t392=>(some ([]:List D)).bind fun t393=>CS t392 t393).bind fun t394=>(some (if t394 then (1:Int) else 0))).bind fun t396=>F1 t395 t396).bind fun t398=>Eu t397 t398).bind fun mark_ =>
     ((some (AA / (3:Int))).bind fun t409=>(some ((mark_.length:Int)+(1:Int))).bind fun t410=>CM t409 t410).bind fun j415=>((some (AA / (75:Int))).bind fun t413=>(some (mark_.length:Int)).bind fun t414=>CM t413 t414).bind fun j417=>(atI mark_ j417).bind fun a419=>(DJ mark_ j415 a419).bind fun z427 =>
     (some (ToD.to z427)).bind fun a429=>(some at_).bind fun k431=>(DB z386 k431 a429).bind fun z440 =>
     (some (decide (way_=(17:Int)))).bind fun b441=>cond b441
      (((some [(ToD.to (Tp.mk z427)),(ToD.to ()),(ToD.to (0:Int)),(ToD.to ("" : Str)),D.emp]).bind fun t446=>(some ((AA / (3:Int)) % (5:Int))).bind fun t447=>atI t446 t447).bind fun a448=>(some at_).bind fun k450=>(DB z440 k450 a448).bind fun z459 =>
      (some (ToD.to z459)))
      ((some (ToD.to z440))))
     ((some (decide (way_=(17:Int)))).bind fun b472=>cond b472
      (((some [(ToD.to (Tp.mk z373)),(ToD.to ()),(ToD.to (0:Int)),(ToD.to ("" : Str)),D.emp]).bind fun t477=>(some ((AA / (3:Int)) % (5:Int))).bind fun t478=>atI t477 t478).bind fun a479=>(some at_).bind fun k481=>(DB z386 k481 a479).bind fun z490 =>
      (some (ToD.to z490)))
      ((some (ToD.to z386)))))
    ((some (decide (way_=(16:Int)))).bind fun b504=>cond b504
     (((some mark_).bind fun t514=>((some [(ToD.to (0:Int))]).bind fun t512=>(((some mark_).bind fun t509=>(some ([]:List D)).bind fun t510=>CS t509 t510).bind fun t511=>(some (if t511 then (1:Int) else 0))).bind fun t513=>F1 t512 t513).bind fun t515=>Eu t514 t515).bind fun mark_ =>
     ((some (AA / (3:Int))).bind fun t526=>(some ((mark_.length:Int)+(1:Int))).bind fun t527=>CM t526 t527).bind fun j532=>((some (AA / (75:Int))).bind fun t530=>(some (mark_.length:Int)).bind fun t531=>CM t530 t531).bind fun j534=>(atI mark_ j534).bind fun a536=>(DJ mark_ j532 a536).bind fun z544 =>
     (some (ToD.to z544)).bind fun a546=>(some at_).bind fun k548=>(DB marks_ k548 a546).bind fun z557 =>
     (some (decide (way_=(17:Int)))).bind fun b558=>cond b558
      (((some [(ToD.to (Tp.mk z544)),(ToD.to ()),(ToD.to (0:Int)),(ToD.to ("" : Str)),D.emp]).bind fun t563=>(some ((AA / (3:Int)) % (5:Int))).bind fun t564=>atI t563 t564).bind fun a565=>(some at_).bind fun k567=>(DB z557 k567 a565).bind fun z576 =>
      (some (ToD.to z576)))
      ((some (ToD.to z557))))
     ((some (decide (way_=(17:Int)))).bind fun b589=>cond b589
      (((some [(ToD.to (Tp.mk mark_)),(ToD.to ()),(ToD.to (0:Int)),(ToD.to ("" : Str)),D.emp]).bind fun t594=>(some ((AA / (3:Int)) % (5:Int))).bind fun t595=>atI t594 t595).bind fun a596=>(some at_).bind fun k598=>(DB marks_ k598 a596).bind fun z607 =>
      (some (ToD.to z607)))
      ((some (ToD.to marks_)))))))
abbrev E4 (marks_:(List D))(x:Int × Int × Int × Unit):Option D:=Av marks_ x.1 x.2.1 x.2.2.1
def C0 (lit_here_:(List D))(way_:Int)(AA:Int):Option D :=
 ((some AA).bind fun t3=>(some (lit_here_.length:Int)).bind fun t4=>CM t3 t4).bind fun at_ =>
 (some (decide (way_=(3:Int)))).bind fun b11=>cond b11
  ((some (ToD.to ([]:List D))))
  ((some (decide (way_=(4:Int)))).bind fun b21=>cond b21
   ((((some lit_here_).bind fun t39=>((some [(ToD.to ("" : Str))]).bind fun t37=>(some ((9:Int) - (lit_here_.length:Int))).bind fun t38=>F1 t37 t38).bind fun t40=>Eu t39 t40).bind fun t41=>(some (ToD.to t41))))
   ((some (decide (way_=(5:Int)))).bind fun b47=>cond b47
    (((some [(ToD.to ("ba" : Str)),(ToD.to ("aa" : Str)),(ToD.to ("A" : Str)),(ToD.to ("a " : Str)),(ToD.to ("-" : Str)),(ToD.to ("a1" : Str)),(ToD.to ("az{" : Str)),(ToD.to ("zz" : Str))]).bind fun t52=>(some ((AA / (8:Int)) % (8:Int))).bind fun t53=>atI t52 t53).bind fun a54=>(some at_).bind fun k56=>(DB lit_here_ k56 a54).bind fun z65 =>
    (some (decide (way_=(6:Int)))).bind fun b66=>cond b66
     (((some [(ToD.to ()),(ToD.to (3:Int)),(ToD.to [(ToD.to ("a" : Str))]),(ToD.to (Tp.mk [(ToD.to ("a" : Str))])),(ToD.to true),D.emp]).bind fun t71=>(some ((AA / (8:Int)) % (6:Int))).bind fun t72=>atI t71 t72).bind fun a73=>(some at_).bind fun k75=>(DB z65 k75 a73).bind fun z84 =>
     (some (ToD.to z84)))
     ((some (ToD.to z65))))
    ((some (decide (way_=(6:Int)))).bind fun b97=>cond b97
     (((some [(ToD.to ()),(ToD.to (3:Int)),(ToD.to [(ToD.to ("a" : Str))]),(ToD.to (Tp.mk [(ToD.to ("a" : Str))])),(ToD.to true),D.emp]).bind fun t102=>(some ((AA / (8:Int)) % (6:Int))).bind fun t103=>atI t102 t103).bind fun a104=>(some at_).bind fun k106=>(DB lit_here_ k106 a104).bind fun z115 =>
     (some (ToD.to z115)))
     ((some (ToD.to lit_here_))))))
abbrev Eo (lit_here_:(List D))(x:Int × Int × Unit):Option D:=C0 lit_here_ x.1 x.2.1
def Bo (ways_:(List D))(way_:Int)(AA:Int)(Bk:Int):Option D :=
 ((some AA).bind fun t3=>(some ((ways_.length:Int)+(1:Int))).bind fun t4=>CM t3 t4).bind fun at_ =>
 (some (decide (way_=(7:Int)))).bind fun b11=>cond b11
  ((some [(ToD.to (Tp.mk [(ToD.to (0:Int)),(ToD.to Bk)])),(ToD.to (Tp.mk [(ToD.to Bk),(ToD.to (0:Int))])),(ToD.to (Tp.mk [(ToD.to (0:Int)),(ToD.to (-(1:Int)))])),(ToD.to (Tp.mk [(ToD.to (-(1:Int))),(ToD.to (0:Int))])),(ToD.to (Tp.mk [(ToD.to true),(ToD.to (0:Int))])),(ToD.to (Tp.mk [(ToD.to (0:Int)),(ToD.to false)])),(ToD.to (Tp.mk [(ToD.to (0:Int)),(ToD.to ())])),(ToD.to (Tp.mk [(ToD.to ("0" : Str)),(ToD.to (0:Int))])),(ToD.to (Tp.mk [(ToD.to (100000000000000000000000000000000000000000000000000000000000:Int)),(ToD.to (0:Int))]))]).bind fun bad_ =>
  ((some bad_).bind fun t22=>(some [(ToD.to (Tp.mk [(ToD.to [(ToD.to (0:Int))]),(ToD.to (0:Int))])),(ToD.to (Tp.mk [(ToD.to (0:Int)),D.emp]))]).bind fun t23=>Eu t22 t23).bind fun bad_ =>
  (some at_).bind fun j32=>((some bad_).bind fun t30=>(some ((AA / (25:Int)) % (11:Int))).bind fun t31=>atI t30 t31).bind fun a34=>(DJ ways_ j32 a34).bind fun z42 =>
  (some (decide (way_=(8:Int)))).bind fun b43=>cond b43
   ((some at_).bind fun j50=>((some [(ToD.to [(ToD.to (0:Int)),(ToD.to (0:Int))]),(ToD.to (Tp.mk [(ToD.to (0:Int))])),(ToD.to (Tp.mk [(ToD.to (0:Int)),(ToD.to (0:Int)),(ToD.to (0:Int))])),(ToD.to ()),(ToD.to ("00" : Str)),(ToD.to (0:Int)),(ToD.to (Tp.mk ([]:List D)))]).bind fun t48=>(some ((AA / (25:Int)) % (7:Int))).bind fun t49=>atI t48 t49).bind fun a52=>(DJ z42 j50 a52).bind fun z60 =>
   (some (decide (way_=(9:Int)))).bind fun b62=>cond b62
    (((some z60).bind fun t72=>((some [(ToD.to (Tp.mk [(ToD.to (0:Int)),(ToD.to (0:Int))]))]).bind fun t70=>(((some z60).bind fun t67=>(some ([]:List D)).bind fun t68=>CS t67 t68).bind fun t69=>(some (if t69 then (1:Int) else 0))).bind fun t71=>F1 t70 t71).bind fun t73=>Eu t72 t73).bind fun ways_ =>
    (some at_).bind fun j86=>((some (AA / (25:Int))).bind fun t84=>(some (ways_.length:Int)).bind fun t85=>CM t84 t85).bind fun j88=>(atI ways_ j88).bind fun a90=>(DJ ways_ j86 a90).bind fun z98 =>
    (some (ToD.to z98)))
    ((some (ToD.to z60))))
   ((some (decide (way_=(9:Int)))).bind fun b111=>cond b111
    (((some z42).bind fun t121=>((some [(ToD.to (Tp.mk [(ToD.to (0:Int)),(ToD.to (0:Int))]))]).bind fun t119=>(((some z42).bind fun t116=>(some ([]:List D)).bind fun t117=>CS t116 t117).bind fun t118=>(some (if t118 then (1:Int) else 0))).bind fun t120=>F1 t119 t120).bind fun t122=>Eu t121 t122).bind fun ways_ =>
    (some at_).bind fun j135=>((some (AA / (25:Int))).bind fun t133=>(some (ways_.length:Int)).bind fun t134=>CM t133 t134).bind fun j137=>(atI ways_ j137).bind fun a139=>(DJ ways_ j135 a139).bind fun z147 =>
    (some (ToD.to z147)))
    ((some (ToD.to z42)))))
  ((some (decide (way_=(8:Int)))).bind fun b159=>cond b159
   ((some at_).bind fun j166=>((some [(ToD.to [(ToD.to (0:Int)),(ToD.to (0:Int))]),(ToD.to (Tp.mk [(ToD.to (0:Int))])),(ToD.to (Tp.mk [(ToD.to (0:Int)),(ToD.to (0:Int)),(ToD.to (0:Int))])),(ToD.to ()),(ToD.to ("00" : Str)),(ToD.to (0:Int)),(ToD.to (Tp.mk ([]:List D)))]).bind fun t164=>(some ((AA / (25:Int)) % (7:Int))).bind fun t165=>atI t164 t165).bind fun a168=>(DJ ways_ j166 a168).bind fun z176 =>
   (some (decide (way_=(9:Int)))).bind fun b178=>cond b178
    (((some z176).bind fun t188=>((some [(ToD.to (Tp.mk [(ToD.to (0:Int)),(ToD.to (0:Int))]))]).bind fun t186=>(((some z176).bind fun t183=>(some ([]:List D)).bind fun t184=>CS t183 t184).bind fun t185=>(some (if t185 then (1:Int) else 0))).bind fun t187=>F1 t186 t187).bind fun t189=>Eu t188 t189).bind fun ways_ =>
    (some at_).bind fun j202=>((some (AA / (25:Int))).bind fun t200=>(some (ways_.length:Int)).bind fun t201=>CM t200 t201).bind fun j204=>(atI ways_ j204).bind fun a206=>(DJ ways_ j202 a206).bind fun z214 =>
    (some (ToD.to z214)))
    ((some (ToD.to z176))))
   ((some (decide (way_=(9:Int)))).bind fun b227=>cond b227
    (((some ways_).bind fun t237=>((some [(ToD.to (Tp.mk [(ToD.to (0:Int)),(ToD.to (0:Int))]))]).bind fun t235=>(((some ways_).bind fun t232=>(some ([]:List D)).bind fun t233=>CS t232 t233).bind fun t234=>(some (if t234 then (1:Int) else 0))).bind fun t236=>F1 t235 t236).bind fun t238=>Eu t237 t238).bind fun ways_ =>
    (some at_).bind fun j251=>((some (AA / (25:Int))).bind fun t249=>(some (ways_.length:Int)).bind fun t250=>CM t249 t250).bind fun j253=>(atI ways_ j253).bind fun a255=>(DJ ways_ j251 a255).bind fun z263 =>
    (some (ToD.to z263)))
    ((some (ToD.to ways_)))))
abbrev ES (ways_:(List D))(x:Int × Int × Int × Unit):Option D:=Bo ways_ x.1 x.2.1 x.2.2.1
def Bc (starts_:(List D))(way_:Int)(AA:Int)(Bk:Int):Option D :=
 ((some AA).bind fun t3=>(some ((starts_.length:Int)+(1:Int))).bind fun t4=>CM t3 t4).bind fun at_ =>
 (some (decide (way_=(12:Int)))).bind fun b11=>cond b11
  ((some at_).bind fun j18=>((some [(ToD.to Bk),(ToD.to (-(1:Int))),(ToD.to true),(ToD.to ()),(ToD.to ("0" : Str)),(ToD.to (Tp.mk [(ToD.to (0:Int))])),(ToD.to [(ToD.to (0:Int))]),(ToD.to (100000000000000000000000000000000000000000000000000000000000:Int))]).bind fun t16=>(some ((AA / (25:Int)) % (8:Int))).bind fun t17=>atI t16 t17).bind fun a20=>(DJ starts_ j18 a20).bind fun z28 =>
  (some (decide (way_=(13:Int)))).bind fun b30=>cond b30
   (((some z28).bind fun t40=>((some [(ToD.to (0:Int))]).bind fun t38=>(((some z28).bind fun t35=>(some ([]:List D)).bind fun t36=>CS t35 t36).bind fun t37=>(some (if t37 then (1:Int) else 0))).bind fun t39=>F1 t38 t39).bind fun t41=>Eu t40 t41).bind fun starts_ =>
   (some at_).bind fun j54=>((some (AA / (25:Int))).bind fun t52=>(some (starts_.length:Int)).bind fun t53=>CM t52 t53).bind fun j56=>(atI starts_ j56).bind fun a58=>(DJ starts_ j54 a58).bind fun z66 =>
   (some (ToD.to z66)))
   ((some (ToD.to z28))))
  ((some (decide (way_=(13:Int)))).bind fun b79=>cond b79
   (((some starts_).bind fun t89=>((some [(ToD.to (0:Int))]).bind fun t87=>(((some starts_).bind fun t84=>(some ([]:List D)).bind fun t85=>CS t84 t85).bind fun t86=>(some (if t86 then (1:Int) else 0))).bind fun t88=>F1 t87 t88).bind fun t90=>Eu t89 t90).bind fun starts_ =>
   (some at_).bind fun j103=>((some (AA / (25:Int))).bind fun t101=>(some (starts_.length:Int)).bind fun t102=>CM t101 t102).bind fun j105=>(atI starts_ j105).bind fun a107=>(DJ starts_ j103 a107).bind fun z115 =>
   (some (ToD.to z115)))
   ((some (ToD.to starts_))))
abbrev Db (starts_:(List D))(x:Int × Int × Int × Unit):Option D:=Bc starts_ x.1 x.2.1 x.2.2.1
def By (made_:(T4 (List Str) (List (Int × Int)) (List Int) (List (List Int))))(way_:Int)(AA:Int):Option D :=
 (some (made_.a.length:Int)).bind fun Bk =>
 (some (decide ((19:Int)<way_))).bind fun b7=>cond b7
  (((some made_).bind fun t12=>(some AA).bind fun t13=>BU t12 t13))
  ((some (decide (way_∈(Tp.mk [(0:Int),(1:Int),(2:Int),(10:Int),(18:Int),(19:Int)]).l))).bind fun b19=>cond b19
   (((some (ToD.to made_)).bind fun t24=>(some way_).bind fun t25=>(some AA).bind fun t26=>CV t24 t25 t26))
   ((some made_).bind fun p32 =>
   (some (decide (way_<(7:Int)))).bind fun b45=>cond b45
    ((((((some (p32.a.map (ToD.to:Str->D))).bind fun t50=>(some way_).bind fun t51=>(some AA).bind fun t52=>C0 t50 t51 t52).bind fun t53=>(some [t53,(ToD.to p32.b),(ToD.to p32.c),(ToD.to p32.d)])).bind fun t54=>(some (Tp.mk t54))).bind fun t55=>(some (ToD.to t55))))
    ((some (decide (way_<(10:Int)))).bind fun b61=>cond b61
     (((((((some (p32.b.map (ToD.to:(Int × Int)->D))).bind fun t66=>(some way_).bind fun t67=>(some AA).bind fun t68=>(some Bk).bind fun t69=>Bo t66 t67 t68 t69).bind fun t70=>(some [t70,(ToD.to p32.c),(ToD.to p32.d)])).bind fun t71=>(some ((ToD.to p32.a)::t71))).bind fun t72=>(some (Tp.mk t72))).bind fun t73=>(some (ToD.to t73))))
     ((some (decide (way_<(14:Int)))).bind fun b79=>cond b79
      ((((((((some (p32.c.map (ToD.to:Int->D))).bind fun t84=>(some way_).bind fun t85=>(some AA).bind fun t86=>(some Bk).bind fun t87=>Bc t84 t85 t86 t87).bind fun t88=>(some [t88,(ToD.to p32.d)])).bind fun t89=>(some ((ToD.to p32.b)::t89))).bind fun t90=>(some ((ToD.to p32.a)::t90))).bind fun t91=>(some (Tp.mk t91))).bind fun t92=>(some (ToD.to t92))))
      (((((((((some (p32.d.map (ToD.to:(List Int)->D))).bind fun t98=>(some way_).bind fun t99=>(some AA).bind fun t100=>(some (p32.b.length:Int)).bind fun t101=>Av t98 t99 t100 t101).bind fun t102=>(some [t102])).bind fun t103=>(some ((ToD.to p32.c)::t103))).bind fun t104=>(some ((ToD.to p32.b)::t104))).bind fun t105=>(some ((ToD.to p32.a)::t105))).bind fun t106=>(some (Tp.mk t106))).bind fun t107=>(some (ToD.to t107))))))))
abbrev EW (x:(T4 (List Str) (List (Int × Int)) (List Int) (List (List Int))) × Int × Int × Unit):Option D:=By x.1 x.2.1 x.2.2.1
def Ks (script_:Scr):Option Bool :=
 ((some script_).bind fun t5=>((((some script_).bind fun t1=>(some (0:Int)).bind fun t2=>Ar t1 t2).bind fun t3=>(some (t3 % (14976:Int)))).bind fun t4=>Bz t4).bind fun t6=>Bw t5 t6).bind fun made_ =>
 (((some script_).bind fun t13=>(some (40:Int)).bind fun t14=>Ar t13 t14).bind fun t15=>(some (t15 % (27:Int)))).bind fun way_ =>
 (((some script_).bind fun t22=>(some (41:Int)).bind fun t23=>Ar t22 t23).bind fun t24=>(some (t24 % (1000000007:Int)))).bind fun AA =>
 (some (decide (way_=(11:Int)))).bind fun b31=>(cond b31
  ((((some [("a" : Str)]).bind fun t42=>(some (8:Int)).bind fun t43=>F1 t42 t43).bind fun t59=>(((some (24:Int)).bind fun t44=>Jx 0 t44).bind fun t49=>D5 (fun (k_:Int)=>(some ((k_ / (8:Int)),(k_ % (8:Int))))) t49).bind fun t60=>((((((some (24:Int)).bind fun t50=>Jx 0 t50).bind fun t55=>D5 (fun (k_:Int)=>(some k_)) t55).bind fun t56=>(some [t56])).bind fun t57=>(some (([]:List Int)::t57))).bind fun t58=>(some ([(23:Int),(0:Int)]::t58))).bind fun t61=>(some (T4.mk t59 t60 [(7:Int),(0:Int)] t61))).bind fun made_ =>
  some made_)
  (some made_)).bind fun s36 =>
 (some (ToD.to s36)).bind fun AW =>
 (some ((decide (way_<(24:Int))) && (!decide (way_=(11:Int))))).bind fun b77=>(cond b77
  (((some s36).bind fun t88=>(some way_).bind fun t89=>(some AA).bind fun t90=>By t88 t89 t90).bind fun AW =>
  some AW)
  (some AW)).bind fun s82 =>
 (some ((decide ((23:Int)<way_)) || (decide (way_=(11:Int))))).bind fun due_ =>
 ((some s82).bind fun t106=>Br 6 t106).bind fun kept_ =>
 ((some s82).bind fun t113=>Ab t113).bind fun found_ =>
 ((some (!true)).bind fun t123=>cond t123 (some true) ((some (!decide (found_=due_))).bind fun t122=>cond t122 (some true) ((some s82).bind fun t120=>(some kept_).bind fun t121=>NC t120 t121))).bind fun b124=>cond b124
  ((some false))
  (((((some (ToD.to s36)).bind fun t134=>Ab t134).bind fun t135=>(some (!t135))).bind fun t137=>cond t137 (some true) ((some (ToD.to (Tp.mk [(ToD.to [(ToD.to ("z" : Str))]),(ToD.to [(ToD.to (Tp.mk [(ToD.to (0:Int)),(ToD.to (1:Int))]))]),(ToD.to ([]:List D)),(ToD.to ([]:List D))]))).bind fun t136=>Ab t136)).bind fun b138=>cond b138
   ((some false))
   ((((some s82).bind fun t148=>Ab t148).bind fun t149=>(some (decide (t149=due_))))))
abbrev mm_law (x:Scr × Unit):Option Bool:=Ks x.1
def top (i:Nat):Stmt:=PySem.Challenge.pw_lassoscribe_k50_what_is_a_machine.main.body.getD i (.Pass ⟨0,0,0,0⟩)
abbrev Et:Stmt:=top 1
abbrev Cg:Stmt:=top 6
abbrev CN:Stmt:=top 7
abbrev HK:Stmt:=top 8
abbrev Dj:Stmt:=top 9
abbrev FL:Stmt:=top 10
abbrev Ej:Stmt:=top 11
abbrev EB:Stmt:=top 12
abbrev FE:Stmt:=top 14
abbrev Df:Stmt:=top 15
abbrev GO:Stmt:=top 16
abbrev ED:Stmt:=top 17
abbrev EJ:Stmt:=top 18
abbrev Dm:Stmt:=top 19
abbrev Dv:Stmt:=top 20
abbrev DQ:Stmt:=top 21
abbrev Co:Stmt:=top 22
abbrev D7:Stmt:=top 23
abbrev Ei:Stmt:=top 24
abbrev Ci:Stmt:=top 25
abbrev Dk:Stmt:=top 26
abbrev DG:Stmt:=top 27
abbrev s_law:Stmt:=top 28
structure Txt (mg:Str->Option Value):Prop where
 all_:mg "all" = none
 bool_:mg "bool" = none
 int_:mg "int" = none
 isinstance_:mg "isinstance" = none
 len_:mg "len" = none
 list_:mg "list" = none
 min_:mg "min" = none
 range_:mg "range" = none
 set_:mg "set" = none
 sorted_:mg "sorted" = none
 str_:mg "str" = none
 tuple_:mg "tuple" = none
 MOST_STATES:∃ t,mg "MOST_STATES" = some (.int 8 t)
 MOST_WAYS:∃ t,mg "MOST_WAYS" = some (.int 24 t)
 MOST_MARKS:∃ t,mg "MOST_MARKS" = some (.int 3 t)
theorem DF:FnScope ["thing","last","lamp"] ["thing"] (AR Et):=scm
theorem FO:FnScope ["thing","count"] ["thing","count"] (AR Cg):=scm
theorem F3:FnScope ["thing","count"] ["thing","count"] (AR CN):=scm
theorem NY:FnScope ["thing","count"] ["thing","count"] (AR HK):=scm
theorem Hu:FnScope ["thing"] ["thing"] (AR Dj):=scm
theorem LC:FnScope ["thing","count"] ["thing","count"] (AR FL):=scm
theorem JQ:FnScope ["thing","many_ways"] ["thing","many_ways"] (AR Ej):=scm
theorem Dh:FnScope ["thing","lit","ways"] ["thing"] (AR EB):=scm
theorem EZ:FnScope ["_law_script","_law_k","_law_number"] ["_law_script","_law_k"] (AR FE):=scm
theorem DO:FnScope ["_law_cell_here","_law_row","_law_places"] ["_law_cell_here"] (AR Df):=scm
theorem DL:FnScope ["_law_letters_here","_law_bits","_law_text","_law_letter"] ["_law_letters_here","_law_bits"] (AR GO):=scm
theorem Cv:FnScope ["_law_cell_here","_law_many","_law_chosen_here","_law_k"] ["_law_cell_here","_law_many"] (AR ED):=scm
theorem Ig:FnScope ["_law_cell_here"] ["_law_cell_here"] (AR EJ):=scm
theorem An:FnScope ["_law_script","_law_letters_here","_law_many","_law_most","_law_ways","_law_k","_law_cell_here","_law_way","_law_lit_here","_law_starts","_law_marks"] ["_law_script","_law_letters_here"] (AR Dm):=scm
theorem Eg:FnScope ["_law_lit_here","_law_way","_law_cell_here","_law_at"] ["_law_lit_here","_law_way","_law_cell_here"] (AR Dv):=scm
theorem Bu:FnScope ["_law_ways","_law_way","_law_cell_here","_law_many","_law_at","_law_bad"] ["_law_ways","_law_way","_law_cell_here","_law_many"] (AR DQ):=scm
theorem Cc:FnScope ["_law_starts","_law_way","_law_cell_here","_law_many","_law_at"] ["_law_starts","_law_way","_law_cell_here","_law_many"] (AR Co):=scm
theorem Bl:FnScope ["_law_marks","_law_way","_law_cell_here","_law_count","_law_at","_law_mark"] ["_law_marks","_law_way","_law_cell_here","_law_count"] (AR D7):=scm
theorem Ff:FnScope ["_law_made","_law_way","_law_cell_here","_law_parts"] ["_law_made","_law_way","_law_cell_here"] (AR Ei):=scm
theorem BM:FnScope ["_law_made","_law_cell_here","_law_lit_here","_law_ways","_law_starts","_law_marks","_law_way"] ["_law_made","_law_cell_here"] (AR Ci):=scm
theorem Bp:FnScope ["_law_made","_law_way","_law_cell_here","_law_many","_law_lit_here","_law_ways","_law_starts","_law_marks"] ["_law_made","_law_way","_law_cell_here"] (AR Dk):=scm
theorem FC:FnScope ["_law_thing"] ["_law_thing"] (AR DG):=scm
theorem Ds:FnScope ["_law_script","_law_made","_law_way","_law_cell_here","_law_thing","_law_due","_law_kept","_law_found"] ["_law_script"] (AR s_law):=scm
def JL (K:FZ9):Sp:=fun vs H Q _=>∃ (a:Addr) (ns:List Int),vs=[.ref a]/\SqL K H a (ns.map V.int)/\ns.length<=63/\∀ H',Q (.bl true) H'
section
variable (P:Program)(w:World)(K:FZ9)(mg:Str->Option Value)(base:Heap)
abbrev Fe:Prop:=DefOk P w K mg base "_law_states" 1 ["_law_cell_here"] (spM K F7)
abbrev GA:Prop:=DefOk P w K mg base "_law_chosen" 1 ["_law_cell_here","_law_many"] (spM K Do)
abbrev FN:Prop:=DefOk P w K mg base "_law_cell" 1 ["_law_script","_law_k"] (spM K B9)
abbrev J7:Prop:=DefOk P w K mg base "_law_lit" 1 ["_law_letters_here","_law_bits"] (spM K ID)
abbrev FD:Prop:=DefOk P w K mg base "_law_machine" 2 ["_law_script","_law_letters_here"] (spM K Ef)
abbrev GD:Prop:=DefOk P w K mg base "_law_copied" 7 ["_law_thing"] (spM K (Bb 6))
abbrev Ce:Prop:=DefOk P w K mg base "is_number_below" 1 ["thing","count"] (spM K Bt)
abbrev CT:Prop:=DefOk P w K mg base "are_numbers_once" 2 ["thing","count"] (spM K CF)
abbrev GX:Prop:=DefOk P w K mg base "are_marks" 3 ["thing","many_ways"] (spM K Fz)
abbrev Gj:Prop:=DefOk P w K mg base "is_moment" 1 ["thing"] (spM K Fu)
abbrev F8:Prop:=DefOk P w K mg base "are_moments" 2 ["thing"] (spM K Es)
abbrev Kh:Prop:=DefOk P w K mg base "is_way" 2 ["thing","count"] (spM K Iy)
abbrev Hx:Prop:=DefOk P w K mg base "are_ways" 3 ["thing","count"] (spM K Gk)
abbrev Fg:Prop:=DefOk P w K mg base "is_machine" 4 ["thing"] (spM K CH)
abbrev F6:Prop:=DefOk P w K mg base "_law_letters" 1 ["_law_cell_here"] (spM K Ee)
abbrev DX:Prop:=DefOk P w K mg base "_law_with_truths" 1 ["_law_made","_law_cell_here"] (spM K DR)
abbrev Gi:Prop:=DefOk P w K mg base "_law_other" 1 ["_law_made","_law_way","_law_cell_here"] (spM K Fa)
abbrev ET:Prop:=DefOk P w K mg base "_law_bad_marks" 1 ["_law_marks","_law_way","_law_cell_here","_law_count"] (spC K E4)
abbrev FB:Prop:=DefOk P w K mg base "_law_bad_lit" 1 ["_law_lit_here","_law_way","_law_cell_here"] (spC K Eo)
abbrev Ep:Prop:=DefOk P w K mg base "_law_bad_ways" 1 ["_law_ways","_law_way","_law_cell_here","_law_many"] (spC K ES)
abbrev Dz:Prop:=DefOk P w K mg base "_law_bad_starts" 1 ["_law_starts","_law_way","_law_cell_here","_law_many"] (spC K Db)
abbrev FA:Prop:=DefOk P w K mg base "_law_spoiled" 2 ["_law_made","_law_way","_law_cell_here"] (spM K EW)
end
section
variable {P:Program}{w:World}{K:FZ9}{mg:Str->Option Value}{base:Heap}
local macro_rules | `(tactic| ac_rfl) => `(tactic| first | assumption | exact Ne.symm (by assumption))
local macro_rules
 | `(tactic| clear $n:num $rs*) => do
  let hm := Lean.mkIdent `hm
  let xt := Lean.mkIdent `xt
  let q := Lean.mkIdent `q
  let rf := Lean.mkIdent `rfl
  let w : Array Lean.Ident := rs.map fun r => ⟨r.raw⟩
  match n.getNat with
  | 2 =>
   let mut ts := #[]
   for k in [0:w.size/2] do
    let a := w[2*k]!
    let b := w[2*k+1]!
    ts := ts.push (← `(tactic| refine bE $hm fun $a $b $hm => ?_))
   `(tactic| ($[$ts:tactic];*))
  | 3 => `(tactic| (replace $hm := cT $hm; refine Ax ?_))
  | 4 => `(tactic| (replace $hm := cF $hm; refine Aw ?_))
  | 5 => `(tactic| (rintro r' v' G' H' $rf:ident rl; cases $hm:ident; exact $q v' G' H' rl.1 rl.2))
  | 6 => let k := w[0]!; `(tactic| (rintro r' v' G' H' $rf:ident rl; cases $hm:ident; exact $k _ v' G' H' rfl rl))
  | 9 =>
   let x := w[0]!
   let ts ← (w.extract 1 w.size).mapM fun (i : Lean.Ident) => `(tactic| have $i := Rp.mono $x $i)
   `(tactic| ($[$ts:tactic];*))
  | z =>
   if z > 1 then Lean.Macro.throwUnsupported
   let x := w[0]!
   let mut m := 1
   let mut ts := #[]
   let mut hs := #[]
   for i in w.extract 1 w.size do
    if let some k := i.raw.isNatLit? then m := k
    else if m == 4 then hs := hs.push (← `(tactic| have $i := ($xt).hh.free $i))
    else ts := ts.push (← match m with
     | 1 => `(tactic| have $i := Rp.mono ($x).gg $i)
     | 2 => `(tactic| have $i := ($i).ext $x)
     | _ => `(tactic| have $i := ($i).trans ($x).gg))
   if z == 1 then hs := hs.push (← `(tactic| have $xt := ($xt).trans $x))
   let zs := hs ++ ts
   `(tactic| ($[$zs:tactic];*))
theorem IZ (F:DIn K mg "_law_states" EJ)(T:Txt mg):Fe P w K mg base:=by
 refine F.okM1 (m:=C8) Ig fun _ _ _ _ _ H0 _ _ hr G0 AA res As xt A3 hm q=>?_;unfold C8 at hm
 refine ⟨_,(A7 (Au (AU BX (AS Ai (AS B8 (pv 0) A9) A9) A9 (AX _)) (A7 (Ad (Ao K A9 (AS Ai (pv 0) A9)))
   AD) AD)
   (A7 (Ad (Ao K A9 (AS Ai (pv 0) A9)))
   AD)),?_⟩
 clear 2 b1 h2;refine Ag (AL (K:=K) (Ah (Aa (AY (A8 A3))) AK)) h2 xt.gh fun G3 H4 x5=>?_;clear 1 x5 A3
 cases b1 with
 | true =>
  clear 3;exact AN (K:=K) (Bf AK (Aa (A8 A3))) hm xt.gh fun v6 G7 H8 x9 r10=>q v6 G7 H8 (xt.trans x9) r10
 | false =>
  clear 4;exact AN (K:=K) (Bf AK (Aa (A8 A3))) hm xt.gh fun v11 G12 H13 x14 r15=>q v11 G12 H13 (xt.trans x14) r15
theorem IX (F:DIn K mg "_law_chosen" ED)(T:Txt mg):GA P w K mg base:=by
 refine F.okM2 (m:=Bi) Cv fun _ _ _ _ _ H0 _ _ hr G0 AA Bk res As Ew xt A3 BH hm q=>?_;unfold Bi at hm
 refine ⟨_,(A7 (AZ (i:=2) Cv (Ae AC))
   (A7 (Ji PassesOwn.never rfl (Cp rfl T.range_ (A4 (pv 1) AC)) (Bv (i:=3) Cv) (A7 (Au (AU BX (AS Ai (pv 0) A9) A9 (AX _)) (A7 (DH (HS K (pv 2) (pv 3)))
   AD) AD)
   (A7 (AZ (i:=0) Cv (AS B8 (pv 0) A9))
   AD)))
   (A7 (Ad (pv 2))
   AD))),?_⟩
 clear 2 GC h8;refine Ck (K:=K) (AQ (AF (α:=Int))) h8 xt.gh fun p1 vs2 G3 H4 x5 hz6 o7=>?_;clear 1 x5 A3 BH 4 hz6;clear 2 as10 h11 fl12 h13;refine JP (K:=K) (RR:=fun r v G' H'=>Ext G0 H0 G' H'/\Rp.rel K G' v r) (ER (A8 BH)) h11 h13 xt.gh fun G14 H15 x16=>⟨fun s17 S' G' H'=>∃ (v18:V) (v19:Option V),Ext G0 H0 G' H'/\Same G14 G'/\S'=[some v18,some Ew,some (V.ref p1),v19]/\Rp.rel K G' v18 (s17.1:Int)/\(∃ vs,Own K G' H' (V.ref p1) p1 vs s17.2),?_,?_,?_,?_,?_⟩
 ·clear 1 x16 A3 2 o7;exact ⟨As,_,xt,(Same.refl _),rfl,A3,⟨_,o7⟩⟩
 ·rintro _ S' G' H' ⟨v18,v19,xt,mk20,rfl,r21,⟨vs2,o7⟩⟩;exact ⟨mk20,xt.gh⟩
 ·rintro xv22 a23 s17 _ G26 H27 fl24 - ⟨v18,v19,xt,mk20,rfl,r21,⟨vs2,o7⟩⟩ rx25 hm D' kN28 kC29 kB30 kR31;have BH:=Rp.mono (x16.gg.trans mk20) BH;refine Gz ?_;clear 2 b32 h33 s37 h38
  try (with_reducible refine nxt_ ?_;dsimp only)
  refine DW (t:=HM _ _ _) (fun S52 H51=>∃ (G50:Hp) ,Ext G0 H0 G50 H51/\Same G26 G50/\S52=[some v18,some Ew,some (V.ref p1),some xv22]/\(∃ vs,Own K G50 H51 (V.ref p1) p1 vs s37)) (fun nx kn40=>?_) ?_
  ·refine Ag (AL (K:=K) (Ah (Aa (A8 r21)) AK)) h33 xt.gh fun G34 H35 x36=>?_;clear 1 x36 rx25 2 o7;have mk39:Same G26 G34:=x36.gg;have hm:=h38
   cases b32 with
   | true =>
    clear 3;clear 2 a41 h42 z49 h43;refine J0 (K:=K) rfl o7 (A8 rx25) h42 h43 xt.gh fun G44 H45 w46 x47 o48=>?_;have xt:Ext G0 H0 G44 (upd H45 p1 (.lst (vs2++[w46]))):=(xt.trans x47).put hz6 o48.g;clear 0 x47 3 mk39;cases hm;exact kn40 _ _ ⟨G44,xt,mk39,rfl,⟨_,o48⟩⟩
   | false =>
    clear 4;cases hm;exact kn40 _ _ ⟨G34,xt,mk39,rfl,⟨_,o7⟩⟩
  ·rintro _ H51 ⟨G50,xt,mk39,rfl,⟨vs2,o7⟩⟩;have mk20:=mk20.trans mk39;clear 9 mk39 r21;clear 2 AA h58;refine B1 (K:=K) (AY (A8 r21)) h58 xt.gh fun v53 G54 H55 x56 r57=>?_;clear 1 x56 2 o7 3 mk20;cases hm;exact kN28 _ _ _ _ rfl ⟨v53,_,xt,mk20,rfl,r57,⟨_,o7⟩⟩
 ·rintro s17 _ G63 H64 rfl ⟨v59,v60,xt,mk61,rfl,r62,⟨vs2,o7⟩⟩;refine MS ?_;have sf:=Same.new (o:=.lst vs2) o7.g;have xt:=xt.frz hz6 o7.g o7.h;have r65:=o7.tell;exact AN (K:=K) (A8 r65) hm xt.gh fun v66 G67 H68 x69 r70=>q v66 G67 H68 (xt.trans x69) r70
 ·clear 5
theorem LB (F:DIn K mg "_law_cell" FE)(T:Txt mg):FN P w K mg base:=by
 refine F.okM2 (m:=Ar) EZ fun _ _ _ _ _ H0 _ _ hr G0 script_ k_ res Bg v_k_ xt AI IB hm q=>?_;unfold Ar at hm
 refine ⟨_,(A7 (Au (AU EY (pv 1) (Ay K T.len_ (pv 0)) (AX _)) (A7 (Ad (BE K (pv 0) (pv 1)))
   AD) AD)
   (A7 (AZ (i:=2) EZ (Ao K (AS (EK (K:=K) rfl) (pv 1) A9) A9))
   (A7 (Au (AU FT (Ay K T.len_ (pv 0)) A9 (AX _)) (A7 (AZ (i:=2) EZ (AS Ai (Ao K (AS (EK (K:=K) rfl) (BE K (pv 0) (AS Ai (AS (EK (K:=K) rfl) (pv 1) A9) (Ay K T.len_ (pv 0)))) A9) (AS (EK (K:=K) rfl) (pv 1) A9)) A9))
   AD) AD)
   (A7 (Ad (AS Ai (AS (EK (K:=K) rfl) (pv 2) (pv 2)) A9))
   AD)))),?_⟩
 clear 2 b1 h2;refine Ag (AL (K:=K) (DD (A8 IB) (JT (A8 AI)))) h2 xt.gh fun G3 H4 x5=>?_;clear 1 x5 AI IB
 cases b1 with
 | true =>
  clear 3;exact AN (K:=K) (ev_atX (A8 AI) (A8 IB)) hm xt.gh fun v8 G9 H10 x11 r12=>q v8 G9 H10 (xt.trans x11) r12
 | false =>
  clear 4;clear 2 Cy h18;refine B1 (K:=K) (Bf (Gs (A8 IB)) AK) h18 xt.gh fun v13 G14 H15 x16 r17=>?_;clear 1 x16 AI IB;clear 2 b19 h20 s24 h25
  try (with_reducible refine nxt_ ?_;dsimp only)
  refine DW (t:=HM _ _ _) (fun S45 H44=>∃ (G43:Hp) (v27:V),Ext G0 H0 G43 H44/\Same G14 G43/\S45=[some Bg,some v_k_,some v27]/\Rp.rel K G43 v27 (s24:Int)) (fun nx kn29=>?_) ?_
  ·refine Ag (AL (K:=K) (DD (JT (A8 AI)) AK)) h20 xt.gh fun G21 H22 x23=>?_;clear 1 x23 AI IB r17;have mk26:Same G14 G21:=x23.gg;have hm:=h25
   cases b19 with
   | true =>
    clear 3;clear 2 Cy h42;refine B1 (K:=K) (Aa (Bf (Gs (ev_atX (A8 AI) (BL (Gs (A8 IB)) (JT (A8 AI))))) (Gs (A8 IB)))) h42 xt.gh fun v37 G38 H39 x40 r41=>?_;clear 1 x40 3 mk26;cases hm;exact kn29 _ _ ⟨G38,v37,xt,mk26,rfl,r41⟩
   | false =>
    clear 4;cases hm;exact kn29 _ _ ⟨G21,v13,xt,mk26,rfl,r17⟩
  ·rintro _ H44 ⟨G43,v27,xt,mk26,rfl,r28⟩;exact AN (K:=K) (Aa (Js (A8 r28) (A8 r28))) hm xt.gh fun v49 G50 H51 x52 r53=>q v49 G50 H51 (xt.trans x52) r53
theorem LG (F:DIn K mg "_law_lit" GO)(T:Txt mg):J7 P w K mg base:=by
 refine F.okM2 (m:=Cs) DL fun _ _ _ _ _ H0 _ _ hr G0 Bx Kt res BV v_bits_ xt AM Fs hm q=>?_;unfold Cs at hm
 refine ⟨_,(A7 (AZ (i:=2) DL BR)
   (A7 (Ji PassesOwn.never rfl (Cf (K:=K) rfl (B5 (Jz (K:=K) rfl) (by rfl) T.sorted_ Ip (A4 (pv 0) AC))) (Bv (i:=3) DL) (A7 (Au (AU BX (AS Ai (pv 1) A9) A9 (AX _)) (A7 (AZ (i:=2) DL (Ao K (pv 2) (pv 3)))
   AD) AD)
   (A7 (AZ (i:=1) DL (AS B8 (pv 1) A9))
   AD)))
   (A7 (Ad (pv 2))
   AD))),?_⟩
 clear 2 text_ h6;refine B1 (K:=K) C1 h6 xt.gh fun v1 G2 H3 x4 r5=>?_;clear 1 x4 AM Fs;clear 2 as8 h9 fl10 h11;refine JP (K:=K) (RR:=fun r v G' H'=>Ext G0 H0 G' H'/\Rp.rel K G' v r) (Gy (FV.ev (fv_sortS (A8 AM)))) h9 h11 xt.gh fun G12 H13 x14=>⟨fun s15 S' G' H'=>∃ (v16:V) (v17:V) (v18:Option V),Ext G0 H0 G' H'/\Same G12 G'/\S'=[some BV,some v16,some v17,v18]/\Rp.rel K G' v16 (s15.1:Int)/\Rp.rel K G' v17 (s15.2:Str),?_,?_,?_,?_,?_⟩
 ·clear 1 x14 Fs r5;exact ⟨v_bits_,v1,_,xt,(Same.refl _),rfl,Fs,r5⟩
 ·rintro _ S' G' H' ⟨v16,v17,v18,xt,mk19,rfl,r20,r21⟩;exact ⟨mk19,xt.gh⟩
 ·rintro xv22 a23 s15 _ G26 H27 fl24 - ⟨v16,v17,v18,xt,mk19,rfl,r20,r21⟩ rx25 hm D' kN28 kC29 kB30 kR31;have AM:=Rp.mono (x14.gg.trans mk19) AM;refine Gz ?_;clear 2 b32 h33 s37 h38
  try (with_reducible refine nxt_ ?_;dsimp only)
  refine DW (t:=HM _ _ _) (fun S53 H52=>∃ (G51:Hp) (v40:V),Ext G0 H0 G51 H52/\Same G26 G51/\S53=[some BV,some v16,some v40,some xv22]/\Rp.rel K G51 v40 (s37:Str)) (fun nx kn42=>?_) ?_
  ·refine Ag (AL (K:=K) (Ah (Aa (A8 r20)) AK)) h33 xt.gh fun G34 H35 x36=>?_;clear 1 x36 r21 rx25;have mk39:Same G26 G34:=x36.gg;have hm:=h38
   cases b32 with
   | true =>
    clear 3;clear 2 text_ h50;refine B1 (K:=K) (ev_catS (A8 r21) (A8 rx25)) h50 xt.gh fun v45 G46 H47 x48 r49=>?_;clear 1 x48 3 mk39;cases hm;exact kn42 _ _ ⟨G46,v45,xt,mk39,rfl,r49⟩
   | false =>
    clear 4;cases hm;exact kn42 _ _ ⟨G34,v17,xt,mk39,rfl,r21⟩
  ·rintro _ H52 ⟨G51,v40,xt,mk39,rfl,r41⟩;have mk19:=mk19.trans mk39;clear 9 mk39 r20;clear 2 Kt h59;refine B1 (K:=K) (AY (A8 r20)) h59 xt.gh fun v54 G55 H56 x57 r58=>?_;clear 1 x57 r41 3 mk19;cases hm;exact kN28 _ _ _ _ rfl ⟨v54,v40,_,xt,mk19,rfl,r58,r41⟩
 ·rintro s15 _ G66 H67 rfl ⟨v60,v61,v62,xt,mk63,rfl,r64,r65⟩;refine MS ?_;exact AN (K:=K) (A8 r65) hm xt.gh fun v68 G69 H70 x71 r72=>q v68 G69 H70 (xt.trans x71) r72
 ·clear 5
theorem Hh (F:DIn K mg "_law_machine" Dm)(T:Txt mg)(EO:Fe P w K mg base)(DI:GA P w K mg base)(B4:FN P w K mg base)(GK:J7 P w K mg base):FD P w K mg base:=by
 refine F.okM2 (m:=Bw) An fun _ _ _ _ _ H0 _ _ hr G0 script_ Bx res Bg BV xt AI AM hm q=>?_;unfold Bw at hm
 refine ⟨_,(A7 (AZ (i:=2) An (Al EO hr (by decide) rfl (A4 (Al B4 hr (by decide) rfl (A4 (pv 0) (A4 A9 AC))) AC)))
   (A7 (AZ (i:=3) An (AS (EK (K:=K) rfl) A9 (pv 2)))
   (A7 (Au (AU BX (AS Ai (AS B8 (Al B4 hr (by decide) rfl (A4 (pv 0) (A4 A9 AC))) A9) A9) A9 (AX _)) (A7 (AZ (i:=3) An (AS (EK (K:=K) rfl) (pv 2) (pv 2)))
   AD) AD)
   (A7 (AZ (i:=4) An (Ae AC))
   (A7 (Ji PassesOwn.never rfl (Cp rfl T.range_ (A4 (AS Ai (Al B4 hr (by decide) rfl (A4 (pv 0) (A4 A9 AC))) (Ao K (B5 (Mk rfl) (by rfl) T.min_ bt_min (A4 A9 (A4 (pv 3) AC))) A9)) AC)) (Bv (i:=5) An) (A7 (AZ (i:=6) An (Al B4 hr (by decide) rfl (A4 (pv 0) (A4 (Ao K A9 (pv 5)) AC))))
   (A7 (AZ (i:=7) An (Ap (A4 (AS Ai (AS B8 (pv 6) A9) (pv 2)) (A4 (AS Ai (pv 6) (pv 2)) AC))))
   (A7 (Au (AU EY (pv 5) (pv 2) (AX _)) (A7 (AZ (i:=7) An (Ap (A4 (pv 5) (A4 (AS Ai (pv 6) (pv 2)) AC))))
   AD) AD)
   (A7 (Au (AU (Mu (K:=K) rfl (Int × Int) hr (by decide)) (pv 7) (pv 4) rfl) (A7 (DH (HS K (pv 4) (pv 7)))
   AD) AD)
   AD)))))
   (A7 (HP (i:=8) (nd_of An) rfl (Or.inl rfl) (cn:=["_law_letters_here","_law_script"]) (cap:=[1,0]) rfl ⟨by decide +kernel,rfl,by decide +kernel,C3 rfl⟩ rfl (by decide +kernel) ⟨⟨rfl,.inl rfl,rfl⟩,⟨rfl,.inl rfl,rfl⟩,trivial⟩ (Cp rfl T.range_ (A4 (pv 2) AC)) (fun C s0 H0 fp=>⟨C4,(Al GK hr (by decide) rfl (A4 (pv 1) (A4 (AS Ai (Al B4 hr (by decide) rfl (A4 (pv 2) (A4 (Ao K A9 (pv 0)) AC))) A9) AC)))⟩))
   (A7 (AZ (i:=9) An (Al DI hr (by decide) rfl (A4 (Al B4 hr (by decide) rfl (A4 (pv 0) (A4 A9 AC))) (A4 (pv 2) AC))))
   (A7 (Au (AU BX (AS Ai (AS B8 (Al B4 hr (by decide) rfl (A4 (pv 0) (A4 A9 AC))) A9) A9) A9 (AX _)) (A7 (AZ (i:=9) An (pe_sortR (K:=K) rfl (by rfl) T.sorted_ (A4 (pv 9) AC)))
   AD) AD)
   (A7 (HP (i:=10) (nd_of An) rfl (Or.inl rfl) (cn:=["_law_script","_law_ways"]) (cap:=[0,4]) rfl ⟨by decide +kernel,rfl,by decide +kernel,C3 rfl⟩ rfl (by decide +kernel) ⟨⟨rfl,.inl rfl,rfl⟩,⟨rfl,.inl rfl,rfl⟩,trivial⟩ (Cp rfl T.range_ (A4 (AS Ai (Al B4 hr (by decide) rfl (A4 (pv 0) (A4 A9 AC))) A9) AC)) (fun C s0 H0 fp=>⟨C4,(Al DI hr (by decide) rfl (A4 (Al B4 hr (by decide) rfl (A4 (pv 1) (A4 (Ao K A9 (pv 0)) AC))) (A4 (Ay K T.len_ (pv 2)) AC)))⟩))
   (A7 (Ad (Ap (A4 (pv 8) (A4 (pv 4) (A4 (pv 9) (A4 (pv 10) AC))))))
   AD)))))))))),?_⟩
 clear 2 Bk h9;refine B1 (K:=K) (Ch (m:=F7) (B7 (m:=B9) (A8 AI) AK)) h9 xt.gh fun v4 G5 H6 x7 r8=>?_;clear 1 x7 AI AM;clear 2 L5 h15;refine B1 (K:=K) (ev_mulL (A8 r8)) h15 xt.gh fun v10 G11 H12 x13 r14=>?_;clear 1 x13 AI AM r8;clear 2 b21 h22 s26 h27
 try (with_reducible refine nxt_ ?_;dsimp only)
 refine DW (t:=HM _ _ _) (fun S42 H41=>∃ (G40:Hp) (v29:V),Ext G0 H0 G40 H41/\Same G11 G40/\S42=[some Bg,some BV,some v4,some v29,none,none,none,none,none,none,none]/\Rp.rel K G40 v29 (s26:Int)) (fun nx kn31=>?_) ?_
 ·refine Ag (AL (K:=K) (Ah (Aa (AY (B7 (m:=B9) (A8 AI) AK))) AK)) h22 xt.gh fun G23 H24 x25=>?_;clear 1 x25 r8 r14;have mk28:Same G11 G23:=x25.gg;have hm:=h27
  cases b21 with
  | true =>
   clear 3;clear 2 L5 h39;refine B1 (K:=K) (Js (A8 r8) (A8 r8)) h39 xt.gh fun v34 G35 H36 x37 r38=>?_;clear 1 x37 3 mk28;cases hm;exact kn31 _ _ ⟨G35,v34,xt,mk28,rfl,r38⟩
  | false =>
   clear 4;cases hm;exact kn31 _ _ ⟨G23,v10,xt,mk28,rfl,r14⟩
 ·rintro _ H41 ⟨G40,v29,xt,mk28,rfl,r30⟩;clear 9 mk28 AI AM r8;clear 2 ways_ h50;refine Ck (K:=K) (AQ (AF (α:=(Int × Int)))) h50 xt.gh fun p43 vs44 G45 H46 x47 hz48 o49=>?_;clear 1 x47 AI AM r8 r30 4 hz48;clear 2 as56 h57 fl58 h59;refine JP (K:=K) (RR:=fun r v G' H'=>Ext G0 H0 G' H'/\Rp.rel K G' v r) (ER (BL (B7 (m:=B9) (A8 AI) AK) (Bf (ev_min AK (A8 r30)) AK))) h57 h59 xt.gh fun G60 H61 x62=>⟨fun s63 S' G' H'=>∃ (v64:Option V) (v65:Option V) (v66:Option V),Ext G0 H0 G' H'/\Same G60 G'/\S'=[some Bg,some BV,some v4,some v29,some (V.ref p43),v64,v65,v66,none,none,none]/\(∃ vs,Own K G' H' (V.ref p43) p43 vs s63),?_,?_,?_,?_,?_⟩
  ·clear 1 x62 2 o49;exact ⟨_,_,_,xt,(Same.refl _),rfl,⟨_,o49⟩⟩
  ·rintro _ S' G' H' ⟨v64,v65,v66,xt,mk67,rfl,⟨vs44,o49⟩⟩;exact ⟨mk67,xt.gh⟩
  ·rintro xv68 a69 s63 _ G72 H73 fl70 - ⟨v64,v65,v66,xt,mk67,rfl,⟨vs44,o49⟩⟩ rx71 hm D' kN74 kC75 kB76 kR77;have AI:=Rp.mono (x62.gg.trans mk67) AI;have AM:=Rp.mono (x62.gg.trans mk67) AM;have r8:=Rp.mono (x62.gg.trans mk67) r8;have r30:=Rp.mono (x62.gg.trans mk67) r30;refine Gz ?_;clear 2 AA h85;refine B1 (K:=K) (B7 (m:=B9) (A8 AI) (Bf AK (A8 rx71))) h85 xt.gh fun v80 G81 H82 x83 r84=>?_;clear 1 x83 AI AM r8 r30 rx71 2 o49 3 mk67;clear 2 way_ h97;refine B1 (K:=K) (HB (BL (AY (A8 r84)) (A8 r8)) (BL (A8 r84) (A8 r8))) h97 xt.gh fun v92 G93 H94 x95 r96=>?_;clear 1 x95 AI AM r8 r30 rx71 r84 2 o49 3 mk67;clear 2 b98 h99 s103 h104
   try (with_reducible refine nxt_ ?_;dsimp only)
   refine DW (t:=HM _ _ _) (fun S122 H121=>∃ (G120:Hp) (v106:V),Ext G0 H0 G120 H121/\Same G93 G120/\S122=[some Bg,some BV,some v4,some v29,some (V.ref p43),some xv68,some v80,some v106,none,none,none]/\Rp.rel K G120 v106 (s103:(Int × Int))/\Own K G120 H121 (V.ref p43) p43 vs44 s63) (fun nx kn108=>?_) ?_
   ·refine Ag (AL (K:=K) (DD (A8 rx71) (A8 r8))) h99 xt.gh fun G100 H101 x102=>?_;clear 1 x102 r8 rx71 r84 r96 2 o49;have mk105:Same G93 G100:=x102.gg;have hm:=h104
    cases b98 with
    | true =>
     clear 3;clear 2 way_ h119;refine B1 (K:=K) (HB (A8 rx71) (BL (A8 r84) (A8 r8))) h119 xt.gh fun v114 G115 H116 x117 r118=>?_;clear 1 x117 2 o49 3 mk105;cases hm;exact kn108 _ _ ⟨G115,v114,xt,mk105,rfl,r118,o49⟩
    | false =>
     clear 4;cases hm;exact kn108 _ _ ⟨G100,v92,xt,mk105,rfl,r96,o49⟩
   ·rintro _ H121 ⟨G120,v106,xt,mk105,rfl,r107,o49⟩;have mk67:=mk67.trans mk105;clear 2 b123 h124;refine sv_ifB o49 (AL (K:=K) (LH (A8 (Rp.mono (Same.new o49.g) r107)) (A8 o49.tell))) h124 xt.gh fun G125 H126 x127=>?_;clear 1 x127 r107 2 o49 3 mk67
    cases b123 with
    | true =>
     clear 3;clear 2 a128 h129 z136 h130;refine J0 (K:=K) rfl o49 (A8 r107) h129 h130 xt.gh fun G131 H132 w133 x134 o135=>?_;have xt:Ext G0 H0 G131 (upd H132 p43 (.lst (vs44++[w133]))):=(xt.trans x134).put hz48 o135.g;clear 0 x134 3 mk67;cases hm;exact kN74 _ _ _ _ rfl ⟨_,_,_,xt,mk67,rfl,⟨_,o135⟩⟩
    | false =>
     clear 4;cases hm;exact kN74 _ _ _ _ rfl ⟨_,_,_,xt,mk67,rfl,⟨_,o49⟩⟩
  ·rintro s63 _ G141 H142 rfl ⟨v137,v138,v139,xt,mk140,rfl,⟨vs44,o49⟩⟩;refine MS ?_;have AI:=Rp.mono (x62.gg.trans mk140) AI;have AM:=Rp.mono (x62.gg.trans mk140) AM;have r8:=Rp.mono (x62.gg.trans mk140) r8;have r30:=Rp.mono (x62.gg.trans mk140) r30;clear 2 lit_here_ h159;refine B1 (K:=K) (FV.ev (CZ (cap:=[1,0]) (fe:=fun (k_:Int)=>((some Bx).bind fun t151=>(((some script_).bind fun t148=>(some ((32:Int)+k_)).bind fun t149=>Ar t148 t149).bind fun t150=>(some (t150 % (16:Int)))).bind fun t152=>Cs t151 t152)) (ER (A8 r8)) fun xc147 k_ Gc144 sc145 rc146=>(B7 (m:=ID) (A8 (Rp.mono sc145 AM)) (Aa (B7 (m:=B9) (A8 (Rp.mono sc145 AI)) (Bf AK (A8 rc146))))))) h159 xt.gh fun v154 G155 H156 x157 r158=>?_;clear 1 x157 AI AM r8 r30 2 o49;clear 2 starts_ h169;refine B1 (K:=K) (B7 (m:=Do) (B7 (m:=B9) (A8 AI) AK) (A8 r8)) h169 xt.gh fun v164 G165 H166 x167 r168=>?_;clear 1 x167 AI AM r8 r30 r158 2 o49;clear 2 b175 h176 s180 h181
   try (with_reducible refine nxt_ ?_;dsimp only)
   refine DW (t:=HM _ _ _) (fun S195 H194=>∃ (G193:Hp) (v183:V),Ext G0 H0 G193 H194/\Same G165 G193/\S195=[some Bg,some BV,some v4,some v29,some (V.ref p43),v137,v138,v139,some v154,some v183,none]/\Rp.rel K G193 v183 (s180:(List Int))/\Own K G193 H194 (V.ref p43) p43 vs44 s63) (fun nx kn185=>?_) ?_
   ·refine Ag (AL (K:=K) (Ah (Aa (AY (B7 (m:=B9) (A8 AI) AK))) AK)) h176 xt.gh fun G177 H178 x179=>?_;clear 1 x179 r168 2 o49;have mk182:Same G165 G177:=x179.gg;have hm:=h181
    cases b175 with
    | true =>
     clear 3;clear 2 starts_ h192;refine B1 (K:=K) (FV.ev (fv_sortR (A8 r168))) h192 xt.gh fun v187 G188 H189 x190 r191=>?_;clear 1 x190 2 o49 3 mk182;cases hm;exact kn185 _ _ ⟨G188,v187,xt,mk182,rfl,r191,o49⟩
    | false =>
     clear 4;cases hm;exact kn185 _ _ ⟨G177,v164,xt,mk182,rfl,r168,o49⟩
   ·rintro _ H194 ⟨G193,v183,xt,mk182,rfl,r184,o49⟩;clear 9 mk182 AI r158;have sf:=Same.new (o:=.lst vs44) o49.g;have xt:=xt.frz hz48 o49.g o49.h;have r209:=o49.tell;clear 9 sf AI r158 r184;clear 2 marks_ h228;refine B1 (K:=K) (FV.ev (CZ (cap:=[0,4]) (fe:=fun (k_:Int)=>(((some script_).bind fun t218=>(some ((5:Int)+k_)).bind fun t219=>Ar t218 t219).bind fun t220=>(some (s63.length:Int)).bind fun t221=>Bi t220 t221)) (ER (Aa (B7 (m:=B9) (A8 AI) AK))) fun xc217 k_ Gc214 sc215 rc216=>(B7 (m:=Do) (B7 (m:=B9) (A8 (Rp.mono sc215 AI)) (Bf AK (A8 rc216))) (BP (A8 (Rp.mono sc215 r209)))))) h228 xt.gh fun v223 G224 H225 x226 r227=>?_;clear 1 x226 r209 r158 r184;exact AN (K:=K) (MO (A8 r158) (A8 r209) (A8 r184) (A8 r227)) hm xt.gh fun v229 G230 H231 x232 r233=>q v229 G230 H231 (xt.trans x232) r233
  ·clear 5
theorem Hw {f:Addr}{fd:FuncData}(F:Fun K "_law_copied" "_law_copied" DG f fd):FnOk P w K mg base CX0 1 f fd ["_law_thing"] (spM K (Bb 0)):=by
 refine F.ok FC (fun vs H Q E h=>(Ez h).trans rfl) (fun cdv A outer s H0 vs Q E hr h=>?_);obtain ⟨_,_,_,_,_,hm,_⟩:=h;exact nomatch (hm:none=some _)
theorem Ib {f:Addr}{fd:FuncData}(F:Fun K "_law_copied" "_law_copied" DG f fd)(T:Txt mg)(Eh:Nat)(C9:DefOk P w K mg base "_law_copied" (1+Eh) ["_law_thing"] (spM K (Bb Eh))):FnOk P w K mg base CX0 (1+Eh+1) f fd ["_law_thing"] (spM K (Bb (Eh+1))):=by
 refine F.ok FC (fun vs H Q E h=>(Ez h).trans rfl) (fun cdv A outer s H0 vs Q E hr h=>?_);obtain ⟨G0,⟨AW,⟨⟩⟩,res,sg0,⟨BA,_,rfl,AJ,rfl⟩,hm,q⟩:=h;replace AJ:Rp.rel K G0 BA AW:=AJ;replace hm:Be (Br Eh) AW=some res:=hm;unfold Be at hm;have xt:Ext G0 H0 G0 H0:=Ext.refl sg0
 refine ⟨_,(A7 (Au (BJ K (B5 (BW (K:=K) rfl) (by rfl) T.isinstance_ B2 (A4 (pv 0) (A4 (CI (v:=.ty "list") rfl T.list_ CJ rfl) AC)))) (A7 (Ad (CL (cn:=[]) (cap:=[]) rfl ⟨by decide +kernel,rfl,by decide +kernel,C3 rfl⟩ rfl (by decide +kernel) trivial (Cf (K:=K) rfl (pv 0)) (fun C s0 H0 fp=>⟨C4,(Al C9 hr (by omega) rfl (A4 (pv 0) AC))⟩)))
   AD) AD)
   (A7 (Au (BJ K (B5 (BW (K:=K) rfl) (by rfl) T.isinstance_ B2 (A4 (pv 0) (A4 (CI (v:=.ty "tuple") rfl T.tuple_ DS rfl) AC)))) (A7 (Ad (BG (Ey (K:=K) rfl) (by rfl) T.tuple_ DS (A4 (CL (cn:=[]) (cap:=[]) rfl ⟨by decide +kernel,rfl,by decide +kernel,C3 rfl⟩ rfl (by decide +kernel) trivial (Cf (K:=K) rfl (pv 0)) (fun C s0 H0 fp=>⟨C4,(Al C9 hr (by omega) rfl (A4 (pv 0) AC))⟩)) AC)))
   AD) AD)
   (A7 (Ad (pv 0))
   AD))),?_⟩
 clear 2 b1 h2;refine Ag (FI (K:=K) (C7 (by decide) (A8 AJ))) h2 xt.gh fun G3 H4 x5=>?_;clear 1 x5 AJ
 cases b1 with
 | true =>
  clear 3;exact AN (K:=K) (A6 (FV.ev (CZ (cap:=[]) (fe:=fun (one_:D)=>((some one_).bind fun t11=>(Br Eh) t11)) (FS (A8 AJ)) fun xc10 one_ Gc7 sc8 rc9=>(Ch (m:=Bb Eh) (A8 rc9))))) hm xt.gh fun v14 G15 H16 x17 r18=>q v14 G15 H16 (xt.trans x17) r18
 | false =>
  clear 4;clear 2 b19 h20;refine Ag (FI (K:=K) (C7 (by decide) (A8 AJ))) h20 xt.gh fun G21 H22 x23=>?_;clear 1 x23 AJ
  cases b19 with
  | true =>
   clear 3;exact AN (K:=K) (A6 (CG (FV.ev (CZ (cap:=[]) (fe:=fun (one_:D)=>((some one_).bind fun t29=>(Br Eh) t29)) (FS (A8 AJ)) fun xc28 one_ Gc25 sc26 rc27=>(Ch (m:=Bb Eh) (A8 rc27)))))) hm xt.gh fun v33 G34 H35 x36 r37=>q v33 G34 H35 (xt.trans x36) r37
  | false =>
   clear 4;exact AN (K:=K) (A8 AJ) hm xt.gh fun v38 G39 H40 x41 r42=>q v38 G39 H40 (xt.trans x41) r42
theorem FK (F:DIn K mg "is_number_below" Cg)(T:Txt mg):Ce P w K mg base:=by
 refine F.okM2 (m:=Aj) FO fun _ _ _ _ _ H0 _ _ hr G0 AW Bm res BA D1 xt AJ AG hm q=>?_;unfold Aj at hm
 refine ⟨_,(A7 (Ad (HQ (B5 (BW (K:=K) rfl) (by rfl) T.isinstance_ B2 (A4 (pv 0) (A4 (CI (v:=.ty "int") rfl T.int_ JR rfl) AC))) (HQ (pe_not (B5 (BW (K:=K) rfl) (by rfl) T.isinstance_ B2 (A4 (pv 0) (A4 (CI (v:=.ty "bool") rfl T.bool_ Mf rfl) AC)))) (IJ (pe_chain op_leU EY A9 (pv 0) (pv 1))))))
   AD),?_⟩
 exact AN (K:=K) (Hg (C7 (by decide) (A8 AJ)) (Hg (ev_not (C7 (by decide) (A8 AJ))) (ev_chain AK (NX (A8 AJ)) (A8 AG)))) hm xt.gh fun v8 G9 H10 x11 r12=>q v8 G9 H10 (xt.trans x11) r12
theorem F2 (F:DIn K mg "are_numbers_once" CN)(T:Txt mg)(BD:Ce P w K mg base):CT P w K mg base:=by
 refine F.okM2 (m:=AH) F3 fun _ _ _ _ _ H0 _ _ hr G0 AW Bm res BA D1 xt AJ AG hm q=>?_;unfold AH at hm
 refine ⟨_,(A7 (Au (PW.pt (E7 (D8 (BJ K (B5 (BW (K:=K) rfl) (by rfl) T.isinstance_ B2 (A4 (pv 0) (A4 (CI (v:=.ty "list") rfl T.list_ CJ rfl) AC))))) (Dg (D8 (BJ K (B5 (F0 (K:=K) rfl rfl) (by rfl) T.all_ JZ (A4 (CL (cn:=["count"]) (cap:=[1]) rfl ⟨by decide +kernel,rfl,by decide +kernel,C3 rfl⟩ rfl (by decide +kernel) ⟨⟨rfl,.inl rfl,rfl⟩,trivial⟩ (Cf (K:=K) rfl (pv 0)) (fun C s0 H0 fp=>⟨C4,(Al BD hr (by decide) rfl (A4 (pv 0) (A4 (pv 1) AC)))⟩)) AC))))))) (A7 (Ad C2)
   AD) AD)
   (A7 (Ad (Dd BX (B5 (Ka (w:=w) rfl) (by rfl) T.len_ LO (A4 (BG (NP (K:=K) (w:=w) rfl rfl rfl) (by rfl) T.set_ bt_set (A4 (pv 0) AC)) AC)) (Ay K T.len_ (pv 0)) (AX _)))
   AD)),?_⟩
 clear 2 b12 h13;refine Ag (E2 (DA (FI (K:=K) (C7 (by decide) (A8 AJ)))) (DA (FI (K:=K) (JI (FV.ev (CZ (cap:=[1]) (fe:=fun (Cy:D)=>((some Cy).bind fun t6=>(some Bm).bind fun t7=>Aj t6 t7)) (FS (A8 AJ)) fun xc5 Cy Gc2 sc3 rc4=>(B7 (m:=Bt) (A8 rc4) (A8 (Rp.mono sc3 AG))))))))) h13 xt.gh fun G14 H15 x16=>?_;clear 1 x16 AJ
 cases b12 with
 | true =>
  clear 3;exact AN (K:=K) (rest:=DN) (σ:=[some BA,some D1]) DC hm xt.gh fun v17 G18 H19 x20 r21=>q v17 G18 H19 (xt.trans x20) r21
 | false =>
  clear 4;exact AN (K:=K) (Ah (NR (w:=w) (NU (A8 AJ))) (CY (A8 AJ))) hm xt.gh fun v28 G29 H30 x31 r32=>q v28 G29 H30 (xt.trans x31) r32
theorem Jg (F:DIn K mg "are_marks" Ej)(T:Txt mg)(BK:CT P w K mg base):GX P w K mg base:=by
 refine F.okM2 (m:=Am) JQ fun _ _ _ _ _ H0 _ _ hr G0 AW many_ways_ res BA Jv xt AJ EI hm q=>?_;unfold Am at hm
 refine ⟨_,(A7 (Au (PW.pt (E7 (D8 (BJ K (B5 (BW (K:=K) rfl) (by rfl) T.isinstance_ B2 (A4 (pv 0) (A4 (CI (v:=.ty "list") rfl T.list_ CJ rfl) AC))))) (Dg (AU FT (Ay K T.len_ (pv 0)) (Hz rfl T.MOST_MARKS) (AX _))))) (A7 (Ad C2)
   AD) AD)
   (A7 (Ad (B5 (F0 (K:=K) rfl rfl) (by rfl) T.all_ JZ (A4 (CL (cn:=["many_ways"]) (cap:=[1]) rfl ⟨by decide +kernel,rfl,by decide +kernel,C3 rfl⟩ rfl (by decide +kernel) ⟨⟨rfl,.inl rfl,rfl⟩,trivial⟩ (Cf (K:=K) rfl (pv 0)) (fun C s0 H0 fp=>⟨C4,(Al BK hr (by decide) rfl (A4 (pv 0) (A4 (pv 1) AC)))⟩)) AC)))
   AD)),?_⟩
 clear 2 b4 h5;refine Ag (E2 (DA (FI (K:=K) (C7 (by decide) (A8 AJ)))) (AL (K:=K) (DD (CY (A8 AJ)) AK))) h5 xt.gh fun G6 H7 x8=>?_;clear 1 x8 AJ EI
 cases b4 with
 | true =>
  clear 3;exact AN (K:=K) (rest:=DN) (σ:=[some BA,some Jv]) DC hm xt.gh fun v9 G10 H11 x12 r13=>q v9 G10 H11 (xt.trans x12) r13
 | false =>
  clear 4;exact AN (K:=K) (JI (FV.ev (CZ (cap:=[1]) (fe:=fun (mark_:D)=>((some mark_).bind fun t19=>(some many_ways_).bind fun t20=>AH t19 t20)) (FS (A8 AJ)) fun xc18 mark_ Gc15 sc16 rc17=>(B7 (m:=CF) (A8 rc17) (A8 (Rp.mono sc16 EI)))))) hm xt.gh fun v23 G24 H25 x26 r27=>q v23 G24 H25 (xt.trans x26) r27
theorem JS (F:DIn K mg "is_moment" Et)(T:Txt mg):Gj P w K mg base:=by
 refine F.okM1 (m:=Az) DF fun _ _ _ _ _ H0 _ _ hr G0 AW res BA xt AJ hm q=>?_;unfold Az at hm
 refine ⟨_,(A7 (Au (D8 (BJ K (B5 (BW (K:=K) rfl) (by rfl) T.isinstance_ B2 (A4 (pv 0) (A4 (CI (v:=.ty "str") rfl T.str_ bt_str rfl) AC))))) (A7 (Ad C2)
   AD) AD)
   (A7 (AZ (i:=1) DF BR)
   (A7 (Ji PassesOwn.never rfl (Cf (K:=K) rfl (pv 0)) (Bv (i:=2) DF) (A7 (Au (PW.pt (E7 (AU EY (pv 2) BR (AX _)) (E7 (AU FT (pv 2) BR (AX _)) (Dg (AU op_leU (pv 2) (pv 1) (AX _)))))) (A7 (Ad C2)
   AD) AD)
   (A7 (AZ (i:=1) DF (pv 2))
   AD)))
   (A7 (Ad C2)
   AD)))),?_⟩
 clear 2 b1 h2;refine Ag (DA (FI (K:=K) (C7 (by decide) (A8 AJ)))) h2 xt.gh fun G3 H4 x5=>?_;clear 1 x5 AJ
 cases b1 with
 | true =>
  clear 3;exact AN (K:=K) (rest:=DN) (σ:=[some BA,none,none]) DC hm xt.gh fun v6 G7 H8 x9 r10=>q v6 G7 H8 (xt.trans x9) r10
 | false =>
  clear 4;clear 2 Kp h16;refine B1 (K:=K) C1 h16 xt.gh fun v11 G12 H13 x14 r15=>?_;clear 1 x14 AJ;clear 2 as18 h19 fl20 h21;refine JP (K:=K) (RR:=fun r v G' H'=>Ext G0 H0 G' H'/\Rp.rel K G' v r) (FS (A8 AJ)) h19 h21 xt.gh fun G22 H23 x24=>⟨fun s25 S' G' H'=>∃ (v26:V) (v27:Option V),Ext G0 H0 G' H'/\Same G22 G'/\S'=[some BA,some v26,v27]/\Rp.rel K G' v26 (s25:Str),?_,?_,?_,?_,?_⟩
  ·clear 1 x24 r15;exact ⟨v11,_,xt,(Same.refl _),rfl,r15⟩
  ·rintro _ S' G' H' ⟨v26,v27,xt,mk28,rfl,r29⟩;exact ⟨mk28,xt.gh⟩
  ·rintro xv30 a31 s25 _ G34 H35 fl32 - ⟨v26,v27,xt,mk28,rfl,r29⟩ rx33 hm D' kN36 kC37 kB38 kR39;refine Gz ?_;clear 2 b48 h49;refine Ag (E2 (AL (K:=K) (Jf (Fk (A8 rx33)) C1)) (E2 (AL (K:=K) (Jf (Fk (A8 rx33)) C1)) (AL (K:=K) (Jf (Fk (A8 rx33)) (A8 r29))))) h49 xt.gh fun G50 H51 x52=>?_;clear 1 x52 rx33 3 mk28
   cases b48 with
   | true =>
    clear 3;clear 2 rr58 h59;cases hm;exact AN (K:=K) (rest:=DN) (σ:=[some BA,some v26,some xv30]) DC h59 xt.gh fun v53 G54 H55 x56 r57=>kR39 _ v53 G54 H55 rfl ⟨xt.trans x56,r57⟩
   | false =>
    clear 4;clear 2 Kp h66;refine B1 (K:=K) (Fk (A8 rx33)) h66 xt.gh fun v61 G62 H63 x64 r65=>?_;clear 1 x64 3 mk28;cases hm;exact kN36 _ _ _ _ rfl ⟨v61,_,xt,mk28,rfl,r65⟩
  ·rintro s25 _ G71 H72 rfl ⟨v67,v68,xt,mk69,rfl,r70⟩;refine MS ?_;exact AN (K:=K) (rest:=DN) (σ:=[some BA,some v67,v68]) DC hm xt.gh fun v73 G74 H75 x76 r77=>q v73 G74 H75 (xt.trans x76) r77
  ·clear 5
theorem Hv (F:DIn K mg "are_moments" Dj)(T:Txt mg)(Ed:Gj P w K mg base):F8 P w K mg base:=by
 refine F.okM1 (m:=Ac) Hu fun _ _ _ _ _ H0 _ _ hr G0 AW res BA xt AJ hm q=>?_;unfold Ac at hm
 refine ⟨_,(A7 (Au (PW.pt (E7 (D8 (BJ K (B5 (BW (K:=K) rfl) (by rfl) T.isinstance_ B2 (A4 (pv 0) (A4 (CI (v:=.ty "list") rfl T.list_ CJ rfl) AC))))) (E7 (AU BX (Ay K T.len_ (pv 0)) A9 (AX _)) (Dg (AU FT (Ay K T.len_ (pv 0)) (Hz rfl T.MOST_STATES) (AX _)))))) (A7 (Ad C2)
   AD) AD)
   (A7 (Ad (B5 (F0 (K:=K) rfl rfl) (by rfl) T.all_ JZ (A4 (CL (cn:=[]) (cap:=[]) rfl ⟨by decide +kernel,rfl,by decide +kernel,C3 rfl⟩ rfl (by decide +kernel) trivial (Cf (K:=K) rfl (pv 0)) (fun C s0 H0 fp=>⟨C4,(Al Ed hr (by decide) rfl (A4 (pv 0) AC))⟩)) AC)))
   AD)),?_⟩
 clear 2 b7 h8;refine Ag (E2 (DA (FI (K:=K) (C7 (by decide) (A8 AJ)))) (E2 (AL (K:=K) (Ah (CY (A8 AJ)) AK)) (AL (K:=K) (DD (CY (A8 AJ)) AK)))) h8 xt.gh fun G9 H10 x11=>?_;clear 1 x11 AJ
 cases b7 with
 | true =>
  clear 3;exact AN (K:=K) (rest:=DN) (σ:=[some BA]) DC hm xt.gh fun v12 G13 H14 x15 r16=>q v12 G13 H14 (xt.trans x15) r16
 | false =>
  clear 4;exact AN (K:=K) (JI (FV.ev (CZ (cap:=[]) (fe:=fun (Gw:D)=>((some Gw).bind fun t22=>Az t22)) (FS (A8 AJ)) fun xc21 Gw Gc18 sc19 rc20=>(Ch (m:=Fu) (A8 rc20))))) hm xt.gh fun v25 G26 H27 x28 r29=>q v25 G26 H27 (xt.trans x28) r29
theorem NT (F:DIn K mg "is_way" HK)(T:Txt mg)(BD:Ce P w K mg base):Kh P w K mg base:=by
 refine F.okM2 (m:=DK) NY fun _ _ _ _ _ H0 _ _ hr G0 AW Bm res BA D1 xt AJ AG hm q=>?_;unfold DK at hm
 refine ⟨_,(A7 (Au (PW.pt (E7 (D8 (BJ K (B5 (BW (K:=K) rfl) (by rfl) T.isinstance_ B2 (A4 (pv 0) (A4 (CI (v:=.ty "tuple") rfl T.tuple_ DS rfl) AC))))) (Dg (AU Lz (Ay K T.len_ (pv 0)) A9 (AX _))))) (A7 (Ad C2)
   AD) AD)
   (A7 (Ad (HQ (Al BD hr (by decide) rfl (A4 (BE K (pv 0) A9) (A4 (pv 1) AC))) (IJ (Al BD hr (by decide) rfl (A4 (BE K (pv 0) A9) (A4 (pv 1) AC))))))
   AD)),?_⟩
 clear 2 b4 h5;refine Ag (E2 (DA (FI (K:=K) (C7 (by decide) (A8 AJ)))) (AL (K:=K) (Lg (CY (A8 AJ)) AK))) h5 xt.gh fun G6 H7 x8=>?_;clear 1 x8 AJ AG
 cases b4 with
 | true =>
  clear 3;exact AN (K:=K) (rest:=DN) (σ:=[some BA,some D1]) DC hm xt.gh fun v9 G10 H11 x12 r13=>q v9 G10 H11 (xt.trans x12) r13
 | false =>
  clear 4;exact AN (K:=K) (Hg (B7 (m:=Bt) (GN (A8 AJ) AK) (A8 AG)) (B7 (m:=Bt) (GN (A8 AJ) AK) (A8 AG))) hm xt.gh fun v23 G24 H25 x26 r27=>q v23 G24 H25 (xt.trans x26) r27
theorem KT (F:DIn K mg "are_ways" FL)(T:Txt mg)(Hr:Kh P w K mg base):Hx P w K mg base:=by
 refine F.okM2 (m:=Aq) LC fun _ _ _ _ _ H0 _ _ hr G0 AW Bm res BA D1 xt AJ AG hm q=>?_;unfold Aq at hm
 refine ⟨_,(A7 (Au (PW.pt (E7 (D8 (BJ K (B5 (BW (K:=K) rfl) (by rfl) T.isinstance_ B2 (A4 (pv 0) (A4 (CI (v:=.ty "list") rfl T.list_ CJ rfl) AC))))) (Dg (AU FT (Ay K T.len_ (pv 0)) (Hz rfl T.MOST_WAYS) (AX _))))) (A7 (Ad C2)
   AD) AD)
   (A7 (Ad (HQ (B5 (F0 (K:=K) rfl rfl) (by rfl) T.all_ JZ (A4 (CL (cn:=["count"]) (cap:=[1]) rfl ⟨by decide +kernel,rfl,by decide +kernel,C3 rfl⟩ rfl (by decide +kernel) ⟨⟨rfl,.inl rfl,rfl⟩,trivial⟩ (Cf (K:=K) rfl (pv 0)) (fun C s0 H0 fp=>⟨C4,(Al Hr hr (by decide) rfl (A4 (pv 0) (A4 (pv 1) AC)))⟩)) AC)) (IJ (Dd BX (B5 Mo (by rfl) T.len_ LO (A4 (BG (Le (K:=K) (hu60 hr) rfl rfl) (by rfl) T.set_ bt_set (A4 (pv 0) AC)) AC)) (Ay K T.len_ (pv 0)) (AX _)))))
   AD)),?_⟩
 clear 2 b4 h5;refine Ag (E2 (DA (FI (K:=K) (C7 (by decide) (A8 AJ)))) (AL (K:=K) (DD (CY (A8 AJ)) AK))) h5 xt.gh fun G6 H7 x8=>?_;clear 1 x8 AJ AG
 cases b4 with
 | true =>
  clear 3;exact AN (K:=K) (rest:=DN) (σ:=[some BA,some D1]) DC hm xt.gh fun v9 G10 H11 x12 r13=>q v9 G10 H11 (xt.trans x12) r13
 | false =>
  clear 4;exact AN (K:=K) (Hg (JI (FV.ev (CZ (cap:=[1]) (fe:=fun (way_:D)=>((some way_).bind fun t19=>(some Bm).bind fun t20=>DK t19 t20)) (FS (A8 AJ)) fun xc18 way_ Gc15 sc16 rc17=>(B7 (m:=Iy) (A8 rc17) (A8 (Rp.mono sc16 AG)))))) (Ah (LD (ev_asPrs (A8 AJ))) (CY (A8 AJ)))) hm xt.gh fun v30 G31 H32 x33 r34=>q v30 G31 H32 (xt.trans x33) r34
theorem IV (F:DIn K mg "is_machine" EB)(T:Txt mg)(BK:CT P w K mg base)(Ev:GX P w K mg base)(Di:F8 P w K mg base)(FM:Hx P w K mg base):Fg P w K mg base:=by
 refine F.okM1 (m:=Ab) Dh fun _ _ _ _ _ H0 _ _ hr G0 AW res BA xt AJ hm q=>?_;unfold Ab at hm
 refine ⟨_,(A7 (Au (PW.pt (E7 (D8 (BJ K (B5 (BW (K:=K) rfl) (by rfl) T.isinstance_ B2 (A4 (pv 0) (A4 (CI (v:=.ty "tuple") rfl T.tuple_ DS rfl) AC))))) (Dg (AU Lz (Ay K T.len_ (pv 0)) A9 (AX _))))) (A7 (Ad C2)
   AD) AD)
   (A7 (AZ (i:=1) Dh (BE K (pv 0) A9))
   (A7 (AZ (i:=2) Dh (BE K (pv 0) A9))
   (A7 (Au (PW.pt (E7 (D8 (BJ K (Al Di hr (by decide) rfl (A4 (pv 1) AC)))) (Dg (D8 (BJ K (Al FM hr (by decide) rfl (A4 (pv 2) (A4 (Ay K T.len_ (pv 1)) AC)))))))) (A7 (Ad C2)
   AD) AD)
   (A7 (Ad (HQ (Al BK hr (by decide) rfl (A4 (BE K (pv 0) A9) (A4 (Ay K T.len_ (pv 1)) AC))) (IJ (Al Ev hr (by decide) rfl (A4 (BE K (pv 0) A9) (A4 (Ay K T.len_ (pv 2)) AC))))))
   AD))))),?_⟩
 clear 2 b4 h5;refine Ag (E2 (DA (FI (K:=K) (C7 (by decide) (A8 AJ)))) (AL (K:=K) (Lg (CY (A8 AJ)) AK))) h5 xt.gh fun G6 H7 x8=>?_;clear 1 x8 AJ
 cases b4 with
 | true =>
  clear 3;exact AN (K:=K) (rest:=DN) (σ:=[some BA,none,none]) DC hm xt.gh fun v9 G10 H11 x12 r13=>q v9 G10 H11 (xt.trans x12) r13
 | false =>
  clear 4;clear 2 lit_ h21;refine B1 (K:=K) (GN (A8 AJ) AK) h21 xt.gh fun v16 G17 H18 x19 r20=>?_;clear 1 x19 AJ;clear 2 ways_ h29;refine B1 (K:=K) (GN (A8 AJ) AK) h29 xt.gh fun v24 G25 H26 x27 r28=>?_;clear 1 x27 AJ r20;clear 2 b37 h38;refine Ag (E2 (DA (FI (K:=K) (Ch (m:=Es) (A8 r20)))) (DA (FI (K:=K) (B7 (m:=Gk) (A8 r28) (CY (A8 r20)))))) h38 xt.gh fun G39 H40 x41=>?_;clear 1 x41 AJ r20 r28
  cases b37 with
  | true =>
   clear 3;exact AN (K:=K) (rest:=DN) (σ:=[some BA,some v16,some v24]) DC hm xt.gh fun v42 G43 H44 x45 r46=>q v42 G43 H44 (xt.trans x45) r46
  | false =>
   clear 4;exact AN (K:=K) (Hg (B7 (m:=CF) (GN (A8 AJ) AK) (CY (A8 r20))) (B7 (m:=Fz) (GN (A8 AJ) AK) (CY (A8 r28)))) hm xt.gh fun v58 G59 H60 x61 r62=>q v58 G59 H60 (xt.trans x61) r62
theorem Hl (F:DIn K mg "_law_letters" Df)(T:Txt mg):F6 P w K mg base:=by
 refine F.okM1 (m:=Bz) DO fun _ _ _ _ _ H0 _ _ hr G0 AA res As xt A3 hm q=>?_;unfold Bz at hm
 refine ⟨_,(A7 (AZ (i:=1) DO BR)
   (A7 (AZ (i:=2) DO (Ae (A4 (pv 0) (A4 (Ao K (Ao K (pv 0) A9) (AS Ai (AS B8 (pv 0) A9) A9)) (A4 (Ao K (Ao K (pv 0) A9) (AS Ai (AS B8 (pv 0) A9) A9)) (A4 (Ao K (Ao K (pv 0) A9) (AS Ai (AS B8 (pv 0) A9) A9)) AC))))))
   (A7 (Ad (CL (cn:=["_law_row"]) (cap:=[1]) rfl ⟨by decide +kernel,rfl,by decide +kernel,C3 rfl⟩ rfl (by decide +kernel) ⟨⟨rfl,.inl rfl,rfl⟩,trivial⟩ (Cf (K:=K) rfl (pv 2)) (fun C s0 H0 fp=>⟨C4,(BE K (pv 1) (AS Ai (pv 0) A9))⟩)))
   AD))),?_⟩
 clear 2 row_ h6;refine B1 (K:=K) C1 h6 xt.gh fun v1 G2 H3 x4 r5=>?_;clear 1 x4 A3;clear 2 M2 h12;refine B1 (K:=K) (FV.ev (AQ (A5 (A8 A3) (A5 (Bf (Bf (A8 A3) AK) (Aa (AY (A8 A3)))) (A5 (Bf (Bf (A8 A3) AK) (Aa (AY (A8 A3)))) (A5 (Bf (Bf (A8 A3) AK) (Aa (AY (A8 A3)))) (AF (α:=Int)))))))) h12 xt.gh fun v7 G8 H9 x10 r11=>?_;clear 1 x10 r5;exact AN (K:=K) (FV.ev (CZ (cap:=[1]) (fe:=fun (at_:Int)=>((some row_).bind fun t17=>(some (at_ % (26:Int))).bind fun t18=>(atI t17.cps.toList t18).bind fun z=>some (⟨#[z]⟩:Str))) (Gy (A8 r11)) fun xc16 at_ Gc13 sc14 rc15=>(ev_atS (A8 (Rp.mono sc14 r5)) (Aa (A8 rc15))))) hm xt.gh fun v20 G21 H22 x23 r24=>q v20 G21 H22 (xt.trans x23) r24
seal eval in
theorem FJ (F:DIn K mg "_law_with_truths" Ci)(T:Txt mg):DX P w K mg base:=by
 refine F.okM2 (m:=BU) BM fun _ _ _ _ _ H0 _ _ hr G0 made_ AA res MK As xt B3 A3 hm q=>?_;unfold BU at hm
 refine ⟨_,(A7 (Em (pv 0) (pg_tup rfl (D2 (Bv (i:=2) BM) (D2 (Bv (i:=3) BM) (D2 (Bv (i:=4) BM) (D2 (Bv (i:=5) BM) MX))))))
   (A7 (Au (PW.pt (Jy (AU BX (AS Ai (pv 1) A9) A9 (AX _)) (Jo (AU (LW (K:=K) rfl) A9 (pv 4) rfl)))) (A7 (Ad (Ap (A4 (pv 2) (A4 (pv 3) (A4 (CL (cn:=[]) (cap:=[]) rfl ⟨by decide +kernel,rfl,by decide +kernel,C3 rfl⟩ rfl (by decide +kernel) trivial (Cf (K:=K) rfl (pv 4)) (fun C s0 H0 fp=>⟨C4,(KZ (AU BX (pv 0) A9 (AX _)) C2 (pv 0))⟩)) (A4 (pv 5) AC))))))
   AD) AD)
   (A7 (Au (PW.pt (Jy (AU BX (AS Ai (pv 1) A9) A9 (AX _)) (Jy (AU (op_neK (K:=K) rfl (List (List Int)) hr (by decide)) (pv 5) (Ae AC) (AX _)) (Jo (AU (LW (K:=K) rfl) A9 (BE K (pv 5) (IA FU A9)) rfl))))) (A7 (Ad (Ap (A4 (pv 2) (A4 (pv 3) (A4 (pv 4) (A4 (Ao K (Hs (MF (K:=K) rfl) (pv 5) JV (JX (IA FU A9))) (Ae (A4 (CL (cn:=[]) (cap:=[]) rfl ⟨by decide +kernel,rfl,by decide +kernel,C3 rfl⟩ rfl (by decide +kernel) trivial (Cf (K:=K) rfl (BE K (pv 5) (IA FU A9))) (fun C s0 H0 fp=>⟨C4,(KZ (AU BX (pv 0) A9 (AX _)) C2 (pv 0))⟩)) AC))) AC))))))
   AD) AD)
   (A7 (Au (AU (op_neK (K:=K) rfl (List (Int × Int)) hr (by decide)) (pv 3) (Ae AC) (AX _)) (A7 (AZ (i:=6) BM (BE K (pv 3) A9))
   (A7 (Ad (Ap (A4 (pv 2) (A4 (Ao K (Ae (A4 (BE K (Ae (A4 (Ap (A4 C2 (A4 (BE K (pv 6) A9) AC))) (A4 (Ap (A4 A9 (A4 C2 AC))) AC))) (AS Ai (AS B8 (pv 1) A9) A9)) AC)) (Hs (MF (K:=K) rfl) (pv 3) (JX A9) JV)) (A4 (Ae AC) (A4 (Ae AC) AC))))))
   AD)) AD)
   (A7 (Ad (Ap (A4 (pv 2) (A4 (pv 3) (A4 (Ae (A4 C2 AC)) (A4 (pv 5) AC))))))
   AD))))),?_⟩
 clear 2 p1 h2;refine He (K:=K) (A8 B3) h2 xt.gh fun v6 v7 v8 v9 G3 H4 x5 r10 r11 r12 r13=>?_;clear 1 x5 A3;clear 2 b14 h15;refine Ag (Mj (AL (K:=K) (Ah (Aa (A8 A3)) AK)) (AL (K:=K) (ev_inL AK (A8 r12)))) h15 xt.gh fun G16 H17 x18=>?_;clear 1 x18 A3 r10 r11 r12 r13
 cases b14 with
 | true =>
  clear 3;exact AN (K:=K) (A6 (Af (A5 (A6 (A8 r10)) (A5 (A6 (A8 r11)) (A5 (A6 (FV.ev (CZ (cap:=[]) (fe:=fun (GI:Int)=>((some (decide (GI=(0:Int)))).bind fun t23=>cond t23 (some (ToD.to false)) (some (ToD.to GI)))) (Gy (A8 r12)) fun xc22 GI Gc19 sc20 rc21=>(ev_ifx (AL (K:=K) (Ah (A8 rc21) AK)) (A6 DC) (A6 (A8 rc21)))))) (A5 (A6 (A8 r13)) (AF (α:=D)))))))) hm xt.gh fun v31 G32 H33 x34 r35=>q v31 G32 H33 (xt.trans x34) r35
 | false =>
  clear 4;clear 2 b42 h43;refine Ag (Ls (AL (K:=K) (Ah (Aa (A8 A3)) AK)) (Ls (AL (K:=K) (ev_ne (A8 r13) (FV.ev (AQ (AF (α:=(List Int))))))) (AL (K:=K) (ev_inL AK (CC (A8 r13) (Ec AK)))))) h43 xt.gh fun G44 H45 x46=>?_;clear 1 x46 A3 r10 r11 r12 r13
  cases b42 with
  | true =>
   clear 3;exact AN (K:=K) (A6 (Af (A5 (A6 (A8 r10)) (A5 (A6 (A8 r11)) (A5 (A6 (A8 r12)) (A5 (A6 (FV.ev (CQ (MV (FV.ev (KG (A8 r13) K2 (Jk (K:=K) (Ec AK))))) (FV.ev (AQ (A5 (A6 (FV.ev (CZ (cap:=[]) (fe:=fun (k_:Int)=>((some (decide (k_=(0:Int)))).bind fun t68=>cond t68 (some (ToD.to false)) (some (ToD.to k_)))) (Gy (CC (A8 r13) (Ec AK))) fun xc67 k_ Gc64 sc65 rc66=>(ev_ifx (AL (K:=K) (Ah (A8 rc66) AK)) (A6 DC) (A6 (A8 rc66)))))) (AF (α:=D)))))))) (AF (α:=D)))))))) hm xt.gh fun v81 G82 H83 x84 r85=>q v81 G82 H83 (xt.trans x84) r85
  | false =>
   clear 4;clear 2 b86 h87;refine Ag (AL (K:=K) (ev_ne (A8 r11) (FV.ev (AQ (AF (α:=(Int × Int))))))) h87 xt.gh fun G88 H89 x90=>?_;clear 1 x90 A3 r10 r11 r13
   cases b86 with
   | true =>
    clear 3;clear 2 way_ h98;refine B1 (K:=K) (CC (A8 r11) AK) h98 xt.gh fun v93 G94 H95 x96 r97=>?_;clear 1 x96 A3 r10 r11;exact AN (K:=K) (A6 (Af (A5 (A6 (A8 r10)) (A5 (A6 (FV.ev (CQ (FV.ev (AQ (A5 (CC (FV.ev (AQ (A5 (A6 (Af (A5 (A6 DC) (A5 (A6 (ev_snd (A8 r97))) (AF (α:=D)))))) (A5 (A6 (Af (A5 (A6 AK) (A5 (A6 DC) (AF (α:=D)))))) (AF (α:=D)))))) (Aa (AY (A8 A3)))) (AF (α:=D))))) (MV (FV.ev (KG (A8 r11) (Jk (K:=K) AK) K2)))))) (A5 (A6 (FV.ev (AQ (AF (α:=D))))) (A5 (A6 (FV.ev (AQ (AF (α:=D))))) (AF (α:=D)))))))) hm xt.gh fun v112 G113 H114 x115 r116=>q v112 G113 H114 (xt.trans x115) r116
   | false =>
    clear 4;exact AN (K:=K) (A6 (Af (A5 (A6 (A8 r10)) (A5 (A6 (A8 r11)) (A5 (A6 (FV.ev (AQ (A5 (A6 DC) (AF (α:=D)))))) (A5 (A6 (A8 r13)) (AF (α:=D)))))))) hm xt.gh fun v117 G118 H119 x120 r121=>q v117 G118 H119 (xt.trans x120) r121
theorem KQ {made_:D}{HV:List D}{k j:Int}{r:List D}{a:D}(hp:(((some made_).bind fun t=>FH t).bind fun t=>some t.l)=some HV)
  (h:((((((some made_).bind fun t83=>(some k).bind fun t84=>atD t83 t84).bind fun t85=>D0 t85).bind fun t86=>(some (Tp.mk t86))).bind fun t87=>(some (ToD.to t87))).bind fun t88=>(some (t88::r))).bind (fun t89=>(some j).bind fun t90=>atI t89 t90)=some a) :
  ∃ l,(atI HV k).bind D0=some l/\atI (D.tup l::r) j=some a:=by
 obtain ⟨t,ht,e⟩:=qaA.mp hp;cases e;have ht:FH made_=some t:=ht
 cases made_ with
 | tup l0 =>
  cases ht;simp only [qiB,Option.bind_some] at h;obtain ⟨d,hd,h⟩:=qaA.mp h;obtain ⟨l,hl,h⟩:=qaA.mp h;refine ⟨l,?_,?_⟩
  ·show (atI l0 k).bind D0=some l;rw [show atI l0 k=some d from hd];exact hl
  ·have e:(ToD.to (Tp.mk l):D)=D.tup l:=by
    show D.tup (l.map fun d=>d)=D.tup l;rw [List.map_id']
   rw [e] at h;exact h
 | _=>cases ht
seal eval in
theorem Jd (F:DIn K mg "_law_other" Ei)(T:Txt mg):Gi P w K mg base:=by
 refine F.okM3 (m:=CV) Ff fun _ _ _ _ _ H0 _ _ hr G0 made_ way_ AA res MK Dq As xt B3 AB A3 hm q=>?_;unfold CV at hm
 refine ⟨_,(A7 (Au (AU BX (pv 1) A9 (AX _)) (A7 (Ad (BG (CO (K:=K) rfl) (by rfl) T.list_ CJ (A4 (pv 0) AC)))
   AD) AD)
   (A7 (Au (AU BX (pv 1) A9 (AX _)) (A7 (Ad (Hs (sl_tupA (K:=K) rfl) (pv 0) JV (JX A9)))
   AD) AD)
   (A7 (Au (AU BX (pv 1) A9 (AX _)) (A7 (Ad (AS (op_catTp (K:=K) rfl) (pv 0) (Ap (A4 (Ae AC) AC))))
   AD) AD)
   (A7 (Au (AU BX (pv 1) A9 (AX _)) (A7 (Ad (Ap (A4 (AS EM (Ae (A4 BR AC)) A9) (A4 (CL (cn:=[]) (cap:=[]) rfl ⟨by decide +kernel,rfl,by decide +kernel,C3 rfl⟩ rfl (by decide +kernel) trivial (Cp rfl T.range_ (A4 A9 AC)) (fun C s0 H0 fp=>⟨C4,(Ap (A4 (AS B8 (pv 0) A9) (A4 (AS Ai (pv 0) A9) AC)))⟩)) (A4 (Ae (A4 A9 AC)) (A4 (Ae AC) AC))))))
   AD) AD)
   (A7 (Au (AU BX (pv 1) A9 (AX _)) (A7 (AZ (i:=3) Ff (BG (CO (K:=K) rfl) (by rfl) T.list_ CJ (A4 (pv 0) AC)))
   (A7 (Em (BE K (Ae (A4 (BG (Ey (K:=K) rfl) (by rfl) T.tuple_ DS (A4 (BE K (pv 3) (AS Ai (pv 2) A9)) AC)) (A4 EX (A4 BR (A4 A9 (A4 E8 AC)))))) (AS Ai (AS B8 (pv 2) A9) A9)) (GS (pv 3) (AS Ai (pv 2) A9) E3))
   (A7 (Ad (BG (Ey (K:=K) rfl) (by rfl) T.tuple_ DS (A4 (pv 3) AC)))
   AD))) AD)
   (A7 (Ad (BE K (Ae (A4 EX (A4 C2 (A4 A9 (A4 BR (A4 (Ae AC) (A4 (Ap AC) (A4 E8 (A4 (AS Lw A9 A9) AC))))))))) (AS Ai (pv 2) A9)))
   AD)))))),?_⟩
 clear 2 b1 h2;refine Ag (AL (K:=K) (Ah (A8 AB) AK)) h2 xt.gh fun G3 H4 x5=>?_;clear 1 x5 B3 AB A3
 cases b1 with
 | true =>
  clear 3;exact AN (K:=K) (A6 (FV.ev (KC (GF (A8 B3))))) hm xt.gh fun v9 G10 H11 x12 r13=>q v9 G10 H11 (xt.trans x12) r13
 | false =>
  clear 4;clear 2 b14 h15;refine Ag (AL (K:=K) (Ah (A8 AB) AK)) h15 xt.gh fun G16 H17 x18=>?_;clear 1 x18 B3 AB A3
  cases b14 with
  | true =>
   clear 3;exact AN (K:=K) (A6 (LN (GF (A8 B3)) K2 (Jk (K:=K) AK))) hm xt.gh fun v22 G23 H24 x25 r26=>q v22 G23 H24 (xt.trans x25) r26
  | false =>
   clear 4;clear 2 b27 h28;refine Ag (AL (K:=K) (Ah (A8 AB) AK)) h28 xt.gh fun G29 H30 x31=>?_;clear 1 x31 B3 AB A3
   cases b27 with
   | true =>
    clear 3;exact AN (K:=K) (A6 (ev_catTp (ev_asTpD (A8 B3)) (Af (A5 (A6 (FV.ev (AQ (AF (α:=D))))) (AF (α:=D)))))) hm xt.gh fun v36 G37 H38 x39 r40=>q v36 G37 H38 (xt.trans x39) r40
   | false =>
    clear 4;clear 2 b41 h42;refine Ag (AL (K:=K) (Ah (A8 AB) AK)) h42 xt.gh fun G43 H44 x45=>?_;clear 1 x45 B3 AB A3
    cases b41 with
    | true =>
     clear 3;exact AN (K:=K) (A6 (Af (A5 (A6 (FV.ev (Cd (FV.ev (AQ (A5 C1 (AF (α:=Str))))) AK))) (A5 (A6 (FV.ev (CZ (cap:=[]) (fe:=fun (k_:Int)=>(some ((k_ / (8:Int)),(k_ % (8:Int))))) (ER AK) fun xc53 k_ Gc50 sc51 rc52=>(HB (AY (A8 rc52)) (Aa (A8 rc52)))))) (A5 (A6 (FV.ev (AQ (A5 (A6 AK) (AF (α:=D)))))) (A5 (A6 (FV.ev (AQ (AF (α:=D))))) (AF (α:=D)))))))) hm xt.gh fun v61 G62 H63 x64 r65=>q v61 G62 H63 (xt.trans x64) r65
    | false =>
     clear 4;clear 2 b66 h67;refine Ag (AL (K:=K) (Ah (A8 AB) AK)) h67 xt.gh fun G68 H69 x70=>?_;clear 1 x70 B3 A3
     cases b66 with
     | true =>
      clear 3;clear 2 HV h80;refine Ck (K:=K) (KC (GF (A8 B3))) h80 xt.gh fun p73 vs74 G75 H76 x77 hz78 o79=>?_;clear 1 x77 A3 4 hz78;clear 2 a91 h92 k93 h94 z102 h95;obtain ⟨l9,hl9,ha9⟩:=KQ h80 h92;refine Kn (K:=K) rfl o79 (EV.up (Aa (A8 A3)) (Same.new o79.g)) rfl hl9 (A5 (A6 EU) (A5 (A6 C1) (A5 (A6 AK) (A5 Bd (AF (α:=D)))))) rfl (by decide) (Aa (AY (A8 A3))) rfl ha9 (Aa (A8 A3)) h94 h95 xt.gh fun G96 H97 w98 j99 x100 o101=>?_;have xt:Ext G0 H0 G96 (upd H97 p73 (.lst (vs74.set j99 w98))):=(xt.trans x100).put hz78 o101.g;have sf:=Same.new (o:=.lst (vs74.set j99 w98)) o101.g;have xt:=xt.frz hz78 o101.g o101.h;have r103:=o101.tell;exact AN (K:=K) (A6 (CG (A8 r103))) hm xt.gh fun v104 G105 H106 x107 r108=>q v104 G105 H106 (xt.trans x107) r108
     | false =>
      clear 4;exact AN (K:=K) (CC (FV.ev (AQ (A5 (A6 EU) (A5 (A6 DC) (A5 (A6 AK) (A5 (A6 C1) (A5 (A6 (FV.ev (AQ (AF (α:=D))))) (A5 (A6 (Af (AF (α:=D)))) (A5 Bd (A5 (A6 (EV.of (m':=some (100000000000000000000000000000000000000000000000000000000000:Int)) (Lf (AK (i:=10)) (AK (i:=59))) (by decide +kernel))) (AF (α:=D)))))))))))) (Aa (A8 A3))) hm xt.gh fun v111 G112 H113 x114 r115=>q v111 G112 H113 (xt.trans x114) r115
seal eval in
theorem GG (F:DIn K mg "_law_bad_marks" D7)(T:Txt mg):ET P w K mg base:=by
 refine F.ok Bl bn4 (fun vs H Q E h=>(HA h).trans rfl) (fun _ cdv A outer s H9 vs Q E hr h=>?_);obtain ⟨G0,Bh,vs_marks_,_,marks_,⟨way_,⟨AA,⟨Bm,⟨⟩⟩⟩⟩,res,rfl,sg0,o_marks_,⟨Dq,_,rfl,AB,⟨As,_,rfl,A3,⟨D1,_,rfl,AG,rfl⟩⟩⟩,hm,q⟩:=h;have xt:Ext G0 (era H9 [Bh]) G0 H9:=Ext.begin sg0;have BB:era H9 [Bh] Bh=none:=Hk (by simp);generalize era H9 [Bh]=H0 at xt q BB;replace AB:Rp.rel K G0 Dq way_:=AB;replace A3:Rp.rel K G0 As AA:=A3;replace AG:Rp.rel K G0 D1 Bm:=AG;replace hm:Av marks_ way_ AA Bm=some res:=hm;unfold Av at hm
 refine ⟨_,(A7 (Au (AU BX (pv 1) A9 (AX _)) (A7 (Ad (Ao K (pv 0) (AS EM (Ae (A4 (Ae AC) AC)) (AS op_sub A9 (Ay K T.len_ (pv 0))))))
   AD) AD)
   (A7 (Au (AU (Fi hr) (pv 0) (Ae AC) (AX _)) (A7 (AZ (i:=0) Bl (Ae (A4 (Ae AC) AC)))
   AD) AD)
   (A7 (AZ (i:=4) Bl (AS Ai (pv 2) (Ay K T.len_ (pv 0))))
   (A7 (AZ (i:=5) Bl (BG (CO (K:=K) rfl) (by rfl) T.list_ CJ (A4 (BE K (pv 0) (pv 4)) AC)))
   (A7 (Au (AU BX (pv 1) A9 (AX _)) (A7 (DH (Er (K:=K) rfl PySem.F.plainAttrs_list PySem.F.slot_list_insert PySem.F.type_list_insert CP (pv 5) (A4 (AS Ai (AS B8 (pv 2) A9) (Ao K (Ay K T.len_ (pv 5)) A9)) (A4 (BE K (Ae (A4 (pv 3) (A4 (IA FU A9) (A4 C2 (A4 EX (A4 BR (A4 (Ap (A4 A9 AC)) (A4 (Ae (A4 A9 AC)) (A4 E8 AC))))))))) (AS Ai (AS B8 (pv 2) A9) A9)) AC))))
   (A7 (Em (pv 5) (GS (pv 0) (pv 4) E3))
   AD)) AD)
   (A7 (Au (AU BX (pv 1) A9 (AX _)) (A7 (AZ (i:=5) Bl (Ao K (pv 5) (AS EM (Ae (A4 A9 AC)) (BG GU (by rfl) T.int_ JR (A4 (Dd (Fi hr) (pv 5) (Ae AC) (AX _)) AC)))))
   (A7 (DH (Er (K:=K) rfl PySem.F.plainAttrs_list PySem.F.slot_list_insert PySem.F.type_list_insert CP (pv 5) (A4 (AS Ai (AS B8 (pv 2) A9) (Ao K (Ay K T.len_ (pv 5)) A9)) (A4 (BE K (pv 5) (AS Ai (AS B8 (pv 2) A9) (Ay K T.len_ (pv 5)))) AC))))
   (A7 (Em (pv 5) (GS (pv 0) (pv 4) E3))
   AD))) AD)
   (A7 (Au (AU BX (pv 1) A9 (AX _)) (A7 (Em (BE K (Ae (A4 (BG (Ey (K:=K) rfl) (by rfl) T.tuple_ DS (A4 (pv 5) AC)) (A4 EX (A4 A9 (A4 BR (A4 E8 AC)))))) (AS Ai (AS B8 (pv 2) A9) A9)) (GS (pv 0) (pv 4) E3))
   AD) AD)
   (A7 (Ad (pv 0))
   AD)))))))),?_⟩
 clear 2 b1 h2;refine Ag (AL (K:=K) (Ah (A8 AB) AK)) h2 xt.gh fun G3 H4 x5=>?_;clear 1 x5 AB A3 AG 2 o_marks_
 cases b1 with
 | true =>
  clear 3;have sf:=Same.new (o:=.lst vs_marks_) o_marks_.g;have xt:=xt.frz BB o_marks_.g o_marks_.h;have r16:=o_marks_.tell;exact AN (K:=K) (A6 (FV.ev (CQ (A8 r16) (FV.ev (Cd (FV.ev (AQ (A5 (A6 (FV.ev (AQ (AF (α:=D))))) (AF (α:=D))))) (ev_sub AK (BP (A8 r16)))))))) hm xt.gh fun v22 G23 H24 x25 r26=>q v22 G23 H24 (xt.trans x25) r26
 | false =>
  clear 4;clear 2 b31 h32;refine sv_ifB o_marks_ (AL (K:=K) (C6 (A8 o_marks_.tell) (FV.ev (AQ (AF (α:=D)))))) h32 xt.gh fun G33 H34 x35=>?_;clear 1 x35 AB A3 AG 2 o_marks_
  cases b31 with
  | true =>
   clear 3;clear 2 marks_ h43;refine Ck (K:=K) (AQ (A5 (A6 (FV.ev (AQ (AF (α:=D))))) (AF (α:=D)))) h43 xt.gh fun p36 vs37 G38 H39 x40 hz41 o42=>?_;clear 1 x40 AB A3 AG 2 o_marks_ 4 hz41;clear 2 at_ h53;refine FX (K:=K) o42 (BL (A8 (Rp.mono (Same.new o42.g) A3)) (BP (A8 o42.tell))) h53 xt.gh fun v48 G49 H50 x51 r52=>?_;clear 1 x51 AB A3 AG 2 o42;clear 2 j62 h63 mark_ h61;refine Kj (K:=K) rfl o42 (((A8 r52)).up (Same.new o42.g)) h63 h61 xt.gh fun p54 vs55 G56 H57 x58 hz59 o60=>?_;have ne_p36_p54:p36≠p54:=BF o42.h hz59;clear 1 x58 AB A3 AG r52 2 o42 4 hz59;clear 2 b64 h65;refine Ag (AL (K:=K) (Ah (A8 AB) AK)) h65 xt.gh fun G66 H67 x68=>?_;clear 1 x68 AB A3 AG r52 2 o42 o60
   cases b64 with
   | true =>
    clear 3;clear 2 j75 h76 a77 h78 z85 h79;refine Ct (K:=K) rfl o60 (BL (AY (A8 (Rp.mono (Same.new o60.g) A3))) (Bf (BP (A8 o60.tell)) AK)) h76 (CC (FV.ev (AQ (A5 (A6 (A8 AG)) (A5 (A6 (Ec AK)) (A5 (A6 DC) (A5 (A6 EU) (A5 (A6 C1) (A5 (A6 (Af (A5 (A6 AK) (AF (α:=D))))) (A5 (A6 (FV.ev (AQ (A5 (A6 AK) (AF (α:=D)))))) (A5 Bd (AF (α:=D)))))))))))) (Aa (AY (A8 A3)))) h78 h79 xt.gh fun G80 H81 w82 x83 o84=>?_;have xt:Ext G0 H0 G80 (upd H81 p54 (.lst (vs55.take j75.toNat++w82::vs55.drop j75.toNat))):=(xt.trans x83).put hz59 o84.g;have o42:=(o42.ext x83).put (q:=p54) (ho:=.lst (vs55.take j75.toNat++w82::vs55.drop j75.toNat)) (by ac_rfl);clear 0 x83 AB A3 AG r52;have sf:=Same.new (o:=.lst (vs55.take j75.toNat++w82::vs55.drop j75.toNat)) o84.g;have xt:=xt.frz hz59 o84.g o84.h;have r86:=o84.tell;have o42:=o42.over (o:=.lst (vs55.take j75.toNat++w82::vs55.drop j75.toNat)) (by ac_rfl) o84.g;clear 9 sf AB A3 AG r52;clear 2 a87 h88 k89 h90 z98 h91;refine B0 (K:=K) rfl o42 (A6 (A8 r86)) h88 (A8 r52) h90 h91 xt.gh fun G92 H93 w94 j95 x96 o97=>?_;have xt:Ext G0 H0 G92 (upd H93 p36 (.lst (vs37.set j95 w94))):=(xt.trans x96).put hz41 o97.g;clear 0 x96 AB A3 AG r52 r86;clear 2 b99 h100;refine Ag (AL (K:=K) (Ah (A8 AB) AK)) h100 xt.gh fun G101 H102 x103=>?_;clear 1 x103 AB A3 AG r52 r86 2 o97
    cases b99 with
    | true =>
     clear 3;clear 2 mark_ h118;refine Ck (K:=K) (CQ (A8 r86) (FV.ev (Cd (FV.ev (AQ (A5 (A6 AK) (AF (α:=D))))) (Cz (C6 (A8 r86) (FV.ev (AQ (AF (α:=D))))))))) h118 xt.gh fun p111 vs112 G113 H114 x115 hz116 o117=>?_;have ne_p36_p111:p36≠p111:=BF o97.h hz116;clear 1 x115 AB A3 AG r52 r86 2 o97 4 hz116;clear 2 j127 h128 j129 h130 a131 h132 z139 h133;refine Bj (K:=K) rfl o117 (BL (AY (A8 (Rp.mono (Same.new o117.g) A3))) (Bf (BP (A8 o117.tell)) AK)) h128 (BL (AY (A8 (Rp.mono (Same.new o117.g) A3))) (BP (A8 o117.tell))) h130 h132 h133 xt.gh fun G134 H135 w136 x137 o138=>?_;have xt:Ext G0 H0 G134 (upd H135 p111 (.lst (vs112.take j127.toNat++w136::vs112.drop j127.toNat))):=(xt.trans x137).put hz116 o138.g;have o97:=(o97.ext x137).put (q:=p111) (ho:=.lst (vs112.take j127.toNat++w136::vs112.drop j127.toNat)) (by ac_rfl);clear 0 x137 AB A3 AG r52;have sf:=Same.new (o:=.lst (vs112.take j127.toNat++w136::vs112.drop j127.toNat)) o138.g;have xt:=xt.frz hz116 o138.g o138.h;have r140:=o138.tell;have o97:=o97.over (o:=.lst (vs112.take j127.toNat++w136::vs112.drop j127.toNat)) (by ac_rfl) o138.g;clear 9 sf AB A3 r52;clear 2 a141 h142 k143 h144 z152 h145;refine B0 (K:=K) rfl o97 (A6 (A8 r140)) h142 (A8 r52) h144 h145 xt.gh fun G146 H147 w148 j149 x150 o151=>?_;have xt:Ext G0 H0 G146 (upd H147 p36 (.lst ((vs37.set j95 w94).set j149 w148))):=(xt.trans x150).put hz41 o151.g;clear 0 x150 AB A3 r52 r140;clear 2 b153 h154;refine Ag (AL (K:=K) (Ah (A8 AB) AK)) h154 xt.gh fun G155 H156 x157=>?_;clear 1 x157 A3 r52 r140 2 o151
     cases b153 with
     | true =>
      clear 3;clear 2 a160 h161 k162 h163 z171 h164;refine B0 (K:=K) rfl o151 (CC (FV.ev (AQ (A5 (A6 (CG (A8 r140))) (A5 (A6 EU) (A5 (A6 AK) (A5 (A6 C1) (A5 Bd (AF (α:=D))))))))) (Aa (AY (A8 A3)))) h161 (A8 r52) h163 h164 xt.gh fun G165 H166 w167 j168 x169 o170=>?_;have xt:Ext G0 H0 G165 (upd H166 p36 (.lst (((vs37.set j95 w94).set j149 w148).set j168 w167))):=(xt.trans x169).put hz41 o170.g;have sf:=Same.new (o:=.lst (((vs37.set j95 w94).set j149 w148).set j168 w167)) o170.g;have xt:=xt.frz hz41 o170.g o170.h;have r172:=o170.tell;exact AN (K:=K) (A6 (A8 r172)) hm xt.gh fun v173 G174 H175 x176 r177=>q v173 G174 H175 (xt.trans x176) r177
     | false =>
      clear 4;have sf:=Same.new (o:=.lst ((vs37.set j95 w94).set j149 w148)) o151.g;have xt:=xt.frz hz41 o151.g o151.h;have r178:=o151.tell;exact AN (K:=K) (A6 (A8 r178)) hm xt.gh fun v179 G180 H181 x182 r183=>q v179 G180 H181 (xt.trans x182) r183
    | false =>
     clear 4;clear 2 b184 h185;refine Ag (AL (K:=K) (Ah (A8 AB) AK)) h185 xt.gh fun G186 H187 x188=>?_;clear 1 x188 A3 r52 r86 2 o97
     cases b184 with
     | true =>
      clear 3;clear 2 a191 h192 k193 h194 z202 h195;refine B0 (K:=K) rfl o97 (CC (FV.ev (AQ (A5 (A6 (CG (A8 r86))) (A5 (A6 EU) (A5 (A6 AK) (A5 (A6 C1) (A5 Bd (AF (α:=D))))))))) (Aa (AY (A8 A3)))) h192 (A8 r52) h194 h195 xt.gh fun G196 H197 w198 j199 x200 o201=>?_;have xt:Ext G0 H0 G196 (upd H197 p36 (.lst ((vs37.set j95 w94).set j199 w198))):=(xt.trans x200).put hz41 o201.g;have sf:=Same.new (o:=.lst ((vs37.set j95 w94).set j199 w198)) o201.g;have xt:=xt.frz hz41 o201.g o201.h;have r203:=o201.tell;exact AN (K:=K) (A6 (A8 r203)) hm xt.gh fun v204 G205 H206 x207 r208=>q v204 G205 H206 (xt.trans x207) r208
     | false =>
      clear 4;have sf:=Same.new (o:=.lst (vs37.set j95 w94)) o97.g;have xt:=xt.frz hz41 o97.g o97.h;have r209:=o97.tell;exact AN (K:=K) (A6 (A8 r209)) hm xt.gh fun v210 G211 H212 x213 r214=>q v210 G211 H212 (xt.trans x213) r214
   | false =>
    clear 4;have sf:=Same.new (o:=.lst vs55) o60.g;have xt:=xt.frz hz59 o60.g o60.h;have r215:=o60.tell;have o42:=o42.over (o:=.lst vs55) (by ac_rfl) o60.g;clear 9 sf AB A3 AG r52;clear 2 b216 h217;refine Ag (AL (K:=K) (Ah (A8 AB) AK)) h217 xt.gh fun G218 H219 x220=>?_;clear 1 x220 AB A3 AG r52 r215 2 o42
    cases b216 with
    | true =>
     clear 3;clear 2 mark_ h235;refine Ck (K:=K) (CQ (A8 r215) (FV.ev (Cd (FV.ev (AQ (A5 (A6 AK) (AF (α:=D))))) (Cz (C6 (A8 r215) (FV.ev (AQ (AF (α:=D))))))))) h235 xt.gh fun p228 vs229 G230 H231 x232 hz233 o234=>?_;have ne_p36_p228:p36≠p228:=BF o42.h hz233;clear 1 x232 AB A3 AG r52 r215 2 o42 4 hz233;clear 2 j244 h245 j246 h247 a248 h249 z256 h250;refine Bj (K:=K) rfl o234 (BL (AY (A8 (Rp.mono (Same.new o234.g) A3))) (Bf (BP (A8 o234.tell)) AK)) h245 (BL (AY (A8 (Rp.mono (Same.new o234.g) A3))) (BP (A8 o234.tell))) h247 h249 h250 xt.gh fun G251 H252 w253 x254 o255=>?_;have xt:Ext G0 H0 G251 (upd H252 p228 (.lst (vs229.take j244.toNat++w253::vs229.drop j244.toNat))):=(xt.trans x254).put hz233 o255.g;have o42:=(o42.ext x254).put (q:=p228) (ho:=.lst (vs229.take j244.toNat++w253::vs229.drop j244.toNat)) (by ac_rfl);clear 0 x254 AB A3 AG r52;have sf:=Same.new (o:=.lst (vs229.take j244.toNat++w253::vs229.drop j244.toNat)) o255.g;have xt:=xt.frz hz233 o255.g o255.h;have r257:=o255.tell;have o42:=o42.over (o:=.lst (vs229.take j244.toNat++w253::vs229.drop j244.toNat)) (by ac_rfl) o255.g;clear 9 sf AB A3 r52;clear 2 a258 h259 k260 h261 z269 h262;refine B0 (K:=K) rfl o42 (A6 (A8 r257)) h259 (A8 r52) h261 h262 xt.gh fun G263 H264 w265 j266 x267 o268=>?_;have xt:Ext G0 H0 G263 (upd H264 p36 (.lst (vs37.set j266 w265))):=(xt.trans x267).put hz41 o268.g;clear 0 x267 AB A3 r52 r257;clear 2 b270 h271;refine Ag (AL (K:=K) (Ah (A8 AB) AK)) h271 xt.gh fun G272 H273 x274=>?_;clear 1 x274 A3 r52 r257 2 o268
     cases b270 with
     | true =>
      clear 3;clear 2 a277 h278 k279 h280 z288 h281;refine B0 (K:=K) rfl o268 (CC (FV.ev (AQ (A5 (A6 (CG (A8 r257))) (A5 (A6 EU) (A5 (A6 AK) (A5 (A6 C1) (A5 Bd (AF (α:=D))))))))) (Aa (AY (A8 A3)))) h278 (A8 r52) h280 h281 xt.gh fun G282 H283 w284 j285 x286 o287=>?_;have xt:Ext G0 H0 G282 (upd H283 p36 (.lst ((vs37.set j266 w265).set j285 w284))):=(xt.trans x286).put hz41 o287.g;have sf:=Same.new (o:=.lst ((vs37.set j266 w265).set j285 w284)) o287.g;have xt:=xt.frz hz41 o287.g o287.h;have r289:=o287.tell;exact AN (K:=K) (A6 (A8 r289)) hm xt.gh fun v290 G291 H292 x293 r294=>q v290 G291 H292 (xt.trans x293) r294
     | false =>
      clear 4;have sf:=Same.new (o:=.lst (vs37.set j266 w265)) o268.g;have xt:=xt.frz hz41 o268.g o268.h;have r295:=o268.tell;exact AN (K:=K) (A6 (A8 r295)) hm xt.gh fun v296 G297 H298 x299 r300=>q v296 G297 H298 (xt.trans x299) r300
    | false =>
     clear 4;clear 2 b301 h302;refine Ag (AL (K:=K) (Ah (A8 AB) AK)) h302 xt.gh fun G303 H304 x305=>?_;clear 1 x305 A3 r52 r215 2 o42
     cases b301 with
     | true =>
      clear 3;clear 2 a308 h309 k310 h311 z319 h312;refine B0 (K:=K) rfl o42 (CC (FV.ev (AQ (A5 (A6 (CG (A8 r215))) (A5 (A6 EU) (A5 (A6 AK) (A5 (A6 C1) (A5 Bd (AF (α:=D))))))))) (Aa (AY (A8 A3)))) h309 (A8 r52) h311 h312 xt.gh fun G313 H314 w315 j316 x317 o318=>?_;have xt:Ext G0 H0 G313 (upd H314 p36 (.lst (vs37.set j316 w315))):=(xt.trans x317).put hz41 o318.g;have sf:=Same.new (o:=.lst (vs37.set j316 w315)) o318.g;have xt:=xt.frz hz41 o318.g o318.h;have r320:=o318.tell;exact AN (K:=K) (A6 (A8 r320)) hm xt.gh fun v321 G322 H323 x324 r325=>q v321 G322 H323 (xt.trans x324) r325
     | false =>
      clear 4;have sf:=Same.new (o:=.lst vs37) o42.g;have xt:=xt.frz hz41 o42.g o42.h;have r326:=o42.tell;exact AN (K:=K) (A6 (A8 r326)) hm xt.gh fun v327 G328 H329 x330 r331=>q v327 G328 H329 (xt.trans x330) r331
  | false =>
   clear 4;clear 2 at_ h341;refine FX (K:=K) o_marks_ (BL (A8 (Rp.mono (Same.new o_marks_.g) A3)) (BP (A8 o_marks_.tell))) h341 xt.gh fun v336 G337 H338 x339 r340=>?_;clear 1 x339 AB A3 AG 2 o_marks_;clear 2 j350 h351 mark_ h349;refine Kj (K:=K) rfl o_marks_ (((A8 r340)).up (Same.new o_marks_.g)) h351 h349 xt.gh fun p342 vs343 G344 H345 x346 hz347 o348=>?_;have ne_p_marks__p342:Bh≠p342:=BF o_marks_.h hz347;clear 1 x346 AB A3 AG r340 2 o_marks_ 4 hz347;clear 2 b352 h353;refine Ag (AL (K:=K) (Ah (A8 AB) AK)) h353 xt.gh fun G354 H355 x356=>?_;clear 1 x356 AB A3 AG r340 2 o_marks_ o348
   cases b352 with
   | true =>
    clear 3;clear 2 j363 h364 a365 h366 z373 h367;refine Ct (K:=K) rfl o348 (BL (AY (A8 (Rp.mono (Same.new o348.g) A3))) (Bf (BP (A8 o348.tell)) AK)) h364 (CC (FV.ev (AQ (A5 (A6 (A8 AG)) (A5 (A6 (Ec AK)) (A5 (A6 DC) (A5 (A6 EU) (A5 (A6 C1) (A5 (A6 (Af (A5 (A6 AK) (AF (α:=D))))) (A5 (A6 (FV.ev (AQ (A5 (A6 AK) (AF (α:=D)))))) (A5 Bd (AF (α:=D)))))))))))) (Aa (AY (A8 A3)))) h366 h367 xt.gh fun G368 H369 w370 x371 o372=>?_;have xt:Ext G0 H0 G368 (upd H369 p342 (.lst (vs343.take j363.toNat++w370::vs343.drop j363.toNat))):=(xt.trans x371).put hz347 o372.g;have o_marks_:=(o_marks_.ext x371).put (q:=p342) (ho:=.lst (vs343.take j363.toNat++w370::vs343.drop j363.toNat)) (by ac_rfl);clear 0 x371 AB A3 AG r340;have sf:=Same.new (o:=.lst (vs343.take j363.toNat++w370::vs343.drop j363.toNat)) o372.g;have xt:=xt.frz hz347 o372.g o372.h;have r374:=o372.tell;have o_marks_:=o_marks_.over (o:=.lst (vs343.take j363.toNat++w370::vs343.drop j363.toNat)) (by ac_rfl) o372.g;clear 9 sf AB A3 AG r340;clear 2 a375 h376 k377 h378 z386 h379;refine B0 (K:=K) rfl o_marks_ (A6 (A8 r374)) h376 (A8 r340) h378 h379 xt.gh fun G380 H381 w382 j383 x384 o385=>?_;have xt:Ext G0 H0 G380 (upd H381 Bh (.lst (vs_marks_.set j383 w382))):=(xt.trans x384).put BB o385.g;clear 0 x384 AB A3 AG r340 r374;clear 2 b387 h388;refine Ag (AL (K:=K) (Ah (A8 AB) AK)) h388 xt.gh fun G389 H390 x391=>?_;clear 1 x391 AB A3 AG r340 r374 2 o385
    cases b387 with
    | true =>
     clear 3;clear 2 mark_ h406;refine Ck (K:=K) (CQ (A8 r374) (FV.ev (Cd (FV.ev (AQ (A5 (A6 AK) (AF (α:=D))))) (Cz (C6 (A8 r374) (FV.ev (AQ (AF (α:=D))))))))) h406 xt.gh fun p399 vs400 G401 H402 x403 hz404 o405=>?_;have ne_p_marks__p399:Bh≠p399:=BF o385.h hz404;clear 1 x403 AB A3 AG r340 r374 2 o385 4 hz404;clear 2 j415 h416 j417 h418 a419 h420 z427 h421;refine Bj (K:=K) rfl o405 (BL (AY (A8 (Rp.mono (Same.new o405.g) A3))) (Bf (BP (A8 o405.tell)) AK)) h416 (BL (AY (A8 (Rp.mono (Same.new o405.g) A3))) (BP (A8 o405.tell))) h418 h420 h421 xt.gh fun G422 H423 w424 x425 o426=>?_;have xt:Ext G0 H0 G422 (upd H423 p399 (.lst (vs400.take j415.toNat++w424::vs400.drop j415.toNat))):=(xt.trans x425).put hz404 o426.g;have o385:=(o385.ext x425).put (q:=p399) (ho:=.lst (vs400.take j415.toNat++w424::vs400.drop j415.toNat)) (by ac_rfl);clear 0 x425 AB A3 AG r340;have sf:=Same.new (o:=.lst (vs400.take j415.toNat++w424::vs400.drop j415.toNat)) o426.g;have xt:=xt.frz hz404 o426.g o426.h;have r428:=o426.tell;have o385:=o385.over (o:=.lst (vs400.take j415.toNat++w424::vs400.drop j415.toNat)) (by ac_rfl) o426.g;clear 9 sf AB A3 r340;clear 2 a429 h430 k431 h432 z440 h433;refine B0 (K:=K) rfl o385 (A6 (A8 r428)) h430 (A8 r340) h432 h433 xt.gh fun G434 H435 w436 j437 x438 o439=>?_;have xt:Ext G0 H0 G434 (upd H435 Bh (.lst ((vs_marks_.set j383 w382).set j437 w436))):=(xt.trans x438).put BB o439.g;clear 0 x438 AB A3 r340 r428;clear 2 b441 h442;refine Ag (AL (K:=K) (Ah (A8 AB) AK)) h442 xt.gh fun G443 H444 x445=>?_;clear 1 x445 A3 r340 r428 2 o439
     cases b441 with
     | true =>
      clear 3;clear 2 a448 h449 k450 h451 z459 h452;refine B0 (K:=K) rfl o439 (CC (FV.ev (AQ (A5 (A6 (CG (A8 r428))) (A5 (A6 EU) (A5 (A6 AK) (A5 (A6 C1) (A5 Bd (AF (α:=D))))))))) (Aa (AY (A8 A3)))) h449 (A8 r340) h451 h452 xt.gh fun G453 H454 w455 j456 x457 o458=>?_;have xt:Ext G0 H0 G453 (upd H454 Bh (.lst (((vs_marks_.set j383 w382).set j437 w436).set j456 w455))):=(xt.trans x457).put BB o458.g;have sf:=Same.new (o:=.lst (((vs_marks_.set j383 w382).set j437 w436).set j456 w455)) o458.g;have xt:=xt.frz BB o458.g o458.h;have r460:=o458.tell;exact AN (K:=K) (A6 (A8 r460)) hm xt.gh fun v461 G462 H463 x464 r465=>q v461 G462 H463 (xt.trans x464) r465
     | false =>
      clear 4;have sf:=Same.new (o:=.lst ((vs_marks_.set j383 w382).set j437 w436)) o439.g;have xt:=xt.frz BB o439.g o439.h;have r466:=o439.tell;exact AN (K:=K) (A6 (A8 r466)) hm xt.gh fun v467 G468 H469 x470 r471=>q v467 G468 H469 (xt.trans x470) r471
    | false =>
     clear 4;clear 2 b472 h473;refine Ag (AL (K:=K) (Ah (A8 AB) AK)) h473 xt.gh fun G474 H475 x476=>?_;clear 1 x476 A3 r340 r374 2 o385
     cases b472 with
     | true =>
      clear 3;clear 2 a479 h480 k481 h482 z490 h483;refine B0 (K:=K) rfl o385 (CC (FV.ev (AQ (A5 (A6 (CG (A8 r374))) (A5 (A6 EU) (A5 (A6 AK) (A5 (A6 C1) (A5 Bd (AF (α:=D))))))))) (Aa (AY (A8 A3)))) h480 (A8 r340) h482 h483 xt.gh fun G484 H485 w486 j487 x488 o489=>?_;have xt:Ext G0 H0 G484 (upd H485 Bh (.lst ((vs_marks_.set j383 w382).set j487 w486))):=(xt.trans x488).put BB o489.g;have sf:=Same.new (o:=.lst ((vs_marks_.set j383 w382).set j487 w486)) o489.g;have xt:=xt.frz BB o489.g o489.h;have r491:=o489.tell;exact AN (K:=K) (A6 (A8 r491)) hm xt.gh fun v492 G493 H494 x495 r496=>q v492 G493 H494 (xt.trans x495) r496
     | false =>
      clear 4;have sf:=Same.new (o:=.lst (vs_marks_.set j383 w382)) o385.g;have xt:=xt.frz BB o385.g o385.h;have r497:=o385.tell;exact AN (K:=K) (A6 (A8 r497)) hm xt.gh fun v498 G499 H500 x501 r502=>q v498 G499 H500 (xt.trans x501) r502
   | false =>
    clear 4;have sf:=Same.new (o:=.lst vs343) o348.g;have xt:=xt.frz hz347 o348.g o348.h;have r503:=o348.tell;have o_marks_:=o_marks_.over (o:=.lst vs343) (by ac_rfl) o348.g;clear 9 sf AB A3 AG r340;clear 2 b504 h505;refine Ag (AL (K:=K) (Ah (A8 AB) AK)) h505 xt.gh fun G506 H507 x508=>?_;clear 1 x508 AB A3 AG r340 r503 2 o_marks_
    cases b504 with
    | true =>
     clear 3;clear 2 mark_ h523;refine Ck (K:=K) (CQ (A8 r503) (FV.ev (Cd (FV.ev (AQ (A5 (A6 AK) (AF (α:=D))))) (Cz (C6 (A8 r503) (FV.ev (AQ (AF (α:=D))))))))) h523 xt.gh fun p516 vs517 G518 H519 x520 hz521 o522=>?_;have ne_p_marks__p516:Bh≠p516:=BF o_marks_.h hz521;clear 1 x520 AB A3 AG r340 r503 2 o_marks_ 4 hz521;clear 2 j532 h533 j534 h535 a536 h537 z544 h538;refine Bj (K:=K) rfl o522 (BL (AY (A8 (Rp.mono (Same.new o522.g) A3))) (Bf (BP (A8 o522.tell)) AK)) h533 (BL (AY (A8 (Rp.mono (Same.new o522.g) A3))) (BP (A8 o522.tell))) h535 h537 h538 xt.gh fun G539 H540 w541 x542 o543=>?_;have xt:Ext G0 H0 G539 (upd H540 p516 (.lst (vs517.take j532.toNat++w541::vs517.drop j532.toNat))):=(xt.trans x542).put hz521 o543.g;have o_marks_:=(o_marks_.ext x542).put (q:=p516) (ho:=.lst (vs517.take j532.toNat++w541::vs517.drop j532.toNat)) (by ac_rfl);clear 0 x542 AB A3 AG r340;have sf:=Same.new (o:=.lst (vs517.take j532.toNat++w541::vs517.drop j532.toNat)) o543.g;have xt:=xt.frz hz521 o543.g o543.h;have r545:=o543.tell;have o_marks_:=o_marks_.over (o:=.lst (vs517.take j532.toNat++w541::vs517.drop j532.toNat)) (by ac_rfl) o543.g;clear 9 sf AB A3 r340;clear 2 a546 h547 k548 h549 z557 h550;refine B0 (K:=K) rfl o_marks_ (A6 (A8 r545)) h547 (A8 r340) h549 h550 xt.gh fun G551 H552 w553 j554 x555 o556=>?_;have xt:Ext G0 H0 G551 (upd H552 Bh (.lst (vs_marks_.set j554 w553))):=(xt.trans x555).put BB o556.g;clear 0 x555 AB A3 r340 r545;clear 2 b558 h559;refine Ag (AL (K:=K) (Ah (A8 AB) AK)) h559 xt.gh fun G560 H561 x562=>?_;clear 1 x562 A3 r340 r545 2 o556
     cases b558 with
     | true =>
      clear 3;clear 2 a565 h566 k567 h568 z576 h569;refine B0 (K:=K) rfl o556 (CC (FV.ev (AQ (A5 (A6 (CG (A8 r545))) (A5 (A6 EU) (A5 (A6 AK) (A5 (A6 C1) (A5 Bd (AF (α:=D))))))))) (Aa (AY (A8 A3)))) h566 (A8 r340) h568 h569 xt.gh fun G570 H571 w572 j573 x574 o575=>?_;have xt:Ext G0 H0 G570 (upd H571 Bh (.lst ((vs_marks_.set j554 w553).set j573 w572))):=(xt.trans x574).put BB o575.g;have sf:=Same.new (o:=.lst ((vs_marks_.set j554 w553).set j573 w572)) o575.g;have xt:=xt.frz BB o575.g o575.h;have r577:=o575.tell;exact AN (K:=K) (A6 (A8 r577)) hm xt.gh fun v578 G579 H580 x581 r582=>q v578 G579 H580 (xt.trans x581) r582
     | false =>
      clear 4;have sf:=Same.new (o:=.lst (vs_marks_.set j554 w553)) o556.g;have xt:=xt.frz BB o556.g o556.h;have r583:=o556.tell;exact AN (K:=K) (A6 (A8 r583)) hm xt.gh fun v584 G585 H586 x587 r588=>q v584 G585 H586 (xt.trans x587) r588
    | false =>
     clear 4;clear 2 b589 h590;refine Ag (AL (K:=K) (Ah (A8 AB) AK)) h590 xt.gh fun G591 H592 x593=>?_;clear 1 x593 A3 r340 r503 2 o_marks_
     cases b589 with
     | true =>
      clear 3;clear 2 a596 h597 k598 h599 z607 h600;refine B0 (K:=K) rfl o_marks_ (CC (FV.ev (AQ (A5 (A6 (CG (A8 r503))) (A5 (A6 EU) (A5 (A6 AK) (A5 (A6 C1) (A5 Bd (AF (α:=D))))))))) (Aa (AY (A8 A3)))) h597 (A8 r340) h599 h600 xt.gh fun G601 H602 w603 j604 x605 o606=>?_;have xt:Ext G0 H0 G601 (upd H602 Bh (.lst (vs_marks_.set j604 w603))):=(xt.trans x605).put BB o606.g;have sf:=Same.new (o:=.lst (vs_marks_.set j604 w603)) o606.g;have xt:=xt.frz BB o606.g o606.h;have r608:=o606.tell;exact AN (K:=K) (A6 (A8 r608)) hm xt.gh fun v609 G610 H611 x612 r613=>q v609 G610 H611 (xt.trans x612) r613
     | false =>
      clear 4;have sf:=Same.new (o:=.lst vs_marks_) o_marks_.g;have xt:=xt.frz BB o_marks_.g o_marks_.h;have r614:=o_marks_.tell;exact AN (K:=K) (A6 (A8 r614)) hm xt.gh fun v615 G616 H617 x618 r619=>q v615 G616 H617 (xt.trans x618) r619
seal eval in
theorem IE (F:DIn K mg "_law_bad_lit" Dv)(T:Txt mg):FB P w K mg base:=by
 refine F.ok Eg bn3 (fun vs H Q E h=>(HA h).trans rfl) (fun _ cdv A outer s H9 vs Q E hr h=>?_);obtain ⟨G0,Bq,vs_lit_here_,_,lit_here_,⟨way_,⟨AA,⟨⟩⟩⟩,res,rfl,sg0,o_lit_here_,⟨Dq,_,rfl,AB,⟨As,_,rfl,A3,rfl⟩⟩,hm,q⟩:=h;have xt:Ext G0 (era H9 [Bq]) G0 H9:=Ext.begin sg0;have BY:era H9 [Bq] Bq=none:=Hk (by simp);generalize era H9 [Bq]=H0 at xt q BY;replace AB:Rp.rel K G0 Dq way_:=AB;replace A3:Rp.rel K G0 As AA:=A3;replace hm:C0 lit_here_ way_ AA=some res:=hm;unfold C0 at hm
 refine ⟨_,(A7 (AZ (i:=3) Eg (AS Ai (pv 2) (Ay K T.len_ (pv 0))))
   (A7 (Au (AU BX (pv 1) A9 (AX _)) (A7 (Ad (Ae AC))
   AD) AD)
   (A7 (Au (AU BX (pv 1) A9 (AX _)) (A7 (Ad (Ao K (pv 0) (AS EM (Ae (A4 BR AC)) (AS op_sub A9 (Ay K T.len_ (pv 0))))))
   AD) AD)
   (A7 (Au (AU BX (pv 1) A9 (AX _)) (A7 (Em (BE K (Ae (A4 BR (A4 BR (A4 BR (A4 BR (A4 BR (A4 BR (A4 BR (A4 BR AC))))))))) (AS Ai (AS B8 (pv 2) A9) A9)) (GS (pv 0) (pv 3) E3))
   AD) AD)
   (A7 (Au (AU BX (pv 1) A9 (AX _)) (A7 (Em (BE K (Ae (A4 EX (A4 A9 (A4 (Ae (A4 BR AC)) (A4 (Ap (A4 BR AC)) (A4 C2 (A4 E8 AC))))))) (AS Ai (AS B8 (pv 2) A9) A9)) (GS (pv 0) (pv 3) E3))
   AD) AD)
   (A7 (Ad (pv 0))
   AD)))))),?_⟩
 clear 2 at_ h10;refine FX (K:=K) o_lit_here_ (BL (A8 (Rp.mono (Same.new o_lit_here_.g) A3)) (BP (A8 o_lit_here_.tell))) h10 xt.gh fun v5 G6 H7 x8 r9=>?_;clear 1 x8 AB A3 2 o_lit_here_;clear 2 b11 h12;refine Ag (AL (K:=K) (Ah (A8 AB) AK)) h12 xt.gh fun G13 H14 x15=>?_;clear 1 x15 AB A3 r9 2 o_lit_here_
 cases b11 with
 | true =>
  clear 3;exact AN (K:=K) (rest:=DN) (σ:=[some (V.ref Bq),some Dq,some As,some v5]) (A6 (FV.ev (AQ (AF (α:=D))))) hm xt.gh fun v16 G17 H18 x19 r20=>q v16 G17 H18 (xt.trans x19) r20
 | false =>
  clear 4;clear 2 b21 h22;refine Ag (AL (K:=K) (Ah (A8 AB) AK)) h22 xt.gh fun G23 H24 x25=>?_;clear 1 x25 AB A3 r9 2 o_lit_here_
  cases b21 with
  | true =>
   clear 3;have sf:=Same.new (o:=.lst vs_lit_here_) o_lit_here_.g;have xt:=xt.frz BY o_lit_here_.g o_lit_here_.h;have r36:=o_lit_here_.tell;exact AN (K:=K) (A6 (FV.ev (CQ (A8 r36) (FV.ev (Cd (FV.ev (AQ (A5 (A6 C1) (AF (α:=D))))) (ev_sub AK (BP (A8 r36)))))))) hm xt.gh fun v42 G43 H44 x45 r46=>q v42 G43 H44 (xt.trans x45) r46
  | false =>
   clear 4;clear 2 b47 h48;refine Ag (AL (K:=K) (Ah (A8 AB) AK)) h48 xt.gh fun G49 H50 x51=>?_;clear 1 x51 AB A3 r9 2 o_lit_here_
   cases b47 with
   | true =>
    clear 3;clear 2 a54 h55 k56 h57 z65 h58;refine B0 (K:=K) rfl o_lit_here_ (CC (FV.ev (AQ (A5 (A6 C1) (A5 (A6 C1) (A5 (A6 C1) (A5 (A6 C1) (A5 (A6 C1) (A5 (A6 C1) (A5 (A6 C1) (A5 (A6 C1) (AF (α:=D)))))))))))) (Aa (AY (A8 A3)))) h55 (A8 r9) h57 h58 xt.gh fun G59 H60 w61 j62 x63 o64=>?_;have xt:Ext G0 H0 G59 (upd H60 Bq (.lst (vs_lit_here_.set j62 w61))):=(xt.trans x63).put BY o64.g;clear 0 x63 AB A3 r9;clear 2 b66 h67;refine Ag (AL (K:=K) (Ah (A8 AB) AK)) h67 xt.gh fun G68 H69 x70=>?_;clear 1 x70 A3 r9 2 o64
    cases b66 with
    | true =>
     clear 3;clear 2 a73 h74 k75 h76 z84 h77;refine B0 (K:=K) rfl o64 (CC (FV.ev (AQ (A5 (A6 EU) (A5 (A6 AK) (A5 (A6 (FV.ev (AQ (A5 (A6 C1) (AF (α:=D)))))) (A5 (A6 (Af (A5 (A6 C1) (AF (α:=D))))) (A5 (A6 DC) (A5 Bd (AF (α:=D)))))))))) (Aa (AY (A8 A3)))) h74 (A8 r9) h76 h77 xt.gh fun G78 H79 w80 j81 x82 o83=>?_;have xt:Ext G0 H0 G78 (upd H79 Bq (.lst ((vs_lit_here_.set j62 w61).set j81 w80))):=(xt.trans x82).put BY o83.g;have sf:=Same.new (o:=.lst ((vs_lit_here_.set j62 w61).set j81 w80)) o83.g;have xt:=xt.frz BY o83.g o83.h;have r85:=o83.tell;exact AN (K:=K) (A6 (A8 r85)) hm xt.gh fun v86 G87 H88 x89 r90=>q v86 G87 H88 (xt.trans x89) r90
    | false =>
     clear 4;have sf:=Same.new (o:=.lst (vs_lit_here_.set j62 w61)) o64.g;have xt:=xt.frz BY o64.g o64.h;have r91:=o64.tell;exact AN (K:=K) (A6 (A8 r91)) hm xt.gh fun v92 G93 H94 x95 r96=>q v92 G93 H94 (xt.trans x95) r96
   | false =>
    clear 4;clear 2 b97 h98;refine Ag (AL (K:=K) (Ah (A8 AB) AK)) h98 xt.gh fun G99 H100 x101=>?_;clear 1 x101 A3 r9 2 o_lit_here_
    cases b97 with
    | true =>
     clear 3;clear 2 a104 h105 k106 h107 z115 h108;refine B0 (K:=K) rfl o_lit_here_ (CC (FV.ev (AQ (A5 (A6 EU) (A5 (A6 AK) (A5 (A6 (FV.ev (AQ (A5 (A6 C1) (AF (α:=D)))))) (A5 (A6 (Af (A5 (A6 C1) (AF (α:=D))))) (A5 (A6 DC) (A5 Bd (AF (α:=D)))))))))) (Aa (AY (A8 A3)))) h105 (A8 r9) h107 h108 xt.gh fun G109 H110 w111 j112 x113 o114=>?_;have xt:Ext G0 H0 G109 (upd H110 Bq (.lst (vs_lit_here_.set j112 w111))):=(xt.trans x113).put BY o114.g;have sf:=Same.new (o:=.lst (vs_lit_here_.set j112 w111)) o114.g;have xt:=xt.frz BY o114.g o114.h;have r116:=o114.tell;exact AN (K:=K) (A6 (A8 r116)) hm xt.gh fun v117 G118 H119 x120 r121=>q v117 G118 H119 (xt.trans x120) r121
    | false =>
     clear 4;have sf:=Same.new (o:=.lst vs_lit_here_) o_lit_here_.g;have xt:=xt.frz BY o_lit_here_.g o_lit_here_.h;have r122:=o_lit_here_.tell;exact AN (K:=K) (A6 (A8 r122)) hm xt.gh fun v123 G124 H125 x126 r127=>q v123 G124 H125 (xt.trans x126) r127
seal eval in
theorem Gm (F:DIn K mg "_law_bad_ways" DQ)(T:Txt mg):Ep P w K mg base:=by
 refine F.ok Bu bn4 (fun vs H Q E h=>(HA h).trans rfl) (fun _ cdv A outer s H9 vs Q E hr h=>?_);obtain ⟨G0,EG,vs_ways_,_,ways_,⟨way_,⟨AA,⟨Bk,⟨⟩⟩⟩⟩,res,rfl,sg0,o_ways_,⟨Dq,_,rfl,AB,⟨As,_,rfl,A3,⟨Ew,_,rfl,BH,rfl⟩⟩⟩,hm,q⟩:=h;have xt:Ext G0 (era H9 [EG]) G0 H9:=Ext.begin sg0;have D4:era H9 [EG] EG=none:=Hk (by simp);generalize era H9 [EG]=H0 at xt q D4;replace AB:Rp.rel K G0 Dq way_:=AB;replace A3:Rp.rel K G0 As AA:=A3;replace BH:Rp.rel K G0 Ew Bk:=BH;replace hm:Bo ways_ way_ AA Bk=some res:=hm;unfold Bo at hm
 refine ⟨_,(A7 (AZ (i:=4) Bu (AS Ai (pv 2) (Ao K (Ay K T.len_ (pv 0)) A9)))
   (A7 (Au (AU BX (pv 1) A9 (AX _)) (A7 (AZ (i:=5) Bu (Ae (A4 (Ap (A4 A9 (A4 (pv 3) AC))) (A4 (Ap (A4 (pv 3) (A4 A9 AC))) (A4 (Ap (A4 A9 (A4 (IA FU A9) AC))) (A4 (Ap (A4 (IA FU A9) (A4 A9 AC))) (A4 (Ap (A4 C2 (A4 A9 AC))) (A4 (Ap (A4 A9 (A4 C2 AC))) (A4 (Ap (A4 A9 (A4 EX AC))) (A4 (Ap (A4 BR (A4 A9 AC))) (A4 (Ap (A4 (AS Lw A9 A9) (A4 A9 AC))) AC)))))))))))
   (A7 (AZ (i:=5) Bu (Ao K (pv 5) (Ae (A4 (Ap (A4 (Ae (A4 A9 AC)) (A4 A9 AC))) (A4 (Ap (A4 A9 (A4 E8 AC))) AC)))))
   (A7 (DH (Er (K:=K) rfl PySem.F.plainAttrs_list PySem.F.slot_list_insert PySem.F.type_list_insert CP (pv 0) (A4 (pv 4) (A4 (BE K (pv 5) (AS Ai (AS B8 (pv 2) A9) A9)) AC))))
   AD))) AD)
   (A7 (Au (AU BX (pv 1) A9 (AX _)) (A7 (DH (Er (K:=K) rfl PySem.F.plainAttrs_list PySem.F.slot_list_insert PySem.F.type_list_insert CP (pv 0) (A4 (pv 4) (A4 (BE K (Ae (A4 (Ae (A4 A9 (A4 A9 AC))) (A4 (Ap (A4 A9 AC)) (A4 (Ap (A4 A9 (A4 A9 (A4 A9 AC)))) (A4 EX (A4 BR (A4 A9 (A4 (Ap AC) AC)))))))) (AS Ai (AS B8 (pv 2) A9) A9)) AC))))
   AD) AD)
   (A7 (Au (AU BX (pv 1) A9 (AX _)) (A7 (AZ (i:=0) Bu (Ao K (pv 0) (AS EM (Ae (A4 (Ap (A4 A9 (A4 A9 AC))) AC)) (BG GU (by rfl) T.int_ JR (A4 (Dd (Fi hr) (pv 0) (Ae AC) (AX _)) AC)))))
   (A7 (DH (Er (K:=K) rfl PySem.F.plainAttrs_list PySem.F.slot_list_insert PySem.F.type_list_insert CP (pv 0) (A4 (pv 4) (A4 (BE K (pv 0) (AS Ai (AS B8 (pv 2) A9) (Ay K T.len_ (pv 0)))) AC))))
   AD)) AD)
   (A7 (Ad (pv 0))
   AD))))),?_⟩
 clear 2 at_ h10;refine FX (K:=K) o_ways_ (BL (A8 (Rp.mono (Same.new o_ways_.g) A3)) (Bf (BP (A8 o_ways_.tell)) AK)) h10 xt.gh fun v5 G6 H7 x8 r9=>?_;clear 1 x8 AB A3 BH 2 o_ways_;clear 2 b11 h12;refine Ag (AL (K:=K) (Ah (A8 AB) AK)) h12 xt.gh fun G13 H14 x15=>?_;clear 1 x15 AB A3 BH r9 2 o_ways_
 cases b11 with
 | true =>
  clear 3;clear 2 bad_ h21;refine B1 (K:=K) (FV.ev (AQ (A5 (A6 (Af (A5 (A6 AK) (A5 (A6 (A8 BH)) (AF (α:=D)))))) (A5 (A6 (Af (A5 (A6 (A8 BH)) (A5 (A6 AK) (AF (α:=D)))))) (A5 (A6 (Af (A5 (A6 AK) (A5 (A6 (Ec AK)) (AF (α:=D)))))) (A5 (A6 (Af (A5 (A6 (Ec AK)) (A5 (A6 AK) (AF (α:=D)))))) (A5 (A6 (Af (A5 (A6 DC) (A5 (A6 AK) (AF (α:=D)))))) (A5 (A6 (Af (A5 (A6 AK) (A5 (A6 DC) (AF (α:=D)))))) (A5 (A6 (Af (A5 (A6 AK) (A5 (A6 EU) (AF (α:=D)))))) (A5 (A6 (Af (A5 (A6 C1) (A5 (A6 AK) (AF (α:=D)))))) (A5 (A6 (Af (A5 (A6 (EV.of (m':=some (100000000000000000000000000000000000000000000000000000000000:Int)) (Lf (AK (i:=10)) (AK (i:=59))) (by decide +kernel))) (A5 (A6 AK) (AF (α:=D)))))) (AF (α:=D))))))))))))) h21 xt.gh fun v16 G17 H18 x19 r20=>?_;clear 1 x19 AB A3 r9 2 o_ways_;clear 2 bad_ h29;refine B1 (K:=K) (FV.ev (CQ (A8 r20) (FV.ev (AQ (A5 (A6 (Af (A5 (A6 (FV.ev (AQ (A5 (A6 AK) (AF (α:=D)))))) (A5 (A6 AK) (AF (α:=D)))))) (A5 (A6 (Af (A5 (A6 AK) (A5 Bd (AF (α:=D)))))) (AF (α:=D)))))))) h29 xt.gh fun v24 G25 H26 x27 r28=>?_;clear 1 x27 AB A3 r9 2 o_ways_;clear 2 j32 h33 a34 h35 z42 h36;refine Ct (K:=K) rfl o_ways_ (((A8 r9)).up (Same.new o_ways_.g)) h33 (CC (A8 r28) (Aa (AY (A8 A3)))) h35 h36 xt.gh fun G37 H38 w39 x40 o41=>?_;have xt:Ext G0 H0 G37 (upd H38 EG (.lst (vs_ways_.take j32.toNat++w39::vs_ways_.drop j32.toNat))):=(xt.trans x40).put D4 o41.g;clear 0 x40 AB A3 r9;clear 2 b43 h44;refine Ag (AL (K:=K) (Ah (A8 AB) AK)) h44 xt.gh fun G45 H46 x47=>?_;clear 1 x47 AB A3 r9 2 o41
  cases b43 with
  | true =>
   clear 3;clear 2 j50 h51 a52 h53 z60 h54;refine Ct (K:=K) rfl o41 (((A8 r9)).up (Same.new o41.g)) h51 (CC (FV.ev (AQ (A5 (A6 (FV.ev (AQ (A5 (A6 AK) (A5 (A6 AK) (AF (α:=D))))))) (A5 (A6 (Af (A5 (A6 AK) (AF (α:=D))))) (A5 (A6 (Af (A5 (A6 AK) (A5 (A6 AK) (A5 (A6 AK) (AF (α:=D))))))) (A5 (A6 EU) (A5 (A6 C1) (A5 (A6 AK) (A5 (A6 (Af (AF (α:=D)))) (AF (α:=D))))))))))) (Aa (AY (A8 A3)))) h53 h54 xt.gh fun G55 H56 w57 x58 o59=>?_;have xt:Ext G0 H0 G55 (upd H56 EG (.lst ((vs_ways_.take j32.toNat++w39::vs_ways_.drop j32.toNat).take j50.toNat++w57::(vs_ways_.take j32.toNat++w39::vs_ways_.drop j32.toNat).drop j50.toNat))):=(xt.trans x58).put D4 o59.g;clear 0 x58 AB A3 r9;have sf:=Same.new (o:=.lst ((vs_ways_.take j32.toNat++w39::vs_ways_.drop j32.toNat).take j50.toNat++w57::(vs_ways_.take j32.toNat++w39::vs_ways_.drop j32.toNat).drop j50.toNat)) o59.g;have xt:=xt.frz D4 o59.g o59.h;have r61:=o59.tell;clear 9 sf AB A3 r9;clear 2 b62 h63;refine Ag (AL (K:=K) (Ah (A8 AB) AK)) h63 xt.gh fun G64 H65 x66=>?_;clear 1 x66 r61 A3 r9
   cases b62 with
   | true =>
    clear 3;clear 2 ways_ h81;refine Ck (K:=K) (CQ (A8 r61) (FV.ev (Cd (FV.ev (AQ (A5 (A6 (Af (A5 (A6 AK) (A5 (A6 AK) (AF (α:=D)))))) (AF (α:=D))))) (Cz (C6 (A8 r61) (FV.ev (AQ (AF (α:=D))))))))) h81 xt.gh fun p74 vs75 G76 H77 x78 hz79 o80=>?_;clear 1 x78 A3 r9 4 hz79;clear 2 j86 h87 j88 h89 a90 h91 z98 h92;refine Bj (K:=K) rfl o80 (((A8 r9)).up (Same.new o80.g)) h87 (BL (AY (A8 (Rp.mono (Same.new o80.g) A3))) (BP (A8 o80.tell))) h89 h91 h92 xt.gh fun G93 H94 w95 x96 o97=>?_;have xt:Ext G0 H0 G93 (upd H94 p74 (.lst (vs75.take j86.toNat++w95::vs75.drop j86.toNat))):=(xt.trans x96).put hz79 o97.g;have sf:=Same.new (o:=.lst (vs75.take j86.toNat++w95::vs75.drop j86.toNat)) o97.g;have xt:=xt.frz hz79 o97.g o97.h;have r99:=o97.tell;exact AN (K:=K) (A6 (A8 r99)) hm xt.gh fun v100 G101 H102 x103 r104=>q v100 G101 H102 (xt.trans x103) r104
   | false =>
    clear 4;exact AN (K:=K) (A6 (A8 r61)) hm xt.gh fun v105 G106 H107 x108 r109=>q v105 G106 H107 (xt.trans x108) r109
  | false =>
   clear 4;have sf:=Same.new (o:=.lst (vs_ways_.take j32.toNat++w39::vs_ways_.drop j32.toNat)) o41.g;have xt:=xt.frz D4 o41.g o41.h;have r110:=o41.tell;clear 9 sf AB A3 r9;clear 2 b111 h112;refine Ag (AL (K:=K) (Ah (A8 AB) AK)) h112 xt.gh fun G113 H114 x115=>?_;clear 1 x115 r110 A3 r9
   cases b111 with
   | true =>
    clear 3;clear 2 ways_ h130;refine Ck (K:=K) (CQ (A8 r110) (FV.ev (Cd (FV.ev (AQ (A5 (A6 (Af (A5 (A6 AK) (A5 (A6 AK) (AF (α:=D)))))) (AF (α:=D))))) (Cz (C6 (A8 r110) (FV.ev (AQ (AF (α:=D))))))))) h130 xt.gh fun p123 vs124 G125 H126 x127 hz128 o129=>?_;clear 1 x127 A3 r9 4 hz128;clear 2 j135 h136 j137 h138 a139 h140 z147 h141;refine Bj (K:=K) rfl o129 (((A8 r9)).up (Same.new o129.g)) h136 (BL (AY (A8 (Rp.mono (Same.new o129.g) A3))) (BP (A8 o129.tell))) h138 h140 h141 xt.gh fun G142 H143 w144 x145 o146=>?_;have xt:Ext G0 H0 G142 (upd H143 p123 (.lst (vs124.take j135.toNat++w144::vs124.drop j135.toNat))):=(xt.trans x145).put hz128 o146.g;have sf:=Same.new (o:=.lst (vs124.take j135.toNat++w144::vs124.drop j135.toNat)) o146.g;have xt:=xt.frz hz128 o146.g o146.h;have r148:=o146.tell;exact AN (K:=K) (A6 (A8 r148)) hm xt.gh fun v149 G150 H151 x152 r153=>q v149 G150 H151 (xt.trans x152) r153
   | false =>
    clear 4;exact AN (K:=K) (A6 (A8 r110)) hm xt.gh fun v154 G155 H156 x157 r158=>q v154 G155 H156 (xt.trans x157) r158
 | false =>
  clear 4;clear 2 b159 h160;refine Ag (AL (K:=K) (Ah (A8 AB) AK)) h160 xt.gh fun G161 H162 x163=>?_;clear 1 x163 AB A3 r9 2 o_ways_
  cases b159 with
  | true =>
   clear 3;clear 2 j166 h167 a168 h169 z176 h170;refine Ct (K:=K) rfl o_ways_ (((A8 r9)).up (Same.new o_ways_.g)) h167 (CC (FV.ev (AQ (A5 (A6 (FV.ev (AQ (A5 (A6 AK) (A5 (A6 AK) (AF (α:=D))))))) (A5 (A6 (Af (A5 (A6 AK) (AF (α:=D))))) (A5 (A6 (Af (A5 (A6 AK) (A5 (A6 AK) (A5 (A6 AK) (AF (α:=D))))))) (A5 (A6 EU) (A5 (A6 C1) (A5 (A6 AK) (A5 (A6 (Af (AF (α:=D)))) (AF (α:=D))))))))))) (Aa (AY (A8 A3)))) h169 h170 xt.gh fun G171 H172 w173 x174 o175=>?_;have xt:Ext G0 H0 G171 (upd H172 EG (.lst (vs_ways_.take j166.toNat++w173::vs_ways_.drop j166.toNat))):=(xt.trans x174).put D4 o175.g;clear 0 x174 AB A3 r9;have sf:=Same.new (o:=.lst (vs_ways_.take j166.toNat++w173::vs_ways_.drop j166.toNat)) o175.g;have xt:=xt.frz D4 o175.g o175.h;have r177:=o175.tell;clear 9 sf AB A3 r9;clear 2 b178 h179;refine Ag (AL (K:=K) (Ah (A8 AB) AK)) h179 xt.gh fun G180 H181 x182=>?_;clear 1 x182 r177 A3 r9
   cases b178 with
   | true =>
    clear 3;clear 2 ways_ h197;refine Ck (K:=K) (CQ (A8 r177) (FV.ev (Cd (FV.ev (AQ (A5 (A6 (Af (A5 (A6 AK) (A5 (A6 AK) (AF (α:=D)))))) (AF (α:=D))))) (Cz (C6 (A8 r177) (FV.ev (AQ (AF (α:=D))))))))) h197 xt.gh fun p190 vs191 G192 H193 x194 hz195 o196=>?_;clear 1 x194 A3 r9 4 hz195;clear 2 j202 h203 j204 h205 a206 h207 z214 h208;refine Bj (K:=K) rfl o196 (((A8 r9)).up (Same.new o196.g)) h203 (BL (AY (A8 (Rp.mono (Same.new o196.g) A3))) (BP (A8 o196.tell))) h205 h207 h208 xt.gh fun G209 H210 w211 x212 o213=>?_;have xt:Ext G0 H0 G209 (upd H210 p190 (.lst (vs191.take j202.toNat++w211::vs191.drop j202.toNat))):=(xt.trans x212).put hz195 o213.g;have sf:=Same.new (o:=.lst (vs191.take j202.toNat++w211::vs191.drop j202.toNat)) o213.g;have xt:=xt.frz hz195 o213.g o213.h;have r215:=o213.tell;exact AN (K:=K) (A6 (A8 r215)) hm xt.gh fun v216 G217 H218 x219 r220=>q v216 G217 H218 (xt.trans x219) r220
   | false =>
    clear 4;exact AN (K:=K) (A6 (A8 r177)) hm xt.gh fun v221 G222 H223 x224 r225=>q v221 G222 H223 (xt.trans x224) r225
  | false =>
   clear 4;have sf:=Same.new (o:=.lst vs_ways_) o_ways_.g;have xt:=xt.frz D4 o_ways_.g o_ways_.h;have r226:=o_ways_.tell;clear 9 sf AB A3 r9;clear 2 b227 h228;refine Ag (AL (K:=K) (Ah (A8 AB) AK)) h228 xt.gh fun G229 H230 x231=>?_;clear 1 x231 r226 A3 r9
   cases b227 with
   | true =>
    clear 3;clear 2 ways_ h246;refine Ck (K:=K) (CQ (A8 r226) (FV.ev (Cd (FV.ev (AQ (A5 (A6 (Af (A5 (A6 AK) (A5 (A6 AK) (AF (α:=D)))))) (AF (α:=D))))) (Cz (C6 (A8 r226) (FV.ev (AQ (AF (α:=D))))))))) h246 xt.gh fun p239 vs240 G241 H242 x243 hz244 o245=>?_;clear 1 x243 A3 r9 4 hz244;clear 2 j251 h252 j253 h254 a255 h256 z263 h257;refine Bj (K:=K) rfl o245 (((A8 r9)).up (Same.new o245.g)) h252 (BL (AY (A8 (Rp.mono (Same.new o245.g) A3))) (BP (A8 o245.tell))) h254 h256 h257 xt.gh fun G258 H259 w260 x261 o262=>?_;have xt:Ext G0 H0 G258 (upd H259 p239 (.lst (vs240.take j251.toNat++w260::vs240.drop j251.toNat))):=(xt.trans x261).put hz244 o262.g;have sf:=Same.new (o:=.lst (vs240.take j251.toNat++w260::vs240.drop j251.toNat)) o262.g;have xt:=xt.frz hz244 o262.g o262.h;have r264:=o262.tell;exact AN (K:=K) (A6 (A8 r264)) hm xt.gh fun v265 G266 H267 x268 r269=>q v265 G266 H267 (xt.trans x268) r269
   | false =>
    clear 4;exact AN (K:=K) (A6 (A8 r226)) hm xt.gh fun v270 G271 H272 x273 r274=>q v270 G271 H272 (xt.trans x273) r274
seal eval in
theorem FZ (F:DIn K mg "_law_bad_starts" Co)(T:Txt mg):Dz P w K mg base:=by
 refine F.ok Cc bn4 (fun vs H Q E h=>(HA h).trans rfl) (fun _ cdv A outer s H9 vs Q E hr h=>?_);obtain ⟨G0,E6,vs_starts_,_,starts_,⟨way_,⟨AA,⟨Bk,⟨⟩⟩⟩⟩,res,rfl,sg0,o_starts_,⟨Dq,_,rfl,AB,⟨As,_,rfl,A3,⟨Ew,_,rfl,BH,rfl⟩⟩⟩,hm,q⟩:=h;have xt:Ext G0 (era H9 [E6]) G0 H9:=Ext.begin sg0;have EE:era H9 [E6] E6=none:=Hk (by simp);generalize era H9 [E6]=H0 at xt q EE;replace AB:Rp.rel K G0 Dq way_:=AB;replace A3:Rp.rel K G0 As AA:=A3;replace BH:Rp.rel K G0 Ew Bk:=BH;replace hm:Bc starts_ way_ AA Bk=some res:=hm;unfold Bc at hm
 refine ⟨_,(A7 (AZ (i:=4) Cc (AS Ai (pv 2) (Ao K (Ay K T.len_ (pv 0)) A9)))
   (A7 (Au (AU BX (pv 1) A9 (AX _)) (A7 (DH (Er (K:=K) rfl PySem.F.plainAttrs_list PySem.F.slot_list_insert PySem.F.type_list_insert CP (pv 0) (A4 (pv 4) (A4 (BE K (Ae (A4 (pv 3) (A4 (IA FU A9) (A4 C2 (A4 EX (A4 BR (A4 (Ap (A4 A9 AC)) (A4 (Ae (A4 A9 AC)) (A4 (AS Lw A9 A9) AC))))))))) (AS Ai (AS B8 (pv 2) A9) A9)) AC))))
   AD) AD)
   (A7 (Au (AU BX (pv 1) A9 (AX _)) (A7 (AZ (i:=0) Cc (Ao K (pv 0) (AS EM (Ae (A4 A9 AC)) (BG GU (by rfl) T.int_ JR (A4 (Dd (Fi hr) (pv 0) (Ae AC) (AX _)) AC)))))
   (A7 (DH (Er (K:=K) rfl PySem.F.plainAttrs_list PySem.F.slot_list_insert PySem.F.type_list_insert CP (pv 0) (A4 (pv 4) (A4 (BE K (pv 0) (AS Ai (AS B8 (pv 2) A9) (Ay K T.len_ (pv 0)))) AC))))
   AD)) AD)
   (A7 (Ad (pv 0))
   AD)))),?_⟩
 clear 2 at_ h10;refine FX (K:=K) o_starts_ (BL (A8 (Rp.mono (Same.new o_starts_.g) A3)) (Bf (BP (A8 o_starts_.tell)) AK)) h10 xt.gh fun v5 G6 H7 x8 r9=>?_;clear 1 x8 AB A3 BH 2 o_starts_;clear 2 b11 h12;refine Ag (AL (K:=K) (Ah (A8 AB) AK)) h12 xt.gh fun G13 H14 x15=>?_;clear 1 x15 AB A3 BH r9 2 o_starts_
 cases b11 with
 | true =>
  clear 3;clear 2 j18 h19 a20 h21 z28 h22;refine Ct (K:=K) rfl o_starts_ (((A8 r9)).up (Same.new o_starts_.g)) h19 (CC (FV.ev (AQ (A5 (A6 (A8 BH)) (A5 (A6 (Ec AK)) (A5 (A6 DC) (A5 (A6 EU) (A5 (A6 C1) (A5 (A6 (Af (A5 (A6 AK) (AF (α:=D))))) (A5 (A6 (FV.ev (AQ (A5 (A6 AK) (AF (α:=D)))))) (A5 (A6 (EV.of (m':=some (100000000000000000000000000000000000000000000000000000000000:Int)) (Lf (AK (i:=10)) (AK (i:=59))) (by decide +kernel))) (AF (α:=D)))))))))))) (Aa (AY (A8 A3)))) h21 h22 xt.gh fun G23 H24 w25 x26 o27=>?_;have xt:Ext G0 H0 G23 (upd H24 E6 (.lst (vs_starts_.take j18.toNat++w25::vs_starts_.drop j18.toNat))):=(xt.trans x26).put EE o27.g;clear 0 x26 AB A3 r9;have sf:=Same.new (o:=.lst (vs_starts_.take j18.toNat++w25::vs_starts_.drop j18.toNat)) o27.g;have xt:=xt.frz EE o27.g o27.h;have r29:=o27.tell;clear 9 sf AB A3 r9;clear 2 b30 h31;refine Ag (AL (K:=K) (Ah (A8 AB) AK)) h31 xt.gh fun G32 H33 x34=>?_;clear 1 x34 r29 A3 r9
  cases b30 with
  | true =>
   clear 3;clear 2 starts_ h49;refine Ck (K:=K) (CQ (A8 r29) (FV.ev (Cd (FV.ev (AQ (A5 (A6 AK) (AF (α:=D))))) (Cz (C6 (A8 r29) (FV.ev (AQ (AF (α:=D))))))))) h49 xt.gh fun p42 vs43 G44 H45 x46 hz47 o48=>?_;clear 1 x46 A3 r9 4 hz47;clear 2 j54 h55 j56 h57 a58 h59 z66 h60;refine Bj (K:=K) rfl o48 (((A8 r9)).up (Same.new o48.g)) h55 (BL (AY (A8 (Rp.mono (Same.new o48.g) A3))) (BP (A8 o48.tell))) h57 h59 h60 xt.gh fun G61 H62 w63 x64 o65=>?_;have xt:Ext G0 H0 G61 (upd H62 p42 (.lst (vs43.take j54.toNat++w63::vs43.drop j54.toNat))):=(xt.trans x64).put hz47 o65.g;have sf:=Same.new (o:=.lst (vs43.take j54.toNat++w63::vs43.drop j54.toNat)) o65.g;have xt:=xt.frz hz47 o65.g o65.h;have r67:=o65.tell;exact AN (K:=K) (A6 (A8 r67)) hm xt.gh fun v68 G69 H70 x71 r72=>q v68 G69 H70 (xt.trans x71) r72
  | false =>
   clear 4;exact AN (K:=K) (A6 (A8 r29)) hm xt.gh fun v73 G74 H75 x76 r77=>q v73 G74 H75 (xt.trans x76) r77
 | false =>
  clear 4;have sf:=Same.new (o:=.lst vs_starts_) o_starts_.g;have xt:=xt.frz EE o_starts_.g o_starts_.h;have r78:=o_starts_.tell;clear 9 sf AB A3 r9;clear 2 b79 h80;refine Ag (AL (K:=K) (Ah (A8 AB) AK)) h80 xt.gh fun G81 H82 x83=>?_;clear 1 x83 r78 A3 r9
  cases b79 with
  | true =>
   clear 3;clear 2 starts_ h98;refine Ck (K:=K) (CQ (A8 r78) (FV.ev (Cd (FV.ev (AQ (A5 (A6 AK) (AF (α:=D))))) (Cz (C6 (A8 r78) (FV.ev (AQ (AF (α:=D))))))))) h98 xt.gh fun p91 vs92 G93 H94 x95 hz96 o97=>?_;clear 1 x95 A3 r9 4 hz96;clear 2 j103 h104 j105 h106 a107 h108 z115 h109;refine Bj (K:=K) rfl o97 (((A8 r9)).up (Same.new o97.g)) h104 (BL (AY (A8 (Rp.mono (Same.new o97.g) A3))) (BP (A8 o97.tell))) h106 h108 h109 xt.gh fun G110 H111 w112 x113 o114=>?_;have xt:Ext G0 H0 G110 (upd H111 p91 (.lst (vs92.take j103.toNat++w112::vs92.drop j103.toNat))):=(xt.trans x113).put hz96 o114.g;have sf:=Same.new (o:=.lst (vs92.take j103.toNat++w112::vs92.drop j103.toNat)) o114.g;have xt:=xt.frz hz96 o114.g o114.h;have r116:=o114.tell;exact AN (K:=K) (A6 (A8 r116)) hm xt.gh fun v117 G118 H119 x120 r121=>q v117 G118 H119 (xt.trans x120) r121
  | false =>
   clear 4;exact AN (K:=K) (A6 (A8 r78)) hm xt.gh fun v122 G123 H124 x125 r126=>q v122 G123 H124 (xt.trans x125) r126
theorem IM (F:DIn K mg "_law_spoiled" Dk)(T:Txt mg)(Cm:DX P w K mg base)(Ea:Gi P w K mg base)(D9:ET P w K mg base)(Dl:FB P w K mg base)(DM:Ep P w K mg base)(Cq:Dz P w K mg base):FA P w K mg base:=by
 refine F.okM3 (m:=By) Bp fun _ _ _ _ _ H0 _ _ hr G0 made_ way_ AA res MK Dq As xt B3 AB A3 hm q=>?_;unfold By at hm
 refine ⟨_,(A7 (AZ (i:=3) Bp (Ay K T.len_ (BE K (pv 0) A9)))
   (A7 (Au (AU FT (pv 1) A9 (AX _)) (A7 (Ad (Al Cm hr (by decide) rfl (A4 (pv 0) (A4 (pv 2) AC))))
   AD) AD)
   (A7 (Au (AU (LW (K:=K) rfl) (pv 1) (Ap (A4 A9 (A4 A9 (A4 A9 (A4 A9 (A4 A9 (A4 A9 AC))))))) rfl) (A7 (Ad (Al Ea hr (by decide) rfl (A4 (pv 0) (A4 (pv 1) (A4 (pv 2) AC)))))
   AD) AD)
   (A7 (Em (pv 0) (pg_tup rfl (D2 (Bv (i:=4) Bp) (D2 (Bv (i:=5) Bp) (D2 (Bv (i:=6) Bp) (D2 (Bv (i:=7) Bp) MX))))))
   (A7 (Au (AU EY (pv 1) A9 (AX _)) (A7 (Ad (Ap (A4 (Al Dl hr (by decide) rfl (A4 (BG (CO (K:=K) rfl) (by rfl) T.list_ CJ (A4 (pv 4) AC)) (A4 (pv 1) (A4 (pv 2) AC)))) (A4 (pv 5) (A4 (pv 6) (A4 (pv 7) AC))))))
   AD) AD)
   (A7 (Au (AU EY (pv 1) A9 (AX _)) (A7 (Ad (Ap (A4 (pv 4) (A4 (Al DM hr (by decide) rfl (A4 (BG (CO (K:=K) rfl) (by rfl) T.list_ CJ (A4 (pv 5) AC)) (A4 (pv 1) (A4 (pv 2) (A4 (pv 3) AC))))) (A4 (pv 6) (A4 (pv 7) AC))))))
   AD) AD)
   (A7 (Au (AU EY (pv 1) A9 (AX _)) (A7 (Ad (Ap (A4 (pv 4) (A4 (pv 5) (A4 (Al Cq hr (by decide) rfl (A4 (BG (CO (K:=K) rfl) (by rfl) T.list_ CJ (A4 (pv 6) AC)) (A4 (pv 1) (A4 (pv 2) (A4 (pv 3) AC))))) (A4 (pv 7) AC))))))
   AD) AD)
   (A7 (Ad (Ap (A4 (pv 4) (A4 (pv 5) (A4 (pv 6) (A4 (Al D9 hr (by decide) rfl (A4 (BG (CO (K:=K) rfl) (by rfl) T.list_ CJ (A4 (pv 7) AC)) (A4 (pv 1) (A4 (pv 2) (A4 (Ay K T.len_ (pv 5)) AC))))) AC))))))
   AD)))))))),?_⟩
 clear 2 Bk h6;refine B1 (K:=K) (BP (ev_p41 (A8 B3))) h6 xt.gh fun v1 G2 H3 x4 r5=>?_;clear 1 x4 B3 AB A3;clear 2 b7 h8;refine Ag (AL (K:=K) (DD (A8 AB) AK)) h8 xt.gh fun G9 H10 x11=>?_;clear 1 x11 B3 AB A3 r5
 cases b7 with
 | true =>
  clear 3;exact AN (K:=K) (B7 (m:=DR) (A8 B3) (A8 A3)) hm xt.gh fun v14 G15 H16 x17 r18=>q v14 G15 H16 (xt.trans x17) r18
 | false =>
  clear 4;clear 2 b19 h20;refine Ag (AL (K:=K) (ev_inT (A8 AB) (Af (A5 AK (A5 AK (A5 AK (A5 AK (A5 AK (A5 AK (AF (α:=Int))))))))))) h20 xt.gh fun G21 H22 x23=>?_;clear 1 x23 B3 AB A3 r5
  cases b19 with
  | true =>
   clear 3;exact AN (K:=K) (MW (m:=Fa) (A6 (A8 B3)) (A8 AB) (A8 A3)) hm xt.gh fun v27 G28 H29 x30 r31=>q v27 G28 H29 (xt.trans x30) r31
  | false =>
   clear 4;clear 2 p32 h33;refine He (K:=K) (A8 B3) h33 xt.gh fun v37 v38 v39 v40 G34 H35 x36 r41 r42 r43 r44=>?_;clear 1 x36 AB A3 r5;clear 2 b45 h46;refine Ag (AL (K:=K) (DD (A8 AB) AK)) h46 xt.gh fun G47 H48 x49=>?_;clear 1 x49 AB A3 r5 r41 r42 r43 r44
   cases b45 with
   | true =>
    clear 3;exact AN (K:=K) (A6 (Af (A5 (ev_defC3 (m:=Eo) (HE (Gq (A8 r41))) (A8 AB) (A8 A3)) (A5 (A6 (A8 r42)) (A5 (A6 (A8 r43)) (A5 (A6 (A8 r44)) (AF (α:=D)))))))) hm xt.gh fun v56 G57 H58 x59 r60=>q v56 G57 H58 (xt.trans x59) r60
   | false =>
    clear 4;clear 2 b61 h62;refine Ag (AL (K:=K) (DD (A8 AB) AK)) h62 xt.gh fun G63 H64 x65=>?_;clear 1 x65 AB A3 r5 r41 r42 r43 r44
    cases b61 with
    | true =>
     clear 3;exact AN (K:=K) (A6 (Af (A5 (A6 (A8 r41)) (A5 (HR (m:=ES) (HE (Gq (A8 r42))) (A8 AB) (A8 A3) (A8 r5)) (A5 (A6 (A8 r43)) (A5 (A6 (A8 r44)) (AF (α:=D)))))))) hm xt.gh fun v74 G75 H76 x77 r78=>q v74 G75 H76 (xt.trans x77) r78
    | false =>
     clear 4;clear 2 b79 h80;refine Ag (AL (K:=K) (DD (A8 AB) AK)) h80 xt.gh fun G81 H82 x83=>?_;clear 1 x83 AB A3 r5 r41 r42 r43 r44
     cases b79 with
     | true =>
      clear 3;exact AN (K:=K) (A6 (Af (A5 (A6 (A8 r41)) (A5 (A6 (A8 r42)) (A5 (HR (m:=Db) (HE (Gq (A8 r43))) (A8 AB) (A8 A3) (A8 r5)) (A5 (A6 (A8 r44)) (AF (α:=D)))))))) hm xt.gh fun v93 G94 H95 x96 r97=>q v93 G94 H95 (xt.trans x96) r97
     | false =>
      clear 4;exact AN (K:=K) (A6 (Af (A5 (A6 (A8 r41)) (A5 (A6 (A8 r42)) (A5 (A6 (A8 r43)) (A5 (HR (m:=E4) (HE (Gq (A8 r44))) (A8 AB) (A8 A3) (BP (A8 r42))) (AF (α:=D)))))))) hm xt.gh fun v108 G109 H110 x111 r112=>q v108 G109 H110 (xt.trans x111) r112
seal eval in
theorem ok_law {f:Addr}{fd:FuncData}(F:Fun K "law" "law" s_law f fd)(T:Txt mg)(Dn:FD P w K mg base)(C9:GD P w K mg base)(CA:Fg P w K mg base)(Dr:F6 P w K mg base)(B4:FN P w K mg base)(Du:FA P w K mg base):FnOk P w K mg base CX0 8 f fd ["_law_script"] (spM K mm_law):=by
 refine F.ok Ds (fun vs H Q E h=>(Ez h).trans rfl) (fun cdv A outer s H0 vs Q E hr h=>?_);obtain ⟨G0,⟨script_,⟨⟩⟩,res,sg0,⟨Bg,_,rfl,AI,rfl⟩,hm,q⟩:=h;replace AI:Rp.rel K G0 Bg script_:=AI;replace hm:Ks script_=some res:=hm;unfold Ks at hm;have xt:Ext G0 H0 G0 H0:=Ext.refl sg0
 refine ⟨_,(A7 (AZ (i:=1) Ds (Al Dn hr (by decide) rfl (A4 (pv 0) (A4 (Al Dr hr (by decide) rfl (A4 (AS Ai (Al B4 hr (by decide) rfl (A4 (pv 0) (A4 A9 AC))) A9) AC)) AC))))
   (A7 (AZ (i:=2) Ds (AS Ai (Al B4 hr (by decide) rfl (A4 (pv 0) (A4 A9 AC))) A9))
   (A7 (AZ (i:=3) Ds (AS Ai (Al B4 hr (by decide) rfl (A4 (pv 0) (A4 A9 AC))) A9))
   (A7 (Au (AU BX (pv 2) A9 (AX _)) (A7 (AZ (i:=1) Ds (Ap (A4 (AS EM (Ae (A4 BR AC)) A9) (A4 (CL (cn:=[]) (cap:=[]) rfl ⟨by decide +kernel,rfl,by decide +kernel,C3 rfl⟩ rfl (by decide +kernel) trivial (Cp rfl T.range_ (A4 A9 AC)) (fun C s0 H0 fp=>⟨C4,(Ap (A4 (AS B8 (pv 0) A9) (A4 (AS Ai (pv 0) A9) AC)))⟩)) (A4 (Ae (A4 A9 (A4 A9 AC))) (A4 (Ae (A4 (Ae (A4 A9 (A4 A9 AC))) (A4 (Ae AC) (A4 (CL (cn:=[]) (cap:=[]) rfl ⟨by decide +kernel,rfl,by decide +kernel,C3 rfl⟩ rfl (by decide +kernel) trivial (Cp rfl T.range_ (A4 A9 AC)) (fun C s0 H0 fp=>⟨C4,(pv 0)⟩)) AC)))) AC))))))
   AD) AD)
   (A7 (AZ (i:=4) Ds (pv 1))
   (A7 (Au (PW.pt (Jy (AU EY (pv 2) A9 (AX _)) (Jo (AU Lz (pv 2) A9 (AX _))))) (A7 (AZ (i:=4) Ds (Al Du hr (by decide) rfl (A4 (pv 1) (A4 (pv 2) (A4 (pv 3) AC)))))
   AD) AD)
   (A7 (AZ (i:=5) Ds (pe_or (Dd FT (pv 2) A9 (AX _)) (IJ (Dd BX (pv 2) A9 (AX _)))))
   (A7 (AZ (i:=6) Ds (Al C9 hr (by decide) rfl (A4 (pv 4) AC)))
   (A7 (AZ (i:=7) Ds (Al CA hr (by decide) rfl (A4 (pv 4) AC)))
   (A7 (Au (PW.pt (E7 (D8 (BJ K (B5 (BW (K:=K) rfl) (by rfl) T.isinstance_ B2 (A4 (pv 7) (A4 (CI (v:=.ty "bool") rfl T.bool_ Mf rfl) AC))))) (E7 (AU Lz (pv 7) (pv 5) (AX _)) (Dg (AU (op_neS hr) (pv 4) (pv 6) (AX _)))))) (A7 (Ad C2)
   AD) AD)
   (A7 (Au (PW.pt (E7 (D8 (BJ K (Al CA hr (by decide) rfl (A4 (pv 1) AC)))) (Dg (BJ K (Al CA hr (by decide) rfl (A4 (Ap (A4 (Ae (A4 BR AC)) (A4 (Ae (A4 (Ap (A4 A9 (A4 A9 AC))) AC)) (A4 (Ae AC) (A4 (Ae AC) AC))))) AC)))))) (A7 (Ad C2)
   AD) AD)
   (A7 (Ad (Dd BX (Al CA hr (by decide) rfl (A4 (pv 4) AC)) (pv 5) (AX _)))
   AD)))))))))))),?_⟩
 clear 2 made_ h12;refine B1 (K:=K) (B7 (m:=Ef) (A8 AI) (Ch (m:=Ee) (Aa (B7 (m:=B9) (A8 AI) AK)))) h12 xt.gh fun v7 G8 H9 x10 r11=>?_;clear 1 x10 AI;clear 2 way_ h21;refine B1 (K:=K) (Aa (B7 (m:=B9) (A8 AI) AK)) h21 xt.gh fun v16 G17 H18 x19 r20=>?_;clear 1 x19 AI r11;clear 2 AA h30;refine B1 (K:=K) (Aa (B7 (m:=B9) (A8 AI) AK)) h30 xt.gh fun v25 G26 H27 x28 r29=>?_;clear 1 x28 AI r11 r20;clear 2 b31 h32 s36 h37
 try (with_reducible refine nxt_ ?_;dsimp only)
 refine DW (t:=HM _ _ _) (fun S70 H69=>∃ (G68:Hp) (v39:V),Ext G0 H0 G68 H69/\Same G26 G68/\S70=[some Bg,some v39,some v16,some v25,none,none,none,none]/\Rp.rel K G68 v39 (s36:(T4 (List Str) (List (Int × Int)) (List Int) (List (List Int))))) (fun nx kn41=>?_) ?_
 ·refine Ag (AL (K:=K) (Ah (A8 r20) AK)) h32 xt.gh fun G33 H34 x35=>?_;clear 1 x35 r11;have mk38:Same G26 G33:=x35.gg;have hm:=h37
  cases b31 with
  | true =>
   clear 3;clear 2 made_ h67;refine B1 (K:=K) (MO (FV.ev (Cd (FV.ev (AQ (A5 C1 (AF (α:=Str))))) AK)) (FV.ev (CZ (cap:=[]) (fe:=fun (k_:Int)=>(some ((k_ / (8:Int)),(k_ % (8:Int))))) (ER AK) fun xc48 k_ Gc45 sc46 rc47=>(HB (AY (A8 rc47)) (Aa (A8 rc47))))) (FV.ev (AQ (A5 AK (A5 AK (AF (α:=Int)))))) (FV.ev (AQ (A5 (FV.ev (AQ (A5 AK (A5 AK (AF (α:=Int)))))) (A5 (FV.ev (AQ (AF (α:=Int)))) (A5 (FV.ev (CZ (cap:=[]) (fe:=fun (k_:Int)=>(some k_)) (ER AK) fun xc54 k_ Gc51 sc52 rc53=>(A8 rc53))) (AF (α:=(List Int))))))))) h67 xt.gh fun v62 G63 H64 x65 r66=>?_;clear 1 x65 3 mk38;cases hm;exact kn41 _ _ ⟨G63,v62,xt,mk38,rfl,r66⟩
  | false =>
   clear 4;cases hm;exact kn41 _ _ ⟨G33,v7,xt,mk38,rfl,r11⟩
 ·rintro _ H69 ⟨G68,v39,xt,mk38,rfl,r40⟩;clear 9 mk38 AI r20 r29;clear 2 AW h76;refine B1 (K:=K) (A6 (A8 r40)) h76 xt.gh fun v71 G72 H73 x74 r75=>?_;clear 1 x74 AI r40 r20 r29;clear 2 b77 h78 s82 h83
  try (with_reducible refine nxt_ ?_;dsimp only)
  refine DW (t:=HM _ _ _) (fun S99 H98=>∃ (G97:Hp) (v85:V),Ext G0 H0 G97 H98/\Same G72 G97/\S99=[some Bg,some v39,some v16,some v25,some v85,none,none,none]/\Rp.rel K G97 v85 (s82:D)) (fun nx kn87=>?_) ?_
  ·refine Ag (Mj (AL (K:=K) (DD (A8 r20) AK)) (AL (K:=K) (Lg (A8 r20) AK))) h78 xt.gh fun G79 H80 x81=>?_;clear 1 x81 r40 r20 r29 r75;have mk84:Same G72 G79:=x81.gg;have hm:=h83
   cases b77 with
   | true =>
    clear 3;clear 2 AW h96;refine B1 (K:=K) (MW (m:=EW) (A8 r40) (A8 r20) (A8 r29)) h96 xt.gh fun v91 G92 H93 x94 r95=>?_;clear 1 x94 3 mk84;cases hm;exact kn87 _ _ ⟨G92,v91,xt,mk84,rfl,r95⟩
   | false =>
    clear 4;cases hm;exact kn87 _ _ ⟨G79,v71,xt,mk84,rfl,r75⟩
  ·rintro _ H98 ⟨G97,v85,xt,mk84,rfl,r86⟩;clear 9 mk84 r40 r20;clear 2 due_ h105;refine B1 (K:=K) (ev_orP (DD (A8 r20) AK) (Ah (A8 r20) AK)) h105 xt.gh fun v100 G101 H102 x103 r104=>?_;clear 1 x103 r40 r86;clear 2 kept_ h112;refine B1 (K:=K) (Ch (m:=Bb 6) (A8 r86)) h112 xt.gh fun v107 G108 H109 x110 r111=>?_;clear 1 x110 r40 r86 r104;clear 2 found_ h119;refine B1 (K:=K) (Ch (m:=CH) (A8 r86)) h119 xt.gh fun v114 G115 H116 x117 r118=>?_;clear 1 x117 r40 r86 r104 r111;clear 2 b124 h125;refine Ag (E2 (DA (FI (K:=K) (ev_inst (b:=true) (by decide +kernel) (A8 r118)))) (E2 (AL (K:=K) (ev_neB (A8 r118) (A8 r104))) (AL (K:=K) (ev_neDD (A8 r86) (A8 r111))))) h125 xt.gh fun G126 H127 x128=>?_;clear 1 x128 r40 r86 r104
   cases b124 with
   | true =>
    clear 3;exact AN (K:=K) (rest:=DN) (σ:=[some Bg,some v39,some v16,some v25,some v85,some v100,some v107,some v114]) DC hm xt.gh fun v129 G130 H131 x132 r133=>q v129 G130 H131 (xt.trans x132) r133
   | false =>
    clear 4;clear 2 b138 h139;refine Ag (E2 (DA (FI (K:=K) (Ch (m:=CH) (A6 (A8 r40))))) (FI (K:=K) (Ch (m:=CH) (A6 (Af (A5 (A6 (FV.ev (AQ (A5 (A6 C1) (AF (α:=D)))))) (A5 (A6 (FV.ev (AQ (A5 (A6 (Af (A5 (A6 AK) (A5 (A6 AK) (AF (α:=D)))))) (AF (α:=D)))))) (A5 (A6 (FV.ev (AQ (AF (α:=D))))) (A5 (A6 (FV.ev (AQ (AF (α:=D))))) (AF (α:=D))))))))))) h139 xt.gh fun G140 H141 x142=>?_;clear 1 x142 r86 r104
    cases b138 with
    | true =>
     clear 3;exact AN (K:=K) (rest:=DN) (σ:=[some Bg,some v39,some v16,some v25,some v85,some v100,some v107,some v114]) DC hm xt.gh fun v143 G144 H145 x146 r147=>q v143 G144 H145 (xt.trans x146) r147
    | false =>
     clear 4;exact AN (K:=K) (ev_eqB (Ch (m:=CH) (A8 r86)) (A8 r104)) hm xt.gh fun v150 G151 H152 x153 r154=>q v150 G151 H152 (xt.trans x153) r154
end
def abcN:List Nat:=List.range' 97 26
def one (c:Nat):Str:=⟨#[c]⟩
theorem one_len (c:Nat):(one c).length=1:=rfl
theorem abc_cps:("abcdefghijklmnopqrstuvwxyz" : Str).cps.toList=abcN:=by decide +kernel
theorem NH (x:Str):Ju x=x.cps.toList.map one:=rfl
theorem abc_pw:abcN.Pairwise (· < ·):=List.pairwise_lt_range'
def Mom (x:Str):Prop:=x.cps.toList.Sublist abcN
theorem Mom.pw {x:Str}(h:Mom x):x.cps.toList.Pairwise (· < ·):=abc_pw.sublist h
theorem pw_eq {a b:List Nat}(ha:a.Pairwise (· < ·))(hb:b.Pairwise (· < ·))(h:∀ x,x∈a ↔ x∈b):a=b :=
 List.Perm.eq_of_pairwise (le:=(· < ·)) (fun x y _ _ h1 h2=>absurd h1 (Nat.lt_asymm h2)) ha hb ((List.perm_ext_iff_of_nodup (ha.imp fun h=>qrB h) (hb.imp fun h=>qrB h)).mpr h)
theorem leS_one {a b:Nat}(h:a<=b):leS (one a) (one b)=true:=by
 unfold leS one;rw [Bool.not_eq_true',decide_eq_false_iff_not];intro q;have:=(MG b a).mp q;omega
theorem sortS_eq {ys zs:List Str}(hp:zs.Perm ys)(hz:zs.Pairwise fun a b=>leS a b=true):HJ ys=zs :=
 (List.Perm.eq_of_pairwise (fun a b _ _ h1 h2=>L7 h1 h2) hz (List.pairwise_mergeSort GQ J5 ys) (hp.trans (DU ys).symm)).symm
theorem rng_at {n i:Nat}{a:Int}(h:((List.range n).map fun (i:Nat)=>(0:Int)+(i:Int))[i]? = some a):i<n/\a=(i:Int):=by
 have hi:i<n:=by simpa using (qtA.mp h).1
 refine ⟨hi,?_⟩;simp [hi] at h;omega
theorem Gr (n:Nat):((List.range n).map fun (i:Nat)=>(0:Int)+(i:Int)).length=n:=by rw [qeA,qiA]
theorem CK (s:Scr)(k:Int)(h0:0<=k)(h1:k<=100){P:Int->Prop}(hp:∀ n,P n):OK (Ar s k) P:=by
 unfold Ar;simp only [qiB,AT,Cr];refine BN (fun h=>Fm h0 (of_decide_eq_true h) fun x _=>hp x) fun _=>?_;refine En (P:=fun z:Int=>-(2 ^ 64)<z/\z<2 ^ 64) (BN (fun h=>?_) fun _=>AO (by omega)) fun z hz=>AE (ok_mul (.inl hz) (AO (hp _)));have h:=of_decide_eq_true h;refine AE (Cj h (AE (Fm (qkB _ (by omega)) (qmB _ h) fun x _=>AO ?_)));have a0:=qkB (x * 48271+k * 7919) (b:=2147483647) (by decide);have a1:=qmB (x * 48271+k * 7919) (b:=2147483647) (by decide);omega
theorem memE_eq (x:Int × Int)(l:List (Int × Int)):memE x l=decide (x∈l):=decide_eq_decide.mpr Iff.rfl
def Dt (c:Int):D->Bool
 | .int i=>decide (0<=i) && decide (i<c)
 | _=>false
theorem Dx (d:D)(c:Int):Aj d c=some (Dt c d):=by
 unfold Aj
 cases d with
 | int i =>
  have e1:isK "int" (.int i)=true:=by simp [isK,dk]
  have e2:isK "bool" (.int i)=false:=by simp [isK,dk]
  simp only [AT,e1,e2,Bool.not_false,cond_true];show cond (decide (0<=i)) (some (decide (i<c))) (some false)=some (decide (0<=i) && decide (i<c));cases decide (0<=i)<;>rfl
 | bl b =>
  have e1:isK "int" (.bl b)=true:=by simp [isK,dk]
  have e2:isK "bool" (.bl b)=true:=by simp [isK,dk]
  simp only [AT,e1,e2,Bool.not_true,cond_true,cond_false]
  rfl
 | _ =>
  simp only [AT,isK,dk]
  rfl
def KY (c:Int):D->Bool
 | .tup [a,b]=>Dt c a && Dt c b
 | _=>false
theorem kT (l:List D):isK "tuple" (.tup l)=true:=by simp [isK,dk]
theorem kL (l:List D):isK "list" (.lst l)=true:=by simp [isK,dk]
theorem way_eq (d:D)(c:Int):DK d c=some (KY c d):=by
 unfold DK
 cases d with
 | tup l =>
  simp only [AT,kT,Bool.not_true,cond_false,Ca]
  match l with
  | []=>rfl
  | [a]=>rfl
  | [a,b] =>
   show Option.bind (Aj a c) (fun t22=>cond t22 (Aj b c) (some false))=some (Dt c a && Dt c b);rw [Dx,Dx,AT];cases Dt c a<;>rfl
  | a::b::e::r =>
   have:decide (((a::b::e::r).length:Int)=2)=false:=decide_eq_false (by simp;omega);rw [this]
   rfl
 | _ =>
  simp only [AT,isK,dk]
  rfl
theorem Bn {α β:Type}{f:α->Option β}{g:α->β}:∀ (l:List α),(∀ x∈l,f x=some (g x))->D5 f l=some (l.map g):=fun l h=>OK.eq (HU (g:=g) h rfl)
theorem Gv {α:Type}{g:α->Bool}{l:List α}(h:∃ x∈l,g x=false):(l.map g).all id=false:=by
 obtain ⟨x,hx,e⟩:=h;rw [Bool.eq_false_iff];intro q;rw [List.all_eq_true] at q;have:=q (g x) (qnA.mpr ⟨x,hx,rfl⟩);rw [e] at this;cases this
theorem Fp {α:Type}{g:α->Bool}{l:List α}(h:∀ x∈l,g x=true):(l.map g).all id=true:=by
 rw [List.all_eq_true];intro b hb;obtain ⟨x,hx,rfl⟩:=qnA.mp hb;exact h x hx
theorem FY {ds:List D}{c:Int}(h:∃ d∈ds,Dt c d=false):AH (.lst ds) c=some false:=by
 unfold AH;simp only [qiB,AT,kL,Bool.not_true,cond_false,Cb,Dx];rw [Bn (g:=Dt c) ds (fun _ _=>rfl)];simp only [AT,Gv h,Bool.not_false,cond_true]
theorem KP {d:D}{c:Int}(h:isK "list" d=false):AH d c=some false:=by
 unfold AH;simp only [AT,h,Bool.not_false,cond_true]
theorem Iu:∀ l:List Int,J9 (l.map D.int)=some l
 | []=>rfl
 | a::l=>by
  show (J9 (l.map D.int)).map (a::·)=some (a::l);rw [Iu l]
  rfl
theorem K8 {c:Int}{k:Int}(h:0<=k/\k<c):Dt c (.int k)=true:=by
 show (decide (0<=k) && decide (k<c))=true;rw [decide_eq_true h.1,decide_eq_true h.2]
 rfl
theorem Hn {l:List Int}{c:Int}(h:∀ k∈l,0<=k/\k<c)(hl:l.length<4000):AH (.lst (l.map D.int)) c=some (decide (((Gp l).length:Int)=(l.length:Int))):=by
 unfold AH;simp only [qiB,AT,kL,Bool.not_true,cond_false,Cb,Dx];rw [Bn (g:=Dt c) (l.map D.int) (fun _ _=>rfl)]
 rw [AT,Fp (fun d hd=>by
  obtain ⟨k,hk,rfl⟩:=qnA.mp hd
  exact K8 (h k hk))]
 simp only [AT,Bool.not_true,cond_false,Lb,D0,Ca,qeA];rw [Iu,AT];unfold JK;rw [if_pos hl,AT]
theorem L9 {ds:List D}{c:Int}(h:∃ d∈ds,KY c d=false):Aq (.lst ds) c=some false:=by
 unfold Aq;simp only [qiB,AT,kL,Bool.not_true,cond_false,Cb,way_eq,Ca]
 cases decide ((24:Int)<(ds.length:Int)) with
 | true=>rfl
 | false =>
  rw [cond_false,Bn (g:=KY c) ds (fun _ _=>rfl)];simp only [AT,Gv h,cond_false]
theorem ways_nol {d:D}{c:Int}(h:isK "list" d=false):Aq d c=some false:=by
 unfold Aq;simp only [AT,h,Bool.not_false,cond_true]
theorem Io {ds:List D}{c:Int}(h:24<ds.length):Aq (.lst ds) c=some false:=by
 unfold Aq;simp only [AT,kL,Bool.not_true,cond_false,Ca];rw [decide_eq_true (show (24:Int)<(ds.length:Int) by omega)]
 rfl
def toP (p:Int × Int):D:=.tup [.int p.1,.int p.2]
theorem Kw:∀ l:List (Int × Int),LI (l.map toP)=some l
 | []=>rfl
 | a::l=>by
  show (LI (l.map toP)).map ((a.1,a.2)::·)=some (a::l);rw [Kw l]
  rfl
theorem Kb {l:List (Int × Int)}{c:Int}(hc:c<=8)(h:∀ p∈l,(0<=p.1/\p.1<c)/\0<=p.2/\p.2<c)(hl:l.length<=24):Aq (.lst (l.map toP)) c=some (decide (((Eb [] l).length:Int)=(l.length:Int))):=by
 unfold Aq;simp only [qiB,AT,kL,Bool.not_true,cond_false,Cb,way_eq,Ca,qeA];rw [decide_eq_false (show ¬ (24:Int)<(l.length:Int) by omega),cond_false,Bn (g:=KY c) (l.map toP) (fun _ _=>rfl)]
 rw [AT,Fp (fun d hd=>by
  obtain ⟨p,hp,rfl⟩:=qnA.mp hd;show (Dt c (.int p.1) && Dt c (.int p.2))=true;rw [K8 (h p hp).1,K8 (h p hp).2]
  rfl)]
 simp only [cond_true,asPrs,D0,AT];rw [Kw,AT];unfold Ht;rw [if_pos,AT];rw [qyB,List.all_eq_true];refine ⟨fun p hp=>decide_eq_true ?_,decide_eq_true (by omega)⟩;have:=h p hp;exact ⟨this.1.1,by omega,this.2.1,by omega⟩
theorem Iq {ds:List D}{c:Int}(hd:∀ d∈ds,∃ b,AH d c=some b)(h:∃ d∈ds,AH d c=some false):Am (.lst ds) c=some false:=by
 unfold Am;simp only [qiB,AT,kL,Bool.not_true,cond_false,Cb,Ca]
 cases decide ((3:Int)<(ds.length:Int)) with
 | true=>rfl
 | false =>
  rw [cond_false,Bn (g:=fun d=>AH d c == some true) ds (fun d hx=>by
   obtain ⟨b,e⟩:=hd d hx;rw [e]
   cases b<;>rfl)]
  rw [AT,Gv];obtain ⟨d,hx,e⟩:=h;exact ⟨d,hx,by rw [e];rfl⟩
theorem LJ {ds:List D}{c:Int}(hl:ds.length<=3)(hd:∀ d∈ds,AH d c=some true):Am (.lst ds) c=some true:=by
 unfold Am;simp only [qiB,AT,kL,Bool.not_true,cond_false,Cb,Ca];rw [decide_eq_false (show ¬ (3:Int)<(ds.length:Int) by omega),cond_false,Bn (g:=fun _=>true) ds hd,AT,Fp (fun _ _=>rfl)]
theorem NK {d:D}{c:Int}(h:isK "list" d=false):Am d c=some false:=by
 unfold Am;simp only [AT,h,Bool.not_false,cond_true]
theorem Ll {ds:List D}{c:Int}(h:3<ds.length):Am (.lst ds) c=some false:=by
 unfold Am;simp only [AT,kL,Bool.not_true,cond_false,Ca];rw [decide_eq_true (show (3:Int)<(ds.length:Int) by omega)]
 rfl
theorem moms_bad {ds:List D}(hd:∀ d∈ds,∃ b,Az d=some b)(h:∃ d∈ds,Az d=some false):Ac (.lst ds)=some false:=by
 unfold Ac;simp only [qiB,AT,kL,Bool.not_true,cond_false,Cb,Ca]
 cases decide ((ds.length:Int)=0) with
 | true=>rfl
 | false =>
  rw [cond_false]
  cases decide ((8:Int)<(ds.length:Int)) with
  | true=>rfl
  | false =>
   rw [AT,cond_false,Bn (g:=fun d=>Az d == some true) ds (fun d hx=>by
    obtain ⟨b,e⟩:=hd d hx;rw [e]
    cases b<;>rfl)]
   rw [AT,Gv];obtain ⟨d,hx,e⟩:=h;exact ⟨d,hx,by rw [e];rfl⟩
theorem NE {ds:List D}(h1:1<=ds.length)(h8:ds.length<=8)(hd:∀ d∈ds,Az d=some true):Ac (.lst ds)=some true:=by
 unfold Ac;simp only [qiB,AT,kL,Bool.not_true,cond_false,Cb,Ca];rw [decide_eq_false (show ¬ (ds.length:Int)=0 by omega),cond_false,decide_eq_false (show ¬ (8:Int)<(ds.length:Int) by omega),AT,cond_false,Bn (g:=fun _=>true) ds hd,AT,Fp (fun _ _=>rfl)]
theorem moms_nol {d:D}(h:isK "list" d=false):Ac d=some false:=by
 unfold Ac;simp only [AT,h,Bool.not_false,cond_true]
theorem KJ {ds:List D}(h:ds.length=0\/8<ds.length):Ac (.lst ds)=some false:=by
 unfold Ac;simp only [AT,kL,Bool.not_true,cond_false,Ca];rcases h with h|h
 ·rw [h]
  rfl
 ·rw [decide_eq_false (show ¬ (ds.length:Int)=0 by omega),cond_false,decide_eq_true (show (8:Int)<(ds.length:Int) by omega)]
  rfl
theorem D6 {d:D}(h:isK "tuple" d=false):Ab d=some false:=by
 unfold Ab;simp only [AT,h,Bool.not_false,cond_true]
theorem HG {l:List D}(h:l.length≠4):Ab (.tup l)=some false:=by
 unfold Ab;simp only [AT,kT,Bool.not_true,cond_false,Ca];rw [decide_eq_false (show ¬ (l.length:Int)=4 by omega)]
 rfl
theorem IC (a b c d:D):Ab (.tup [a,b,c,d])=(Ac a).bind fun x=>cond x ((Ca a).bind fun n=>(Aq b n).bind fun y=>cond y ((AH c n).bind fun z=>cond z ((Ca b).bind fun k=>Am d k) (some false)) (some false)) (some false):=by
 unfold Ab;simp only [qiB,AT,kT,Bool.not_true,cond_false];show (Ac a).bind _=_
 cases Ac a with
 | none=>rfl
 | some x =>
  cases x with
  | false=>rfl
  | true =>
   simp only [AT,Bool.not_true,cond_false,cond_true]
   cases h1:Ca a with
   | none=>rfl
   | some n =>
    simp only [AT]
    cases Aq b n with
    | none=>rfl
    | some y =>
     cases y with
     | false=>rfl
     | true =>
      simp only [AT,Bool.not_true,cond_false,cond_true]
      rfl
theorem K6 (a b:Nat):decide ([a] < [b])=decide (a<b):=decide_eq_decide.mpr (MG a b)
theorem Ge {x:Str}(h:Mom x):Az (.str x)=some true:=by
 refine OK.eq ?_;unfold Az;have e1:isK "str" (.str x)=true:=by simp [isK,dk]
 simp only [qiB,AT,Cr,e1,Bool.not_true,cond_false,Cb];have hp:=h.pw
 have hm:∀ c∈x.cps.toList,97<=c/\c<=122:=fun c hc=>by
  have:=(List.Sublist.subset h) hc;unfold abcN at this;have:=List.mem_range'_1.mp this;omega
 have a1:("a" : Str).cps.toList=[97]:=by decide +kernel
 have z1:("z" : Str).cps.toList=[122]:=by decide +kernel
 have e0:("" : Str).cps.toList=[]:=by decide +kernel
 rw [NH];refine AE (HD (fun i (s:Str)=>(i=0/\s = "")\/∃ c,x.cps.toList[i - 1]? = some c/\s=one c/\0<i) (.inl ⟨rfl,rfl⟩) (fun i a s ha hI=>?_) fun s _=>AO rfl)
 obtain ⟨c,hc,rfl⟩:∃ c,x.cps.toList[i]? = some c/\a=D.str (one c):=by
  rw [List.map_map,qwA] at ha;obtain ⟨c,h1,h2⟩:=qcB.mp ha;exact ⟨c,h1,h2.symm⟩
 have hcb:=hm c (qsA hc);have oc:(one c).cps.toList=[c]:=rfl
 have hlast:decide (s.cps.toList<(one c).cps.toList)=true:=by
  rcases hI with ⟨_,rfl⟩ | ⟨d,hd,rfl,h0⟩
  ·rw [e0,oc]
   rfl
  ·show decide ([d] < [c])=true;rw [K6,decide_eq_true_iff];obtain ⟨h1,h2⟩:=qtA.mp hc;obtain ⟨h3,h4⟩:=qtA.mp hd;have:=List.pairwise_iff_getElem.mp hp (i - 1) i h3 h1 (by omega);rw [h2,h4] at this;exact this
 simp only [Il,AT];rw [hlast,a1,z1,oc,K6,K6,decide_eq_false (by omega),decide_eq_false (by omega)];simp only [Bool.not_true,AT,cond_false];exact AO ⟨_,rfl,.inr ⟨c,by simpa using hc,rfl,by omega⟩⟩
theorem Lk {d:D}(h:isK "str" d=false):Az d=some false:=by
 unfold Az;simp only [AT,h,Bool.not_false,cond_true]
theorem Nb:∀ x∈(["ba","aa","A","a ","-","a1","az{","zz"]:List Str),Az (.str x)=some false:=by decide +kernel
theorem Fq {ds:List D}{j:Int}{a:D}{P:List D->Prop}(h0:0<=j)(h1:j<=ds.length)(hl:ds.length<=100)(h:∀ l:List D,l.length=ds.length+1->a∈l->(∀ x∈l,x=a\/x∈ds)->(∀ x∈ds,x∈l)->l=ds.take j.toNat++a::ds.drop j.toNat->P l):OK (DJ ds j a) P:=by
 have hs:sizeLine=16777216:=qhB;refine ⟨_,if_pos ⟨⟨h0,h1⟩,by omega⟩,h _ ?_ (by simp) (fun x hx=>?_) (fun x hx=>?_) rfl⟩
 ·rw [qfA,qgA,qjA,List.length_drop];omega
 ·rcases qkA.mp hx with q|q
  ·exact .inr (List.mem_of_mem_take q)
  ·rcases qmA.mp q with q|q
   ·exact .inl q
   ·exact .inr (List.mem_of_mem_drop q)
 ·rw [<- List.take_append_drop j.toNat ds] at hx;rcases qkA.mp hx with q|q
  ·exact List.mem_append_left _ q
  ·exact quB _ (qqA _ q)
theorem M4 {ds:List D}{j:Int}{a:D}{P:List D->Prop}(h0:0<=j)(h1:j<ds.length)(h:∀ l:List D,l.length=ds.length->a∈l->(∀ x∈l,x=a\/x∈ds)->P l):OK (DB ds j a) P:=by
 obtain ⟨k,rfl⟩:=qjB h0;have hk:k<ds.length:=by omega
 have e:DB ds (k:Int) a=some (ds.set k a):=by
  unfold DB ixN;simp [hk]
 refine ⟨_,e,h _ (List.length_set ..) ?_ fun x hx=>?_⟩
 ·exact List.mem_iff_getElem?.mpr ⟨k,by rw [List.getElem?_set_self hk]⟩
 ·rcases List.mem_or_eq_of_mem_set hx with q|q
  ·exact .inr q
  ·exact .inl q
theorem Cu {l:List D}{c n:Int}(hn:0<n)(hl:(l.length:Int)=n){P:D->Prop}(h:∀ x∈l,P x):OK (atI l (c % n)) P :=
 Fm (qkB _ (by omega)) (by rw [hl];exact qmB _ hn) fun x hx=>h x (qsA hx)
theorem AV {n:Nat}{d:D}(h:Dp n d):Dp (n+1) d:=by
 induction h with
 | non n=>exact .non _
 | bl n b=>exact .bl _ _
 | int n b=>exact .int _ _
 | str n b=>exact .str _ _
 | emp n=>exact .emp _
 | lst h ih=>exact .lst ih
 | tup h ih=>exact .tup ih
theorem Kx {n:Nat}{d:D}(h:Dp n d):Br (n+1) d=some d:=by
 induction h with
 | lst h ih =>
  show Be _ _=_;unfold Be;simp only [qiB,AT,kL,cond_true,Cb];rw [Bn (g:=fun d=>d) _ ih,AT,List.map_id'];show some (D.lst (List.map (fun d=>d) _))=_;rw [List.map_id']
 | tup h ih =>
  show Be _ _=_;unfold Be;have e:∀ l,isK "list" (.tup l)=false:=fun l=>by simp [isK,dk]
  simp only [qiB,AT,kT,e,cond_true,cond_false,Cb];rw [Bn (g:=fun d=>d) _ ih,AT,List.map_id'];show some (D.tup (List.map (fun d=>d) _))=_;rw [List.map_id']
 | _=>rfl
abbrev Mac:=T4 (List Str) (List (Int × Int)) (List Int) (List (List Int))
def In (m:Nat)(k:Int):Prop:=0<=k/\k<(m:Int)
structure Gd (M:Mac):Prop where
 a1:1<=M.a.length
 a8:M.a.length<=8
 am:∀ x∈M.a,Mom x
 bn:M.b.Nodup
 b24:M.b.length<=24
 bm:∀ w∈M.b,In M.a.length w.1/\In M.a.length w.2
 cn:M.c.Nodup
 cm:∀ s∈M.c,In M.a.length s
 d3:M.d.length<=3
 dn:∀ m∈M.d,m.Nodup
 dm:∀ m∈M.d,∀ n∈m,In M.b.length n
theorem few {m:Nat}{l:List Int}(nd:l.Nodup)(h:∀ x∈l,In m x):l.length<=m:=by
 have:=EL (m:=(List.range m).map fun (i:Nat)=>(i:Int)) nd fun x hx=>by
  obtain ⟨h1,h2⟩:=h x hx;exact qnA.mpr ⟨x.toNat,qrA.mpr (by omega),by omega⟩
 rwa [qeA,qiA] at this
def BadM (d:D):Prop:=Ab d=some false/\Dp 5 d
theorem Fb (l:List Str):Dp 1 (.lst (l.map D.str)):=.lst fun d hd=>by
 obtain ⟨x,_,rfl⟩:=qnA.mp hd;exact .str _ _
theorem DE (l:List Int):Dp 1 (.lst (l.map D.int)):=.lst fun d hd=>by
 obtain ⟨x,_,rfl⟩:=qnA.mp hd;exact .int _ _
theorem NV (p:Int × Int):Dp 1 (toP p):=.tup fun d hd=>by
 rcases qmA.mp hd with rfl|hd
 ·exact .int _ _
 ·rw [qoA.mp hd];exact .int _ _
theorem Hy (l:List (Int × Int)):Dp 2 (.lst (l.map toP)):=.lst fun d hd=>by
 obtain ⟨x,_,rfl⟩:=qnA.mp hd;exact NV x
def toL (l:List Int):D:=.lst (l.map D.int)
theorem K4 (l:List (List Int)):Dp 2 (.lst (l.map toL)):=.lst fun d hd=>by
 obtain ⟨x,_,rfl⟩:=qnA.mp hd;exact DE x
theorem Ft {a b c d:D}{n:Nat}(h1:Dp n a)(h2:Dp n b)(h3:Dp n c)(h4:Dp n d):Dp (n+1) (.tup [a,b,c,d]):=.tup fun x hx=>by
 simp only [qmA,qsB,or_false] at hx;rcases hx with rfl|rfl|rfl|rfl<;>assumption
theorem GV {a b:D}{n:Nat}(h1:Dp n a)(h2:Dp n b):Dp (n+1) (.tup [a,b]):=.tup fun x hx=>by
 simp only [qmA,qsB,or_false] at hx;rcases hx with rfl|rfl<;>assumption
theorem dp_1 {a:D}{n:Nat}(h1:Dp n a):Dp (n+1) (.tup [a]):=.tup fun x hx=>by
 rw [qoA.mp hx];exact h1
theorem J8 {a:D}{n:Nat}(h1:Dp n a):Dp (n+1) (.lst [a]):=.lst fun x hx=>by
 rw [qoA.mp hx];exact h1
def toM (M:Mac):D:=.tup [.lst (M.a.map D.str),.lst (M.b.map toP),.lst (M.c.map D.int),.lst (M.d.map toL)]
theorem toM_eq (M:Mac):(ToD.to M:D)=toM M:=rfl
theorem dp_M (M:Mac):Dp 3 (toM M):=Ft (AV (Fb _)) (Hy _) (AV (DE _)) (K4 _)
theorem MU {M:Mac}(g:Gd M):Ac (.lst (M.a.map D.str))=some true:=NE (by rw [qeA];exact g.a1) (by rw [qeA];exact g.a8) fun d hd=>by
 obtain ⟨x,hx,rfl⟩:=qnA.mp hd;exact Ge (g.am x hx)
theorem ded_len {l:List Int}(nd:l.Nodup):(Gp l).length=l.length:=((List.perm_ext_iff_of_nodup (Ho l) nd).mpr fun x=>mem_dedA).length_eq
theorem nd_lt:∀ (l m:List Int),m.Nodup->(∀ x∈m,x∈l)->¬ l.Nodup->m.length<l.length
 | [],m,_,_,h=>absurd List.nodup_nil h
 | a::t,m,nd,hs,h=>by
  rw [qgA];by_cases ha:a∈t
  ·have:=EL (m:=t) nd fun x hx=>by
    rcases qmA.mp (hs x hx) with rfl|q
    ·exact ha
    ·exact q
   omega
  ·have ht:¬ t.Nodup:=fun q=>h (List.nodup_cons.mpr ⟨ha,q⟩)
   have:=nd_lt t (m.erase a) (nd.erase a) (fun x hx=>by
    have h1:=(List.Nodup.mem_erase_iff nd).mp hx;rcases qmA.mp (hs x h1.2) with q|q
    ·exact absurd q h1.1
    ·exact q) ht
   have:=List.length_erase (a:=a) (l:=m);split at this<;>omega
theorem ded_ne {l:List Int}(nd:¬ l.Nodup):(Gp l).length≠l.length:=qrB (nd_lt l _ (Ho l) (fun x hx=>mem_dedA.mp hx) nd)
theorem M1:∀ (ps ks:List (Int × Int)),(ks++ps).Nodup->Eb ks ps=ks++ps
 | [],ks,_=>by simp [Eb]
 | p::ps,ks,h=>by
  have hn:p ∉ ks:=fun hp=>(List.nodup_append.mp h).2.2 p hp p (by simp) rfl;unfold Eb;rw [if_neg hn,M1 ps (ks++[p]) (by rw [qyA];exact h),qyA]
  rfl
theorem Md:∀ (ps ks:List (Int × Int)),ks.Nodup->¬ (ks++ps).Nodup->(Eb ks ps).length<ks.length+ps.length
 | [],ks,h1,h2=>absurd h1 (by simpa using h2)
 | p::ps,ks,h1,h2=>by
  unfold Eb;by_cases hp:p∈ks
  ·rw [if_pos hp,qgA];have:=Jt ps ks;omega
  ·rw [if_neg hp,qgA];have:=Md ps (ks++[p]) (List.nodup_append.mpr ⟨h1,by simp,fun a ha b hb e=>hp (by rw [qoA.mp hb] at e;rw [<- e];exact ha)⟩) (by rw [qyA];exact h2);rw [qfA,qhA] at this;omega
theorem g_way {M:Mac}(g:Gd M):Aq (.lst (M.b.map toP)) (M.a.length:Int)=some true:=by
 have:=g.a8;rw [Kb (by omega) g.bm g.b24,M1 _ _ (by simpa using g.bn)];simp
theorem E5 {m:Nat}{l:List Int}(hm:m<=100)(nd:l.Nodup)(h:∀ x∈l,In m x):AH (.lst (l.map D.int)) (m:Int)=some true:=by
 have:=few nd h;rw [Hn h (by omega),ded_len nd];simp
theorem Li {m:Nat}{l:List Int}(hl:l.length<=100)(nd:¬ l.Nodup)(h:∀ x∈l,In m x):AH (.lst (l.map D.int)) (m:Int)=some false:=by
 have:=ded_ne nd;rw [Hn h (by omega),decide_eq_false (by omega)]
theorem g_mks {M:Mac}(g:Gd M):Am (.lst (M.d.map toL)) (M.b.length:Int)=some true:=LJ (by rw [qeA];exact g.d3) fun d hd=>by
 obtain ⟨l,hl,rfl⟩:=qnA.mp hd;have:=g.b24;exact E5 (by omega) (g.dn l hl) (g.dm l hl)
theorem Fc (l:List Str):Ca (.lst (l.map D.str))=some (l.length:Int):=by
 show some ((l.map D.str).length:Int)=_;rw [qeA]
theorem M5 (l:List (Int × Int)):Ca (.lst (l.map toP))=some (l.length:Int):=by
 show some ((l.map toP).length:Int)=_;rw [qeA]
theorem g_mach {M:Mac}(g:Gd M):Ab (toM M)=some true:=by
 have:=g.a8;unfold toM;rw [IC,MU g,AT,cond_true,Fc,AT,g_way g,AT,cond_true,E5 (by omega) g.cn g.cm,AT,cond_true,M5,AT,g_mks g]
theorem b_lit {a b c d:D}(h:Ac a=some false):Ab (.tup [a,b,c,d])=some false:=by
 rw [IC,h,AT,cond_false]
theorem MZ {M:Mac}(g:Gd M){b c d:D}(h:Aq b (M.a.length:Int)=some false):Ab (.tup [.lst (M.a.map D.str),b,c,d])=some false:=by
 rw [IC,MU g,AT,cond_true,Fc,AT,h,AT,cond_false]
theorem b_st {M:Mac}(g:Gd M){c d:D}(h:AH c (M.a.length:Int)=some false):Ab (.tup [.lst (M.a.map D.str),.lst (M.b.map toP),c,d])=some false:=by
 rw [IC,MU g,AT,cond_true,Fc,AT,g_way g,AT,cond_true,h,AT,cond_false]
theorem b_mk {M:Mac}(g:Gd M){d:D}(h:Am d (M.b.length:Int)=some false):Ab (.tup [.lst (M.a.map D.str),.lst (M.b.map toP),.lst (M.c.map D.int),d])=some false:=by
 have:=g.a8;rw [IC,MU g,AT,cond_true,Fc,AT,g_way g,AT,cond_true,E5 (by omega) g.cn g.cm,AT,cond_true,M5,AT,h]
theorem LP {L:List Str}(hm:∀ x∈L,Mom x)(h1:1<=L.length)(h8:L.length<=8){way:Int}(hw:way=3\/way=4\/way=5\/way=6)(cell:Int):OK (C0 (L.map D.str) way cell) fun d=>Ac d=some false/\Dp 4 d:=by
 have hs:sizeLine=16777216:=qhB;have h1':(0:Int)<(L.length:Int):=by omega
 unfold C0;simp only [qiB,AT,qeA];refine AE (Cj h1' ?_);have a0:=qkB cell (b:=(L.length:Int)) (by omega);have a1:=qmB cell h1';generalize cell % (L.length:Int)=j at a0 a1 ⊢
 have st:∀ a:D,Az a=some false->Dp 3 a->OK (DB (L.map D.str) j a) fun l=>Ac (.lst l)=some false/\Dp 4 (.lst l):=fun a ha hd =>
  M4 a0 (by rw [qeA];exact a1) fun l hl hin hall=>⟨moms_bad (fun d hx=>by
   rcases hall d hx with rfl|q
   ·exact ⟨_,ha⟩
   ·obtain ⟨x,hx',rfl⟩:=qnA.mp q
    exact ⟨_,Ge (hm x hx')⟩) ⟨a,hin,ha⟩,.lst fun d hx=>by
   rcases hall d hx with rfl|q
   ·exact hd
   ·obtain ⟨x,hx,rfl⟩:=qnA.mp q
    exact .str _ _⟩
 have tl:∀ l:List D,(ToD.to l:D) = .lst l:=fun l=>by
  show D.lst (l.map fun d=>d)=_;rw [List.map_id']
 rcases hw with rfl|rfl|rfl|rfl
 ·simp only [Int.reduceEq,decide_true,decide_false,cond_true,cond_false];exact AO ⟨KJ (.inl rfl),.lst (fun d hd=>by cases hd)⟩
 ·simp only [Int.reduceEq,decide_true,decide_false,cond_true,cond_false];have e9:(9:Int) - (L.length:Int)=((9 - L.length:Nat):Int):=by omega
  rw [e9];refine AE (FP (by simp;omega) (by omega) ?_);have lf:(List.replicate (9 - L.length) [(ToD.to ("" : Str):D)]).flatten.length=9 - L.length:=by simp
  refine AE (Dc (by rw [qeA,lf];omega) (AO ?_));rw [tl];refine ⟨KJ (.inr (by rw [qfA,lf,qeA];omega)),.lst fun d hd=>?_⟩;rcases qkA.mp hd with q|q
  ·obtain ⟨x,hx,rfl⟩:=qnA.mp q;exact .str _ _
  ·simp at q;rw [q.2];exact .str _ _
 ·simp only [Int.reduceEq,decide_true,decide_false,cond_true,cond_false];refine AE (Cu (by decide) rfl fun a ha=>AE (OK.mono (st a ?_ ?_) fun l hl=>AO ?_))
  ·simp only [qmA,qsB,or_false] at ha;rcases ha with rfl|rfl|rfl|rfl|rfl|rfl|rfl|rfl<;>exact Nb _ (by decide)
  ·simp only [qmA,qsB,or_false] at ha;rcases ha with rfl|rfl|rfl|rfl|rfl|rfl|rfl|rfl<;>exact .str _ _
  ·rw [tl];exact hl
 ·simp only [Int.reduceEq,decide_true,decide_false,cond_true,cond_false];refine AE (Cu (by decide) rfl fun a ha=>AE (OK.mono (st a ?_ ?_) fun l hl=>AO ?_))
  ·simp only [qmA,qsB,or_false] at ha;rcases ha with rfl|rfl|rfl|rfl|rfl|rfl<;>exact Lk rfl
  ·simp only [qmA,qsB,or_false] at ha;rcases ha with rfl|rfl|rfl|rfl|rfl|rfl
   ·exact .non _
   ·exact .int _ _
   ·exact J8 (.str _ _)
   ·exact dp_1 (.str _ _)
   ·exact .bl _ _
   ·exact .emp _
  ·rw [tl];exact hl
theorem Cn (l:List D):(ToD.to l:D) = .lst l:=by
 show D.lst (l.map fun d=>d)=_;rw [List.map_id']
theorem Dw {l:List Int}{d:D}(h:d∈l.map D.int):∃ k∈l,d = .int k:=by
 obtain ⟨k,hk,rfl⟩:=qnA.mp h;exact ⟨k,hk,rfl⟩
theorem HL {ds l:List D}{a:D}{n:Nat}(ha:Dp n a)(hd:∀ d∈ds,Dp n d)(h:∀ x∈l,x=a\/x∈ds):Dp (n+1) (.lst l):=.lst fun d hx=>by
 rcases h d hx with rfl|q
 ·exact ha
 ·exact hd d q
theorem nil_or {L:List Int}(hn:L.Nodup):∃ n:Nat,n<=1/\CS (L.map D.int) ([]:List D)=some (decide (n=1))/\(L.map D.int++(List.replicate n [D.int 0]).flatten)=((L++List.replicate n 0).map D.int)/\(L++List.replicate n 0).Nodup/\1<=(L++List.replicate n 0).length/\(n=1->L=[]):=by
 cases L with
 | nil=>exact ⟨1,by omega,rfl,rfl,by simp,by simp,fun _=>rfl⟩
 | cons a t=>exact ⟨0,by omega,rfl,by simp,by simpa using hn,by simp,fun h=>by cases h⟩
theorem twice_ok {L:List Int}{m:Nat}{j i:Int}(hn:L.Nodup)(h:∀ x∈L,In m x)(hl:L.length<=50)(j0:0<=j)(j1:j<=(L.length:Int)){a:D}(ha:a∈L.map D.int):OK (DJ (L.map D.int) j a) fun l=>AH (.lst l) (m:Int)=some false/\Dp 3 (.lst l):=by
 obtain ⟨k,hk,rfl⟩:=Dw ha;refine Fq j0 (by rw [qeA];exact j1) (by rw [qeA];omega) fun l hlen _ hall _ e=>?_
 have e2:l=((L.take j.toNat++k::L.drop j.toNat)).map D.int:=by
  rw [e];simp
 refine ⟨?_,HL (.int _ _) (fun d hd=>by obtain ⟨k,_,rfl⟩:=Dw hd;exact .int _ _) hall⟩;rw [e2];refine Li (by rw [qfA,qgA,qjA,List.length_drop];omega) (fun nd=>?_) fun x hx=>?_
 ·have p:(L.take j.toNat++k::L.drop j.toNat).Perm (k::(L.take j.toNat++L.drop j.toNat)):=List.perm_middle;rw [List.take_append_drop] at p;exact (List.nodup_cons.mp (p.nodup_iff.mp nd)).1 hk
 ·rcases qkA.mp hx with q|q
  ·exact h x (List.mem_of_mem_take q)
  ·rcases qmA.mp q with rfl|q
   ·exact h _ hk
   ·exact h x (List.mem_of_mem_drop q)
theorem M0 {L:List Int}{m:Int}{j:Int}{a:D}(hl:L.length<=50)(j0:0<=j)(j1:j<=(L.length:Int))(ha:Dt m a=false)(hd:Dp 2 a):OK (DJ (L.map D.int) j a) fun l=>AH (.lst l) m=some false/\Dp 3 (.lst l) :=
 Fq j0 (by rw [qeA];exact j1) (by rw [qeA];omega) fun l hlen hin hall _ e=>⟨FY ⟨a,hin,ha⟩,HL hd (fun d hd=>by obtain ⟨k,_,rfl⟩:=Dw hd;exact .int _ _) hall⟩
theorem if_n {n:Nat}(h:n<=1):(if decide (n=1)=true then (1:Int) else 0)=(n:Int):=by
 rcases Nat.le_one_iff_eq_zero_or_eq_one.mp h with rfl|rfl<;>rfl
theorem big_m {m:Nat}(hm:m<=24):Dt (m:Int) (.int 100000000000000000000000000000000000000000000000000000000000)=false:=by
 show (decide ((0:Int)<=100000000000000000000000000000000000000000000000000000000000) && decide ((100000000000000000000000000000000000000000000000000000000000:Int)<(m:Int)))=false;rw [decide_eq_false (show ¬ (100000000000000000000000000000000000000000000000000000000000:Int)<(m:Int) by omega),Bool.and_false]
theorem ME (m:Nat):Dt (m:Int) (.int (m:Int))=false:=by
 show (decide ((0:Int)<=(m:Int)) && decide ((m:Int)<(m:Int)))=false;rw [decide_eq_false (show ¬ (m:Int)<(m:Int) by omega),Bool.and_false]
theorem Ie {L:List Int}{m:Nat}(m1:1<=m)(hm:m<=8)(hn:L.Nodup)(h:∀ x∈L,In m x){way:Int}(hw:way=12\/way=13)(cell:Int):OK (Bc (L.map D.int) way cell (m:Int)) fun d=>AH d (m:Int)=some false/\Dp 4 d:=by
 have hs:sizeLine=16777216:=qhB;have hf:=few hn h;have h1':(0:Int)<(L.length:Int)+1:=by omega
 unfold Bc;simp only [qiB,AT,qeA];refine AE (Cj h1' ?_);have a0:=qkB cell (b:=(L.length:Int)+1) (by omega);have a1:=qmB cell h1';generalize cell % ((L.length:Int)+1)=j at a0 a1 ⊢;rcases hw with rfl|rfl
 ·simp only [Int.reduceEq,decide_true,decide_false,cond_true,cond_false];refine AE (Cu (n:=8) (by decide) rfl fun a ha=>AE (OK.mono (M0 (m:=(m:Int)) (by omega) a0 (by omega) ?_ ?_) fun l hl=>AO ?_))
  ·simp only [qmA,qsB,or_false] at ha;rcases ha with rfl|rfl|rfl|rfl|rfl|rfl|rfl|rfl
   ·exact ME m
   ·rfl
   ·rfl
   ·rfl
   ·rfl
   ·rfl
   ·rfl
   ·exact big_m (by omega)
  ·simp only [qmA,qsB,or_false] at ha;rcases ha with rfl|rfl|rfl|rfl|rfl|rfl|rfl|rfl
   ·exact .int _ _
   ·exact .int _ _
   ·exact .bl _ _
   ·exact .non _
   ·exact .str _ _
   ·exact dp_1 (.int _ _)
   ·exact J8 (.int _ _)
   ·exact .int _ _
  ·rw [Cn];exact ⟨hl.1,AV hl.2⟩
 ·simp only [Int.reduceEq,decide_true,decide_false,cond_true,cond_false];obtain ⟨n,n1,e1,e2,nd,hl1,hn0⟩:=nil_or hn;rw [e1,AT,if_n n1];refine AE (FP (by simp;omega) (by omega) ?_);refine AE (Dc (by simp;omega) ?_);rw [show L.map D.int++(List.replicate n [(ToD.to (0:Int):D)]).flatten=(L++List.replicate n 0).map D.int from e2]
  have hin:∀ x∈L++List.replicate n 0,In m x:=fun x hx=>by
   rcases qkA.mp hx with q|q
   ·exact h x q
   ·rw [(List.mem_replicate.mp q).2];exact ⟨by omega,by omega⟩
  have hf2:=few nd hin;have hge:L.length<=(L++List.replicate n 0).length:=by rw [qfA];omega
  generalize L++List.replicate n 0=L2 at *;rw [qeA];refine AE (Cj (by omega) (AE (Fm (qkB _ (by omega)) (by rw [qeA];exact qmB _ (by omega)) fun a ha=>?_)));refine AE (OK.mono (twice_ok (m:=m) (i:=0) nd hin (by omega) a0 (by omega) (qsA ha)) fun l hl=>AO ?_);rw [Cn];exact ⟨hl.1,AV hl.2⟩
theorem Jr {l:List (Int × Int)}{d:D}(h:d∈l.map toP):∃ k∈l,d=toP k:=by
 obtain ⟨k,hk,rfl⟩:=qnA.mp h;exact ⟨k,hk,rfl⟩
theorem nil_orP {L:List (Int × Int)}(hn:L.Nodup):∃ n:Nat,n<=1/\CS (L.map toP) ([]:List D)=some (decide (n=1))/\(L.map toP++(List.replicate n [toP (0,0)]).flatten)=((L++List.replicate n (0,0)).map toP)/\(L++List.replicate n (0,0)).Nodup/\1<=(L++List.replicate n (0,0)).length/\(L++List.replicate n (0,0)).length<=L.length+1:=by
 cases L with
 | nil=>exact ⟨1,by omega,rfl,rfl,by simp,by simp,by simp⟩
 | cons a t=>exact ⟨0,by omega,rfl,by simp,by simpa using hn,by simp,by simp⟩
def InP (m:Nat)(p:Int × Int):Prop:=(0<=p.1/\p.1<(m:Int))/\0<=p.2/\p.2<(m:Int)
theorem Mz {L:List (Int × Int)}{m:Nat}{j:Int}(hm:m<=8)(h:∀ x∈L,InP m x)(hl:L.length<=50)(j0:0<=j)(j1:j<=(L.length:Int)){a:D}(ha:a∈L.map toP):OK (DJ (L.map toP) j a) fun l=>Aq (.lst l) (m:Int)=some false/\Dp 4 (.lst l):=by
 obtain ⟨k,hk,rfl⟩:=Jr ha;refine Fq j0 (by rw [qeA];exact j1) (by rw [qeA];omega) fun l hlen _ hall _ e=>?_
 have e2:l=((L.take j.toNat++k::L.drop j.toNat)).map toP:=by
  rw [e];simp
 refine ⟨?_,HL (AV (AV (NV _))) (fun d hd=>by obtain ⟨k,_,rfl⟩:=Jr hd;exact AV (AV (NV _))) hall⟩;rw [e2];by_cases h24:(L.take j.toNat++k::L.drop j.toNat).length<=24
 ·rw [Kb (by omega) (fun x hx=>?_) h24]
  ·have nd:¬ (L.take j.toNat++k::L.drop j.toNat).Nodup:=fun nd=>by
    have p:(L.take j.toNat++k::L.drop j.toNat).Perm (k::(L.take j.toNat++L.drop j.toNat)):=List.perm_middle;rw [List.take_append_drop] at p;exact (List.nodup_cons.mp (p.nodup_iff.mp nd)).1 hk
   have:=Md _ [] List.nodup_nil (by rw [List.nil_append];exact nd);rw [List.length_nil] at this;rw [decide_eq_false (by omega)]
  ·rcases qkA.mp hx with q|q
   ·exact h x (List.mem_of_mem_take q)
   ·rcases qmA.mp q with rfl|q
    ·exact h _ hk
    ·exact h x (List.mem_of_mem_drop q)
 ·exact Io (by rw [qeA];omega)
theorem L6 {L:List (Int × Int)}{m:Int}{j:Int}{a:D}(hl:L.length<=50)(j0:0<=j)(j1:j<=(L.length:Int))(ha:KY m a=false)(hd:Dp 3 a):OK (DJ (L.map toP) j a) fun l=>Aq (.lst l) m=some false/\Dp 4 (.lst l) :=
 Fq j0 (by rw [qeA];exact j1) (by rw [qeA];omega) fun l hlen hin hall _ e=>⟨L9 ⟨a,hin,ha⟩,HL hd (fun d hd=>by obtain ⟨k,_,rfl⟩:=Jr hd;exact AV (AV (NV _))) hall⟩
theorem FF {m:Int}{a b:D}(h:Dt m a=false):KY m (.tup [a,b])=false:=by
 show (Dt m a && Dt m b)=false;rw [h]
 rfl
theorem GW {m:Int}{a b:D}(h:Dt m b=false):KY m (.tup [a,b])=false:=by
 show (Dt m a && Dt m b)=false;rw [h,Bool.and_false]
theorem L1 {L:List (Int × Int)}{m:Nat}(m1:1<=m)(hm:m<=8)(hn:L.Nodup)(h24:L.length<=24)(h:∀ x∈L,InP m x){way:Int}(hw:way=7\/way=8\/way=9)(cell:Int):OK (Bo (L.map toP) way cell (m:Int)) fun d=>Aq d (m:Int)=some false/\Dp 4 d:=by
 have hs:sizeLine=16777216:=qhB;have h1':(0:Int)<(L.length:Int)+1:=by omega
 unfold Bo;simp only [qiB,AT,qeA];refine AE (Cj h1' ?_);have a0:=qkB cell (b:=(L.length:Int)+1) (by omega);have a1:=qmB cell h1';generalize cell % ((L.length:Int)+1)=j at a0 a1 ⊢;rcases hw with rfl|rfl|rfl
 ·simp only [Int.reduceEq,decide_true,decide_false,cond_true,cond_false];refine AE (Dc (by simp;omega) ?_);refine AE (Cu (n:=11) (by decide) rfl fun a ha=>AE (OK.mono (L6 (m:=(m:Int)) (by omega) a0 (by omega) ?_ ?_) fun l hl=>AO ?_))
  ·simp only [qkA,qmA,qsB,or_false] at ha;rcases ha with (rfl|rfl|rfl|rfl|rfl|rfl|rfl|rfl|rfl) | (rfl|rfl)
   ·exact GW (ME m)
   ·exact FF (ME m)
   ·exact GW rfl
   ·exact FF rfl
   ·exact FF rfl
   ·exact GW rfl
   ·exact GW rfl
   ·exact FF rfl
   ·exact FF (big_m (by omega))
   ·exact FF rfl
   ·exact GW rfl
  ·simp only [qkA,qmA,qsB,or_false] at ha;rcases ha with (rfl|rfl|rfl|rfl|rfl|rfl|rfl|rfl|rfl) | (rfl|rfl)
   ·exact GV (.int _ _) (.int _ _)
   ·exact GV (.int _ _) (.int _ _)
   ·exact GV (.int _ _) (.int _ _)
   ·exact GV (.int _ _) (.int _ _)
   ·exact GV (.bl _ _) (.int _ _)
   ·exact GV (.int _ _) (.bl _ _)
   ·exact GV (.int _ _) (.non _)
   ·exact GV (.str _ _) (.int _ _)
   ·exact GV (.int _ _) (.int _ _)
   ·exact GV (J8 (.int _ _)) (.int _ _)
   ·exact GV (.int _ _) (.emp _)
  ·rw [Cn];exact hl
 ·simp only [Int.reduceEq,decide_true,decide_false,cond_true,cond_false];refine AE (Cu (n:=7) (by decide) rfl fun a ha=>AE (OK.mono (L6 (m:=(m:Int)) (by omega) a0 (by omega) ?_ ?_) fun l hl=>AO ?_))
  ·simp only [qmA,qsB,or_false] at ha;rcases ha with rfl|rfl|rfl|rfl|rfl|rfl|rfl<;>rfl
  ·simp only [qmA,qsB,or_false] at ha;rcases ha with rfl|rfl|rfl|rfl|rfl|rfl|rfl
   ·exact .lst fun d hd=>by
     rcases qmA.mp hd with rfl|hd
     ·exact .int _ _
     ·rw [qoA.mp hd];exact .int _ _
   ·exact dp_1 (.int _ _)
   ·exact .tup fun d hd=>by
     rcases qmA.mp hd with rfl|hd
     ·exact .int _ _
     ·rcases qmA.mp hd with rfl|hd
      ·exact .int _ _
      ·rw [qoA.mp hd];exact .int _ _
   ·exact .non _
   ·exact .str _ _
   ·exact .int _ _
   ·exact .tup fun d hd=>by cases hd
  ·rw [Cn];exact hl
 ·simp only [Int.reduceEq,decide_true,decide_false,cond_true,cond_false];obtain ⟨n,n1,e1,e2,nd,hl1,hl2⟩:=nil_orP hn;rw [e1,AT,if_n n1];refine AE (FP (by simp;omega) (by omega) ?_);refine AE (Dc (by simp;omega) ?_);have e0:(ToD.to (Tp.mk [(ToD.to (0:Int):D),(ToD.to (0:Int):D)]):D)=toP (0,0):=rfl;rw [e0,e2]
  have hin:∀ x∈L++List.replicate n (0,0),InP m x:=fun x hx=>by
   rcases qkA.mp hx with q|q
   ·exact h x q
   ·rw [(List.mem_replicate.mp q).2];exact ⟨⟨by decide,show (0:Int)<(m:Int) by omega⟩,by decide,show (0:Int)<(m:Int) by omega⟩
  have hge:L.length<=(L++List.replicate n (0,0)).length:=by rw [qfA];omega
  generalize L++List.replicate n (0,0)=L2 at *;rw [qeA];refine AE (Cj (by omega) (AE (Fm (qkB _ (by omega)) (by rw [qeA];exact qmB _ (by omega)) fun a ha=>?_)));refine AE (OK.mono (Mz (m:=m) hm hin (by omega) a0 (by omega) (qsA ha)) fun l hl=>AO ?_);rw [Cn];exact hl
theorem once_dup {l:List Int}{m:Int}(hl:l.length<=100)(nd:¬ l.Nodup):AH (.lst (l.map D.int)) m=some false:=by
 by_cases h:∀ k∈l,0<=k/\k<m
 ·have:=ded_ne nd;rw [Hn h (by omega),decide_eq_false (by omega)]
 ·obtain ⟨k,hk⟩:=Classical.not_forall.mp h;obtain ⟨h1,h2⟩:=Classical.not_imp.mp hk;refine FY ⟨.int k,qnA.mpr ⟨k,h1,rfl⟩,?_⟩;show (decide (0<=k) && decide (k<m))=false;rw [Bool.and_eq_false_iff,decide_eq_false_iff_not,decide_eq_false_iff_not];omega
theorem Mq {L:List Int}{m:Int}{j:Int}(hl:L.length<=50)(j0:0<=j)(j1:j<=(L.length:Int)){a:D}(ha:a∈L.map D.int):OK (DJ (L.map D.int) j a) fun l=>AH (.lst l) m=some false/\Dp 3 (.lst l):=by
 obtain ⟨k,hk,rfl⟩:=Dw ha;refine Fq j0 (by rw [qeA];exact j1) (by rw [qeA];omega) fun l hlen _ hall _ e=>?_
 have e2:l=((L.take j.toNat++k::L.drop j.toNat)).map D.int:=by
  rw [e];simp
 refine ⟨?_,HL (.int _ _) (fun d hd=>by obtain ⟨k,_,rfl⟩:=Dw hd;exact .int _ _) hall⟩;rw [e2];refine once_dup (by rw [qfA,qgA,qjA,List.length_drop];omega) fun nd=>?_;have p:(L.take j.toNat++k::L.drop j.toNat).Perm (k::(L.take j.toNat++L.drop j.toNat)):=List.perm_middle;rw [List.take_append_drop] at p;exact (List.nodup_cons.mp (p.nodup_iff.mp nd)).1 hk
theorem HF {Ms:List (List Int)}{k:Nat}(hk:k<=24)(hnd:∀ m∈Ms,m.Nodup)(hin:∀ m∈Ms,∀ n∈m,In k n){j:Int}(j0:0<=j)(j1:j<(Ms.length:Int)){a:D}(ha:AH a (k:Int)=some false)(hd:Dp 3 a):OK (DB (Ms.map toL) j a) fun l=>Am (.lst l) (k:Int)=some false/\Dp 4 (.lst l) :=
 M4 j0 (by rw [qeA];exact j1) fun l hl hi hall=>⟨Iq (fun d hx=>by
  rcases hall d hx with rfl|q
  ·exact ⟨_,ha⟩
  ·obtain ⟨x,hx',rfl⟩:=qnA.mp q
   exact ⟨_,E5 (by omega) (hnd x hx') (hin x hx')⟩) ⟨a,hi,ha⟩,.lst fun d hx=>by
  rcases hall d hx with rfl|q
  ·exact hd
  ·obtain ⟨x,hx',rfl⟩:=qnA.mp q
   exact AV (AV (DE x))⟩
theorem Fv {Ms:List (List Int)}{k:Nat}(hk:k<=24)(h1:1<=Ms.length)(hnd:∀ m∈Ms,m.Nodup)(hin:∀ m∈Ms,∀ n∈m,In k n){way:Int}(hw:way=15\/way=16\/way=17)(cell:Int):OK (Av (Ms.map toL) way cell (k:Int)) fun d=>Am d (k:Int)=some false/\Dp 4 d:=by
 have hs:sizeLine=16777216:=qhB;have h1':(0:Int)<(Ms.length:Int):=by omega
 unfold Av;rw [decide_eq_false (show ¬ way=14 by omega)]
 have en:CS (Ms.map toL) ([]:List D)=some false:=by
  cases Ms with
  | nil=>cases h1
  | cons=>rfl
 simp only [qiB,AT,cond_false,en,qeA];refine AE (Cj h1' ?_);have a0:=qkB cell (b:=(Ms.length:Int)) (by omega);have a1:=qmB cell h1';generalize cell % (Ms.length:Int)=j at a0 a1 ⊢;refine AE (Fm a0 (by rw [qeA];exact a1) fun x hx=>?_);obtain ⟨mk,hmk,rfl⟩:=qnA.mp (qsA hx);have hf:=few (hnd mk hmk) (hin mk hmk);have hp:(0:Int)<(mk.length:Int)+1:=by omega
 rcases hw with rfl|rfl|rfl
 ·simp only [toL,D0,AT,qeA,Int.reduceEq,decide_true,decide_false,cond_true,cond_false];refine AE (Cj hp ?_);have b0:=qkB (cell / 3) (b:=(mk.length:Int)+1) (by omega);have b1:=qmB (cell / 3) hp;refine AE (Cu (n:=8) (by decide) rfl fun a ha=>AE (OK.mono (M0 (m:=(k:Int)) (by omega) b0 (by omega) ?_ ?_) fun l hl=>?_))
  ·simp only [qmA,qsB,or_false] at ha;rcases ha with rfl|rfl|rfl|rfl|rfl|rfl|rfl|rfl
   ·exact ME k
   all_goals rfl
  ·simp only [qmA,qsB,or_false] at ha;rcases ha with rfl|rfl|rfl|rfl|rfl|rfl|rfl|rfl
   ·exact .int _ _
   ·exact .int _ _
   ·exact .bl _ _
   ·exact .non _
   ·exact .str _ _
   ·exact dp_1 (.int _ _)
   ·exact J8 (.int _ _)
   ·exact .emp _
  ·rw [Cn];refine AE (OK.mono (HF hk hnd hin a0 a1 hl.1 hl.2) fun z hz=>AO ?_);rw [Cn];exact hz
 ·simp only [toL,D0,AT,qeA,Int.reduceEq,decide_true,decide_false,cond_true,cond_false];obtain ⟨n,n1,e1,e2,nd,hl1,hn0⟩:=nil_or (hnd mk hmk);rw [e1,AT,if_n n1];refine AE (FP (by simp;omega) (by omega) ?_);refine AE (Dc (by simp;omega) ?_);rw [show mk.map D.int++(List.replicate n [(ToD.to (0:Int):D)]).flatten=(mk++List.replicate n 0).map D.int from e2];have hle:(mk++List.replicate n 0).length<=25:=by rw [qfA,List.length_replicate];omega
  generalize mk++List.replicate n 0=L2 at *;rw [qeA];refine AE (Cj (by omega) (AE (Cj (by omega) (AE (Fm (qkB _ (by omega)) (by rw [qeA];exact qmB _ (by omega)) fun a ha=>?_)))));have b0:=qkB (cell / 3) (b:=(L2.length:Int)+1) (by omega);have b1:=qmB (cell / 3) (show (0:Int)<(L2.length:Int)+1 by omega);refine AE (OK.mono (Mq (m:=(k:Int)) (by omega) b0 (by omega) (qsA ha)) fun l hl=>?_);rw [Cn];refine AE (OK.mono (HF hk hnd hin a0 a1 hl.1 hl.2) fun z hz=>AO ?_);rw [Cn];exact hz
 ·simp only [toL,D0,AT,qeA,Int.reduceEq,decide_true,decide_false,cond_true,cond_false];refine AE (Cu (n:=5) (by decide) rfl fun a ha=>AE (OK.mono (HF hk hnd hin a0 a1 ?_ ?_) fun z hz=>AO ?_))
  ·simp only [qmA,qsB,or_false] at ha;rcases ha with rfl|rfl|rfl|rfl|rfl<;>exact KP rfl
  ·simp only [qmA,qsB,or_false] at ha;rcases ha with rfl|rfl|rfl|rfl|rfl
   ·refine .tup fun d hd=>?_;have hd:d∈(mk.map D.int).map fun d=>d:=hd;rw [List.map_id'] at hd;obtain ⟨q,_,rfl⟩:=Dw hd;exact .int _ _
   ·exact .non _
   ·exact .int _ _
   ·exact .str _ _
   ·exact .emp _
  ·rw [Cn];exact hz
theorem JJ {Ms:List (List Int)}{k:Nat}(hk:k<=24)(h3:Ms.length<=3)(hnd:∀ m∈Ms,m.Nodup)(hin:∀ m∈Ms,∀ n∈m,In k n){way:Int}(hw:way=14\/way=15\/way=16\/way=17)(cell:Int):OK (Av (Ms.map toL) way cell (k:Int)) fun d=>Am d (k:Int)=some false/\Dp 4 d:=by
 have hs:sizeLine=16777216:=qhB;by_cases h14:way=14
 ·subst h14;unfold Av;simp only [qiB,AT,qeA,Int.reduceEq,decide_true,cond_true];have e9:(4:Int) - (Ms.length:Int)=((4 - Ms.length:Nat):Int):=by omega
  rw [e9];refine AE (FP (by simp;omega) (by omega) ?_);have lf:(List.replicate (4 - Ms.length) [(ToD.to ([]:List D):D)]).flatten.length=4 - Ms.length:=by simp
  refine AE (Dc (by rw [qeA,lf];omega) (AO ?_));rw [Cn];refine ⟨Ll (by rw [qfA,lf,qeA];omega),.lst fun d hd=>?_⟩;rcases qkA.mp hd with q|q
  ·obtain ⟨x,hx,rfl⟩:=qnA.mp q;exact AV (AV (DE x))
  ·simp at q;rw [q.2];exact .lst fun d hd=>by cases hd
 have hw:way=15\/way=16\/way=17:=by omega
 cases Ms with
 | cons a t=>exact Fv hk (by simp) hnd hin hw cell
 | nil =>
  have h:=Fv (Ms:=[[]]) hk (by simp) (fun m hm=>by rw [qoA.mp hm];exact List.nodup_nil) (fun m hm=>by rw [qoA.mp hm];exact fun n hn=>by cases hn) hw cell
  have e:Av (List.map toL []) way cell (k:Int)=Av (List.map toL [[]]) way cell (k:Int):=by
   unfold Av;rw [decide_eq_false h14]
   rfl
  rw [e];exact h
theorem cut_memD {α:Type}{l:List α}{lo hi:Option Int}{x:α}(h:x∈Fh l lo hi):x∈l:=List.mem_of_mem_drop (List.mem_of_mem_take h)
theorem M6 {α:Type}(l:List α)(lo hi:Option Int):(Fh l lo hi).length<=l.length:=by
 unfold Fh;rw [qjA,List.length_drop];omega
def tr0 (s:Int):D:=if s=0 then .bl false else .int s
theorem tr0_map (l:List Int):D5 (fun (s:Int)=>cond (decide (s=(0:Int))) (some (ToD.to false:D)) (some (ToD.to s:D))) l=some (l.map tr0):=Bn (g:=tr0) l fun s _=>by
 unfold tr0;by_cases h:s=0
 ·rw [decide_eq_true h,if_pos h]
  rfl
 ·rw [decide_eq_false h,if_neg h]
  rfl
theorem JH {l:List Int}{m:Int}(h:(0:Int)∈l):AH (.lst (l.map tr0)) m=some false:=FY ⟨.bl false,qnA.mpr ⟨0,h,rfl⟩,rfl⟩
theorem tr0_dp (l:List Int):Dp 1 (.lst (l.map tr0)):=.lst fun d hd=>by
 obtain ⟨s,_,rfl⟩:=qnA.mp hd;unfold tr0;split
 ·exact .bl _ _
 ·exact .int _ _
theorem Mt {M:Mac}(g:Gd M)(cell:Int):OK (BU M cell) BadM:=by
 have hs:sizeLine=16777216:=qhB;have a8:=g.a8;have b24:=g.b24;have d3:=g.d3;have pa:(ToD.to M.a:D) = .lst (M.a.map D.str):=rfl;have pb:(ToD.to M.b:D) = .lst (M.b.map toP):=rfl;have pc:(ToD.to M.c:D) = .lst (M.c.map D.int):=rfl;have pd:(ToD.to M.d:D) = .lst (M.d.map toL):=rfl;have t4:∀ a b c d:D,(ToD.to (Tp.mk [a,b,c,d]):D) = .tup [a,b,c,d]:=fun _ _ _ _=>rfl;have da:Dp 4 (.lst (M.a.map D.str)):=AV (AV (AV (Fb _)));have db:Dp 4 (.lst (M.b.map toP)):=AV (AV (Hy _));have dc:Dp 4 (.lst (M.c.map D.int)):=AV (AV (AV (DE _)));have dd:Dp 4 (.lst (M.d.map toL)):=AV (AV (K4 _));unfold BU;simp only [qiB,AT,tr0_map,Cn,t4,pa,pb,pc,pd];refine BN (fun h1=>?_) fun _=>?_
 ·have h1:=(qyB _ _).mp h1;exact AO ⟨b_st g (JH (of_decide_eq_true h1.2)),Ft da db (AV (AV (AV (tr0_dp _)))) dd⟩
 refine En (P:=fun b:Bool=>b=true->∃ mk∈M.d,atI M.d (-1)=some mk/\(0:Int)∈mk) ?_ fun b hb=>?_
 ·refine BN (fun _=>BN (fun h=>?_) fun _=>AO (fun h=>by cases h)) fun _=>AO (fun h=>by cases h);have hne:M.d ≠ []:=by simpa using h
  refine AE (ML hne (AO fun q=>⟨_,List.getLast_mem hne,?_,of_decide_eq_true q⟩));exact OK.eq (ML hne rfl)
 refine BN (fun h=>?_) fun _=>?_
 ·obtain ⟨mk,hmk,e,h0⟩:=hb h;rw [e,AT];refine AE (Dc (by have:=M6 M.d none (some (-1));rw [qeA,qhA];omega) (AO ?_))
  have hall:∀ d∈(Fh M.d none (some (-1))).map (ToD.to:List Int->D)++[D.lst (mk.map tr0)],d = .lst (mk.map tr0)\/∃ x∈M.d,d=toL x:=fun d hd=>by
   rcases qkA.mp hd with q|q
   ·obtain ⟨x,hx,rfl⟩:=qnA.mp q;exact .inr ⟨x,cut_memD hx,rfl⟩
   ·exact .inl (qoA.mp q)
  refine ⟨b_mk g (Iq (fun d hd=>?_) ⟨_,quB _ (qoA.mpr rfl),JH h0⟩),Ft da db dc (.lst fun d hd=>?_)⟩
  ·rcases hall d hd with rfl | ⟨x,hx,rfl⟩
   ·exact ⟨_,JH h0⟩
   ·exact ⟨_,E5 (by omega) (g.dn x hx) (g.dm x hx)⟩
  ·rcases hall d hd with rfl | ⟨x,hx,rfl⟩
   ·exact AV (AV (tr0_dp _))
   ·exact AV (AV (DE x))
 ·refine BN (fun h=>?_) fun _=>?_
  ·have hne:M.b ≠ []:=by simpa using h
   have hl:0<M.b.length:=List.length_pos_iff.mpr hne;refine AE (Fm (by decide) (by omega) fun w hw=>?_);refine AE (Cu (n:=2) (by decide) rfl fun a ha=>?_)
   have ha':KY (M.a.length:Int) a=false/\Dp 3 a:=by
    simp only [qmA,qsB,or_false] at ha;rcases ha with rfl|rfl
    ·exact ⟨FF rfl,GV (.bl _ _) (.int _ _)⟩
    ·exact ⟨GW rfl,GV (.int _ _) (.bl _ _)⟩
   refine AE (Dc (by have:=M6 M.b (some 1) none;rw [qeA,qhA];omega) (AO ?_));refine ⟨MZ g (L9 ⟨a,by simp,ha'.1⟩),Ft da (.lst fun d hd=>?_) (.lst fun d hd=>by cases hd) (.lst fun d hd=>by cases hd)⟩;rcases qkA.mp hd with q|q
   ·rw [qoA.mp q];exact ha'.2
   ·obtain ⟨x,hx,rfl⟩:=qnA.mp q;exact AV (AV (NV x))
  ·exact AO ⟨b_st g (FY ⟨.bl false,by simp;rfl,rfl⟩),Ft da db (J8 (.bl _ _)) dd⟩
def M10:Mac:=⟨List.replicate 8 "a",[],[],[]⟩
theorem mom_a:Mom "a" := by
 have e:("a" : Str).cps.toList=[97]:=by decide +kernel
 unfold Mom;rw [e]
 decide
theorem gd10:Gd M10:=by
 refine ⟨by decide,by decide,fun x hx=>?_,List.nodup_nil,by decide,fun w hw=>(by cases hw),List.nodup_nil,fun w hw=>(by cases hw),by decide,fun w hw=>(by cases hw),fun w hw=>(by cases hw)⟩;rw [(List.mem_replicate.mp hx).2];exact mom_a
theorem other_ok {M:Mac}(g:Gd M){way:Int}(hw:way=0\/way=1\/way=2\/way=10\/way=18\/way=19)(cell:Int):OK (CV (toM M) way cell) BadM:=by
 have hs:sizeLine=16777216:=qhB;have da:Dp 3 (.lst (M.a.map D.str)):=AV (AV (Fb _));have db:Dp 3 (.lst (M.b.map toP)):=AV (Hy _);have dc:Dp 3 (.lst (M.c.map D.int)):=AV (AV (DE _));have dd:Dp 3 (.lst (M.d.map toL)):=AV (K4 _);have t4:∀ a b c d:D,(ToD.to (Tp.mk [a,b,c,d]):D) = .tup [a,b,c,d]:=fun _ _ _ _=>rfl;unfold CV toM;simp only [qiB,AT,FH,asTpD];rcases hw with rfl|rfl|rfl|rfl|rfl|rfl
 ·simp only [Int.reduceEq,decide_true,decide_false,cond_true,cond_false];rw [Cn];refine AO ⟨D6 rfl,.lst fun d hd=>?_⟩;simp only [qmA,qsB,or_false] at hd;rcases hd with rfl|rfl|rfl|rfl
  ·exact AV da
  ·exact AV db
  ·exact AV dc
  ·exact AV dd
 ·simp only [Int.reduceEq,decide_true,decide_false,cond_true,cond_false];have e:∀ a b c d:D,Fh [a,b,c,d] none (some (3:Int))=[a,b,c]:=fun _ _ _ _=>rfl;rw [e];refine AO ⟨HG (show 3≠4 by decide),.tup fun d hd=>?_⟩;have hd:d∈[D.lst (M.a.map D.str),.lst (M.b.map toP),.lst (M.c.map D.int)]:=hd;simp only [qmA,qsB,or_false] at hd;rcases hd with rfl|rfl|rfl
  ·exact AV da
  ·exact AV db
  ·exact AV dc
 ·simp only [Int.reduceEq,decide_true,decide_false,cond_true,cond_false];refine LA _ (if_pos (show 4+1<=sizeLine by rw [hs];decide)) (AO ⟨HG (show 5≠4 by decide),.tup fun d hd=>?_⟩);have hd:d∈[D.lst (M.a.map D.str),.lst (M.b.map toP),.lst (M.c.map D.int),.lst (M.d.map toL),.lst []]:=hd;simp only [qmA,qsB,or_false] at hd;rcases hd with rfl|rfl|rfl|rfl|rfl
  ·exact AV da
  ·exact AV db
  ·exact AV dc
  ·exact AV dd
  ·exact .lst fun d hd=>by cases hd
 ·simp only [Int.reduceEq,decide_true,decide_false,cond_true,cond_false];refine AE (FP (k:=8) (by decide) (by decide) ?_);refine AE (FQ (n:=25) (by decide) (by decide) (by decide) ?_);refine AE (HU (g:=fun k:Int=>(k / 8,k % 8)) (fun _ _=>rfl) (AO ?_));generalize hW:(List.map (fun k:Int=>(k / 8,k % 8)) (List.map (fun (i:Nat)=>(0:Int)+(i:Int)) (List.range 25)))=W;have hl:W.length=25:=by rw [<- hW,qeA,qeA,qiA]
  show BadM (.tup [.lst (M10.a.map D.str),.lst (W.map toP),.lst [.int 0],.lst []]);exact ⟨MZ gd10 (Io (by rw [qeA];omega)),Ft (AV (AV (AV (Fb _)))) (AV (AV (Hy _))) (J8 (.int _ _)) (.lst fun d hd=>by cases hd)⟩
 ·simp only [Int.reduceEq,decide_true,decide_false,cond_true,cond_false];have c0:=qkB cell (b:=4) (by decide);have c1:=qmB cell (b:=4) (by decide);generalize cell % 4=i at c0 c1 ⊢
  have hnl:∀ (l:List D) (n:Nat),(∀ d∈l,Dp n d)->OK (atI [(ToD.to (Tp.mk l):D),ToD.to (),ToD.to ("" : Str),ToD.to (0:Int),D.emp] (cell / 4 % 5)) fun a=>isK "list" a=false/\Dp (n+1) a:=fun l n hl=>Cu (n:=5) (by decide) rfl fun a ha=>by
   simp only [qmA,qsB,or_false] at ha;rcases ha with rfl|rfl|rfl|rfl|rfl
   ·refine ⟨rfl,.tup fun d hd=>hl d ?_⟩;have hd:d∈l.map fun d=>d:=hd
    rwa [List.map_id'] at hd
   ·exact ⟨rfl,.non _⟩
   ·exact ⟨rfl,.str _ _⟩
   ·exact ⟨rfl,.int _ _⟩
   ·exact ⟨rfl,.emp _⟩
  obtain rfl|rfl|rfl|rfl:i=0\/i=1\/i=2\/i=3:=by omega
  ·refine LA _ rfl (AE ⟨_,rfl,AE (OK.mono (hnl _ 3 fun d hd=>?_) fun a ha=>AE ⟨[a,_,_,_],rfl,AO ⟨b_lit (moms_nol ha.1),Ft ha.2 (AV db) (AV dc) (AV dd)⟩⟩)⟩);obtain ⟨x,_,rfl⟩:=qnA.mp hd;exact .str _ _
  ·refine LA _ rfl (AE ⟨_,rfl,AE (OK.mono (hnl _ 3 fun d hd=>?_) fun a ha=>AE ⟨[_,a,_,_],rfl,AO ⟨MZ g (ways_nol ha.1),Ft (AV da) ha.2 (AV dc) (AV dd)⟩⟩)⟩);obtain ⟨x,_,rfl⟩:=qnA.mp hd;exact AV (AV (NV x))
  ·refine LA _ rfl (AE ⟨_,rfl,AE (OK.mono (hnl _ 3 fun d hd=>?_) fun a ha=>AE ⟨[_,_,a,_],rfl,AO ⟨b_st g (KP ha.1),Ft (AV da) (AV db) ha.2 (AV dd)⟩⟩)⟩);obtain ⟨x,_,rfl⟩:=qnA.mp hd;exact .int _ _
  ·refine LA _ rfl (AE ⟨_,rfl,AE (OK.mono (hnl _ 3 fun d hd=>?_) fun a ha=>AE ⟨[_,_,_,a],rfl,AO ⟨b_mk g (NK ha.1),Ft (AV da) (AV db) (AV dc) ha.2⟩⟩)⟩);obtain ⟨x,_,rfl⟩:=qnA.mp hd;exact AV (AV (DE x))
 ·simp only [Int.reduceEq,decide_true,decide_false,cond_true,cond_false];refine Cu (n:=8) (by decide) rfl fun a ha=>?_;simp only [qmA,qsB,or_false] at ha;rcases ha with rfl|rfl|rfl|rfl|rfl|rfl|rfl|rfl
  ·exact ⟨D6 rfl,.non _⟩
  ·exact ⟨D6 rfl,.bl _ _⟩
  ·exact ⟨D6 rfl,.int _ _⟩
  ·exact ⟨D6 rfl,.str _ _⟩
  ·exact ⟨D6 rfl,.lst fun d hd=>by cases hd⟩
  ·exact ⟨HG (by decide),.tup fun d hd=>by cases hd⟩
  ·exact ⟨D6 rfl,.emp _⟩
  ·exact ⟨D6 rfl,.int _ _⟩
def Ltr (l:List Str):Prop:=∃ cs:List Nat,l=cs.map one/\cs.length=4/\cs.Nodup/\∀ c∈cs,c∈abcN
theorem abc_at (k:Int){P:Str->Prop}(hp:P (one (97+(k % 26).toNat))):OK ((atI ("abcdefghijklmnopqrstuvwxyz" : Str).cps.toList (k % 26)).bind fun z=>some (⟨#[z]⟩:Str)) P:=by
 have h0:=qkB k (b:=26) (by decide);have h1:=qmB k (b:=26) (by decide);rw [abc_cps];refine AE (Fm h0 (by unfold abcN;rw [List.length_range'];exact h1) fun z hz=>AO ?_);unfold abcN at hz;rw [List.getElem?_range' (by omega)] at hz;have e:=qdB hz;have e2:z=97+(k % 26).toNat:=by omega
 rw [e2];exact hp
theorem abc_mem (k:Int):97+(k % 26).toNat∈abcN:=by
 have h1:=qmB k (b:=26) (by decide);have h0:=qkB k (b:=26) (by decide);unfold abcN;exact List.mem_range'_1.mpr ⟨by omega,by omega⟩
theorem map4 {f:Int->Option Str}{g:Int->Nat}(hf:∀ k,f k=some (one (g k)))(l:List Int):D5 f l=some ((l.map g).map one):=by
 refine OK.eq (HU (g:=fun k=>one (g k)) (fun k _=>hf k) ?_);rw [List.map_map]
 rfl
theorem Lp (c:Int)(h0:0<=c){P:List Str->Prop}(hp:∀ l:List Str,Ltr l->P l):OK (Bz c) P:=by
 unfold Bz;simp only [qiB,AT,Cr];rw [map4 (g:=fun k=>97+(k % 26).toNat) fun k=>OK.eq (abc_at k rfl)];refine AO (hp _ ⟨_,rfl,rfl,?_,fun x hx=>?_⟩)
 ·simp only [qxA,List.map_nil,List.nodup_cons,qmA,qsB,or_false,not_or,not_false_eq_true,List.nodup_nil,and_true];have a0:=qkB (c / 26) (b:=8) (by decide);have a1:=qmB (c / 26) (b:=8) (by decide);have b0:=qkB (c / 208) (b:=8) (by decide);have b1:=qmB (c / 208) (b:=8) (by decide);have d0:=qkB (c / 1664) (b:=9) (by decide);have d1:=qmB (c / 1664) (b:=9) (by decide);generalize c / 26 % 8=a at *;generalize c / 208 % 8=b at *;generalize c / 1664 % 9=d at *;omega
 ·obtain ⟨k,_,rfl⟩:=qnA.mp hx;exact abc_mem k
theorem srt_ex {cs:List Nat}(hn:cs.Nodup):∃ ds:List Nat,ds.Perm cs/\ds.Pairwise (· < ·):=by
 refine ⟨cs.mergeSort (fun a b=>decide (a<=b)),List.mergeSort_perm _ _,?_⟩;have h1:=List.pairwise_mergeSort (le:=fun a b:Nat=>decide (a<=b)) (fun a b c h1 h2=>by simp at *;omega) (fun a b=>by simp;omega) cs;have h2:(cs.mergeSort (fun a b=>decide (a<=b))).Nodup:=(List.mergeSort_perm cs _).nodup_iff.mpr hn;exact (h1.and (List.nodup_iff_pairwise_ne.mp h2)).imp fun ⟨a,b⟩=>by simp at a;omega
theorem lit_ok (letters:List Str)(hL:Ltr letters)(bits:Int):OK (Cs letters bits) Mom:=by
 have hs:sizeLine=16777216:=qhB;obtain ⟨cs,rfl,h4,hn,hm⟩:=hL;obtain ⟨ds,dp,dw⟩:=srt_ex hn;unfold Cs;simp only [qiB,AT,Cr];have hd:ds.length=4:=by rw [dp.length_eq,h4]
 have es:HJ (cs.map one)=ds.map one:=sortS_eq (dp.map one) (List.pairwise_map.mpr (dw.imp fun h=>leS_one (Nat.le_of_lt h)))
 have eo:M7 (cs.map one)=some (ds.map one):=by
  unfold M7;rw [if_pos (by rw [qeA];omega),es]
 rw [eo];refine AE (AO (AE (HD (fun i (s:Int × Str)=>s.2.cps.toList.Sublist (ds.take i)) (List.Sublist.refl _) (fun i a s ha hI=>?_) fun s hI=>AO ?_)))
 ·rw [qwA] at ha;obtain ⟨c,hc,rfl⟩:=qcB.mp ha;have hi:=(qtA.mp hc).1;have et:ds.take (i+1)=ds.take i++[c]:=by rw [List.take_add_one,hc];rfl
  have hlen:s.2.length<=4:=by
   have:=hI.length_le;rw [qjA,qqB] at this;show s.2.cps.size<=4;omega
  refine En (P:=fun z:Str=>z.cps.toList.Sublist (ds.take (i+1))) (BN (fun _=>ok_catS (by rw [one_len];omega) ?_) fun _=>AO (by rw [et];exact hI.trans (List.sublist_append_left _ _))) fun z hz=>AO ⟨_,rfl,hz⟩;show (s.2++one c).cps.toList.Sublist _;rw [et,show (s.2++one c).cps.toList=s.2.cps.toList++[c] from by show (s.2.cps++#[c]).toList=_;simp];exact hI.append (List.Sublist.refl _)
 ·rw [qeA,List.take_of_length_le (qzA _)] at hI
  have:ds=abcN.filter (fun c=>decide (c∈ds)):=pw_eq dw (abc_pw.sublist List.filter_sublist) fun x=>by
   rw [List.mem_filter];exact ⟨fun h=>⟨hm x (dp.mem_iff.mp h),decide_eq_true h⟩,fun h=>of_decide_eq_true h.2⟩
  exact hI.trans (this ▸ List.filter_sublist)
theorem JA (c:Int)(m:Nat)(hm:m<=100){P:List Int->Prop}(hp:∀ l:List Int,l.Nodup->(∀ n∈l,In m n)->P l):OK (Bi c (m:Int)) P:=by
 have hs:sizeLine=16777216:=qhB;unfold Bi;simp only [qiB,AT,Cr];refine AE (FQ (n:=m) (by omega) (by omega) (by omega) ?_);refine AE (HD (fun i (s:Int × List Int)=>s.2.length<=i/\s.2.Nodup/\∀ n∈s.2,In i n) ⟨qzA _,List.nodup_nil,fun n hn=>(by cases hn)⟩ (fun i a s ha ⟨h1,h0,h2⟩=>?_) fun s ⟨h1,h0,h2⟩=>AO (hp _ h0 fun n hn=>by rw [Gr] at h2;exact h2 n hn));obtain ⟨hi,rfl⟩:=rng_at ha;have up:∀ n∈s.2,In (i+1) n:=fun n hn=>by have:=h2 n hn;unfold In at *;omega
 refine En (P:=fun z:List Int=>z.length<=i+1/\z.Nodup/\∀ n∈z,In (i+1) n) (BN (fun _=>M3 (by omega) ⟨?_,?_,fun n hn=>?_⟩) fun _=>AO ⟨by omega,h0,up⟩) fun z ⟨z1,z0,z2⟩=>AO ⟨_,rfl,z1,z0,z2⟩
 ·rw [qfA,qhA];omega
 ·refine List.nodup_append.mpr ⟨h0,(by simp),fun a ha b hb=>?_⟩;rw [qoA.mp hb];have:=h2 a ha;unfold In at this;omega
 ·rcases qkA.mp hn with h|h
  ·exact up n h
  ·rw [qoA.mp h];unfold In;omega
theorem Mw {l:List Int}{x:Int}(h:x∈(Gh l).reverse):x∈l:=(List.mergeSort_perm l leZ).mem_iff.mp (List.mem_reverse.mp h)
theorem sortR_nd {l:List Int}(h:l.Nodup):(Gh l).reverse.Nodup:=((List.reverse_perm _).trans (List.mergeSort_perm l leZ)).nodup_iff.mpr h
theorem N7 (c:Int){P:Int->Prop}(hp:∀ m:Nat,1<=m->m<=8->P (m:Int)):OK (C8 c) P:=by
 unfold C8;simp only [AT];have a0:=qkB c (b:=8) (by decide);have a1:=qmB c (b:=8) (by decide);have b0:=qkB c (b:=4) (by decide);have b1:=qmB c (b:=4) (by decide);refine BN (fun _=>AO ?_) fun _=>AO ?_
 ·have:=hp (1+c % 8).toNat (by omega) (by omega)
  rwa [Int.toNat_of_nonneg (by omega)] at this
 ·have:=hp (1+c % 4).toNat (by omega) (by omega)
  rwa [Int.toNat_of_nonneg (by omega)] at this
theorem LU (c:Int){m:Nat}(h:1<=m):In m (c % (m:Int)):=⟨qkB _ (by omega),qmB _ (by omega)⟩
theorem LK (s:Scr)(letters:List Str)(hL:Ltr letters){P:Mac->Prop}(hp:∀ M:Mac,Gd M->P M):OK (Bw s letters) P:=by
 have hs:sizeLine=16777216:=qhB;unfold Bw;simp only [qiB,AT,Cr];refine AE (CK s 1 (by decide) (by decide) fun c1=>AE (N7 c1 fun m m1 m8=>AE (CK s 2 (by decide) (by decide) fun c2=>?_)));refine En (P:=fun z:Int=>1<=z) (BN (fun _=>ok_mul (.inl ⟨by omega,by omega⟩) ?_) fun _=>AO (by omega)) fun most hmost=>?_
 ·have:(1:Int) * 1<=(m:Int) * (m:Int):=Int.mul_le_mul (by omega) (by omega) (by decide) (by omega);omega
 ·refine AE (CK s 2 (by decide) (by decide) fun c2'=>?_);have hpos:(0:Int)<(if most<24 then most else 24)+1:=by split<;>omega
  have hle:(if most<24 then most else 24)+1<=(25:Int):=by split<;>omega
  refine AE (Cj hpos ?_);have a0:=qkB c2' (b:=(if most<24 then most else 24)+1) (by omega);have a1:=qmB c2' hpos;obtain ⟨n,hn⟩:=qjB a0;rw [hn] at a1 ⊢;refine AE (FQ (n:=n) (by omega) (by omega) (by omega) ?_);refine AE (HD (fun i (w:List (Int × Int))=>w.length<=i/\w.Nodup/\∀ p∈w,In m p.1/\In m p.2) ⟨qxB _,List.nodup_nil,fun p hp=>(by cases hp)⟩ (fun i a w ha ⟨hI,hN,hJ⟩=>?_) fun W ⟨hW,hN,hV⟩=>?_)
  ·obtain ⟨hi,rfl⟩:=rng_at ha;refine AE (CK s _ (by omega) (by omega) fun ck=>AE (Cj (by omega) (AE (Cj (by omega) ?_))));refine En (P:=fun z:Int × Int=>In m z.1/\In m z.2) (BN (fun hk=>AE (Cj (by omega) (AO ⟨⟨by omega,of_decide_eq_true hk⟩,LU _ m1⟩))) fun _=>AO ⟨LU _ m1,LU _ m1⟩) fun way hway=>?_;rw [memE_eq];refine BN (fun hk=>AE (M3 (by omega) (AO ⟨_,rfl,by rw [qfA,qhA];omega,?_,fun p hp=>?_⟩))) fun _=>AO ⟨_,rfl,by omega,hN,hJ⟩
   ·have hk:way ∉ w:=by simpa using hk
    refine List.nodup_append.mpr ⟨hN,(by simp),fun a ha b hb e=>hk ?_⟩;rw [qoA.mp hb] at e;exact e ▸ ha
   ·rcases qkA.mp hp with h|h
    ·exact hJ p h
    ·rw [qoA.mp h];exact hway
  ·rw [Gr] at hW;refine AE (FQ (n:=m) (by omega) (by omega) (by omega) ?_);refine AE (MP (R:=fun _ x=>Mom x) (fun a ha=>?_) fun lits hlits hmm _=>?_)
   ·obtain ⟨k,hk,rfl⟩:=qnA.mp ha;have:=qrA.mp hk;exact AE (CK s _ (by omega) (by omega) fun ck=>lit_ok letters hL _)
   ·refine AE (CK s 3 (by decide) (by decide) fun c3=>AE (JA c3 m (by omega) fun st s1 s2=>AE (CK s 3 (by decide) (by decide) fun c3'=>?_)));have:=few s1 s2;refine En (P:=fun z:List Int=>z.Nodup/\∀ x∈z,In m x) (BN (fun _=>⟨_,if_pos (by omega),sortR_nd s1,fun x hx=>s2 x (Mw hx)⟩) fun _=>AO ⟨s1,s2⟩) fun starts hst=>?_;refine AE (CK s 4 (by decide) (by decide) fun c4=>?_);have d0:=qkB c4 (b:=4) (by decide);have d1:=qmB c4 (b:=4) (by decide);obtain ⟨q,hq⟩:=qjB d0;rw [hq] at d1 ⊢;refine AE (FQ (n:=q) (by omega) (by omega) (by omega) ?_);rw [Gr] at hlits;refine AE (MP (R:=fun _ b=>b.Nodup/\∀ n∈b,In W.length n) (fun a ha=>?_) fun marks hml hm _=>AO (hp _ ⟨?_,?_,?_,hN,?_,?_,hst.1,?_,?_,?_,?_⟩))
    ·obtain ⟨k,hk,rfl⟩:=qnA.mp ha;have:=qrA.mp hk;exact AE (CK s _ (by omega) (by omega) fun ck=>JA ck W.length (by omega) fun l h1 h2=>⟨h1,h2⟩)
    ·show 1<=lits.length;omega
    ·show lits.length<=8;omega
    ·intro x hx;obtain ⟨_,_,h⟩:=hmm x hx;exact h
    ·show W.length<=24;omega
    ·intro w hw;show In lits.length w.1/\In lits.length w.2;rw [hlits];exact hV w hw
    ·intro w hw;show In lits.length w;rw [hlits];exact hst.2 w hw
    ·show marks.length<=3;rw [hml,Gr];omega
    ·intro x hx;obtain ⟨_,_,h⟩:=hm x hx;exact h.1
    ·intro x hx;obtain ⟨_,_,h⟩:=hm x hx;exact h.2
def gS:List Int:=[7,0,6,1,5,2,4,3]
theorem LR {M:Mac}(g:Gd M){way:Int}(h0:0<=way)(h1:way<24)(hn:way≠11)(cell:Int):OK (By M way cell) BadM:=by
 have a1:=g.a1;have a8:=g.a8;have pa:(ToD.to M.a:D) = .lst (M.a.map D.str):=rfl;have pb:(ToD.to M.b:D) = .lst (M.b.map toP):=rfl;have pc:(ToD.to M.c:D) = .lst (M.c.map D.int):=rfl;have pd:(ToD.to M.d:D) = .lst (M.d.map toL):=rfl;have t4:∀ a b c d:D,(ToD.to (Tp.mk [a,b,c,d]):D) = .tup [a,b,c,d]:=fun _ _ _ _=>rfl;have ma:M.a.map (ToD.to:Str->D)=M.a.map D.str:=rfl;have mb:M.b.map (ToD.to:(Int × Int)->D)=M.b.map toP:=rfl;have mc:M.c.map (ToD.to:Int->D)=M.c.map D.int:=rfl;have md:M.d.map (ToD.to:List Int->D)=M.d.map toL:=rfl;have da:Dp 4 (.lst (M.a.map D.str)):=AV (AV (AV (Fb _)));have db:Dp 4 (.lst (M.b.map toP)):=AV (AV (Hy _));have dc:Dp 4 (.lst (M.c.map D.int)):=AV (AV (AV (DE _)));have dd:Dp 4 (.lst (M.d.map toL)):=AV (AV (K4 _));unfold By;simp only [qiB,AT,t4,pa,pb,pc,pd,ma,mb,mc,md,toM_eq];refine BN (fun _=>Mt g cell) fun h19=>?_;have h19:=of_decide_eq_false h19;refine BN (fun h=>?_) fun h=>?_
 ·have h:=of_decide_eq_true h;simp only [qmA,qsB,or_false] at h;exact other_ok g (by omega) cell
 have h:=of_decide_eq_false h;simp only [qmA,qsB,or_false] at h;refine BN (fun h7=>?_) fun h7=>?_
 ·have h7:=of_decide_eq_true h7;exact AE (OK.mono (LP g.am g.a1 g.a8 (by omega) cell) fun d hd=>AO ⟨b_lit hd.1,Ft hd.2 db dc dd⟩)
 have h7:=of_decide_eq_false h7;refine BN (fun h8=>?_) fun h8=>?_
 ·have h8:=of_decide_eq_true h8;exact AE (OK.mono (L1 g.a1 g.a8 g.bn g.b24 g.bm (by omega) cell) fun d hd=>AO ⟨MZ g hd.1,Ft da hd.2 dc dd⟩)
 have h8:=of_decide_eq_false h8;refine BN (fun h9=>?_) fun h9=>?_
 ·have h9:=of_decide_eq_true h9;exact AE (OK.mono (Ie g.a1 g.a8 g.cn g.cm (by omega) cell) fun d hd=>AO ⟨b_st g hd.1,Ft da db hd.2 dd⟩)
 have h9:=of_decide_eq_false h9;exact AE (OK.mono (JJ g.b24 g.d3 g.dn g.dm (by omega) cell) fun d hd=>AO ⟨b_mk g hd.1,Ft da db dc hd.2⟩)
def M11:Mac:=⟨List.replicate 8 "a",(List.range 24).map fun (i:Nat)=>((i:Int) / 8,(i:Int) % 8),[7,0],[[23,0],[],(List.range 24).map fun (i:Nat)=>(i:Int)]⟩
instance decIn (m:Nat)(k:Int):Decidable (In m k):=by unfold In;infer_instance
theorem gd11:Gd M11:=by
 refine ⟨by decide,by decide,fun x hx=>?_,by decide +kernel,by decide,by decide +kernel,by decide,by decide +kernel,by decide,by decide +kernel,by decide +kernel⟩;rw [(List.mem_replicate.mp hx).2];exact mom_a
theorem z_not:Ab (ToD.to (Tp.mk [(ToD.to [(ToD.to ("z" : Str):D)]:D),ToD.to [(ToD.to (Tp.mk [(ToD.to (0:Int):D),ToD.to (1:Int)]):D)],ToD.to ([]:List D),ToD.to ([]:List D)]))=some false:=by decide +kernel
theorem law_true (ns:List Int)(hl:ns.length<=63):Ks ⟨ns⟩=some true:=by
 have hs:sizeLine=16777216:=qhB;refine OK.eq ?_;unfold Ks;simp only [qiB,AT,Cr];refine AE (CK _ 0 (by decide) (by decide) fun c0=>AE (Lp _ (qkB _ (by decide)) fun ls hL=>AE (LK _ ls hL fun M g=>AE (CK _ 40 (by decide) (by decide) fun c40=>AE (CK _ 41 (by decide) (by decide) fun c41=>?_)))));have w0:=qkB c40 (b:=27) (by decide);have w1:=qmB c40 (b:=27) (by decide);generalize c40 % 27=way at w0 w1 ⊢;generalize c41 % 1000000007=cell;refine En (P:=fun N:Mac=>Gd N) (BN (fun _=>?_) fun _=>AO g) fun N gN=>?_
 ·refine AE (FP (k:=8) (by show 1 * 8<=sizeLine;omega) (by decide) ?_);refine AE (FQ (n:=24) (by omega) (by omega) (by omega) ?_);refine AE (HU (g:=fun k=>(k / 8,k % 8)) (fun _ _=>rfl) ?_);refine AE (FQ (n:=24) (by omega) (by omega) (by omega) ?_);refine AE (HU (g:=fun k=>k) (fun _ _=>rfl) (AO ?_));have e:(T4.mk (List.replicate 8 [("a" : Str)]).flatten (List.map (fun k:Int=>(k / 8,k % 8)) (List.map (fun (i:Nat)=>(0:Int)+(i:Int)) (List.range 24))) [7,0] [[23,0],[],List.map (fun k=>k) (List.map (fun (i:Nat)=>(0:Int)+(i:Int)) (List.range 24))]:Mac)=M11:=by decide +kernel
  rw [e];exact gd11
 rw [toM_eq];refine En (P:=fun d:D=>Ab d=some (decide ((23:Int)<way) || decide (way=11))/\Dp 5 d) (BN (fun h=>?_) fun h=>AO ?_) fun d hd=>?_
 ·rw [qyB,Bool.not_eq_true',decide_eq_true_eq,decide_eq_false_iff_not] at h;refine OK.mono (LR gN w0 h.1 h.2 cell) fun d hd=>⟨?_,hd.2⟩;rw [decide_eq_false (show ¬ (23:Int)<way by omega),decide_eq_false h.2];exact hd.1
 ·refine ⟨?_,AV (AV (dp_M N))⟩
  have h2:(decide ((23:Int)<way) || decide (way=11))=true:=by
   rw [Bool.and_eq_false_iff,decide_eq_false_iff_not,Bool.not_eq_false',decide_eq_true_eq] at h;rw [Bool.or_eq_true,decide_eq_true_eq,decide_eq_true_eq];omega
  rw [h2];exact g_mach gN
 ·rw [Kx hd.2,AT,hd.1,AT];rw [Mm (AV (AV (AV (AV hd.2)))),g_mach gN,z_not];simp;exact AO rfl
theorem law_imp {K:FZ9}{vs:List V}{H:Hp}{Q:VK}{E:XK}(h:JL K vs H Q E):spM K mm_law vs H Q E:=by
 obtain ⟨a,ns,rfl,hS,hl,q⟩:=h;exact ⟨H,(⟨ns⟩,()),true,Same.refl H,⟨.ref a,[],rfl,⟨a,rfl,hS⟩,rfl⟩,law_true ns hl,fun v G2 H2 x r=>by cases r;exact q H2⟩
set_option maxHeartbeats 1000000 in
theorem all_mk {l:PySem.W.OpenLaw}{w:World}{K:FZ9}{h:Heap}{mg:Str->Option Value}{fa:Addr}(X:K.In h)(G:h.Ns mainGlobals mg)(hfa:mg "law" = some (.ref fa))
  (Z:DIn K mg "is_moment" Et/\DIn K mg "is_number_below" Cg/\DIn K mg "are_numbers_once" CN/\DIn K mg "is_way" HK/\DIn K mg "are_moments" Dj/\DIn K mg "are_ways" FL/\DIn K mg "are_marks" Ej/\DIn K mg "is_machine" EB/\DIn K mg "_law_cell" FE/\DIn K mg "_law_letters" Df/\DIn K mg "_law_lit" GO/\DIn K mg "_law_chosen" ED/\DIn K mg "_law_states" EJ/\DIn K mg "_law_machine" Dm/\DIn K mg "_law_bad_lit" Dv/\DIn K mg "_law_bad_ways" DQ/\DIn K mg "_law_bad_starts" Co/\DIn K mg "_law_bad_marks" D7/\DIn K mg "_law_other" Ei/\DIn K mg "_law_with_truths" Ci/\DIn K mg "_law_spoiled" Dk/\DIn K mg "_law_copied" DG/\DIn K mg "law" s_law)
  {tk0 tk1 tk2:Tok}
  (gv0:PySem.W.nsIn K mainGlobals "MOST_STATES" = some (some (.int 8 tk0)))
  (gv1:PySem.W.nsIn K mainGlobals "MOST_WAYS" = some (some (.int 24 tk1)))
  (gv2:PySem.W.nsIn K mainGlobals "MOST_MARKS" = some (some (.int 3 tk2)))
  (zs:Nn K "all" /\ Nn K "bool" /\ Nn K "int" /\ Nn K "isinstance" /\ Nn K "len" /\ Nn K "list" /\ Nn K "min" /\ Nn K "range" /\ Nn K "set" /\ Nn K "sorted" /\ Nn K "str" /\ Nn K "tuple") :
  ∃ fd:FuncData,(∀ (s:Shared) (v:Value),BindsTo s fd ⟨[v],[]⟩ [("_law_script",v)])/\∀ base:Heap,K.In base->base.Ns mainGlobals mg->FnOk l.prog w K mg base CX0 8 fa fd ["_law_script"] (JL K):=by
 obtain ⟨z0,z1,z2,z3,z4,z5,z6,z7,z8,z9,z10,z11,z12,z13,z14,z15,z16,z17,z18,z19,z20,z21,z22⟩:=Z;obtain ⟨y0,y1,y2,y3,y4,y5,y6,y7,y8,y9,y10,y11⟩:=zs;obtain ⟨f,fd,a,F⟩:=z22.ex;cases hfa.symm.trans a;have T:Txt mg:=⟨PySem.W.mg_none_of X G y0,PySem.W.mg_none_of X G y1,PySem.W.mg_none_of X G y2,PySem.W.mg_none_of X G y3,PySem.W.mg_none_of X G y4,PySem.W.mg_none_of X G y5,PySem.W.mg_none_of X G y6,PySem.W.mg_none_of X G y7,PySem.W.mg_none_of X G y8,PySem.W.mg_none_of X G y9,PySem.W.mg_none_of X G y10,PySem.W.mg_none_of X G y11,⟨_,PySem.W.mg_of X G gv0⟩,⟨_,PySem.W.mg_of X G gv1⟩,⟨_,PySem.W.mg_of X G gv2⟩⟩;refine ⟨fd,?_,fun base KB GB=>?_⟩
 ·obtain ⟨_,_,_,_,_,_,_,_,_,rfl,_⟩:=F.ex;exact fun s v=>.of_eq rfl
 have EO:=@IZ l.prog w K mg base z12 T;have DI:=@IX l.prog w K mg base z11 T;have B4:=@LB l.prog w K mg base z8 T;have GK:=@LG l.prog w K mg base z10 T;have Dn:=@Hh l.prog w K mg base z13 T EO DI B4 GK
 have C9:GD l.prog w K mg base:=by
  obtain ⟨f,fd,a,F⟩:=z21.ex
  have D:∀ n:Nat,DefOk l.prog w K mg base "_law_copied" (1+n) ["_law_thing"] (spM K (Bb n)):=fun n=>by
   induction n with
   | zero=>exact LM F a (F.binds bn1) (Hw F)
   | succ n ih=>exact LM F a (F.binds bn1) (Ib F T n ih)
  exact D 6
 have BD:=@FK l.prog w K mg base z1 T;have BK:=@F2 l.prog w K mg base z2 T BD;have Ev:=@Jg l.prog w K mg base z6 T BK;have Ed:=@JS l.prog w K mg base z0 T;have Di:=@Hv l.prog w K mg base z4 T Ed;have Hr:=@NT l.prog w K mg base z3 T BD;have FM:=@KT l.prog w K mg base z5 T Hr;have CA:=@IV l.prog w K mg base z7 T BK Ev Di FM;have Dr:=@Hl l.prog w K mg base z9 T;have Cm:=@FJ l.prog w K mg base z19 T;have Ea:=@Jd l.prog w K mg base z18 T;have D9:=@GG l.prog w K mg base z17 T;have Dl:=@IE l.prog w K mg base z14 T;have DM:=@Gm l.prog w K mg base z15 T;have Cq:=@FZ l.prog w K mg base z16 T;have Du:=@IM l.prog w K mg base z20 T Cm Ea D9 Dl DM Cq;exact (ok_law F T Dn C9 CA Dr B4 Du).imp fun _ _ _ _ h=>law_imp h
theorem walk {l:PySem.W.OpenLaw}{q:Program}{loose:List Str}{XP:(Str->Option Value)->Heap->Prop}{YP:World->Heap->Prop}{d:DefRec}{K:Params->FZ9}(hn:l.most=some 63)(hdf:d.params.defaults=[])
  (hY:∀ (w:World) (h:Heap),YP w h->(K w.params).In h)
  (F:∀ (w:World) (mg:Str->Option Value) (fa:Addr) (h:Heap),(K w.params).In h->h.Ns mainGlobals mg->mg d.name=some (.ref fa) ->
   ∃ fd:FuncData,(∀ (s:Shared) (u:Value),BindsTo s fd ⟨[u],[]⟩ [("_law_script",u)])/\∀ base:Heap,(K w.params).In base->base.Ns mainGlobals mg->FnOk l.prog w (K w.params) mg base CX0 8 fa fd ["_law_script"] (JL (K w.params))) :
  PySem.W.WalkO q loose XP YP l.row.toRowW d [] (fun f vs=>PySem.call f vs) :=
 L2.walk_of (n:=63) (k:=8) (x := "_law_script") (CX:=fun _=>CX0) (sp:=fun w=>JL (K w.params)) hn (by decide) hdf ⟨rfl,by decide,by decide⟩ hY F (fun _ _ a ns hl _ hS=>⟨a,ns,rfl,hS,hl,fun _=>rfl⟩) fun _ _ _ _ _ z=>z
end My
open PySem PySem.W PyProof.Rows
theorem PySem.W.Fast.tw7159982730068254270:True:=trivial
theorem PySem.W.Fast.tw10420312432510789232:True:=trivial
theorem PySem.W.Fast.tw10847698272446490202:True:=trivial
theorem PySem.W.Fast.tw5028617723280147461:True:=trivial
theorem PySem.W.Fast.tw9744803450198449858:True:=trivial
theorem PySem.W.Fast.tw13157109704327328115:True:=trivial
theorem PySem.W.Fast.tw14700593311054579480:True:=trivial
theorem PySem.W.Fast.tw378000332681436698:True:=trivial
theorem PySem.W.Fast.tw18042110652963865716:True:=trivial
theorem PySem.W.Fast.tw7093563900610298577:True:=trivial
theorem PySem.W.Fast.tw4222160623481212740:True:=trivial
theorem PySem.W.Fast.tw17765302770944057213:True:=trivial
theorem PySem.W.Fast.tw5698570762860890733:True:=trivial
theorem PySem.W.Fast.tw16086426360985699692:True:=trivial
theorem PySem.W.Fast.tw5151504074984867372:True:=trivial
theorem PySem.W.Fast.tw3798682524113612253:True:=trivial
theorem PySem.W.Fast.tw15532673740491485457:True:=trivial
theorem PySem.W.Fast.tw5646770895861557436:True:=trivial
theorem PySem.W.Fast.tw9397362327319063122:True:=trivial
theorem PySem.W.Fast.tw3015105704502333403:True:=trivial
theorem PySem.W.Fast.tw10915929107442504471:True:=trivial
theorem PySem.W.Fast.tw1911790649395017184:True:=trivial
theorem PySem.W.Fast.tw2457283668591651336:True:=trivial
theorem PySem.W.Fast.tw13555840302386058299:True:=trivial
theorem PySem.W.Fast.tw6345233972512297441:True:=trivial
theorem PySem.W.Fast.tw11361779594465047727:True:=trivial
theorem PySem.W.Fast.tw17409747849730319034:True:=trivial
theorem PySem.W.Fast.tw7086569052736785121:True:=trivial
set_option maxRecDepth 100000 in
set_option maxHeartbeats 0 in
theorem PySem.Challenge.cw_lassoscribe_k50_what_is_a_machine_holds : PySem.Challenge.rw_lassoscribe_k50_what_is_a_machine.Holds := by
 w_on; o_law; k_head; (case hw => w_witness2)
 k_fill
 refine My.walk (l := PySem.Challenge.rw_lassoscribe_k50_what_is_a_machine) rfl rfl (fun w h Y => PySem.W.kIn_of Y) ?F
 case F =>
  intro w mg fa h KX G hmg;refine' My.all_mk KX G hmg ?zz ?gv0 ?gv1 ?gv2 ?zy
  (case zz =>
   refine ⟨?_, ?_, ?_, ?_, ?_, ?_, ?_, ?_, ?_, ?_, ?_, ?_, ?_, ?_, ?_, ?_, ?_, ?_, ?_, ?_, ?_, ?_, ?_⟩
   all_goals (refine' L2.din KX G ?a ?l ?c ?k; (case a => k_is); (case l => k_is); (case c => k_is); (case k => k_is)))
  (case gv0 => k_is)
  (case gv1 => k_is)
  (case gv2 => k_is)
  (case zy => refine ⟨?_, ?_, ?_, ?_, ?_, ?_, ?_, ?_, ?_, ?_, ?_, ?_⟩ <;> (unfold L2.Nn; k_is))
end
