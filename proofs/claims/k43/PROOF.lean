import PyProof.Rows.All
import Wide.All
import OpenK.AllK
import Wide.FinOn
import Lean
import PyProof.EqAt
import PyProof.EqKinds
import PyProof.TupleCall
import PyProof.P3Eq
import PyProof.NeData
import PyProof.P3In
import PyProof.Rows.EnumRows
import PySem.Challenge.RW_evenhues_k43_ends
set_option genSizeOf false
set_option genSizeOfSpec false
set_option bootstrap.genMatcherCode false
set_option Elab.async false
set_option linter.all false
set_option maxRecDepth 100000
set_option maxHeartbeats 4000000
section
namespace Hd
open PySem
inductive G where
 | int (i:Int) | str (x:Str) | ctup (ns:List Int)
noncomputable def args (s:Stmt):Arguments:=match s with
 | .FunctionDef _ a _ _ _ _ _ _ _ _=>a
 | _=>{ posonlyargs:=[],args:=[],vararg:=none,kwonlyargs:=[],kw_defaults:=[],kwarg:=none,defaults:=[] }
noncomputable def body (s:Stmt):List Stmt:=match s with
 | .FunctionDef _ _ b _ _ _ _ _ _ _=>b
 | _=>[]
noncomputable def scope (s:Stmt):Scope:=match s with
 | .FunctionDef _ _ _ _ _ _ sc _ _ _=>sc
 | _=>{ kind:=.function,names:=[],isGenerator:=false,isCoroutine:=false }
noncomputable def posOf (s:Stmt):Pos:=match s with
 | .FunctionDef _ _ _ _ _ _ _ _ _ p=>p
 | _=>⟨0,0,0,0⟩
noncomputable def defRec (x:Str) (st:Stmt):DefRec:=⟨x,args st,body st,scope st,posOf st⟩
noncomputable def blts:List Str:=["len","all","any","tuple","list","sorted","repr","max","min","sum","int","isinstance","divmod","str","bool","dict","set","range","enumerate","zip"]
noncomputable def intsA:List Value→Option (List Int)
 | []=>some []
 | .int i _ :: r=>(intsA r).map (i :: ·)
 | _=>none
noncomputable def nsH (h:Heap) (x:Str):Option (Option Value):=match h.get? mainGlobals with
 | some o=>PySem.W.nsIn [(mainGlobals,o)] mainGlobals x
 | none=>none
noncomputable def bareF (fd:FuncData):FuncData:={ fd with kwdefaults:=.none,doc:=.none,pyModule:=.none,annotations:=none,code:=.none,closureTuple:=.none }
noncomputable def codeH (h:Heap) (cd:Value) (x:Str):Bool:=match cd with
 | .ref c=>(match h.get? c with
   | some o=>PySem.W.codeIn [(c,o)] (.ref c) x
   | none=>false)
 | _=>false
noncomputable def obsF (h:Heap) (x:Str):Option FuncData:=match nsH h x with
 | some (some (.ref f))=>(match h.get? f with
   | some ⟨_,_,.func fd,_⟩=>if codeH h fd.code x then some (bareF fd) else none
   | _=>none)
 | _=>none
noncomputable def valF (p:Str × Stmt):Option FuncData:=some (PySem.W.fnOf p.1 p.1 (args p.2) (body p.2) (scope p.2) .none .none .none .none none .none .none)
noncomputable def glB (h:Heap) (x:Str):G→Bool
 | .int i=>(match nsH h x with | some (some (.int j _))=>decide (i=j) | _=>false)
 | .str y=>(match nsH h x with | some (some (.str z _))=>decide (y=z) | _=>false)
 | .ctup ns=>(match nsH h x with
   | some (some (.ref a))=>(match h.get? a with
     | some ⟨.type n,_,.seq us _,_⟩=>decide (n="tuple") && decide (us.toList.length≤1000) && decide (intsA us.toList=some ns)
     | _=>false)
   | _=>false)
noncomputable def blB (h:Heap) (x:Str):Bool:=match nsH h x with | some none=>true | _=>false
noncomputable def obsH (D:List (Str × Stmt)) (gl:List (Str × G)) (s:Shared):List (Option FuncData) × Bool:=(D.map fun p=>obsF s.heap p.1,gl.all (fun p=>glB s.heap p.1 p.2) && blts.all fun x=>blB s.heap x)
noncomputable def valH (D:List (Str × Stmt)):List (Option FuncData) × Bool:=(D.map valF,true)
end Hd
end
section
set_option maxHeartbeats 0
open PySem PySem.W PyProof.Rows
namespace P43
noncomputable def top (i:Nat):Stmt:=PySem.Challenge.pw_evenhues_k43_ends.main.body.getD i (.Pass ⟨0,0,0,0⟩)
noncomputable def D:List (Str × Stmt):=(("is_whole":Str),top 8) :: (("are_wholes":Str),top 9) :: (("are_sizes":Str),top 12) :: (("need_sizes":Str),top 13) :: (("product_of":Str),top 16) :: (("need_small_sizes":Str),top 17) :: (("may_follow":Str),top 18) :: (("grown":Str),top 19) :: (("followers":Str),top 21) :: (("leaders":Str),top 22) :: (("ends":Str),top 23) :: (("shut_ends":Str),top 24) :: (("_law_cell_at":Str),top 26) :: (("_law_pen":Str),top 27) :: (("_law_draw":Str),top 28) :: (("_law_small":Str),top 29) :: (("_law_ended":Str),top 31) :: (("_law_all":Str),top 32) :: (("_law_stopped":Str),top 33) :: (("law":Str),top 34) :: []
noncomputable def gl:List (Str × Hd.G):=[("MOST_PLACES",.int 40),("LEAST_SIZE",.int 2),("MOST_SIZE",.int 8),("HUES",.ctup [0,1,2,3]),("MOST_PRODUCT",.int 12)]
noncomputable def q:Program:={ PySem.Challenge.pw_evenhues_k43_ends with main:={ PySem.Challenge.pw_evenhues_k43_ends.main with body:=[1,2,3,5,6,7,8,9,10,12,13,15,16,17,18,19,21,22,23,24,26,27,28,29,30,31,32,33,34].map top } }
noncomputable def dd:DefRec:=Hd.defRec "law" (top 34)
theorem left:PySem.W.LeftO PySem.Challenge.rw_evenhues_k43_ends.row.prog q [] (fun s=>PySem.W.recOk PySem.Challenge.rw_evenhues_k43_ends.row.records s) (Hd.obsH D gl) (fun _=>Hd.valH D) 100000:=by
 intro w
 kernel_rfl
theorem said:PySem.Challenge.rw_evenhues_k43_ends.wellSaid=true:=by kernel_rfl
theorem hdef:PySem.W.defOf q PySem.Challenge.rw_evenhues_k43_ends.row.name=some (dd,[]):=by kernel_rfl
theorem hp:PySem.Challenge.rw_evenhues_k43_ends.row.prog.theDef PySem.Challenge.rw_evenhues_k43_ends.row.name=some (dd.params,dd.body,dd.scope):=by kernel_rfl
theorem hk:PySem.W.kwWritten? dd.params.kwonlyargs dd.params.kw_defaults=some []:=by kernel_rfl
theorem hwr:(!PySem.Challenge.rw_evenhues_k43_ends.row.writes || PySem.Challenge.rw_evenhues_k43_ends.row.records.isEmpty)=true:=by kernel_rfl
theorem ok:(PySem.W.chainsOk q && PySem.W.opensWell PySem.Challenge.rw_evenhues_k43_ends.row.prog && (PySem.W.frees PySem.Challenge.rw_evenhues_k43_ends.row.toRowW && PySem.Challenge.rw_evenhues_k43_ends.row.within.isEmpty))=true:=by kernel_rfl
theorem hdf:dd.params.defaults=[]:=by kernel_rfl
theorem bare:PySem.Challenge.rw_evenhues_k43_ends.row.prog.bare:=⟨rfl,rfl,rfl,rfl,rfl,by decide +kernel⟩
theorem hw:PySem.Challenge.rw_evenhues_k43_ends.row.toRowW.promised:=by w_witness2
end P43
end
section
namespace L2
open PySem PySem.Spec PyProof.Rows
noncomputable abbrev Key:=Sum Int Str
noncomputable def keyIs:Key→Value→Bool
 | .inl k,v=>Value.isInt k v
 | .inr x,v=>Value.isStrOf x v
noncomputable def keyH (w:World):Key→Int
 | .inl k=>hashInt k
 | .inr x=>hashStr w x
theorem keyIs_shape:∀ {k:Key} {v:Value},keyIs k v=true→(∃ i t,k=Sum.inl i∧v=Value.int i t) ∨ (∃ x t,k=Sum.inr x∧v=Value.str x t)
 | .inl i,v,h=>by
   obtain ⟨t,e⟩:=Value.isInt_shape (k:=i) (v:=v) h
   exact .inl ⟨i,t,rfl,e⟩
 | .inr x,v,h=>by
   obtain ⟨t,e⟩:=Value.isStrOf_shape (x:=x) (v:=v) h
   exact .inr ⟨x,t,rfl,e⟩
theorem key_ll (a b:Int):decide ((Sum.inl a:Key)=Sum.inl b)=(a == b):=by
 by_cases e:a=b
 . subst e; simp
 . have h:¬ (Sum.inl a:Key)=Sum.inl b:=fun q=>e (Sum.inl.inj q)
   rw [decide_eq_false h]
   exact (beq_eq_false_iff_ne.mpr e).symm
theorem key_rr (a b:Str):decide ((Sum.inr a:Key)=Sum.inr b)=decide (a=b):=by
 by_cases e:a=b
 . subst e; simp
 . have h:¬ (Sum.inr a:Key)=Sum.inr b:=fun q=>e (Sum.inr.inj q)
   rw [decide_eq_false h,decide_eq_false e]
theorem key_lr (a:Int) (b:Str):decide ((Sum.inl a:Key)=Sum.inr b)=false:=decide_eq_false (fun q=>nomatch q)
theorem key_rl (a:Str) (b:Int):decide ((Sum.inr a:Key)=Sum.inl b)=false:=decide_eq_false (fun q=>nomatch q)
noncomputable def mixKind (prog:Program) (w:World):PySem.KeyKind prog w Key where
 is:=keyIs
 hash:=keyH w
 inj:=fun v a b ha hb=>by
   rcases keyIs_shape ha with ⟨i,t,rfl,rfl⟩ | ⟨x,t,rfl,rfl⟩
   . rcases keyIs_shape hb with ⟨j,u,rfl,e⟩ | ⟨y,u,rfl,e⟩
     . injection e with e1 _; rw [e1]
     . exact nomatch e
   . rcases keyIs_shape hb with ⟨j,u,rfl,e⟩ | ⟨y,u,rfl,e⟩
     . exact nomatch e
     . injection e with e1 _; rw [e1]
 byValue:=fun k v h=>by
   rcases keyIs_shape h with ⟨i,t,rfl,rfl⟩ | ⟨x,t,rfl,rfl⟩ <;> rfl
 pyHash:=fun hv h=>by
   rcases keyIs_shape hv with ⟨i,t,rfl,rfl⟩ | ⟨x,t,rfl,rfl⟩
   . exact wpAny_pyHash_int h
   . exact wpAny_pyHash_str h
 eqBool:=fun hu hv h=>by
   rcases keyIs_shape hu with ⟨i,t,rfl,rfl⟩ | ⟨x,t,rfl,rfl⟩
   . rcases keyIs_shape hv with ⟨j,u,rfl,rfl⟩ | ⟨y,u,rfl,rfl⟩
     . rw [key_ll] at h; exact wpAny_eqBool_int h
     . rw [key_lr] at h; exact SeqAt.EqAt.int_str i t y u _ _ _ _ h
   . rcases keyIs_shape hv with ⟨j,u,rfl,rfl⟩ | ⟨y,u,rfl,rfl⟩
     . rw [key_rl] at h; exact SeqAt.EqAt.str_int x t j u _ _ _ _ h
     . rw [key_rr] at h; exact wpAny_eqBool_str h
 «strs»:=fun k x t v h=>by
   rcases keyIs_shape h with ⟨i,u,rfl,e⟩ | ⟨y,u,rfl,e⟩
   . exact nomatch e
   . injection e with e1 _
     subst e1
     cases v <;> rfl
end L2
namespace L2
open PySem PySem.Spec PyProof.Rows
inductive V where
 | non | bl (b:Bool) | int (i:Int) | str (x:Str) | byt (b:Array UInt8) | flt (b:UInt64) | ref (a:Addr) | ty (n:String)
 deriving DecidableEq
noncomputable def RelV:V→Value→Prop
 | .non,u=>u=Value.none
 | .bl b,u=>u=Value.bool b
 | .int i,u=>∃ t,u=Value.int i t
 | .str x,u=>∃ t,u=Value.str x t
 | .byt b,u=>∃ t,u=Value.bytes b t
 | .flt b,u=>∃ t,u=Value.float b t
 | .ref a,u=>u=Value.ref a
 | .ty n,u=>u=Value.type n
noncomputable abbrev Vals:List V→List Value→Prop:=Paired RelV
theorem Vals.length {xs:List V} {us:List Value} (r:Vals xs us):xs.length=us.length:=Paired.length r
theorem Vals.get:∀ {xs:List V} {us:List Value} {i:Nat} {x:V},Vals xs us→xs[i]?=some x→∃ u,us[i]?=some u∧RelV x u
 | _,_,_,_,.nil,e=>by simp at e
 | _,_,0,_,.cons r _,e=>by simp at e; subst e; exact ⟨_,rfl,r⟩
 | _,_,i + 1,x,.cons _ t,e=>by
   obtain ⟨u,h1,h2⟩:=Vals.get (i:=i) (x:=x) t (by simpa using e)
   exact ⟨u,by simpa using h1,h2⟩
theorem Vals.set {x:V} {u:Value} (r:RelV x u):∀ {xs:List V} {us:List Value} (i:Nat),Vals xs us→Vals (xs.set i x) (us.set i u)
 | _,_,_,.nil=>.nil
 | _,_,0,.cons _ t=>.cons r t
 | _,_,i + 1,.cons q t=>.cons q (Vals.set r i t)
theorem Vals.append:∀ {xs ys:List V} {us ws:List Value},Vals xs us→Vals ys ws→Vals (xs++ys) (us++ws)
 | _,_,_,_,.nil,s=>s
 | _,_,_,_,.cons r t,s=>.cons r (Vals.append t s)
theorem Vals.take:∀ {xs:List V} {us:List Value} (n:Nat),Vals xs us→Vals (xs.take n) (us.take n)
 | _,_,0,_=>.nil
 | _,_,_ + 1,.nil=>.nil
 | _,_,n + 1,.cons r t=>.cons r (Vals.take n t)
theorem Vals.drop:∀ {xs:List V} {us:List Value} (n:Nat),Vals xs us→Vals (xs.drop n) (us.drop n)
 | _,_,0,r=>r
 | _,_,_ + 1,.nil=>.nil
 | _,_,n + 1,.cons _ t=>Vals.drop n t
theorem Vals.none_of:∀ {xs:List V} {us:List Value} {i:Nat},Vals xs us→xs[i]?=none→us[i]?=none:=fun {xs us i} r e=>by
 have h1:=r.length
 have h2:xs.length≤i:=List.getElem?_eq_none_iff.mp e
 exact List.getElem?_eq_none_iff.mpr (by omega)
noncomputable def RelO:Option V→Option Value→Prop
 | some v,some u=>RelV v u
 | none,none=>True
 | _,_=>False
noncomputable def KV {κ:Type}:List (κ × V)→List (κ × Value)→Prop:=Paired fun (p:κ × V) (q:κ × Value)=>p.1=q.1∧RelV p.2 q.2
noncomputable def kV:Key→V
 | .inl i=>.int i
 | .inr x=>.str x
inductive HO where
 /-- a list -/
 | lst (xs:List V)
 /-- a tuple (never changes) -/
 | tup (xs:List V)
 /-- a dict whose keys are ints and texts; one whose keys are tuples of ints and texts (the empty one is both) -/
 | dK (kvs:List (Key × V)) | dT (kvs:List (List Key × V))
 /-- a set of ints: its members,its size -/
 | set (S:Int→Bool) (n:Nat)
 /-- an instance of the class at C,its dict at dx,its attributes -/
 | ins (C dx:Addr) (fs:List (Str × V))
 /-- the dict of the instance at x -/
 | own (x:Addr)
 /-- the dict of an exception -/
 | xd (fs:List (Str × V))
 /-- a bound method,f of x -/
 | met (f x:Addr)
 /-- a range object lo,lo + 1,.. below hi -/
 | rng (lo hi:Int)
 /-- a thing that is known to the object (the script; a dict while a loop walks it): read,never written while it is so -/
 | frz (o:Obj) (u:HO)
 /-- a code object's table -/
 | tbl (ps:Array Value)
 /-- any other thing,by what is true of its one object (a def of one's own: SetO a S n:=HO.ext fun h=>..) -/
 | ext (φ:Heap→Prop)
noncomputable abbrev Hp:=Addr→Option HO
noncomputable def PTup (h:Heap) (a:Addr) (items:Array Value):Prop:=∃ o,h.get? a=some o∧o.cls=.type "tuple"∧∃ n,o.data=.seq items n∧o.dict=none
theorem PTup.tup {h:Heap} {a:Addr} {items:Array Value} (x:PTup h a items):IsTup h a items:=let ⟨o,e,c,n,d,_⟩:=x; ⟨o,e,c,n,d⟩
theorem PTup.lt {h:Heap} {a:Addr} {items:Array Value} (x:PTup h a items):a < h.objs.size:=let ⟨_,e,_⟩:=x; Heap.lt_size e
theorem PTup.new (h:Heap) (items:Array Value):PTup (h.push { cls:=.type "tuple",data:=.seq items }) h.objs.size items:=⟨_,Heap.get?_push_size _ rfl,rfl,_,rfl,rfl⟩
noncomputable def upd (H:Hp) (a:Addr) (o:HO):Hp:=fun b=>if b=a then some o else H b
theorem upd_same {H:Hp} {a:Addr} {o:HO}:upd H a o a=some o:=by unfold upd; rw [if_pos rfl]
theorem upd_ne {H:Hp} {a b:Addr} {o:HO} (h:b≠a):upd H a o b=H b:=by unfold upd; rw [if_neg h]
theorem ne_of_none {H:Hp} {a b:Addr} {o:HO} (h:H a=some o) (h':H b=none):a≠b:=by
 intro e; subst e; rw [h] at h'; cases h'
section
variable (P:Program) (w:World)
noncomputable def ObjOk (H:Hp) (h:Heap) (a:Addr):HO→Prop
 | .lst xs=>xs.length≤sizeLine∧∃ (its:List Value) (n:Nat),Vals xs its∧h.get? a=some { cls:=.type "list",data:=.seq its.toArray n }
 | .tup xs=>xs.length≤sizeLine∧∃ its:List Value,Vals xs its∧PTup h a its.toArray
 | .dK kvs=>kvs.length≤sizeLine∧(a == sysModules)=false∧∃ vs,KV kvs vs∧h.DictOf (mixKind P w) a vs
 | .dT kvs=>kvs.length≤sizeLine∧(a == sysModules)=false∧∃ xs:List (List Key × Addr × Value),
     Paired (fun (p:List Key × V) (q:List Key × Addr × Value)=>p.1=q.1∧H q.2.1=some (.tup (p.1.map kV))∧RelV p.2 q.2.2) kvs xs ∧
     ∃ o es ep,h.get? a=some o∧o.ExactDict∧o.data=.dict es ep∧es.toList=xs.map (entryOfKey (tupleKind (mixKind P w)))∧(xs.map (·.1)).Nodup
 | .set S n=>h.SetOf (intKind P w) a S n
 | .ins C dx fs=>H dx=some (.own a)∧fs.length≤1000∧dx≠a∧h.get? a=some (PySem.W.instObj C dx) ∧
     ∃ mA,h.Ns1 dx mA∧(∀ f,RelO (fs.lookup f) (mA f))∧PySem.Within mA (fs.map (·.1))
 | .own _=>∃ o,h.get? a=some o
 | .xd fs=>∃ mA,h.Ns1 a mA∧∀ f,RelO (fs.lookup f) (mA f)
 | .rng lo hi=>∃ t u v,h.get? a=some { cls:=.type "range",data:=.fields #[.int lo t,.int hi u,.int 1 v] }
 | .frz o u=>h.get? a=some o∧ObjOk H h a u
 | .tbl ps=>h.get? a=some { cls:=.none,data:=.fields ps }
 | .met f x=>h.get? a=some (PySem.W.methodObj (.ref f) (.ref x))
 | .ext φ=>φ h∧(∃ o,h.get? a=some o)∧∀ h1 h2:Heap,φ h1→(∀ o,h1.get? a=some o→h2.get? a=some o)→φ h2
noncomputable def HOk (H:Hp) (h:Heap):Prop:=∀ a o,H a=some o→ObjOk P w H h a o
end
section
variable {P:Program} {w:World} {H H':Hp} {h h':Heap} {a:Addr} {o:HO}
theorem ObjOk.lt (x:ObjOk P w H h a o):a < h.objs.size:=by
 cases o with
 | lst xs=>obtain ⟨_,_,_,_,e⟩:=x; exact Heap.lt_size e
 | tup xs=>obtain ⟨_,_,_,p⟩:=x; exact p.lt
 | dK kvs=>obtain ⟨_,_,_,_,o,_,_,e,_⟩:=x; exact Heap.lt_size e
 | dT kvs=>obtain ⟨_,_,_,_,o,_,_,e,_⟩:=x; exact Heap.lt_size e
 | set S n=>obtain ⟨o,_,_,_,e,_⟩:=x; exact Heap.lt_size e
 | ins C dx fs=>obtain ⟨_,_,_,e,_⟩:=x; exact Heap.lt_size e
 | own y=>obtain ⟨_,e⟩:=x; exact Heap.lt_size e
 | xd fs=>obtain ⟨_,⟨_,_,_,e,_⟩,_⟩:=x; exact Heap.lt_size e
 | rng lo hi=>obtain ⟨_,_,_,e⟩:=x; exact Heap.lt_size e
 | frz ob u=>obtain ⟨e,_⟩:=x; exact Heap.lt_size e
 | tbl ps=>exact Heap.lt_size (show h.get? a=some _ from x)
 | met f y=>exact Heap.lt_size (show h.get? a=some _ from x)
 | ext φ=>obtain ⟨_,⟨_,e⟩,_⟩:=x; exact Heap.lt_size e
theorem Paired.mapP {α β:Type} {F G:α→β→Prop}:∀ {l₁:List α} {l₂:List β},Paired F l₁ l₂→(∀ a b,F a b→G a b)→Paired G l₁ l₂
 | _,_,.nil,_=>.nil
 | _,_,.cons r t,f=>.cons (f _ _ r) (Paired.mapP t f)
theorem ObjOk.stay (x:ObjOk P w H h a o) (k:∀ b u,(b=a ∨ H b=some (.own a))→h.get? b=some u→h'.get? b=some u)
   (ho:∀ b,H b=some (.own a)→H' b=some (.own a)) (ht:∀ b xs,H b=some (.tup xs)→H' b=some (.tup xs)):ObjOk P w H' h' a o:=by
 induction o with
 | lst xs=>obtain ⟨z,its,n,r,e⟩:=x; exact ⟨z,its,n,r,k _ _ (.inl rfl) e⟩
 | tup xs=>obtain ⟨z,its,r,ob,e,c⟩:=x; exact ⟨z,its,r,ob,k _ _ (.inl rfl) e,c⟩
 | dK kvs=>obtain ⟨z,y,vs,r,ob,es,ep,e,c⟩:=x; exact ⟨z,y,vs,r,ob,es,ep,k _ _ (.inl rfl) e,c⟩
 | dT kvs =>
   obtain ⟨z,y,xs,r,ob,es,ep,e,c⟩:=x
   exact ⟨z,y,xs,Paired.mapP r fun p q z=>⟨z.1,ht _ _ z.2.1,z.2.2⟩,ob,es,ep,k _ _ (.inl rfl) e,c⟩
 | set S n=>obtain ⟨ob,es,ep,t,e,c⟩:=x; exact ⟨ob,es,ep,t,k _ _ (.inl rfl) e,c⟩
 | ins C dx fs =>
   obtain ⟨d,z,ne,e,mA,⟨od,es,ep,e2,c⟩,r⟩:=x
   exact ⟨ho _ d,z,ne,k _ _ (.inl rfl) e,mA,⟨od,es,ep,k _ _ (.inr d) e2,c⟩,r⟩
 | own y=>obtain ⟨ob,e⟩:=x; exact ⟨ob,k _ _ (.inl rfl) e⟩
 | xd fs=>obtain ⟨mA,⟨od,es,ep,e,c⟩,r⟩:=x; exact ⟨mA,⟨od,es,ep,k _ _ (.inl rfl) e,c⟩,r⟩
 | rng lo hi=>obtain ⟨t,u,v,e⟩:=x; exact ⟨t,u,v,k _ _ (.inl rfl) e⟩
 | frz ob u ih=>obtain ⟨e,q⟩:=x; exact ⟨k _ _ (.inl rfl) e,ih q⟩
 | tbl ps =>
   have e:h.get? a=some { cls:=.none,data:=.fields ps }:=x
   show h'.get? a=some { cls:=.none,data:=.fields ps }
   exact k a _ (.inl rfl) e
 | met f y =>
   have e:h.get? a=some (PySem.W.methodObj (.ref f) (.ref y)):=x
   show h'.get? a=some (PySem.W.methodObj (.ref f) (.ref y))
   exact k a _ (.inl rfl) e
 | ext φ=>obtain ⟨p,⟨o,e⟩,st⟩:=x; exact ⟨st _ _ p fun o q=>k _ _ (.inl rfl) q,⟨o,k _ _ (.inl rfl) e⟩,st⟩
theorem HOk.lt (x:HOk P w H h) (e:H a=some o):a < h.objs.size:=(x a o e).lt
theorem HOk.fresh (x:HOk P w H h) (e:h.objs.size≤a):H a=none:=by
 cases q:H a with
 | none=>rfl
 | some u=>exact absurd (Nat.lt_of_lt_of_le (x.lt q) e) (Nat.lt_irrefl _)
theorem HOk.kept (x:HOk P w H h) (k:∀ b u,h.get? b=some u→h'.get? b=some u):HOk P w H h':=fun a o e =>
 (x a o e).stay (fun b u _ q=>k b u q) (fun _ q=>q) fun _ _ q=>q
theorem HOk.laid (x:HOk P w H h) (k:∀ b u,h.get? b=some u→h'.get? b=some u) (hp:h.objs.size≤a) (new:ObjOk P w (upd H a o) h' a o):HOk P w (upd H a o) h':=fun b u e=>by
 have hn:=x.fresh hp
 by_cases hb:b=a
 . subst hb; rw [upd_same] at e; cases e; exact new
 . rw [upd_ne hb] at e
   exact (x b u e).stay (fun c v _ q=>k c v q) (fun c q=>by rw [upd_ne (ne_of_none q hn)]; exact q) fun c xs q=>by rw [upd_ne (ne_of_none q hn)]; exact q
end
noncomputable def Rd (H:Hp) (a:Addr) (u:HO):Prop:=H a=some u ∨ ∃ o,H a=some (.frz o u)
theorem Rd.ok {P:Program} {w:World} {H:Hp} {h:Heap} {a:Addr} {u:HO} (r:Rd H a u) (x:HOk P w H h):ObjOk P w H h a u:=by
 rcases r with r | ⟨o,r⟩
 . exact x a u r
 . obtain ⟨_,q⟩:=x a _ r
   exact q
noncomputable def Mut:Option HO→Prop
 | some (.lst _)=>True
 | some (.dK _)=>True
 | some (.dT _)=>True
 | some (.set _ _)=>True
 | some (.ins _ _ _)=>True
 | some (.ext _)=>True
 | _=>False
section
variable {P:Program} {w:World} {H:Hp} {h h':Heap} {x e:Addr} {o':HO}
theorem HOk.write (ok:HOk P w H h) (mu:Mut (H x)) (he:e=x ∨ H e=some (.own x)) (k:∀ b u,b≠e→h.get? b=some u→h'.get? b=some u) (heo:∃ u,h'.get? e=some u)
   (new:ObjOk P w (upd H x o') h' x o'):HOk P w (upd H x o') h':=fun b u q=>by
 have nown:∀ c y,H c=some (.own y)→c≠x:=fun c y r z=>by subst z; rw [r] at mu; exact mu
 have ntup:∀ c xs,H c=some (.tup xs)→c≠x:=fun c xs r z=>by subst z; rw [r] at mu; exact mu
 by_cases hb:b=x
 . subst hb; rw [upd_same] at q; cases q; exact new
 . rw [upd_ne hb] at q
   by_cases hbe:b=e
   . have q':H b=some (.own x):=by
       rcases he with z | z
       . exact absurd (hbe.trans z) hb
       . rw [hbe]; exact z
     rw [q] at q'; cases q'
     obtain ⟨v,hv⟩:=heo
     exact ⟨v,by rw [hbe]; exact hv⟩
   . refine (ok b u q).stay (fun c v hc r=>k c v ?_ r) (fun c r=>by rw [upd_ne (nown c b r)]; exact r) fun c xs r=>by rw [upd_ne (ntup c xs r)]; exact r
     rcases hc with rfl | hc
     . exact hbe
     . rintro rfl
       rcases he with z | z
       . exact nown c b hc z
       . rw [hc] at z; cases z; exact hb rfl
end
structure Un (fs ex:List Addr) (H H':Hp) (h h':Heap):Prop where
 keep:∀ b o,h.get? b=some o→H b=none→b ∉ fs→b ∉ ex→h'.get? b=some o
 slot:∀ b o,h.get? b=some o→H b=none→b∈fs→b ∉ ex→∃ sl,h'.get? b=some { o with slots:=sl }
 free:∀ b o,h.get? b=some o→H b=none→b ∉ ex→H' b=none
 there:∀ b o,h.get? b=some o→b ∉ ex→∃ o',h'.get? b=some o'
 tups:∀ b xs,H b=some (.tup xs)→H' b=some (.tup xs)
 frzs:∀ b o u,H b=some (.frz o u)→H' b=some (.frz o u)
 tbls:∀ b ps,H b=some (.tbl ps)→∃ more,H' b=some (.tbl (ps++more))
section
variable {fs fs' ex ex':List Addr} {H H1 H2:Hp} {h h1 h2 h':Heap} {a x e:Addr} {o:HO}
theorem Un.any (u:Un fs ex H H1 h h1) {b:Addr} {ob:Obj} (q:h.get? b=some ob) (n:H b=none) (hx:b ∉ ex):∃ sl,h1.get? b=some { ob with slots:=sl }:=by
 by_cases hb:b∈fs
 . exact u.slot b ob q n hb hx
 . exact ⟨ob.slots,u.keep b ob q n hb hx⟩
theorem Un.kept (k:∀ b u,h.get? b=some u→h'.get? b=some u):Un fs ex H H h h':=
 ⟨fun b ob q _ _ _=>k b ob q,fun b ob q _ _ _=>⟨ob.slots,k b ob q⟩,fun _ _ _ n _=>n,fun b ob q _=>⟨ob,k b ob q⟩,fun _ _ q=>q,fun _ _ _ q=>q,fun _ ps q=>⟨#[],by rw [q]; simp⟩⟩
theorem Un.refl:Un fs ex H H h h:=Un.kept fun _ _ q=>q
theorem Un.laid (k:∀ b u,h.get? b=some u→h'.get? b=some u) (hp:h.objs.size≤a) (hn:H a=none):Un fs ex H (upd H a o) h h' where
 keep:=fun b u q _ _ _=>k b u q
 slot:=fun b u q _ _ _=>⟨u.slots,k b u q⟩
 free:=fun b u q n _=>by rw [upd_ne (Nat.ne_of_lt (Nat.lt_of_lt_of_le (Heap.lt_size q) hp))]; exact n
 there:=fun b u q _=>⟨u,k b u q⟩
 tups:=fun b xs q=>by rw [upd_ne (ne_of_none q hn)]; exact q
 frzs:=fun b u xs q=>by rw [upd_ne (ne_of_none q hn)]; exact q
 tbls:=fun b ps q=>⟨#[],by rw [upd_ne (ne_of_none q hn),q]; simp⟩
theorem Un.write (mu:Mut (H x)) (he:e=x ∨ H e=some (.own x)) (k:∀ b u,b≠e→h.get? b=some u→h'.get? b=some u) (heo:∃ u,h'.get? e=some u):Un fs ex H (upd H x o) h h':=by
 have hx:∀ b,H b=none→b≠x:=fun b n z=>by subst z; rw [n] at mu; exact mu
 have hb:∀ b,H b=none→b≠e:=fun b n z=>by
   subst z
   rcases he with r | r
   . exact hx b n r
   . rw [n] at r; cases r
 have hm:∀ b u,H b=some u→¬ Mut (some u)→b≠x:=fun b u q nm z=>by subst z; rw [q] at mu; exact nm mu
 refine ⟨fun b u q n _ _=>k b u (hb b n) q,fun b u q n _ _=>⟨u.slots,k b u (hb b n) q⟩,fun b u q n _=>by rw [upd_ne (hx b n)]; exact n,fun b u q _=>?_,
   fun b xs q=>by rw [upd_ne (hm b _ q fun z=>z)]; exact q,fun b u xs q=>by rw [upd_ne (hm b _ q fun z=>z)]; exact q,fun b ps q=>⟨#[],by rw [upd_ne (hm b _ q fun z=>z),q]; simp⟩⟩
 by_cases hbe:b=e
 . subst hbe; exact heo
 . exact ⟨u,k b u hbe q⟩
end
noncomputable def trk (h:Heap) (H:Hp):List Addr:=(List.range h.objs.size).filter fun a=>(H a).isSome
noncomputable def hidT (h:Heap) (H:Hp):Heap:=PySem.W.hideAll h (trk h H)
theorem hidT_size (h:Heap) (H:Hp):(hidT h H).objs.size=h.objs.size:=PySem.W.hideAll_size _ _
theorem hidT_get {h:Heap} {H:Hp} {b:Addr} {o:Obj} (e:h.get? b=some o) (n:H b=none):(hidT h H).get? b=some o:=
 PySem.W.hideAll_get _ e fun hm=>by
   have q:(H b).isSome=true:=(List.mem_filter.mp hm).2
   rw [n] at q; simp at q
theorem of_hidT {h:Heap} {H:Hp} {b:Addr} {o:Obj} (e:(hidT h H).get? b=some o):h.get? b=some o∧H b=none:=by
 have e':h.get? b=some o:=PySem.W.of_hideAll (trk h H) e
 refine ⟨e',?_⟩
 cases q:H b with
 | none=>rfl
 | some x =>
   have hm:b∈trk h H:=List.mem_filter.mpr ⟨List.mem_range.mpr (Heap.lt_size e'),by simp [q]⟩
   have z:(hidT h H).get? b=none:=PySem.W.hideAll_none (trk h H) hm
   rw [z] at e; cases e
end L2
namespace L2
open PySem PySem.Spec PyProof.Rows
structure Mod (K:PySem.W.Frag) (mg:Str→Option Value) (base:Heap):Prop where
 kin:K.In base
 glob:base.Ns mainGlobals mg
 blt:∃ mb,base.Ns builtinsNs mb∧∀ x:Str,x≠"__name__"→mb x=bootBuiltins x
 nolimit:base.NoLimit
structure Cx where
 prog:Program
 w:World
 K:PySem.W.Frag
 mg:Str→Option Value
 base:Heap
 A:Around
 N:List Str
 s₀:Shared
 H₀:Hp
 env:Env
 outer:List Env
 stack:List Env
 ex:List Addr
 fn:Str→Bool
 calm:Bool
 pn:List (Addr × Obj)
 xe:Value→Shared→Prop
noncomputable def frs (l:List Env):List Addr:=l.filterMap (·.frame)
noncomputable abbrev Cx.fs (X:Cx):List Addr:=frs X.outer
noncomputable def Vis (sc:Scope) (x:Str):Prop:=sc.names.lookup x=some .local ∨ sc.names.lookup x=some .cell ∨ sc.names.lookup x=some .free
noncomputable def Loc (sc:Scope) (x:Str):Prop:=sc.names.lookup x=some .local ∨ sc.names.lookup x=some .cell
noncomputable def Look (env:Env) (h:Heap) (m:Str→Option Value) (x:Str) (u:Value):Prop:=
 (env.kindOf x=some .local∧m x=some u) ∨ ((env.kindOf x=some .cell ∨ env.kindOf x=some .free)∧∃ c,env.cells.lookup x=some c∧h.IsCell c (some u))
structure Cx.Ok (X:Cx):Prop where
 mod:Mod X.K X.mg X.base
 kind:X.env.scope.kind=.function
 glob:X.env.globals=mainGlobals
 blt:X.env.builtins=builtinsNs
 above:X.s₀.heap.objs.size≤X.env.locals
 inj:∀ x y c,X.env.cells.lookup x=some c→X.env.cells.lookup y=some c→x=y
 has:∀ x,(X.env.kindOf x=some .cell ∨ X.env.kindOf x=some .free)→∃ c,X.env.cells.lookup x=some c
 cab:∀ x c,X.fn x=true→X.env.cells.lookup x=some c→X.s₀.heap.objs.size≤c
 hd:X.calm=true→X.A.handled=none
 frames:X.A.frames=some X.stack
 stk:X.stack=X.outer ∨ (X.stack=X.env :: X.outer∧X.env.frame=some X.env.locals)
 exf:∀ b∈X.ex,b≠X.env.locals∧∀ x c,X.env.cells.lookup x=some c→c≠b
 bs:∀ b o,X.base.get? b=some o→X.s₀.heap.get? b=some o∧X.H₀ b=none
 bsz:X.base.objs.size≤X.s₀.heap.objs.size
 noex:∀ b o,X.base.get? b=some o→b ∉ X.ex
 exfs:∀ b∈X.ex,b ∉ X.fs
 funs:X.s₀.heap.FunFrames X.base X.outer
 frf:∀ b∈X.fs,X.H₀ b=none
structure Inv (X:Cx) (pins:List (Addr × Obj)) (σ:List (Option V)) (H:Hp) (s:Shared):Prop where
 ok:X.Ok
 os:s.os=X.s₀.os
 bare:AllBare s.gens
 base:Un X.fs X.ex X.H₀ H X.s₀.heap s.heap
 loc:∃ m,s.heap.Ns X.env.locals m∧∀ (i:Nat) (x:Str) (v:V),X.N[i]?=some x→σ[i]?=some (some v)→Vis X.env.scope x→∃ u,RelV v u∧Look X.env s.heap m x u
 cell:∀ x c,X.env.cells.lookup x=some c→∃ v,s.heap.IsCell c v
 free:H X.env.locals=none
 freeC:∀ x c,X.env.cells.lookup x=some c→H c=none
 pin:∀ p∈X.pn++pins,s.heap.get? p.1=some p.2∧H p.1=none∧p.1≠X.env.locals∧p.1 ∉ X.fs∧∀ v,p.2.data≠.cell v
 hok:HOk X.prog X.w H s.heap
 len:σ.length=X.N.length
section
variable {X:Cx} {pins:List (Addr × Obj)} {σ:List (Option V)} {H H':Hp} {s:Shared} {h':Heap}
theorem Cx.Ok.nofr (ok:X.Ok) {b:Addr} {o:Obj} (e:X.base.get? b=some o):b ∉ X.fs:=fun hb=>by
 have:=(ok.funs.mem hb).1
 rw [e] at this; cases this
theorem Inv.bs (I:Inv X pins σ H s):∀ b o,X.base.get? b=some o→s.heap.get? b=some o∧H b=none:=fun b o e =>
 ⟨I.base.keep b o (I.ok.bs b o e).1 (I.ok.bs b o e).2 (I.ok.nofr e) (I.ok.noex b o e),I.base.free b o (I.ok.bs b o e).1 (I.ok.bs b o e).2 (I.ok.noex b o e)⟩
theorem Inv.bk (I:Inv X pins σ H s):∀ b o,X.base.get? b=some o→s.heap.get? b=some o:=fun b o e=>(I.bs b o e).1
theorem Inv.mod (I:Inv X pins σ H s):Mod X.K X.mg X.base:=I.ok.mod
theorem Inv.kIn (I:Inv X pins σ H s):X.K.In s.heap:=I.ok.mod.kin.keeps I.bk
theorem Inv.lt (I:Inv X pins σ H s):X.env.locals < s.heap.objs.size:=let ⟨_,hn,_⟩:=I.loc; hn.lt
theorem Inv.sz (I:Inv X pins σ H s):X.s₀.heap.objs.size≤s.heap.objs.size:=Nat.le_trans I.ok.above (Nat.le_of_lt I.lt)
theorem Inv.nofs (I:Inv X pins σ H s) {a:Addr} (h:s.heap.objs.size≤a):a ∉ X.fs:=fun hb=>by
 obtain ⟨_,o,ho,_⟩:=I.ok.funs.mem hb
 exact absurd (Nat.lt_of_lt_of_le (Heap.lt_size ho) (Nat.le_trans I.sz h)) (Nat.lt_irrefl _)
theorem Inv.cne (I:Inv X pins σ H s):∀ x c,X.env.cells.lookup x=some c→c≠X.env.locals:=fun x c e z=>by
 obtain ⟨v,o,ho,hd⟩:=I.cell x c e
 obtain ⟨m,⟨o',es,ep,ho',hd',_⟩,_⟩:=I.loc
 rw [z,ho'] at ho; cases ho; rw [hd'] at hd; cases hd
theorem Inv.funs (I:Inv X pins σ H s):s.heap.FunFrames X.base X.outer:=by
 have all:∀ (l:List Env),(∀ b∈frs l,b∈X.fs)→X.s₀.heap.FunFrames X.base l→s.heap.FunFrames X.base l:=by
   intro l
   induction l with
   | nil=>intro _ _; trivial
   | cons env r ih =>
     intro hs hl
     obtain ⟨hk,⟨L,o,hf,hn,ho,hd⟩,hr⟩:=hl
     have hL:L∈X.fs:=hs L (by unfold frs; rw [List.filterMap_cons,hf]; exact List.mem_cons_self)
     obtain ⟨sl,e⟩:=I.base.slot L o ho (I.ok.frf L hL) hL fun z=>I.ok.exfs L z hL
     exact ⟨hk,⟨L,_,hf,hn,e,hd⟩,ih (fun b hb=>hs b (by unfold frs; rw [List.filterMap_cons,hf]; exact List.mem_cons_of_mem _ hb)) hr⟩
 exact all X.outer (fun _ hb=>hb) I.ok.funs
theorem Inv.stack (I:Inv X pins σ H s):s.heap.FunFrames X.base X.stack:=by
 rcases I.ok.stk with e | ⟨e,hf⟩
 . rw [e]; exact I.funs
 . rw [e]
   obtain ⟨m,hn,_⟩:=I.loc
   refine .cons (by rw [I.ok.kind]; decide) hf hn ?_ I.funs
   exact Heap.get?_none_of_le (Nat.le_trans I.ok.bsz I.ok.above)
theorem Inv.stkSub (I:Inv X pins σ H s):∀ b∈frs X.stack,b∈X.env.locals :: X.fs:=fun b hb=>by
 rcases I.ok.stk with e | ⟨e,hf⟩
 . rw [e] at hb; exact List.mem_cons_of_mem _ hb
 . rw [e] at hb
   unfold frs at hb
   rw [List.filterMap_cons,hf] at hb
   exact hb
theorem Inv.stkFree (I:Inv X pins σ H s):∀ b∈frs X.stack,H b=none:=fun b hb=>by
 rcases List.mem_cons.mp (I.stkSub b hb) with e | hb
 . rw [e]; exact I.free
 . obtain ⟨_,o,ho,_⟩:=I.ok.funs.mem hb
   exact I.base.free b o ho (I.ok.frf b hb) fun z=>I.ok.exfs b z hb
theorem Inv.step {g':Array GenState} {t':Nat} {d':Drawn} {ch:List Addr} (I:Inv X pins σ H s)
   (hch:∀ b∈ch,(b∈X.ex ∨ X.s₀.heap.objs.size≤b)∧b≠X.env.locals∧(∀ x c,X.env.cells.lookup x=some c→c≠b)∧∀ p∈X.pn++pins,p.1≠b)
   (keep:∀ b o,b≠X.env.locals→b ∉ X.fs→b ∉ ch→s.heap.get? b=some o→H b=none→h'.get? b=some o)
   (slot:∀ b o,b≠X.env.locals→b∈X.fs→b ∉ ch→s.heap.get? b=some o→H b=none→∃ sl,h'.get? b=some { o with slots:=sl }) (free:∀ b o,b ∉ ch→s.heap.get? b=some o→H b=none→H' b=none)
   (there:∀ b o,b ∉ ch→s.heap.get? b=some o→∃ o',h'.get? b=some o')
   (tups:∀ b xs,H b=some (.tup xs)→H' b=some (.tup xs)) (frzs:∀ b o u,H b=some (.frz o u)→H' b=some (.frz o u)) (tbls:∀ b ps,H b=some (.tbl ps)→∃ more,H' b=some (.tbl (ps++more)))
   (ns:∀ m,s.heap.Ns X.env.locals m→h'.Ns X.env.locals m) (hok:HOk X.prog X.w H' h') (hg:AllBare g') :
   Inv X pins σ H' { s with heap:=h',gens:=g',drawn:=d',toks:=t' }:=by
 have neL:∀ b o,X.s₀.heap.get? b=some o→b≠X.env.locals:=fun b o e=>Nat.ne_of_lt (Nat.lt_of_lt_of_le (Heap.lt_size e) I.ok.above)
 have neC:∀ b o,X.s₀.heap.get? b=some o→b ∉ X.ex→b ∉ ch:=fun b o e hx hb=>by
   rcases (hch b hb).1 with z | z
   . exact hx z
   . exact absurd (Nat.lt_of_lt_of_le (Heap.lt_size e) z) (Nat.lt_irrefl _)
 have cellK:∀ x c,X.env.cells.lookup x=some c→∀ v,s.heap.IsCell c v→h'.IsCell c v:=fun x c e v ⟨o,ho,hd⟩=>by
   have nch:c ∉ ch:=fun z=>(hch c z).2.2.1 x c e rfl
   by_cases hc:c∈X.fs
   . obtain ⟨sl,q⟩:=slot c o (I.cne x c e) hc nch ho (I.freeC x c e)
     exact ⟨_,q,hd⟩
   . exact ⟨o,keep c o (I.cne x c e) hc nch ho (I.freeC x c e),hd⟩
 refine ⟨I.ok,I.os,hg,⟨fun b o e n hb hx=>?_,fun b o e n hb hx=>?_,fun b o e n hx=>?_,fun b o e hx=>?_,fun b xs e=>tups b xs (I.base.tups b xs e),fun b o xs e=>frzs b o xs (I.base.frzs b o xs e),fun b ps e=>?_⟩,?_,fun x c e=>?_,?_,fun x c e=>?_,fun p hp=>?_,hok,I.len⟩
 . exact keep b o (neL b o e) hb (neC b o e hx) (I.base.keep b o e n hb hx) (I.base.free b o e n hx)
 . obtain ⟨sl,e1⟩:=I.base.slot b o e n hb hx
   obtain ⟨sl',e2⟩:=slot b _ (neL b o e) hb (neC b o e hx) e1 (I.base.free b o e n hx)
   exact ⟨sl',e2⟩
 . obtain ⟨o',e1⟩:=I.base.there b o e hx
   exact free b o' (neC b o e hx) e1 (I.base.free b o e n hx)
 . obtain ⟨o',e1⟩:=I.base.there b o e hx
   exact there b o' (neC b o e hx) e1
 . obtain ⟨m1,e1⟩:=I.base.tbls b ps e
   obtain ⟨m2,e2⟩:=tbls b _ e1
   exact ⟨m1++m2,by rw [e2,Array.append_assoc]⟩
 . obtain ⟨m,hn,hl⟩:=I.loc
   refine ⟨m,ns m hn,fun i x v e1 e2 e3=>?_⟩
   obtain ⟨u,r,l⟩:=hl i x v e1 e2 e3
   refine ⟨u,r,?_⟩
   rcases l with l | ⟨k,c,e,z⟩
   . exact .inl l
   . exact .inr ⟨k,c,e,cellK x c e _ z⟩
 . obtain ⟨v,z⟩:=I.cell x c e
   exact ⟨v,cellK x c e v z⟩
 . obtain ⟨m,⟨o,_,_,ho,_⟩,_⟩:=I.loc
   exact free _ o (fun z=>(hch _ z).2.1 rfl) ho I.free
 . obtain ⟨v,o,ho,hd⟩:=I.cell x c e
   exact free c o (fun z=>(hch c z).2.2.1 x c e rfl) ho (I.freeC x c e)
 . obtain ⟨e,n,ne,nf,d⟩:=I.pin p hp
   have nch:p.1 ∉ ch:=fun z=>(hch p.1 z).2.2.2 p hp rfl
   exact ⟨keep p.1 p.2 ne nf nch e n,free p.1 p.2 nch e n,ne,nf,d⟩
theorem Inv.un {t':Nat} (I:Inv X pins σ H s) (u:Un X.fs [] H H' s.heap h') (hok:HOk X.prog X.w H' h'):Inv X pins σ H' { s with heap:=h',toks:=t' }:=by
 obtain ⟨m,⟨o,es,ep,ho,r⟩,_⟩:=id I.loc
 obtain ⟨sl,hL⟩:=u.any ho I.free (by simp)
 exact I.step (g':=s.gens) (d':=s.drawn) (ch:=[]) (fun _ z=>nomatch z) (fun b o _ hb _ e n=>u.keep b o e n hb (by simp)) (fun b o _ hb _ e n=>u.slot b o e n hb (by simp)) (fun b o _ e n=>u.free b o e n (by simp)) (fun b o _ e=>u.there b o e (by simp)) u.tups u.frzs u.tbls (fun m' hm=>by
   obtain ⟨o',es',ep',ho',r'⟩:=hm
   rw [ho] at ho'; cases ho'
   exact ⟨_,es',ep',hL,r'⟩) hok I.bare
theorem Inv.call {g':Array GenState} {t':Nat} {d':Drawn} {ch:List Addr} (I:Inv X pins σ H s) (u:Un (frs X.stack) ch H H' s.heap h') (hok:HOk X.prog X.w H' h') (hg:AllBare g')
   (hch:∀ b∈ch,(b∈X.ex ∨ X.s₀.heap.objs.size≤b)∧b≠X.env.locals∧(∀ x c,X.env.cells.lookup x=some c→c≠b)∧∀ p∈X.pn++pins,p.1≠b) :
   Inv X pins σ H' { s with heap:=h',gens:=g',drawn:=d',toks:=t' }:=by
 obtain ⟨m,⟨o,es,ep,ho,r⟩,_⟩:=id I.loc
 obtain ⟨sl,hL⟩:=u.any ho I.free fun z=>(hch _ z).2.1 rfl
 exact I.step (ch:=ch) hch (fun b o hL hb hc e n=>u.keep b o e n (fun z=>(List.mem_cons.mp (I.stkSub b z)).elim hL hb) hc) (fun b o _ _ hc e n=>u.any e n hc) (fun b o hc e n=>u.free b o e n hc) (fun b o hc e=>u.there b o e hc) u.tups u.frzs u.tbls (fun m' hm=>by
   obtain ⟨o',es',ep',ho',r'⟩:=hm
   rw [ho] at ho'; cases ho'
   exact ⟨_,es',ep',hL,r'⟩) hok hg
theorem Inv.turned {t':Nat} {it:Addr} (I:Inv X pins σ H s) (k:∀ b o,b≠it→s.heap.get? b=some o→h'.get? b=some o) (hn:H it=none) (hL:it≠X.env.locals)
   (h1:it∈X.ex ∨ X.s₀.heap.objs.size≤it) (h2:∀ x c,X.env.cells.lookup x=some c→c≠it) (h3:∀ p∈X.pn++pins,p.1≠it):Inv X pins σ H { s with heap:=h',toks:=t' }:=by
 have nit:∀ b u,H b=some u→b≠it:=fun b u e z=>by rw [z,hn] at e; cases e
 refine I.step (g':=s.gens) (d':=s.drawn) (ch:=[it]) (fun b hb=>?_) (fun b o _ _ hc e _=>k b o (fun z=>hc (by simp [z])) e) (fun b o _ _ hc e _=>⟨o.slots,k b o (fun z=>hc (by simp [z])) e⟩) (fun _ _ _ _ n=>n)
   (fun b o hc e=>⟨o,k b o (fun z=>hc (by simp [z])) e⟩) (fun _ _ e=>e) (fun _ _ _ e=>e) (fun b ps e=>⟨#[],by rw [e]; simp⟩) (fun m hm=>?_) (fun b u e=>?_) I.bare
 . have e:b=it:=by simpa using hb
   subst e
   exact ⟨h1,hL,h2,h3⟩
 . obtain ⟨o,es,ep,ho,r⟩:=hm
   exact ⟨o,es,ep,k _ o (Ne.symm hL) ho,r⟩
 . refine (I.hok b u e).stay (fun c v hc q=>k c v ?_ q) (fun _ q=>q) fun _ _ q=>q
   rcases hc with z | z
   . rw [z]; exact nit b u e
   . exact nit c _ z
theorem Inv.tok (I:Inv X pins σ H s) (t:Nat):Inv X pins σ H { s with toks:=t }:=I.un (h':=s.heap) (t':=t) Un.refl I.hok
theorem Inv.kept {t':Nat} (I:Inv X pins σ H s) (k:∀ b u,s.heap.get? b=some u→h'.get? b=some u):Inv X pins σ H { s with heap:=h',toks:=t' }:=I.un (Un.kept k) (I.hok.kept k)
theorem Inv.laid {a:Addr} {o:HO} {t':Nat} (I:Inv X pins σ H s) (k:∀ b u,s.heap.get? b=some u→h'.get? b=some u) (hp:s.heap.objs.size≤a) (new:ObjOk X.prog X.w (upd H a o) h' a o) :
   Inv X pins σ (upd H a o) { s with heap:=h',toks:=t' }:=I.un (Un.laid k hp (I.hok.fresh hp)) (I.hok.laid k hp new)
theorem Inv.write {x e:Addr} {o:HO} {t':Nat} (I:Inv X pins σ H s) (mu:Mut (H x)) (he:e=x ∨ H e=some (.own x)) (k:∀ b u,b≠e→s.heap.get? b=some u→h'.get? b=some u) (heo:∃ u,h'.get? e=some u)
   (new:ObjOk X.prog X.w (upd H x o) h' x o):Inv X pins σ (upd H x o) { s with heap:=h',toks:=t' }:=I.un (Un.write mu he k heo) (I.hok.write mu he k heo new)
theorem Inv.pins_of {pins':List (Addr × Obj)} (I:Inv X pins σ H s) (h:∀ p∈pins',s.heap.get? p.1=some p.2∧H p.1=none∧p.1≠X.env.locals∧p.1 ∉ X.fs∧∀ v,p.2.data≠.cell v):Inv X pins' σ H s:=
 ⟨I.ok,I.os,I.bare,I.base,I.loc,I.cell,I.free,I.freeC,fun p hp=>(List.mem_append.mp hp).elim (fun z=>I.pin p (List.mem_append_left _ z)) (h p),I.hok,I.len⟩
theorem nodup_ix {N:List Str} (hN:N.Nodup) {i j:Nat} {x:Str} (a:N[i]?=some x) (b:N[j]?=some x):i=j:=by
 obtain ⟨h1,e1⟩:=List.getElem?_eq_some_iff.mp a
 obtain ⟨h2,e2⟩:=List.getElem?_eq_some_iff.mp b
 exact (List.getElem_inj hN).mp (e1.trans e2.symm)
theorem store_ok2 {M:Model} {A:Around} {E:Value→Shared→Prop} {i:Nat} {x:Str} {v:V} {u:Value} {Q:Unit→Shared→Prop} (I:Inv X pins σ H s) (hN:X.N.Nodup) (hi:X.N[i]?=some x) (hx:Loc X.env.scope x) (r:RelV v u)
   (h:∀ s',Inv X pins (σ.set i (some v)) H s'→(∃ a,Heap.SameBut a s.heap s'.heap∧(a=X.env.locals ∨ X.env.cells.lookup x=some a))→Q () s') (hf:X.fn x=true ∨ X.env.scope.names.lookup x=some .local:=by first | exact .inl rfl | exact .inr rfl | assumption):wpAny M A (storeName X.env x u) Q E s:=by
 obtain ⟨m,hn,hl⟩:=id I.loc
 have hcls:(X.env.scope.kind == .class || (X.env.scope.kind == .module && X.env.locals != X.env.globals))=false:=by rw [I.ok.kind]; rfl
 have hiσ:i < σ.length:=by rw [I.len]; exact (List.getElem?_eq_some_iff.mp hi).1
 have cne:=I.cne
 have tracked:∀ {a:Addr} {h':Heap},(∃ o,s.heap.get? a=some o∧H a=none)→Heap.SameBut a s.heap h'→HOk X.prog X.w H h':=fun {a h'} ha hs b ob e=>by
   obtain ⟨_,_,hfree⟩:=ha
   refine (I.hok b ob e).stay (fun c w' hc q=>(hs.2 c ?_).trans q) (fun _ q=>q) fun _ _ q=>q
   rintro rfl
   rcases hc with rfl | hc
   . rw [hfree] at e; cases e
   . rw [hfree] at hc; cases hc
 rcases hx with hk | hk
 . refine wpAny_storeName_local hk hn (fun h' hn' hs=>?_) hcls
   obtain ⟨oL,_,_,hoL,_⟩:=id hn
   refine h _ ⟨I.ok,I.os,I.bare,⟨fun b o e n hb hx=>?_,fun b o e n hb hx=>?_,I.base.free,fun b o e hx=>?_,I.base.tups,I.base.frzs,I.base.tbls⟩,⟨_,hn',fun j y v' e1 e2 e3=>?_⟩,fun y c e=>?_,I.free,I.freeC,fun p hp=>?_,tracked ⟨oL,hoL,I.free⟩ hs,by simpa using I.len⟩ ⟨_,hs,.inl rfl⟩
   . exact (hs.2 b (Nat.ne_of_lt (Nat.lt_of_lt_of_le (Heap.lt_size e) I.ok.above))).trans (I.base.keep b o e n hb hx)
   . obtain ⟨sl,e1⟩:=I.base.slot b o e n hb hx
     exact ⟨sl,(hs.2 b (Nat.ne_of_lt (Nat.lt_of_lt_of_le (Heap.lt_size e) I.ok.above))).trans e1⟩
   . obtain ⟨o',e1⟩:=I.base.there b o e hx
     exact ⟨o',(hs.2 b (Nat.ne_of_lt (Nat.lt_of_lt_of_le (Heap.lt_size e) I.ok.above))).trans e1⟩
   . by_cases hj:j=i
     . subst hj
       rw [hi] at e1; cases e1
       rw [List.getElem?_set_self hiσ] at e2
       cases e2
       exact ⟨u,r,.inl ⟨hk,by simp⟩⟩
     . rw [List.getElem?_set_ne (Ne.symm hj)] at e2
       obtain ⟨u',r',q⟩:=hl j y v' e1 e2 e3
       refine ⟨u',r',?_⟩
       rcases q with ⟨k,e⟩ | ⟨k,c,e,z⟩
       . refine .inl ⟨k,?_⟩
         have:y≠x:=fun e=>hj (nodup_ix hN e1 (e ▸ hi))
         simp [this,e]
       . exact .inr ⟨k,c,e,z.sameBut hs (cne y c e)⟩
   . obtain ⟨w',z⟩:=I.cell y c e
     exact ⟨w',z.sameBut hs (cne y c e)⟩
   . obtain ⟨e,n,ne,nf,d⟩:=I.pin p hp
     exact ⟨(hs.2 p.1 ne).trans e,n,ne,nf,d⟩
 . have hfn:X.fn x=true:=by
     rcases hf with z | z
     . exact z
     . rw [z] at hk; cases hk
   obtain ⟨c,hc⟩:=I.ok.has x (.inl hk)
   obtain ⟨w',z⟩:=I.cell x c hc
   refine wpAny_storeName_cell I.ok.kind hk hc z (fun h' hc' hs=>?_)
   obtain ⟨oc,hoc,hocd⟩:=id z
   refine h { s with heap:=h' } ⟨I.ok,I.os,I.bare,⟨fun b o e n hb hx=>?_,fun b o e n hb hx=>?_,I.base.free,fun b o e hx=>?_,I.base.tups,I.base.frzs,I.base.tbls⟩,⟨m,hn.sameBut hs (Ne.symm (cne x c hc)),fun j y v' e1 e2 e3=>?_⟩,fun y c' e=>?_,I.free,I.freeC,fun p hp=>?_,tracked ⟨oc,hoc,I.freeC x c hc⟩ hs,by simpa using I.len⟩ ⟨c,hs,.inr hc⟩
   . exact (hs.2 b (Nat.ne_of_lt (Nat.lt_of_lt_of_le (Heap.lt_size e) (I.ok.cab x c hfn hc)))).trans (I.base.keep b o e n hb hx)
   . obtain ⟨sl,e1⟩:=I.base.slot b o e n hb hx
     exact ⟨sl,(hs.2 b (Nat.ne_of_lt (Nat.lt_of_lt_of_le (Heap.lt_size e) (I.ok.cab x c hfn hc)))).trans e1⟩
   . obtain ⟨o',e1⟩:=I.base.there b o e hx
     exact ⟨o',(hs.2 b (Nat.ne_of_lt (Nat.lt_of_lt_of_le (Heap.lt_size e) (I.ok.cab x c hfn hc)))).trans e1⟩
   . by_cases hj:j=i
     . subst hj
       rw [hi] at e1; cases e1
       rw [List.getElem?_set_self hiσ] at e2
       cases e2
       exact ⟨u,r,.inr ⟨.inl hk,c,hc,hc'⟩⟩
     . rw [List.getElem?_set_ne (Ne.symm hj)] at e2
       obtain ⟨u',r',q⟩:=hl j y v' e1 e2 e3
       refine ⟨u',r',?_⟩
       rcases q with q | ⟨k,c',e,z'⟩
       . exact .inl q
       . refine .inr ⟨k,c',e,z'.sameBut hs ?_⟩
         rintro rfl
         exact hj (nodup_ix hN e1 (I.ok.inj _ _ _ e hc ▸ hi))
   . by_cases hcc:c'=c
     . subst hcc; exact ⟨_,hc'⟩
     . obtain ⟨w2,z2⟩:=I.cell y c' e
       exact ⟨w2,z2.sameBut hs hcc⟩
   . obtain ⟨e,n,ne,nf,d⟩:=I.pin p hp
     refine ⟨(hs.2 p.1 ?_).trans e,n,ne,nf,d⟩
     intro q
     rw [q,hoc] at e
     have q':oc=p.2:=Option.some.inj e
     exact d w' (by rw [←q']; exact hocd)
theorem store_ok {M:Model} {A:Around} {E:Value→Shared→Prop} {i:Nat} {x:Str} {v:V} {u:Value} {Q:Unit→Shared→Prop} (I:Inv X pins σ H s) (hN:X.N.Nodup) (hi:X.N[i]?=some x) (hx:Loc X.env.scope x) (r:RelV v u)
   (h:∀ s',Inv X pins (σ.set i (some v)) H s'→Q () s') (hf:X.fn x=true ∨ X.env.scope.names.lookup x=some .local:=by first | exact .inl rfl | exact .inr rfl | assumption):wpAny M A (storeName X.env x u) Q E s:=
 store_ok2 I hN hi hx r (fun s' I' _=>h s' I') hf
theorem Inv.call' {s':Shared} {ch:List Addr} (I:Inv X pins σ H s) (ho:s'.os=s.os) (u:Un (frs X.stack) ch H H' s.heap s'.heap) (hok:HOk X.prog X.w H' s'.heap) (hg:AllBare s'.gens)
   (hch:∀ b∈ch,(b∈X.ex ∨ X.s₀.heap.objs.size≤b)∧b≠X.env.locals∧(∀ x c,X.env.cells.lookup x=some c→c≠b)∧∀ p∈X.pn++pins,p.1≠b):Inv X pins σ H' s':=by
 obtain ⟨h',g',d',t',o'⟩:=s'
 have e:o'=s.os:=ho
 subst e
 exact I.call (g':=g') (t':=t') (d':=d') u hok hg hch
end
noncomputable abbrev XK:=Value→Option Addr→Hp→Prop
noncomputable abbrev St:=List (Option V)
noncomputable abbrev VK:=V→Hp→Prop
noncomputable abbrev TE:=St→Hp→VK→Prop
noncomputable abbrev TT:=St→Hp→(Bool→Hp→Prop)→Prop
noncomputable abbrev TA:=St→Hp→(List V→Hp→Prop)→Prop
structure Ends where
 nx:St→Hp→Prop
 rt:VK
 bk:St→Hp→Prop:=fun _ _=>False
 ct:St→Hp→Prop:=fun _ _=>False
noncomputable abbrev TS:=Ends→St→Hp→Prop
noncomputable def EP (X:Cx) (pins:List (Addr × Obj)) (σ:St) (Q:VK) (u:Value) (s':Shared):Prop:=∃ v H',Inv X pins σ H' s'∧RelV v u∧Q v H'
noncomputable def TP (X:Cx) (pins:List (Addr × Obj)) (σ:St) (Q:Bool→Hp→Prop) (b:Bool) (s':Shared):Prop:=∃ H',Inv X pins σ H' s'∧Q b H'
noncomputable def AP (X:Cx) (pins:List (Addr × Obj)) (σ:St) (Q:List V→Hp→Prop) (us:List Value) (s':Shared):Prop:=∃ vs H',Inv X pins σ H' s'∧Vals vs us∧Q vs H'
noncomputable def SP (X:Cx) (pins:List (Addr × Obj)) (D:Ends) (f:Flow) (s':Shared):Prop:=
 match f with
 | .next=>∃ σ' H',Inv X pins σ' H' s'∧D.nx σ' H'
 | .brk=>∃ σ' H',Inv X pins σ' H' s'∧D.bk σ' H'
 | .cont=>∃ σ' H',Inv X pins σ' H' s'∧D.ct σ' H'
 | .ret u=>∃ v σ' H',Inv X pins σ' H' s'∧RelV v u∧D.rt v H'
noncomputable def PE (X:Cx) (e:Expr) (t:TE):Prop:=
 ∀ (pins:List (Addr × Obj)) (s:Shared) (σ:St) (H:Hp) (Q:VK),Inv X pins σ H s→t σ H Q→wpAny (model X.prog X.w) X.A (eval e X.env) (EP X pins σ Q) X.xe s
noncomputable def PT (X:Cx) (e:Expr) (t:TT):Prop:=
 ∀ (pins:List (Addr × Obj)) (s:Shared) (σ:St) (H:Hp) (Q:Bool→Hp→Prop),Inv X pins σ H s→t σ H Q→wpAny (model X.prog X.w) X.A (isTrue e X.env (eval e X.env)) (TP X pins σ Q) X.xe s
noncomputable def PW (X:Cx) (e:Expr) (t:TT):Prop:=
 ∀ (whole:Sem Value) (pins:List (Addr × Obj)) (s:Shared) (σ:St) (H:Hp) (Q:Bool→Hp→Prop),Inv X pins σ H s→t σ H Q→wpAny (model X.prog X.w) X.A (isTrue e X.env whole) (TP X pins σ Q) X.xe s
theorem PW.pt {X:Cx} {e:Expr} {t:TT} (h:PW X e t):PT X e t:=h _
noncomputable def PA (X:Cx) (es:List Expr) (t:TA):Prop:=
 ∀ (pos:Pos) (pins:List (Addr × Obj)) (s:Shared) (σ:St) (H:Hp) (Q:List V→Hp→Prop),Inv X pins σ H s→t σ H Q→wpAny (model X.prog X.w) X.A (spliced (backTo pos (starEach es X.env))) (AP X pins σ Q) X.xe s
noncomputable def PS (X:Cx) (st:Stmt) (t:TS):Prop:=
 ∀ (pins:List (Addr × Obj)) (s:Shared) (σ:St) (H:Hp) (D:Ends),Inv X pins σ H s→t D σ H→wpAny (model X.prog X.w) X.A (exec st X.env) (SP X pins D) X.xe s
noncomputable def PSs (X:Cx) (st:List Stmt) (t:TS):Prop:=
 ∀ (pins:List (Addr × Obj)) (s:Shared) (σ:St) (H:Hp) (D:Ends),Inv X pins σ H s→t D σ H→wpAny (model X.prog X.w) X.A (execs st X.env) (SP X pins D) X.xe s
theorem thn {α:Type} {t:Sem α} {Q Q':α→Shared→Prop} {M:Model} {A:Around} {E:Value→Shared→Prop} {s:Shared} (h:wpAny M A t Q E s) (hQ:∀ a s,Q a s→Q' a s):wpAny M A t Q' E s:=wpAny_mono h hQ fun _ _ x=>x
end L2
namespace L2
open PySem PySem.Spec PyProof.Rows
section
variable {X:Cx}
theorem bin {a b:Expr} {ta tb:TE} (ha:PE X a ta) (hb:PE X b tb) {pins:List (Addr × Obj)} {s:Shared} {σ:St} {H:Hp} {R:V→V→Hp→Prop} (I:Inv X pins σ H s) (h:ta σ H fun x H1=>tb σ H1 fun y H2=>R x y H2)
   {α:Type} {Q:α→Shared→Prop} {f:Value→Value→Sem α}
   (hf:∀ v u s2 x y H2,Inv X pins σ H2 s2→RelV x v→RelV y u→R x y H2→wpAny (model X.prog X.w) X.A (f v u) Q X.xe s2) :
   wpAny (model X.prog X.w) X.A (eval a X.env) (fun v s₁=>wpAny (model X.prog X.w) X.A (eval b X.env) (fun u s₂=>wpAny (model X.prog X.w) X.A (f v u) Q X.xe s₂) X.xe s₁) X.xe s:=by
 refine thn (ha pins s σ H _ I h) fun v s1 ⟨x,H1,I1,r1,q1⟩=>?_
 refine thn (hb pins s1 σ H1 _ I1 q1) fun u s2 ⟨y,H2,I2,r2,q2⟩=>?_
 exact hf v u s2 x y H2 I2 r1 r2 q2
noncomputable def tVar (i:Nat):TE:=fun σ H Q=>∃ v,σ[i]?=some (some v)∧Q v H
noncomputable def tC (v:V):TE:=fun _ H Q=>Q v H
theorem pe_var {i:Nat} {x:Str} {pos:Pos} (hN:X.N[i]?=some x) (hv:Vis X.env.scope x) (hd:(x == ("__debug__":Str))=false:=by decide) (hcd:(x == ("__classdict__":Str))=false:=by decide):PE X (.Name x pos) (tVar i):=by
 intro pins s σ H Q I h
 obtain ⟨v,e,h⟩:=h
 obtain ⟨m,hn,hl⟩:=I.loc
 obtain ⟨u,r,l⟩:=hl i x v hN e hv
 have fin:EP X pins σ Q u s:=⟨v,H,I,r,h⟩
 rcases l with ⟨hk,hm⟩ | ⟨hk,c,hc,hcell⟩
 . exact wpAny_Name (wpAny_loadName_local I.ok.kind hk hn hm fin) hd
 . rcases hk with hk | hk
   . exact wpAny_Name (wpAny_loadName_cell I.ok.kind hk hc hcell fin) hd
   . exact wpAny_Name (wpAny_loadName_free I.ok.kind hk hc hcell fin hcd) hd
theorem pe_int {i j pos}:PE X (.Constant (.int i) j pos) (tC (.int i)):=fun _ _ _ H _ I h=>wpAny_Constant_int ⟨.int i,H,I.tok _,⟨_,rfl⟩,h⟩
theorem pe_bl {b j pos}:PE X (.Constant (.bool b) j pos) (tC (.bl b)):=fun _ _ _ H _ I h=>Constant_bool ⟨.bl b,H,I,rfl,h⟩
theorem pe_non {j pos}:PE X (.Constant .none j pos) (tC .non):=fun _ _ _ H _ I h=>Constant_none ⟨.non,H,I,rfl,h⟩
theorem pe_str {x j pos}:PE X (.Constant (.str x) j pos) (tC (.str x)):=fun _ _ _ H _ I h=>Calls.Constant_str ⟨.str x,H,I.tok _,⟨_,rfl⟩,h⟩
noncomputable def Gl (X:Cx) (x:Str):Prop:=X.env.kindOf x=some .globalImplicit
theorem ld_glob {E:Value→Shared→Prop} {pins:List (Addr × Obj)} {s:Shared} {σ:St} {H:Hp} {x:Str} {u:Value} {pos:Pos} {Q:Value→Shared→Prop} (I:Inv X pins σ H s) (hg:Gl X x) (hm:X.mg x=some u) (h:Q u s)
   (hd:(x == ("__debug__":Str))=false:=by decide):wpAny (model X.prog X.w) X.A (eval (.Name x pos) X.env) Q E s:=
 Calls.Name_function_global I.ok.kind hg (Calls.loadGlobal_global (by rw [I.ok.glob]; exact I.mod.glob.keeps I.bk) hm h) hd
theorem ld_blt {E:Value→Shared→Prop} {pins:List (Addr × Obj)} {s:Shared} {σ:St} {H:Hp} {x:Str} {u:Value} {pos:Pos} {Q:Value→Shared→Prop} (I:Inv X pins σ H s) (hg:Gl X x) (hm:X.mg x=none) (hv:bootBuiltins x=some u) (h:Q u s)
   (hn:x≠"__name__":=by decide) (hd:(x == ("__debug__":Str))=false:=by decide):wpAny (model X.prog X.w) X.A (eval (.Name x pos) X.env) Q E s:=by
 obtain ⟨mb,h1,h2⟩:=I.mod.blt
 exact Calls.Name_function_global I.ok.kind hg (Calls.loadGlobal_builtin (by rw [I.ok.glob]; exact I.mod.glob.keeps I.bk) hm (by rw [I.ok.blt]; exact h1.keeps I.bk) ((h2 x hn).trans hv) h) hd
theorem pe_glob {x:Str} {v:V} {u:Value} {pos:Pos} (hg:Gl X x) (hm:X.mg x=some u) (r:RelV v u) (hd:(x == ("__debug__":Str))=false:=by decide):PE X (.Name x pos) (tC v):=
 fun _ _ _ H _ I h=>ld_glob I hg hm ⟨v,H,I,r,h⟩ hd
theorem pe_bltn {x:Str} {v:V} {u:Value} {pos:Pos} (hg:Gl X x) (hm:X.mg x=none) (hv:bootBuiltins x=some u) (r:RelV v u) (hn:x≠"__name__":=by decide) (hd:(x == ("__debug__":Str))=false:=by decide):PE X (.Name x pos) (tC v):=
 fun _ _ _ H _ I h=>ld_blt I hg hm hv ⟨v,H,I,r,h⟩ hn hd
variable {a b:Expr} {ta tb:TE} {pos:Pos}
variable {tA tB':TT} {rest:List Expr}
noncomputable def tNot (t:TT):TT:=fun σ H Q=>t σ H fun c H1=>Q (!c) H1
theorem pt_not (ha:PT X a tA):PT X (.UnaryOp .Not a pos) (tNot tA):=by
 intro pins s σ H Q I h
 exact isTrue_not (ha pins s σ H (fun c H1=>Q (!c) H1) I h)
noncomputable def tAndV (ta tb:TE):TE:=fun σ H Q=>ta σ H fun x H1=>∃ c,x=.bl c∧if c=true then tb σ H1 Q else Q (.bl false) H1
noncomputable def tOrV (ta tb:TE):TE:=fun σ H Q=>ta σ H fun x H1=>∃ c,x=.bl c∧if c=true then Q (.bl true) H1 else tb σ H1 Q
noncomputable def tNotV (ta:TE):TE:=fun σ H Q=>ta σ H fun x H1=>∃ c,x=.bl c∧Q (.bl (!c)) H1
theorem pe_one {op} {t:TE} (h:PE X a t):PE X (.BoolOp op [a] pos) t:=fun pins s σ H Q I hw=>BoolOp_one (h pins s σ H Q I hw)
theorem pe_and (ha:PE X a ta) (hb:PE X (.BoolOp .And (b :: rest) pos) tb):PE X (.BoolOp .And (a :: b :: rest) pos) (tAndV ta tb):=by
 intro pins s σ H Q I h
 refine BoolOp_and (thn (ha pins s σ H _ I h) fun v s1 ⟨x,H1,I1,r1,q1⟩=>?_)
 obtain ⟨c,rfl,q1⟩:=q1
 cases r1
 refine wpAny_truthy_bool ?_
 cases c with
 | true=>exact hb pins s1 σ H1 Q I1 q1
 | false=>exact ⟨.bl false,H1,I1,rfl,q1⟩
theorem pe_or (ha:PE X a ta) (hb:PE X (.BoolOp .Or (b :: rest) pos) tb):PE X (.BoolOp .Or (a :: b :: rest) pos) (tOrV ta tb):=by
 intro pins s σ H Q I h
 refine BoolOp_or (thn (ha pins s σ H _ I h) fun v s1 ⟨x,H1,I1,r1,q1⟩=>?_)
 obtain ⟨c,rfl,q1⟩:=q1
 cases r1
 refine wpAny_truthy_bool ?_
 cases c with
 | false=>exact hb pins s1 σ H1 Q I1 q1
 | true=>exact ⟨.bl true,H1,I1,rfl,q1⟩
theorem pe_not (ha:PE X a ta):PE X (.UnaryOp .Not a pos) (tNotV ta):=by
 intro pins s σ H Q I h
 refine UnaryOp_ (thn (ha pins s σ H _ I h) fun v s1 ⟨x,H1,I1,r1,q1⟩=>?_)
 obtain ⟨c,rfl,q1⟩:=q1
 cases r1
 exact not_of (wpAny_truthy_bool ⟨.bl (!c),H1,I1,rfl,q1⟩)
noncomputable def tIf (t:TT) (ta tb:TE):TE:=fun σ H Q=>t σ H fun c H1=>if c=true then ta σ H1 Q else tb σ H1 Q
theorem pe_ifExp {c:Expr} (hc:PT X c tA) (ha:PE X a ta) (hb:PE X b tb):PE X (.IfExp c a b pos) (tIf tA ta tb):=by
 intro pins s σ H Q I h
 refine wpAny_IfExp (thn (hc pins s σ H _ I h) fun d s1 ⟨H1,I1,q1⟩=>?_)
 cases d with
 | true=>exact ha pins s1 σ H1 Q I1 q1
 | false=>exact hb pins s1 σ H1 Q I1 q1
end
end L2
namespace L2
open PySem PySem.Spec PyProof.Rows
noncomputable def SqL (K:PySem.W.Frag) (H:Hp) (a:Addr) (xs:List V):Prop:=
 Rd H a (.lst xs) ∨
   ∃ (o:Obj) (its:Array Value) (n:Nat),K.lookup a=some o∧o.cls=.type "list"∧o.dict=none∧o.data=.seq its n∧its.size≤sizeLine∧Vals xs its.toList
noncomputable def SqT (K:PySem.W.Frag) (H:Hp) (a:Addr) (xs:List V):Prop:=
 Rd H a (.tup xs) ∨
   ∃ (o:Obj) (its:Array Value) (n:Nat),K.lookup a=some o∧o.cls=.type "tuple"∧o.data=.seq its n∧its.size≤sizeLine∧Vals xs its.toList
noncomputable def absV:Value→Option V
 | .none=>some .non
 | .bool b=>some (.bl b)
 | .int i _=>some (.int i)
 | .str x _=>some (.str x)
 | .bytes b _=>some (.byt b)
 | .float b _=>some (.flt b)
 | .ref a=>some (.ref a)
 | .type n=>some (.ty n)
 | _=>none
theorem RelV.abs {x:V} {u:Value} (r:RelV x u):absV u=some x:=by
 cases x with
 | non=>cases r; rfl
 | bl _=>cases r; rfl
 | int _=>obtain ⟨t,rfl⟩:=r; rfl
 | str _=>obtain ⟨t,rfl⟩:=r; rfl
 | byt _=>obtain ⟨t,rfl⟩:=r; rfl
 | flt _=>obtain ⟨t,rfl⟩:=r; rfl
 | ref _=>cases r; rfl
 | ty _=>cases r; rfl
theorem RelV.inj {x y:V} {u:Value} (r:RelV x u) (q:RelV y u):x=y:=Option.some.inj (r.abs.symm.trans q.abs)
theorem Vals.inj:∀ {xs ys:List V} {us:List Value},Vals xs us→Vals ys us→xs=ys
 | _,_,_,.nil,.nil=>rfl
 | _,_,_,.cons r t,.cons r' t'=>by rw [r.inj r',Vals.inj t t']
section
variable {X:Cx} {pins:List (Addr × Obj)} {σ:St} {H:Hp} {s:Shared} {a:Addr} {xs ys:List V}
theorem SqL.of {K:PySem.W.Frag} (h:H a=some (.lst xs)):SqL K H a xs:=.inl (.inl h)
theorem SqT.of {K:PySem.W.Frag} (h:H a=some (.tup xs)):SqT K H a xs:=.inl (.inl h)
theorem Inv.list (I:Inv X pins σ H s) (h:SqL X.K H a xs):∃ its:List Value,Vals xs its∧PlainL s.heap a its.toArray∧xs.length≤sizeLine:=by
 rcases h with h | ⟨o,its,n,hk,hc,hd,hs,hz,r⟩
 . obtain ⟨z,its,n,r,e⟩:=h.ok I.hok
   exact ⟨its,r,⟨_,n,e,rfl,rfl,rfl⟩,z⟩
 . refine ⟨its.toList,r,⟨o,n,I.kIn a o hk,hc,hd,by simpa using hs⟩,?_⟩
   have e:=r.length
   simp only [Array.length_toList] at e
   omega
theorem Inv.tuple (I:Inv X pins σ H s) (h:SqT X.K H a xs):∃ its:List Value,Vals xs its∧IsTup s.heap a its.toArray∧xs.length≤sizeLine:=by
 rcases h with h | ⟨o,its,n,hk,hc,hs,hz,r⟩
 . obtain ⟨z,its,r,p⟩:=h.ok I.hok
   exact ⟨its,r,p.tup,z⟩
 . refine ⟨its.toList,r,⟨o,I.kIn a o hk,hc,n,by simpa using hs⟩,?_⟩
   have e:=r.length
   simp only [Array.length_toList] at e
   omega
theorem Inv.list_inj (I:Inv X pins σ H s) (h:SqL X.K H a xs) (h':SqL X.K H a ys):xs=ys:=by
 obtain ⟨its,r,⟨o,n,e,_,_,d⟩,_⟩:=I.list h
 obtain ⟨its',r',⟨o',n',e',_,_,d'⟩,_⟩:=I.list h'
 rw [e] at e'; cases e'
 rw [d] at d'
 injection d' with d1 _
 have:its=its':=by simpa using congrArg Array.toList d1
 subst this
 exact r.inj r'
theorem Inv.tuple_inj (I:Inv X pins σ H s) (h:SqT X.K H a xs) (h':SqT X.K H a ys):xs=ys:=by
 obtain ⟨its,r,⟨o,e,_,n,d⟩,_⟩:=I.tuple h
 obtain ⟨its',r',⟨o',e',_,n',d'⟩,_⟩:=I.tuple h'
 rw [e] at e'; cases e'
 rw [d] at d'
 injection d' with d1 _
 have:its=its':=by simpa using congrArg Array.toList d1
 subst this
 exact r.inj r'
end
noncomputable abbrev Cx.wish (X:Cx) (E:Value→Shared→Prop):Cx:={ X with xe:=E }
noncomputable abbrev Cx.nox (X:Cx):Cx:=X.wish fun _ _=>False
theorem Cx.Ok.wish {X:Cx} (ok:X.Ok) (E:Value→Shared→Prop):(X.wish E).Ok:=
 ⟨ok.mod,ok.kind,ok.glob,ok.blt,ok.above,ok.inj,ok.has,ok.cab,ok.hd,ok.frames,ok.stk,ok.exf,ok.bs,ok.bsz,ok.noex,ok.exfs,ok.funs,ok.frf⟩
theorem Cx.Ok.unwish {X:Cx} {E:Value→Shared→Prop} (ok:(X.wish E).Ok):X.Ok:=
 ⟨ok.mod,ok.kind,ok.glob,ok.blt,ok.above,ok.inj,ok.has,ok.cab,ok.hd,ok.frames,ok.stk,ok.exf,ok.bs,ok.bsz,ok.noex,ok.exfs,ok.funs,ok.frf⟩
section
variable {X:Cx} {pins:List (Addr × Obj)} {σ:St} {H:Hp} {s:Shared} {E:Value→Shared→Prop}
theorem Inv.wish (I:Inv X pins σ H s) (E:Value→Shared→Prop):Inv (X.wish E) pins σ H s:=⟨I.ok.wish E,I.os,I.bare,I.base,I.loc,I.cell,I.free,I.freeC,I.pin,I.hok,I.len⟩
theorem Inv.unwish (I:Inv (X.wish E) pins σ H s):Inv X pins σ H s:=⟨I.ok.unwish,I.os,I.bare,I.base,I.loc,I.cell,I.free,I.freeC,I.pin,I.hok,I.len⟩
theorem SP.unwish {D:Ends} {f:Flow} {s':Shared} (h:SP (X.wish E) pins D f s'):SP X pins D f s':=by
 cases f with
 | next=>obtain ⟨σ',H',I,q⟩:=h; exact ⟨σ',H',I.unwish,q⟩
 | brk=>obtain ⟨σ',H',I,q⟩:=h; exact ⟨σ',H',I.unwish,q⟩
 | cont=>obtain ⟨σ',H',I,q⟩:=h; exact ⟨σ',H',I.unwish,q⟩
 | ret u=>obtain ⟨v,σ',H',I,r,q⟩:=h; exact ⟨v,σ',H',I.unwish,r,q⟩
theorem PSs.nox {st:List Stmt} {t:TS} (h:PSs X.nox st t):PSs X st t:=fun pins s σ H D I hw =>
 wpAny_mono (h pins s σ H D (I.wish _) hw) (fun _ _ q=>q.unwish) fun _ _ z=>False.elim z
end
section
variable {X:Cx} {st:Stmt} {rest:List Stmt} {t u:TS} {e:Expr} {te:TE} {pos:Pos}
noncomputable def tNext:TS:=fun D σ H=>D.nx σ H
noncomputable def tSeq (t u:TS):TS:=fun D σ H=>t { D with nx:=u D } σ H
theorem pss_nil:PSs X [] tNext:=fun _ _ σ H _ I h=>wpAny_execs_nil ⟨σ,H,I,h⟩
theorem pss_cons (h1:PS X st t) (h2:PSs X rest u):PSs X (st :: rest) (tSeq t u):=by
 intro pins s σ H D I h
 refine wpAny_execs_cons (thn (h1 pins s σ H { D with nx:=u D } I h) fun f s1 q=>?_)
 cases f with
 | next =>
   obtain ⟨σ',H',I',q⟩:=q
   exact h2 pins s1 σ' H' D I' q
 | ret v=>exact q
 | brk=>exact q
 | cont=>exact q
noncomputable def tBreak:TS:=fun D σ H=>D.bk σ H
noncomputable def tCont:TS:=fun D σ H=>D.ct σ H
theorem ps_pass:PS X (.Pass pos) tNext:=fun _ _ σ H _ I h=>wpAny_Pass ⟨σ,H,I,h⟩
theorem ps_break:PS X (.Break pos) tBreak:=fun _ _ σ H _ I h=>wpAny_Break ⟨σ,H,I,h⟩
theorem ps_continue:PS X (.Continue pos) tCont:=fun _ _ σ H _ I h=>wpAny_Continue ⟨σ,H,I,h⟩
theorem Inv.quiet {pins:List (Addr × Obj)} {σ:St} {H:Hp} {s:Shared} (I:Inv X pins σ H s):interactive X.env=false:=by simp [interactive,I.ok.kind]
noncomputable def tDrop (te:TE):TS:=fun D σ H=>te σ H fun _ H1=>D.nx σ H1
theorem ps_expr (he:PE X e te) (hs:swapsWith e none pos.line X.env=pure false:=by rfl):PS X (.Expr e pos) (tDrop te):=by
 intro pins s σ H D I h
 exact wpAny_Expr_any (thn (he pins s σ H _ I h) fun v s1 ⟨x,H1,I1,r1,q1⟩=>⟨σ,H1,I1,q1⟩) I.quiet hs
noncomputable def tRet (te:TE):TS:=fun D σ H=>te σ H D.rt
theorem ps_ret (he:PE X e te):PS X (.Return (some e) pos) (tRet te):=by
 intro pins s σ H D I h
 exact wpAny_Return_some (thn (he pins s σ H _ I h) fun v s1 ⟨x,H1,I1,r1,q1⟩=>⟨x,σ,H1,I1,r1,q1⟩)
noncomputable def tRetN:TS:=fun D _ H=>D.rt .non H
theorem ps_retN:PS X (.Return none pos) tRetN:=fun _ _ σ H _ I h=>wpAny_Return_none ⟨.non,σ,H,I,rfl,h⟩
noncomputable def tIfS (c:TT) (t u:TS):TS:=fun D σ H=>c σ H fun b H1=>if b=true then t D σ H1 else u D σ H1
theorem ps_if {c:Expr} {a b:List Stmt} {tc:TT} (hc:PT X c tc) (ha:PSs X a t) (hb:PSs X b u):PS X (.If c a b pos) (tIfS tc t u):=by
 intro pins s σ H D I h
 refine wpAny_If (thn (hc pins s σ H _ I h) fun d s1 ⟨H1,I1,q1⟩=>?_)
 cases d with
 | true=>exact ha pins s1 σ H1 D I1 q1
 | false=>exact hb pins s1 σ H1 D I1 q1
end
noncomputable abbrev TG:=V→St→Hp→(St→Hp→Prop)→Prop
noncomputable abbrev TGs:=List V→St→Hp→(St→Hp→Prop)→Prop
noncomputable def PG (X:Cx) (target:Expr) (t:TG):Prop:=
 ∀ (pins:List (Addr × Obj)) (s:Shared) (σ:St) (H:Hp) (v:V) (u:Value) (Q:St→Hp→Prop),Inv X pins σ H s→RelV v u→t v σ H Q →
   wpAny (model X.prog X.w) X.A (assign target X.env u) (fun _ s'=>∃ σ' H',Inv X pins σ' H' s'∧Q σ' H') X.xe s
noncomputable def PGs (X:Cx) (ts:List Expr) (t:TGs):Prop:=
 ∀ (pins:List (Addr × Obj)) (s:Shared) (σ:St) (H:Hp) (vs:List V) (us:List Value) (Q:St→Hp→Prop),Inv X pins σ H s→Vals vs us→t vs σ H Q →
   wpAny (model X.prog X.w) X.A (assignInOrder ((assignEach ts X.env).map (·.2)) us) (fun _ s'=>∃ σ' H',Inv X pins σ' H' s'∧Q σ' H') X.xe s
noncomputable abbrev TSet:=V→V→V→Hp→(Hp→Prop)→Prop
noncomputable def PSet (X:Cx) (t:TSet):Prop:=
 ∀ (pins:List (Addr × Obj)) (s:Shared) (σ:St) (H:Hp) (o i v:V) (ov iv u:Value) (Q:Hp→Prop),Inv X pins σ H s→RelV o ov→RelV i iv→RelV v u→t o i v H Q →
   wpAny (model X.prog X.w) X.A (setItem ov iv u) (fun _ s'=>∃ H',Inv X pins σ H' s'∧Q H') X.xe s
noncomputable abbrev TIp:=V→V→Hp→VK→Prop
noncomputable def PIp (X:Cx) (op:Operator) (t:TIp):Prop:=
 ∀ (pins:List (Addr × Obj)) (s:Shared) (σ:St) (H:Hp) (x y:V) (v u:Value) (Q:VK),Inv X pins σ H s→RelV x v→RelV y u→t x y H Q →
   wpAny (model X.prog X.w) X.A (inplaceOp op v u) (EP X pins σ Q) X.xe s
section
variable {X:Cx} {pos:Pos}
noncomputable def gName (i:Nat):TG:=fun v σ H Q=>Q (σ.set i (some v)) H
theorem pg_name {i:Nat} {x:Str} (hN:X.N.Nodup) (hi:X.N[i]?=some x) (hx:Loc X.env.scope x) (hf:X.fn x=true ∨ X.env.scope.names.lookup x=some .local:=by first | exact .inl rfl | exact .inr rfl | assumption):PG X (.Name x pos) (gName i):=by
 intro pins s σ H v u Q I r h
 exact wpAny_assign_Name (store_ok I hN hi hx r (fun s' I'=>⟨_,H,I',h⟩) hf)
noncomputable def gNil:TGs:=fun vs σ H Q=>vs=[]∧Q σ H
noncomputable def gCons (t:TG) (u:TGs):TGs:=fun vs σ H Q=>∃ v r,vs=v :: r∧t v σ H fun σ' H'=>u r σ' H' Q
theorem pgs_nil:PGs X [] gNil:=by
 intro pins s σ H vs us Q I r h
 obtain ⟨e,h⟩:=h
 subst e
 cases r
 exact assignInOrder_nil ⟨σ,H,I,h⟩
theorem pgs_cons {e:Expr} {es:List Expr} {t:TG} {u:TGs} (h1:PG X e t) (h2:PGs X es u)
   (hs:(assignEach (e :: es) X.env).map (·.2)=assign e X.env :: (assignEach es X.env).map (·.2):=by rfl):PGs X (e :: es) (gCons t u):=by
 intro pins s σ H vs us Q I r h
 obtain ⟨v,vr,e1,h⟩:=h
 subst e1
 cases r with
 | cons r rr =>
   rw [hs]
   refine assignInOrder_cons (thn (h1 pins s σ H _ _ _ I r h) fun _ s1 ⟨σ1,H1,I1,q1⟩=>?_)
   exact h2 pins s1 σ1 H1 _ _ Q I1 rr q1
noncomputable def gTup (K:PySem.W.Frag) (n:Nat) (t:TGs):TG:=fun v σ H Q=>∃ a xs,v=.ref a∧SqT K H a xs∧xs.length=n∧t xs σ H Q
theorem pg_tup {es:List Expr} {k:Nat} {t:TGs} {n:Nat} (hc:X.calm=true) (h:PGs X es t)
   (hn:(assignEach es X.env).length=n:=by rfl) (hst:(assignEach es X.env).findIdx? (·.1)=none:=by rfl):PG X (.Tuple es k pos) (gTup X.K n t):=by
 intro pins s σ H v u Q I r hw
 obtain ⟨a,xs,e1,hq,hl,hw⟩:=hw
 subst e1
 cases r
 obtain ⟨its,rv,ht,hz⟩:=I.tuple hq
 refine assign_Tuple_tuple (I.ok.hd hc) ht (by simp [hn,← hl,rv.length]) hst fun h' hx=>?_
 have I1:Inv X pins σ H { s with heap:=h' }:=I.kept (t':=s.toks) fun b o e=>hx b o (Nat.ne_of_lt (Heap.lt_size e)) e
 exact h pins _ σ H xs _ Q I1 (by simpa using rv) hw
noncomputable def gSub (to ti:TE) (t:TSet):TG:=fun v σ H Q=>to σ H fun o H1=>ti σ H1 fun i H2=>t o i v H2 fun H3=>Q σ H3
theorem pg_sub {o i:Expr} {to ti:TE} {t:TSet} (ho:PE X o to) (hi:PE X i ti) (hs:PSet X t)
   (ha:∀ v,assign (.Subscript o i pos) X.env v=(do
     let ov ← holding [v] (eval o X.env)
     let iv ← holding [v,ov] (eval i X.env)
     standAt pos
     holding [v,ov,iv] (setItem ov iv v)
     release [v,ov,iv] []):=by intro _; rfl):PG X (.Subscript o i pos) (gSub to ti t):=by
 intro pins s σ H v u Q I r h
 rw [ha]
 refine wpAny_bind (wpAny_holding (thn (ho pins s σ H _ I h) fun ov s1 ⟨x,H1,I1,r1,q1⟩=>?_))
 refine wpAny_bind (wpAny_holding (thn (hi pins s1 σ H1 _ I1 q1) fun iv s2 ⟨y,H2,I2,r2,q2⟩=>?_))
 refine wpAny_bind (wpAny_standAt (wpAny_bind (wpAny_holding (thn (hs pins s2 σ H2 x y v ov iv u _ I2 r1 r2 r q2) fun _ s3 ⟨H3,I3,q3⟩=>?_))))
 exact wpAny_release ⟨σ,H3,I3,q3⟩
noncomputable def tAsg (te:TE) (g:TG):TS:=fun D σ H=>te σ H fun x H1=>g x σ H1 D.nx
theorem ps_asg {tg e:Expr} {te:TE} {g:TG} (he:PE X e te) (hg:PG X tg g) (hs:swapsWithSole [tg] e pos.line X.env=pure false:=by rfl) (hw:swappedStores [tg] e X.env=pure none:=by rfl)
   (h1:(assignEach [tg] X.env).map (·.2)=[assign tg X.env]:=by rfl):PS X (.Assign [tg] e pos) (tAsg te g):=by
 intro pins s σ H D I h
 refine wpAny_Assign_stores (thn (he pins s σ H _ I h) fun v s1 ⟨x,H1,I1,r1,q1⟩=>?_) hs hw
 rw [h1]
 exact thn (hg pins s1 σ H1 x v _ I1 r1 q1) fun _ s2 q=>q
theorem ps_set {i:Nat} {x:Str} {e:Expr} {te:TE} {pos':Pos} (hN:X.N.Nodup) (hi:X.N[i]?=some x) (hx:Loc X.env.scope x) (he:PE X e te) (hs:swapsWith e (some (.Name x pos')) pos.line X.env=pure false:=by rfl) (hf:X.fn x=true ∨ X.env.scope.names.lookup x=some .local:=by first | exact .inl rfl | exact .inr rfl | assumption) :
   PS X (.Assign [.Name x pos'] e pos) (tAsg te (gName i)):=by
 intro pins s σ H D I h
 refine wpAny_Assign_Name (thn (he pins s σ H _ I h) fun v s1 ⟨y,H1,I1,r1,q1⟩=>?_) hs
 exact store_ok I1 hN hi hx r1 (fun s2 I2=>⟨_,H1,I2,q1⟩) hf
noncomputable def tPar (i j:Nat) (ta:TA):TS:=fun D σ H=>ta σ H fun vs H1=>∃ v w,vs=[v,w]∧D.nx ((σ.set i (some v)).set j (some w)) H1
theorem ps_par {i j:Nat} {x y:Str} {a b:Expr} {ta:TA} {px py pt:Pos} {kt k2 pt2} (hc:X.calm=true) (hN:X.N.Nodup) (hi:X.N[i]?=some x) (hj:X.N[j]?=some y) (hij:i≠j)
   (hx:X.env.scope.names.lookup x=some .local) (hy:X.env.scope.names.lookup y=some .local) (ha:PA X [a,b] ta)
   (hw:swappedStores [.Tuple [.Name x px,.Name y py] kt pt] (.Tuple [a,b] k2 pt2) X.env=pure (some [x,y]))
   (hs:swapsWithSole [.Tuple [.Name x px,.Name y py] kt pt] (.Tuple [a,b] k2 pt2) pos.line X.env=pure false:=by rfl) :
   PS X (.Assign [.Tuple [.Name x px,.Name y py] kt pt] (.Tuple [a,b] k2 pt2) pos) (tPar i j ta):=by
 intro pins s σ H D I h
 rw [exec_Assign_arm]
 refine wpAny_bind (wpAny_standAt ?_)
 rw [hs]
 refine wpAny_bind (wpAny_pure ?_)
 rw [if_neg (by decide)]
 refine wpAny_bind (Tuple_ (thn (ha _ pins s σ H _ I h) fun us s1 ⟨vs,H1,I1,r1,q1⟩=>?_))
 obtain ⟨v,w,e1,q1⟩:=q1
 subst e1
 obtain ⟨u1,u2,rfl,rv,rw'⟩:∃ u1 u2,us=[u1,u2]∧RelV v u1∧RelV w u2:=by
   cases r1 with
   | cons p q =>
     cases q with
     | cons p' q' =>
       cases q'
       exact ⟨_,_,rfl,p,p'⟩
 refine wpAny_newObj_type ?_ (by show 2≤sizeLine; decide)
 have I2:Inv X pins σ H1 { s1 with heap:=s1.heap.push { cls:=.type "tuple",data:=.seq [u1,u2].toArray } }:=I1.kept (t':=s1.toks) fun b o e=>Heap.get?_push_of_some _ e
 rw [hw]
 refine wpAny_bind (wpAny_pure ?_)
 show wpAny (model X.prog X.w) X.A (do rule "assign.swapped-stores"; let items ← unpackItems (.ref s1.heap.objs.size) 2 none; assignInOrder [fun v=>bindName X.env y v,fun v=>bindName X.env x v] items.reverse; pure Flow.next) _ _ _
 refine wpAny_bind (wpAny_rule (wpAny_bind (unpackItems_tuple (items:=#[u1,u2]) (I.ok.hd hc) (IsTup.new s1.heap _) fun h' hx'=>?_)))
 have I3:=I2.kept (h':=h') (t':=s1.toks) fun b o e=>hx' b o (Nat.ne_of_lt (Heap.lt_size e)) e
 show wpAny _ _ (assignInOrder [fun v=>bindName X.env y v,fun v=>bindName X.env x v] [u2,u1] >>= fun _=>pure Flow.next) _ _ _
 refine wpAny_bind (assignInOrder_cons (wpAny_bindName (store_ok I3 hN hj (.inl hy) rw' (fun s2 I4=>?_) (.inr hy))))
 refine assignInOrder_cons (wpAny_bindName (store_ok I4 hN hi (.inl hx) rv (fun s3 I5=>assignInOrder_nil (wpAny_pure ?_)) (.inr hx)))
 rw [List.set_comm _ _ (Ne.symm hij)] at I5
 exact ⟨_,H1,I5,q1⟩
noncomputable def tAug (i:Nat) (te:TE) (ti:TIp):TS:=fun D σ H=>∃ x,σ[i]?=some (some x)∧te σ H fun y H1=>ti x y H1 fun z H2=>D.nx (σ.set i (some z)) H2
theorem ps_aug {i:Nat} {x:Str} {e:Expr} {te:TE} {op:Operator} {ti:TIp} {pos':Pos} (hN:X.N.Nodup) (hi:X.N[i]?=some x) (hx:Loc X.env.scope x) (he:PE X e te) (ho:PIp X op ti) (hf:X.fn x=true ∨ X.env.scope.names.lookup x=some .local:=by first | exact .inl rfl | exact .inr rfl | assumption) :
   PS X (.AugAssign (.Name x pos') op e pos) (tAug i te ti):=by
 intro pins s σ H D I h
 obtain ⟨v,e1,h⟩:=h
 obtain ⟨m,hn,hl⟩:=I.loc
 have vis:Vis X.env.scope x:=by rcases hx with k | k; exact .inl k; exact .inr (.inl k)
 obtain ⟨u,r,l⟩:=hl i x v hi e1 vis
 refine wpAny_AugAssign_Name ?_
 have go:wpAny (model X.prog X.w) X.A (eval e X.env) (fun w s₂=>wpAny (model X.prog X.w) X.A (inplaceOp op u w) (fun r s₃=>wpAny (model X.prog X.w) X.A (storeName X.env x r) (fun _=>SP X pins D .next) X.xe s₃) X.xe s₂) X.xe s:=by
   refine thn (he pins s σ H _ I h) fun w s1 ⟨y,H1,I1,r1,q1⟩=>?_
   refine thn (ho pins s1 σ H1 v y u w _ I1 r r1 q1) fun z s2 ⟨zv,H2,I2,r2,q2⟩=>?_
   exact store_ok I2 hN hi hx r2 (fun s3 I3=>⟨_,H2,I3,q2⟩) hf
 rcases l with ⟨hk,hm⟩ | ⟨hk,c,hc,hcell⟩
 . exact wpAny_loadName_local I.ok.kind hk hn hm go
 . rcases hk with hk | hk
   . exact wpAny_loadName_cell I.ok.kind hk hc hcell go
   . rcases hx with k | k
     . have:X.env.scope.names.lookup x=some .free:=hk
       rw [k] at this; cases this
     . have:X.env.scope.names.lookup x=some .free:=hk
       rw [k] at this; cases this
end
section
variable {X:Cx} {pos:Pos}
noncomputable def tWhile (c:TT) (tb:TS):TS:=fun D σ H=>∃ W:Nat→St→Hp→Prop,(∃ m,W m σ H)∧∀ m σ H,W m σ H →
 c σ H fun b H1=>if b=true then ∃ N:St→Hp→Prop,(∀ σ' H',N σ' H'→∃ m',m' < m∧W m' σ' H')∧tb { D with nx:=N,ct:=N,bk:=D.nx } σ H1 else D.nx σ H1
theorem ps_while {c:Expr} {body:List Stmt} {tc:TT} {tb:TS} (hp:PassesOwn (model X.prog X.w) X.A X.env X.xe) (hc:PT X c tc) (hb:PSs X body tb):PS X (.While c body [] pos) (tWhile tc tb):=by
 intro pins s σ H D I h
 obtain ⟨W,⟨m0,w0⟩,turn⟩:=h
 refine wpAny_While (codeAny_whileLoop (fun n s'=>∃ σ' H',Inv X pins σ' H' s'∧W n σ' H') ?_ m0 ⟨σ,H,I,w0⟩)
 rintro n s1 ⟨σ1,H1,I1,w1⟩
 refine wpAny_passesOwn hp (thn (hc pins s1 σ1 H1 _ I1 (turn n σ1 H1 w1)) fun b s2 ⟨H2,I2,q2⟩=>?_)
 cases b with
 | true =>
   obtain ⟨N,hN,q2⟩:=q2
   rw [if_pos rfl]
   refine wpAny_passesOwn hp (thn (hb pins s2 σ1 H2 _ I2 q2) fun f s3 q3=>?_)
   cases f with
   | next =>
     obtain ⟨σ3,H3,I3,n3⟩:=q3
     obtain ⟨m',hm,w3⟩:=hN σ3 H3 n3
     exact ⟨m',hm,σ3,H3,I3,w3⟩
   | cont =>
     obtain ⟨σ3,H3,I3,n3⟩:=q3
     obtain ⟨m',hm,w3⟩:=hN σ3 H3 n3
     exact ⟨m',hm,σ3,H3,I3,w3⟩
   | brk=>exact q3
   | ret v=>exact q3
 | false =>
   rw [if_neg Bool.false_ne_true]
   exact wpAny_execs_nil ⟨σ1,H2,I2,q2⟩
end
structure It where
 go:Nat→Hp→Prop
 yld:Nat→Hp→V→Hp→Prop
 stop:Nat→Hp→Prop
noncomputable def FpOk (X:Cx) (pins:List (Addr × Obj)) (H:Hp) (b:Addr):Prop:=
 H b=none∧b≠X.env.locals∧b ∉ X.fs∧(b∈X.ex ∨ X.s₀.heap.objs.size≤b)∧(∀ x c,X.env.cells.lookup x=some c→c≠b)∧∀ p∈X.pn++pins,p.1≠b
theorem Inv.fpOk {X:Cx} {pins:List (Addr × Obj)} {σ:St} {H H':Hp} {s:Shared} {b:Addr} (I:Inv X pins σ H s) (hb:s.heap.objs.size≤b) (hn:H' b=none):FpOk X pins H' b:=by
 refine ⟨hn,Nat.ne_of_gt (Nat.lt_of_lt_of_le I.lt hb),I.nofs hb,.inr (Nat.le_trans I.sz hb),fun x c e z=>?_,fun p hp z=>?_⟩
 . obtain ⟨v,q⟩:=I.cell x c e
   exact absurd (Nat.lt_of_lt_of_le q.lt (by rw [z]; exact hb)) (Nat.lt_irrefl _)
 . exact absurd (Nat.lt_of_lt_of_le (Heap.lt_size (I.pin p hp).1) (by rw [z]; exact hb)) (Nat.lt_irrefl _)
structure Turn (P:Program) (w:World) (K:PySem.W.Frag) (tg:Expr) (J:It) (fp:List Addr) (it:Addr) (tn:Nat→Heap→Prop):Prop where
 mem:it∈fp
 obj:∀ i h,tn i h→∀ b∈fp,∃ o,h.get? b=some o∧∀ v,o.data≠.cell v
 keep:∀ i h h',tn i h→(∀ b∈fp,∀ o,h.get? b=some o→h'.get? b=some o)→tn i h'
 item:∀ (X:Cx),X.prog=P→X.w=w→X.K=K→X.calm=true→∀ (i:Nat) (pins:List (Addr × Obj)) (s:Shared) (σ:St) (H:Hp) (E:Value→Shared→Prop),Inv X pins σ H s→(∀ b∈fp,FpOk X pins H b)→tn i s.heap→J.go i H →
   wpAny (model P w) X.A (pyNext (.ref it)) (fun r s1=>∃ u,r=some u ∧
     wpAny (model P w) X.A (letOwnedTupleGo tg (.ref it) u) (fun _ s2=>∃ x H',Inv X pins σ H' s2∧RelV x u∧J.yld i H x H'∧tn (i + 1) s2.heap∧∀ b∈fp,H' b=none) E s1) E s
 done:∀ (X:Cx),X.prog=P→X.w=w→X.K=K→X.calm=true→∀ (i:Nat) (pins:List (Addr × Obj)) (s:Shared) (σ:St) (H:Hp) (E:Value→Shared→Prop),Inv X pins σ H s→(∀ b∈fp,FpOk X pins H b)→tn i s.heap→J.stop i H →
   wpAny (model P w) X.A (pyNext (.ref it)) (fun r s1=>r=none∧Inv X pins σ H s1) E s
 self:∀ (A:Around) (i:Nat) (s:Shared) (Q:Value→Shared→Prop) (E:Value→Shared→Prop),tn i s.heap→Q (.ref it) s→wpAny (model P w) A (pyIter (.ref it)) Q E s
noncomputable abbrev TI:=St→Hp→(It→Hp→Prop)→Prop
noncomputable def PIE (X:Cx) (pins:List (Addr × Obj)) (σ:St) (tg:Expr) (R:It→Hp→Prop) (itv:Value) (s2:Shared):Prop:=
 ∃ (it:Addr) (fp:List Addr) (tn:Nat→Heap→Prop) (J:It) (H':Hp),itv=.ref it∧Inv X pins σ H' s2∧Turn X.prog X.w X.K tg J fp it tn∧tn 0 s2.heap∧(∀ b∈fp,FpOk X pins H' b)∧R J H'
noncomputable def PI (X:Cx) (tg iter:Expr) (wi:TI):Prop:=
 ∀ (pins:List (Addr × Obj)) (s:Shared) (σ:St) (H:Hp) (R:It→Hp→Prop),Inv X pins σ H s→wi σ H R →
   wpAny (model X.prog X.w) X.A (eval iter X.env) (fun v s1=>wpAny (model X.prog X.w) X.A (pyIter v) (PIE X pins σ tg R) X.xe s1) X.xe s
theorem go_of {M:Model} {A:Around} {E:Value→Shared→Prop} {s:Shared} {tg:Expr} {it:Addr} {u:Value} {o:Obj} {n:String} {vs:Array Value} {Q:Unit→Shared→Prop} (ho:s.heap.get? it=some o) (hc:o.cls=.type n) (hd:o.data=.fields vs)
   (hn:["enumerate","zip","dict_itemiterator","dict_reverseitemiterator","odict_iterator","itertools.zip_longest","itertools.pairwise"].contains n=false) (hQ:Q () s):wpAny M A (letOwnedTupleGo tg (.ref it) u) Q E s:=by
 unfold letOwnedTupleGo
 cases tg <;> first
   | exact wpAny_pure hQ
   | (cases u <;> first
       | exact wpAny_pure hQ
       | (refine wpAny_bind (wpAny_load ho ?_)
          rw [hc,hd]
          show wpAny M A (if (["enumerate","zip","dict_itemiterator","dict_reverseitemiterator","odict_iterator","itertools.zip_longest","itertools.pairwise"].contains n && vs[0]? == some (rawInt _))=true then _ else _) Q E s
          rw [if_neg (by intro h; rw [hn,Bool.false_and] at h; cases h)]
          exact wpAny_pure hQ))
noncomputable def Itl (K:PySem.W.Frag) (a:Addr):It:=
 ⟨fun i H=>∃ xs x,SqL K H a xs∧xs[i]?=some x,fun i H x H'=>H'=H∧∀ xs,SqL K H a xs→xs[i]?=some x,fun i H=>∃ xs,SqL K H a xs∧xs.length≤i⟩
noncomputable def Itt (K:PySem.W.Frag) (a:Addr):It:=
 ⟨fun i H=>∃ xs x,SqT K H a xs∧xs[i]?=some x,fun i H x H'=>H'=H∧∀ xs,SqT K H a xs→xs[i]?=some x,fun i H=>∃ xs,SqT K H a xs∧xs.length≤i⟩
noncomputable def Itr (lo:Int) (n:Nat):It:=⟨fun i _=>i < n,fun i H x H'=>H'=H∧x=.int (lo + i),fun i _=>n≤i⟩
theorem turn_list {P:Program} {w:World} {K:PySem.W.Frag} {tg:Expr} (a it:Addr):Turn P w K tg (Itl K a) [it] it (fun i h=>h.IsListIter it a i) where
 mem:=by simp
 obj:=fun i h st b hb=>by
   have e:b=it:=by simpa using hb
   subst e
   obtain ⟨o,e,c,d⟩:=st
   exact ⟨o,e,fun v z=>by rw [d] at z; cases z⟩
 keep:=fun i h h' st k=>st.at fun o e=>k it (by simp) o e
 item:=by
   intro X hP hw hK hc i pins s σ H E I hf st hg
   subst hP hw hK
   obtain ⟨xs,x,hq,hx⟩:=hg
   obtain ⟨its,rv,p,hz⟩:=I.list hq
   obtain ⟨u,hu,ru⟩:=rv.get hx
   obtain ⟨f0,f1,f2,f3,f4,f5⟩:=hf it (by simp)
   refine wpAny_pyNext_list_item st p.isList (x:=u) (by simpa using hu) fun h' st' sb=>?_
   have I1:Inv X pins σ H { s with heap:=h' }:=I.turned (t':=s.toks) (fun b o hb e=>(sb.2 b hb).trans e) f0 f1 f3 f4 f5
   obtain ⟨o,e,c,d⟩:=id st'
   exact ⟨u,rfl,go_of (s:={ s with heap:=h' }) e c d (by decide) ⟨x,H,I1,ru,⟨rfl,fun ys hy=>by rw [I.list_inj hy hq]; exact hx⟩,st',fun b hb=>(hf b hb).1⟩⟩
 done:=by
   intro X hP hw hK hc i pins s σ H E I hf st hg
   subst hP hw hK
   obtain ⟨xs,hq,hx⟩:=hg
   obtain ⟨its,rv,p,hz⟩:=I.list hq
   obtain ⟨f0,f1,f2,f3,f4,f5⟩:=hf it (by simp)
   have hl:=rv.length
   exact wpAny_pyNext_list_end (I.ok.hd hc) st p.isList (by simp; omega) fun h' eb=>⟨rfl,I.turned (t':=s.toks) (fun b o hb e=>eb b o hb e) f0 f1 f3 f4 f5⟩
 self:=fun _ _ _ _ _ st h=>wpAny_pyIter_listiter st h
theorem turn_tuple {P:Program} {w:World} {K:PySem.W.Frag} {tg:Expr} (a it:Addr):Turn P w K tg (Itt K a) [it] it (fun i h=>h.IsTupleIter it a i) where
 mem:=by simp
 obj:=fun i h st b hb=>by
   have e:b=it:=by simpa using hb
   subst e
   obtain ⟨o,e,c,d⟩:=st
   exact ⟨o,e,fun v z=>by rw [d] at z; cases z⟩
 keep:=fun i h h' st k=>st.at fun o e=>k it (by simp) o e
 item:=by
   intro X hP hw hK hc i pins s σ H E I hf st hg
   subst hP hw hK
   obtain ⟨xs,x,hq,hx⟩:=hg
   obtain ⟨its,rv,p,hz⟩:=I.tuple hq
   obtain ⟨u,hu,ru⟩:=rv.get hx
   obtain ⟨f0,f1,f2,f3,f4,f5⟩:=hf it (by simp)
   refine wpAny_pyNext_tuple_item st (show s.heap.IsTuple a its.toArray from p) (x:=u) (by simpa using hu) fun h' st' sb=>?_
   have I1:Inv X pins σ H { s with heap:=h' }:=I.turned (t':=s.toks) (fun b o hb e=>(sb.2 b hb).trans e) f0 f1 f3 f4 f5
   obtain ⟨o,e,c,d⟩:=id st'
   exact ⟨u,rfl,go_of (s:={ s with heap:=h' }) e c d (by decide) ⟨x,H,I1,ru,⟨rfl,fun ys hy=>by rw [I.tuple_inj hy hq]; exact hx⟩,st',fun b hb=>(hf b hb).1⟩⟩
 done:=by
   intro X hP hw hK hc i pins s σ H E I hf st hg
   subst hP hw hK
   obtain ⟨xs,hq,hx⟩:=hg
   obtain ⟨its,rv,p,hz⟩:=I.tuple hq
   obtain ⟨f0,f1,f2,f3,f4,f5⟩:=hf it (by simp)
   have hl:=rv.length
   exact wpAny_pyNext_tuple_end (I.ok.hd hc) st (show s.heap.IsTuple a its.toArray from p) (by simp; omega) fun h' eb=>⟨rfl,I.turned (t':=s.toks) (fun b o hb e=>eb b o hb e) f0 f1 f3 f4 f5⟩
 self:=fun _ _ _ _ _ st h=>wpAny_pyIter_tupleiter st h
theorem turn_range {P:Program} {w:World} {K:PySem.W.Frag} {tg:Expr} (it:Addr) (lo:Int) (n:Nat):Turn P w K tg (Itr lo n) [it] it (fun i h=>IsRangeIter h it (lo + (i:Nat) * 1) ((n:Int) - (i:Nat)) 1) where
 mem:=by simp
 obj:=fun i h st b hb=>by
   have e:b=it:=by simpa using hb
   subst e
   exact ⟨_,st,fun v z=>by
     have z':Data.fields _=Data.cell v:=z
     cases z'⟩
 keep:=fun i h h' st k=>k it (by simp) _ st
 item:=by
   intro X hP hw hK hc i pins s σ H E I hf st hg
   subst hP hw hK
   obtain ⟨f0,f1,f2,f3,f4,f5⟩:=hf it (by simp)
   have W:=Walks.range (prog:=X.prog) (w:=X.w) (I.ok.hd hc) it lo 1 n
   refine W.item i s _ _ hg st fun v h' tk hv st' kk=>?_
   obtain ⟨t,rfl⟩:=hv
   have I1:Inv X pins σ H { s with heap:=h',toks:=tk }:=I.turned (fun b o hb e=>kk b o (by simpa using hb) e) f0 f1 f3 f4 f5
   refine ⟨_,rfl,go_of (s:={ s with heap:=h',toks:=tk }) (n:="range_iterator") st' rfl rfl (by decide) ⟨.int (lo + i),H,I1,⟨t,?_⟩,⟨rfl,rfl⟩,st',fun b hb=>(hf b hb).1⟩⟩
   rw [Int.mul_one]
 done:=by
   intro X hP hw hK hc i pins s σ H E I hf st hg
   subst hP hw hK
   obtain ⟨f0,f1,f2,f3,f4,f5⟩:=hf it (by simp)
   exact wpAny_pyNext_range_end (I.ok.hd hc) st (by have:n≤i:=hg; omega) fun h' eb=>⟨rfl,I.turned (t':=s.toks) (fun b o hb e=>eb b o hb e) f0 f1 f3 f4 f5⟩
 self:=fun _ _ _ _ _ st h=>wpAny_pyIter_rangeiter st h
end L2
namespace L2
open PySem PySem.Spec PyProof.Rows
section
variable {X:Cx} {tg:Expr}
noncomputable def iList (K:PySem.W.Frag) (tl:TE):TI:=fun σ H R=>tl σ H fun x H1=>∃ a,x=.ref a∧(∃ xs,SqL K H1 a xs)∧R (Itl K a) H1
noncomputable def iTup (K:PySem.W.Frag) (tl:TE):TI:=fun σ H R=>tl σ H fun x H1=>∃ a,x=.ref a∧(∃ xs,SqT K H1 a xs)∧R (Itt K a) H1
theorem pi_list {l:Expr} {tl:TE} (hl:PE X l tl):PI X tg l (iList X.K tl):=by
 intro pins s σ H R I h
 refine thn (hl pins s σ H _ I h) fun v s1 ⟨x,H1,I1,r1,q1⟩=>?_
 obtain ⟨a,e,⟨xs,hq⟩,q⟩:=q1
 subst e
 cases r1
 obtain ⟨its,rv,p,hz⟩:=I1.list hq
 refine wpAny_pyIter_list p.isList ?_
 refine ⟨s1.heap.objs.size,[s1.heap.objs.size],_,_,H1,rfl,I1.kept (t':=s1.toks) fun b o e=>Heap.get?_push_of_some _ e,turn_list a _,⟨_,Heap.get?_push_size _ rfl,rfl,rfl⟩,fun b hb=>?_,q⟩
 have e:b=s1.heap.objs.size:=by simpa using hb
 subst e
 exact I1.fpOk (Nat.le_refl _) (I1.hok.fresh (Nat.le_refl _))
theorem pi_tup {l:Expr} {tl:TE} (hl:PE X l tl):PI X tg l (iTup X.K tl):=by
 intro pins s σ H R I h
 refine thn (hl pins s σ H _ I h) fun v s1 ⟨x,H1,I1,r1,q1⟩=>?_
 obtain ⟨a,e,⟨xs,hq⟩,q⟩:=q1
 subst e
 cases r1
 obtain ⟨its,rv,p,hz⟩:=I1.tuple hq
 refine wpAny_pyIter_tuple (show s1.heap.IsTuple a its.toArray from p) ?_
 refine ⟨s1.heap.objs.size,[s1.heap.objs.size],_,_,H1,rfl,I1.kept (t':=s1.toks) fun b o e=>Heap.get?_push_of_some _ e,turn_tuple a _,⟨_,Heap.get?_push_size _ rfl,rfl,rfl⟩,fun b hb=>?_,q⟩
 have e:b=s1.heap.objs.size:=by simpa using hb
 subst e
 exact I1.fpOk (Nat.le_refl _) (I1.hok.fresh (Nat.le_refl _))
theorem range_it {pins:List (Addr × Obj)} {σ:St} {H:Hp} {s:Shared} {R:It→Hp→Prop} {E:Value→Shared→Prop} {lo hi:Int} {t u v:Tok} {tk:Nat} (I:Inv X pins σ H s) (h1:-(2 ^ 62)≤lo) (h2:lo < 2 ^ 62) (h3:-(2 ^ 62)≤hi) (h4:hi < 2 ^ 62)
   (q:R (Itr lo (hi - lo).toNat) H):wpAny (model X.prog X.w) X.A (pyIter (.ref s.heap.objs.size)) (PIE X pins σ tg R) E { s with heap:=s.heap.push { cls:=.type "range",data:=.fields #[.int lo t,.int hi u,.int 1 v] },toks:=tk }:=by
 refine wpAny_pyIter_range (IsRange.new ..) (small_one h1 h2 h3 h4) ?_
 have I1:Inv X pins σ H { s with heap:=s.heap.push { cls:=.type "range",data:=.fields #[.int lo t,.int hi u,.int 1 v] },toks:=tk }:=I.kept fun b o e=>Heap.get?_push_of_some _ e
 refine ⟨(s.heap.push { cls:=.type "range",data:=.fields #[.int lo t,.int hi u,.int 1 v] }).objs.size,[(s.heap.push { cls:=.type "range",data:=.fields #[.int lo t,.int hi u,.int 1 v] }).objs.size],_,_,H,rfl,
   I1.kept (t':=tk) fun b o e=>Heap.get?_push_of_some _ e,turn_range _ lo (hi - lo).toNat,?_,fun b hb=>?_,q⟩
 . have e1:lo + ((0:Nat):Int) * 1=lo:=by simp
   have e2:(((hi - lo).toNat:Nat):Int) - ((0:Nat):Int)=Builtin.Range.rangeSize lo hi 1:=by rw [rangeSize_one]; split <;> omega
   show IsRangeIter _ _ (lo + ((0:Nat):Int) * 1) ((((hi - lo).toNat:Nat):Int) - ((0:Nat):Int)) 1
   rw [e1,e2]
   exact Heap.get?_push_size _ rfl
 . have e:b=(s.heap.push { cls:=.type "range",data:=.fields #[.int lo t,.int hi u,.int 1 v] }).objs.size:=by simpa using hb
   subst e
   exact I1.fpOk (Nat.le_refl _) (I1.hok.fresh (Nat.le_refl _))
noncomputable def iRng1 (ta:TA):TI:=fun σ H R=>ta σ H fun vs H1=>∃ j:Int,vs=[.int j]∧-(2 ^ 62)≤j∧j < 2 ^ 62∧R (Itr 0 j.toNat) H1
noncomputable def iRng2 (ta:TA):TI:=fun σ H R=>ta σ H fun vs H1=>∃ i j:Int,vs=[.int i,.int j]∧(-(2 ^ 62)≤i∧i < 2 ^ 62∧-(2 ^ 62)≤j∧j < 2 ^ 62)∧R (Itr i (j - i).toNat) H1
theorem pi_range1 {a:Expr} {ta:TA} {p pos:Pos} (hg:Gl X "range") (hm:X.mg "range"=none) (ha:PA X [a] ta) (hs:starEach [a] X.env=[(false,eval a X.env)]:=by rfl):PI X tg (.Call (.Name "range" p) [a] [] pos) (iRng1 ta):=by
 intro pins s σ H R I h
 refine Call_ (ld_blt I hg hm boot_range (PyProof.Rows.callWith_type1 (thn (ha pos pins s σ H _ I h) fun us s1 ⟨vs,H1,I1,r1,q1⟩=>?_) hs rfl))
 obtain ⟨j,e,q1,q2,q⟩:=q1
 subst e
 cases r1 with
 | cons r rr =>
   cases rr
   obtain ⟨t,rfl⟩:=r
   exact call_range_1 (range_it I1 (by omega) (by omega) q1 q2 (by simpa using q))
theorem pi_range2 {a b:Expr} {ta:TA} {p pos:Pos} (hg:Gl X "range") (hm:X.mg "range"=none) (ha:PA X [a,b] ta) (hs:starEach [a,b] X.env=[(false,eval a X.env),(false,eval b X.env)]:=by rfl) (hs2:starEach [b] X.env=[(false,eval b X.env)]:=by rfl) :
   PI X tg (.Call (.Name "range" p) [a,b] [] pos) (iRng2 ta):=by
 intro pins s σ H R I h
 refine Call_ (ld_blt I hg hm boot_range (PyProof.Rows.callWith_type1 (thn (ha pos pins s σ H _ I h) fun us s1 ⟨vs,H1,I1,r1,q1⟩=>?_) (by rw [hs,hs2]) (by rw [hs2]; rfl)))
 obtain ⟨i,j,e,⟨q1,q2,q3,q4⟩,q⟩:=q1
 subst e
 cases r1 with
 | cons r rr =>
   cases rr with
   | cons r' rr =>
     cases rr
     obtain ⟨t,rfl⟩:=r
     obtain ⟨t',rfl⟩:=r'
     exact call_range_2 (range_it I1 q1 q2 q3 q4 q)
noncomputable def tFor (wi:TI) (g:TG) (tb:TS):TS:=fun D σ H=>wi σ H fun J H1=>∃ W:Nat→Nat→St→Hp→Prop,(∃ m,W 0 m σ H1)∧∀ i m σ H,W i m σ H →
 (J.stop i H∧D.nx σ H) ∨ (J.go i H∧∃ N:St→Hp→Prop,(∀ σ' H',N σ' H'→∃ m',m' < m∧W (i + 1) m' σ' H')∧∀ x H',J.yld i H x H'→g x σ H' fun σ2 H2=>tb { D with nx:=N,ct:=N,bk:=D.nx } σ2 H2)
noncomputable def pinsAt (fp:List Addr) (h:Heap):List (Addr × Obj):=fp.filterMap fun b=>(h.get? b).map fun o=>(b,o)
theorem mem_pinsAt {fp:List Addr} {h:Heap} {b:Addr} {o:Obj} (hb:b∈fp) (e:h.get? b=some o):(b,o)∈pinsAt fp h:=List.mem_filterMap.mpr ⟨b,hb,by rw [e]; rfl⟩
theorem of_pinsAt {fp:List Addr} {h:Heap} {p:Addr × Obj} (hp:p∈pinsAt fp h):p.1∈fp∧h.get? p.1=some p.2:=by
 obtain ⟨b,hb,e⟩:=List.mem_filterMap.mp hp
 cases q:h.get? b with
 | none=>rw [q] at e; cases e
 | some o =>
   rw [q] at e
   have e':(b,o)=p:=Option.some.inj e
   subst e'
   exact ⟨hb,q⟩
theorem Inv.pinned {pins:List (Addr × Obj)} {σ:St} {H:Hp} {s:Shared} {fp:List Addr} (I:Inv X pins σ H s) (hf:∀ b∈fp,FpOk X pins H b) (ho:∀ b∈fp,∃ o,s.heap.get? b=some o∧∀ v,o.data≠.cell v):Inv X (pins++pinsAt fp s.heap) σ H s:=
 I.pins_of fun p hp=>(List.mem_append.mp hp).elim (fun z=>I.pin p (List.mem_append_right _ z)) fun z=>by
   obtain ⟨hb,e⟩:=of_pinsAt z
   obtain ⟨f0,f1,f2,_⟩:=hf p.1 hb
   obtain ⟨o,e',d⟩:=ho p.1 hb
   rw [e] at e'; cases e'
   exact ⟨e,f0,f1,f2,d⟩
theorem Inv.unpinned {pins pl:List (Addr × Obj)} {σ:St} {H:Hp} {s:Shared} (I:Inv X (pins++pl) σ H s):Inv X pins σ H s:=I.pins_of fun p hp=>I.pin p (List.mem_append_right _ (List.mem_append_left _ hp))
theorem ps_for {iter:Expr} {body:List Stmt} {wi:TI} {g:TG} {tb:TS} {pos:Pos} (hp:PassesOwn (model X.prog X.w) X.A X.env X.xe) (hc:X.calm=true) (hi:PI X tg iter wi) (hg:PG X tg g) (hb:PSs X body tb)
   (hs:∀ x,foldedSetIterable iter X.env x=pure x:=by intro _; rfl):PS X (.For tg iter body [] pos) (tFor wi g tb):=by
 intro pins s σ H D I h
 refine wpAny_For (thn (hi pins s σ H _ I h) fun v s1 h1=>thn h1 fun itv s2 h2=>?_) hs
 obtain ⟨it,fp,tn,J,H2,e,I2,T,st2,f2,W,⟨m0,w0⟩,turn⟩:=h2
 subst e
 -- what stays true of the iterator's objects through the loop
 have stat:∀ {H':Hp},(∀ b∈fp,H' b=none)→∀ b∈fp,FpOk X pins H' b:=fun hn b hb=>⟨hn b hb,(f2 b hb).2⟩
 refine codeAny_forLoop_any (fun n s'=>∃ i σ' H',Inv X pins σ' H' s'∧tn i s'.heap∧(∀ b∈fp,H' b=none)∧W i n σ' H') ?_ m0 ⟨0,σ,H2,I2,st2,fun b hb=>(f2 b hb).1,w0⟩
 rintro n s3 ⟨i,σ3,H3,I3,st3,fr3,w3⟩
 rcases turn i n σ3 H3 w3 with ⟨stop,qn⟩ | ⟨go,N,hN,step⟩
 . refine wpAny_passesOwn hp (thn (T.done X rfl rfl rfl hc i pins s3 σ3 H3 X.xe I3 (stat fr3) st3 stop) fun r s4 ⟨hr,I4⟩=>?_)
   subst hr
   exact wpAny_execs_nil ⟨σ3,H3,I4,qn⟩
 . refine wpAny_passesOwn hp (thn (T.item X rfl rfl rfl hc i pins s3 σ3 H3 X.xe I3 (stat fr3) st3 go) fun r s4 ⟨u,hr,h4⟩=>?_)
   subst hr
   refine wpAny_passesOwn hp (thn h4 fun _ s5 ⟨x,H5,I5,r5,y5,st5,fr5⟩=>?_)
   have I5':=I5.pinned (stat fr5) (T.obj _ _ st5)
   refine wpAny_passesOwn hp (thn (hg _ s5 σ3 H5 x u _ I5' r5 (step x H5 y5)) fun _ s6 ⟨σ6,H6,I6,q6⟩=>?_)
   refine wpAny_passesOwn hp (thn (hb _ s6 σ6 H6 _ I6 q6) fun f s7 q7=>?_)
   have again:∀ {σ7:St} {H7:Hp},Inv X (pins++pinsAt fp s5.heap) σ7 H7 s7→N σ7 H7→∃ m,m < n∧∃ i σ' H',Inv X pins σ' H' s7∧tn i s7.heap∧(∀ b∈fp,H' b=none)∧W i m σ' H':=fun {σ7 H7} I7 n7=>by
     obtain ⟨m',hm,w7⟩:=hN σ7 H7 n7
     refine ⟨m',hm,i + 1,σ7,H7,I7.unpinned,T.keep _ _ _ st5 fun b hb o e=>(I7.pin (b,o) (List.mem_append_right _ (List.mem_append_right _ (mem_pinsAt hb e)))).1,fun b hb=>?_,w7⟩
     obtain ⟨o,e,d⟩:=T.obj _ _ st5 b hb
     exact (I7.pin (b,o) (List.mem_append_right _ (List.mem_append_right _ (mem_pinsAt hb e)))).2.1
   cases f with
   | next=>obtain ⟨σ7,H7,I7,n7⟩:=q7; exact again I7 n7
   | cont=>obtain ⟨σ7,H7,I7,n7⟩:=q7; exact again I7 n7
   | brk=>obtain ⟨σ7,H7,I7,q7⟩:=q7; exact ⟨σ7,H7,I7.unpinned,q7⟩
   | ret v=>obtain ⟨x7,σ7,H7,I7,r7,q7⟩:=q7; exact ⟨x7,σ7,H7,I7.unpinned,r7,q7⟩
end
end L2
namespace L2
open PySem PySem.Spec PyProof.Rows
noncomputable abbrev R2:=V→V→Hp→VK→Prop
noncomputable def OpR (X:Cx) (f:Value→Value→Sem Value) (r:R2):Prop:=
 ∀ (pins:List (Addr × Obj)) (s:Shared) (σ:St) (H:Hp) (x y:V) (v u:Value) (Q:VK),Inv X pins σ H s→RelV x v→RelV y u→r x y H Q →
   wpAny (model X.prog X.w) X.A (f v u) (EP X pins σ Q) X.xe s
noncomputable def UnR (X:Cx) (f:Value→Sem Value) (r:V→Hp→VK→Prop):Prop:=
 ∀ (pins:List (Addr × Obj)) (s:Shared) (σ:St) (H:Hp) (x:V) (v:Value) (Q:VK),Inv X pins σ H s→RelV x v→r x H Q →
   wpAny (model X.prog X.w) X.A (f v) (EP X pins σ Q) X.xe s
noncomputable def CallR (X:Cx) (f:Value) (r:List V→Hp→VK→Prop):Prop:=
 ∀ (pins:List (Addr × Obj)) (s:Shared) (σ:St) (H:Hp) (xs:List V) (us:List Value) (Q:VK),Inv X pins σ H s→Vals xs us→r xs H Q →
   wpAny (model X.prog X.w) X.A (call f us) (EP X pins σ Q) X.xe s
noncomputable def TruR (X:Cx) (r:V→Hp→(Bool→Hp→Prop)→Prop):Prop:=
 ∀ (pins:List (Addr × Obj)) (s:Shared) (σ:St) (H:Hp) (x:V) (v:Value) (Q:Bool→Hp→Prop),Inv X pins σ H s→RelV x v→r x H Q →
   wpAny (model X.prog X.w) X.A (truthy v) (TP X pins σ Q) X.xe s
noncomputable def tOp (r:R2) (ta tb:TE):TE:=fun σ H Q=>ta σ H fun x H1=>tb σ H1 fun y H2=>r x y H2 Q
noncomputable def tUn (r:V→Hp→VK→Prop) (ta:TE):TE:=fun σ H Q=>ta σ H fun x H1=>r x H1 Q
noncomputable def rI (C:Int→Int→Prop) (g:Int→Int→V):R2:=fun x y H Q=>∃ i j,x=.int i∧y=.int j∧C i j∧Q (g i j) H
noncomputable def rI0 (g:Int→Int→V):R2:=fun x y H Q=>∃ i j,x=.int i∧y=.int j∧Q (g i j) H
noncomputable def rU (g:Int→V):V→Hp→VK→Prop:=fun x H Q=>∃ i,x=.int i∧Q (g i) H
section
variable {X:Cx} {a b c:Expr} {ta tb tc:TE} {pos:Pos}
theorem binT (ha:PE X a ta) (hb:PE X b tb) {pins:List (Addr × Obj)} {s:Shared} {σ:St} {H:Hp} {R:V→V→Hp→Prop} (I:Inv X pins σ H s)
   (h:ta σ H fun x H1=>tb σ H1 fun y H2=>R x y H2) {Q:Value→Shared→Prop} {f:Value→Value→Sem Value}
   (hf:∀ v u s2 x y H2,Inv X pins σ H2 s2→RelV x v→RelV y u→R x y H2→wpAny (model X.prog X.w) X.A (f v u) Q X.xe s2) :
   wpAny (model X.prog X.w) X.A (eval a X.env) (fun v s₁=>wpAny (model X.prog X.w) X.A (eval b X.env) (fun u s₂=>wpAny (model X.prog X.w) X.A (f v u) Q X.xe s₂) X.xe s₁) X.xe s:=by
 refine thn (ha pins s σ H _ I h) fun v s1 ⟨x,H1,I1,r1,q1⟩=>?_
 refine thn (hb pins s1 σ H1 _ I1 q1) fun u s2 ⟨y,H2,I2,r2,q2⟩=>?_
 exact hf v u s2 x y H2 I2 r1 r2 q2
theorem pe_op {op:Operator} {r:R2} (ho:OpR X (binaryOp op) r) (ha:PE X a ta) (hb:PE X b tb):PE X (.BinOp a op b pos) (tOp r ta tb):=by
 intro pins s σ H Q I h
 exact wpAny_BinOp (binT ha hb I h fun v u s2 x y H2 I2 rx ry q=>ho pins s2 σ H2 x y v u Q I2 rx ry q)
theorem pe_un {op:UnaryOp} {r:V→Hp→VK→Prop} (ho:UnR X (unaryOp op) r) (ha:PE X a ta):PE X (.UnaryOp op a pos) (tUn r ta):=by
 intro pins s σ H Q I h
 exact UnaryOp_ (thn (ha pins s σ H _ I h) fun v s1 ⟨x,H1,I1,r1,q1⟩=>ho pins s1 σ H1 x v Q I1 r1 q1)
theorem opI {f:Value→Value→Sem Value} {C:Int→Int→Prop} {g:Int→Int→Int}
   (rule:∀ (i j:Int) (t u:Tok) (s:Shared) (Q:Value→Shared→Prop) (E:Value→Shared→Prop),C i j→Q (.int (g i j) s.toks) { s with toks:=s.toks + 1 }→wpAny (model X.prog X.w) X.A (f (.int i t) (.int j u)) Q E s) :
   OpR X f (rI C fun i j=>.int (g i j)):=by
 intro pins s σ H x y v u Q I rx ry h
 obtain ⟨i,j,rfl,rfl,hc,q⟩:=h
 obtain ⟨t,rfl⟩:=rx
 obtain ⟨t',rfl⟩:=ry
 exact rule i j t t' s _ _ hc ⟨.int (g i j),H,I.tok _,⟨_,rfl⟩,q⟩
theorem opI0 {f:Value→Value→Sem Value} {g:Int→Int→Int}
   (rule:∀ (i j:Int) (t u:Tok) (s:Shared) (Q:Value→Shared→Prop) (E:Value→Shared→Prop),Q (.int (g i j) s.toks) { s with toks:=s.toks + 1 }→wpAny (model X.prog X.w) X.A (f (.int i t) (.int j u)) Q E s) :
   OpR X f (rI0 fun i j=>.int (g i j)):=by
 intro pins s σ H x y v u Q I rx ry h
 obtain ⟨i,j,rfl,rfl,q⟩:=h
 obtain ⟨t,rfl⟩:=rx
 obtain ⟨t',rfl⟩:=ry
 exact rule i j t t' s _ _ ⟨.int (g i j),H,I.tok _,⟨_,rfl⟩,q⟩
theorem opB0 {f:Value→Value→Sem Value} {g:Int→Int→Bool}
   (rule:∀ (i j:Int) (t u:Tok) (s:Shared) (Q:Value→Shared→Prop) (E:Value→Shared→Prop),Q (.bool (g i j)) s→wpAny (model X.prog X.w) X.A (f (.int i t) (.int j u)) Q E s) :
   OpR X f (rI0 fun i j=>.bl (g i j)):=by
 intro pins s σ H x y v u Q I rx ry h
 obtain ⟨i,j,rfl,rfl,q⟩:=h
 obtain ⟨t,rfl⟩:=rx
 obtain ⟨t',rfl⟩:=ry
 exact rule i j t t' s _ _ ⟨.bl (g i j),H,I,rfl,q⟩
noncomputable def CDiv (i j:Int):Prop:=0 < j∧j < 1073741824
noncomputable def CPow (i j:Int):Prop:=0≤j∧j≤1000000∧i.natAbs < 2 ^ 64
noncomputable def CMul (i j:Int):Prop:=(-(2 ^ 64) < i∧i < 2 ^ 64) ∨ (-(2 ^ 64) < j∧j < 2 ^ 64)
theorem CMul.ok {i j:Int} (h:CMul i j):IntMulOk i j:=by
 rcases h with ⟨h1,h2⟩ | ⟨h1,h2⟩
 . exact .of_left (intBits_le_64 h1 h2)
 . exact .of_right (intBits_le_64 h1 h2)
theorem two_pow_nn (k:Nat):(0:Int)≤2 ^ k:=by
 rw [two_pow_cast]
 exact Int.natCast_nonneg _
theorem op_add:OpR X (binaryOp .Add) (rI0 fun i j=>.int (i + j)):=opI0 fun _ _ _ _ _ _ _ q=>add_int q
theorem op_sub:OpR X (binaryOp .Sub) (rI0 fun i j=>.int (i - j)):=opI0 fun _ _ _ _ _ _ _ q=>sub_int q
theorem op_mul:OpR X (binaryOp .Mult) (rI CMul fun i j=>.int (i * j)):=opI fun _ _ _ _ _ _ _ hc q=>mul_int q hc.ok
theorem op_fdiv:OpR X (binaryOp .FloorDiv) (rI CDiv fun i j=>.int (i / j)):=opI fun i j _ _ _ _ _ hc q=>by
 have h1:(0:Int) < j:=hc.1
 have h2:j < 1073741824:=hc.2
 exact floordiv_int (by omega) (by rw [Int.fdiv_eq_ediv_of_nonneg i (by omega)]; exact q) (.inl (PyProof.noPylong_small (by omega)))
theorem op_mod:OpR X (binaryOp .Mod) (rI (fun _ j=>0 < j) fun i j=>.int (i % j)):=opI fun i j _ _ _ _ _ hc q=>by
 have h1:(0:Int) < j:=hc
 exact mod_int' (by omega) (by rw [Int.fmod_eq_emod_of_nonneg i (by omega)]; exact q)
theorem op_pow:OpR X (binaryOp .Pow) (rI CPow fun i j=>.int (i ^ j.toNat)):=opI fun _ _ _ _ _ _ _ hc q=>pow_int_small hc.1 hc.2.1 hc.2.2 q
theorem op_shl:OpR X (binaryOp .LShift) (rI CPow fun i j=>.int (i * 2 ^ j.toNat)):=opI fun _ _ _ _ _ _ _ hc q=>lshift_int_small hc.1 hc.2.1 hc.2.2 q
theorem op_shr:OpR X (binaryOp .RShift) (rI (fun _ j=>0≤j) fun i j=>.int (i / 2 ^ j.toNat)):=opI fun i j _ _ _ _ _ hc q =>
 rshift_int hc (by rw [Int.fdiv_eq_ediv_of_nonneg i (two_pow_nn _)]; exact q)
theorem op_and:OpR X (binaryOp .BitAnd) (rI0 fun i j=>.int (Builtin.bitAnd i j)):=opI0 fun _ _ _ _ _ _ _ q=>and_int q
theorem iop_add:OpR X (inplaceOp .Add) (rI0 fun i j=>.int (i + j)):=opI0 fun _ _ _ _ _ _ _ q=>iadd_int q
theorem iop_sub:OpR X (inplaceOp .Sub) (rI0 fun i j=>.int (i - j)):=opI0 fun _ _ _ _ _ _ _ q=>isub_int q
theorem iop_mul:OpR X (inplaceOp .Mult) (rI CMul fun i j=>.int (i * j)):=opI fun _ _ _ _ _ _ _ hc q=>imul_int q hc.ok
theorem iop_fdiv:OpR X (inplaceOp .FloorDiv) (rI CDiv fun i j=>.int (i / j)):=opI fun i j _ _ _ _ _ hc q=>by
 have h1:(0:Int) < j:=hc.1
 have h2:j < 1073741824:=hc.2
 exact ifloordiv_int (by omega) (by rw [Int.fdiv_eq_ediv_of_nonneg i (by omega)]; exact q) (.inl (PyProof.noPylong_small (by omega)))
theorem iop_mod:OpR X (inplaceOp .Mod) (rI (fun _ j=>0 < j) fun i j=>.int (i % j)):=opI fun i j _ _ _ _ _ hc q=>by
 have h1:(0:Int) < j:=hc
 exact imod_int (by omega) (by rw [Int.fmod_eq_emod_of_nonneg i (by omega)]; exact q)
theorem unI {f:Value→Sem Value} {g:Int→Int}
   (rule:∀ (i:Int) (t:Tok) (s:Shared) (Q:Value→Shared→Prop) (E:Value→Shared→Prop),Q (.int (g i) s.toks) { s with toks:=s.toks + 1 }→wpAny (model X.prog X.w) X.A (f (.int i t)) Q E s) :
   UnR X f (rU fun i=>.int (g i)):=by
 intro pins s σ H x v Q I rx h
 obtain ⟨i,rfl,q⟩:=h
 obtain ⟨t,rfl⟩:=rx
 exact rule i t s _ _ ⟨.int (g i),H,I.tok _,⟨_,rfl⟩,q⟩
theorem un_neg:UnR X (unaryOp .USub) (rU fun i=>.int (-i)):=unI fun _ _ _ _ _ q=>neg_int q
end
noncomputable def scal:V→V→Bool
 | .non,.non=>true | .non,.int _=>true | .int _,.non=>true | .non,.bl _=>true | .bl _,.non=>true | .non,.str _=>true | .str _,.non=>true
 | .int _,.int _=>true | .bl _,.bl _=>true | .str _,.str _=>true | .byt _,.byt _=>true
 | .int _,.str _=>true | .str _,.int _=>true | .bl _,.str _=>true | .str _,.bl _=>true
 | _,_=>false
noncomputable def rEq:R2:=fun x y H Q=>scal x y=true∧Q (.bl (decide (x=y))) H
noncomputable def rNe:R2:=fun x y H Q=>scal x y=true∧Q (.bl (!decide (x=y))) H
theorem dec_int {i j:Int}:decide (V.int i=V.int j)=(i == j):=by
 rw [Bool.eq_iff_iff]
 simp
theorem dec_bl {i j:Bool}:decide (V.bl i=V.bl j)=(i == j):=by
 rw [Bool.eq_iff_iff]
 simp
theorem dec_str {i j:Str}:decide (V.str i=V.str j)=(i == j):=by
 rw [Bool.eq_iff_iff]
 simp
theorem dec_byt {i j:Array UInt8}:decide (V.byt i=V.byt j)=(i.toList == j.toList):=by
 rw [Bool.eq_iff_iff]
 cases i
 cases j
 simp
section
variable {X:Cx} {a b c:Expr} {ta tb tc:TE} {pos:Pos}
theorem fin_bl {pins:List (Addr × Obj)} {σ:St} {H:Hp} {s:Shared} {Q:VK} {k k':Bool} (I:Inv X pins σ H s) (q:Q (.bl k) H) (e:k=k'):EP X pins σ Q (.bool k') s:=by
 subst e
 exact ⟨.bl k,H,I,rfl,q⟩
theorem op_eq:OpR X (compareOp .Eq) rEq:=by
 intro pins s σ H x y v u Q I rx ry h
 obtain ⟨hs,q⟩:=h
 cases x with
 | non =>
   cases rx
   cases y with
   | non=>cases ry; exact PySem.EqNone.eq_none_none (fin_bl I q (by simp))
   | bl j=>cases ry; exact PySem.EqNone.eq_none_bool (fin_bl I q (by simp))
   | int j=>obtain ⟨t',rfl⟩:=ry; exact PySem.EqNone.eq_none_int (fin_bl I q (by simp))
   | str j=>obtain ⟨t',rfl⟩:=ry; exact PySem.EqNone.eq_none_str (fin_bl I q (by simp))
   | _=>exact absurd (show false=true from hs) Bool.false_ne_true
 | bl i =>
   cases rx
   cases y with
   | non=>cases ry; exact PySem.EqNone.eq_bool_none (fin_bl I q (by simp))
   | bl j=>cases ry; exact eq_bool (fin_bl I q dec_bl)
   | str j=>obtain ⟨t',rfl⟩:=ry; exact PySem.EqMixed.eq_bool_str (fin_bl I q (by simp))
   | _=>exact absurd (show false=true from hs) Bool.false_ne_true
 | int i =>
   obtain ⟨t,rfl⟩:=rx
   cases y with
   | non=>cases ry; exact PySem.EqNone.eq_int_none (fin_bl I q (by simp))
   | int j=>obtain ⟨t',rfl⟩:=ry; exact eq_int (fin_bl I q dec_int)
   | str j=>obtain ⟨t',rfl⟩:=ry; exact PySem.EqMixed.eq_int_str (fin_bl I q (by simp))
   | _=>exact absurd (show false=true from hs) Bool.false_ne_true
 | str i =>
   obtain ⟨t,rfl⟩:=rx
   cases y with
   | non=>cases ry; exact PySem.EqNone.eq_str_none (fin_bl I q (by simp))
   | bl j=>cases ry; exact PySem.EqMixed.eq_str_bool (fin_bl I q (by simp))
   | int j=>obtain ⟨t',rfl⟩:=ry; exact PySem.EqMixed.eq_str_int (fin_bl I q (by simp))
   | str j=>obtain ⟨t',rfl⟩:=ry; exact eq_str (fin_bl I q dec_str)
   | _=>exact absurd (show false=true from hs) Bool.false_ne_true
 | byt i =>
   obtain ⟨t,rfl⟩:=rx
   cases y with
   | byt j=>obtain ⟨t',rfl⟩:=ry; exact PySem.W.eq_bytes (fin_bl I q dec_byt)
   | _=>exact absurd (show false=true from hs) Bool.false_ne_true
 | _=>cases y <;> exact absurd (show false=true from hs) Bool.false_ne_true
theorem op_ne:OpR X (compareOp .NotEq) rNe:=by
 intro pins s σ H x y v u Q I rx ry h
 obtain ⟨hs,q⟩:=h
 cases x with
 | non =>
   cases rx
   cases y with
   | non=>cases ry; exact PySem.EqNone.ne_none_none (fin_bl I q (by simp))
   | bl j=>cases ry; exact PySem.EqNone.ne_none_bool (fin_bl I q (by simp))
   | int j=>obtain ⟨t',rfl⟩:=ry; exact PySem.EqNone.ne_none_int (fin_bl I q (by simp))
   | str j=>obtain ⟨t',rfl⟩:=ry; exact PySem.EqNone.ne_none_str (fin_bl I q (by simp))
   | _=>exact absurd (show false=true from hs) Bool.false_ne_true
 | bl i =>
   cases rx
   cases y with
   | non=>cases ry; exact PySem.EqNone.ne_bool_none (fin_bl I q (by simp))
   | bl j=>cases ry; exact ne_bool (fin_bl I q (congrArg not dec_bl))
   | str j=>obtain ⟨t',rfl⟩:=ry; exact PySem.EqMixed.ne_bool_str (fin_bl I q (by simp))
   | _=>exact absurd (show false=true from hs) Bool.false_ne_true
 | int i =>
   obtain ⟨t,rfl⟩:=rx
   cases y with
   | non=>cases ry; exact PySem.EqNone.ne_int_none (fin_bl I q (by simp))
   | int j=>obtain ⟨t',rfl⟩:=ry; exact ne_int (fin_bl I q (congrArg not dec_int))
   | str j=>obtain ⟨t',rfl⟩:=ry; exact PySem.EqMixed.ne_int_str (fin_bl I q (by simp))
   | _=>exact absurd (show false=true from hs) Bool.false_ne_true
 | str i =>
   obtain ⟨t,rfl⟩:=rx
   cases y with
   | non=>cases ry; exact PySem.EqNone.ne_str_none (fin_bl I q (by simp))
   | bl j=>cases ry; exact PySem.EqMixed.ne_str_bool (fin_bl I q (by simp))
   | int j=>obtain ⟨t',rfl⟩:=ry; exact PySem.EqMixed.ne_str_int (fin_bl I q (by simp))
   | str j=>obtain ⟨t',rfl⟩:=ry; exact ne_str (fin_bl I q (congrArg not dec_str))
   | _=>exact absurd (show false=true from hs) Bool.false_ne_true
 | byt i =>
   obtain ⟨t,rfl⟩:=rx
   cases y with
   | byt j=>obtain ⟨t',rfl⟩:=ry; exact PySem.W.ne_bytes (fin_bl I q (congrArg not dec_byt))
   | _=>exact absurd (show false=true from hs) Bool.false_ne_true
 | _=>cases y <;> exact absurd (show false=true from hs) Bool.false_ne_true
theorem op_lt:OpR X (compareOp .Lt) (rI0 fun i j=>.bl (decide (i < j))):=opB0 fun _ _ _ _ _ _ _ q=>lt_int q
theorem op_le:OpR X (compareOp .LtE) (rI0 fun i j=>.bl (decide (i≤j))):=opB0 fun _ _ _ _ _ _ _ q=>le_int q
theorem op_gt:OpR X (compareOp .Gt) (rI0 fun i j=>.bl (decide (j < i))):=opB0 fun _ _ _ _ _ _ _ q=>gt_int q
theorem op_ge:OpR X (compareOp .GtE) (rI0 fun i j=>.bl (decide (j≤i))):=opB0 fun _ _ _ _ _ _ _ q=>ge_int q
theorem op_isN:OpR X (compareOp .Is) (fun x y H Q=>y=.non∧Q (.bl (decide (x=.non))) H):=by
 intro pins s σ H x y v u Q I rx ry h
 obtain ⟨rfl,q⟩:=h
 cases ry
 refine is_none_gen (fin_bl I q ?_)
 cases x <;> first
   | (cases rx; rfl)
   | (obtain ⟨t,rfl⟩:=rx; rfl)
theorem op_notN:OpR X (compareOp .IsNot) (fun x y H Q=>y=.non∧Q (.bl (!decide (x=.non))) H):=by
 intro pins s σ H x y v u Q I rx ry h
 obtain ⟨rfl,q⟩:=h
 cases ry
 refine isnot_none_gen (fin_bl I q ?_)
 cases x <;> first
   | (cases rx; rfl)
   | (obtain ⟨t,rfl⟩:=rx; rfl)
theorem pe_cmpR {op:CmpOp} {r:R2} (ho:OpR X (compareOp op) r) (ha:PE X a ta) (hb:PE X b tb) (hm:behindInMarks op b=false):PE X (.Compare a [op] [b] pos) (tOp r ta tb):=by
 intro pins s σ H Q I h
 exact wpAny_Compare1 (binT ha hb I h fun v u s2 x y H2 I2 rx ry q=>ho pins s2 σ H2 x y v u Q I2 rx ry q) hm
noncomputable def tTest (t:TE):TT:=fun σ H Q=>t σ H fun x H'=>∃ k,x=.bl k∧Q k H'
theorem pt_cmpR {op:CmpOp} {r:R2} (ho:OpR X (compareOp op) r) (ha:PE X a ta) (hb:PE X b tb) (hm:behindInMarks op b=false):PT X (.Compare a [op] [b] pos) (tTest (tOp r ta tb)):=by
 intro pins s σ H Q I h
 refine wpAny_isTrue_Compare1 (thn (ha pins s σ H _ I h) fun v s1 ⟨x,H1,I1,r1,q1⟩=>thn (hb pins s1 σ H1 _ I1 q1) fun u s2 ⟨y,H2,I2,r2,q2⟩ =>
   thn (ho pins s2 σ H2 x y v u _ I2 r1 r2 q2) fun c s3 ⟨z,H3,I3,r3,k,e,q3⟩=>?_) hm
 subst e
 cases r3
 exact wpAny_truthy_bool ⟨H3,I3,q3⟩
noncomputable def tChain (r r':R2) (ta tb tc:TE):TE:=fun σ H Q=>ta σ H fun x H1=>tb σ H1 fun y H2=>r x y H2 fun z H3=>∃ k,z=.bl k ∧
 (if k=true then tc σ H3 fun w' H4=>r' y w' H4 Q else Q (.bl false) H3)
theorem pe_chain {op op':CmpOp} {r r':R2} (ho:OpR X (compareOp op) r) (ho':OpR X (compareOp op') r') (ha:PE X a ta) (hb:PE X b tb) (hc:PE X c tc)
   (hm:lastMarks [op,op'] [b,c]=false:=by with_unfolding_all rfl):PE X (.Compare a [op,op'] [b,c] pos) (tChain r r' ta tb tc):=by
 intro pins s σ H Q I h
 refine Compare_chain (thn (ha pins s σ H _ I h) fun v s1 ⟨x,H1,I1,r1,q1⟩=>chain_link (thn (hb pins s1 σ H1 _ I1 q1) fun u s2 ⟨y,H2,I2,r2,q2⟩ =>
   thn (ho pins s2 σ H2 x y v u _ I2 r1 r2 q2) fun d s3 ⟨z,H3,I3,r3,k,e,q3⟩=>?_)) hm
 subst e
 cases r3
 refine wpAny_truthy_bool ?_
 cases k with
 | false=>exact ite_ff ⟨.bl false,H3,I3,rfl,q3⟩
 | true=>exact ite_tt (chain_last (thn (hc pins s3 σ H3 _ I3 q3) fun w' s4 ⟨z',H4,I4,r4,q4⟩=>ho' pins s4 σ H4 y z' u w' Q I4 r2 r4 q4))
theorem pt_chain {op op':CmpOp} {r r':R2} (ho:OpR X (compareOp op) r) (ho':OpR X (compareOp op') r') (ha:PE X a ta) (hb:PE X b tb) (hc:PE X c tc)
   (hm:lastMarks [op,op'] [b,c]=false:=by with_unfolding_all rfl):PT X (.Compare a [op,op'] [b,c] pos) (tTest (tChain r r' ta tb tc)):=by
 intro pins s σ H Q I h
 refine isTrue_chain (thn (ha pins s σ H _ I h) fun v s1 ⟨x,H1,I1,r1,q1⟩=>test_link (thn (hb pins s1 σ H1 _ I1 q1) fun u s2 ⟨y,H2,I2,r2,q2⟩ =>
   thn (ho pins s2 σ H2 x y v u _ I2 r1 r2 q2) fun d s3 ⟨z,H3,I3,r3,k,e,q3⟩=>?_)) hm
 subst e
 cases r3
 refine wpAny_truthy_bool ?_
 cases k with
 | false =>
   obtain ⟨k',e',q'⟩:=q3
   cases e'
   exact ite_ff ⟨H3,I3,q'⟩
 | true =>
   refine ite_tt (test_last (thn (hc pins s3 σ H3 _ I3 q3) fun w' s4 ⟨z',H4,I4,r4,q4⟩=>thn (ho' pins s4 σ H4 y z' u w' _ I4 r2 r4 q4) fun d' s5 ⟨z2,H5,I5,r5,k2,e2,q5⟩=>?_))
   subst e2
   cases r5
   exact wpAny_truthy_bool ⟨H5,I5,q5⟩
noncomputable def TruV (K:PySem.W.Frag) (x:V) (H:Hp) (k:Bool):Prop:=
 match x with
 | .non=>k=false
 | .bl b=>k=b
 | .int i=>k=(i != 0)
 | .str y=>y.length≤sizeLine∧k=((y.length:Int) != 0)
 | .byt y=>y.size≤sizeLine∧k=((y.size:Int) != 0)
 | .ref p=>(∃ xs,SqL K H p xs∧k=!xs.isEmpty) ∨ (∃ xs,SqT K H p xs∧k=!xs.isEmpty) ∨ ∃ kvs,H p=some (.dK kvs)∧k=!kvs.isEmpty
 | _=>False
theorem isEmpty_kv {κ:Type} {kvs:List (κ × V)} {vs:List (κ × Value)} (r:KV kvs vs):(!vs.isEmpty)=!kvs.isEmpty:=by
 cases r <;> rfl
theorem isEmpty_of {xs:List V} {its:List Value} (r:Vals xs its):(!its.toArray.isEmpty)=!xs.isEmpty:=by
 cases r <;> simp
theorem line63:(sizeLine:Nat) < 2 ^ 63:=by rw [sizeLine_eq]; decide
theorem tru_ok:TruR X (fun x H Q=>∃ k,TruV X.K x H k∧Q k H):=by
 intro pins s σ H x v Q I rx h
 obtain ⟨k,e,q⟩:=h
 have hl:=line63
 have hs:sizeLine=16777216:=sizeLine_eq
 cases x with
 | non =>
   cases rx
   have e':k=false:=e
   subst e'
   exact truthy_none ⟨H,I,q⟩
 | bl b =>
   cases rx
   have e':k=b:=e
   subst e'
   exact wpAny_truthy_bool ⟨H,I,q⟩
 | int i =>
   obtain ⟨t,rfl⟩:=rx
   have e':k=(i != 0):=e
   subst e'
   exact PySem.P.truthy_int ⟨H,I,q⟩
 | str y =>
   obtain ⟨t,rfl⟩:=rx
   obtain ⟨hy,e'⟩:y.length≤sizeLine∧k=((y.length:Int) != 0):=e
   subst e'
   exact PySem.P.truthy_str (by omega) ⟨H,I.tok _,q⟩
 | byt y =>
   obtain ⟨t,rfl⟩:=rx
   obtain ⟨hy,e'⟩:y.size≤sizeLine∧k=((y.size:Int) != 0):=e
   subst e'
   exact PySem.W.truthy_bytes (by omega) ⟨H,I.tok _,q⟩
 | ref p =>
   cases rx
   have e':(∃ xs,SqL X.K H p xs∧k=!xs.isEmpty) ∨ (∃ xs,SqT X.K H p xs∧k=!xs.isEmpty) ∨ ∃ kvs,H p=some (.dK kvs)∧k=!kvs.isEmpty:=e
   rcases e' with ⟨xs,hx,e'⟩ | ⟨xs,hx,e'⟩ | ⟨kvs,hx,e'⟩
   . subst e'
     obtain ⟨its,r,pl,hz⟩:=I.list hx
     have hlen:=r.length
     exact wpAny_truthy_list pl.isList (by simp only [List.size_toArray]; omega) ⟨H,I.tok _,by rw [isEmpty_of r]; exact q⟩
   . subst e'
     obtain ⟨its,r,pl,hz⟩:=I.tuple hx
     have hlen:=r.length
     exact truthy_tuple pl (by simp only [List.size_toArray]; omega) ⟨H,I.tok _,by rw [isEmpty_of r]; exact q⟩
   . subst e'
     obtain ⟨hz,hS,vs,r,m⟩:kvs.length≤sizeLine∧(p == sysModules)=false∧∃ vs,KV kvs vs∧s.heap.DictOf (mixKind X.prog X.w) p vs:=I.hok p _ hx
     have hlen:kvs.length=vs.length:=Paired.length r
     exact wpAny_truthy_dict hS m (by omega) ⟨H,I.tok _,by rw [isEmpty_kv r]; exact q⟩
 | _=>exact (show False from e).elim
theorem pt_truth (ha:PE X a ta) (he:∀ whole,isTrue a X.env whole=(do let v ← whole; standAt a.pos; holding [v] (truthy v))) :
   PT X a (fun σ H Q=>ta σ H fun x H'=>∃ k,TruV X.K x H' k∧Q k H'):=by
 intro pins s σ H Q I h
 exact isTrue_plain (thn (ha pins s σ H _ I h) fun v s1 ⟨x,H1,I1,r1,q1⟩=>tru_ok pins s1 σ H1 x v Q I1 r1 q1) (he _)
theorem op_add_str:OpR X (binaryOp .Add) (fun x y H Q=>∃ i j,x=.str i∧y=.str j∧i.length + j.length≤sizeLine∧Q (.str (i++j)) H):=by
 intro pins s σ H x y v u Q I rx ry h
 obtain ⟨i,j,rfl,rfl,hz,q⟩:=h
 obtain ⟨t,rfl⟩:=rx
 obtain ⟨t',rfl⟩:=ry
 exact add_str (fun t' tk=>⟨.str (i++j),H,I.tok _,⟨_,rfl⟩,q⟩) hz
theorem vals1 {x:V} {us:List Value} (r:Vals [x] us):∃ u,us=[u]∧RelV x u:=by
 cases r with
 | cons r1 r2=>cases r2; exact ⟨_,rfl,r1⟩
theorem vals2 {x y:V} {us:List Value} (r:Vals [x,y] us):∃ u w',us=[u,w']∧RelV x u∧RelV y w':=by
 cases r with
 | cons r1 r2 =>
   cases r2 with
   | cons r3 r4=>cases r4; exact ⟨_,_,rfl,r1,r3⟩
theorem call_max2 (hc:X.calm=true):CallR X (.builtin "max") (fun xs H Q=>∃ i j,xs=[.int i,.int j]∧Q (.int (if j > i then j else i)) H):=by
 intro pins s σ H xs us Q I r h
 obtain ⟨i,j,rfl,q⟩:=h
 obtain ⟨u,w',rfl,⟨t,rfl⟩,⟨t',rfl⟩⟩:=vals2 r
 refine max_two_ints (I.ok.hd hc) fun h' tk k=>⟨_,H,I.kept k,?_,q⟩
 by_cases hj:j > i
 . rw [if_pos hj,if_pos hj]; exact ⟨_,rfl⟩
 . rw [if_neg hj,if_neg hj]; exact ⟨_,rfl⟩
theorem call_min2 (hc:X.calm=true):CallR X (.builtin "min") (fun xs H Q=>∃ i j,xs=[.int i,.int j]∧Q (.int (if j < i then j else i)) H):=by
 intro pins s σ H xs us Q I r h
 obtain ⟨i,j,rfl,q⟩:=h
 obtain ⟨u,w',rfl,⟨t,rfl⟩,⟨t',rfl⟩⟩:=vals2 r
 refine min_two_ints (I.ok.hd hc) fun h' tk k=>⟨_,H,I.kept k,?_,q⟩
 by_cases hj:j < i
 . rw [if_pos hj,if_pos hj]; exact ⟨_,rfl⟩
 . rw [if_neg hj,if_neg hj]; exact ⟨_,rfl⟩
theorem call_int1:CallR X (.type "int") (fun xs H Q=>(∃ i,xs=[.int i]∧Q (.int i) H) ∨ ∃ k,xs=[.bl k]∧Q (.int (if k then 1 else 0)) H):=by
 intro pins s σ H xs us Q I r h
 rcases h with ⟨i,rfl,q⟩ | ⟨k,rfl,q⟩
 . obtain ⟨u,rfl,t,rfl⟩:=vals1 r
   exact call_int_int ⟨.int i,H,I,⟨_,rfl⟩,q⟩
 . obtain ⟨u,rfl,r1⟩:=vals1 r
   cases r1
   exact call_int_bool ⟨.int (if k then 1 else 0),H,I.tok _,⟨_,rfl⟩,q⟩
theorem call_str_int:CallR X (.type "str") (fun xs H Q=>∃ i,xs=[.int i]∧i.natAbs.log2 < 1920∧Q (.str (toString i)) H):=by
 intro pins s σ H xs us Q I r h
 obtain ⟨i,rfl,hz,q⟩:=h
 obtain ⟨u,rfl,t,rfl⟩:=vals1 r
 exact PySem.P.str_of_int hz ⟨.str _,H,I.tok _,⟨_,rfl⟩,q⟩
theorem call_divmod:CallR X (.builtin "divmod") (fun xs H Q=>∃ i j,xs=[.int i,.int j]∧CDiv i j∧∀ p,H p=none→Q (.ref p) (upd H p (.tup [.int (i / j),.int (i % j)]))):=by
 intro pins s σ H xs us Q I r h
 obtain ⟨i,j,rfl,⟨h1,h2⟩,q⟩:=h
 obtain ⟨u,w',rfl,⟨t,rfl⟩,⟨t',rfl⟩⟩:=vals2 r
 refine divmod_int (by omega) ?_ (.inl (PyProof.noPylong_small (by omega)))
 rw [Int.fdiv_eq_ediv_of_nonneg i (by omega),Int.fmod_eq_emod_of_nonneg i (by omega)]
 have hn:H s.heap.objs.size=none:=I.hok.fresh (Nat.le_refl _)
 refine ⟨.ref s.heap.objs.size,_,?_,rfl,q _ hn⟩
 refine I.laid (fun b o e=>Heap.get?_push_of_some _ e) (Nat.le_refl _) ⟨by simp only [List.length_cons,List.length_nil]; rw [sizeLine_eq]; decide,[.int (i / j) s.toks,.int (i % j) (s.toks + 1)],.cons ⟨_,rfl⟩ (.cons ⟨_,rfl⟩ .nil),?_⟩
 exact ⟨_,Heap.get?_push_size s.heap rfl,rfl,0,rfl,rfl⟩
end
end L2
namespace L2
open PySem PySem.Spec PyProof.Rows
structure ObjM (h:Heap) (x dx C:Addr) (mA:Str→Option Value):Prop where
 obj:h.get? x=some (PySem.W.instObj C dx)
 ns:h.Ns1 dx mA
 ne:dx≠x
theorem lookIn_ns {h:Heap} {dx:Addr} {mA:Str→Option Value} (n:h.Ns1 dx mA):∃ od,h.get? dx=some od∧∀ name,PySem.W.lookIn name od=some (mA name):=by
 obtain ⟨o,es,ep,ho,hd,hk,_,hm⟩:=n
 refine ⟨o,ho,fun name=>?_⟩
 have e:=hm name
 unfold nsFind findBy at e
 rw [←Array.find?_toList] at e
 unfold PySem.W.lookIn
 rw [hd]
 dsimp only
 split
 . rename_i y q
   rw [q] at e
   exact congrArg some e
 . rename_i q
   rw [q] at e
   have a:es.toList.any (·.refKey)=false:=by
     rw [List.any_eq_false]
     intro y hy
     obtain ⟨z,t,hkey⟩:=hk y (Array.mem_toList_iff.mp hy)
     simp [DictEntry.refKey,hkey]
   have a':¬ es.toList.any (·.refKey)=true:=by rw [a]; exact Bool.false_ne_true
   rw [if_neg a']
   exact congrArg some e
theorem ObjM.look {h:Heap} {x dx C:Addr} {mA:Str→Option Value} (I:ObjM h x dx C mA):∃ od,PySem.W.InstAt h x (PySem.W.instObj C dx) C (some od)∧∀ name,PySem.W.lookIn name od=some (mA name):=
 let ⟨od,ho,hl⟩:=lookIn_ns I.ns
 ⟨od,⟨I.obj,rfl,rfl,ho⟩,hl⟩
section
variable {prog:Program} {w:World} {A:Around} {E:Value→Shared→Prop} {s:Shared} {K:PySem.W.Frag} {x dx C f:Addr} {mA:Str→Option Value} {name:Str} {v:Value}
end
section
variable {P:Program} {w:World} {H H':Hp} {h h':Heap} {a C dx:Addr} {fs fs':List (Str × V)}
theorem ins_get (hok:HOk P w H h) (e:H a=some (.ins C dx fs)):∃ mA,ObjM h a dx C mA∧(∀ f,RelO (fs.lookup f) (mA f))∧PySem.Within mA (fs.map (·.1))∧fs.length≤1000∧H dx=some (.own a):=by
 obtain ⟨d,z,ne,ob,mA,n,r,q⟩:=(show ObjOk P w H h a (.ins C dx fs) from hok a _ e)
 exact ⟨mA,⟨ob,n,ne⟩,r,q,z,d⟩
end
structure Cls (K:PySem.W.Frag) (C:Addr):Prop where
 pg:PySem.W.plainGet K C Str.empty=true
 hd:PySem.W.hasDictIn K C=true
 po:PySem.W.plainOver K C=true
 sa:PySem.W.findIn K (.ref C) "__setattr__"=some (some (.builtin "object.__setattr__"))
theorem Cls.get {K:PySem.W.Frag} {C:Addr} (c:Cls K C) (f:Str):PySem.W.plainGet K C f=true:=c.pg
section
variable {X:Cx} {pins:List (Addr × Obj)} {σ:St} {H:Hp} {s:Shared} {a C dx:Addr} {fs:List (Str × V)} {f:Str} {v:V} {A:Around} {E:Value→Shared→Prop}
end
section
variable {X:Cx} {o e value:Expr} {f:Str} {pos pos' tpos:Pos} {ta tv:TE}
end
section
variable {X:Cx} {pins:List (Addr × Obj)} {σ:St} {H:Hp} {s:Shared} {A:Around} {E:Value→Shared→Prop} {Q:Value→Shared→Prop} {c:Value} {b:Bool}
inductive TyOf (K:PySem.W.Frag) (H:Hp):V→Value→Prop where
 | non:TyOf K H .non (.type "NoneType")
 | bl (x:Bool):TyOf K H (.bl x) (.type "bool")
 | int (i:Int):TyOf K H (.int i) (.type "int")
 | str (x:Str):TyOf K H (.str x) (.type "str")
 | flt (x:UInt64):TyOf K H (.flt x) (.type "float")
 | lst {a:Addr} {xs:List V} (e:H a=some (.lst xs)):TyOf K H (.ref a) (.type "list")
 | frz {a:Addr} {o:Obj} {xs:List V} (e:H a=some (.frz o (.lst xs))):TyOf K H (.ref a) (.type "list")
 | tup {a:Addr} {xs:List V} (e:H a=some (.tup xs)):TyOf K H (.ref a) (.type "tuple")
 | dK {a:Addr} {kvs:List (Key × V)} (e:H a=some (.dK kvs)):TyOf K H (.ref a) (.type "dict")
 | dT {a:Addr} {kvs:List (List Key × V)} (e:H a=some (.dT kvs)):TyOf K H (.ref a) (.type "dict")
 | ins {a C dx:Addr} {fs:List (Str × V)} (e:H a=some (.ins C dx fs)) (cl:Cls K C) (ha:PySem.W.findIn K (.ref C) "__class__"=some (some (.builtin "object.__class__")))
     (hn:PySem.W.specialIn K (.builtin "object.__class__") "__get__"=some (some (.builtin "getset_descriptor.__get__"))) (htk:PySem.W.takesIn K (.builtin "object.__class__")=some true)
     (hm:PySem.W.mroIn K C (.type "object")=some true):TyOf K H (.ref a) (.ref C)
theorem isinst_ok {x:V} {u t:Value} (I:Inv X pins σ H s) (rx:RelV x u) (ty:TyOf X.K H x t) (e:PySem.W.kitOne X.K t c=some b) (h:∀ tk,Q (.bool b) { s with toks:=tk }) :
   wpAny (model X.prog X.w) A (call (.builtin "isinstance") [u,c]) Q E s:=by
 cases ty with
 | non=>cases (show u=Value.none from rx); exact PySem.W.kia_one PySem.W.kitx_none I.kIn True.intro e (fun z=>nomatch z) h
 | bl y=>cases (show u=Value.bool y from rx); exact PySem.W.kia_one PySem.W.kitx_bool I.kIn True.intro e (fun z=>nomatch z) h
 | int i=>obtain ⟨t,q⟩:=(show ∃ t,u=Value.int i t from rx); cases q; exact PySem.W.kia_one PySem.W.kitx_int I.kIn True.intro e (fun z=>nomatch z) h
 | str y=>obtain ⟨t,q⟩:=(show ∃ t,u=Value.str y t from rx); cases q; exact PySem.W.kia_one PySem.W.kitx_str I.kIn True.intro e (fun z=>nomatch z) h
 | flt y=>obtain ⟨t,q⟩:=(show ∃ t,u=Value.float y t from rx); cases q; exact PySem.W.kia_one PySem.W.kitx_float I.kIn True.intro e (fun z=>nomatch z) h
 | @lst a xs ea =>
   cases (show u=Value.ref a from rx)
   obtain ⟨_,_,n,_,h1⟩:=(show ObjOk X.prog X.w H s.heap a (.lst xs) from I.hok a _ ea)
   exact PySem.W.kia_one PySem.W.kitx_list I.kIn ⟨_,h1,rfl⟩ e (fun z=>nomatch z) h
 | @frz a ob xs ea =>
   cases (show u=Value.ref a from rx)
   obtain ⟨_,_,_,n,_,h1⟩:=(show ObjOk X.prog X.w H s.heap a (.frz ob (.lst xs)) from I.hok a _ ea)
   exact PySem.W.kia_one PySem.W.kitx_list I.kIn ⟨_,h1,rfl⟩ e (fun z=>nomatch z) h
 | @tup a xs ea =>
   cases (show u=Value.ref a from rx)
   obtain ⟨_,_,_,p⟩:=(show ObjOk X.prog X.w H s.heap a (.tup xs) from I.hok a _ ea)
   obtain ⟨o,h1,h2,_⟩:=p
   exact PySem.W.kia_one PySem.W.kitx_tuple I.kIn ⟨o,h1,h2⟩ e (fun z=>nomatch z) h
 | @dK a kvs ea =>
   cases (show u=Value.ref a from rx)
   obtain ⟨_,_,vs,_,p⟩:=(show ObjOk X.prog X.w H s.heap a (.dK kvs) from I.hok a _ ea)
   obtain ⟨o,es,ep,h1,h2,_⟩:=p
   exact PySem.W.kia_one PySem.W.kitx_dict I.kIn ⟨o,h1,h2.1⟩ e (fun z=>nomatch z) h
 | @dT a kvs ea =>
   cases (show u=Value.ref a from rx)
   obtain ⟨_,_,xs,_,o,es,ep,h1,h2,_⟩:=(show ObjOk X.prog X.w H s.heap a (.dT kvs) from I.hok a _ ea)
   exact PySem.W.kia_one PySem.W.kitx_dict I.kIn ⟨o,h1,h2.1⟩ e (fun z=>nomatch z) h
 | @ins a C dx fs ea cl ha hn htk hm =>
   cases (show u=Value.ref a from rx)
   obtain ⟨mA,O,_⟩:=ins_get I.hok ea
   obtain ⟨od,J,_⟩:=O.look
   exact PySem.W.kia_one (PySem.W.kitx_own (cl.get _) cl.hd ha hn htk hm) I.kIn J e (fun z=>nomatch z) h
end
end L2
namespace L2
open PySem PySem.Spec PyProof.Rows
structure Room (k:Nat) (A:Around):Prop where
 hd:A.handled=none
 dp:A.depth + 3 * k + 5 < recursionLimit
 un:A.units + 16 * k + 200 < cLine
 gd:A.guards=some []
theorem Room.deeper {k:Nat} {A:Around} (r:Room (k + 1) A) (env:Env):Room k (A.deeper env):=
 ⟨r.hd,by have:=r.dp; show A.depth + 1 + 3 * k + 5 < _; omega,by have:=r.un; show A.units + 3 + 16 * k + 200 < _; omega,r.gd⟩
theorem Room.depth {k:Nat} {A:Around} (r:Room k A):A.depth < recursionLimit:=by have:=r.dp; omega
noncomputable def tNil:TA:=fun _ H Q=>Q [] H
noncomputable def tCons (ta:TE) (tr:TA):TA:=fun σ H Q=>ta σ H fun x H1=>tr σ H1 fun xs H2=>Q (x :: xs) H2
section
variable {X:Cx} {e:Expr} {es:List Expr} {te:TE} {t:TA} {pos:Pos}
theorem pa_nil:PA X [] tNil:=fun _ _ _ _ H Q I h=>Calls.spliced_nil ⟨[],H,I,.nil,h⟩
theorem pa_cons (ha:PE X e te) (hr:PA X es t) (hs:starEach (e :: es) X.env=(false,eval e X.env) :: starEach es X.env:=by rfl):PA X (e :: es) (tCons te t):=by
 intro pos pins s σ H Q I h
 rw [hs]
 show wpAny _ _ (spliced ((false,eval e X.env) :: backTo pos (starEach es X.env))) _ _ s
 refine Calls.spliced_cons (thn (ha pins s σ H _ I h) fun u s1 ⟨x,H1,I1,r1,q1⟩=>?_)
 exact thn (hr pos pins s1 σ H1 _ I1 q1) fun us s2 ⟨xs,H2,I2,r2,q2⟩=>⟨x :: xs,H2,I2,.cons r1 r2,q2⟩
noncomputable def tTup (t:TA):TE:=fun σ H Q=>t σ H fun xs H1=>xs.length≤sizeLine∧∀ p,H1 p=none→Q (.ref p) (upd H1 p (.tup xs))
noncomputable def tLst (t:TA):TE:=fun σ H Q=>t σ H fun xs H1=>xs.length≤sizeLine∧∀ p,H1 p=none→Q (.ref p) (upd H1 p (.lst xs))
theorem pe_tup {x1} (h:PA X es t):PE X (.Tuple es x1 pos) (tTup t):=by
 intro pins s σ H Q I hq
 refine wpAny_Tuple_spliced (thn (h pos pins s σ H _ I hq) fun us s1 ⟨xs,H1,I1,r,z,q⟩=>⟨by rw [←r.length]; exact z,?_⟩)
 have hf:H1 s1.heap.objs.size=none:=I1.hok.fresh (Nat.le_refl _)
 refine ⟨.ref s1.heap.objs.size,upd H1 s1.heap.objs.size (.tup xs),I1.laid (t':=s1.toks) (fun b u e=>Heap.get?_push_of_some _ e) (Nat.le_refl _) ?_,rfl,q _ hf⟩
 exact ⟨z,us,r,⟨_,Heap.get?_push_size _ rfl,rfl,_,rfl,rfl⟩⟩
theorem pe_lst (h:PA X es t):PE X (.List es pos) (tLst t):=by
 intro pins s σ H Q I hq
 refine wpAny_List_spliced (thn (h pos pins s σ H _ I hq) fun us s1 ⟨xs,H1,I1,r,z,q⟩=>⟨by rw [←r.length]; exact z,?_⟩)
 have hf:H1 s1.heap.objs.size=none:=I1.hok.fresh (Nat.le_refl _)
 refine ⟨.ref s1.heap.objs.size,upd H1 s1.heap.objs.size (.lst xs),I1.laid (t':=s1.toks) (fun b u e=>Heap.get?_push_of_some _ e) (Nat.le_refl _) ?_,rfl,q _ hf⟩
 exact ⟨z,us,0,r,Heap.get?_push_size _ rfl⟩
end
noncomputable abbrev Sp:=List V→Hp→VK→XK→Prop
noncomputable abbrev CXT:=List Env→Hp→Shared→XK→Value→Shared→Prop
structure Env0 (P:Program) (w:World) (K:PySem.W.Frag) (mg:Str→Option Value) (base:Heap) (A:Around) (outer:List Env) (s:Shared) (H:Hp):Prop where
 frames:A.frames=some outer
 mod:Mod K mg base
 bs:∀ b o,base.get? b=some o→s.heap.get? b=some o∧H b=none
 bsz:base.objs.size≤s.heap.objs.size
 funs:s.heap.FunFrames base outer
 frf:∀ b∈frs outer,H b=none
 hok:HOk P w H s.heap
 bare:AllBare s.gens
noncomputable def CE (outer:List Env) (P:Program) (w:World) (H:Hp) (s:Shared) (Q:VK) (u:Value) (s':Shared):Prop:=
 ∃ v H',s'.os=s.os∧AllBare s'.gens∧Un (frs outer) [] H H' s.heap s'.heap∧HOk P w H' s'.heap∧RelV v u∧Q v H'
noncomputable def CR (CX:CXT) (outer:List Env) (P:Program) (w:World) (H:Hp) (s:Shared) (Q:VK) (E:XK) (r:Result) (s':Shared):Prop:=
 match r with
 | .ok (.ret u)=>CE outer P w H s Q u s'
 | .ok _=>False
 | .error e=>CX outer H s E e s'
structure FnOk (P:Program) (w:World) (K:PySem.W.Frag) (mg:Str→Option Value) (base:Heap) (CX:CXT) (k:Nat) (f:Addr) (fd:FuncData) (ps:List Str) (sp:Sp):Prop where
 len:∀ vs H Q E,sp vs H Q E→vs.length=ps.length
 run:∀ (A:Around) (outer:List Env) (s:Shared) (H:Hp) (args:Args) (us:List Value) (vs:List V) (Q:VK) (E:XK),Room k A→Env0 P w K mg base A outer s H→BindsTo s fd args (ps.zip us)→Vals vs us→sp vs H Q E →
   codeAny (model P w) A (.call (.ref f) args) (CR CX outer P w H s Q E) s
theorem FnOk.imp {P:Program} {w:World} {K:PySem.W.Frag} {mg:Str→Option Value} {base:Heap} {CX:CXT} {k:Nat} {f:Addr} {fd:FuncData} {ps:List Str} {sp sp':Sp} (F:FnOk P w K mg base CX k f fd ps sp)
   (h:∀ vs H Q E,sp' vs H Q E→sp vs H Q E):FnOk P w K mg base CX k f fd ps sp':=
 ⟨fun vs H Q E q=>F.len vs H Q E (h _ _ _ _ q),fun A outer s H args us vs Q E hr he hb hv hs=>F.run A outer s H args us vs Q E hr he hb hv (h _ _ _ _ hs)⟩
section
variable {X:Cx} {pins:List (Addr × Obj)} {σ:St} {H:Hp} {s s':Shared}
theorem Inv.env0 (I:Inv X pins σ H s):Env0 X.prog X.w X.K X.mg X.base X.A X.stack s H:=
 ⟨I.ok.frames,I.ok.mod,I.bs,Nat.le_trans I.ok.bsz I.sz,I.stack,I.stkFree,I.hok,I.bare⟩
theorem Inv.after {Q:VK} {u:Value} (I:Inv X pins σ H s) (h:CE X.stack X.prog X.w H s Q u s'):EP X pins σ Q u s':=by
 obtain ⟨v,H',os,bare,un,hok,r,q⟩:=h
 obtain ⟨hh,g,d,t,os'⟩:=s'
 obtain rfl:os'=s.os:=os
 exact ⟨v,H',I.call (h':=hh) (g':=g) (d':=d) (t':=t) (ch:=[]) un hok bare (fun b z=>absurd z (by simp)),r,q⟩
end
noncomputable def tCall (sp:Sp) (dvs:List V) (E:XK) (t:TA):TE:=fun σ H Q=>t σ H fun vs H1=>sp (vs++dvs) H1 Q E
noncomputable def Binds (K:PySem.W.Frag) (fd:FuncData) (ps:List Str) (ds:List Value):Prop:=
 ∀ (s:Shared) (us:List Value),K.In s.heap→(us++ds).length=ps.length→BindsTo s fd ⟨us,[]⟩ (ps.zip (us++ds))
theorem Binds.all {K:PySem.W.Frag} {fd:FuncData} {ps:List Str} (h:∀ us:List Value,us.length=ps.length→bindArgs fd ⟨us,[]⟩=pure (ps.zip us)):Binds K fd ps []:=fun s us _ hl=>by
 rw [List.append_nil] at hl ⊢
 exact .of_eq (h us hl)
noncomputable def Passes (CX:CXT) (X:Cx) (E:XK):Prop:=∀ (pins:List (Addr × Obj)) (σ:St) (H:Hp) (s:Shared) (e:Value) (s':Shared),Inv X pins σ H s→CX X.stack H s E e s'→X.xe e s'
section
variable {X:Cx} {CX:CXT} {k:Nat} {f C:Addr} {fd:FuncData} {ps:List Str} {sp:Sp} {dvs:List V} {ds:List Value} {E:XK} {x m:Str} {p pos apos:Pos} {e o:Expr} {es:List Expr} {ta:TE} {t:TA}
theorem run_fn {pins:List (Addr × Obj)} {σ:St} {H:Hp} {s:Shared} {Q:VK} {us:List Value} {vs:List V} (F:FnOk X.prog X.w X.K X.mg X.base CX k f fd ps sp) (hr:Room k X.A) (hb:Binds X.K fd ps ds) (hd:Vals dvs ds) (hx:Passes CX X E)
   (I:Inv X pins σ H s) (r:Vals vs us) (h:sp (vs++dvs) H Q E):wpAny (model X.prog X.w) X.A (call (.ref f) us) (EP X pins σ Q) X.xe s:=by
 have r2:Vals (vs++dvs) (us++ds):=r.append hd
 have hl:(us++ds).length=ps.length:=by rw [←r2.length]; exact F.len _ _ _ _ h
 refine wpAny_call (codeAny_mono (F.run X.A X.stack s H ⟨us,[]⟩ (us++ds) (vs++dvs) Q E hr I.env0 (hb s us I.kIn hl) r2 h) fun r s' hq=>?_)
 cases r with
 | error e=>exact hx pins σ H s e s' I hq
 | ok fl =>
   cases fl with
   | ret u=>exact I.after hq
   | next=>exact False.elim hq
   | brk=>exact False.elim hq
   | cont=>exact False.elim hq
theorem pe_call (F:FnOk X.prog X.w X.K X.mg X.base CX k f fd ps sp) (hr:Room k X.A) (hg:Gl X x) (hm:X.mg x=some (.ref f)) (hk:PySem.W.keepIn X.K (.ref f)=true) (hb:Binds X.K fd ps ds) (hd:Vals dvs ds) (hx:Passes CX X E)
   (ha:PA X (e :: es) t) (hdb:(x == ("__debug__":Str))=false:=by decide) (he:starEach (e :: es) X.env=(false,eval e X.env) :: starEach es X.env:=by rfl) (hpl:(backTo pos (starEach es X.env)).any (·.1)=false:=by rfl) :
   PE X (.Call (.Name x p) (e :: es) [] pos) (tCall sp dvs E t):=by
 intro pins s σ H Q I h
 refine wpAny_Call_Name_kw (ld_glob I hg hm ?_ hdb)
 refine PySem.W.callWith_K (h₀:=X.base) I.ok.mod.kin hk (thn (ha pos pins s σ H _ I h) fun us s1 ⟨vs,H1,I1,r,q⟩=>⟨I1.kIn,?_⟩) he hpl
 exact run_fn F hr hb hd hx I1 r q
theorem pe_call0 (F:FnOk X.prog X.w X.K X.mg X.base CX k f fd ps sp) (hr:Room k X.A) (hg:Gl X x) (hm:X.mg x=some (.ref f)) (hk:PySem.W.keepIn X.K (.ref f)=true) (hb:Binds X.K fd ps ds) (hd:Vals dvs ds) (hx:Passes CX X E)
   (hdb:(x == ("__debug__":Str))=false:=by decide):PE X (.Call (.Name x p) [] [] pos) (tCall sp dvs E tNil):=by
 intro pins s σ H Q I h
 refine wpAny_Call_Name_kw (ld_glob I hg hm ?_ hdb)
 exact PySem.W.callWith_K0 I.kIn hk (run_fn (us:=[]) F hr hb hd hx I .nil h)
end
section
variable {X:Cx} {CX:CXT} {k:Nat} {f C:Addr} {fd:FuncData} {ps ks:List Str} {sp:Sp} {E:XK} {x m:Str} {p pos apos kpos:Pos} {e o:Expr} {es:List Expr} {kws:List Keyword} {te ta:TE} {t tk:TA} {nm:Option Str}
variable {g:List Value→List Value→List Value} {gV:List V→List V→List V}
end
structure FnScope (N P:List Str) (sc:Scope):Prop where
 kind:sc.kind=.function
 co:sc.isCoroutine=false
 gen:sc.isGenerator=false
 nd:N.Nodup
 pre:N.take P.length=P
 par:∀ x∈P,sc.names.lookup x=some .local ∨ sc.names.lookup x=some .cell
 nofree:∀ y∈sc.names,y.2≠.free
theorem bindL_out {kindOf:Str→Option NameKind} {x:Str}:∀ {binds:List (Str × Value)} {m:Str→Option Value},(∀ v,(x,v) ∉ binds)→bindL kindOf binds m x=m x
 | [],_,_=>rfl
 | (n,v) :: r,m,h=>by
   unfold bindL
   rw [bindL_out fun w hw=>h w (List.mem_cons_of_mem _ hw)]
   split
   . have:x≠n:=by rintro rfl; exact h v List.mem_cons_self
     simp [this]
   . rfl
theorem bindC_out {kindOf:Str→Option NameKind} {x:Str}:∀ {binds:List (Str × Value)} {m:Str→Option Value},(∀ v,(x,v) ∉ binds)→bindC kindOf binds m x=m x
 | [],_,_=>rfl
 | (n,v) :: r,m,h=>by
   unfold bindC
   rw [bindC_out fun w hw=>h w (List.mem_cons_of_mem _ hw)]
   split
   . rfl
   . have:x≠n:=by rintro rfl; exact h v List.mem_cons_self
     simp [this]
theorem bindL_get {kindOf:Str→Option NameKind} {x:Str} {v:Value}:∀ {P:List Str} {vs:List Value} {i:Nat} {m:Str→Option Value},P.Nodup→P[i]?=some x→vs[i]?=some v→kindOf x=some .local →
   bindL kindOf (P.zip vs) m x=some v
 | [],_,_,_,_,h,_,_=>by simp at h
 | _ :: _,[],_,_,_,_,h,_=>by simp at h
 | p :: P,w :: vs,0,m,nd,h1,h2,hk=>by
   simp at h1 h2; subst h1; subst h2
   show bindL kindOf ((p,w) :: P.zip vs) m p=_
   unfold bindL
   rw [bindL_out fun v hv=>(List.nodup_cons.mp nd).1 (List.of_mem_zip hv).1,if_pos hk]
   simp
 | p :: P,w :: vs,i + 1,m,nd,h1,h2,hk=>by
   show bindL kindOf ((p,w) :: P.zip vs) m x=_
   unfold bindL
   exact bindL_get (i:=i) (List.nodup_cons.mp nd).2 (by simpa using h1) (by simpa using h2) hk
theorem bindC_get {kindOf:Str→Option NameKind} {x:Str} {v:Value}:∀ {P:List Str} {vs:List Value} {i:Nat} {m:Str→Option Value},P.Nodup→P[i]?=some x→vs[i]?=some v→kindOf x≠some .local →
   bindC kindOf (P.zip vs) m x=some v
 | [],_,_,_,_,h,_,_=>by simp at h
 | _ :: _,[],_,_,_,_,h,_=>by simp at h
 | p :: P,w :: vs,0,m,nd,h1,h2,hk=>by
   simp at h1 h2; subst h1; subst h2
   show bindC kindOf ((p,w) :: P.zip vs) m p=_
   unfold bindC
   rw [bindC_out fun v hv=>(List.nodup_cons.mp nd).1 (List.of_mem_zip hv).1,if_neg hk]
   simp
 | p :: P,w :: vs,i + 1,m,nd,h1,h2,hk=>by
   show bindC kindOf ((p,w) :: P.zip vs) m x=_
   unfold bindC
   exact bindC_get (i:=i) (List.nodup_cons.mp nd).2 (by simpa using h1) (by simpa using h2) hk
noncomputable def start (N:List Str) (vs:List V):St:=vs.map some++List.replicate (N.length - vs.length) none
noncomputable def cxOf (CX:CXT) (P:Program) (w:World) (K:PySem.W.Frag) (mg:Str→Option Value) (base:Heap) (N:List Str) (qual:Str) (scope:Scope) (f:Addr) (cd:Value) (A:Around) (outer:List Env) (s:Shared) (H:Hp) (E:XK):Cx where
 prog:=P
 w:=w
 K:=K
 mg:=mg
 base:=base
 A:=A.deeper (envOfC qual scope s.heap.objs.size f cd)
 N:=N
 s₀:=s
 H₀:=H
 env:=envOfC qual scope s.heap.objs.size f cd
 outer:=outer
 stack:=envOfC qual scope s.heap.objs.size f cd :: outer
 ex:=[]
 calm:=true
 fn:=fun _=>true
 pn:=[]
 xe:=fun e s'=>wpAny (model P w) (A.deeper (envOfC qual scope s.heap.objs.size f cd)) (leaving (envOfC qual scope s.heap.objs.size f cd) e) (fun _ s''=>CX outer H s E e s'') (fun e' s''=>CX outer H s E e' s'') s'
theorem cell_has {sc:Scope} {n:Nat} {x:Str} (h:sc.names.lookup x=some .cell):∃ c,(cellsFrom n sc.names []).lookup x=some c:=by
 have q:=PySem.W.cellsFrom_some sc.names n [] (.inl h)
 exact Option.isSome_iff_exists.mp q
theorem inv_start {CX:CXT} {P:Program} {w:World} {K:PySem.W.Frag} {mg:Str→Option Value} {base:Heap} {N ps:List Str} {qual:Str} {scope:Scope} {f:Addr} {cd:Value} {A:Around} {outer:List Env} {s s1:Shared} {H:Hp} {E:XK} {us:List Value} {vs:List V}
   (S:FnScope N ps scope) (hd:A.handled=none) (e0:Env0 P w K mg base A outer s H) (hl:vs.length=ps.length) (r:Vals vs us)
   (x:InCallC s s.heap.objs.size (bindL (envOfC qual scope s.heap.objs.size f cd).kindOf (ps.zip us) fun _=>none) (cellsFrom (s.heap.objs.size + 1) scope.names []) (bindC (envOfC qual scope s.heap.objs.size f cd).kindOf (ps.zip us) fun _=>none) s1) :
   Inv (cxOf CX P w K mg base N qual scope f cd A outer s H E) [] (start N vs) H s1:=by
 have hpl:ps.length≤N.length:=by have:=congrArg List.length S.pre; rw [List.length_take] at this; omega
 obtain ⟨h1,tk,rfl,hk⟩:=x.done
 have noA:∀ b:Addr,b ∉ (cxOf CX P w K mg base N qual scope f cd A outer s H E).ex:=fun b z=>absurd (show b∈([]:List Addr) from z) (by simp)
 refine ⟨⟨e0.mod,S.kind,rfl,rfl,Nat.le_refl _,fun y z c h1 h2=>?_,fun y hy=>?_,fun y c _ h=>?_,fun _=>hd,Around.frames_deeper e0.frames,.inr ⟨rfl,rfl⟩,fun b z=>absurd z (noA b),e0.bs,e0.bsz,fun b _ _=>noA b,fun b z=>absurd z (noA b),e0.funs,e0.frf⟩,
   rfl,e0.bare,Un.kept hk,⟨_,x.toInCall.ns,fun i y v h1 h2 h3=>?_⟩,fun y c h=>⟨_,x.cell y c h⟩,e0.hok.fresh (Nat.le_refl _),fun y c h=>?_,fun p hp=>absurd (show p∈([]:List (Addr × Obj)) from hp) (by simp),e0.hok.kept hk,?_⟩
 . exact name_of_addr x.apart (PySem.mem_of_lookup h1) (PySem.mem_of_lookup h2)
 . have hy:scope.names.lookup y=some .cell ∨ scope.names.lookup y=some .free:=hy
   rcases hy with hy | hy
   . exact cell_has hy
   . exact absurd rfl (S.nofree _ (PySem.mem_of_lookup hy))
 . exact Nat.le_of_lt (x.above y c (PySem.mem_of_lookup h))
 . have hi:i < vs.length:=by
     unfold start at h2
     by_cases hi:i < vs.length
     . exact hi
     . rw [List.getElem?_append_right (by simpa using hi)] at h2
       rw [List.getElem?_replicate] at h2
       split at h2 <;> cases h2
   have ha:vs[i]?=some v:=by
     unfold start at h2
     rw [List.getElem?_append_left (by simpa using hi),List.getElem?_map] at h2
     cases e:vs[i]? with
     | none=>rw [e] at h2; cases h2
     | some a=>rw [e] at h2; cases h2; rfl
   obtain ⟨u,hu,rv⟩:=r.get ha
   have hp:ps[i]?=some y:=by
     rw [←S.pre,List.getElem?_take_of_lt (by omega)]; exact h1
   have ndP:ps.Nodup:=by rw [←S.pre]; exact S.nd.sublist (List.take_sublist _ _)
   refine ⟨u,rv,?_⟩
   rcases S.par y (List.mem_of_getElem? hp) with k | k
   . exact .inl ⟨k,bindL_get ndP hp hu k⟩
   . obtain ⟨c,e⟩:=cell_has (n:=s.heap.objs.size + 1) k
     refine .inr ⟨.inl k,c,e,?_⟩
     have q:=x.cell y c e
     rw [bindC_get ndP hp hu (by show scope.names.lookup y≠_; rw [k]; decide)] at q
     exact q
 . exact e0.hok.fresh (Nat.le_of_lt (x.above y c (PySem.mem_of_lookup h)))
 . unfold start
   show _=N.length
   rw [List.length_append,List.length_map,List.length_replicate]
   omega
theorem fn_of {CX:CXT} {P:Program} {w:World} {K:PySem.W.Frag} {mg:Str→Option Value} {base:Heap} {k:Nat} {f:Addr} {name qual:Str} {params:Arguments} {body:List Stmt} {scope:Scope} {dV kV doc pm cdv ct oc:Value} {an od:Option Addr}
   {osl:Array (Option Value)} {N ps:List Str} {sp:Sp} (lk:K.lookup f=some ⟨oc,od,.func (PySem.W.fnOf name qual params body scope dV kV doc pm an cdv ct),osl⟩) (hcd:PySem.W.codeIn K cdv qual=true) (S:FnScope N ps scope)
   (len:∀ vs H Q E,sp vs H Q E→vs.length=ps.length)
   (hbody:∀ (A:Around) (outer:List Env) (s:Shared) (H:Hp) (vs:List V) (Q:VK) (E:XK),Room k (A.deeper (envOfC qual scope s.heap.objs.size f cdv))→sp vs H Q E →
     ∃ t,PSs (cxOf CX P w K mg base N qual scope f cdv A outer s H E) body t∧t { nx:=fun _ H'=>Q .non H',rt:=Q } (start N vs) H) :
   FnOk P w K mg base CX (k + 1) f (PySem.W.fnOf name qual params body scope dV kV doc pm an cdv ct) ps sp:=by
 refine ⟨len,fun A outer s H args us vs Q E hr e0 hb r hsp=>?_⟩
 have hl:=len _ _ _ _ hsp
 have KX:K.In s.heap:=e0.mod.kin.keeps fun b o e=>(e0.bs b o e).1
 have lim:s.heap.NoLimit:=e0.mod.nolimit.keeps fun b o e=>(e0.bs b o e).1
 have hkind:∀ y∈ps.zip us,scope.names.lookup y.1=some .local ∨ (scope.names.lookup y.1=some .cell∧((cellsFrom (s.heap.objs.size + 1) scope.names []).lookup y.1).isSome=true):=fun ⟨n,v⟩ hy=>by
   rcases S.par n (List.of_mem_zip hy).1 with q | q
   . exact .inl q
   . exact .inr ⟨q,PySem.W.cellsFrom_some _ _ _ (.inl q)⟩
 refine codeAny_call_function hr.depth (KX _ _ lk) rfl S.co S.gen rfl (PySem.W.codeRec_of KX hcd) (hb _ _ _ _ ?_)
 refine wpAny_newFunctionEnv_cells S.kind hkind fun env he s1 x=>?_
 subst he
 refine ⟨lim.keeps x.toInCall.keep,codeAny_func ?_⟩
 obtain ⟨t,ht,hq⟩:=hbody A outer s H vs Q E (hr.deeper _) hsp
 have I:Inv (cxOf CX P w K mg base N qual scope f cdv A outer s H E) [] (start N vs) H s1:=inv_start S hr.hd e0 hl r x
 refine wpAny_mono (ht [] s1 (start N vs) H _ I hq) (fun fl s' hs=>?_) fun e s' hs=>hs
 have fin:∀ {σ':St} {H':Hp} {v:V} {u:Value},Inv (cxOf CX P w K mg base N qual scope f cdv A outer s H E) [] σ' H' s'→RelV v u→Q v H'→CE outer P w H s Q u s':=
   fun {σ' H' v u} J rv q=>⟨v,H',J.os,J.bare,J.base,J.hok,rv,q⟩
 cases fl with
 | ret u =>
   obtain ⟨v,σ',H',J,rv,q⟩:=hs
   exact fin J rv q
 | next =>
   obtain ⟨σ',H',J,q⟩:=hs
   exact fin (v:=V.non) (u:=Value.none) J rfl q
 | brk =>
   obtain ⟨_,_,_,q⟩:=hs
   exact False.elim q
 | cont =>
   obtain ⟨_,_,_,q⟩:=hs
   exact False.elim q
end L2
namespace L2
open PySem PySem.Spec PyProof.Rows
section
variable {X:Cx} {x:Str} {p pos:Pos} {e:Expr} {es:List Expr} {t:TA} {id T:String} {r:List V→Hp→VK→Prop}
noncomputable def tCB (r:List V→Hp→VK→Prop) (t:TA):TE:=fun σ H Q=>t σ H fun vs H1=>r vs H1 Q
theorem pe_callB (hc:CallR X (.builtin id) r) (hg:Gl X x) (hm:X.mg x=none) (hv:bootBuiltins x=some (.builtin id)) (ha:PA X (e :: es) t) (hn:x≠"__name__":=by decide) (hdb:(x == ("__debug__":Str))=false:=by decide)
   (he:starEach (e :: es) X.env=(false,eval e X.env) :: starEach es X.env:=by rfl) (hpl:(backTo pos (starEach es X.env)).any (·.1)=false:=by rfl):PE X (.Call (.Name x p) (e :: es) [] pos) (tCB r t):=by
 intro pins s σ H Q I h
 refine wpAny_Call_Name_kw (ld_blt I hg hm hv ?_ hn hdb)
 exact PyProof.Rows.callWith_builtin1 (thn (ha pos pins s σ H _ I h) fun us s1 ⟨vs,H1,I1,r1,q1⟩=>hc pins s1 σ H1 vs us Q I1 r1 q1) he hpl
theorem pe_callTy (hc:CallR X (.type T) r) (hg:Gl X x) (hm:X.mg x=none) (hv:bootBuiltins x=some (.type T)) (ha:PA X (e :: es) t) (hn:x≠"__name__":=by decide) (hdb:(x == ("__debug__":Str))=false:=by decide)
   (he:starEach (e :: es) X.env=(false,eval e X.env) :: starEach es X.env:=by rfl) (hpl:(backTo pos (starEach es X.env)).any (·.1)=false:=by rfl):PE X (.Call (.Name x p) (e :: es) [] pos) (tCB r t):=by
 intro pins s σ H Q I h
 refine wpAny_Call_Name_kw (ld_blt I hg hm hv ?_ hn hdb)
 exact PyProof.Rows.callWith_type1 (thn (ha pos pins s σ H _ I h) fun us s1 ⟨vs,H1,I1,r1,q1⟩=>hc pins s1 σ H1 vs us Q I1 r1 q1) he hpl
end
end L2
namespace HT
open PySem PyProof.Rows
section
open PySem.SeqAt
open PySem.AutoSeq1 (wpAny_loadPart')
open PySem.MeetsSeq PySem.MeetsSeq2 PySem.MeetsSeq3
end
section
variable {prog:Program} {w:World} {A:Around} {E:Value→Shared→Prop} {s:Shared}
theorem cat_tup {t b:Addr} {vs ws:List Value} {Q:Value→Shared→Prop} (ht:IsTup s.heap t vs.toArray) (hb:IsTup s.heap b ws.toArray) (hv:vs≠[])
   (h1:ws=[]→Q (.ref t) s) (h2:ws≠[]→Q (.ref s.heap.objs.size) { s with heap:=s.heap.push { cls:=.type "tuple",data:=.seq (vs++ws).toArray } })
   (hsz:vs.length + ws.length≤sizeLine):wpAny (model prog w) A (binaryOp .Add (.ref t) (.ref b)) Q E s:=by
 obtain ⟨⟨cls,dd,data,sl⟩,ho,hc,n,hd⟩:=id ht
 obtain ⟨⟨cls2,dd2,data2,sl2⟩,ho2,hc2,n2,hd2⟩:=id hb
 simp only at hc hd hc2 hd2
 subst hc hd hc2 hd2
 have e:vs.toArray++ws.toArray=(vs++ws).toArray:=by simp
 by_cases hw:ws=[]
 . exact concat_meets ⟨_,ho,rfl⟩ ⟨_,ho2,rfl⟩ noFill_tuple_add seq_tuple_add PySem.F.slot_tuple_add PySem.F.entry_tuple_add (PySem.F.args_tuple_add_2 _ _)
     (tuple_addW1 t b vs.toArray ws.toArray n n2 dd dd2 sl sl2 (by simpa using hv) (by simp [hw])) ⟨ho,ho2,h1 hw⟩
 . refine concat_meets ⟨_,ho,rfl⟩ ⟨_,ho2,rfl⟩ noFill_tuple_add seq_tuple_add PySem.F.slot_tuple_add PySem.F.entry_tuple_add (PySem.F.args_tuple_add_2 _ _)
     (tuple_addW2 t b vs.toArray ws.toArray n n2 dd dd2 sl sl2 (by simpa using hv) (by simpa using hw) (by rw [List.size_toArray,List.size_toArray]; exact hsz)) ⟨ho,ho2,?_⟩
   rw [e]
   exact h2 hw
noncomputable def sIx (n d:Nat):Option Int→Nat
 | none=>d
 | some v=>if v < 0 then (v + (n:Int)).toNat else min v.toNat n
theorem sIx_le (n d:Nat) (hd:d≤n) (o:Option Int):sIx n d o≤n:=by
 cases o with
 | none=>exact hd
 | some v =>
   show (if v < 0 then (v + (n:Int)).toNat else min v.toNat n)≤n
   by_cases hv:v < 0
   . rw [if_pos hv]; omega
   . rw [if_neg hv]; exact Nat.min_le_right _ _
theorem clip_eq (v:Int) (n d:Nat):(if v < 0 then max (v + (n:Int)) 0 else min v (n:Int))=((sIx n d (some v):Nat):Int):=by
 show (if v < 0 then max (v + (n:Int)) 0 else min v (n:Int))=(((if v < 0 then (v + (n:Int)).toNat else min v.toNat n):Nat):Int)
 by_cases hv:v < 0
 . simp only [if_pos hv]; omega
 . simp only [if_neg hv]; omega
theorem adjust_gen (lo hi:Option Int) (n:Nat):Builtin.Slice.sliceAdjust lo hi 1 (n:Int)=(((sIx n 0 lo:Nat):Int),((sIx n n hi:Nat):Int)):=by
 have h1:¬ ((1:Int) < 0):=by omega
 unfold Builtin.Slice.sliceAdjust
 simp only [h1,if_false]
 refine Prod.ext ?_ ?_
 . cases lo with
   | none=>rfl
   | some v=>exact clip_eq v n 0
 . cases hi with
   | none=>rfl
   | some v=>exact clip_eq v n n
theorem places_gen (i j:Nat):Builtin.Slice.slicePlaces (i:Int) (j:Int) 1=j - i:=by
 unfold Builtin.Slice.slicePlaces
 have h1:(1:Int) > 0:=by omega
 simp only [h1,if_true,Int.ediv_one]
 split <;> omega
theorem slicePart_ {v:Value} {o:Option Int} {Q:Option Int→Shared→Prop} (p:IsPart v o) (h:Q o s):wpAny (model prog w) A (Builtin.Slice.slicePartIndex v) Q E s:=by
 cases p with
 | none=>exact slicePart_none h
 | int i t=>exact slicePart_int h
theorem sliceApplied_gen {sl:Addr} {vl vu:Value} {lo hi:Option Int} {n:Nat} {Q:Int × Int × Nat→Shared→Prop} (hs:s.heap.IsSliceOf sl vl vu .none) (pl:IsPart vl lo) (pu:IsPart vu hi)
   (h:Q (((sIx n 0 lo:Nat):Int),1,sIx n n hi - sIx n 0 lo) s):wpAny (model prog w) A (Builtin.Slice.sliceApplied (.ref sl) (pure (n:Int))) Q E s:=by
 obtain ⟨os,hos,hcs,hds⟩:=id hs
 unfold Builtin.Slice.sliceApplied Builtin.Slice.sliceFields
 refine wpAny_bind (wpAny_bind (wpAny_field hos hds (x:=vl) rfl (wpAny_bind (wpAny_field hos hds (x:=vu) rfl (wpAny_bind (wpAny_field hos hds (x:=.none) rfl (wpAny_pure ?_)))))))
 refine wpAny_bind (slicePart_none ?_)
 show wpAny _ _ (if ((1:Int) == 0)=true then _ else _) _ _ s
 rw [if_neg (by decide)]
 refine wpAny_bind (slicePart_ pl (wpAny_bind (slicePart_ pu (wpAny_bind (wpAny_pure ?_)))))
 show wpAny _ _ (match Builtin.Slice.sliceAdjust lo hi 1 (n:Int) with | (lo,hi)=>pure (lo,(1:Int),Builtin.Slice.slicePlaces lo hi 1)) _ _ s
 rw [adjust_gen lo hi n]
 show wpAny _ _ (pure (((sIx n 0 lo:Nat):Int),(1:Int),Builtin.Slice.slicePlaces ((sIx n 0 lo:Nat):Int) ((sIx n n hi:Nat):Int) 1)) _ _ s
 rw [places_gen]
 exact wpAny_pure h
theorem pick_gen (xs:Array Value) (i k:Nat):((List.range k).filterMap fun (m:Nat)=>xs[((i:Int) + (m:Int) * 1).toNat]?).toArray=((xs.toList.drop i).take k).toArray:=by
 have e:(fun (m:Nat)=>xs[((i:Int) + (m:Int) * 1).toNat]?)=fun m=>xs[i + m]?:=by
   funext m
   have:((i:Int) + (m:Int) * 1).toNat=i + m:=by omega
   rw [this]
 rw [e]
 have:=pick_run xs i k
 rw [List.filterMap_map] at this
 have e2:((fun x=>xs[x]?) ∘ fun x=>i + x)=fun m=>xs[i + m]?:=rfl
 rw [e2] at this
 rw [this]
theorem getItem_tuple_cut {t sl:Addr} {items:Array Value} {vl vu:Value} {lo hi:Option Int} {Q:Value→Shared→Prop} (ht:IsTup s.heap t items) (hs:s.heap.IsSliceOf sl vl vu .none) (pl:IsPart vl lo) (pu:IsPart vu hi)
   (hw:¬ (sIx items.size 0 lo=0∧sIx items.size items.size hi=items.size))
   (h:Q (.ref s.heap.objs.size) { s with heap:=s.heap.push { cls:=.type "tuple",data:=.seq ((items.toList.drop (sIx items.size 0 lo)).take (sIx items.size items.size hi - sIx items.size 0 lo)).toArray } })
   (hsz:items.size≤sizeLine):wpAny (model prog w) A (getItem (.ref t) (.ref sl)) Q E s:=by
 have htake:sizeOk (.seq ((items.toList.drop (sIx items.size 0 lo)).take (sIx items.size items.size hi - sIx items.size 0 lo)).toArray):=by
   show ((items.toList.drop (sIx items.size 0 lo)).take (sIx items.size items.size hi - sIx items.size 0 lo)).toArray.size≤sizeLine
   rw [List.size_toArray,List.length_take,List.length_drop,Array.length_toList]
   omega
 have hj:sIx items.size items.size hi≤items.size:=sIx_le _ _ (Nat.le_refl _) hi
 obtain ⟨os,hos,hcs,hds⟩:=id hs
 have hTs:s.TypeIs (.ref sl) "slice":=⟨os,hos,hcs⟩
 unfold getItem
 try with_reducible refine wpAny_holding ?_
 first | refine wpAny_bind (wpAny_pure ?_) | skip
 refine wpAny_bind (wpAny_sequenceKey ht.typeIs (by decide) ?_)
 refine wpAny_bind (wpAny_callSpecial?_slot (name:=Str.ofString "__getitem__") ht.typeIs PyProof.Rows.slot_tuple_getitem
   (wpAny_call_entry PyProof.Rows.slot_tuple_getitem ht.typeIs entry_tuple_getitem ?_ (args_tuple_getitem _ _)))
 show wpAny _ _ (Builtin.Tuple.tupleItemsOf (.ref t) >>= _) _ _ s
 refine wpAny_bind (tupleItemsOf_ ht ?_)
 refine wpAny_bind (wpAny_typeOf hTs ?_)
 rw [if_pos (by decide)]
 refine wpAny_bind (sliceApplied_gen hs pl pu ?_)
 have hno:¬ ((((sIx items.size 0 lo:Nat):Int) == 0 && (1:Int) == 1 && (sIx items.size items.size hi - sIx items.size 0 lo) == items.size)=true):=by
   intro q
   rw [Bool.and_eq_true,Bool.and_eq_true] at q
   have q1:((sIx items.size 0 lo:Nat):Int)=0:=eq_of_beq q.1.1
   have q2:sIx items.size items.size hi - sIx items.size 0 lo=items.size:=eq_of_beq q.2
   exact hw ⟨by omega,by omega⟩
 show wpAny _ _ (if (((sIx items.size 0 lo:Nat):Int) == 0 && (1:Int) == 1 && (sIx items.size items.size hi - sIx items.size 0 lo) == items.size)=true then _ else _) _ _ s
 rw [if_neg hno,pick_gen]
 first
   | exact wpAny_bind (m:=Builtin.Tuple.tupleExact _) (wpAny_newObj_type (wpAny_pure ⟨_,rfl,wpAny_pure h⟩) htake)
   | exact wpAny_bind (m:=Builtin.Tuple.tupleExact _) (wpAny_newObj_type (wpAny_bind (wpAny_pure (wpAny_pure ⟨_,rfl,wpAny_pure h⟩))) htake)
   | exact wpAny_bind (wpAny_bind (m:=Builtin.Tuple.tupleExact _) (wpAny_newObj_type (wpAny_pure (wpAny_pure ⟨_,rfl,wpAny_pure h⟩)) htake))
   | exact wpAny_bind (wpAny_bind (m:=Builtin.Tuple.tupleExact _) (wpAny_newObj_type (wpAny_pure ⟨_,rfl,wpAny_pure h⟩) htake))
end
end HT
namespace L2
open PySem PySem.Spec PyProof.Rows
noncomputable abbrev TO:=St→Hp→(Option Int→Hp→Prop)→Prop
noncomputable def PO (X:Cx) (e:Option Expr) (t:TO):Prop:=
 ∀ (pins:List (Addr × Obj)) (s:Shared) (σ:St) (H:Hp) (Q:Option Int→Hp→Prop),Inv X pins σ H s→t σ H Q →
   wpAny (model X.prog X.w) X.A (evalPart e X.env) (fun u s'=>∃ o H',Inv X pins σ H' s'∧IsPart u o∧Q o H') X.xe s
noncomputable def tNoPart:TO:=fun _ H Q=>Q none H
noncomputable def tPart (t:TE):TO:=fun σ H Q=>t σ H fun x H1=>∃ i,x=.int i∧Q (some i) H1
section
variable {X:Cx} {e:Expr} {te:TE} {lo hi:Option Expr} {tl th:TO} {pos p2:Pos}
theorem po_none:PO X none tNoPart:=by
 intro pins s σ H Q I h
 rw [evalPart_none]
 exact wpAny_pure ⟨none,H,I,.none,h⟩
theorem po_some (h:PE X e te):PO X (some e) (tPart te):=by
 intro pins s σ H Q I hw
 rw [evalPart_some]
 refine thn (h pins s σ H _ I hw) fun u s1 ⟨x,H1,I1,r1,q1⟩=>?_
 obtain ⟨i,rfl,q⟩:=q1
 obtain ⟨t,rfl⟩:=r1
 exact ⟨some i,H1,I1,.int i t,q⟩
noncomputable def SlR (X:Cx) (r:V→Option Int→Option Int→Hp→VK→Prop):Prop:=
 ∀ (pins:List (Addr × Obj)) (s:Shared) (σ:St) (H:Hp) (x:V) (v vl vu:Value) (lo hi:Option Int) (sl:Addr) (Q:VK),Inv X pins σ H s→RelV x v→s.heap.IsSliceOf sl vl vu .none→IsPart vl lo→IsPart vu hi→r x lo hi H Q →
   ∃ T id,typeLookup (.type T) "__getitem__"=pure (some (.builtin id))∧s.TypeIs v T∧wpAny (model X.prog X.w) X.A (getItem v (.ref sl)) (EP X pins σ Q) X.xe s
noncomputable def tSl (r:V→Option Int→Option Int→Hp→VK→Prop) (te:TE) (tl th:TO):TE:=fun σ H Q=>te σ H fun x H1=>tl σ H1 fun l H2=>th σ H2 fun u H3=>r x l u H3 Q
theorem pe_slice {r:V→Option Int→Option Int→Hp→VK→Prop} (hr:SlR X r) (he:PE X e te) (hl:PO X lo tl) (hu:PO X hi th):PE X (.Subscript e (.Slice lo hi none p2) pos) (tSl r te tl th):=by
 intro pins s σ H Q I h
 refine Subscript_ (thn (he pins s σ H _ I h) fun v s1 ⟨x,H1,I1,r1,q1⟩=>?_)
 refine wpAny_Slice (thn (hl pins s1 σ H1 _ I1 q1) fun vl s2 ⟨l,H2,I2,pl,q2⟩=>thn (hu pins s2 σ H2 _ I2 q2) fun vu s3 ⟨u,H3,I3,pu,q3⟩=>?_)
 rw [evalPart_none]
 refine wpAny_pure ?_
 have I4:Inv X pins σ H3 { s3 with heap:=s3.heap.push { cls:=.type "slice",data:=.fields #[vl,vu,.none] } }:=I3.kept (t':=s3.toks) fun b ob q=>Heap.get?_push_of_some _ q
 obtain ⟨T,id,hT,ht,hg⟩:=hr pins { s3 with heap:=s3.heap.push { cls:=.type "slice",data:=.fields #[vl,vu,.none] } } σ H3 x v vl vu l u s3.heap.objs.size Q I4 r1 (Heap.IsSliceOf.new ..) pl pu q3
 show wpAny (model X.prog X.w) X.A (subscriptTail e (.Slice lo hi none p2) v (.ref s3.heap.objs.size)) (EP X pins σ Q) X.xe { s3 with heap:=s3.heap.push { cls:=.type "slice",data:=.fields #[vl,vu,.none] } }
 exact tail_any (ops:=[.ref s3.heap.objs.size,v]) ht hT hg (by with_unfolding_all rfl)
noncomputable def cutV (xs:List V) (lo hi:Option Int):List V:=(xs.drop (HT.sIx xs.length 0 lo)).take (HT.sIx xs.length xs.length hi - HT.sIx xs.length 0 lo)
theorem cutV_length (xs:List V) (lo hi:Option Int):(cutV xs lo hi).length≤xs.length:=by
 unfold cutV
 rw [List.length_take,List.length_drop]
 omega
noncomputable def rSlT (K:PySem.W.Frag):V→Option Int→Option Int→Hp→VK→Prop:=fun x lo hi H Q=>∃ a xs,x=.ref a∧SqT K H a xs ∧
 ¬ (HT.sIx xs.length 0 lo=0∧HT.sIx xs.length xs.length hi=xs.length)∧∀ p,H p=none→Q (.ref p) (upd H p (.tup (cutV xs lo hi)))
theorem sl_tup:SlR X (rSlT X.K):=by
 intro pins s σ H x v vl vu lo hi sl Q I rx hs pl pu h
 obtain ⟨a,xs,rfl,hx,hw,q⟩:=h
 cases rx
 obtain ⟨its,r,ht,hz⟩:=I.tuple hx
 have hlen:its.toArray.size=xs.length:=by rw [List.size_toArray]; exact r.length.symm
 refine ⟨"tuple",_,PyProof.Rows.slot_tuple_getitem.lookup,ht.typeIs,?_⟩
 refine HT.getItem_tuple_cut ht hs pl pu (by rw [hlen]; exact hw) ?_ (by rw [hlen]; exact hz)
 rw [hlen]
 refine ⟨.ref s.heap.objs.size,_,I.laid (t':=s.toks) (o:=.tup (cutV xs lo hi)) (fun b ob q=>Heap.get?_push_of_some _ q) (Nat.le_refl _) ?_,rfl,q _ (I.hok.fresh (Nat.le_refl _))⟩
 exact ⟨Nat.le_trans (cutV_length xs lo hi) hz,_,(r.drop (HT.sIx xs.length 0 lo)).take (HT.sIx xs.length xs.length hi - HT.sIx xs.length 0 lo),PTup.new _ _⟩
noncomputable def rCatT (K:PySem.W.Frag):R2:=fun x y H Q=>∃ a b xs ys,x=.ref a∧y=.ref b∧SqT K H a xs∧SqT K H b ys∧xs≠[]∧xs.length + ys.length≤sizeLine ∧
 (ys=[]→Q (.ref a) H)∧(ys≠[]→∀ p,H p=none→Q (.ref p) (upd H p (.tup (xs++ys))))
theorem Vals.nil_iff {xs:List V} {us:List Value} (r:Vals xs us):us=[]↔xs=[]:=by
 cases r with
 | nil=>simp
 | cons _ _=>simp
theorem op_catT:OpR X (binaryOp .Add) (rCatT X.K):=by
 intro pins s σ H x y v u Q I rx ry h
 obtain ⟨a,b,xs,ys,rfl,rfl,ha,hb,hx,hz,q1,q2⟩:=h
 cases rx
 cases ry
 obtain ⟨its,r1,p1,_⟩:=I.tuple ha
 obtain ⟨its2,r2,p2,_⟩:=I.tuple hb
 refine HT.cat_tup p1 p2 (fun z=>hx (r1.nil_iff.mp z)) (fun z=>⟨.ref a,H,I,rfl,q1 (r2.nil_iff.mp z)⟩) (fun z=>?_) (by rw [←r1.length,← r2.length]; exact hz)
 refine ⟨.ref s.heap.objs.size,_,I.laid (t':=s.toks) (o:=.tup (xs++ys)) (fun b ob q=>Heap.get?_push_of_some _ q) (Nat.le_refl _) ?_,rfl,q2 (fun w=>z (r2.nil_iff.mpr w)) _ (I.hok.fresh (Nat.le_refl _))⟩
 exact ⟨by rw [List.length_append]; exact hz,_,r1.append r2,PTup.new _ _⟩
end
end L2
namespace L2
open PySem PySem.Spec PyProof.Rows
noncomputable def ixN (n:Nat) (i:Int):Option Nat:=if 0≤i then (if i < n then some i.toNat else none) else if -(n:Int)≤i then some (i + n).toNat else none
noncomputable def atI {α:Type} (xs:List α) (i:Int):Option α:=(ixN xs.length i).bind fun j=>xs[j]?
theorem ixN_seq {n:Nat} {i:Int} {j:Nat} (h:ixN n i=some j):seqIndex? i n=some j∧j < n∧-(n:Int)≤i∧i < n:=by
 unfold ixN at h
 by_cases h0:0≤i
 . rw [if_pos h0] at h
   by_cases h1:i < n
   . rw [if_pos h1] at h
     have e:i.toNat=j:=Option.some.inj h
     exact ⟨by rw [seqIndex_of h0 h1,e],by omega,by omega,h1⟩
   . rw [if_neg h1] at h; cases h
 . rw [if_neg h0] at h
   by_cases h1:-(n:Int)≤i
   . rw [if_pos h1] at h
     have e:(i + n).toNat=j:=Option.some.inj h
     exact ⟨by rw [seqIndex_neg (by omega) h1,e],by omega,h1,by omega⟩
   . rw [if_neg h1] at h; cases h
theorem atI_get {α:Type} {xs:List α} {i:Int} {v:α} (h:atI xs i=some v):∃ j,seqIndex? i xs.length=some j∧xs[j]?=some v∧j < xs.length∧-(xs.length:Int)≤i∧i < xs.length:=by
 unfold atI at h
 cases e:ixN xs.length i with
 | none=>rw [e] at h; cases h
 | some j =>
   rw [e] at h
   obtain ⟨h1,h2,h3,h4⟩:=ixN_seq e
   exact ⟨j,h1,h,h2,h3,h4⟩
theorem atI_nat {α:Type} {xs:List α} {j:Nat} {v:α} (h:xs[j]?=some v):atI xs (j:Int)=some v:=by
 have hj:j < xs.length:=(List.getElem?_eq_some_iff.mp h).1
 have e:ixN xs.length (j:Int)=some j:=by
   unfold ixN
   rw [if_pos (by omega),if_pos (by omega)]; simp
 unfold atI; rw [e]; exact h
noncomputable def PlainIx (b:Expr):Prop:=∀ o i,subscripted b false o i=operate [o,i] (getItem o i)
noncomputable def IxR (X:Cx) (r:R2):Prop:=
 ∀ (value slice:Expr) (pins:List (Addr × Obj)) (s:Shared) (σ:St) (H:Hp) (x y:V) (v u:Value) (Q:VK),Inv X pins σ H s→RelV x v→RelV y u→r x y H Q →
   subscripted slice false v u=operate [v,u] (getItem v u)→wpAny (model X.prog X.w) X.A (subscriptTail value slice v u) (EP X pins σ Q) X.xe s
noncomputable def MtR (X:Cx) (id:String) (r:V→List V→Hp→VK→Prop):Prop:=
 ∀ (pins:List (Addr × Obj)) (s:Shared) (σ:St) (H:Hp) (x:V) (xs:List V) (v:Value) (us:List Value) (Q:VK),Inv X pins σ H s→RelV x v→Vals xs us→r x xs H Q →
   wpAny (model X.prog X.w) X.A (call (.builtin id) (v :: us)) (EP X pins σ Q) X.xe s
section
variable {X:Cx} {a b:Expr} {ta tb:TE} {pos:Pos}
theorem IxR.or {r r':R2} (h:IxR X r) (h':IxR X r'):IxR X (fun x y H Q=>r x y H Q ∨ r' x y H Q):=by
 intro value slice pins s σ H x y v u Q I rx ry q hs
 rcases q with q | q
 . exact h value slice pins s σ H x y v u Q I rx ry q hs
 . exact h' value slice pins s σ H x y v u Q I rx ry q hs
theorem pe_ix {r:R2} (hr:IxR X r) (ha:PE X a ta) (hb:PE X b tb) (hs:PlainIx b):PE X (.Subscript a b pos) (tOp r ta tb):=by
 intro pins s σ H Q I h
 exact Subscript_ (binT ha hb I h fun v u s2 x y H2 I2 rx ry q=>hr a b pins s2 σ H2 x y v u Q I2 rx ry q (hs _ _))
noncomputable def rIxL (K:PySem.W.Frag):R2:=fun x y H Q=>∃ p xs i v,x=.ref p∧y=.int i∧SqL K H p xs∧atI xs i=some v∧Q v H
noncomputable def rIxT (K:PySem.W.Frag):R2:=fun x y H Q=>∃ p xs i v,x=.ref p∧y=.int i∧SqT K H p xs∧atI xs i=some v∧Q v H
noncomputable def rIxS:R2:=fun x y H Q=>∃ z i c,x=.str z∧y=.int i∧z.length≤sizeLine∧atI z.cps.toList i=some c∧Q (.str ⟨#[c]⟩) H
theorem ix_list:IxR X (rIxL X.K):=by
 intro value slice pins s σ H x y v u Q I rx ry h hs
 obtain ⟨p,xs,i,z,rfl,rfl,hq,he,q⟩:=h
 cases rx
 obtain ⟨t,rfl⟩:=ry
 obtain ⟨its,r,pl,hz⟩:=I.list hq
 obtain ⟨j,h1,h2,h3,h4,h5⟩:=atI_get he
 obtain ⟨w,ew,rw'⟩:=r.get h2
 have hl:=r.length
 have hn:=line63
 have fin:EP X pins σ Q w s:=⟨z,H,I,rw',q⟩
 by_cases h0:0≤i
 . have hj:i.toNat=j:=by
     rw [seqIndex_of h0 h5] at h1
     exact Option.some.inj h1
   exact item_listR pl.isList h0 (by omega) (by rw [hj]; simpa using ew) fin hs
 . have hj:(i + (its.toArray.size:Int)).toNat=j:=by
     rw [seqIndex_neg (by omega) h4] at h1
     rw [List.size_toArray,← hl]
     exact Option.some.inj h1
   exact subscriptTail_builtinR (x:=w) pl.isList.typeIs slot_list_getitem.lookup
     (wpAny_getItem_list_neg (Q:=fun r s'=>r=w∧EP X pins σ Q r s') pl.isList (by omega) (by rw [List.size_toArray] <;> omega) (by omega) (by rw [hj]; simpa using ew) ⟨rfl,fin⟩) hs
theorem ix_tup:IxR X (rIxT X.K):=by
 intro value slice pins s σ H x y v u Q I rx ry h hs
 obtain ⟨p,xs,i,z,rfl,rfl,hq,he,q⟩:=h
 cases rx
 obtain ⟨t,rfl⟩:=ry
 obtain ⟨its,r,pl,hz⟩:=I.tuple hq
 obtain ⟨j,h1,h2,h3,h4,h5⟩:=atI_get he
 obtain ⟨w,ew,rw'⟩:=r.get h2
 have hl:=r.length
 have hn:=line63
 have fin:EP X pins σ Q w s:=⟨z,H,I,rw',q⟩
 exact subscriptTail_builtinR (x:=w) pl.typeIs slot_tuple_getitem.lookup
   (getItem_tuple (j:=j) (Q:=fun r s'=>r=w∧EP X pins σ Q r s') pl (by omega) (by omega) (by rw [List.size_toArray,← hl]; exact h1) (by simpa using ew) ⟨rfl,fin⟩) hs
theorem ix_str:IxR X rIxS:=by
 intro value slice pins s σ H x y v u Q I rx ry h hs
 obtain ⟨z,i,c,rfl,rfl,hz,he,q⟩:=h
 obtain ⟨t,rfl⟩:=rx
 obtain ⟨t',rfl⟩:=ry
 obtain ⟨j,h1,h2,h3,h4,h5⟩:=atI_get he
 have hl:z.cps.toList.length=z.length:=by simp [Str.length]
 rw [hl] at h1 h4 h5
 have hn:=line63
 exact tail_any (typeIs_str s z t) slot_str_getitem.lookup (getItem_str (c:=c) (by
   have e1:decide (i < -(2 ^ 63:Int))=false:=decide_eq_false (by omega)
   have e2:decide (i ≥ 2 ^ 63)=false:=decide_eq_false (by omega)
   rw [e1,e2,Bool.or_false]) (by rw [h1]; simpa using h2) ⟨.str ⟨#[c]⟩,H,I.tok _,⟨_,rfl⟩,q⟩) hs
noncomputable def rIx (K:PySem.W.Frag):R2:=fun x y H Q=>rIxL K x y H Q ∨ rIxT K x y H Q ∨ rIxS x y H Q
theorem ix_seq:IxR X (rIx X.K):=ix_list.or (ix_tup.or ix_str)
theorem mapSeq_set (its:List Value) (n j:Nat) (u:Value):Obj.mapSeq (·.setIfInBounds j u) { cls:=.type "list",data:=.seq its.toArray n }={ cls:=.type "list",data:=.seq (its.set j u).toArray n }:=by
 simp [Obj.mapSeq]
theorem Inv.lst {pins:List (Addr × Obj)} {σ:St} {H:Hp} {s:Shared} {p:Addr} {xs:List V} (I:Inv X pins σ H s) (h:H p=some (.lst xs)) :
   ∃ (its:List Value) (n:Nat),Vals xs its∧s.heap.get? p=some { cls:=.type "list",data:=.seq its.toArray n }∧xs.length≤sizeLine:=by
 obtain ⟨z,its,n,r,e⟩:=I.hok p _ h
 exact ⟨its,n,r,e,z⟩
theorem Inv.lstUpd {pins:List (Addr × Obj)} {σ:St} {H:Hp} {s:Shared} {p:Addr} {xs ys:List V} {its its':List Value} {n n':Nat} {f:Obj→Obj} (I:Inv X pins σ H s) (h:H p=some (.lst xs))
   (ho:s.heap.get? p=some { cls:=.type "list",data:=.seq its.toArray n }) (hf:f { cls:=.type "list",data:=.seq its.toArray n }={ cls:=.type "list",data:=.seq its'.toArray n' }) (r:Vals ys its') (hz:ys.length≤sizeLine) (t:Nat) :
   Inv X pins σ (upd H p (.lst ys)) { s with heap:=s.heap.update p f,toks:=t }:=by
 have e:(s.heap.update p f).get? p=some { cls:=.type "list",data:=.seq its'.toArray n' }:=by
   rw [Heap.get?_update_self f ho (by rw [hf] <;> rfl),hf]
 refine I.write (x:=p) (e:=p) (by rw [h]; trivial) (.inl rfl) (fun b u hb q=>(Heap.get?_update_other _ _ (Ne.symm hb)).trans q) ⟨_,e⟩ ?_
 exact ⟨hz,its',n',r,e⟩
noncomputable def rSetL:V→V→V→Hp→(Hp→Prop)→Prop:=fun o i v H Q=>∃ p xs k j,o=.ref p∧i=.int k∧H p=some (.lst xs)∧ixN xs.length k=some j∧Q (upd H p (.lst (xs.set j v)))
theorem set_list:PSet X rSetL:=by
 intro pins s σ H o i v ov iv u Q I ro ri rv h
 obtain ⟨p,xs,k,j,rfl,rfl,hp,hj,q⟩:=h
 cases ro
 obtain ⟨t,rfl⟩:=ri
 obtain ⟨its,n,r,ho,hz⟩:=I.lst hp
 obtain ⟨h1,h2,h3,h4⟩:=ixN_seq hj
 have hl:=r.length
 have hn:=line63
 have I':Inv X pins σ (upd H p (.lst (xs.set j v))) { s with heap:=s.heap.update p (Obj.mapSeq (·.setIfInBounds j u)) }:=
   I.lstUpd hp ho (mapSeq_set its n j u) (r.set rv j) (by rw [List.length_set]; exact hz) s.toks
 by_cases h0:0≤k
 . have hk:k.toNat=j:=by
     rw [seqIndex_of h0 h4] at h1
     exact Option.some.inj h1
   exact PySem.W.ki_setAt ho h0 (by omega) (by rw [List.size_toArray,← hl]; exact h4) (by rw [hk]; exact ⟨_,I',q⟩)
 . have hk:(k + (its.toArray.size:Int)).toNat=j:=by
     rw [seqIndex_neg (by omega) h3] at h1
     rw [List.size_toArray,← hl]
     exact Option.some.inj h1
   exact PySem.W.ki_setBack ho (by omega) (by rw [List.size_toArray,← hl]; exact h3) (by omega) (by rw [hk]; exact ⟨_,I',q⟩)
theorem slice_bounds (lo hi:Option Int) (n:Nat):(sliceBounds lo hi none n).1=((HT.sIx n 0 lo:Nat):Int)∧(sliceBounds lo hi none n).2.1=((HT.sIx n n hi:Nat):Int)∧(sliceBounds lo hi none n).2.2=1:=by
 refine ⟨?_,?_,rfl⟩
 . cases lo with
   | none=>simp [sliceBounds,HT.sIx]
   | some i =>
     simp only [sliceBounds,HT.sIx,Option.getD_none,show (1:Int) > 0 by decide,if_true]
     by_cases h:i < 0
     . simp only [h,if_true] <;> omega
     . simp only [h,if_false] <;> omega
 . cases hi with
   | none=>simp [sliceBounds,HT.sIx]
   | some i =>
     simp only [sliceBounds,HT.sIx,Option.getD_none,show (1:Int) > 0 by decide,if_true]
     by_cases h:i < 0
     . simp only [h,if_true] <;> omega
     . simp only [h,if_false] <;> omega
theorem slicePick_cut (its:List Value) (lo hi:Option Int):slicePick its.toArray lo hi none=((its.drop (HT.sIx its.length 0 lo)).take (HT.sIx its.length its.length hi - HT.sIx its.length 0 lo)).toArray:=by
 obtain ⟨h1,h2,h3⟩:=slice_bounds lo hi its.toArray.size
 unfold slicePick
 rw [h1,h2,h3]
 simp only [sliceRange_one,pick_run,List.size_toArray] <;> rfl
noncomputable def rSlL (K:PySem.W.Frag):V→Option Int→Option Int→Hp→VK→Prop:=fun x lo hi H Q=>∃ a xs,x=.ref a∧SqL K H a xs∧∀ p,H p=none→Q (.ref p) (upd H p (.lst (cutV xs lo hi)))
theorem sl_list:SlR X (rSlL X.K):=by
 intro pins s σ H x v vl vu lo hi sl Q I rx hs pl pu h
 obtain ⟨a,xs,rfl,hx,q⟩:=h
 cases rx
 obtain ⟨its,r,ht,hz⟩:=I.list hx
 have hlen:=r.length
 refine ⟨"list",_,slot_list_getitem.lookup,ht.isList.typeIs,?_⟩
 refine wpAny_getItem_list_slice ht.isList hs pl pu .none (by simp) ?_ (by rw [List.size_toArray] <;> omega)
 rw [slicePick_cut,← hlen]
 refine ⟨.ref s.heap.objs.size,_,I.laid (t':=s.toks) (o:=.lst (cutV xs lo hi)) (fun b ob q=>Heap.get?_push_of_some _ q) (Nat.le_refl _) ?_,rfl,q _ (I.hok.fresh (Nat.le_refl _))⟩
 exact ⟨Nat.le_trans (cutV_length xs lo hi) hz,_,0,(r.drop (HT.sIx xs.length 0 lo)).take (HT.sIx xs.length xs.length hi - HT.sIx xs.length 0 lo),Heap.get?_push_size _ rfl⟩
noncomputable def flatV:V→Bool
 | .non=>true
 | .bl _=>true
 | .int _=>true
 | .str _=>true
 | _=>false
noncomputable def eqV:V→V→Bool
 | .non,.non=>true
 | .bl a,.bl b=>a == b
 | .bl a,.int b=>(if a then 1 else 0) == b
 | .int a,.bl b=>a == (if b then 1 else 0)
 | .int a,.int b=>a == b
 | .str a,.str b=>a == b
 | _,_=>false
theorem eqAt_V {A:Around} {s:Shared} {y x:V} {u v:Value} (ry:RelV y u) (rx:RelV x v) (fy:flatV y=true) (fx:flatV x=true):SeqAt.EqAt A s u v (eqV y x):=by
 cases y with
 | non =>
   cases ry
   cases x with
   | non=>cases rx; exact SeqAt.EqAt.same _
   | bl b=>cases rx; exact SeqAt.EqAt.none_bool b
   | int b=>obtain ⟨t,rfl⟩:=rx; exact SeqAt.EqAt.none_int b t
   | str b=>obtain ⟨t,rfl⟩:=rx; exact SeqAt.EqAt.none_str b t
   | _=>exact absurd (show false=true from fx) Bool.false_ne_true
 | bl a =>
   cases ry
   cases x with
   | non=>cases rx; exact SeqAt.EqAt.bool_none a
   | bl b=>cases rx; exact SeqAt.EqAt.bool_bool a b
   | int b=>obtain ⟨t,rfl⟩:=rx; exact SeqAt.EqAt.bool_int a b t
   | str b=>obtain ⟨t,rfl⟩:=rx; exact SeqAt.EqAt.bool_str a b t
   | _=>exact absurd (show false=true from fx) Bool.false_ne_true
 | int a =>
   obtain ⟨t',rfl⟩:=ry
   cases x with
   | non=>cases rx; exact SeqAt.EqAt.int_none a t'
   | bl b=>cases rx; exact SeqAt.EqAt.int_bool a t' b
   | int b=>obtain ⟨t,rfl⟩:=rx; exact SeqAt.EqAt.int_int a t' b t
   | str b=>obtain ⟨t,rfl⟩:=rx; exact SeqAt.EqAt.int_str a t' b t
   | _=>exact absurd (show false=true from fx) Bool.false_ne_true
 | str a =>
   obtain ⟨t',rfl⟩:=ry
   cases x with
   | non=>cases rx; exact SeqAt.EqAt.str_none a t'
   | bl b=>cases rx; exact SeqAt.EqAt.str_bool a t' b
   | int b=>obtain ⟨t,rfl⟩:=rx; exact SeqAt.EqAt.str_int a t' b t
   | str b=>obtain ⟨t,rfl⟩:=rx; exact SeqAt.EqAt.str_str a t' b t
   | _=>exact absurd (show false=true from fx) Bool.false_ne_true
 | _=>exact absurd (show false=true from fy) Bool.false_ne_true
noncomputable def eqU (x:V) (u:Value):Bool:=match u with
 | .none=>eqV .non x
 | .bool b=>eqV (.bl b) x
 | .int i _=>eqV (.int i) x
 | .str z _=>eqV (.str z) x
 | _=>false
theorem eqU_of {x y:V} {u:Value} (r:RelV y u) (f:flatV y=true):eqU x u=eqV y x:=by
 cases y with
 | non=>cases r; rfl
 | bl b=>cases r; rfl
 | int i=>obtain ⟨t,rfl⟩:=r; rfl
 | str z=>obtain ⟨t,rfl⟩:=r; rfl
 | _=>exact absurd (show false=true from f) Bool.false_ne_true
theorem any_eqU {x:V}:∀ {xs:List V} {us:List Value},Vals xs us→xs.all flatV=true→us.any (eqU x)=xs.any fun y=>eqV y x
 | _,_,.nil,_=>rfl
 | y :: xs,u :: us,.cons r t,f=>by
   rw [List.all_cons,Bool.and_eq_true] at f
   rw [List.any_cons,List.any_cons,eqU_of r f.1,any_eqU t f.2]
theorem mem_eqAt {A:Around} {s:Shared} {x:V} {v:Value} (rx:RelV x v) (fx:flatV x=true):∀ {xs:List V} {us:List Value},Vals xs us→xs.all flatV=true→∀ u∈us,SeqAt.EqAt A s u v (eqU x u)
 | _,_,.nil,_=>fun u hu=>by cases hu
 | y :: xs,u :: us,.cons r t,f=>fun u' hu=>by
   rw [List.all_cons,Bool.and_eq_true] at f
   rcases List.mem_cons.mp hu with rfl | hu
   . rw [eqU_of r f.1]; exact eqAt_V r rx f.1 fx
   . exact mem_eqAt rx fx t f.2 u' hu
noncomputable def inV (x:V) (xs:List V):Bool:=xs.any fun y=>eqV y x
noncomputable def rIn (K:PySem.W.Frag) (neg:Bool):R2:=fun x y H Q=>∃ p xs,y=.ref p∧(SqL K H p xs ∨ SqT K H p xs)∧flatV x=true∧xs.all flatV=true∧Q (.bl (if neg then !inV x xs else inV x xs)) H
theorem op_in_seq:OpR X (compareOp .In) (rIn X.K false):=by
 intro pins s σ H x y v u Q I rx ry h
 obtain ⟨p,xs,rfl,hq,fx,fs,q⟩:=h
 cases ry
 rcases hq with hq | hq
 . obtain ⟨its,r,pl,hz⟩:=I.list hq
   refine SeqAt.in_listAt (eqU x) pl.isList (fun w hw=>mem_eqAt rx fx r fs w (by simpa using hw)) ⟨.bl _,H,I,rfl,?_⟩
   rw [show its.toArray.any (eqU x)=its.any (eqU x) by simp,any_eqU r fs]
   exact q
 . obtain ⟨its,r,pl,hz⟩:=I.tuple hq
   refine SeqAt.in_tupleAt (eqU x) pl (fun w hw=>mem_eqAt rx fx r fs w (by simpa using hw)) ⟨.bl _,H,I,rfl,?_⟩
   rw [show its.toArray.any (eqU x)=its.any (eqU x) by simp,any_eqU r fs]
   exact q
theorem op_notIn_seq:OpR X (compareOp .NotIn) (rIn X.K true):=by
 intro pins s σ H x y v u Q I rx ry h
 obtain ⟨p,xs,rfl,hq,fx,fs,q⟩:=h
 cases ry
 rcases hq with hq | hq
 . obtain ⟨its,r,pl,hz⟩:=I.list hq
   refine SeqAt.notIn_listAt (eqU x) pl.isList (fun w hw=>mem_eqAt rx fx r fs w (by simpa using hw)) ⟨.bl _,H,I,rfl,?_⟩
   rw [show its.toArray.any (eqU x)=its.any (eqU x) by simp,any_eqU r fs]
   exact q
 . obtain ⟨its,r,pl,hz⟩:=I.tuple hq
   refine SeqAt.notIn_tupleAt (eqU x) pl (fun w hw=>mem_eqAt rx fx r fs w (by simpa using hw)) ⟨.bl _,H,I,rfl,?_⟩
   rw [show its.toArray.any (eqU x)=its.any (eqU x) by simp,any_eqU r fs]
   exact q
theorem call_len_seq:CallR X (.builtin "len") (fun xs H Q=>∃ p ys,xs=[.ref p]∧(SqL X.K H p ys ∨ SqT X.K H p ys)∧Q (.int ys.length) H):=by
 intro pins s σ H xs us Q I r h
 obtain ⟨p,ys,rfl,hq,q⟩:=h
 obtain ⟨u,rfl,rx⟩:=vals1 r
 cases rx
 have hn:=line63
 rcases hq with hq | hq
 . obtain ⟨its,r',pl,hz⟩:=I.list hq
   have hlen:=r'.length
   exact Calls.call_len_list pl.isList (by simp only [List.size_toArray] <;> omega) ⟨.int ys.length,H,I.tok _,⟨s.toks + 1,by rw [List.size_toArray,hlen]⟩,q⟩
 . obtain ⟨its,r',pl,hz⟩:=I.tuple hq
   have hlen:=r'.length
   exact len_tuple pl (by simp only [List.size_toArray] <;> omega) ⟨.int ys.length,H,I.tok _,⟨s.toks + 1,by rw [List.size_toArray,hlen]⟩,q⟩
theorem call_len_str:CallR X (.builtin "len") (fun xs H Q=>∃ z,xs=[.str z]∧z.length≤sizeLine∧Q (.int z.length) H):=by
 intro pins s σ H xs us Q I r h
 obtain ⟨z,rfl,hz,q⟩:=h
 obtain ⟨u,rfl,t,rfl⟩:=vals1 r
 have hn:=line63
 exact len_str (by omega) ⟨.int z.length,H,I.tok _,⟨_,rfl⟩,q⟩
theorem call_list_of:CallR X (.type "list") (fun xs H Q=>∃ p ys,xs=[.ref p]∧(SqL X.K H p ys ∨ SqT X.K H p ys)∧∀ l,H l=none→Q (.ref l) (upd H l (.lst ys))):=by
 intro pins s σ H xs us Q I r h
 obtain ⟨p,ys,rfl,hq,q⟩:=h
 obtain ⟨u,rfl,rx⟩:=vals1 r
 cases rx
 have fin:∀ (its:List Value),Vals ys its→ys.length≤sizeLine→∀ (h':Heap) (c':Nat),(∀ b o',s.heap.get? b=some o'→h'.get? b=some o') →
     h'.get? s.heap.objs.size=some { cls:=.type "list",dict:=none,data:=.seq its.toArray c',slots:=#[] }→EP X pins σ Q (.ref s.heap.objs.size) { s with heap:=h' }:=fun its r' hz h' c' kp e =>
   ⟨.ref s.heap.objs.size,_,I.laid (t':=s.toks) kp (Nat.le_refl _) (show ObjOk X.prog X.w _ h' _ (.lst ys) from ⟨hz,its,c',r',e⟩),rfl,q _ (I.hok.fresh (Nat.le_refl _))⟩
 rcases hq with hq | hq
 . obtain ⟨its,r',pl,hz⟩:=I.list hq
   have hlen:=r'.length
   obtain ⟨o,ho,hc,n,hd⟩:=pl.isList
   exact call_list_seq p (.inl rfl) ho hc hd (fun h' c' kp e=>fin its r' hz h' c' kp e) (by simp only [List.size_toArray] <;> omega)
 . obtain ⟨its,r',pl,hz⟩:=I.tuple hq
   have hlen:=r'.length
   obtain ⟨o,ho,hc,n,hd⟩:=pl
   exact call_list_seq p (.inr rfl) ho hc hd (fun h' c' kp e=>fin its r' hz h' c' kp e) (by simp only [List.size_toArray] <;> omega)
theorem call_tuple_of:CallR X (.type "tuple") (fun xs H Q=>∃ p ys,xs=[.ref p]∧((SqL X.K H p ys∧∀ l,H l=none→Q (.ref l) (upd H l (.tup ys))) ∨ (SqT X.K H p ys∧Q (.ref p) H))):=by
 intro pins s σ H xs us Q I r h
 obtain ⟨p,ys,rfl,h⟩:=h
 obtain ⟨u,rfl,rx⟩:=vals1 r
 cases rx
 rcases h with ⟨hq,q⟩ | ⟨hq,q⟩
 . obtain ⟨its,r',pl,hz⟩:=I.list hq
   have hlen:=r'.length
   refine call_tuple_list pl.isList (fun h' kp=>?_) (by simp only [List.size_toArray] <;> omega)
   have I1:Inv X pins σ H { s with heap:=h' }:=I.kept (t':=s.toks) kp
   have I2:Inv X pins σ (upd H h'.objs.size (.tup ys)) { s with heap:=h'.push { cls:=.type "tuple",data:=.seq its.toArray } }:=
     I1.laid (t':=s.toks) (fun b o e=>Heap.get?_push_of_some _ e) (Nat.le_refl _) (show ObjOk X.prog X.w _ _ _ (.tup ys) from ⟨hz,its,r',PTup.new _ _⟩)
   exact ⟨.ref h'.objs.size,_,I2,rfl,q _ (I1.hok.fresh (Nat.le_refl _))⟩
 . obtain ⟨its,r',pl,hz⟩:=I.tuple hq
   exact call_tuple_same pl ⟨.ref p,H,I,rfl,q⟩
noncomputable def tyV (K:PySem.W.Frag) (T:String) (x:V) (H:Hp):Prop:=match x with
 | .str _=>T="str"
 | .int _=>T="int"
 | .ref p=>(T="list"∧∃ xs,SqL K H p xs) ∨ (T="tuple"∧∃ o,K.lookup p=some o∧o.cls=.type "tuple"∧o.dict=none) ∨
     (T="dict"∧((∃ kvs,H p=some (.dK kvs)) ∨ ∃ kvs,H p=some (.dT kvs))) ∨ (T="set"∧∃ S n,H p=some (.set S n))
 | _=>False
theorem tyV_is {pins:List (Addr × Obj)} {σ:St} {H:Hp} {s:Shared} {T:String} {x:V} {v:Value} (I:Inv X pins σ H s) (r:RelV x v) (ty:tyV X.K T x H) :
   s.TypeIs v T∧∀ a,v=.ref a→∃ ob,s.heap.get? a=some ob∧ob.dict=none:=by
 cases x with
 | str z =>
   obtain ⟨t,rfl⟩:=r
   cases (show T="str" from ty)
   exact ⟨typeIs_str s z t,fun _ e=>nomatch e⟩
 | int i =>
   obtain ⟨t,rfl⟩:=r
   cases (show T="int" from ty)
   exact ⟨typeIs_int s i t,fun _ e=>nomatch e⟩
 | ref p =>
   cases r
   rcases ty with ⟨rfl,xs,hq⟩ | ⟨rfl,o,hk,hc,hd⟩ | ⟨rfl,hk⟩ | ⟨rfl,S,n,hk⟩
   . obtain ⟨its,_,pl,_⟩:=I.list hq
     refine ⟨pl.isList.typeIs,fun a e=>?_⟩
     cases e
     obtain ⟨o,n,e,c,hd,_⟩:=pl
     exact ⟨o,e,hd⟩
   . refine ⟨⟨o,I.kIn p o hk,hc⟩,fun a e=>?_⟩
     cases e
     exact ⟨o,I.kIn _ o hk,hd⟩
   . have z:∃ o,s.heap.get? p=some o∧o.ExactDict:=by
       rcases hk with ⟨kvs,hk⟩ | ⟨kvs,hk⟩
       . obtain ⟨_,_,_,_,o,_,_,e,ex,_⟩:=I.hok p _ hk
         exact ⟨o,e,ex⟩
       . obtain ⟨_,_,_,_,o,_,_,e,ex,_⟩:=I.hok p _ hk
         exact ⟨o,e,ex⟩
     obtain ⟨o,e,ex⟩:=z
     refine ⟨⟨o,e,ex.1⟩,fun a e2=>?_⟩
     cases e2
     exact ⟨o,e,ex.2.1⟩
   . obtain ⟨o,_,_,_,e,ex,_⟩:=I.hok p _ hk
     refine ⟨⟨o,e,ex.1⟩,fun a e2=>?_⟩
     cases e2
     exact ⟨o,e,ex.2.1⟩
 | _=>exact False.elim ty
noncomputable def tBM (K:PySem.W.Frag) (T:String) (r:V→List V→Hp→VK→Prop) (to:TE) (t:TA):TE:=fun σ H Q=>to σ H fun x H1=>tyV K T x H1∧t σ H1 fun xs H2=>r x xs H2 Q
variable {o e:Expr} {es:List Expr} {to:TE} {t:TA} {name:Str} {apos cpos:Pos} {T id:String} {r:V→List V→Hp→VK→Prop}
theorem pe_bm (pa:PlainAttrs T) (slot:Slot T name id) (hty:typeOf (.builtin id)=pure (.type "method_descriptor")) (hm:MtR X id r) (ho:PE X o to) (ha:PA X (e :: es) t)
   (hbase:attributeBase o name X.env (eval o X.env)=eval o X.env:=by rfl)
   (hfew:((backTo cpos (starEach (e :: es) X.env)).all (fun x=>!x.1) && (backToKw cpos (keywordEach [] X.env)).all (fun x=>x.1.isSome)
     && decide ((e :: es).length + ([]:List Keyword).length + (if ([]:List Keyword).isEmpty then 0 else 1) < 30))=true:=by rfl)
   (hline:(apos.endLine == cpos.line)=true:=by rfl) (hs:starEach (e :: es) X.env=(false,eval e X.env) :: starEach es X.env:=by rfl) (hplain:(backTo cpos (starEach es X.env)).any (·.1)=false:=by rfl) :
   PE X (.Call (.Attribute o name apos) (e :: es) [] cpos) (tBM X.K T r to t):=by
 intro pins s σ H Q I h
 refine wpAny_Call_method_late hbase hfew hline rfl (thn (ho pins s σ H _ I h) fun v s1 ⟨x,H1,I1,r1,ty,q1⟩=>?_)
 obtain ⟨h1,h2⟩:=tyV_is I1 r1 ty
 refine ⟨T,id,pa,slot,hty,h1,h2,?_⟩
 have hA:=ha cpos pins s1 σ H1 _ I1 q1
 rw [hs] at hA ⊢
 refine Calls.callWith_builtin (by show (false || (backTo cpos (starEach es X.env)).any (·.1))=false; rw [hplain] <;> rfl) (Calls.evalArgs_plain ?_)
 exact thn hA fun us s2 ⟨vs,H2,I2,r2,q2⟩=>hm pins s2 σ H2 x vs v us Q I2 r1 r2 q2
/- xs.append(e),list.index on a module's tuple .. are MtR facts of 06m -/
end
end L2
namespace L2
open PySem PySem.Spec PyProof.Rows
noncomputable def MtM (X:Cx) (id:String) (r:V→List V→Hp→VK→Prop):Prop:=
 ∀ (pins:List (Addr × Obj)) (s:Shared) (σ:St) (H:Hp) (x:V) (xs:List V) (v:Value) (us:List Value) (Q:VK),Inv X pins σ H s→RelV x v→Vals xs us→r x xs H Q →
   wpAny (model X.prog X.w) X.A (call (.builtin id) (v :: us)) (EP X pins σ Q) X.xe s
theorem Vals.one:∀ {x:V} {us:List Value},Vals [x] us→∃ u,us=[u]∧RelV x u
 | _,_,.cons r .nil=>⟨_,rfl,r⟩
theorem Vals.rep {xs:List V} {us:List Value} (h:Vals xs us):∀ k:Nat,Vals (List.replicate k xs).flatten (List.replicate k us).flatten
 | 0=>.nil
 | k + 1=>by
   rw [List.replicate_succ,List.replicate_succ,List.flatten_cons,List.flatten_cons]
   exact Vals.append h (Vals.rep h k)
theorem foldl_rep (its:List Value):∀ (k:Nat) (acc:List Value),
   List.foldl (fun x1 x2=>x1++x2) acc.toArray (List.replicate k its.toArray)=(acc++(List.replicate k its).flatten).toArray
 | 0,acc=>by simp
 | k + 1,acc=>by
   have e:acc.toArray++its.toArray=(acc++its).toArray:=by simp
   have e2:(acc++its)++(List.replicate k its).flatten=acc++(List.replicate (k + 1) its).flatten:=by
     rw [List.replicate_succ,List.flatten_cons,List.append_assoc]
   rw [←e2,← foldl_rep its k (acc++its),← e,List.replicate_succ,List.foldl_cons]
section
variable {X:Cx} {pins:List (Addr × Obj)} {σ:St} {H:Hp} {s:Shared} {l b:Addr} {xs ys zs:List V}
theorem Inv.lset {its its':List Value} {n:Nat} {f:Array Value→Array Value} {t':Nat} (I:Inv X pins σ H s) (hH:H l=some (.lst xs))
   (e:s.heap.get? l=some { cls:=.type "list",data:=.seq its.toArray n }) (hf:f its.toArray=its'.toArray) (hv:Vals ys its') (hz:ys.length≤sizeLine) :
   Inv X pins σ (upd H l (.lst ys)) { s with heap:=s.heap.update l (Obj.mapSeq f),toks:=t' }:=by
 have q:=PySem.IsL.update e f
 rw [hf] at q
 refine I.write (x:=l) (e:=l) (by rw [hH]; exact trivial) (.inl rfl) (fun b' u hb hu=>(Heap.get?_update_other s.heap (Obj.mapSeq f) (Ne.symm hb)).trans hu) ⟨_,q⟩ ?_
 exact ⟨hz,its',_,hv,q⟩
theorem Inv.lnew {its:List Value} {t':Nat} (I:Inv X pins σ H s) (hv:Vals ys its) (hz:ys.length≤sizeLine) :
   Inv X pins σ (upd H s.heap.objs.size (.lst ys)) { s with heap:=s.heap.push { cls:=.type "list",data:=.seq its.toArray },toks:=t' }:=
 I.laid (fun _ _ q=>Heap.get?_push_of_some _ q) (Nat.le_refl _) ⟨hz,its,0,hv,Heap.get?_push_size _ rfl⟩
theorem Inv.fresh (I:Inv X pins σ H s):H s.heap.objs.size=none:=I.hok.fresh (Nat.le_refl _)
theorem Inv.lstM (I:Inv X pins σ H s) (hH:H l=some (.lst xs)):xs.length≤sizeLine∧∃ (its:List Value) (n:Nat),Vals xs its∧xs.length=its.length∧s.heap.get? l=some { cls:=.type "list",data:=.seq its.toArray n }:=by
 obtain ⟨z,its,n,r,e⟩:=I.hok l _ hH
 exact ⟨z,its,n,r,r.length,e⟩
theorem notLongL {n:Nat} (h:n≤sizeLine):Builtin.List.listTooLong n=false:=by
 unfold Builtin.List.listTooLong
 exact decide_eq_false (by omega)
end
section
variable {X:Cx}
noncomputable def rAppend:V→List V→Hp→VK→Prop:=fun x vs H Q=>∃ l xs y,x=.ref l∧vs=[y]∧H l=some (.lst xs)∧xs.length < sizeLine∧Q .non (upd H l (.lst (xs++[y])))
theorem mt_append:MtM X "list.append" rAppend:=by
 intro pins s σ H x vs v us Q I rx rv h
 obtain ⟨l,xs,y,rfl,rfl,hH,hz,q⟩:=h
 cases rx
 obtain ⟨u,rfl,ru⟩:=rv.one
 obtain ⟨z,its,n,r,hl,e⟩:=I.lstM hH
 refine call_meets F.slot_list_append ⟨_,e,rfl⟩ F.entry_list_append (F.args_list_append_2 _ _) (PySem.list_append l its.toArray n u (by rw [List.size_toArray]; omega)) ⟨e,?_⟩
 refine ⟨.non,_,I.lset (its':=its++[u]) hH e (by simp) (r.append (.cons ru .nil)) ?_,rfl,q⟩
 rw [List.length_append,List.length_singleton]
 omega
noncomputable def rExtend:V→List V→Hp→VK→Prop:=fun x vs H Q=>∃ l b xs zs,x=.ref l∧vs=[.ref b]∧H l=some (.lst xs)∧H b=some (.lst zs)∧xs.length + zs.length≤sizeLine∧Q .non (upd H l (.lst (xs++zs)))
theorem mt_extend:MtM X "list.extend" rExtend:=by
 intro pins s σ H x vs v us Q I rx rv h
 obtain ⟨l,b,xs,zs,rfl,rfl,hH,hB,hz,q⟩:=h
 cases rx
 obtain ⟨u,rfl,ru⟩:=rv.one
 cases ru
 obtain ⟨z,its,n,r,hl,e⟩:=I.lstM hH
 obtain ⟨z2,its2,n2,r2,hl2,e2⟩:=I.lstM hB
 have hsz:its.toArray.size + its2.toArray.size≤sizeLine:=by rw [List.size_toArray,List.size_toArray]; omega
 have hlong:¬ (!its.toArray.isEmpty && Builtin.List.listTooLong (its.toArray.size + its2.toArray.size))=true:=by
   rw [notLongL hsz,Bool.and_false]
   exact Bool.false_ne_true
 refine call_meets F.slot_list_extend ⟨_,e,rfl⟩ F.entry_list_extend (F.args_list_extend_2 _ _)
   (AutoSeq1.list_extend_list_list_0 l its.toArray n b its2.toArray n2 hlong (by rw [List.size_toArray]; omega) (by omega)) ⟨e,e2,?_⟩
 refine ⟨.non,_,I.lset (its':=its++its2) hH e (by simp) (r.append r2) ?_,rfl,q⟩
 rw [List.length_append]
 omega
noncomputable def rCat:R2:=fun x y H Q=>∃ l b xs zs,x=.ref l∧y=.ref b∧H l=some (.lst xs)∧H b=some (.lst zs)∧xs.length + zs.length≤sizeLine∧∀ p,H p=none→Q (.ref p) (upd H p (.lst (xs++zs)))
theorem op_cat:OpR X (binaryOp .Add) rCat:=by
 intro pins s σ H x y v u Q I rx ry h
 obtain ⟨l,b,xs,zs,rfl,rfl,hH,hB,hz,q⟩:=h
 cases rx
 cases ry
 obtain ⟨z,its,n,r,hl,e⟩:=I.lstM hH
 obtain ⟨z2,its2,n2,r2,hl2,e2⟩:=I.lstM hB
 refine PySem.P.add_list e e2 ?_ (by rw [List.size_toArray,List.size_toArray]; omega)
 have ea:its.toArray++its2.toArray=(its++its2).toArray:=by simp
 rw [ea]
 exact ⟨.ref _,_,I.lnew (t':=s.toks) (r.append r2) (by rw [List.length_append]; omega),rfl,q _ I.fresh⟩
noncomputable def rRep:R2:=fun x y H Q=>∃ l k xs,x=.ref l∧y=.int k∧H l=some (.lst xs)∧-(2 ^ 63)≤k∧k < 2 ^ 63∧xs.length * k.toNat≤sizeLine ∧
 ∀ p,H p=none→Q (.ref p) (upd H p (.lst (List.replicate k.toNat xs).flatten))
theorem len_rep {α:Type} (xs:List α) (k:Nat):(List.replicate k xs).flatten.length=k * xs.length:=by
 induction k with
 | zero=>simp
 | succ k ih=>rw [List.replicate_succ,List.flatten_cons,List.length_append,ih,Nat.succ_mul,Nat.add_comm]
theorem op_rep:OpR X (binaryOp .Mult) rRep:=by
 intro pins s σ H x y v u Q I rx ry h
 obtain ⟨l,k,xs,rfl,rfl,hH,h1,h2,hz,q⟩:=h
 cases rx
 obtain ⟨t,rfl⟩:=ry
 obtain ⟨z,its,n,r,hl,e⟩:=I.lstM hH
 have hlen:its.toArray.size * k.toNat≤sizeLine:=by rw [List.size_toArray,← hl]; exact hz
 have hcap:¬ its.toArray.size * k.toNat > (2 ^ 63 - 1) / 8:=by
   have:(sizeLine:Nat)≤(2 ^ 63 - 1) / 8:=by decide
   omega
 have hfit:¬ (!Builtin.List.listFitsIndex k)=true:=by
   rw [fitsIndex_both h1 h2]
   exact Bool.false_ne_true
 have hlong:¬ Builtin.List.listTooLong (its.toArray.size * k.toNat)=true:=by
   rw [notLongL hlen]
   exact Bool.false_ne_true
 have hnew:List.foldl (fun x1 x2=>x1++x2) #[] (List.replicate (if its.toArray.isEmpty=true then 0 else k.toNat) its.toArray)=(List.replicate k.toNat its).flatten.toArray:=by
   have f0:∀ m:Nat,List.foldl (fun x1 x2=>x1++x2) #[] (List.replicate m its.toArray)=(List.replicate m its).flatten.toArray:=fun m=>by
     have:=foldl_rep its m []
     rw [List.nil_append] at this
     exact this
   rw [f0]
   cases its with
   | nil=>simp
   | cons a r'=>rw [if_neg (by simp)]
 refine wpAny_binaryOp_repeat_ref (T:="list") (U:="int") (by decide) ⟨_,e,rfl⟩ (fun s'=>typeIs_int s' k t) noFill_list_mul F.fills_int_mul F.slot_int_rmul repeat_list F.slot_int_index.lookup
   (call_meets F.slot_int_rmul (typeIs_int s k t) F.entry_int_rmul (F.args_int_rmul_2 _ _) (int___rmul___int_list k t l its.toArray n)
     ⟨e,rfl,⟨_,e,rfl⟩,call_meets F.slot_list_mul ⟨_,e,rfl⟩ F.entry_list_mul (F.args_list_mul_2 _ _) (AutoListH.list___mul___list_int_3 l its.toArray n k t hfit hcap hlong) ⟨e,?_⟩⟩)
 rw [hnew]
 exact ⟨.ref _,_,I.lnew (t':=s.toks) (r.rep k.toNat) (by rw [len_rep,Nat.mul_comm]; exact hz),rfl,q _ I.fresh⟩
end
section
variable {prog:Program} {w:World} {A:Around} {E:Value→Shared→Prop} {s:Shared}
end
section
variable {X:Cx}
end
end L2
namespace Att
open PySem PySem.W PySem.Calls PyProof.Rows
theorem ints_of_wellAll {P:Params} {h:Heap}:∀ (ns:List Int) (vs:List Value),WellAll P h vs (ns.map WData.int)→IntsAre vs ns:=by
 intro ns
 induction ns with
 | nil =>
   intro vs w
   rw [List.map_nil] at w
   cases w
   exact .nil
 | cons n ns ih =>
   intro vs w
   rw [List.map_cons] at w
   cases w with
   | cons a b =>
     cases a
     exact .cons _ _ (ih _ b)
theorem script_of {l:OpenLaw} {n:Nat} (hn:l.most=some n) {P:Params} {h:Heap} {args:List WData} {vals:List Value}
   (hpre:l.row.toRowW.claim.pre args=true) (hwl:WellAll P h vals args) :
   ∃ a vs ns,vals=[Value.ref a]∧args=[WData.list (ns.map WData.int)]∧h.get? a=some { cls:=.type "list",data:=.seq vs.toArray }∧IntsAre vs ns∧ns.length≤n:=by
 have hsh:WShape.hasAll [] args [.list .int]=true:=(pre_splitW hpre).1
 have hc:l.pre.holds [] { args:=args }=true:=(pre_splitW hpre).2
 obtain ⟨d,r,rfl,h1,h2⟩:=hasAllW_cons hsh
 obtain rfl:=hasAllW_nil h2
 obtain ⟨xs,rfl,h3⟩:=hasW_list h1
 obtain ⟨ns,rfl⟩:=items_int h3
 have hlen:ns.length≤n:=by
   unfold OpenLaw.pre at hc
   have h4:(WTm.not (.lt (.lit (.int (n:Int))) (.len (.arg 0)))).holds [] { args:=[.list (ns.map .int)] }=true:=by
     have h4:=(holds_andW hc).1
     rw [hn] at h4
     exact h4
   have h5:=condW_of h4 (w_not (w_lt w_lit (w_len_list (w_arg rfl))))
   rw [List.length_map] at h5
   refine Nat.le_of_not_lt fun q=>?_
   have q':(n:Int) < ((ns.length:Nat):Int):=by omega
   first
     | (rw [decide_eq_true q'] at h5; exact absurd h5 (by decide))
     | (simp at h5; omega)
 cases hwl with
 | cons w1 w2 =>
   cases w2
   cases w1 with
   | list ho hall=>exact ⟨_,_,ns,rfl,rfl,ho,ints_of_wellAll ns _ hall,hlen⟩
theorem post_true (l:OpenLaw) (args:List WData):l.row.toRowW.claim.post args (.bool true) args=true:=
 postW_of (r:=l.row.toRowW) (X:=(true == true))
   (show WShape.has [] (.bool true) .bool=true by first | rfl | decide | simp [WShape.has,WShape.arms,WShape.armsAll])
   (show (WTm.eq .res (.lit (.bool true))).value [] { args:=args,res:=some (.bool true),after:=args }=some (.bool (true == true)) from w_eq_bool (w_res rfl) w_lit) rfl
theorem attach_call {l:OpenLaw} {n:Nat} {q:Program} {loose:List Str} {XP:(Str→Option Value)→Heap→Prop} {YP:World→Heap→Prop} {d:DefRec}
   (hn:l.most=some n) (hdf:d.params.defaults=[])
   (call:∀ (w:World) (s₀ s₁:Shared) (mg mb:Str→Option Value) (fa:Addr) (o:Obj) (pm cd doc:Value) (a:Addr) (vs:List Value) (ns:List Int),
     Ground q loose [] XP w s₀ mg mb s₁.heap→YP w s₁.heap →
     s₁.heap.get? fa=some o→o.data=.func (docDef d.name d.params d.body d.scope pm cd doc)→s₁.heap.CodeRec cd d.name→mg d.name=some (.ref fa) →
     s₁.heap.get? a=some { cls:=.type "list",data:=.seq vs.toArray }→IntsAre vs ns→ns.length≤n→s₁.gens=#[] →
     codeAny (model l.prog w) callerA (.call (.ref fa) ⟨[.ref a],[]⟩) (fun r s'=>r=.ok (.ret (.bool true))∧OldK s₁.heap s'.heap∧s'.os=s₁.os∧AllBare s'.gens) s₁) :
   WalkO q loose XP YP l.row.toRowW d [] (fun f vs=>PySem.call f vs):=by
 intro w s₀ s₁ mg mb G Y fa o pm cd doc dV kV ho hd hcd hD hmg hg args vals as hpre hlay hrd hwl hlo
 obtain rfl:dV=.none:=Dflts.none hD hdf
 obtain rfl:kV=.none:=Dflts.noKw hD
 obtain ⟨a,vs,ns,rfl,rfl,hobj,hints,hlen⟩:=script_of hn hpre hwl
 refine enter_call (codeAny_mono (call w s₀ s₁ mg mb fa o pm cd doc a vs ns G Y ho (fd_plain hd) hcd hmg hobj hints hlen hg) fun r s' hq=>?_)
 obtain ⟨rfl,h2,h3,h4⟩:=hq
 exact ⟨.inl ⟨.bool true,.bool true,[],rfl,fun _=>rfl,.bool true,post_true l _,fun _=>⟨List.Pairwise.nil,fun _ hm=>(nomatch hm)⟩⟩,h2,h3,h4⟩
section
variable {prog:Program} {w:World} {A:Around} {E:Value→Shared→Prop} {s:Shared} {K:Frag}
end
end Att
namespace L2
open PySem PySem.Spec PyProof.Rows
theorem vals_ints:∀ {vs:List Value} {ns:List Int},IntsAre vs ns→Vals (ns.map V.int) vs
 | _,_,.nil=>.nil
 | _,_,.cons n t h=>.cons ⟨t,rfl⟩ (vals_ints h)
noncomputable def Only (H:Hp):Prop:=∀ b,H b=none ∨ ∃ o xs,H b=some (.frz o (.lst xs))
theorem law_call {P:Program} {w:World} {K:PySem.W.Frag} {mg mb:Str→Option Value} {CX:CXT} {k:Nat} {fa a:Addr} {fd:FuncData} {x:Str} {sp:Sp} {s₁:Shared} {vs:List Value} {ns:List Int}
   (KX:K.In s₁.heap) (hns:s₁.heap.Ns mainGlobals mg) (hb:s₁.heap.Ns builtinsNs mb) (hbb:∀ x:Str,x≠"__name__"→mb x=bootBuiltins x) (hlim:s₁.heap.NoLimit) (hg:s₁.gens=#[])
   (ha:s₁.heap.get? a=some { cls:=.type "list",data:=.seq vs.toArray }) (hi:IntsAre vs ns) (hl:ns.length≤sizeLine) (hr:Room k callerA)
   (F:∀ base:Heap,K.In base→base.Ns mainGlobals mg→FnOk P w K mg base CX k fa fd [x] sp) (hbind:∀ (s:Shared) (u:Value),BindsTo s fd ⟨[u],[]⟩ [(x,u)])
   (hsp:∀ H:Hp,Only H→SqL K H a (ns.map V.int)→sp [.ref a] H (fun v _=>v=.bl true) fun _ _ _=>False)
   (hCX:∀ H e s',CX [] H s₁ (fun _ _ _=>False) e s'→False) :
   codeAny (model P w) callerA (.call (.ref fa) ⟨[.ref a],[]⟩) (fun r s'=>r=.ok (.ret (.bool true))∧OldK s₁.heap s'.heap∧s'.os=s₁.os∧AllBare s'.gens) s₁:=by
 have rv:=vals_ints hi
 have lenV:=hi.length
 -- from an abstract heap in which nothing but the script may be tracked
 have core:∀ H:Hp,Only H→SqL K H a (ns.map V.int)→HOk P w H s₁.heap→(∀ b,H b≠none→b=a)→(H a≠none→K.lookup a=none) →
     codeAny (model P w) callerA (.call (.ref fa) ⟨[.ref a],[]⟩) (fun r s'=>r=.ok (.ret (.bool true))∧OldK s₁.heap s'.heap∧s'.os=s₁.os∧AllBare s'.gens) s₁:=by
   intro H hO hS hok hA hK
   have base_of:∀ {b:Addr} {o:Obj},s₁.heap.get? b=some o→H b=none→(hidT s₁.heap H).get? b=some o:=fun e n=>hidT_get e n
   have noA:∀ {b:Addr} {o:Obj} {es:Array DictEntry} {ep:Nat},s₁.heap.get? b=some o→o.data=.dict es ep→H b=none:=fun {b o es ep} e d=>by
     cases q:H b with
     | none=>rfl
     | some u =>
       have e':b=a:=hA b (by rw [q]; simp)
       subst e'
       rw [ha] at e; cases e
       have d':Data.seq vs.toArray _=Data.dict es ep:=d
       cases d'
   have nsK:∀ {b:Addr} {m:Str→Option Value},s₁.heap.Ns b m→(hidT s₁.heap H).Ns b m:=fun {b m} ⟨o,es,ep,e,d,r⟩=>⟨o,es,ep,base_of e (noA e d),d,r⟩
   have hKb:K.In (hidT s₁.heap H):=fun b o e=>base_of (KX b o e) (by
     cases q:H b with
     | none=>rfl
     | some u =>
       have e':b=a:=hA b (by rw [q]; simp)
       subst e'
       rw [hK (by rw [q]; simp)] at e; cases e)
   have hM:Mod K mg (hidT s₁.heap H):=⟨hKb,nsK hns,⟨mb,nsK hb,hbb⟩,let ⟨mc,h1,h2⟩:=hlim; ⟨mc,nsK h1,h2⟩⟩
   have e0:Env0 P w K mg (hidT s₁.heap H) callerA [] s₁ H:=⟨rfl,hM,fun b o e=>of_hidT e,Nat.le_of_eq (hidT_size _ _),trivial,fun b hb=>absurd (show b∈([]:List Addr) from hb) (by simp),hok,.of_eq hg⟩
   refine codeAny_mono ((F _ hKb (nsK hns)).run callerA [] s₁ H ⟨[.ref a],[]⟩ [.ref a] [.ref a] _ _ hr e0 (hbind s₁ (.ref a)) (.cons rfl .nil) (hsp H hO hS)) fun r s' h=>?_
   cases r with
   | error e=>exact (hCX H e s' h).elim
   | ok fl =>
     cases fl with
     | next=>exact False.elim h
     | brk=>exact False.elim h
     | cont=>exact False.elim h
     | ret u =>
       obtain ⟨v,H',os,bare,un,hok',r',q⟩:=h
       have q':v=.bl true:=q
       subst q'
       obtain rfl:u=Value.bool true:=r'
       refine ⟨rfl,OldK.of_keep fun b o e=>?_,os,bare⟩
       cases q:H b with
       | none=>exact un.keep b o e q (by intro z; exact absurd (show b∈([]:List Addr) from z) (by simp)) (by simp)
       | some u =>
         rcases hO b with z | ⟨ob,xs,z⟩
         . rw [q] at z; cases z
         . have z2:=un.frzs b ob _ z
           obtain ⟨e1,_⟩:=hok b _ z
           obtain ⟨e2,_⟩:=hok' b _ z2
           rw [e] at e1; cases e1
           exact e2
 cases hk:K.lookup a with
 | some o =>
   -- the script is one of the module's own objects
   have e:=KX a o hk
   rw [ha] at e
   cases e
   refine core (fun _=>none) (fun _=>.inl rfl) (.inr ⟨_,vs.toArray,_,hk,rfl,rfl,rfl,by rw [List.size_toArray,lenV]; exact hl,by simpa using rv⟩) (fun b u z=>by have z':(none:Option HO)=some u:=z; cases z') (fun b z=>absurd rfl z) fun z=>absurd rfl z
 | none =>
   refine core (fun b=>if b=a then some (.frz { cls:=.type "list",data:=.seq vs.toArray } (.lst (ns.map V.int))) else none) (fun b=>?_) (.inl (.inr ⟨{ cls:=.type "list",data:=.seq vs.toArray },if_pos rfl⟩)) (fun b u z=>?_) (fun b z=>?_) fun _=>hk
   . by_cases hb:b=a
     . exact .inr ⟨_,_,if_pos hb⟩
     . exact .inl (if_neg hb)
   . by_cases hb:b=a
     . have z':=(if_pos hb).symm.trans z
       cases z'
       subst hb
       exact ⟨ha,by rw [List.length_map]; exact hl,vs,_,rv,ha⟩
     . have z':=(if_neg hb).symm.trans z
       cases z'
   . by_cases hb:b=a
     . exact hb
     . exact absurd (if_neg hb) z
end L2
namespace L2
open PySem PySem.Spec PyProof.Rows
theorem walk_of {l:PySem.W.OpenLaw} {n k:Nat} {q:Program} {loose:List Str} {XP:(Str→Option Value)→Heap→Prop} {YP:World→Heap→Prop} {d:DefRec} {K:Params→PySem.W.Frag} {CX:World→CXT} {sp:World→Sp} {x:Str}
   (hn:l.most=some n) (hn2:n≤sizeLine) (hdf:d.params.defaults=[]) (hr:Room k callerA)
   (hY:∀ (w:World) (h:Heap),YP w h→(K w.params).In h)
   (F:∀ (w:World) (mg:Str→Option Value) (fa:Addr) (h:Heap),(K w.params).In h→h.Ns mainGlobals mg→mg d.name=some (.ref fa) →
     ∃ fd:FuncData,(∀ (s:Shared) (u:Value),BindsTo s fd ⟨[u],[]⟩ [(x,u)]) ∧
       ∀ base:Heap,(K w.params).In base→base.Ns mainGlobals mg→FnOk l.prog w (K w.params) mg base (CX w) k fa fd [x] (sp w))
   (hsp:∀ (w:World) (H:Hp) (a:Addr) (ns:List Int),ns.length≤n→Only H→SqL (K w.params) H a (ns.map V.int)→sp w [.ref a] H (fun v _=>v=.bl true) fun _ _ _=>False)
   (hCX:∀ (w:World) (H:Hp) (s:Shared) (e:Value) (s':Shared),CX w [] H s (fun _ _ _=>False) e s'→False) :
   PySem.W.WalkO q loose XP YP l.row.toRowW d [] (fun f vs=>PySem.call f vs):=by
 refine Att.attach_call hn hdf fun w s₀ s₁ mg mb fa o pm cd doc a vs ns G Y ho hd hcd hmg hobj hints hlen hg=>?_
 have KX:=hY w _ Y
 obtain ⟨fd,hb,hF⟩:=F w mg fa _ KX G.T.g hmg
 exact law_call KX G.T.g G.T.b G.T.builtins G.T.nolimit hg hobj hints (Nat.le_trans hlen hn2) hr hF hb (fun H hO hS=>hsp w H a ns hlen hO hS) fun H e s'=>hCX w H s₁ e s'
end L2
/- THE LAST THEOREM (shape; LID,My.* are yours):
   My.Adr: a structure of the addresses that your layer names (classes,functions); My.Txt K t: a structure (Prop) of the equations over K;
   My.txt_mk:{K} {implicit addresses ..} (e1:nsIn K mainGlobals "law"=some (some (.ref f))) (e2:K.lookup f=some ⟨oc,od,.func (fnOf "law" "law" params body scope dV kV doc pm an cdv ct),sl⟩) (e3:codeIn K cdv "law"=true) ..:∃ t,My.Txt K t
(the tactic k_is has no namespace: write k_is) -/
namespace L2
open PySem PySem.Spec PyProof.Rows
noncomputable def defArgs (s:Stmt):Arguments:=match s with
 | .FunctionDef _ a _ _ _ _ _ _ _ _=>a
 | _=>{ posonlyargs:=[],args:=[],vararg:=none,kwonlyargs:=[],kw_defaults:=[],kwarg:=none,defaults:=[] }
noncomputable def defBody (s:Stmt):List Stmt:=match s with
 | .FunctionDef _ _ b _ _ _ _ _ _ _=>b
 | _=>[]
noncomputable def defScope (s:Stmt):Scope:=match s with
 | .FunctionDef _ _ _ _ _ _ sc _ _ _=>sc
 | _=>{ kind:=.function,names:=[],isGenerator:=false,isCoroutine:=false }
noncomputable abbrev CX0:CXT:=fun _ _ _ _ _ _=>False
noncomputable abbrev E0:XK:=fun _ _ _=>False
theorem pass0 {X:Cx}:Passes CX0 X E0:=fun _ _ _ _ _ _ _ h=>h.elim
structure Fun (K:PySem.W.Frag) (x qual:Str) (st:Stmt) (f:Addr) (fd:FuncData):Prop where
 ex:∃ (oc:Value) (od:Option Addr) (kV doc pm:Value) (an:Option Addr) (cdv ct:Value) (osl:Array (Option Value)),
   fd=PySem.W.fnOf x qual (defArgs st) (defBody st) (defScope st) .none kV doc pm an cdv ct∧K.lookup f=some ⟨oc,od,.func fd,osl⟩∧PySem.W.codeIn K cdv qual=true
 kp:PySem.W.keepIn K (.ref f)=true
section
variable {P:Program} {w:World} {K:PySem.W.Frag} {mg:Str→Option Value} {base:Heap}
theorem Fun.ok {x qual:Str} {st:Stmt} {f:Addr} {fd:FuncData} {N ps:List Str} {k:Nat} {sp:Sp} (F:Fun K x qual st f fd) (S:FnScope N ps (defScope st)) (len:∀ vs H Q E,sp vs H Q E→vs.length=ps.length)
   (hbody:∀ (cdv:Value) (A:Around) (outer:List Env) (s:Shared) (H:Hp) (vs:List V) (Q:VK) (E:XK),Room k (A.deeper (envOfC qual (defScope st) s.heap.objs.size f cdv))→sp vs H Q E →
     ∃ t,PSs (cxOf CX0 P w K mg base N qual (defScope st) f cdv A outer s H E).nox (defBody st) t∧t { nx:=fun _ H'=>Q .non H',rt:=Q } (start N vs) H):FnOk P w K mg base CX0 (k + 1) f fd ps sp:=by
 obtain ⟨oc,od,kV,doc,pm,an,cdv,ct,osl,rfl,lk,hcd⟩:=F.ex
 refine fn_of lk hcd S len fun A outer s H vs Q E hr hsp=>?_
 obtain ⟨t,h,q⟩:=hbody cdv A outer s H vs Q E hr hsp
 exact ⟨t,h.nox,q⟩
theorem Fun.binds {x qual:Str} {st:Stmt} {f:Addr} {fd:FuncData} {ps:List Str} (F:Fun K x qual st f fd)
   (h:∀ (kV doc pm:Value) (an:Option Addr) (cdv ct:Value) (us:List Value),us.length=ps.length→bindArgs (PySem.W.fnOf x qual (defArgs st) (defBody st) (defScope st) .none kV doc pm an cdv ct) ⟨us,[]⟩=pure (ps.zip us)):Binds K fd ps []:=by
 obtain ⟨oc,od,kV,doc,pm,an,cdv,ct,osl,rfl,lk,hcd⟩:=F.ex
 exact .all (h kV doc pm an cdv ct)
theorem fun_mk {x qual:Str} {st:Stmt} {f:Addr} {oc:Value} {od an:Option Addr} {osl:Array (Option Value)} {kV doc pm cdv ct:Value} (l:K.lookup f=some ⟨oc,od,.func (PySem.W.fnOf x qual (defArgs st) (defBody st) (defScope st) .none kV doc pm an cdv ct),osl⟩)
   (c:PySem.W.codeIn K cdv qual=true) (k:PySem.W.keepIn K (.ref f)=true):Fun K x qual st f (PySem.W.fnOf x qual (defArgs st) (defBody st) (defScope st) .none kV doc pm an cdv ct):=⟨⟨oc,od,kV,doc,pm,an,cdv,ct,osl,rfl,l,c⟩,k⟩
end
section
variable {X:Cx}
end
theorem iteF {A B:Prop} (h:B):if false=true then A else B:=by
 rw [if_neg Bool.false_ne_true]
 exact h
theorem iteT {A B:Prop} (h:A):if true=true then A else B:=by
 rw [if_pos rfl]
 exact h
noncomputable def Same (H H':Hp):Prop:=∀ b o,H b=some o→H' b=some o
theorem Same.refl (H:Hp):Same H H:=fun _ _ h=>h
end L2
end
section
namespace L2
open PySem PySem.Spec PyProof.Rows
noncomputable def clOf (cells:List (Str × Addr)):List (Str × NameKind)→List (Str × Addr)→List (Str × Addr)
 | [],acc=>acc
 | (n,k) :: r,acc=>if k == .free then (match cells.lookup n with | some c=>clOf cells r ((n,c) :: acc) | none=>clOf cells r acc) else clOf cells r acc
theorem closure_of {env:Env}:∀ (names:List (Str × NameKind)) (acc:List (Str × Addr)),(∀ x∈names,x.2=.free→∃ c,env.cells.lookup x.1=some c) →
   (forIn names acc fun (x:Str × NameKind) (cs:List (Str × Addr))=>(if x.2 == .free then do let a ← cellOf env x.1; pure (ForInStep.yield ((x.1,a) :: cs)) else pure (ForInStep.yield cs):Sem (ForInStep (List (Str × Addr)))))=pure (clOf env.cells names acc)
 | [],acc,_=>rfl
 | (n,k) :: r,acc,h=>by
   rw [List.forIn_cons]
   dsimp only
   unfold clOf
   by_cases hk:(k == NameKind.free)=true
   . have hk':k=.free:=by simpa using hk
     obtain ⟨c,hc⟩:=h (n,k) List.mem_cons_self hk'
     have hc':env.cells.lookup n=some c:=hc
     have hcell:cellOf env n=pure c:=by unfold cellOf; rw [hc']
     rw [if_pos hk,if_pos hk,hcell,hc',pure_bind,pure_bind]
     exact closure_of r _ fun x hx=>h x (List.mem_cons_of_mem _ hx)
   . rw [if_neg hk,if_neg hk,pure_bind]
     exact closure_of r _ fun x hx=>h x (List.mem_cons_of_mem _ hx)
theorem closureFor_of {scope:Scope} {env:Env} (h:∀ x∈scope.names,x.2=.free→∃ c,env.cells.lookup x.1=some c):closureFor scope env=pure (clOf env.cells scope.names []):=by
 have e:=closure_of (env:=env) scope.names [] h
 show (do let cs ← forIn scope.names [] _; pure cs)=_
 refine Eq.trans ?_ e
 refine Eq.trans (bind_pure _) ?_
 congr 1
theorem clOf_sub {cells:List (Str × Addr)}:∀ (names:List (Str × NameKind)) (acc:List (Str × Addr)),(∀ x c,acc.lookup x=some c→cells.lookup x=some c)→∀ x c,(clOf cells names acc).lookup x=some c→cells.lookup x=some c
 | [],acc,h,x,c,e=>h x c e
 | (n,k) :: r,acc,h,x,c,e=>by
   unfold clOf at e
   by_cases hk:(k == NameKind.free)=true
   . rw [if_pos hk] at e
     cases hc:cells.lookup n with
     | none=>rw [hc] at e; exact clOf_sub r acc h x c e
     | some d =>
       rw [hc] at e
       refine clOf_sub r _ (fun y z q=>?_) x c e
       rw [List.lookup_cons] at q
       cases hy:(y == n) with
       | true=>rw [hy] at q; have hy':y=n:=by simpa using hy
               cases q; rw [hy']; exact hc
       | false=>rw [hy] at q; exact h y z q
   . rw [if_neg hk] at e; exact clOf_sub r acc h x c e
theorem clOf_acc {cells:List (Str × Addr)}:∀ (names:List (Str × NameKind)) (acc:List (Str × Addr)) (x:Str) (c:Addr),cells.lookup x=some c→(acc.lookup x=some c ∨ (x,NameKind.free)∈names)→(∀ y d,acc.lookup y=some d→cells.lookup y=some d)→(clOf cells names acc).lookup x=some c
 | [],acc,x,c,_,h,_=>by
   rcases h with h | h
   . exact h
   . cases h
 | (n,k) :: r,acc,x,c,hc,h,ha=>by
   unfold clOf
   by_cases hk:(k == NameKind.free)=true
   . rw [if_pos hk]
     cases hn:cells.lookup n with
     | none =>
       refine clOf_acc r acc x c hc ?_ ha
       rcases h with h | h
       . exact .inl h
       . rcases List.mem_cons.mp h with e | e
         . cases e; rw [hn] at hc; cases hc
         . exact .inr e
     | some d =>
       have ha':∀ y z,((n,d) :: acc).lookup y=some z→cells.lookup y=some z:=fun y z q=>by
         rw [List.lookup_cons] at q
         cases hy:(y == n) with
         | true=>rw [hy] at q; have hy':y=n:=by simpa using hy
                 cases q; rw [hy']; exact hn
         | false=>rw [hy] at q; exact ha y z q
       by_cases hx:x=n
       . subst hx
         refine clOf_acc r _ x c hc (.inl ?_) ha'
         rw [hn] at hc; cases hc
         simp [List.lookup_cons]
       . refine clOf_acc r _ x c hc ?_ ha'
         rcases h with h | h
         . refine .inl ?_
           have:(x == n)=false:=by simpa using hx
           rw [List.lookup_cons,this]; exact h
         . rcases List.mem_cons.mp h with e | e
           . cases e; exact absurd rfl hx
           . exact .inr e
   . rw [if_neg hk]
     refine clOf_acc r acc x c hc ?_ ha
     rcases h with h | h
     . exact .inl h
     . rcases List.mem_cons.mp h with e | e
       . cases e; exact absurd (by decide) hk
       . exact .inr e
noncomputable abbrev Cx.comp (X:Cx) (N:List Str) (sc:Scope) (C:Addr) (s:Shared) (H:Hp) (ex:List Addr):Cx:=
 { X with N:=N,s₀:=s,H₀:=H,env:=compEnvC sc (clOf X.env.cells sc.names []) C X.env,outer:=X.stack,ex:=ex,fn:=fun _=>false,pn:=[],xe:=fun _ _=>False }
structure CompScope (X:Cx) (N:List Str) (sc:Scope) (fr:List (Option Nat)):Prop where
 kind:sc.kind=.function
 nocell:∀ x∈sc.names,x.2≠.cell
 locals:∀ x∈sc.names,x.2=.local→sc.names.lookup x.1=some .local
 free:∀ x∈sc.names,x.2=.free→X.env.kindOf x.1=some .cell ∨ X.env.kindOf x.1=some .free
 len:fr.length=N.length
 from_:∀ (i j:Nat) (x:Str),N[i]?=some x→fr[i]?=some (some j)→X.N[j]?=some x∧(x,NameKind.free)∈sc.names
 one:∀ x,sc.names.lookup x=some .local→(x,NameKind.free)∈sc.names→False
noncomputable def startC (fr:List (Option Nat)) (σ:St):St:=fr.map fun o=>match o with | some j=>(σ[j]?).join | none=>none
theorem relabel_kind {sc:Scope} {env:Env} {x:Str} (hn:∀ y∈sc.names,y.2≠.cell) (h:(relabel sc env).names.lookup x=some .cell ∨ (relabel sc env).names.lookup x=some .free):(x,NameKind.free)∈sc.names:=by
 have key:∀ (names:List (Str × NameKind)),(∀ y∈names,y.2≠.cell)→((names.map fun (n,k)=>if (k == NameKind.free && env.scope.kind == .function && env.kindOf n == some .cell) then (n,NameKind.cell) else (n,k)).lookup x=some .cell ∨
     (names.map fun (n,k)=>if (k == NameKind.free && env.scope.kind == .function && env.kindOf n == some .cell) then (n,NameKind.cell) else (n,k)).lookup x=some .free)→(x,NameKind.free)∈names:=by
   intro names
   induction names with
   | nil=>intro _ h; simp at h
   | cons p r ih =>
     obtain ⟨n,k⟩:=p
     intro hn h
     have hr:=fun y hy=>hn y (List.mem_cons_of_mem _ hy)
     have hk:=hn (n,k) List.mem_cons_self
     rw [List.map_cons] at h
     dsimp only at h
     by_cases hx:x=n
     . subst hx
       by_cases hf:k=.free
       . subst hf; exact List.mem_cons_self
       . have hf':(k == NameKind.free)=false:=by simpa using hf
         rw [hf'] at h
         simp only [Bool.false_and,Bool.false_eq_true,if_false,List.lookup_cons,beq_self_eq_true] at h
         rcases h with h | h
         . cases h; exact absurd rfl hk
         . cases h; exact absurd rfl hf
     . refine List.mem_cons_of_mem _ (ih hr ?_)
       have hx':(x == n)=false:=by simpa using hx
       split at h <;> simpa only [List.lookup_cons,hx'] using h
 exact key sc.names hn h
theorem relabel_free {sc:Scope} {env:Env} {x:Str} (hl:∀ y∈sc.names,y.2=.local→sc.names.lookup y.1=some .local) (h:sc.names.lookup x=some .free) :
   (relabel sc env).names.lookup x=some .cell ∨ (relabel sc env).names.lookup x=some .free:=by
 have key:∀ (names:List (Str × NameKind)),names.lookup x=some .free→((names.map fun (n,k)=>if (k == NameKind.free && env.scope.kind == .function && env.kindOf n == some .cell) then (n,NameKind.cell) else (n,k)).lookup x=some .cell ∨
     (names.map fun (n,k)=>if (k == NameKind.free && env.scope.kind == .function && env.kindOf n == some .cell) then (n,NameKind.cell) else (n,k)).lookup x=some .free):=by
   intro names
   induction names with
   | nil=>intro h; simp at h
   | cons p r ih =>
     obtain ⟨n,k⟩:=p
     intro h
     rw [List.map_cons]
     dsimp only
     cases hx:(x == n) with
     | true =>
       rw [List.lookup_cons,hx] at h
       cases h
       split
       . left; simp only [List.lookup_cons,hx]
       . right; simp only [List.lookup_cons,hx]
     | false =>
       rw [List.lookup_cons,hx] at h
       have:=ih h
       split <;> simpa only [List.lookup_cons,hx] using this
 exact key sc.names h
section
variable {X:Cx} {pins:List (Addr × Obj)} {σ:St} {H:Hp} {s:Shared} {N:List Str} {sc:Scope} {fr:List (Option Nat)} {fp:List Addr}
theorem CompScope.cells (S:CompScope X N sc fr) (ok:X.Ok):∀ x∈sc.names,x.2=.free→∃ c,X.env.cells.lookup x.1=some c:=fun x hx hk=>ok.has x.1 (S.free x hx hk)
theorem comp_ok (I:Inv X pins σ H s) (S:CompScope X N sc fr) (hf:∀ b∈fp,FpOk X pins H b) (hlt:∀ b∈fp,b < s.heap.objs.size):(X.comp N sc s.heap.objs.size s H fp).Ok:=by
 have sub:∀ x c,(clOf X.env.cells sc.names []).lookup x=some c→X.env.cells.lookup x=some c:=clOf_sub sc.names [] (fun x c e=>by simp at e)
 refine ⟨I.ok.mod,S.kind,I.ok.glob,I.ok.blt,Nat.le_refl _,fun x y c e1 e2=>I.ok.inj x y c (sub x c e1) (sub y c e2),fun x h=>?_,fun x c h=>(nomatch h),I.ok.hd,I.ok.frames,.inl rfl,fun b hb=>?_,fun b o e=>I.bs b o e,?_,fun b o e hb=>?_,fun b hb z=>?_,I.stack,I.stkFree⟩
 . have m:(x,NameKind.free)∈sc.names:=relabel_kind S.nocell h
   obtain ⟨c,hc⟩:=S.cells I.ok (x,.free) m rfl
   exact ⟨c,clOf_acc sc.names [] x c hc (.inr m) (fun y d e=>by simp at e)⟩
 . obtain ⟨f0,f1,f2,f3,f4,f5⟩:=hf b hb
   exact ⟨Nat.ne_of_lt (hlt b hb),fun x c e=>f4 x c (sub x c e)⟩
 . exact Nat.le_trans I.ok.bsz I.sz
 . obtain ⟨f0,f1,f2,f3,f4,f5⟩:=hf b hb
   rcases f3 with f3 | f3
   . exact I.ok.noex b o e f3
   . exact absurd (Nat.lt_of_lt_of_le (Heap.lt_size e) (Nat.le_trans I.ok.bsz f3)) (Nat.lt_irrefl _)
 . obtain ⟨f0,f1,f2,f3,f4,f5⟩:=hf b hb
   rcases List.mem_cons.mp (I.stkSub b z) with e | e
   . exact f1 e
   . exact f2 e
theorem comp_start {h':Heap} {tk:Nat} (I:Inv X pins σ H s) (S:CompScope X N sc fr) (hf:∀ b∈fp,FpOk X pins H b) (hlt:∀ b∈fp,b < s.heap.objs.size)
   (hns:h'.Ns s.heap.objs.size (fun _=>none)) (k:∀ b o,s.heap.get? b=some o→h'.get? b=some o):Inv (X.comp N sc s.heap.objs.size s H fp) [] (startC fr σ) H { s with heap:=h',toks:=tk }:=by
 have sub:∀ x c,(clOf X.env.cells sc.names []).lookup x=some c→X.env.cells.lookup x=some c:=clOf_sub sc.names [] (fun x c e=>by simp at e)
 refine ⟨comp_ok I S hf hlt,rfl,I.bare,Un.kept k,⟨_,hns,fun i x v e1 e2 e3=>?_⟩,fun x c e=>?_,I.hok.fresh (Nat.le_refl _),fun x c e=>I.freeC x c (sub x c e),fun p hp=>(by simp at hp),I.hok.kept k,?_⟩
 . have e2':(fr.map fun o=>match o with | some j=>(σ[j]?).join | none=>none)[i]?=some (some v):=e2
   rw [List.getElem?_map] at e2'
   cases hfi:fr[i]? with
   | none=>rw [hfi] at e2'; cases e2'
   | some o =>
     rw [hfi] at e2'
     cases o with
     | none=>cases e2'
     | some j =>
       obtain ⟨n1,n2⟩:=S.from_ i j x e1 hfi
       have e3':σ[j]?=some (some v):=by
         have q:(σ[j]?).join=some v:=Option.some.inj e2'
         cases hσ:σ[j]? with
         | none=>rw [hσ] at q; cases q
         | some w=>rw [hσ] at q; cases w with
           | none=>cases q
           | some w'=>have:w'=v:=Option.some.inj q
                      rw [this]
       have hk:=S.free (x,.free) n2 rfl
       obtain ⟨m,hn,hl⟩:=I.loc
       obtain ⟨u,r,l⟩:=hl j x v n1 e3' (hk.elim (fun z=>.inr (.inl z)) fun z=>.inr (.inr z))
       refine ⟨u,r,?_⟩
       rcases l with ⟨hk',_⟩ | ⟨_,c,hc,z⟩
       . rcases hk with hk | hk <;> (rw [hk] at hk'; cases hk')
       . refine .inr ⟨?_,c,clOf_acc sc.names [] x c hc (.inr n2) (fun y d e=>by simp at e),?_⟩
         . rcases e3 with e3 | e3 | e3
           . -- a local of that name: cannot be,the name is free in the block
             exfalso
             have hloc:sc.names.lookup x=some .local:=by
               have key:∀ (names:List (Str × NameKind)),(names.map fun (n,k)=>if (k == NameKind.free && X.env.scope.kind == .function && X.env.kindOf n == some .cell) then (n,NameKind.cell) else (n,k)).lookup x=some .local→names.lookup x=some .local:=by
                 intro names
                 induction names with
                 | nil=>intro h; simp at h
                 | cons p r ih =>
                   obtain ⟨n,kk⟩:=p
                   intro h
                   rw [List.map_cons] at h
                   dsimp only at h
                   cases hx:(x == n) with
                   | true =>
                     split at h
                     . simp only [List.lookup_cons,hx] at h; cases h
                     . simp only [List.lookup_cons,hx] at h ⊢; exact h
                   | false =>
                     rw [List.lookup_cons,hx]
                     refine ih ?_
                     split at h <;> simpa only [List.lookup_cons,hx] using h
               exact key sc.names e3
             exact S.one x hloc n2
           . exact .inl e3
           . exact .inr e3
         . obtain ⟨o,ho,hd⟩:=z
           exact ⟨o,k _ _ ho,hd⟩
 . obtain ⟨v,o,ho,hd⟩:=I.cell x c (sub x c e)
   exact ⟨v,o,k _ _ ho,hd⟩
 . show (fr.map _).length=N.length
   rw [List.length_map]; exact S.len
end
end L2
end
section
namespace L2
open PySem PySem.Spec PyProof.Rows
noncomputable def tTests:List TT→TT
 | []=>fun _ H Q=>Q true H
 | t :: ts=>fun σ H Q=>t σ H fun c H1=>if c=true then tTests ts σ H1 Q else Q false H1
inductive PTs (X:Cx):List Expr→List TT→Prop
 | nil:PTs X [] []
 | cons {c:Expr} {cs:List Expr} {t:TT} {ts:List TT}:PT X c t→PTs X cs ts→PTs X (c :: cs) (t :: ts)
theorem tests_false {X:Cx} {Q:Bool→Shared→Prop} {E:Value→Shared→Prop} {s:Shared} (h:Q false s):∀ cs:List Expr,
   wpAny (model X.prog X.w) X.A (forIn cs false fun c r=>if r=true then do let ok ← isTrue c X.env (eval c X.env); pure (ForInStep.yield ok) else pure (ForInStep.yield r)) Q E s
 | []=>wpAny_pure h
 | c :: cs=>by
   rw [List.forIn_cons]
   exact wpAny_bind (wpAny_pure (tests_false h cs))
theorem PTs.run {X:Cx}:∀ {cs:List Expr} {ts:List TT},PTs X cs ts→∀ {pins:List (Addr × Obj)} {s:Shared} {σ:St} {H:Hp} {Q:Bool→Hp→Prop},Inv X pins σ H s→tTests ts σ H Q →
   wpAny (model X.prog X.w) X.A (forIn cs true fun c r=>if r=true then do let ok ← isTrue c X.env (eval c X.env); pure (ForInStep.yield ok) else pure (ForInStep.yield r)) (TP X pins σ Q) X.xe s
 | _,_,.nil,pins,s,σ,H,Q,I,h=>wpAny_pure ⟨H,I,h⟩
 | _,_,.cons hc hs,pins,s,σ,H,Q,I,h=>by
   rw [List.forIn_cons]
   refine wpAny_bind (wpAny_bind (thn (hc pins s σ H _ I h) fun c s1 ⟨H1,I1,q1⟩=>wpAny_pure ?_))
   cases c with
   | true=>exact hs.run I1 q1
   | false=>exact tests_false ⟨H1,I1,q1⟩ _
noncomputable abbrev TB:=(St→Hp→Prop)→St→Hp→Prop
noncomputable def PB (X:Cx) (B:Sem PUnit) (tb:TB):Prop:=
 ∀ (pins:List (Addr × Obj)) (s:Shared) (σ:St) (H:Hp) (Nx:St→Hp→Prop),Inv X pins σ H s→tb Nx σ H→wpAny (model X.prog X.w) X.A B (fun _ s'=>∃ σ' H',Inv X pins σ' H' s'∧Nx σ' H') X.xe s
noncomputable def tTB (ts:List TT) (tb:TB):TS:=fun D σ H=>tTests ts σ H fun c H1=>if c=true then tb D.nx σ H1 else D.nx σ H1
noncomputable def rLoop (J:It) (g:TG) (tb:TS) (D:Ends) (σ:St) (H:Hp):Prop:=∃ W:Nat→Nat→St→Hp→Prop,(∃ m,W 0 m σ H)∧∀ i m σ H,W i m σ H →
 (J.stop i H∧D.nx σ H) ∨ (J.go i H∧∃ N:St→Hp→Prop,(∀ σ' H',N σ' H'→∃ m',m' < m∧W (i + 1) m' σ' H')∧∀ x H',J.yld i H x H'→g x σ H' fun σ2 H2=>tb { D with nx:=N,ct:=N,bk:=D.nx } σ2 H2)
theorem comp_loop {X:Cx} {elt:Expr} {gens:List Comprehension} {csc:Scope} {cpos:Pos} {d:Nat} {tg:Expr} {p:Pos} {ifs:List Expr} {B:Sem PUnit} {acc:Value} {it:Addr} {fp:List Addr} {tn:Nat→Heap→Prop} {J:It} {g:TG} {ts:List TT} {tb:TB} {D:Ends}
   {pins:List (Addr × Obj)} {σ:St} {H:Hp} {s:Shared} {R:Result→Shared→Prop}
   (heq:compTurn (.ListComp elt gens csc cpos) d (.ref it) acc X.env=(do
     standAt p
     match ← pyNext (.ref it) with
     | none=>pure (.done .next)
     | some v =>
       letOwnedTupleGo tg (.ref it) v
       assign tg X.env v
       let mut ok:=true
       for c in ifs do
         if ok then ok ← isTrue c X.env (eval c X.env)
       if ok then B
       again (.compLoop (.ListComp elt gens csc cpos) d (.ref it) acc X.env)))
   (hx:X.xe=fun _ _=>False) (hc:X.calm=true) (T:Turn X.prog X.w X.K tg J fp it tn) (hg:PG X tg g) (ht:PTs X ifs ts) (hb:PB X B tb)
   (I:Inv X pins σ H s) (st:tn 0 s.heap) (f:∀ b∈fp,FpOk X pins H b) (h:rLoop J g (tTB ts tb) D σ H)
   (hR:∀ σ' H' s',Inv X pins σ' H' s'→D.nx σ' H'→(∀ b∈fp,H' b=none)→R (.ok .next) s') :
   codeAny (model X.prog X.w) X.A (.compLoop (.ListComp elt gens csc cpos) d (.ref it) acc X.env) R s:=by
 obtain ⟨W,⟨m0,w0⟩,turn⟩:=h
 have stat:∀ {H':Hp},(∀ b∈fp,H' b=none)→∀ b∈fp,FpOk X pins H' b:=fun hn b hb=>⟨hn b hb,(f b hb).2⟩
 have no:∀ {α:Type} {t:Sem α} {Q:α→Shared→Prop} {E':Value→Shared→Prop} {s:Shared},wpAny (model X.prog X.w) X.A t Q X.xe s→wpAny (model X.prog X.w) X.A t Q E' s:=fun h=>wpAny_mono h (fun _ _ q=>q) fun _ _ z=>by rw [hx] at z; exact z.elim
 refine codeAny_loop rfl (fun n s'=>∃ i σ' H',Inv X pins σ' H' s'∧tn i s'.heap∧(∀ b∈fp,H' b=none)∧W i n σ' H') (fun n s3 hI=>?_) m0 ⟨0,σ,H,I,st,fun b hb=>(f b hb).1,w0⟩
 obtain ⟨i,σ3,H3,I3,st3,fr3,w3⟩:=hI
 show wpAny _ _ ((compTurn (.ListComp elt gens csc cpos) d (.ref it) acc X.env).onRaise (fun x=>do noteFrame x X.env; theTreesLotGoes x)) _ _ s3
 refine wpAny_noted ?_
 rw [heq]
 refine wpAny_bind (wpAny_standAt (wpAny_bind ?_))
 rcases turn i n σ3 H3 w3 with ⟨stop,qn⟩ | ⟨go,N,hN,step⟩
 . refine no (thn (T.done X rfl rfl rfl hc i pins s3 σ3 H3 X.xe I3 (stat fr3) st3 stop) fun r s4 ⟨hr,I4⟩=>?_)
   subst hr
   exact wpAny_pure (hR σ3 H3 s4 I4 qn fr3)
 . refine no (thn (T.item X rfl rfl rfl hc i pins s3 σ3 H3 X.xe I3 (stat fr3) st3 go) fun r s4 ⟨u,hr,h4⟩=>?_)
   subst hr
   refine wpAny_bind (no (thn h4 fun _ s5 ⟨x,H5,I5,r5,y5,st5,fr5⟩=>?_))
   have I5':=I5.pinned (stat fr5) (T.obj _ _ st5)
   refine wpAny_bind (no (thn (hg _ s5 σ3 H5 x u _ I5' r5 (step x H5 y5)) fun _ s6 ⟨σ6,H6,I6,q6⟩=>?_))
   refine wpAny_bind (no (thn (ht.run I6 q6) fun ok s7 ⟨H7,I7,q7⟩=>?_))
   have again':∀ {σ7:St} {H7:Hp} {s7:Shared},Inv X (pins++pinsAt fp s5.heap) σ7 H7 s7→N σ7 H7→∃ m,m < n∧∃ i σ' H',Inv X pins σ' H' s7∧tn i s7.heap∧(∀ b∈fp,H' b=none)∧W i m σ' H':=fun {σ7 H7 s7} I7 n7=>by
     obtain ⟨m',hm,w7⟩:=hN σ7 H7 n7
     refine ⟨m',hm,i + 1,σ7,H7,I7.unpinned,T.keep _ _ _ st5 fun b hb o e=>(I7.pin (b,o) (List.mem_append_right _ (List.mem_append_right _ (mem_pinsAt hb e)))).1,fun b hb=>?_,w7⟩
     obtain ⟨o,e,d⟩:=T.obj _ _ st5 b hb
     exact (I7.pin (b,o) (List.mem_append_right _ (List.mem_append_right _ (mem_pinsAt hb e)))).2.1
   cases ok with
   | false=>exact wpAny_pure ⟨rfl,again' I7 q7⟩
   | true=>exact wpAny_bind (no (thn (hb _ s7 σ6 H7 N I7 q7) fun _ s8 ⟨σ8,H8,I8,n8⟩=>wpAny_pure ⟨rfl,again' I8 n8⟩))
noncomputable def tEmit (acc:Addr) (te:TE):TB:=fun Nx σ H=>te σ H fun y H1=>∃ ys,H1 acc=some (.lst ys)∧ys.length < sizeLine∧Nx σ (upd H1 acc (.lst (ys++[y])))
theorem pb_emit {X:Cx} {acc:Addr} {elt:Expr} {te:TE} (he:PE X elt te):PB X (do let _ ← call (.builtin "list.append") [.ref acc,← eval elt X.env]) (tEmit acc te):=by
 intro pins s σ H Nx I h
 refine wpAny_bind (thn (he pins s σ H _ I h) fun u s1 ⟨y,H1,I1,r1,ys,hl,hz,q⟩=>?_)
 refine wpAny_bind (thn (mt_append pins s1 σ H1 (.ref acc) [y] (.ref acc) [u] (fun _ H'=>Nx σ H') I1 rfl (.cons r1 .nil) ⟨acc,ys,y,rfl,rfl,hl,hz,q⟩) fun _ s2 ⟨_,H2,I2,_,q2⟩=>?_)
 exact wpAny_pure ⟨σ,H2,I2,q2⟩
end L2
end
section
namespace L2
open PySem PySem.Spec PyProof.Rows
noncomputable def rComp (fr:List (Option Nat)) (wi:TI) (g:TG) (ts:List TT) (tb:Addr→TB) (σ:St) (H:Hp) (Q:VK):Prop:=
 wi σ H fun J H1=>∀ acc,H1 acc=none→rLoop J g (tTB ts (tb acc)) ⟨fun _ H'=>Q (.ref acc) H',fun _ _=>False,fun _ _=>False,fun _ _=>False⟩ (startC fr σ) (upd H1 acc (.lst []))
section
variable {X:Cx} {pins:List (Addr × Obj)} {σ:St} {H:Hp} {s:Shared} {N:List Str} {csc:Scope} {fr:List (Option Nat)} {elt tg iter:Expr} {ifs:List Expr} {rest:List Comprehension} {cpos:Pos} {wi:TI} {g:TG} {ts:List TT} {tb:Addr→TB}
theorem comp_core {use:Option (Value→Sem Unit)} {QQ:Value→Shared→Prop} {Qv:VK} {B:Value→Env→Sem PUnit} {E:Value→Shared→Prop} (hE:E=X.xe) (hc:X.calm=true) (S:CompScope X N csc fr) (hi:PI X tg iter wi)
   (hturn:∀ (it:Addr) (acc:Value) (env:Env),compTurn (.ListComp elt (⟨tg,iter,ifs,0⟩ :: rest) csc cpos) 0 (.ref it) acc env=(do
     standAt iter.pos
     match ← pyNext (.ref it) with
     | none=>pure (.done .next)
     | some v =>
       letOwnedTupleGo tg (.ref it) v
       assign tg env v
       let mut ok:=true
       for c in ifs do
         if ok then ok ← isTrue c env (eval c env)
       if ok then B acc env
       again (.compLoop (.ListComp elt (⟨tg,iter,ifs,0⟩ :: rest) csc cpos) 0 (.ref it) acc env)))
   (hg:∀ C s0 H0 ex,PG (X.comp N csc C s0 H0 ex) tg g) (ht:∀ C s0 H0 ex,PTs (X.comp N csc C s0 H0 ex) ifs ts)
   (hb:∀ C s0 H0 ex acc,PB (X.comp N csc C s0 H0 ex) (B (.ref acc) (X.comp N csc C s0 H0 ex).env) (tb acc))
   (I:Inv X pins σ H s) (h:rComp fr wi g ts tb σ H Qv)
   (hfin:∀ acc C H' s',Inv X pins σ H' s'→Qv (.ref acc) H'→(∃ m,s'.heap.Ns C m)→H' C=none→C≠X.env.locals→X.s₀.heap.objs.size≤C→(∀ x c,X.env.cells.lookup x=some c→c≠C)→(∀ p∈X.pn++pins,p.1≠C) →
     compPost (model X.prog X.w) X.A X.xe use QQ (.ref acc) C (.ok .next) s') :
   wpAny (model X.prog X.w) X.A (eval iter X.env) (fun x s₁=>wpAny (model X.prog X.w) X.A (pyIter x) (fun it s₂=>wpAny (model X.prog X.w) X.A (newList []) (fun acc s₃ =>
     wpAny (model X.prog X.w) X.A (newFunctionEnv csc X.env.globals (clOf X.env.cells csc.names []) [] X.env.qual none .none (some X.env)) (fun cenv s₄ =>
       codeAny (model X.prog X.w) X.A (.compStart (.ListComp elt (⟨tg,iter,ifs,0⟩ :: rest) csc cpos) 0 it acc { cenv with scope:=relabel csc X.env }) (compPost (model X.prog X.w) X.A E use QQ acc cenv.locals) s₄) E s₃) E s₂) E s₁) E s:=by
 subst hE
 refine thn (hi pins s σ H _ I h) fun v s1 h1=>thn h1 fun itv s2 h2=>?_
 obtain ⟨it,fp,tn,J,H2,e,I2,T,st2,f2,q2⟩:=h2
 subst e
 refine wpAny_newObj_type ?_
 have hfr:H2 s2.heap.objs.size=none:=I2.hok.fresh (Nat.le_refl _)
 have q3:=q2 s2.heap.objs.size hfr
 generalize hs3:({ s2 with heap:=s2.heap.push { cls:=.type "list",dict:=none,data:=.seq ([]:List Value).toArray } }:Shared)=s3
 have k23:∀ b u,s2.heap.get? b=some u→s3.heap.get? b=some u:=fun b u e=>by rw [←hs3]; exact Heap.get?_push_of_some _ e
 have new3:s3.heap.get? s2.heap.objs.size=some { cls:=.type "list",dict:=none,data:=.seq ([]:List Value).toArray }:=by rw [←hs3]; exact Heap.get?_push_size _ rfl
 have I3:Inv X pins σ (upd H2 s2.heap.objs.size (.lst [])) s3:=by
   rw [←hs3]
   exact I2.laid (t':=s2.toks) (fun b u e=>Heap.get?_push_of_some _ e) (Nat.le_refl _) ⟨Nat.zero_le _,[],0,.nil,Heap.get?_push_size _ rfl⟩
 have lt2:∀ b∈fp,b < s2.heap.objs.size:=fun b hb=>by obtain ⟨o,e,_⟩:=T.obj _ _ st2 b hb; exact Heap.lt_size e
 have hsz:s3.heap.objs.size=s2.heap.objs.size + 1:=by rw [←hs3]; exact Heap.size_push ..
 have f3:∀ b∈fp,FpOk X pins (upd H2 s2.heap.objs.size (.lst [])) b:=fun b hb=>⟨by rw [upd_ne (Nat.ne_of_lt (lt2 b hb))]; exact (f2 b hb).1,(f2 b hb).2⟩
 have lt3:∀ b∈fp,b < s3.heap.objs.size:=fun b hb=>by rw [hsz]; exact Nat.lt_succ_of_lt (lt2 b hb)
 refine wpAny_newFunctionEnv S.nocell (by intro y hy; simp at hy) (fun h4 hns4 hsb4=>?_) S.kind
 have k34:∀ b o,s3.heap.get? b=some o→h4.get? b=some o:=fun b o e=>hsb4.extBut b o (Nat.ne_of_lt (Heap.lt_size e)) (Heap.get?_push_of_some _ e)
 have hns4':h4.Ns s3.heap.objs.size (fun _=>none):=by simpa using hns4
 have I4:=comp_start (tk:=s3.toks + ([]:List (Str × Value)).length) I3 S f3 lt3 hns4' k34
 have st4:tn 0 h4:=T.keep _ _ _ st2 fun b hb o e=>k34 b o (k23 b o e)
 have f4:∀ b∈fp,FpOk (X.comp N csc s3.heap.objs.size s3 (upd H2 s2.heap.objs.size (.lst [])) fp) [] (upd H2 s2.heap.objs.size (.lst [])) b:=fun b hb=>by
   have ok:=I4.ok
   obtain ⟨g1,g2⟩:=ok.exf b hb
   exact ⟨(f3 b hb).1,g1,ok.exfs b hb,.inl hb,g2,fun p hp=>by simp at hp⟩
 have fin:∀ σ' H' s',Inv (X.comp N csc s3.heap.objs.size s3 (upd H2 s2.heap.objs.size (.lst [])) fp) [] σ' H' s'→Qv (.ref s2.heap.objs.size) H'→(∀ b∈fp,H' b=none) →
     compPost (model X.prog X.w) X.A X.xe use QQ (.ref s2.heap.objs.size) s3.heap.objs.size (.ok .next) s':=fun σ' H' s' I' q' _=>by
   have IX:Inv X pins σ H' s':=I3.call' I'.os I'.base I'.hok I'.bare fun b hb=>by
     obtain ⟨g0,g1,g2,g3,g4,g5⟩:=f3 b hb
     exact ⟨g3,g1,g4,g5⟩
   obtain ⟨m,hn,_⟩:=I'.loc
   refine hfin _ _ H' s' IX q' ⟨m,hn⟩ I'.free (Nat.ne_of_gt I3.lt) I3.sz (fun x c e=>?_) fun p hp=>?_
   . obtain ⟨w',z⟩:=I3.cell x c e
     exact Nat.ne_of_lt z.lt
   . exact Nat.ne_of_lt (Heap.lt_size (I3.pin p hp).1)
 have loop:codeAny (model X.prog X.w) X.A (.compLoop (.ListComp elt (⟨tg,iter,ifs,0⟩ :: rest) csc cpos) 0 (.ref it) (.ref s2.heap.objs.size) (compEnvC csc (clOf X.env.cells csc.names []) s3.heap.objs.size X.env))
     (compPost (model X.prog X.w) X.A X.xe use QQ (.ref s2.heap.objs.size) s3.heap.objs.size) { s3 with heap:=h4,toks:=s3.toks + ([]:List (Str × Value)).length }:=
   comp_loop (X:=X.comp N csc s3.heap.objs.size s3 (upd H2 s2.heap.objs.size (.lst [])) fp) (hturn it _ _) rfl hc T (hg _ _ _ _) (ht _ _ _ _) (hb _ _ _ _ _) I4 st4 f4 q3 fin
 exact codeAny_compStart_list loop (T.self X.A 0 _ _ _ st4 loop)
theorem pe_compG {B:Value→Env→Sem PUnit} (hc:X.calm=true) (S:CompScope X N csc fr) (hi:PI X tg iter wi)
   (hturn:∀ (it:Addr) (acc:Value) (env:Env),compTurn (.ListComp elt (⟨tg,iter,ifs,0⟩ :: rest) csc cpos) 0 (.ref it) acc env=(do
     standAt iter.pos
     match ← pyNext (.ref it) with
     | none=>pure (.done .next)
     | some v =>
       letOwnedTupleGo tg (.ref it) v
       assign tg env v
       let mut ok:=true
       for c in ifs do
         if ok then ok ← isTrue c env (eval c env)
       if ok then B acc env
       again (.compLoop (.ListComp elt (⟨tg,iter,ifs,0⟩ :: rest) csc cpos) 0 (.ref it) acc env)))
   (hg:∀ C s0 H0 ex,PG (X.comp N csc C s0 H0 ex) tg g) (ht:∀ C s0 H0 ex,PTs (X.comp N csc C s0 H0 ex) ifs ts)
   (hb:∀ C s0 H0 ex acc,PB (X.comp N csc C s0 H0 ex) (B (.ref acc) (X.comp N csc C s0 H0 ex).env) (tb acc))
   (hs:∀ x,foldedSetIterable iter X.env x=pure x:=by intro _; rfl) :
   PE X (.ListComp elt (⟨tg,iter,ifs,0⟩ :: rest) csc cpos) (rComp fr wi g ts tb):=by
 intro pins s σ H Q I h
 rw [eval_ListComp]
 refine wpAny_comprehension_free (use:=none) rfl hs (closureFor_of (S.cells I.ok)) S.kind S.locals ?_
 refine comp_core (use:=none) rfl hc S hi hturn hg ht hb I h fun acc C H' s' I' q' hn hC hL h0 hcl hpn=>?_
 obtain ⟨m,hn⟩:=hn
 refine ⟨m,hn,fun h' sb=>⟨.ref acc,H',?_,rfl,q'⟩⟩
 exact I'.turned (t':=s'.toks) (fun b o hb e=>(sb.2 b hb).trans e) hC (Ne.symm (Ne.symm hL)) (.inr h0) hcl hpn
theorem ps_compG {B:Value→Env→Sem PUnit} {y:Str} {py spos:Pos} {i:Nat} (hc:X.calm=true) (S:CompScope X N csc fr) (hi:PI X tg iter wi)
   (hturn:∀ (it:Addr) (acc:Value) (env:Env),compTurn (.ListComp elt (⟨tg,iter,ifs,0⟩ :: rest) csc cpos) 0 (.ref it) acc env=(do
     standAt iter.pos
     match ← pyNext (.ref it) with
     | none=>pure (.done .next)
     | some v =>
       letOwnedTupleGo tg (.ref it) v
       assign tg env v
       let mut ok:=true
       for c in ifs do
         if ok then ok ← isTrue c env (eval c env)
       if ok then B acc env
       again (.compLoop (.ListComp elt (⟨tg,iter,ifs,0⟩ :: rest) csc cpos) 0 (.ref it) acc env)))
   (hg:∀ C s0 H0 ex,PG (X.comp N csc C s0 H0 ex) tg g) (ht:∀ C s0 H0 ex,PTs (X.comp N csc C s0 H0 ex) ifs ts)
   (hb:∀ C s0 H0 ex acc,PB (X.comp N csc C s0 H0 ex) (B (.ref acc) (X.comp N csc C s0 H0 ex).env) (tb acc))
   (hN:X.N.Nodup) (hy:X.N[i]?=some y) (hx:Loc X.env.scope y)
   (hsw:swapsWith (.ListComp elt (⟨tg,iter,ifs,0⟩ :: rest) csc cpos) (some (.Name y py)) spos.line X.env=pure true:=by rfl)
   (hf:X.fn y=true ∨ X.env.scope.names.lookup y=some .local:=by first | exact .inl rfl | exact .inr rfl | assumption)
   (hs:∀ x,foldedSetIterable iter X.env x=pure x:=by intro _; rfl) :
   PS X (.Assign [.Name y py] (.ListComp elt (⟨tg,iter,ifs,0⟩ :: rest) csc cpos) spos) (tAsg (rComp fr wi g ts tb) (gName i)):=by
 intro pins s σ H D I h
 rw [exec_Assign_Name_used _ _ _ _ hsw]
 refine wpAny_bind (wpAny_standAt (wpAny_bind ?_))
 show wpAny _ X.A (do let _ ← comprehension (.ListComp elt (⟨tg,iter,ifs,0⟩ :: rest) csc cpos) csc X.env _ (newList []) false (eval iter X.env) (some (assign (.Name y py) X.env))) _ _ s
 refine wpAny_bind (wpAny_mono (wpAny_comprehension_free (use:=some (assign (.Name y py) X.env)) (Q:=fun _ s'=>SP X pins D .next s') rfl hs (closureFor_of (S.cells I.ok)) S.kind S.locals ?_) (fun _ s' hq=>wpAny_pure (wpAny_pure hq)) fun _ _ e=>e)
 refine comp_core (use:=some (assign (.Name y py) X.env)) rfl hc S hi hturn hg ht hb I h fun acc C H' s' I' q' hn hC hL h0 hcl hpn=>?_
 obtain ⟨m,hn⟩:=hn
 show wpAny _ X.A (assign (.Name y py) X.env (.ref acc)) _ _ _
 refine wpAny_assign_Name (store_ok2 I' hN hy hx (show RelV (.ref acc) (.ref acc) from rfl) (fun s2 I2 ⟨a,sb,ha⟩=>?_) hf)
 have haC:C≠a:=by
   rcases ha with ha | ha
   . rw [ha]; exact hL
   . exact Ne.symm (hcl y a ha)
 refine ⟨m,hn.sameBut sb haC,fun h' sb'=>⟨_,H',?_,q'⟩⟩
 exact I2.turned (t':=s2.toks) (fun b o hb e=>(sb'.2 b hb).trans e) hC hL (.inr h0) hcl hpn
theorem turn1 (elt tg iter:Expr) (ifs:List Expr) (csc:Scope) (cpos:Pos) (it:Addr) (acc:Value) (env:Env) :
   compTurn (.ListComp elt [⟨tg,iter,ifs,0⟩] csc cpos) 0 (.ref it) acc env=(do
     standAt iter.pos
     match ← pyNext (.ref it) with
     | none=>pure (.done .next)
     | some v =>
       letOwnedTupleGo tg (.ref it) v
       assign tg env v
       let mut ok:=true
       for c in ifs do
         if ok then ok ← isTrue c env (eval c env)
       if ok then (do let _ ← call (.builtin "list.append") [acc,← eval elt env])
       again (.compLoop (.ListComp elt [⟨tg,iter,ifs,0⟩] csc cpos) 0 (.ref it) acc env)):=by rfl
theorem turn2 (elt tg iter:Expr) (ifs:List Expr) (tg2 iter2:Expr) (ifs2:List Expr) (csc:Scope) (cpos:Pos) (it:Addr) (acc:Value) (env:Env) :
   compTurn (.ListComp elt [⟨tg,iter,ifs,0⟩,⟨tg2,iter2,ifs2,0⟩] csc cpos) 0 (.ref it) acc env=(do
     standAt iter.pos
     match ← pyNext (.ref it) with
     | none=>pure (.done .next)
     | some v =>
       letOwnedTupleGo tg (.ref it) v
       assign tg env v
       let mut ok:=true
       for c in ifs do
         if ok then ok ← isTrue c env (eval c env)
       if ok then (do
         let x ← eval iter2 env
         standAt iter2.pos
         let x ← foldedSetIterable iter2 env x
         let _ ← runOwn (.compStart (.ListComp elt [⟨tg,iter,ifs,0⟩,⟨tg2,iter2,ifs2,0⟩] csc cpos) 1 (← holding [x] (pyIter x)) acc env) env)
       again (.compLoop (.ListComp elt [⟨tg,iter,ifs,0⟩,⟨tg2,iter2,ifs2,0⟩] csc cpos) 0 (.ref it) acc env)):=by
 have e:compTurn (.ListComp elt [⟨tg,iter,ifs,0⟩,⟨tg2,iter2,ifs2,0⟩] csc cpos) 0 (.ref it) acc env=(do
     standAt iter.pos
     match ← pyNext (.ref it) with
     | none=>pure (.done .next)
     | some v =>
       letOwnedTupleGo tg (.ref it) v
       assign tg env v
       let mut ok:=true
       for c in ifs do
         if ok then ok ← isTrue c env (eval c env)
       if ok then
         let x ← eval iter2 env
         standAt iter2.pos
         let x ← foldedSetIterable iter2 env x
         let _ ← runOwn (.compStart (.ListComp elt [⟨tg,iter,ifs,0⟩,⟨tg2,iter2,ifs2,0⟩] csc cpos) 1 (← holding [x] (pyIter x)) acc env) env
       again (.compLoop (.ListComp elt [⟨tg,iter,ifs,0⟩,⟨tg2,iter2,ifs2,0⟩] csc cpos) 0 (.ref it) acc env)):=by rfl
 rw [e]
 simp only [bind_assoc,pure_bind]
theorem turn2' (elt tg iter:Expr) (ifs:List Expr) (tg2 iter2:Expr) (ifs2:List Expr) (csc:Scope) (cpos:Pos) (it:Addr) (acc:Value) (env:Env) :
   compTurn (.ListComp elt [⟨tg,iter,ifs,0⟩,⟨tg2,iter2,ifs2,0⟩] csc cpos) 1 (.ref it) acc env=(do
     standAt iter2.pos
     match ← pyNext (.ref it) with
     | none=>pure (.done .next)
     | some v =>
       letOwnedTupleGo tg2 (.ref it) v
       assign tg2 env v
       let mut ok:=true
       for c in ifs2 do
         if ok then ok ← isTrue c env (eval c env)
       if ok then (do let _ ← call (.builtin "list.append") [acc,← eval elt env])
       again (.compLoop (.ListComp elt [⟨tg,iter,ifs,0⟩,⟨tg2,iter2,ifs2,0⟩] csc cpos) 1 (.ref it) acc env)):=by rfl
end
end L2
end
section
namespace L2
open PySem PySem.Spec PyProof.Rows
theorem compStart1 {prog:Program} {w:World} {A:Around} {R:Result→Shared→Prop} {s:Shared} {elt tg iter tg2 iter2:Expr} {ifs ifs2:List Expr} {csc:Scope} {cpos:Pos} {it acc:Value} {env:Env}
   (h0:codeAny (model prog w) A (.compLoop (.ListComp elt [⟨tg,iter,ifs,0⟩,⟨tg2,iter2,ifs2,0⟩] csc cpos) 1 it acc env) R s)
   (h:wpAny (model prog w) A (pyIter it) (fun it' s'=>codeAny (model prog w) A (.compLoop (.ListComp elt [⟨tg,iter,ifs,0⟩,⟨tg2,iter2,ifs2,0⟩] csc cpos) 1 it' acc env) R s')
     (notedBy (model prog w) A env fun x s'=>R (.error x) s') s) :
   codeAny (model prog w) A (.compStart (.ListComp elt [⟨tg,iter,ifs,0⟩,⟨tg2,iter2,ifs2,0⟩] csc cpos) 1 it acc env) R s:=by
 refine codeAny_of_tree ?_
 show wpAny _ _ ((compStart (.ListComp elt [⟨tg,iter,ifs,0⟩,⟨tg2,iter2,ifs2,0⟩] csc cpos) 1 it acc env).onRaise (fun x=>do noteFrame x env; standAt theWindowsPlace)) _ _ s
 refine wpAny_notedAt ?_
 unfold compStart
 show wpAny _ _ (ask >>= _) _ _ s
 refine wpAny_bind (wpAny_askSetting (wpAny_ite ?_))
 split
 . first
     | exact wpAny_bind (wpAny_pure (wpAny_pure (And.intro rfl h0)))
     | exact wpAny_pure (And.intro rfl h0)
 . first
     | exact wpAny_bind (wpAny_rule (wpAny_bind (wpAny_standAt (wpAny_bind (wpAny_mono h (fun it' s' h'=>wpAny_pure (And.intro rfl h')) fun _ _ x=>x)))))
     | (refine wpAny_bind (wpAny_rule ?_); show wpAny _ _ (standAt iter2.pos >>= _) _ _ s; exact wpAny_bind (wpAny_standAt (wpAny_bind (wpAny_mono h (fun it' s' h'=>wpAny_pure (And.intro rfl h')) fun _ _ x=>x))))
noncomputable def tInner (wi:TI) (g:TG) (ts:List TT) (tb:TB):TB:=fun Nx σ H=>wi σ H fun J H1=>rLoop J g (tTB ts tb) ⟨Nx,fun _ _=>False,fun _ _=>False,fun _ _=>False⟩ σ H1
theorem pb_inner {X:Cx} {acc:Addr} {elt tg iter tg2 iter2:Expr} {ifs ifs2:List Expr} {csc:Scope} {cpos:Pos} {wi:TI} {g:TG} {ts:List TT} {tb:TB}
   (hx:X.xe=fun _ _=>False) (hc:X.calm=true) (hi:PI X tg2 iter2 wi) (hg:PG X tg2 g) (ht:PTs X ifs2 ts) (hb:PB X (do let _ ← call (.builtin "list.append") [.ref acc,← eval elt X.env]) tb)
   (hs:∀ x,foldedSetIterable iter2 X.env x=pure x:=by intro _; rfl) :
   PB X (do
         let x ← eval iter2 X.env
         standAt iter2.pos
         let x ← foldedSetIterable iter2 X.env x
         let _ ← runOwn (.compStart (.ListComp elt [⟨tg,iter,ifs,0⟩,⟨tg2,iter2,ifs2,0⟩] csc cpos) 1 (← holding [x] (pyIter x)) (.ref acc) X.env) X.env) (tInner wi g ts tb):=by
 intro pins s σ H Nx I h
 refine wpAny_bind (thn (hi pins s σ H _ I h) fun v s1 h1=>wpAny_bind (wpAny_standAt (wpAny_bind (wpAny_of_eq (hs v) (wpAny_bind (wpAny_holding (thn h1 fun itv s2 h2=>?_)))))))
 obtain ⟨it,fp,tn,J,H2,e,I2,T,st2,f2,q2⟩:=h2
 subst e
 refine wpAny_bind (wpAny_runOwn ?_)
 have loop:codeAny (model X.prog X.w) X.A (.compLoop (.ListComp elt [⟨tg,iter,ifs,0⟩,⟨tg2,iter2,ifs2,0⟩] csc cpos) 1 (.ref it) (.ref acc) X.env)
     (fun r s'=>match r with | .ok f=>wpAny (model X.prog X.w) X.A (pure PUnit.unit:Sem PUnit) (fun _ s'=>∃ σ' H',Inv X pins σ' H' s'∧Nx σ' H') X.xe s' | .error e=>cameBackBy (model X.prog X.w) X.A X.env X.xe e s') s2:=
   comp_loop (turn2' ..) hx hc T hg ht hb I2 st2 f2 q2 fun σ' H' s' I' n' _=>wpAny_pure ⟨σ',H',I',n'⟩
 exact compStart1 loop (T.self X.A 0 _ _ _ st2 loop)
section
variable {X:Cx} {N:List Str} {csc:Scope} {fr:List (Option Nat)} {elt tg iter tg2 iter2:Expr} {ifs ifs2:List Expr} {cpos:Pos} {wi wi2:TI} {g g2:TG} {ts ts2:List TT} {te:TE}
theorem pe_comp (hc:X.calm=true) (S:CompScope X N csc fr) (hi:PI X tg iter wi) (hg:∀ C s0 H0 ex,PG (X.comp N csc C s0 H0 ex) tg g) (ht:∀ C s0 H0 ex,PTs (X.comp N csc C s0 H0 ex) ifs ts)
   (he:∀ C s0 H0 ex,PE (X.comp N csc C s0 H0 ex) elt te) (hs:∀ x,foldedSetIterable iter X.env x=pure x:=by intro _; rfl) :
   PE X (.ListComp elt [⟨tg,iter,ifs,0⟩] csc cpos) (rComp fr wi g ts fun acc=>tEmit acc te):=
 pe_compG hc S hi (B:=fun acc env=>(do let _ ← call (.builtin "list.append") [acc,← eval elt env])) (turn1 elt tg iter ifs csc cpos) hg ht (fun C s0 H0 ex acc=>pb_emit (he C s0 H0 ex)) hs
theorem ps_comp {y:Str} {py spos:Pos} {i:Nat} (hc:X.calm=true) (S:CompScope X N csc fr) (hi:PI X tg iter wi) (hg:∀ C s0 H0 ex,PG (X.comp N csc C s0 H0 ex) tg g) (ht:∀ C s0 H0 ex,PTs (X.comp N csc C s0 H0 ex) ifs ts)
   (he:∀ C s0 H0 ex,PE (X.comp N csc C s0 H0 ex) elt te) (hN:X.N.Nodup) (hy:X.N[i]?=some y) (hx:Loc X.env.scope y)
   (hsw:swapsWith (.ListComp elt [⟨tg,iter,ifs,0⟩] csc cpos) (some (.Name y py)) spos.line X.env=pure true:=by rfl)
   (hf:X.fn y=true ∨ X.env.scope.names.lookup y=some .local:=by first | exact .inl rfl | exact .inr rfl | assumption)
   (hs:∀ x,foldedSetIterable iter X.env x=pure x:=by intro _; rfl) :
   PS X (.Assign [.Name y py] (.ListComp elt [⟨tg,iter,ifs,0⟩] csc cpos) spos) (tAsg (rComp fr wi g ts fun acc=>tEmit acc te) (gName i)):=
 ps_compG hc S hi (B:=fun acc env=>(do let _ ← call (.builtin "list.append") [acc,← eval elt env])) (turn1 elt tg iter ifs csc cpos) hg ht (fun C s0 H0 ex acc=>pb_emit (he C s0 H0 ex)) hN hy hx hsw hf hs
theorem pe_comp2 (hc:X.calm=true) (S:CompScope X N csc fr) (hi:PI X tg iter wi) (hg:∀ C s0 H0 ex,PG (X.comp N csc C s0 H0 ex) tg g) (ht:∀ C s0 H0 ex,PTs (X.comp N csc C s0 H0 ex) ifs ts)
   (hi2:∀ C s0 H0 ex,PI (X.comp N csc C s0 H0 ex) tg2 iter2 wi2) (hg2:∀ C s0 H0 ex,PG (X.comp N csc C s0 H0 ex) tg2 g2) (ht2:∀ C s0 H0 ex,PTs (X.comp N csc C s0 H0 ex) ifs2 ts2)
   (he:∀ C s0 H0 ex,PE (X.comp N csc C s0 H0 ex) elt te) (hs:∀ x,foldedSetIterable iter X.env x=pure x:=by intro _; rfl)
   (hs2:∀ env x,foldedSetIterable iter2 env x=pure x:=by intro _ _; rfl) :
   PE X (.ListComp elt [⟨tg,iter,ifs,0⟩,⟨tg2,iter2,ifs2,0⟩] csc cpos) (rComp fr wi g ts fun acc=>tInner wi2 g2 ts2 (tEmit acc te)):=
 pe_compG hc S hi (B:=fun acc env=>(do
         let x ← eval iter2 env
         standAt iter2.pos
         let x ← foldedSetIterable iter2 env x
         let _ ← runOwn (.compStart (.ListComp elt [⟨tg,iter,ifs,0⟩,⟨tg2,iter2,ifs2,0⟩] csc cpos) 1 (← holding [x] (pyIter x)) acc env) env)) (turn2 elt tg iter ifs tg2 iter2 ifs2 csc cpos) hg ht
   (fun C s0 H0 ex acc=>pb_inner rfl hc (hi2 C s0 H0 ex) (hg2 C s0 H0 ex) (ht2 C s0 H0 ex) (pb_emit (he C s0 H0 ex)) (hs2 _)) hs
end
end L2
end
section
namespace L2
open PySem PySem.Spec PyProof.Rows
section
variable {X:Cx}
theorem call_isi:CallR X (.builtin "isinstance") (fun xs H Q=>∃ x c t b,xs=[x,.ty c]∧TyOf X.K H x (.type t)∧PySem.W.kitOne X.K (.type t) (.type c)=some b∧Q (.bl b) H):=by
 intro pins s σ H xs us Q I r h
 obtain ⟨x,c,t,b,rfl,ty,e,q⟩:=h
 obtain ⟨u,w',rfl,rx,rc⟩:=vals2 r
 cases (show w'=Value.type c from rc)
 exact isinst_ok I rx ty e fun tk=>⟨.bl b,H,I.tok _,rfl,q⟩
end
inductive Kd where
 | non | bl | int | str | lst | tup | dct
 deriving DecidableEq
noncomputable def Kd.nm:Kd→String
 | .non=>"NoneType" | .bl=>"bool" | .int=>"int" | .str=>"str" | .lst=>"list" | .tup=>"tuple" | .dct=>"dict"
noncomputable def Kd.sub (a c:Kd):Bool:=decide (a=c) || (decide (a=.bl) && decide (c=.int))
theorem kit_kd (K:PySem.W.Frag) (a c:Kd) (hc:c≠.non):PySem.W.kitOne K (.type a.nm) (.type c.nm)=some (a.sub c):=by
 cases c with
 | non=>exact absurd rfl hc
 | bl=>cases a <;> rfl
 | int=>cases a <;> rfl
 | str=>cases a <;> rfl
 | lst=>cases a <;> rfl
 | tup=>cases a <;> rfl
 | dct=>cases a <;> rfl
section
variable {X:Cx}
theorem all_range:∀ (bs:List Bool),((List.range bs.length).all fun i=>bs.getD i false)=bs.all id:=by
 intro bs
 induction bs with
 | nil=>rfl
 | cons b bs ih =>
   rw [List.length_cons,List.range_succ_eq_map,List.all_cons,List.all_cons,List.all_map]
   exact congrArg (b && ·) (Eq.trans (by congr 1) ih)
theorem Vals.bools:∀ {bs:List Bool} {us:List Value},Vals (bs.map V.bl) us→us=bs.map Value.bool
 | [],us,r=>by cases r; rfl
 | b :: bs,us,r=>by
   rw [List.map_cons] at r
   cases r with
   | cons r1 r2 =>
     cases (show _=Value.bool b from r1)
     rw [Vals.bools r2,List.map_cons]
theorem call_all (hc:X.calm=true):CallR X (.builtin "all") (fun xs H Q=>∃ (a:Addr) (bs:List Bool),xs=[.ref a]∧SqL X.K H a (bs.map V.bl)∧Q (.bl (bs.all id)) H):=by
 intro pins s σ H xs us Q I r h
 obtain ⟨a,bs,rfl,ha,q⟩:=h
 obtain ⟨u,rfl,ru⟩:=vals1 r
 cases ru
 obtain ⟨its,rv,pl,hz⟩:=I.list ha
 have hits:=rv.bools
 have alt:a < s.heap.objs.size:=by obtain ⟨o,ho,_⟩:=pl.isList; exact Heap.lt_size ho
 refine call_all_walk (wpAny_pyIter_list pl.isList ?_)
 refine ⟨s.heap.objs.size,_,_,_,_,_,fun i=>bs.getD i false,rfl,Walks.list (A:=X.A.in1) (I.ok.hd hc) s.heap.objs.size a (Nat.ne_of_lt alt) its.toArray,⟨⟨_,Heap.get?_push_size _ rfl,rfl,rfl⟩,?_⟩,?_,fun h' tk hk=>?_⟩
 . obtain ⟨o,ho,hc',n,hd⟩:=pl.isList
   exact ⟨o,Heap.get?_push_of_some _ ho,hc',n,hd⟩
 . intro i v s' Q' E' hv hq
   have hv':(bs.map Value.bool)[i]?=some v:=by rw [←hits]; simpa using hv
   rw [List.getElem?_map] at hv'
   cases hb:bs[i]? with
   | none=>rw [hb] at hv'; cases hv'
   | some b =>
     rw [hb] at hv'
     have:v=Value.bool b:=(Option.some.inj hv').symm
     subst this
     have e:bs.getD i false=b:=by rw [List.getD_eq_getElem?_getD,hb]; rfl
     have hq':Q' (bs.getD i false) s':=hq
     rw [e] at hq'
     exact wpAny_truthy_bool hq'
 . have e:(List.range its.toArray.size).all (fun i=>bs.getD i false)=bs.all id:=by
     rw [List.size_toArray,hits,List.length_map]; exact all_range bs
   rw [e]
   refine ⟨.bl (bs.all id),H,I.kept fun b o ho=>hk b o ?_ (Heap.get?_push_of_some _ ho),rfl,q⟩
   simpa using Nat.ne_of_lt (Heap.lt_size ho)
end
end L2
end
section
namespace L2
open PySem PySem.Spec PyProof.Rows
theorem same_new {H:Hp} {p:Addr} (h:H p=none) (o:HO):Same H (upd H p o):=fun b u q=>by rw [upd_ne (ne_of_none q h)]; exact q
noncomputable def GetsT (H:Hp) (ys:List V) (Q:VK):Prop:=∀ p H',Same H H'→H' p=some (.tup ys)→Q (.ref p) H'
theorem GetsT.new {H:Hp} {ys:List V} {Q:VK} (g:GetsT H ys Q):∀ p,H p=none→Q (.ref p) (upd H p (.tup ys)):=fun p hp=>g p _ (same_new hp _) upd_same
noncomputable def rSl2:V→Option Int→Option Int→Hp→VK→Prop:=fun x lo hi H Q=>∃ a xs,x=.ref a∧H a=some (.tup xs)∧GetsT H (cutV xs lo hi) Q
noncomputable def rCat2:R2:=fun x y H Q=>∃ a b xs ys,x=.ref a∧y=.ref b∧H a=some (.tup xs)∧H b=some (.tup ys)∧xs.length + ys.length≤sizeLine∧GetsT H (xs++ys) Q
noncomputable def rRep2:R2:=fun x y H Q=>∃ a k xs,x=.ref a∧y=.int k∧H a=some (.tup xs)∧2≤k∧k≤1000∧xs≠[]∧xs.length≤1000∧GetsT H (List.replicate k.toNat xs).flatten Q
section
variable {X:Cx}
theorem cut_whole {t sl:Addr} {items:Array Value} {vl vu:Value} {lo hi:Option Int} {Q:Value→Shared→Prop} {A:Around} {E:Value→Shared→Prop} {s:Shared} {prog:Program} {w:World} (ht:IsTup s.heap t items) (hs:s.heap.IsSliceOf sl vl vu .none) (pl:IsPart vl lo) (pu:IsPart vu hi)
   (h0:HT.sIx items.size 0 lo=0) (h1:HT.sIx items.size items.size hi=items.size) (h:Q (.ref t) s):wpAny (model prog w) A (getItem (.ref t) (.ref sl)) Q E s:=by
 obtain ⟨os,hos,hcs,hds⟩:=id hs
 have hTs:s.TypeIs (.ref sl) "slice":=⟨os,hos,hcs⟩
 unfold getItem
 try with_reducible refine wpAny_holding ?_
 first | refine wpAny_bind (wpAny_pure ?_) | skip
 refine wpAny_bind (wpAny_sequenceKey ht.typeIs (by decide) ?_)
 refine wpAny_bind (wpAny_callSpecial?_slot (name:=Str.ofString "__getitem__") ht.typeIs PyProof.Rows.slot_tuple_getitem
   (wpAny_call_entry PyProof.Rows.slot_tuple_getitem ht.typeIs entry_tuple_getitem ?_ (args_tuple_getitem _ _)))
 show wpAny _ _ (Builtin.Tuple.tupleItemsOf (.ref t) >>= _) _ _ s
 refine wpAny_bind (tupleItemsOf_ ht ?_)
 refine wpAny_bind (wpAny_typeOf hTs ?_)
 rw [if_pos (by decide)]
 refine wpAny_bind (HT.sliceApplied_gen hs pl pu ?_)
 have hyes:(((HT.sIx items.size 0 lo:Nat):Int) == 0 && (1:Int) == 1 && (HT.sIx items.size items.size hi - HT.sIx items.size 0 lo) == items.size)=true:=by
   rw [h0,h1]; simp
 show wpAny _ _ (if (((HT.sIx items.size 0 lo:Nat):Int) == 0 && (1:Int) == 1 && (HT.sIx items.size items.size hi - HT.sIx items.size 0 lo) == items.size)=true then _ else _) _ _ s
 rw [if_pos hyes]
 unfold Builtin.Tuple.tupleIsExact
 refine wpAny_bind (wpAny_bind (wpAny_typeOf ht.typeIs (wpAny_pure ?_)))
 rw [if_pos (by decide)]
 exact wpAny_bind (wpAny_rule (wpAny_pure ⟨_,rfl,wpAny_pure h⟩))
theorem sl_tup2:SlR X rSl2:=by
 intro pins s σ H x v vl vu lo hi sl Q I rx hs pl pu h
 obtain ⟨a,xs,rfl,hx,g⟩:=h
 by_cases hw:HT.sIx xs.length 0 lo=0∧HT.sIx xs.length xs.length hi=xs.length
 . cases rx
   obtain ⟨its,r,ht,hz⟩:=I.tuple (.inl (.inl hx))
   have hlen:its.toArray.size=xs.length:=by rw [List.size_toArray]; exact r.length.symm
   refine ⟨"tuple",_,PyProof.Rows.slot_tuple_getitem.lookup,ht.typeIs,?_⟩
   refine cut_whole ht hs pl pu (by rw [hlen]; exact hw.1) (by rw [hlen]; exact hw.2) ⟨.ref a,H,I,rfl,g a H (Same.refl H) ?_⟩
   rw [hx]
   unfold cutV
   rw [hw.1,hw.2,List.drop_zero,Nat.sub_zero,List.take_length]
 . exact sl_tup pins s σ H (.ref a) v vl vu lo hi sl Q I rx hs pl pu ⟨a,xs,rfl,.inl (.inl hx),hw,g.new⟩
theorem op_catT2:OpR X (binaryOp .Add) rCat2:=by
 intro pins s σ H x y v u Q I rx ry h
 obtain ⟨a,b,xs,ys,rfl,rfl,ha,hb,hz,g⟩:=h
 by_cases hx:xs=[]
 . cases rx
   cases ry
   subst hx
   obtain ⟨its,r1,p1,_⟩:=I.tuple (.inl (.inl ha))
   obtain ⟨its2,r2,p2,_⟩:=I.tuple (.inl (.inl hb))
   cases r1
   obtain ⟨⟨cls,dd,data,sl⟩,ho,hc,n,hd⟩:=id p1
   obtain ⟨⟨cls2,dd2,data2,sl2⟩,ho2,hc2,n2,hd2⟩:=id p2
   simp only at hc hd hc2 hd2
   subst hc hd hc2 hd2
   exact concat_meets ⟨_,ho,rfl⟩ ⟨_,ho2,rfl⟩ noFill_tuple_add seq_tuple_add PySem.F.slot_tuple_add PySem.F.entry_tuple_add (PySem.F.args_tuple_add_2 _ _)
     (tuple_addW0 a b #[] its2.toArray n n2 dd dd2 sl sl2 rfl) ⟨ho,ho2,⟨.ref b,H,I,rfl,g b H (Same.refl H) hb⟩⟩
 . refine op_catT pins s σ H (.ref a) (.ref b) v u Q I rx ry ⟨a,b,xs,ys,rfl,rfl,.inl (.inl ha),.inl (.inl hb),hx,hz,fun e=>?_,fun _=>g.new⟩
   subst e
   rw [List.append_nil] at g
   exact g a H (Same.refl H) ha
theorem noFill_tuple_mul:fillsNumberSlot (.type "tuple") "mul"=pure false:=
 PySem.fillsNumberSlot_seq (id:="tuple.__mul__") (r:=some (.builtin "tuple.__rmul__")) F.slot_tuple_mul.lookup (by decide +kernel) F.slot_tuple_rmul.lookup (by decide +kernel)
theorem repeat_tuple:seqRepeat? (.type "tuple")=pure (some (.builtin "tuple.__mul__")):=by
 unfold seqRepeat?
 rw [PySem.seqSlot_of (T:="tuple") (name:="__mul__") (id:="tuple.__mul__") F.slot_tuple_mul.lookup (by decide +kernel),PySem.seqSlot_of (T:="tuple") (name:="__rmul__") (id:="tuple.__rmul__") F.slot_tuple_rmul.lookup (by decide +kernel)]
 rfl
theorem int_rmul_tuple (a:Int) (t:Tok) (l:Addr) (items:Array Value) (n:Nat) (dd:Option Addr) (sl:Array (Option Value)) :
   Meets (Builtin.«int.__rmul__» ⟨[.int a t,.ref l],[]⟩) (fun _ R s=>s.heap.get? l=some { cls:=.type "tuple",dict:=dd,data:=.seq items n,slots:=sl }∧R (.ok (.ret Value.notImplemented)) s):=
 .of_wp fun prog w A R s h=>by obtain ⟨hp,g,d,tk,os⟩:=s; obtain ⟨hl,h⟩:=h; wp_walk; exact ⟨_,rfl,h⟩
theorem tuple_mulW (l:Addr) (items:Array Value) (n:Nat) (x:Int) (u:Tok) (dd:Option Addr) (sl:Array (Option Value)) (h1:2≤x) (h2:x≤1000) (h3:¬ items.isEmpty=true) (h4:items.size≤1000) :
   Meets (Builtin.«tuple.__mul__» ⟨[.ref l,.int x u],[]⟩) (fun _ R s=>s.heap.get? l=some { cls:=.type "tuple",dict:=dd,data:=.seq items n,slots:=sl } ∧
     R (.ok (.ret (Value.ref s.heap.objs.size))) { s with heap:=s.heap.push { cls:=Value.type "tuple",data:=Data.seq (List.foldl (fun x1 x2=>x1++x2) #[] (List.replicate x.toNat items)) },toks:=s.toks }):=
 .of_wp fun prog w A R s h=>by
   obtain ⟨hp,g,d,tk,os⟩:=s; obtain ⟨hl,h⟩:=h
   have f1:=AutoSeq1.idx_int
   have c1:¬ ((decide (x < -(2 ^ 63)) || decide (x ≥ 2 ^ 63))=true):=by simp; omega
   have c2:¬ ((items.isEmpty || x == 1)=true):=by simp at h3 ⊢; exact ⟨h3,by omega⟩
   have c3:¬ ((decide (x≤0) || items.isEmpty)=true):=by simp at h3 ⊢; exact ⟨by omega,h3⟩
   have hprod:(items.size:Int) * x≤1000 * 1000:=Int.mul_le_mul (by omega) h2 (by omega) (by omega)
   have c4:¬ ((items.size:Int) * x > (2 ^ 63 - 1) / 8):=by omega
   have hL:sizeLine=16777216:=sizeLine_eq
   have c5:¬ (Builtin.Tuple.tupleTooMany ((items.size:Int) * x)=true):=by
     unfold Builtin.Tuple.tupleTooMany
     rw [hL]
     simp only [decide_eq_true_eq]
     omega
   have hn:(List.foldl (fun x1 x2=>x1++x2) #[] (List.replicate x.toNat items)).size=x.toNat * items.size:=by
     have e:=foldl_rep items.toList x.toNat []
     simp only [Array.toArray_toList,List.nil_append] at e
     rw [e,List.size_toArray,len_rep,Array.length_toList]
   have htake:sizeOk (.seq (List.foldl (fun x1 x2=>x1++x2) #[] (List.replicate x.toNat items))):=by
     show (List.foldl (fun x1 x2=>x1++x2) #[] (List.replicate x.toNat items)).size≤sizeLine
     rw [hn,hL]
     have:x.toNat * items.size≤1000 * 1000:=Nat.mul_le_mul (by omega) h4
     omega
   wp_walk using wpAny_loadPart' hl
   rw [if_neg c1]
   refine wpAny_bind (tupleItemsOf_ (items:=items) ⟨_,hl,rfl,n,rfl⟩ ?_)
   rw [if_neg c2]
   show wpAny _ _ (if (decide (x≤0) || items.isEmpty)=true then _ else _) _ _ _
   rw [if_neg c3]
   show wpAny _ _ (if (items.size:Int) * x > (2 ^ 63 - 1) / 8 then _ else _) _ _ _
   rw [if_neg c4]
   show wpAny _ _ (if Builtin.Tuple.tupleTooMany ((items.size:Int) * x)=true then _ else _) _ _ _
   rw [if_neg c5]
   exact wpAny_bind (m:=Builtin.Tuple.tupleExact _) (wpAny_newObj_type (wpAny_pure ⟨_,rfl,h⟩) htake)
theorem op_repT:OpR X (binaryOp .Mult) rRep2:=by
 intro pins s σ H x y v u Q I rx ry h
 obtain ⟨a,k,xs,rfl,rfl,ha,h1,h2,h3,h4,g⟩:=h
 cases rx
 obtain ⟨t,rfl⟩:=ry
 obtain ⟨its,r,p1,_⟩:=I.tuple (.inl (.inl ha))
 obtain ⟨⟨cls,dd,data,sl⟩,ho,hc,n,hd⟩:=id p1
 simp only at hc hd
 subst hc hd
 have hl:=r.length
 have hne:¬ its.toArray.isEmpty=true:=by
   simp
   intro e
   exact h3 (r.nil_iff.mp e)
 refine wpAny_binaryOp_repeat_ref (T:="tuple") (U:="int") (by decide) ⟨_,ho,rfl⟩ (fun s'=>typeIs_int s' k t) noFill_tuple_mul F.fills_int_mul F.slot_int_rmul repeat_tuple F.slot_int_index.lookup
   (call_meets F.slot_int_rmul (typeIs_int s k t) F.entry_int_rmul (F.args_int_rmul_2 _ _) (int_rmul_tuple k t a its.toArray n dd sl)
     ⟨ho,rfl,⟨_,ho,rfl⟩,call_meets F.slot_tuple_mul ⟨_,ho,rfl⟩ F.entry_tuple_mul (F.args_tuple_mul_2 _ _) (tuple_mulW a its.toArray n k t dd sl h1 h2 hne (by rw [List.size_toArray,← hl]; exact h4)) ⟨ho,?_⟩⟩)
 have e:=foldl_rep its k.toNat []
 rw [List.nil_append] at e
 have hz:(List.replicate k.toNat xs).flatten.length≤sizeLine:=by
   rw [len_rep,sizeLine_eq]
   have:k.toNat * xs.length≤1000 * 1000:=Nat.mul_le_mul (by omega) h4
   omega
 refine ⟨.ref s.heap.objs.size,_,I.laid (t':=s.toks) (o:=.tup (List.replicate k.toNat xs).flatten) (fun b ob q=>Heap.get?_push_of_some _ q) (Nat.le_refl _) ⟨hz,(List.replicate k.toNat its).flatten,r.rep k.toNat,?_⟩,rfl,g.new _ (I.hok.fresh (Nat.le_refl _))⟩
 rw [show (#[]:Array Value)=([]:List Value).toArray from rfl,e]
 exact PTup.new _ _
end
end L2
end
section
namespace L2
open PySem PySem.Spec PyProof.Rows
section
variable {X:Cx} {pos:Pos}
noncomputable def tPar3 (i j k:Nat) (ta:TA):TS:=fun D σ H=>ta σ H fun vs H1=>∃ v w z,vs=[v,w,z]∧D.nx (((σ.set i (some v)).set j (some w)).set k (some z)) H1
theorem vals3 {x y z:V} {us:List Value} (r:Vals [x,y,z] us):∃ u1 u2 u3,us=[u1,u2,u3]∧RelV x u1∧RelV y u2∧RelV z u3:=by
 cases r with
 | cons r1 r2 =>
   cases r2 with
   | cons r3 r4 =>
     cases r4 with
     | cons r5 r6=>cases r6; exact ⟨_,_,_,rfl,r1,r3,r5⟩
theorem ps_par3 {i j k:Nat} {x y z:Str} {a b c:Expr} {ta:TA} {px py pz pt:Pos} {kt k2 pt2} (hc:X.calm=true) (hN:X.N.Nodup) (hi:X.N[i]?=some x) (hj:X.N[j]?=some y) (hk:X.N[k]?=some z) (hij:i≠j) (hik:i≠k) (hjk:j≠k)
   (hx:X.env.scope.names.lookup x=some .local) (hy:X.env.scope.names.lookup y=some .local) (hz:X.env.scope.names.lookup z=some .local) (ha:PA X [a,b,c] ta)
   (hw:swappedStores [.Tuple [.Name x px,.Name y py,.Name z pz] kt pt] (.Tuple [a,b,c] k2 pt2) X.env=pure (some [x,y,z]))
   (hs:swapsWithSole [.Tuple [.Name x px,.Name y py,.Name z pz] kt pt] (.Tuple [a,b,c] k2 pt2) pos.line X.env=pure false:=by rfl) :
   PS X (.Assign [.Tuple [.Name x px,.Name y py,.Name z pz] kt pt] (.Tuple [a,b,c] k2 pt2) pos) (tPar3 i j k ta):=by
 intro pins s σ H D I h
 rw [exec_Assign_arm]
 refine wpAny_bind (wpAny_standAt ?_)
 rw [hs]
 refine wpAny_bind (wpAny_pure ?_)
 rw [if_neg (by decide)]
 refine wpAny_bind (Tuple_ (thn (ha _ pins s σ H _ I h) fun us s1 ⟨vs,H1,I1,r1,q1⟩=>?_))
 obtain ⟨v,w,zz,e1,q1⟩:=q1
 subst e1
 obtain ⟨u1,u2,u3,rfl,rv,rw',rz⟩:=vals3 r1
 refine wpAny_newObj_type ?_ (by show 3≤sizeLine; decide)
 have I2:Inv X pins σ H1 { s1 with heap:=s1.heap.push { cls:=.type "tuple",data:=.seq [u1,u2,u3].toArray } }:=I1.kept (t':=s1.toks) fun b o e=>Heap.get?_push_of_some _ e
 rw [hw]
 refine wpAny_bind (wpAny_pure ?_)
 show wpAny (model X.prog X.w) X.A (do rule "assign.swapped-stores"; let items ← unpackItems (.ref s1.heap.objs.size) 3 none; assignInOrder [fun v=>bindName X.env z v,fun v=>bindName X.env y v,fun v=>bindName X.env x v] items.reverse; pure Flow.next) _ _ _
 refine wpAny_bind (wpAny_rule (wpAny_bind (unpackItems_tuple (items:=#[u1,u2,u3]) (I.ok.hd hc) (IsTup.new s1.heap _) fun h' hx'=>?_)))
 have I3:=I2.kept (h':=h') (t':=s1.toks) fun b o e=>hx' b o (Nat.ne_of_lt (Heap.lt_size e)) e
 show wpAny _ _ (assignInOrder [fun v=>bindName X.env z v,fun v=>bindName X.env y v,fun v=>bindName X.env x v] [u3,u2,u1] >>= fun _=>pure Flow.next) _ _ _
 refine wpAny_bind (assignInOrder_cons (wpAny_bindName (store_ok I3 hN hk (.inl hz) rz (fun s2 I4=>?_) (.inr hz))))
 refine assignInOrder_cons (wpAny_bindName (store_ok I4 hN hj (.inl hy) rw' (fun s3 I5=>?_) (.inr hy)))
 refine assignInOrder_cons (wpAny_bindName (store_ok I5 hN hi (.inl hx) rv (fun s4 I6=>assignInOrder_nil (wpAny_pure ?_)) (.inr hx)))
 refine ⟨_,H1,?_,q1⟩
 have e:((σ.set k (some zz)).set j (some w)).set i (some v)=((σ.set i (some v)).set j (some w)).set k (some zz):=by
   rw [List.set_comm _ _ (Ne.symm hij),List.set_comm _ _ (Ne.symm hik),List.set_comm _ _ (Ne.symm hjk)]
 rw [←e]
 exact I6
theorem pe_dnew (hb:∀ (pins:List (Addr × Obj)) (σ:St) (H:Hp) (s:Shared),Inv X pins σ H s→sysModules < s.heap.objs.size):PE X (.Dict [] [] pos) (fun _ H Q=>∀ p,H p=none→Q (.ref p) (upd H p (.dK []))):=fun pins s σ H Q I h =>
 wpAny_Dict_empty ⟨.ref s.heap.objs.size,_,I.laid (a:=s.heap.objs.size) (o:=.dK []) (t':=s.toks) (fun _ _ q=>Heap.get?_push_of_some _ q) (Nat.le_refl _)
   ⟨Nat.zero_le _,beq_eq_false_iff_ne.mpr (Ne.symm (Nat.ne_of_lt (hb pins σ H s I))),[],.nil,Heap.DictOf.new s.heap⟩,rfl,h _ (I.hok.fresh (Nat.le_refl _))⟩
end
end L2
namespace L2
open PySem PySem.Spec PyProof.Rows
theorem Inv.big {X:Cx} {pins:List (Addr × Obj)} {σ:St} {H:Hp} {s:Shared} (I:Inv X pins σ H s):sysModules < s.heap.objs.size:=by
 have h:mainGlobals < s.heap.objs.size:=(I.mod.glob.keeps I.bk).lt
 exact Nat.lt_trans (by decide) h
mutual
inductive DD (H:Hp) (p:Addr):V→PyData→Prop
 | non:DD H p .non .none
 | bl (b:Bool):DD H p (.bl b) (.bool b)
 | int (i:Int):DD H p (.int i) (.int i)
 | str (x:Str):DD H p (.str x) (.str x)
 | lst {a:Addr} {xs:List V} {ds:List PyData}:H a=some (.lst xs)→a≠p→DDs H p xs ds→DD H p (.ref a) (.list ds)
 | tup {a:Addr} {xs:List V} {ds:List PyData}:H a=some (.tup xs)→a≠p→DDs H p xs ds→DD H p (.ref a) (.tuple ds)
 | dct {a:Addr}:H a=some (.dK [])→a≠p→DD H p (.ref a) (.dict [])
inductive DDs (H:Hp) (p:Addr):List V→List PyData→Prop
 | nil:DDs H p [] []
 | cons {x:V} {xs:List V} {d:PyData} {ds:List PyData}:DD H p x d→DDs H p xs ds→DDs H p (x :: xs) (d :: ds)
end
theorem DDs.length {H:Hp} {p:Addr}:∀ {vs:List V} {ds:List PyData},DDs H p vs ds→vs.length=ds.length
 | _,_,.nil=>rfl
 | _,_,.cons _ rs=>by rw [List.length_cons,List.length_cons,rs.length]
theorem DDs.append {H:Hp} {p:Addr}:∀ {vs ws:List V} {ds es:List PyData},DDs H p vs ds→DDs H p ws es→DDs H p (vs++ws) (ds++es)
 | _,_,_,_,.nil,r=>r
 | _,_,_,_,.cons r rs,q=>.cons r (rs.append q)
mutual
noncomputable def hasList:PyData→Bool
 | .none | .bool _ | .int _ | .str _=>false
 | .list _=>true
 | .tuple xs=>hasListAll xs
 | .dict _=>false
noncomputable def hasListAll:List PyData→Bool
 | []=>false
 | x :: xs=>hasList x || hasListAll xs
end
structure Shows (d:PyData):Prop where
 sh:d.showable=true
 mix:d.hasDict=true→hasList d=false
 dp:d.depth≤50
 ln:d.shown.length≤sizeLine
end L2
end
section
namespace L2
open PySem PySem.Spec PyProof.Rows
structure Leaf (k w:Nat) (d:PyData):Prop where
 sh:d.showable=true
 lf:d.leavesShort 40=true
 dp:d.depth≤k
 wt:d.weight≤w
theorem leaf_int {i:Int} (h1:-(10 ^ 30) < i) (h2:i < 10 ^ 30):Leaf 0 100 (.int i):=by
 have hn:i.natAbs < 10 ^ 30:=by omega
 have h100:i.natAbs < 2 ^ 100:=Nat.lt_trans hn (by decide)
 have hlog:i.natAbs≠0→i.natAbs.log2 < 100:=fun z=>(Nat.log2_lt z).mpr h100
 refine ⟨?_,?_,Nat.zero_le _,?_⟩
 . show decide (i.natAbs.log2 < 1920)=true
   by_cases z:i.natAbs=0
   . rw [z]; decide
   . exact decide_eq_true (Nat.lt_trans (hlog z) (by decide))
 . show decide ((PyData.shown (.int i)).length≤40)=true
   refine decide_eq_true ?_
   show (Str.ofString (toString i)).length≤40
   by_cases z:0≤i
   . exact Nat.le_trans (toString_length_le z (k:=30) (by decide) h2) (by decide)
   . have e:=len_text_negI (n:=i) (by omega)
     have e2:=toString_length_le (v:=0 - i) (k:=30) (by omega) (by decide) (by omega)
     omega
 . show (if i == 0 then 0 else i.natAbs.log2 + 1)≤100
   split
   . exact Nat.zero_le _
   . rename_i z
     have z':i≠0:=by simpa using z
     exact hlog (by omega)
theorem all_showable:∀ {ds:List PyData},(∀ d∈ds,d.showable=true)→PyData.showableAll ds=true
 | [],_=>rfl
 | d :: ds,h=>by rw [PyData.showableAll,h d List.mem_cons_self,all_showable fun x hx=>h x (List.mem_cons_of_mem _ hx)]; rfl
theorem all_short:∀ {ds:List PyData},(∀ d∈ds,d.leavesShort 40=true)→PyData.leavesShortAll 40 ds=true
 | [],_=>rfl
 | d :: ds,h=>by rw [PyData.leavesShortAll,h d List.mem_cons_self,all_short fun x hx=>h x (List.mem_cons_of_mem _ hx)]; rfl
theorem all_depth {k:Nat}:∀ {ds:List PyData},(∀ d∈ds,d.depth≤k)→PyData.depthAll ds≤k
 | [],_=>Nat.zero_le _
 | d :: ds,h=>by rw [PyData.depthAll]; exact Nat.max_le.mpr ⟨h d List.mem_cons_self,all_depth fun x hx=>h x (List.mem_cons_of_mem _ hx)⟩
theorem all_weight {w:Nat}:∀ {ds:List PyData},(∀ d∈ds,d.weight≤w)→PyData.weightAll ds≤ds.length * (w + 1)
 | [],_=>by simp [PyData.weightAll]
 | d :: ds,h=>by
   rw [PyData.weightAll,List.length_cons,Nat.succ_mul]
   have h1:=h d List.mem_cons_self
   have h2:=all_weight fun x hx=>h x (List.mem_cons_of_mem _ hx)
   omega
theorem leaf_tuple {k w n:Nat} {ds:List PyData} (h:∀ d∈ds,Leaf k w d) (hn:ds.length≤n):Leaf (k + 1) (n * (w + 1)) (.tuple ds):=by
 refine ⟨all_showable fun d hd=>(h d hd).sh,all_short fun d hd=>(h d hd).lf,Nat.succ_le_succ (all_depth fun d hd=>(h d hd).dp),?_⟩
 exact Nat.le_trans (all_weight fun d hd=>(h d hd).wt) (Nat.mul_le_mul_right _ hn)
theorem leaf_list {k w n:Nat} {ds:List PyData} (h:∀ d∈ds,Leaf k w d) (hn:ds.length≤n):Leaf (k + 1) (n * (w + 1)) (.list ds):=by
 refine ⟨all_showable fun d hd=>(h d hd).sh,all_short fun d hd=>(h d hd).lf,Nat.succ_le_succ (all_depth fun d hd=>(h d hd).dp),?_⟩
 exact Nat.le_trans (all_weight fun d hd=>(h d hd).wt) (Nat.mul_le_mul_right _ hn)
theorem Leaf.shows {k w:Nat} {d:PyData} (h:Leaf k w d) (hk:k≤50) (hw:w≤300000) (mix:d.hasDict=true→hasList d=false):Shows d:=by
 refine ⟨h.sh,mix,Nat.le_trans h.dp hk,?_⟩
 have e:=PyData.shown_le 40 (by decide) d h.lf
 have e2:=h.wt
 rw [sizeLine_eq]
 have:(40 + 2) * d.weight≤42 * 300000:=Nat.mul_le_mul_left _ (Nat.le_trans e2 hw)
 omega
theorem noDictAll:∀ {ds:List PyData},(∀ d∈ds,d.hasDict=false)→PyData.hasDictAll ds=false
 | [],_=>rfl
 | d :: ds,h=>by rw [PyData.hasDictAll,h d List.mem_cons_self,noDictAll fun x hx=>h x (List.mem_cons_of_mem _ hx)]; rfl
end L2
end
section
namespace L2
open PySem PySem.Spec PyProof.Rows
section
variable {X:Cx} {pos:Pos}
theorem pe_ty {x:Str} {n:String} (hg:Gl X x) (hm:X.mg x=none) (hv:bootBuiltins x=some (.type n)) (hn:x≠"__name__":=by decide) (hd:(x == ("__debug__":Str))=false:=by decide):PE X (.Name x pos) (tC (.ty n)):=
 pe_bltn hg hm hv (show RelV (.ty n) (.type n) from rfl) hn hd
noncomputable def noStar:Expr→Bool
 | .Starred ..=>false
 | _=>true
theorem star_cons {e:Expr} {es:List Expr} {env:Env} (h:noStar e=true):starEach (e :: es) env=(false,eval e env) :: starEach es env:=by
 cases e <;> first | rfl | cases h
theorem pac {X:Cx} {e:Expr} {es:List Expr} {te:TE} {t:TA} (ha:PE X e te) (hr:PA X es t) (hs:noStar e=true:=by rfl):PA X (e :: es) (tCons te t):=pa_cons ha hr (star_cons hs)
noncomputable def ckComp (sc0:Scope) (N0 N:List Str) (csc:Scope) (fr:List (Option Nat)):Bool:=
 decide (csc.kind=.function) && csc.names.all (fun x=>decide (x.2≠.cell)) && csc.names.all (fun x=>decide (x.2≠.local) || decide (csc.names.lookup x.1=some .local)) &&
 csc.names.all (fun x=>decide (x.2≠.free) || (decide (sc0.names.lookup x.1=some .cell) || decide (sc0.names.lookup x.1=some .free))) && decide (fr.length=N.length) &&
 (List.range N.length).all (fun i=>match fr[i]?,N[i]? with | some (some j),some x=>decide (N0[j]?=some x) && csc.names.any (fun y=>decide (y.1=x) && decide (y.2=.free)) | _,_=>true) &&
 csc.names.all (fun x=>decide (x.2≠.free) || decide (csc.names.lookup x.1≠some .local))
end
end L2
end
section
namespace L2
open PySem PySem.Spec PyProof.Rows
noncomputable def pickV {α:Type} (xs:List α) (lo st:Int) (n:Nat):List α:=(List.range n).filterMap fun (k:Nat)=>xs[(lo + (k:Int) * st).toNat]?
theorem Vals.pick {xs:List V} {us:List Value} (r:Vals xs us):∀ (is:List Nat),Vals (is.filterMap fun i=>xs[i]?) (is.filterMap fun i=>us[i]?)
 | []=>.nil
 | i :: is=>by
   rw [List.filterMap_cons,List.filterMap_cons]
   cases hx:xs[i]? with
   | none=>rw [r.none_of hx]; exact Vals.pick r is
   | some x =>
     obtain ⟨u,hu,ru⟩:=r.get hx
     rw [hu]
     exact .cons ru (Vals.pick r is)
theorem Vals.pickV {xs:List V} {us:List Value} (r:Vals xs us) (lo st:Int) (n:Nat):Vals (pickV xs lo st n) (L2.pickV us lo st n):=by
 have h:=r.pick ((List.range n).map fun (k:Nat)=>(lo + (k:Int) * st).toNat)
 rw [List.filterMap_map,List.filterMap_map] at h
 exact h
theorem pickV_le {α:Type} (xs:List α) (lo st:Int) (n:Nat):(pickV xs lo st n).length≤n:=by
 have:=List.length_filterMap_le (fun (k:Nat)=>xs[(lo + (k:Int) * st).toNat]?) (List.range n)
 rw [List.length_range] at this
 exact this
noncomputable def cut3 (n:Nat) (lo hi:Option Int) (st:Int):Int × Nat:=((Builtin.Slice.sliceAdjust lo hi st (n:Int)).1,Builtin.Slice.slicePlaces (Builtin.Slice.sliceAdjust lo hi st (n:Int)).1 (Builtin.Slice.sliceAdjust lo hi st (n:Int)).2 st)
section
variable {prog:Program} {w:World} {A:Around} {E:Value→Shared→Prop} {s:Shared}
theorem sliceApplied3 {sl:Addr} {vl vu vc:Value} {lo hi:Option Int} {st:Int} {n:Nat} {Q:Int × Int × Nat→Shared→Prop} (hs:s.heap.IsSliceOf sl vl vu vc) (pl:IsPart vl lo) (pu:IsPart vu hi) (pc:IsPart vc (some st)) (h0:st≠0)
   (h:Q ((cut3 n lo hi st).1,st,(cut3 n lo hi st).2) s):wpAny (model prog w) A (Builtin.Slice.sliceApplied (.ref sl) (pure (n:Int))) Q E s:=by
 obtain ⟨os,hos,hcs,hds⟩:=id hs
 unfold Builtin.Slice.sliceApplied Builtin.Slice.sliceFields
 refine wpAny_bind (wpAny_bind (wpAny_field hos hds (x:=vl) rfl (wpAny_bind (wpAny_field hos hds (x:=vu) rfl (wpAny_bind (wpAny_field hos hds (x:=vc) rfl (wpAny_pure ?_)))))))
 refine wpAny_bind (HT.slicePart_ pc ?_)
 show wpAny _ _ (if (st == 0)=true then _ else _) _ _ s
 rw [if_neg (by simpa using h0)]
 exact wpAny_bind (HT.slicePart_ pl (wpAny_bind (HT.slicePart_ pu (wpAny_bind (wpAny_pure (wpAny_pure h))))))
theorem tup_cut3 {t sl:Addr} {items:Array Value} {vl vu vc:Value} {lo hi:Option Int} {st:Int} {Q:Value→Shared→Prop} (ht:IsTup s.heap t items) (hs:s.heap.IsSliceOf sl vl vu vc) (pl:IsPart vl lo) (pu:IsPart vu hi) (pc:IsPart vc (some st)) (h0:st≠0)
   (hq1:(cut3 items.size lo hi st).1=0→st=1→(cut3 items.size lo hi st).2=items.size→Q (.ref t) s)
   (hq2:Q (.ref s.heap.objs.size) { s with heap:=s.heap.push { cls:=.type "tuple",data:=.seq (pickV items.toList (cut3 items.size lo hi st).1 st (cut3 items.size lo hi st).2).toArray } })
   (hsz:(cut3 items.size lo hi st).2≤sizeLine):wpAny (model prog w) A (getItem (.ref t) (.ref sl)) Q E s:=by
 obtain ⟨os,hos,hcs,hds⟩:=id hs
 have hTs:s.TypeIs (.ref sl) "slice":=⟨os,hos,hcs⟩
 have htake:sizeOk (.seq (pickV items.toList (cut3 items.size lo hi st).1 st (cut3 items.size lo hi st).2).toArray):=by
   show (pickV items.toList (cut3 items.size lo hi st).1 st (cut3 items.size lo hi st).2).toArray.size≤sizeLine
   rw [List.size_toArray]
   exact Nat.le_trans (pickV_le _ _ _ _) hsz
 have epick:((List.range (cut3 items.size lo hi st).2).filterMap fun (k:Nat)=>items[((cut3 items.size lo hi st).1 + (k:Int) * st).toNat]?).toArray=(pickV items.toList (cut3 items.size lo hi st).1 st (cut3 items.size lo hi st).2).toArray:=by
   unfold pickV
   simp only [Array.getElem?_toList]
 unfold getItem
 try with_reducible refine wpAny_holding ?_
 first | refine wpAny_bind (wpAny_pure ?_) | skip
 refine wpAny_bind (wpAny_sequenceKey ht.typeIs (by decide) ?_)
 refine wpAny_bind (wpAny_callSpecial?_slot (name:=Str.ofString "__getitem__") ht.typeIs PyProof.Rows.slot_tuple_getitem
   (wpAny_call_entry PyProof.Rows.slot_tuple_getitem ht.typeIs entry_tuple_getitem ?_ (args_tuple_getitem _ _)))
 show wpAny _ _ (Builtin.Tuple.tupleItemsOf (.ref t) >>= _) _ _ s
 refine wpAny_bind (tupleItemsOf_ ht ?_)
 refine wpAny_bind (wpAny_typeOf hTs ?_)
 rw [if_pos (by decide)]
 refine wpAny_bind (sliceApplied3 (n:=items.size) hs pl pu pc h0 ?_)
 by_cases hw:((cut3 items.size lo hi st).1 == 0 && st == 1 && (cut3 items.size lo hi st).2 == items.size)=true
 . show wpAny _ _ (if ((cut3 items.size lo hi st).1 == 0 && st == 1 && (cut3 items.size lo hi st).2 == items.size)=true then _ else _) _ _ s
   rw [if_pos hw]
   simp only [Bool.and_eq_true,beq_iff_eq] at hw
   unfold Builtin.Tuple.tupleIsExact
   refine wpAny_bind (wpAny_bind (wpAny_typeOf ht.typeIs (wpAny_pure ?_)))
   rw [if_pos (by decide)]
   exact wpAny_bind (wpAny_rule (wpAny_pure ⟨_,rfl,wpAny_pure (hq1 hw.1.1 hw.1.2 hw.2)⟩))
 . show wpAny _ _ (if ((cut3 items.size lo hi st).1 == 0 && st == 1 && (cut3 items.size lo hi st).2 == items.size)=true then _ else _) _ _ s
   rw [if_neg hw,epick]
   first
     | exact wpAny_bind (m:=Builtin.Tuple.tupleExact _) (wpAny_newObj_type (wpAny_pure ⟨_,rfl,wpAny_pure hq2⟩) htake)
     | exact wpAny_bind (wpAny_bind (m:=Builtin.Tuple.tupleExact _) (wpAny_newObj_type (wpAny_pure ⟨_,rfl,wpAny_pure hq2⟩) htake))
end
theorem pick_all {α:Type}:∀ xs:List α,(List.range xs.length).filterMap (fun k=>xs[k]?)=xs
 | []=>rfl
 | x :: xs=>by
   rw [List.length_cons,List.range_succ_eq_map,List.filterMap_cons,List.filterMap_map]
   show x :: _=_
   refine congrArg (x :: ·) (Eq.trans ?_ (pick_all xs))
   congr 1
theorem pick_whole {α:Type} (xs:List α):pickV xs 0 1 xs.length=xs:=by
 unfold pickV
 have e:(fun (k:Nat)=>xs[(0 + (k:Int) * 1).toNat]?)=fun k=>xs[k]?:=by
   funext k
   rw [show (0 + (k:Int) * 1).toNat=k by omega]
 rw [e]
 exact pick_all xs
noncomputable def rSl3:V→Option Int→Option Int→Option Int→Hp→VK→Prop:=fun x lo hi st H Q=>∃ a xs c,x=.ref a∧H a=some (.tup xs)∧st=some c∧c≠0∧(cut3 xs.length lo hi c).2≤sizeLine∧GetsT H (pickV xs (cut3 xs.length lo hi c).1 c (cut3 xs.length lo hi c).2) Q
noncomputable def tSl3 (r:V→Option Int→Option Int→Option Int→Hp→VK→Prop) (te:TE) (tl th tc:TO):TE:=fun σ H Q=>te σ H fun x H1=>tl σ H1 fun l H2=>th σ H2 fun u H3=>tc σ H3 fun c H4=>r x l u c H4 Q
theorem pe_slice3 {X:Cx} {e:Expr} {te:TE} {lo hi:Option Expr} {st:Expr} {tl th tc:TO} {pos p2:Pos} (he:PE X e te) (hl:PO X lo tl) (hu:PO X hi th) (hc:PO X (some st) tc):PE X (.Subscript e (.Slice lo hi (some st) p2) pos) (tSl3 rSl3 te tl th tc):=by
 intro pins s σ H Q I h
 refine Subscript_ (thn (he pins s σ H _ I h) fun v s1 ⟨x,H1,I1,r1,q1⟩=>?_)
 refine wpAny_Slice (thn (hl pins s1 σ H1 _ I1 q1) fun vl s2 ⟨l,H2,I2,pl,q2⟩=>thn (hu pins s2 σ H2 _ I2 q2) fun vu s3 ⟨u,H3,I3,pu,q3⟩=>thn (hc pins s3 σ H3 _ I3 q3) fun vc s4 ⟨c,H4,I4,pc,q4⟩=>?_)
 obtain ⟨a,xs,cc,rfl,hx,ec,h0,hsz,g⟩:=q4
 subst ec
 cases r1
 have I5:Inv X pins σ H4 { s4 with heap:=s4.heap.push { cls:=.type "slice",data:=.fields #[vl,vu,vc] } }:=I4.kept (t':=s4.toks) fun b ob q=>Heap.get?_push_of_some _ q
 obtain ⟨its,r,ht,hz⟩:=I5.tuple (.inl (.inl hx))
 have hlen:its.toArray.size=xs.length:=by rw [List.size_toArray]; exact r.length.symm
 show wpAny (model X.prog X.w) X.A (subscriptTail e (.Slice lo hi (some st) p2) (.ref a) (.ref s4.heap.objs.size)) (EP X pins σ Q) X.xe { s4 with heap:=s4.heap.push { cls:=.type "slice",data:=.fields #[vl,vu,vc] } }
 refine tail_any (ops:=[.ref a,.ref s4.heap.objs.size]) ht.typeIs PyProof.Rows.slot_tuple_getitem.lookup (tup_cut3 ht (Heap.IsSliceOf.new ..) pl pu pc h0 (fun z1 z2 z3=>?_) ?_ (by rw [hlen]; exact hsz)) (by with_unfolding_all rfl)
 . refine ⟨.ref a,H4,I5,rfl,g a H4 (Same.refl H4) ?_⟩
   rw [hlen] at z1 z3
   rw [hx,z1,z3,z2,pick_whole]
 . rw [hlen]
   refine ⟨.ref _,_,I5.laid (t':=s4.toks) (o:=.tup (pickV xs (cut3 xs.length l u cc).1 cc (cut3 xs.length l u cc).2)) (fun b ob q=>Heap.get?_push_of_some _ q) (Nat.le_refl _) ?_,rfl,g.new _ (I5.hok.fresh (Nat.le_refl _))⟩
   refine ⟨Nat.le_trans (pickV_le _ _ _ _) hsz,_,r.pickV _ _ _,?_⟩
   exact PTup.new _ _
end L2
end
section
namespace L2
open PySem PyProof.Rows
section
variable {prog:Program} {w:World} {A:Around} {R:Result→Shared→Prop} {I S:Addr} {fp wr:List Addr} {n:Nat} {P:Nat→Value→Prop} {St:Nat→Heap→Prop} {bt:Nat→Nat→Bool} {kw:List (Str × Value)}
end
section
variable {X:Cx}
noncomputable def maxOr (d:Int):List Int→Int
 | []=>d
 | n :: ns=>ns.foldl (fun a b=>if b > a then b else a) n
theorem foldMax_ge:∀ (ns:List Int) (a:Int),a≤ns.foldl (fun a b=>if b > a then b else a) a∧(∀ x∈ns,x≤ns.foldl (fun a b=>if b > a then b else a) a)∧(ns.foldl (fun a b=>if b > a then b else a) a=a ∨ ns.foldl (fun a b=>if b > a then b else a) a∈ns)
 | [],a=>⟨Int.le_refl _,fun _ h=>(nomatch h),.inl rfl⟩
 | n :: ns,a=>by
   obtain ⟨h1,h2,h3⟩:=foldMax_ge ns (if n > a then n else a)
   show a≤ns.foldl _ (if n > a then n else a)∧_
   have hc:a≤(if n > a then n else a)∧n≤(if n > a then n else a):=by split <;> omega
   refine ⟨Int.le_trans hc.1 h1,fun x hx=>?_,?_⟩
   . rcases List.mem_cons.mp hx with e | hx
     . rw [e]; exact Int.le_trans hc.2 h1
     . exact h2 x hx
   . rcases h3 with h3 | h3
     . show ns.foldl _ (if n > a then n else a)=a ∨ ns.foldl _ (if n > a then n else a)∈n :: ns
       rw [h3]
       split
       . exact .inr (List.mem_cons_self ..)
       . exact .inl rfl
     . exact .inr (List.mem_cons_of_mem _ h3)
theorem maxOr_spec {d:Int} {ns:List Int} (h:ns≠[]):maxOr d ns∈ns∧∀ x∈ns,x≤maxOr d ns:=by
 cases ns with
 | nil=>exact absurd rfl h
 | cons n ns =>
   obtain ⟨h1,h2,h3⟩:=foldMax_ge ns n
   refine ⟨?_,fun x hx=>?_⟩
   . rcases h3 with h3 | h3
     . show ns.foldl _ n∈_; rw [h3]; exact List.mem_cons_self ..
     . exact List.mem_cons_of_mem _ h3
   . rcases List.mem_cons.mp hx with e | hx
     . rw [e]; exact h1
     . exact h2 x hx
theorem maxOr_eq {d M:Int} {ns:List Int} (h1:M∈ns) (h2:∀ x∈ns,x≤M):maxOr d ns=M:=by
 have hne:ns≠[]:=fun e=>by rw [e] at h1; exact nomatch h1
 obtain ⟨a,b⟩:=maxOr_spec (d:=d) hne
 exact Int.le_antisymm (h2 _ a) (b _ h1)
theorem Vals.ints:∀ {ns:List Int} {us:List Value},Vals (ns.map V.int) us→∀ {i:Nat} {v:Value},us[i]?=some v→∃ t,v=.int (ns.getD i 0) t
 | [],_,.nil,_,_,h=>by cases h
 | n :: ns,_,.cons r rs,0,v,h=>by
   obtain ⟨t,e⟩:=r
   have:v=.int n t:=(Option.some.inj h).symm.trans e
   exact ⟨t,this⟩
 | n :: ns,_,.cons r rs,i + 1,v,h=>by
   have:=Vals.ints rs (i:=i) (v:=v) h
   exact this
end
end L2
end
section
namespace L2
open PySem PyProof PyProof.Rows
section
variable {X:Cx}
theorem tuple_mul1 (l:Addr) (items:Array Value) (n:Nat) (u:Tok) (dd:Option Addr) (sl:Array (Option Value)) :
   Meets (Builtin.«tuple.__mul__» ⟨[.ref l,.int 1 u],[]⟩) (fun _ R s=>s.heap.get? l=some { cls:=.type "tuple",dict:=dd,data:=.seq items n,slots:=sl }∧R (.ok (.ret (Value.ref l))) s):=
 .of_wp fun prog w A R s h=>by
   obtain ⟨hp,g,d,tk,os⟩:=s; obtain ⟨hl,h⟩:=h
   have f1:=AutoSeq1.idx_int
   have c1:¬ ((decide ((1:Int) < -(2 ^ 63)) || decide ((1:Int) ≥ 2 ^ 63))=true):=by decide
   have c2:((items.isEmpty || ((1:Int) == 1))=true):=by simp
   wp_walk using wpAny_loadPart' hl
   exact ⟨_,rfl,h⟩
theorem tuple_mul0 (l:Addr) (items:Array Value) (n:Nat) (x:Int) (u:Tok) (dd:Option Addr) (sl:Array (Option Value)) (h1:x≤0) (h2:-1000≤x) (h3:¬ items.isEmpty=true) :
   Meets (Builtin.«tuple.__mul__» ⟨[.ref l,.int x u],[]⟩) (fun _ R s=>s.heap.get? l=some { cls:=.type "tuple",dict:=dd,data:=.seq items n,slots:=sl } ∧
     R (.ok (.ret (Value.ref s.heap.objs.size))) { s with heap:=s.heap.push { cls:=Value.type "tuple",data:=Data.seq #[] },toks:=s.toks }):=
 .of_wp fun prog w A R s h=>by
   obtain ⟨hp,g,d,tk,os⟩:=s; obtain ⟨hl,h⟩:=h
   have f1:=AutoSeq1.idx_int
   have c1:¬ ((decide (x < -(2 ^ 63)) || decide (x ≥ 2 ^ 63))=true):=by simp; omega
   have c2:¬ ((items.isEmpty || x == 1)=true):=by simp at h3 ⊢; exact ⟨h3,by omega⟩
   have c3:((decide (x≤0) || items.isEmpty)=true):=by simp; exact .inl h1
   wp_walk using wpAny_loadPart' hl
   rw [if_neg c1]
   refine wpAny_bind (tupleItemsOf_ (items:=items) ⟨_,hl,rfl,n,rfl⟩ ?_)
   rw [if_neg c2]
   show wpAny _ _ (if (decide (x≤0) || items.isEmpty)=true then _ else _) _ _ _
   rw [if_pos c3]
   exact wpAny_bind (m:=Builtin.Tuple.tupleExact _) (wpAny_newObj_type (wpAny_pure ⟨_,rfl,h⟩))
noncomputable def rRepT:R2:=fun x y H Q=>∃ a k xs,x=.ref a∧y=.int k∧H a=some (.tup xs)∧-1000≤k∧k≤1000∧xs≠[]∧xs.length≤1000∧GetsT H (List.replicate k.toNat xs).flatten Q
theorem op_repA:OpR X (binaryOp .Mult) rRepT:=by
 intro pins s σ H x y v u Q I rx ry h
 obtain ⟨a,k,xs,rfl,rfl,ha,h1,h2,h3,h4,g⟩:=h
 by_cases hk2:2≤k
 . exact op_repT pins s σ H _ _ v u Q I rx ry ⟨a,k,xs,rfl,rfl,ha,hk2,h2,h3,h4,g⟩
 cases rx
 obtain ⟨t,rfl⟩:=ry
 obtain ⟨its,r,p1,_⟩:=I.tuple (.inl (.inl ha))
 obtain ⟨⟨cls,dd,data,sl⟩,ho,hc,n,hd⟩:=id p1
 simp only at hc hd
 subst hc hd
 by_cases hk1:k=1
 . subst hk1
   refine wpAny_binaryOp_repeat_ref (T:="tuple") (U:="int") (by decide) ⟨_,ho,rfl⟩ (fun s'=>typeIs_int s' 1 t) noFill_tuple_mul F.fills_int_mul F.slot_int_rmul repeat_tuple F.slot_int_index.lookup
     (call_meets F.slot_int_rmul (typeIs_int s 1 t) F.entry_int_rmul (F.args_int_rmul_2 _ _) (int_rmul_tuple 1 t a its.toArray n dd sl)
       ⟨ho,rfl,⟨_,ho,rfl⟩,call_meets F.slot_tuple_mul ⟨_,ho,rfl⟩ F.entry_tuple_mul (F.args_tuple_mul_2 _ _) (tuple_mul1 a its.toArray n t dd sl) ⟨ho,?_⟩⟩)
   refine ⟨.ref a,H,I,rfl,g a H (Same.refl H) ?_⟩
   rw [ha]; simp
 . have hne:¬ its.toArray.isEmpty=true:=by
     simp
     intro e
     exact h3 (r.nil_iff.mp e)
   have e0:k.toNat=0:=by omega
   refine wpAny_binaryOp_repeat_ref (T:="tuple") (U:="int") (by decide) ⟨_,ho,rfl⟩ (fun s'=>typeIs_int s' k t) noFill_tuple_mul F.fills_int_mul F.slot_int_rmul repeat_tuple F.slot_int_index.lookup
     (call_meets F.slot_int_rmul (typeIs_int s k t) F.entry_int_rmul (F.args_int_rmul_2 _ _) (int_rmul_tuple k t a its.toArray n dd sl)
       ⟨ho,rfl,⟨_,ho,rfl⟩,call_meets F.slot_tuple_mul ⟨_,ho,rfl⟩ F.entry_tuple_mul (F.args_tuple_mul_2 _ _) (tuple_mul0 a its.toArray n k t dd sl (by omega) h1 hne) ⟨ho,?_⟩⟩)
   rw [e0] at g
   refine ⟨.ref s.heap.objs.size,_,I.laid (t':=s.toks) (o:=.tup []) (fun b ob q=>Heap.get?_push_of_some _ q) (Nat.le_refl _) ⟨Nat.zero_le _,[],.nil,PTup.new _ _⟩,rfl,g.new _ (I.hok.fresh (Nat.le_refl _))⟩
noncomputable def rangeL (a b c:Int):List Int:=(List.range (Builtin.Range.rangeSize a b c).toNat).map fun (i:Nat)=>a + (i:Int) * c
theorem ints_vals:∀ {ns:List Int} {us:List Value},ns.length=us.length→(∀ (i:Nat) (v:Value),us[i]?=some v→∃ t,v=.int (ns.getD i 0) t)→Vals (ns.map V.int) us
 | [],[],_,_=>.nil
 | [],_ :: _,h,_=>by cases h
 | _ :: _,[],h,_=>by cases h
 | n :: ns,u :: us,h,hv=>.cons (by obtain ⟨t,e⟩:=hv 0 u rfl; exact ⟨t,e⟩) (ints_vals (Nat.succ.inj h) fun i v e=>hv (i + 1) v e)
theorem rangeSize_nn (a b c:Int) (hc:0 < c):0≤Builtin.Range.rangeSize a b c:=by
 unfold Builtin.Range.rangeSize
 rw [if_pos hc]
 split
 . have:=Int.ediv_nonneg (a:=b - a - 1) (b:=c) (by omega) (by omega); omega
 . omega
theorem pe_listRange1 {x y:Str} {a:Expr} {ta:TA} {p pos p2 pos2:Pos} (hcalm:X.calm=true) (hx:x="list") (hy:y="range") (hg:Gl X x) (hm:X.mg x=none) (hg2:Gl X y) (hm2:X.mg y=none) (ha:PA X [a] ta)
   (hs:starEach [a] X.env=[(false,eval a X.env)]:=by rfl) :
   PE X (.Call (.Name x p) [.Call (.Name y p2) [a] [] pos2] [] pos) (fun σ H Q=>ta σ H fun vs H1=>∃ j:Int,vs=[.int j]∧-(2 ^ 30)≤j∧j≤2 ^ 30∧(Builtin.Range.rangeSize 0 j 1)≤1000∧∀ l,H1 l=none→Q (.ref l) (upd H1 l (.lst ((rangeL 0 j 1).map V.int)))):=by
 intro pins s σ H Q I h
 subst hx hy
 refine wpAny_Call_Name_kw (ld_blt I hg hm PyProof.Rows.boot_list ?_ (by decide) (by decide))
 refine PyProof.Rows.callWith_type1 (PyProof.Rows.spliced_more (Call_ (ld_blt I hg2 hm2 boot_range (PyProof.Rows.callWith_type1 (thn (ha pos2 pins s σ H _ I h) fun us s1 ⟨vs,H1,I1,r1,q1⟩=>?_) hs rfl) (by decide) (by decide))))
 obtain ⟨j,rfl,j0,j1,hz,q⟩:=q1
 cases r1 with
 | cons r rr =>
   cases rr
   obtain ⟨t,rfl⟩:=r
   have hn0:=rangeSize_nn 0 j 1 (by omega)
   refine call_range_1 ?_
   refine PyProof.Rows.spliced_none ?_
   have I2:Inv X pins σ H1 { s1 with heap:=s1.heap.push { cls:=.type "range",data:=.fields #[.int 0 s1.toks,.int j t,.int 1 (s1.toks + 1)] },toks:=s1.toks + 1 + 1 }:=I1.kept fun b o e=>Heap.get?_push_of_some _ e
   refine call_list_range (n:=(Builtin.Range.rangeSize 0 j 1).toNat) (I1.ok.hd hcalm) (IsRange.new ..) ?_ (by omega) (by omega) fun h' tk acc' c' kp e hit=>?_
   . unfold Builtin.Range.small
     rw [if_pos (by omega)]
     simp only [Builtin.Range.rangeFitsLong,Bool.and_eq_true,Bool.or_eq_true,decide_eq_true_eq,beq_iff_eq]
     omega
   . obtain ⟨hs1,hs2⟩:=hit
     have hl:(rangeL 0 j 1).length=acc'.toList.length:=by unfold rangeL; rw [List.length_map,List.length_range]; simpa using hs1.symm
     have hv:Vals ((rangeL 0 j 1).map V.int) acc'.toList:=by
       refine ints_vals hl fun m v hm=>?_
       have hm':acc'[m]?=some v:=by simpa using hm
       obtain ⟨t,e⟩:=hs2 m v hm'
       have hlt:m < (Builtin.Range.rangeSize 0 j 1).toNat:=by
         have:=(Array.getElem?_eq_some_iff.mp hm').1; omega
       refine ⟨t,?_⟩
       rw [e]
       congr 1
       unfold rangeL
       rw [List.getD_eq_getElem?_getD,List.getElem?_map,List.getElem?_range hlt]; rfl
     have hz2:((rangeL 0 j 1).map V.int).length≤sizeLine:=by
       unfold rangeL; rw [List.length_map,List.length_map,List.length_range,sizeLine_eq]; omega
     exact ⟨.ref _,_,I2.laid (t':=tk) (o:=.lst ((rangeL 0 j 1).map V.int)) kp (Nat.le_refl _) ⟨hz2,acc'.toList,c',hv,by simpa using e⟩,rfl,q _ (I2.hok.fresh (Nat.le_refl _))⟩
end
end L2
end
section
namespace L2
open PySem PyProof PyProof.Rows
section
variable {X:Cx} {k:Nat}
end
end L2
end
section
namespace L2
open PySem PyProof PyProof.Rows
section
variable {X:Cx}
end
end L2
end
section
namespace L2
open PySem PyProof PyProof.Rows
section
variable {X:Cx}
theorem count_eqU {x:V}:∀ {xs:List V} {us:List Value},Vals xs us→xs.all flatV=true→us.countP (eqU x)=xs.countP fun y=>eqV y x
 | _,_,.nil,_=>rfl
 | y :: ys,u :: us,.cons r rs,h=>by
   rw [List.all_cons,Bool.and_eq_true] at h
   rw [List.countP_cons,List.countP_cons,count_eqU rs h.2,eqU_of r h.1]
noncomputable def rCount (K:PySem.W.Frag) (tup:Bool):V→List V→Hp→VK→Prop:=fun x vs H Q=>∃ t xs y,x=.ref t∧vs=[y]∧(if tup=true then SqT K H t xs else SqL K H t xs)∧flatV y=true∧xs.all flatV=true∧Q (.int (xs.countP fun z=>eqV z y:Nat)) H
theorem mt_countT:MtR X "tuple.count" (rCount X.K true):=by
 intro pins s σ H x xs v us Q I rx rs h
 obtain ⟨t,ys,y,rfl,rfl,ht,fy,fs,q⟩:=h
 cases rx
 obtain ⟨u,rfl,ru⟩:=vals1 rs
 obtain ⟨its,r,p1,_⟩:=I.tuple ht
 obtain ⟨⟨cls,dd,data,sl⟩,ho,hc,n,hd⟩:=id p1
 simp only at hc hd
 subst hc hd
 refine call_meets F.slot_tuple_count ⟨_,ho,rfl⟩ F.entry_tuple_count (F.args_tuple_count_2 _ _) (SeqAt.tuple_countAt t its.toArray n dd sl u (eqU y)) ⟨ho,fun w hw=>mem_eqAt ru fy r fs w (by simpa using hw),?_⟩
 rw [show its.toArray.toList=its from rfl,count_eqU r fs]
 exact ⟨.int _,H,I.tok _,⟨s.toks,rfl⟩,q⟩
theorem mt_countL:MtR X "list.count" (rCount X.K false):=by
 intro pins s σ H x xs v us Q I rx rs h
 obtain ⟨t,ys,y,rfl,rfl,ht,fy,fs,q⟩:=h
 cases rx
 obtain ⟨u,rfl,ru⟩:=vals1 rs
 obtain ⟨its,r,p1,_⟩:=I.list ht
 obtain ⟨⟨cls,dd,data,sl⟩,ho,hc,n,hd⟩:=id p1.isList
 simp only at hc hd
 subst hc hd
 refine call_meets F.slot_list_count ⟨_,ho,rfl⟩ F.entry_list_count (F.args_list_count_2 _ _) (SeqAt.list_countAt t its.toArray n dd sl u (eqU y)) ⟨ho,fun w hw=>mem_eqAt ru fy r fs w (by simpa using hw),?_⟩
 rw [show its.toArray.toList=its from rfl,count_eqU r fs]
 exact ⟨.int _,H,I.tok _,⟨s.toks,rfl⟩,q⟩
theorem count_ints (h:Int):∀ ns:List Int,((ns.map V.int).countP fun z=>eqV z (.int h))=ns.count h
 | []=>rfl
 | n :: ns=>by
   rw [List.map_cons,List.countP_cons,count_ints h ns,List.count_cons]
   rfl
theorem flat_ints:∀ ns:List Int,(ns.map V.int).all flatV=true
 | []=>rfl
 | n :: ns=>by rw [List.map_cons,List.all_cons,flat_ints ns]; rfl
noncomputable def minOr (d:Int):List Int→Int
 | []=>d
 | n :: ns=>ns.foldl (fun a b=>if b < a then b else a) n
theorem foldMin_le:∀ (ns:List Int) (a:Int),ns.foldl (fun a b=>if b < a then b else a) a≤a∧(∀ x∈ns,ns.foldl (fun a b=>if b < a then b else a) a≤x)∧(ns.foldl (fun a b=>if b < a then b else a) a=a ∨ ns.foldl (fun a b=>if b < a then b else a) a∈ns)
 | [],a=>⟨Int.le_refl _,fun _ h=>(nomatch h),.inl rfl⟩
 | n :: ns,a=>by
   obtain ⟨h1,h2,h3⟩:=foldMin_le ns (if n < a then n else a)
   show ns.foldl _ (if n < a then n else a)≤a∧_
   have hc:(if n < a then n else a)≤a∧(if n < a then n else a)≤n:=by split <;> omega
   refine ⟨Int.le_trans h1 hc.1,fun x hx=>?_,?_⟩
   . rcases List.mem_cons.mp hx with e | hx
     . rw [e]; exact Int.le_trans h1 hc.2
     . exact h2 x hx
   . rcases h3 with h3 | h3
     . show ns.foldl _ (if n < a then n else a)=a ∨ ns.foldl _ (if n < a then n else a)∈n :: ns
       rw [h3]
       split
       . exact .inr (List.mem_cons_self ..)
       . exact .inl rfl
     . exact .inr (List.mem_cons_of_mem _ h3)
theorem minOr_spec {d:Int} {ns:List Int} (h:ns≠[]):minOr d ns∈ns∧∀ x∈ns,minOr d ns≤x:=by
 cases ns with
 | nil=>exact absurd rfl h
 | cons n ns =>
   obtain ⟨h1,h2,h3⟩:=foldMin_le ns n
   refine ⟨?_,fun x hx=>?_⟩
   . rcases h3 with h3 | h3
     . show ns.foldl _ n∈_; rw [h3]; exact List.mem_cons_self ..
     . exact List.mem_cons_of_mem _ h3
   . rcases List.mem_cons.mp hx with e | hx
     . rw [e]; exact h1
     . exact h2 x hx
theorem minOr_eq {d M:Int} {ns:List Int} (h1:M∈ns) (h2:∀ x∈ns,M≤x):minOr d ns=M:=by
 have hne:ns≠[]:=fun e=>by rw [e] at h1; exact nomatch h1
 obtain ⟨a,b⟩:=minOr_spec (d:=d) hne
 exact Int.le_antisymm (b _ h1) (h2 _ a)
noncomputable def rBest (K:PySem.W.Frag) (g:List Int→Int):List V→Hp→VK→Prop:=fun xs H Q=>∃ (a:Addr) (ns:List Int),xs=[.ref a]∧SqL K H a (ns.map V.int)∧ns≠[]∧Q (.int (g ns)) H
theorem call_maxL (hc:X.calm=true):CallR X (.builtin "max") (rBest X.K (maxOr 0)):=by
 intro pins s σ H xs us Q I r h
 obtain ⟨a,ns,rfl,ha,hne,q⟩:=h
 obtain ⟨u,rfl,ru⟩:=vals1 r
 cases ru
 obtain ⟨its,rv,pl,hz⟩:=I.list ha
 have hlen:=rv.length
 have alt:a < s.heap.objs.size:=by obtain ⟨o,ho,_⟩:=pl.isList; exact Heap.lt_size ho
 have hl:its.toArray.size=ns.length:=by rw [List.size_toArray,← hlen,List.length_map]
 have hpos:0 < ns.length:=List.length_pos_iff.mpr hne
 have hat:∀ (i:Nat) (v:Value),its.toArray[i]?=some v→∃ t,v=.int (ns.getD i 0) t:=fun i v hv=>rv.ints (by simpa using hv)
 refine call_max_walk (wpAny_pyIter_list pl.isList ?_)
 refine ⟨s.heap.objs.size,_,_,_,_,_,_,rfl,Walks.list (A:=X.A.in1) (I.ok.hd hc) s.heap.objs.size a (Nat.ne_of_lt alt) its.toArray,⟨⟨_,Heap.get?_push_size _ rfl,rfl,rfl⟩,?_⟩,fun b hb=>?_,by omega,CmpOf.ints_gt (fun i=>ns.getD i 0) hat,fun v h' tk hP hk=>?_⟩
 . obtain ⟨o,ho,hc',n,hd⟩:=pl.isList
   exact ⟨o,Heap.get?_push_of_some _ ho,hc',n,hd⟩
 . rw [Heap.size_push]
   simp only [List.mem_cons,List.not_mem_nil,or_false] at hb
   rcases hb with e | e
   . rw [e]; exact Nat.lt_succ_self _
   . rw [e]; exact Nat.lt_succ_of_lt alt
 . obtain ⟨t,rfl⟩:=hat _ _ hP
   obtain ⟨b1,b2⟩:=argBest_gt (fun i=>ns.getD i 0) (its.toArray.size - 1)
   have e:maxOr 0 ns=ns.getD (argBest (fun i j=>decide (ns.getD i 0 > ns.getD j 0)) (its.toArray.size - 1)) 0:=by
     refine maxOr_eq ?_ fun x hx=>?_
     . have:argBest (fun i j=>decide (ns.getD i 0 > ns.getD j 0)) (its.toArray.size - 1) < ns.length:=by omega
       rw [List.getD_eq_getElem?_getD,List.getElem?_eq_getElem this]; exact List.getElem_mem this
     . obtain ⟨i,hi,rfl⟩:=List.getElem_of_mem hx
       have:=b2 i (by omega)
       simpa [List.getD_eq_getElem?_getD,List.getElem?_eq_getElem hi] using this
   refine ⟨.int (maxOr 0 ns),H,I.kept fun b o ho=>hk b o ?_ (Heap.get?_push_of_some _ ho),⟨t,by rw [e]⟩,q⟩
   simpa using Nat.ne_of_lt (Heap.lt_size ho)
theorem call_minL (hc:X.calm=true):CallR X (.builtin "min") (rBest X.K (minOr 0)):=by
 intro pins s σ H xs us Q I r h
 obtain ⟨a,ns,rfl,ha,hne,q⟩:=h
 obtain ⟨u,rfl,ru⟩:=vals1 r
 cases ru
 obtain ⟨its,rv,pl,hz⟩:=I.list ha
 have hlen:=rv.length
 have alt:a < s.heap.objs.size:=by obtain ⟨o,ho,_⟩:=pl.isList; exact Heap.lt_size ho
 have hl:its.toArray.size=ns.length:=by rw [List.size_toArray,← hlen,List.length_map]
 have hpos:0 < ns.length:=List.length_pos_iff.mpr hne
 have hat:∀ (i:Nat) (v:Value),its.toArray[i]?=some v→∃ t,v=.int (ns.getD i 0) t:=fun i v hv=>rv.ints (by simpa using hv)
 refine call_min_walk (wpAny_pyIter_list pl.isList ?_)
 refine ⟨s.heap.objs.size,_,_,_,_,_,_,rfl,Walks.list (A:=X.A.in1) (I.ok.hd hc) s.heap.objs.size a (Nat.ne_of_lt alt) its.toArray,⟨⟨_,Heap.get?_push_size _ rfl,rfl,rfl⟩,?_⟩,fun b hb=>?_,by omega,CmpOf.ints_lt (fun i=>ns.getD i 0) hat,fun v h' tk hP hk=>?_⟩
 . obtain ⟨o,ho,hc',n,hd⟩:=pl.isList
   exact ⟨o,Heap.get?_push_of_some _ ho,hc',n,hd⟩
 . rw [Heap.size_push]
   simp only [List.mem_cons,List.not_mem_nil,or_false] at hb
   rcases hb with e | e
   . rw [e]; exact Nat.lt_succ_self _
   . rw [e]; exact Nat.lt_succ_of_lt alt
 . obtain ⟨t,rfl⟩:=hat _ _ hP
   obtain ⟨b1,b2⟩:=argBest_lt (fun i=>ns.getD i 0) (its.toArray.size - 1)
   have e:minOr 0 ns=ns.getD (argBest (fun i j=>decide (ns.getD i 0 < ns.getD j 0)) (its.toArray.size - 1)) 0:=by
     refine minOr_eq ?_ fun x hx=>?_
     . have:argBest (fun i j=>decide (ns.getD i 0 < ns.getD j 0)) (its.toArray.size - 1) < ns.length:=by omega
       rw [List.getD_eq_getElem?_getD,List.getElem?_eq_getElem this]; exact List.getElem_mem this
     . obtain ⟨i,hi,rfl⟩:=List.getElem_of_mem hx
       have:=b2 i (by omega)
       simpa [List.getD_eq_getElem?_getD,List.getElem?_eq_getElem hi] using this
   refine ⟨.int (minOr 0 ns),H,I.kept fun b o ho=>hk b o ?_ (Heap.get?_push_of_some _ ho),⟨t,by rw [e]⟩,q⟩
   simpa using Nat.ne_of_lt (Heap.lt_size ho)
theorem pe_append {o e:Expr} {to te:TE} {apos cpos:Pos} {es:List Expr} (ho:PE X o to) (he:PE X e te) (hbase:attributeBase o "append" X.env (eval o X.env)=eval o X.env:=by rfl) (hst:noStar e=true:=by rfl) (hline:(apos.endLine == cpos.line)=true:=by rfl) :
   PE X (.Call (.Attribute o "append" apos) [e] [] cpos) (tBM X.K "list" rAppend to (tCons te tNil)):=by
 have hs1:starEach [e] X.env=(false,eval e X.env) :: starEach [] X.env:=star_cons hst
 refine pe_bm PySem.F.plainAttrs_list PySem.F.slot_list_append PySem.F.type_list_append mt_append ho (pac he pa_nil hst) hbase ?_ hline hs1 rfl
 rw [hs1]; rfl
theorem pe_countL {o e:Expr} {to te:TE} {apos cpos:Pos} (ho:PE X o to) (he:PE X e te) (hbase:attributeBase o "count" X.env (eval o X.env)=eval o X.env:=by rfl) (hst:noStar e=true:=by rfl) (hline:(apos.endLine == cpos.line)=true:=by rfl) :
   PE X (.Call (.Attribute o "count" apos) [e] [] cpos) (tBM X.K "list" (rCount X.K false) to (tCons te tNil)):=by
 have hs1:starEach [e] X.env=(false,eval e X.env) :: starEach [] X.env:=star_cons hst
 refine pe_bm PySem.F.plainAttrs_list PySem.F.slot_list_count PySem.F.type_list_count mt_countL ho (pac he pa_nil hst) hbase ?_ hline hs1 rfl
 rw [hs1]; rfl
noncomputable def tBMT (r:V→List V→Hp→VK→Prop) (to:TE) (t:TA):TE:=fun σ H Q=>to σ H fun x H1=>(∃ a xs,x=.ref a∧H1 a=some (.tup xs))∧t σ H1 fun xs H2=>r x xs H2 Q
theorem pe_countT {o e:Expr} {to te:TE} {apos cpos:Pos} (ho:PE X o to) (he:PE X e te) (hbase:attributeBase o "count" X.env (eval o X.env)=eval o X.env:=by rfl) (hst:noStar e=true:=by rfl) (hline:(apos.endLine == cpos.line)=true:=by rfl) :
   PE X (.Call (.Attribute o "count" apos) [e] [] cpos) (tBMT (rCount X.K true) to (tCons te tNil)):=by
 have hs1:starEach [e] X.env=(false,eval e X.env) :: starEach [] X.env:=star_cons hst
 intro pins s σ H Q I h
 refine wpAny_Call_method_late hbase (by rw [hs1]; rfl) hline rfl (thn (ho pins s σ H _ I h) fun v s1 ⟨x,H1,I1,r1,ty,q1⟩=>?_)
 obtain ⟨a,xs,rfl,hx⟩:=ty
 cases r1
 obtain ⟨z,its,rv,ob,e1,c1,n,d1,nd⟩:=(show ObjOk X.prog X.w H1 s1.heap a (.tup xs) from I1.hok a _ hx)
 refine ⟨"tuple",_,PySem.F.plainAttrs_tuple,PySem.F.slot_tuple_count,PySem.F.type_tuple_count,⟨ob,e1,c1⟩,fun b hb=>?_,?_⟩
 . cases hb; exact ⟨ob,e1,nd⟩
 have hA:=(pac he pa_nil hst:PA X [e] _) cpos pins s1 σ H1 _ I1 q1
 rw [hs1] at hA ⊢
 refine Calls.callWith_builtin rfl (Calls.evalArgs_plain ?_)
 exact thn hA fun us s2 ⟨vs,H2,I2,r2,q2⟩=>mt_countT pins s2 σ H2 (.ref a) vs _ us Q I2 rfl r2 q2
end
end L2
namespace L2
open PySem
end L2
namespace L2
open PySem
end L2
end
section
namespace L2
open PySem PySem.W PyProof PyProof.Rows
section
variable {key:Nat→Int} {n:Nat}
end
end L2
end
section
namespace L2
open PySem PySem.W PySem.Calls PyProof PyProof.Rows
noncomputable def PrAt (K:PySem.W.Frag) (H:Hp) (ys:List V) (zs:List (Int × Int)):Prop:=ys.length=zs.length∧∀ (i:Nat) (z:Int × Int),zs[i]?=some z→∃ b,ys[i]?=some (V.ref b)∧SqT K H b [.int z.1,.int z.2]
noncomputable def code2 (z:Int × Int):Int:=z.1 * 1000 + z.2
theorem code2_lt {a b:Int × Int} (ha:0≤a.2∧a.2 < 1000) (hb:0≤b.2∧b.2 < 1000):code2 a < code2 b↔a.1 < b.1 ∨ a.1=b.1∧a.2 < b.2:=by
 unfold code2; omega
theorem code2_inj {a b:Int × Int} (ha:0≤a.2∧a.2 < 1000) (hb:0≤b.2∧b.2 < 1000) (e:code2 a=code2 b):a=b:=by
 unfold code2 at e
 have h1:a.1=b.1:=by omega
 have h2:a.2=b.2:=by omega
 exact Prod.ext h1 h2
section
variable {prog:Program} {w:World} {A:Around} {E:Value→Shared→Prop} {s:Shared}
end
end L2
end
section
namespace L2
open PySem PySem.W PySem.Calls PyProof PyProof.Rows
section
variable {prog:Program} {w:World} {A:Around} {E:Value→Shared→Prop} {s:Shared}
theorem sorted_short {l:Addr} {vs:List Value} {Q:Value→Shared→Prop} (hl:s.heap.IsList l vs.toArray) (h2:vs.length < 2)
   (h:∀ (h':Heap) (c:Nat),(∀ b o,s.heap.get? b=some o→h'.get? b=some o)→h'.get? (s.heap.objs.size + 1)=some (seqObj "list" vs.toArray c)→Q (.ref (s.heap.objs.size + 1)) { s with heap:=h' }) :
   wpAny (model prog w) A (call (.builtin "sorted") [.ref l]) Q E s:=by
 refine Calls.call_function_entry kind_sorted plain_sorted entry_sorted (args_sorted1 _) ?_
 unfold Builtin.«sorted»
 refine wpAny_bind (m:=checkCount "sorted" 1 1 _) (wpAny_pure ?_)
 refine wpAny_bind (collect_list hl ?_ (by rw [sizeLine_eq]; omega))
 refine wpAny_bind (wpAny_newList ?_ (by rw [sizeLine_eq]; omega))
 have hsz:((s.heap.push (seqObj "list" #[] 0)).update s.heap.objs.size (Obj.mapSeq (·++vs.toArray))).objs.size=s.heap.objs.size + 1:=by
   rw [Heap.size_update,size_push']
 have hoL:(((s.heap.push (seqObj "list" #[] 0)).update s.heap.objs.size (Obj.mapSeq (·++vs.toArray))).push (seqObj "list" vs.toArray 0)).get? (s.heap.objs.size + 1)=some (seqObj "list" vs.toArray 0):=by
   rw [←hsz]; exact Heap.get?_push_size _ rfl
 have keep:∀ b o,s.heap.get? b=some o→(((s.heap.push (seqObj "list" #[] 0)).update s.heap.objs.size (Obj.mapSeq (·++vs.toArray))).push (seqObj "list" vs.toArray 0)).get? b=some o:=fun b o q=>by
   have hlt:b < s.heap.objs.size:=Heap.lt_size q
   rw [Heap.get?_push_ne _ _ _ (by rw [hsz]; exact Nat.ne_of_lt (Nat.lt_succ_of_lt hlt)),Heap.get?_update_ne _ _ _ _ (Nat.ne_of_lt hlt),Heap.get?_push_ne _ _ _ (Nat.ne_of_lt hlt)]
   exact q
 show wpAny _ _ _ _ _ { s with heap:=((s.heap.push (seqObj "list" #[] 0)).update s.heap.objs.size (Obj.mapSeq (·++vs.toArray))).push (seqObj "list" vs.toArray 0) }
 rw [hsz]
 generalize hg:((s.heap.push (seqObj "list" #[] 0)).update s.heap.objs.size (Obj.mapSeq (·++vs.toArray))).push (seqObj "list" vs.toArray 0)=g at hoL keep ⊢
 refine wpAny_bind (wpAny_holding (wpAny_call_entry slot_list_sort ⟨_,hoL,rfl⟩ entry_list_sort ?body (args_list_sort _)))
 case body =>
   have ha:s.heap.objs.size + 1 < g.objs.size:=Heap.lt_size hoL
   rw [list_sort_plain]
   refine wpAny_bind (listItems_at hoL rfl ?_)
   refine wpAny_bind (listUpdate_at hoL rfl ?_ (by rw [List.size_toArray,sizeLine_eq]; omega) (Nat.zero_le _))
   obtain ⟨e1,ho1⟩:∃ e1,(g.update (s.heap.objs.size + 1) (Obj.mapSeq fun _=>(#[]:Array Value))).get? (s.heap.objs.size + 1)=some (seqObj "list" #[] e1):=⟨_,get?_update_seq hoL fun _=>#[]⟩
   refine wpAny_bind (seqEpoch_at ho1 rfl ?_)
   refine wpAny_bind (wpAny_newTuple ?_ (by show vs.length≤_; rw [sizeLine_eq]; omega))
   refine wpAny_bind (wpAny_newList ?_ (Nat.zero_le _))
   refine wpAny_holding ?_
   have ho6:(((g.update (s.heap.objs.size + 1) (Obj.mapSeq fun _=>(#[]:Array Value))).push (seqObj "tuple" vs.toArray 0)).push (seqObj "list" #[] 0)).get? (s.heap.objs.size + 1)=some (seqObj "list" #[] e1):=
     Heap.get?_push_of_some _ (Heap.get?_push_of_some _ ho1)
   show wpAny (model prog w) _ _ _ _ { s with heap:=((g.update (s.heap.objs.size + 1) (Obj.mapSeq fun _=>(#[]:Array Value))).push (seqObj "tuple" vs.toArray 0)).push (seqObj "list" #[] 0) }
   dsimp only
   have h2':vs.toArray.size < 2:=by rw [List.size_toArray]; exact h2
   rw [if_pos h2',if_pos h2']
   refine wpAny_bind (wpAny_pure ?_)
   rw [StateT.run_pure]
   refine wpAny_bind (wpAny_pure ?_)
   dsimp only
   refine wpAny_bind (seqEpoch_at ho6 rfl ?_)
   have hout:(arrOf (SortSt.mk' general' (vs.toArray.zip vs.toArray) #[] 7 none)).map (·.2)=vs.toArray:=by
     show (vs.toArray.zip vs.toArray).map (·.2)=vs.toArray
     apply Array.toList_inj.mp
     simp [List.map_snd_zip]
   rw [hout]
   refine wpAny_bind (listUpdate_at ho6 rfl ?_ (Nat.zero_le _) (by rw [List.size_toArray,sizeLine_eq]; omega))
   simp only [bne_self_eq_false,Bool.false_eq_true,if_false]
   refine wpAny_pure ⟨_,rfl,wpAny_pure ⟨_,rfl,?_⟩⟩
   have hc:=get?_update_seq ho6 fun _=>vs.toArray
   refine h _ _ (fun b o e=>?_) hc
   have hlt:b < s.heap.objs.size:=Heap.lt_size e
   have hb:b≠s.heap.objs.size + 1:=Nat.ne_of_lt (Nat.lt_succ_of_lt hlt)
   rw [Heap.get?_update_ne _ _ _ _ hb]
   refine Heap.get?_push_of_some _ (Heap.get?_push_of_some _ ?_)
   rw [Heap.get?_update_ne _ _ _ _ hb]
   exact keep b o e
end
section
variable {P:Program} {w:World} {H:Hp} {h:Heap} {a:Addr} {o:HO}
theorem ObjOk.got (x:ObjOk P w H h a o):∃ u,h.get? a=some u:=by
 cases o with
 | lst xs=>obtain ⟨_,_,_,_,e⟩:=x; exact ⟨_,e⟩
 | tup xs=>obtain ⟨_,_,_,_,e,_⟩:=x; exact ⟨_,e⟩
 | dK kvs=>obtain ⟨_,_,_,_,o,_,_,e,_⟩:=x; exact ⟨_,e⟩
 | dT kvs=>obtain ⟨_,_,_,_,o,_,_,e,_⟩:=x; exact ⟨_,e⟩
 | set S n=>obtain ⟨o,_,_,_,e,_⟩:=x; exact ⟨_,e⟩
 | ins C dx fs=>obtain ⟨_,_,_,e,_⟩:=x; exact ⟨_,e⟩
 | own y=>exact x
 | xd fs=>obtain ⟨_,⟨_,_,_,e,_⟩,_⟩:=x; exact ⟨_,e⟩
 | rng lo hi=>obtain ⟨_,_,_,e⟩:=x; exact ⟨_,e⟩
 | frz ob u=>obtain ⟨e,_⟩:=x; exact ⟨_,e⟩
 | tbl ps=>exact ⟨_,x⟩
 | met f y=>exact ⟨_,x⟩
 | ext φ=>exact x.2.1
end
end L2
end
section
namespace L2
open PySem PySem.W PySem.Calls PyProof PyProof.Rows
theorem vals_pick {ys:List V} {its:List Value} (r:Vals ys its):∀ (l:List Nat),(∀ i∈l,i < ys.length)→Vals (l.map fun i=>ys.getD i .non) (l.map fun i=>its.getD i Value.none)
 | [],_=>.nil
 | i :: l,h=>by
   have hi:i < ys.length:=h i (.head _)
   obtain ⟨u,e,ru⟩:=r.get (i:=i) (x:=ys[i]) (by simp [hi])
   refine .cons ?_ (vals_pick r l fun j hj=>h j (.tail _ hj))
   show RelV (ys.getD i .non) (its.getD i Value.none)
   rw [List.getD_eq_getElem?_getD,List.getD_eq_getElem?_getD,e]
   simp only [List.getElem?_eq_getElem hi,Option.getD_some]
   exact ru
section
variable {X:Cx} {pins:List (Addr × Obj)} {σ:St} {H:Hp} {s:Shared}
theorem pick_perm {α:Type} (d:α) {zs:List α} {l:List Nat} (h:l.Perm (List.range zs.length)):(l.map fun i=>zs.getD i d).Perm zs:=by
 have e:(List.range zs.length).map (fun i=>zs.getD i d)=zs:=by
   apply List.ext_getElem
   . simp
   . intro i h1 h2
     simp [List.getElem?_eq_getElem h2]
 exact (h.map _).trans (.of_eq e)
theorem Inv.beside {D:Addr} {ys:List V} {its:List Value} {c:Nat} {h':Heap} (I:Inv X pins σ H s) (hz:ys.length≤sizeLine) (r:Vals ys its) (hD:s.heap.get? D=none) (keep:∀ b o,b≠X.env.locals→s.heap.get? b=some o→h'.get? b=some o)
   (ns:∀ m,s.heap.Ns X.env.locals m→h'.Ns X.env.locals m) (e:h'.get? D=some { cls:=.type "list",data:=.seq its.toArray c }):H D=none∧Inv X pins σ (upd H D (.lst ys)) { s with heap:=h' }:=by
 have hn:H D=none:=by
   cases q:H D with
   | none=>rfl
   | some o =>
     obtain ⟨u,hu⟩:=ObjOk.got (I.hok D o q)
     rw [hD] at hu; cases hu
 have ne:∀ b o,H b=some o→b≠D:=fun b o q z=>by rw [z,hn] at q; cases q
 have neo:∀ b o,s.heap.get? b=some o→b≠D:=fun b o q z=>by rw [z,hD] at q; cases q
 refine ⟨hn,I.step (g':=s.gens) (d':=s.drawn) (t':=s.toks) (ch:=[]) (fun _ z=>nomatch z) (fun b o hL _ _ q _=>keep b o hL q) (fun b o hL _ _ q _=>⟨o.slots,keep b o hL q⟩) (fun b o _ q n=>?_) (fun b o _ q=>?_) (fun b xs q=>?_) (fun b o u q=>?_) (fun b ps q=>?_) ns (fun b o q=>?_) I.bare⟩
 . rw [upd_ne (neo b o q)]; exact n
 . by_cases hb:b=X.env.locals
   . subst hb
     obtain ⟨m,hm,_⟩:=I.loc
     obtain ⟨o',_,_,ho',_⟩:=ns m hm
     exact ⟨o',ho'⟩
   . exact ⟨o,keep b o hb q⟩
 . rw [upd_ne (ne b _ q)]; exact q
 . rw [upd_ne (ne b _ q)]; exact q
 . exact ⟨#[],by rw [upd_ne (ne b _ q),q]; simp⟩
 . by_cases hb:b=D
   . subst hb
     rw [upd_same] at q
     cases q
     exact ⟨hz,its,c,r,e⟩
   . rw [upd_ne hb] at q
     refine (I.hok b o q).stay (fun x u hx hu=>keep x u ?_ hu) (fun x hx=>by rw [upd_ne (ne x _ hx)]; exact hx) (fun x xs hx=>by rw [upd_ne (ne x _ hx)]; exact hx)
     rcases hx with rfl | hx
     . intro z; rw [z,I.free] at q; cases q
     . intro z; rw [z,I.free] at hx; cases hx
end
end L2
end
section
namespace L2
open PySem PySem.W PySem.Calls PyProof PyProof.Rows Att
theorem pickN_all {α:Type} {zs:List α} (d:α):(List.range zs.length).map (fun i=>zs.getD i d)=zs:=by
 apply List.ext_getElem
 . simp
 . intro i h1 h2
   simp [List.getElem?_eq_getElem h2]
theorem rising_ext:∀ {l l':List (Int × Int)},l.Pairwise (fun a b=>code2 a < code2 b)→l'.Pairwise (fun a b=>code2 a < code2 b)→(∀ x,x∈l↔x∈l')→l=l'
 | [],[],_,_,_=>rfl
 | [],y :: t',_,_,h=>by have:=(h y).mpr (.head _); cases this
 | x :: t,[],_,_,h=>by have:=(h x).mp (.head _); cases this
 | x :: t,y :: t',h1,h2,h=>by
   rw [List.pairwise_cons] at h1 h2
   have exy:x=y:=by
     rcases List.mem_cons.mp ((h x).mp (.head _)) with e | m
     . exact e
     . rcases List.mem_cons.mp ((h y).mpr (.head _)) with e | m'
       . exact e.symm
       . have a:=h2.1 x m
         have b:=h1.1 y m'
         omega
   subst exy
   congr 1
   refine rising_ext h1.2 h2.2 fun a=>⟨fun m=>?_,fun m=>?_⟩
   . rcases List.mem_cons.mp ((h a).mp (.tail _ m)) with e | m'
     . have:=h1.1 a m
       rw [e] at this; omega
     . exact m'
   . rcases List.mem_cons.mp ((h a).mpr (.tail _ m)) with e | m'
     . have:=h2.1 a m
       rw [e] at this; omega
     . exact m'
end L2
end
section
namespace L2
open PySem PySem.W PySem.Calls PyProof PyProof.Rows
section
variable {prog:Program} {w:World} {A:Around} {E:Value→Shared→Prop} {κ:SortKind} {it:Array Keyed} {s:Shared}
end
noncomputable def lexN:List Int→List Int→Bool
 | x :: xs,y :: ys=>if x=y then lexN xs ys else decide (x < y)
 | _,_=>false
inductive IntVs:List Value→List Int→Prop
 | nil:IntVs [] []
 | cons {i:Int} {t:Tok} {us:List Value} {ns:List Int}:IntVs us ns→IntVs (.int i t :: us) (i :: ns)
theorem intVs:∀ {ns:List Int} {us:List Value},Vals (ns.map V.int) us→IntVs us ns
 | [],_,.nil=>.nil
 | n :: ns,_,.cons r rs=>by
   obtain ⟨t,rfl⟩:=(show ∃ t,_=Value.int n t from r)
   exact .cons (intVs rs)
section
variable {prog:Program} {w:World} {A:Around} {E:Value→Shared→Prop} {s:Shared}
end
noncomputable def TsAt (K:PySem.W.Frag) (H:Hp) (ys:List V) (zs:List (List Int)):Prop:=ys.length=zs.length∧∀ (i:Nat) (z:List Int),zs[i]?=some z→∃ b,ys[i]?=some (V.ref b)∧SqT K H b (z.map V.int)
noncomputable def TV (h:Heap) (its:List Value) (zs:List (List Int)):Prop:=
 its.length=zs.length∧∀ (i:Nat) (z:List Int),zs[i]?=some z→∃ b o n us,its[i]?=some (Value.ref b)∧h.get? b=some o∧o.cls=.type "tuple"∧o.data=.seq (List.toArray us) n∧IntVs us z
theorem TsAt.tv {X:Cx} {pins:List (Addr × Obj)} {σ:St} {H:Hp} {s:Shared} (I:Inv X pins σ H s) {ys:List V} {its:List Value} {zs:List (List Int)} (h:TsAt X.K H ys zs) (r:Vals ys its):TV s.heap its zs:=by
 refine ⟨by rw [←r.length]; exact h.1,fun i z e=>?_⟩
 obtain ⟨b,e1,e2⟩:=h.2 i z e
 obtain ⟨u,e3,ru⟩:=r.get e1
 obtain ⟨us,rt,⟨o,ho,hc,n,hd⟩,_⟩:=I.tuple e2
 have ru':u=Value.ref b:=ru
 subst ru'
 exact ⟨b,o,n,us,e3,ho,hc,hd,intVs rt⟩
theorem TV.tups {h:Heap}:∀ {its:List Value} {zs:List (List Int)},TV h its zs→(∀ z∈zs,z≠[])→∃ fs,KatTups h its fs∧fs.length=its.length∧∀ v∈fs,∃ i t,v=Value.int i t
 | [],[],_,_=>⟨[],KatTups.nil,rfl,fun _ x=>nomatch x⟩
 | [],_ :: _,⟨l,_⟩,_=>by cases l
 | _ :: _,[],⟨l,_⟩,_=>by cases l
 | v :: its,z :: zs,⟨l,f⟩,hn=>by
   obtain ⟨b,o,n,us,e,ho,hc,hd,iv⟩:=f 0 z rfl
   have e':v=Value.ref b:=by simpa using e
   subst e'
   obtain ⟨fs,k,kl,ki⟩:=TV.tups (h:=h) (its:=its) (zs:=zs) ⟨by simpa using l,fun i z' e=>by simpa using f (i + 1) z' (by simpa using e)⟩ fun z' hz=>hn z' (.tail _ hz)
   cases iv with
   | nil=>exact absurd rfl (hn [] (.head _))
   | @cons i t us ns r =>
     refine ⟨Value.int i t :: fs,KatTups.cons ho hc hd (by simp) k,by simp [kl],fun v hv=>?_⟩
     rcases List.mem_cons.mp hv with rfl | hv
     . exact ⟨_,_,rfl⟩
     . exact ki v hv
theorem intVs_len {us:List Value} {ns:List Int} (h:IntVs us ns):us.length=ns.length:=by
 induction h with
 | nil=>rfl
 | cons _ ih=>simp [ih]
end L2
end
section
namespace L2.Tim
open PySem PySem.W PySem.Calls PyProof PyProof.Rows
section
variable {prog:Program} {w:World} {A:Around} {E:Value→Shared→Prop} {s:Shared} {κ:SortKind} {a₀:Array Keyed} {key:Keyed→Int}
noncomputable def kk (key:Keyed→Int) (a:Array Keyed) (i:Nat):Int:=key (a.getD i (Value.none,Value.none))
noncomputable def SIn (key:Keyed→Int) (a:Array Keyed) (lo n:Nat):Prop:=∀ i j,i≤j→j < n→kk key a (lo + i)≤kk key a (lo + j)
noncomputable def NIn (key:Keyed→Int) (a:Array Keyed) (lo n:Nat):Prop:=∀ i j,i≤j→j < n→kk key a (lo + j)≤kk key a (lo + i)
noncomputable def Pre (lo:Nat) (a b:Array Keyed):Prop:=∀ i,i < lo→b[i]?=a[i]?
theorem Pre.refl {lo:Nat} {a:Array Keyed}:Pre lo a a:=fun _ _=>rfl
theorem Pre.trans {lo:Nat} {a b c:Array Keyed} (h:Pre lo a b) (k:Pre lo b c):Pre lo a c:=fun i hi=>(k i hi).trans (h i hi)
structure Bs (κ:SortKind) (a₀:Array Keyed) (st:SortSt):Prop where
 kind:kindOf st=κ
 perm:(arrOf st).Perm a₀
 fail:failedOf st=none
theorem Bs.size {st:SortSt} (h:Bs κ a₀ st):(arrOf st).size=a₀.size:=h.perm.size_eq
theorem Bs.set {st:SortSt} {xs:Array Keyed} (h:Bs κ a₀ st) (hp:xs.Perm (arrOf st)):Bs κ a₀ (setArr st xs):=⟨h.kind,hp.trans h.perm,h.fail⟩
noncomputable def LtOk (prog:Program) (w:World) (A:Around) (E:Value→Shared→Prop) (s:Shared) (κ:SortKind) (a₀:Array Keyed) (key:Keyed→Int):Prop:=
 ∀ (x y:Keyed) (st:SortSt) (Q:Option Bool→SortSt→Prop),x∈a₀.toList→y∈a₀.toList→kindOf st=κ→Q (some (decide (key x < key y))) st→wpS (model prog w) A E s (lt' x y) Q st
theorem kk_congr {a b:Array Keyed} {i j:Nat} (h:a[i]?=b[j]?):kk key a i=kk key b j:=by
 unfold kk; rw [Array.getD_eq_getD_getElem?,Array.getD_eq_getD_getElem?,h]
theorem Bs.at {st:SortSt} (h:Bs κ a₀ st) {i:Nat} (hi:i < a₀.size):∃ x,(arrOf st)[i]?=some x∧x∈a₀.toList∧kk key (arrOf st) i=key x:=by
 have hi':i < (arrOf st).size:=by rw [h.size]; exact hi
 refine ⟨(arrOf st)[i],by simp [hi'],?_,?_⟩
 . exact (Array.perm_iff_toList_perm.mp h.perm).mem_iff.mp (by simp)
 . unfold kk; simp [Array.getD,hi']
theorem wp_elem {arr:Array Keyed} {i:Nat} {x:Keyed} {st:SortSt} {Q:Keyed→SortSt→Prop} (h:arr[i]?=some x) (q:Q x st):wpS (model prog w) A E s (elem' arr i) Q st:=by
 rw [elem'_eq,h]; exact wpS_pure q
theorem wp_lt (L:LtOk prog w A E s κ a₀ key) {st:SortSt} {i j:Nat} {Q:Option Bool→SortSt→Prop} (hB:Bs κ a₀ st) (hi:i < a₀.size) (hj:j < a₀.size)
   (h:Q (some (decide (kk key (arrOf st) i < kk key (arrOf st) j))) st):wpS (model prog w) A E s (ltAt' i j) Q st:=by
 obtain ⟨x,e1,m1,k1⟩:=hB.at (key:=key) hi
 obtain ⟨y,e2,m2,k2⟩:=hB.at (key:=key) hj
 rw [ltAt'_eq]
 refine wpS_bind (wpS_get ?_)
 refine wpS_bind (wp_elem e1 (wpS_bind (wp_elem e2 ?_)))
 rw [k1,k2] at h
 exact L x y st Q m1 m2 hB.kind h
theorem kk_mirror {xs:Array Keyed} {i j:Nat} (hj:j≤xs.size) (k:Nat):kk key (mirror xs i j ((j - i) / 2)) k=if i≤k∧k < j then kk key xs (i + j - 1 - k) else kk key xs k:=by
 have e:=getElem?_mirror_all (i:=i) hj k
 by_cases h1:i≤k∧k < j
 . rw [if_pos h1] at e ⊢; exact kk_congr e
 . rw [if_neg h1] at e ⊢; exact kk_congr e
theorem pre_mirror {xs:Array Keyed} {lo i j:Nat} (hj:j≤xs.size) (hi:lo≤i):Pre lo xs (mirror xs i j ((j - i) / 2)):=fun k hk=>by
 rw [getElem?_mirror_all (i:=i) hj k,if_neg (by omega)]
theorem kk_bubble {xs:Array Keyed} {src d:Nat} (hs:src < xs.size) (hd:d≤src) (k:Nat):kk key (bubble xs src d) k=if k=src - d then kk key xs src else if src - d < k∧k≤src then kk key xs (k - 1) else kk key xs k:=by
 have e:=getElem?_bubble hs d hd k
 by_cases h1:k=src - d
 . rw [if_pos h1] at e ⊢; exact kk_congr e
 . rw [if_neg h1] at e ⊢
   by_cases h2:src - d < k∧k≤src
   . rw [if_pos h2] at e ⊢; exact kk_congr e
   . rw [if_neg h2] at e ⊢; exact kk_congr e
theorem wp_rev {st:SortSt} {i j:Nat} {Q:Unit→SortSt→Prop} (h:Q () (setArr st (mirror (arrOf st) i j ((j - i) / 2)))):wpS (model prog w) A E s (reverseSlice' i j) Q st:=by
 rw [reverseSlice'_eq]; exact wpS_modify h
theorem wp_bin (L:LtOk prog w A E s κ a₀ key) {st:SortSt} {lo n ok:Nat} {Q:Bool→SortSt→Prop} (hn:lo + n≤a₀.size) (hok:ok≤n) (hB:Bs κ a₀ st) (hs:SIn key (arrOf st) lo ok)
   (h:∀ st',Bs κ a₀ st'→Pre lo (arrOf st) (arrOf st')→pendingOf st'=pendingOf st→SIn key (arrOf st') lo n→Q true st'):wpS (model prog w) A E s (binarySort' lo n ok) Q st:=by
 rw [binarySort'_eq]
 refine wpS_bind (wpS_mono (wpS_forRange (I:=fun k c st'=>c=(none,())∧Bs κ a₀ st'∧Pre lo (arrOf st) (arrOf st')∧pendingOf st'=pendingOf st∧SIn key (arrOf st') lo (min k n))
   (Q:=fun c st'=>c=(none,())∧Bs κ a₀ st'∧Pre lo (arrOf st) (arrOf st')∧pendingOf st'=pendingOf st∧SIn key (arrOf st') lo n) ?step ?fin ?init) ?post)
 case post =>
   rintro c st' ⟨rfl,hB',hp,hpe,hs'⟩
   exact wpS_pure (h st' hB' hp hpe hs')
 case init =>
   refine ⟨rfl,hB,.refl,rfl,fun i j hij hj=>?_⟩
   by_cases h1:ok=0
   . have:i=j:=by omega
     subst this; exact Int.le_refl _
   . exact hs i j hij (by omega)
 case fin =>
   rintro c st' ⟨hc,hB',hp,hpe,hs'⟩
   refine ⟨hc,hB',hp,hpe,?_⟩
   rwa [show min (max (max ok 1) n) n=n by omega] at hs'
 case step =>
   rintro k c st' hak hkn ⟨rfl,hB',hp,hpe,hs'⟩
   rw [show min k n=k by omega] at hs'
   have hk:lo + k < a₀.size:=by omega
   refine wpS_bind (wpS_mono (wpS_forRange (I:=fun x c st''=>st''=st'∧∃ l r,c=(none,l,r)∧l≤r∧r≤k∧r - l≤k - x ∧
       (∀ i,i < l→kk key (arrOf st') (lo + i)≤kk key (arrOf st') (lo + k))∧(∀ i,r≤i→i < k→kk key (arrOf st') (lo + k) < kk key (arrOf st') (lo + i)))
     (Q:=fun c st''=>st''=st'∧∃ l r,c=(none,l,r)∧l≤k ∧
       (∀ i,i < l→kk key (arrOf st') (lo + i)≤kk key (arrOf st') (lo + k))∧(∀ i,l≤i→i < k→kk key (arrOf st') (lo + k) < kk key (arrOf st') (lo + i))) ?istep ?ifin ?iinit) ?ipost)
   case iinit=>exact ⟨rfl,0,k,rfl,by omega,by omega,by omega,fun i hi=>by omega,fun i h1 h2=>by omega⟩
   case ifin =>
     rintro c st'' ⟨rfl,l,r,rfl,hlr,hrk,hm,hlo,hhi⟩
     have:l=r:=by omega
     subst this
     exact ⟨rfl,l,l,rfl,hrk,hlo,hhi⟩
   case istep =>
     rintro x c st'' _ hxk ⟨rfl,l,r,rfl,hlr,hrk,hm,hlo,hhi⟩
     dsimp only
     by_cases hge:l ≥ r
     . rw [if_pos hge]
       have:l=r:=by omega
       subst this
       exact wpS_pure ⟨rfl,l,l,rfl,hrk,hlo,hhi⟩
     . rw [if_neg hge]
       refine wpS_bind (wp_lt L hB' hk (by omega) ?_)
       by_cases hless:kk key (arrOf st'') (lo + k) < kk key (arrOf st'') (lo + (l + r) / 2)
       . simp only [hless,decide_true,if_true]
         refine wpS_pure ⟨rfl,l,(l + r) / 2,rfl,by omega,by omega,by omega,hlo,fun i h1 h2=>?_⟩
         exact Int.lt_of_lt_of_le hless (hs' _ _ h1 h2)
       . simp only [hless,decide_false,Bool.false_eq_true,if_false]
         refine wpS_pure ⟨rfl,(l + r) / 2 + 1,r,rfl,by omega,by omega,by omega,fun i h1=>?_,hhi⟩
         exact Int.le_trans (hs' i ((l + r) / 2) (by omega) (by omega)) (Int.not_lt.mp hless)
   case ipost =>
     rintro c st'' ⟨rfl,l,r,rfl,hlk,hlo,hhi⟩
     show wpS _ _ _ _ (do moveDown' (lo + k) (lo + l); pure (ForInStep.yield (none,()))) _ _
     rw [moveDown'_eq]
     have hks:lo + k < (arrOf st'').size:=by rw [hB'.size]; exact hk
     refine wpS_bind (wpS_modify (wpS_pure ⟨rfl,hB'.set (bubble_perm _ _ _),hp.trans fun i hi=>?_,hpe,?_⟩))
     . show (bubble (arrOf st'') (lo + k) (lo + k - (lo + l)))[i]?=_
       rw [getElem?_bubble hks _ (by omega),if_neg (by omega),if_neg (by omega)]
     rw [show min (k + 1) n=k + 1 by omega]
     intro i j hij hj
     show kk key (bubble (arrOf st'') (lo + k) (lo + k - (lo + l))) (lo + i)≤kk key (bubble (arrOf st'') (lo + k) (lo + k - (lo + l))) (lo + j)
     rw [kk_bubble hks (by omega),kk_bubble hks (by omega),show lo + k - (lo + k - (lo + l))=lo + l by omega]
     have e1:lo + i - 1=lo + (i - 1) ∨ i=0:=by omega
     have e2:lo + j - 1=lo + (j - 1) ∨ j=0:=by omega
     repeat' split
     all_goals first
       | (exfalso; omega)
       | exact Int.le_refl _
       | (rcases e1 with e1 | e1 <;> rcases e2 with e2 | e2 <;> first | (exfalso; omega) | (simp only [e1,e2]; first | exact Int.le_refl _ | exact hlo _ (by omega) | exact Int.le_of_lt (hhi _ (by omega) (by omega)) | exact hs' _ _ (by omega) (by omega)))
       | exact hlo _ (by omega)
       | exact Int.le_of_lt (hhi _ (by omega) (by omega))
       | exact hs' _ _ (by omega) (by omega)
end
end L2.Tim
end
section
namespace L2.Tim
open PySem PySem.W PySem.Calls PyProof PyProof.Rows
section
variable {prog:Program} {w:World} {A:Around} {E:Value→Shared→Prop} {s:Shared} {κ:SortKind} {a₀:Array Keyed} {key:Keyed→Int}
noncomputable def Dis (key:Keyed→Int) (a₀:Array Keyed):Prop:=∀ a:Array Keyed,a.Perm a₀→∀ i j,i < a₀.size→j < a₀.size→i≠j→kk key a i≠kk key a j
theorem wp_count (L:LtOk prog w A E s κ a₀ key) (D:Dis key a₀) {st:SortSt} {lo nrem:Nat} {Q:Option Nat→SortSt→Prop} (hn:lo + nrem≤a₀.size) (h1:1≤nrem) (hB:Bs κ a₀ st)
   (h:∀ m st',Bs κ a₀ st'→Pre lo (arrOf st) (arrOf st')→pendingOf st'=pendingOf st→1≤m→m≤nrem→SIn key (arrOf st') lo m→Q (some m) st') :
   wpS (model prog w) A E s (countRun' lo nrem) Q st:=by
 rw [countRun'_eq]
 have asc:∀ (a:Nat) (st1:SortSt) (Q':Option (Option Nat) × Nat→SortSt→Prop) (body:Nat→Option (Option Nat) × Nat→StateT SortSt Sem (ForInStep (Option (Option Nat) × Nat))),1≤a→a≤nrem→Bs κ a₀ st1→SIn key (arrOf st1) lo a →
     (∀ i c,body i c=(do
       let __x ← ltAt' (lo + c.snd) (lo + c.snd - 1)
       match __x with
       | some smaller=>if smaller=true then pure (ForInStep.done (none,c.snd)) else pure (ForInStep.yield (none,c.snd + 1))
       | _=>pure (ForInStep.done (some none,c.snd)))) →
     (∀ n,a≤n→n≤nrem→SIn key (arrOf st1) lo n→(n=nrem ∨ kk key (arrOf st1) (lo + n) < kk key (arrOf st1) (lo + n - 1))→Q' (none,n) st1) →
     wpS (model prog w) A E s (forIn [a:nrem] ((none,a):Option (Option Nat) × Nat) body) Q' st1:=by
   intro a st1 Q' body ha han hB1 hs1 hb hq
   refine wpS_forRange (I:=fun x c st'=>st'=st1∧c=(none,x)∧SIn key (arrOf st1) lo x) ?step ?fin ⟨rfl,rfl,hs1⟩
   case fin =>
     rintro c st' ⟨rfl,rfl,hs'⟩
     rw [show max a nrem=nrem by omega] at hs' ⊢
     exact hq nrem han (Nat.le_refl _) hs' (.inl rfl)
   case step =>
     rintro x c st' hax hxn ⟨rfl,rfl,hs'⟩
     rw [hb]
     dsimp only
     refine wpS_bind (wp_lt L hB1 (by omega) (by omega) ?_)
     by_cases hless:kk key (arrOf st') (lo + x) < kk key (arrOf st') (lo + x - 1)
     . simp only [hless,decide_true,if_true]
       exact wpS_pure (hq x hax (by omega) hs' (.inr hless))
     . simp only [hless,decide_false,Bool.false_eq_true,if_false]
       refine wpS_pure ⟨rfl,rfl,fun i j hij hj=>?_⟩
       by_cases hjx:j < x
       . exact hs' i j hij hjx
       . have hj':j=x:=by omega
         subst hj'
         by_cases hi':i=j
         . subst hi'; exact Int.le_refl _
         . rw [show lo + j - 1=lo + (j - 1) by omega] at hless
           exact Int.le_trans (hs' i (j - 1) (by omega) (by omega)) (Int.not_lt.mp hless)
 refine wpS_bind (asc 1 st _ _ (Nat.le_refl _) h1 hB (fun i j hij hj=>by have:i=j:=by omega
                                                                         subst this; exact Int.le_refl _) (fun i c=>rfl) fun n hn1 hn2 hsn hor=>?_)
 dsimp only
 by_cases hnn:n=nrem
 . rw [if_pos (by simpa using hnn)]
   exact wpS_pure (h n st hB .refl rfl hn1 hn2 hsn)
 . rw [if_neg (by simpa using hnn)]
   have hlt:kk key (arrOf st) (lo + n) < kk key (arrOf st) (lo + n - 1):=hor.resolve_left hnn
   by_cases hgt:n > 1
   . rw [if_pos hgt]
     refine wpS_bind (wp_lt L hB (by omega) (by omega) ?_)
     have hrose:kk key (arrOf st) lo < kk key (arrOf st) (lo + n - 1):=by
       have a1:=hsn 0 (n - 1) (by omega) (by omega)
       rw [Nat.add_zero,show lo + (n - 1)=lo + n - 1 by omega] at a1
       have a2:=D _ hB.perm lo (lo + n - 1) (by omega) (by omega) (by omega)
       omega
     simp only [hrose,decide_true,if_true]
     exact wpS_pure (h n st hB .refl rfl hn1 hn2 hsn)
   . rw [if_neg hgt]
     have hn1':n=1:=by omega
     subst hn1'
     refine wpS_bind (wpS_lift (wpAny_rule ⟨rfl,?_⟩))
     refine wpS_bind (wpS_mono (wpS_forRange (I:=fun x c st'=>st'=st∧c=(none,x,0)∧NIn key (arrOf st) lo x) (Q:=fun c st'=>st'=st∧∃ m,2≤m∧m≤nrem∧c=(none,m,0)∧NIn key (arrOf st) lo m) ?step ?fin ⟨rfl,rfl,?_⟩) ?post)
     case fin =>
       rintro c st' ⟨rfl,rfl,hs'⟩
       exact ⟨rfl,max (1 + 1) nrem,by omega,by omega,rfl,hs'⟩
     case step =>
       rintro x c st' hax hxn ⟨rfl,rfl,hs'⟩
       dsimp only
       refine wpS_bind (wp_lt L hB (by omega) (by omega) ?_)
       by_cases hless:kk key (arrOf st') (lo + x) < kk key (arrOf st') (lo + x - 1)
       . simp only [hless,decide_true,if_true]
         rw [if_neg (by omega)]
         refine wpS_pure ⟨rfl,rfl,fun i j hij hj=>?_⟩
         by_cases hjx:j < x
         . exact hs' i j hij hjx
         . have hj':j=x:=by omega
           subst hj'
           by_cases hi':i=j
           . subst hi'; exact Int.le_refl _
           . rw [show lo + j - 1=lo + (j - 1) by omega] at hless
             exact Int.le_trans (Int.le_of_lt hless) (hs' i (j - 1) (by omega) (by omega))
       . simp only [hless,decide_false,Bool.false_eq_true,if_false]
         refine wpS_bind (wp_lt L hB (by omega) (by omega) ?_)
         have hl:kk key (arrOf st') (lo + x - 1) < kk key (arrOf st') (lo + x):=by
           have:=D _ hB.perm (lo + x) (lo + x - 1) (by omega) (by omega) (by omega)
           omega
         simp only [hl,decide_true,if_true]
         exact wpS_pure ⟨rfl,x,by omega,by omega,rfl,hs'⟩
     . intro i j hij hj
       by_cases hi':i=j
       . subst hi'; exact Int.le_refl _
       . have hi0:i=0:=by omega
         have hj1:j=1:=by omega
         subst hi0; subst hj1
         rw [show lo + 1 - 1=lo + 0 by omega] at hlt
         exact Int.le_of_lt hlt
     case post =>
       rintro c st' ⟨rfl,m,hm2,hmn,rfl,hs'⟩
       dsimp only
       rw [if_neg (by omega)]
       refine wpS_bind (wp_rev ?_)
       have hsz:lo + m≤(arrOf st').size:=by rw [hB.size]; omega
       have hB':=hB.set (mirror_perm (arrOf st') lo (lo + m) ((lo + m - lo) / 2))
       refine wpS_bind (asc m _ _ _ (by omega) hmn hB' ?_ (fun i c=>rfl) fun k hk1 hk2 hsk _=>?_)
       . intro i j hij hj
         show kk key (mirror (arrOf st') lo (lo + m) ((lo + m - lo) / 2)) (lo + i)≤kk key (mirror (arrOf st') lo (lo + m) ((lo + m - lo) / 2)) (lo + j)
         rw [kk_mirror hsz,kk_mirror hsz,if_pos (by omega),if_pos (by omega)]
         have:=hs' (m - 1 - j) (m - 1 - i) (by omega) (by omega)
         rwa [show lo + (m - 1 - j)=lo + (lo + m) - 1 - (lo + j) by omega,show lo + (m - 1 - i)=lo + (lo + m) - 1 - (lo + i) by omega] at this
       . exact wpS_pure (h k _ hB' (pre_mirror hsz (Nat.le_refl _)) rfl (by omega) hk2 hsk)
end
end L2.Tim
end
section
namespace L2.Tim
open PySem PySem.W PySem.Calls PyProof PyProof.Rows
section
variable {prog:Program} {w:World} {A:Around} {E:Value→Shared→Prop} {s:Shared} {κ:SortKind} {a₀:Array Keyed} {key:Keyed→Int}
noncomputable def gallop':Bool→Keyed→Array Keyed→Nat→Nat→Nat→StateT SortSt Sem (Option Nat):=sortPriv% PySem.Builtin.gallop
noncomputable def Cut (a₀:Array Keyed) (key:Keyed→Int) (left:Bool) (x:Keyed) (arr:Array Keyed) (base n k0:Nat):Prop:=
 ∀ i,i < n→∃ y,arr[base + i]?=some y∧y∈a₀.toList∧(if left=true then decide (key y < key x) else !decide (key x < key y))=decide (i < k0)
theorem wp_beyond (L:LtOk prog w A E s κ a₀ key) {left:Bool} {x:Keyed} {arr:Array Keyed} {base n k0 i:Nat} (hc:Cut a₀ key left x arr base n k0) (hx:x∈a₀.toList) {st:SortSt} (hk:kindOf st=κ) (hi:i < n) {Q:Option Bool→SortSt→Prop} (h:Q (some (decide (i < k0))) st)
   {m:StateT SortSt Sem (Option Bool)} (hm:m=(elem' arr (base + i) >>= fun y=>if left=true then lt' y x else lt' x y >>= fun r=>pure (r.map (!·)))):wpS (model prog w) A E s m Q st:=by
 obtain ⟨y,e1,e2,e3⟩:=hc i hi
 rw [hm]
 refine wpS_bind (wp_elem e1 ?_)
 cases left with
 | true =>
   rw [if_pos rfl] at e3 ⊢
   refine L y x st _ e2 hx hk ?_
   rw [e3]; exact h
 | false =>
   rw [if_neg Bool.false_ne_true] at e3 ⊢
   refine wpS_bind (L x y st _ hx e2 hk (wpS_pure ?_))
   show Q (some (!decide (key x < key y))) st
   rw [e3]; exact h
theorem wp_search {n k0:Nat} {st:SortSt} {body:Nat→Option (Option Nat) × Nat × Nat→StateT SortSt Sem (ForInStep (Option (Option Nat) × Nat × Nat))}
   (h1:∀ i lo hi (Q':ForInStep (Option (Option Nat) × Nat × Nat)→SortSt→Prop),lo ≥ hi→Q' (.done (none,lo,hi)) st→wpS (model prog w) A E s (body i (none,lo,hi)) Q' st)
   (h2:∀ i lo hi (Q':ForInStep (Option (Option Nat) × Nat × Nat)→SortSt→Prop),lo < hi→hi≤n→Q' (if lo + (hi - lo) / 2 < k0 then .yield (none,lo + (hi - lo) / 2 + 1,hi) else .yield (none,lo,lo + (hi - lo) / 2)) st→wpS (model prog w) A E s (body i (none,lo,hi)) Q' st)
   {lo hi:Nat} (a1:lo≤k0) (a2:k0≤hi) (a3:hi≤n) {Q:Option (Option Nat) × Nat × Nat→SortSt→Prop} (q:∀ l,Q (none,l,k0) st):wpS (model prog w) A E s (forIn [:n] ((none,lo,hi):Option (Option Nat) × Nat × Nat) body) Q st:=by
 refine wpS_forRange (I:=fun x c st'=>st'=st∧∃ lo hi,c=(none,lo,hi)∧lo≤k0∧k0≤hi∧hi≤n∧hi - lo≤n - x) ?step ?fin ⟨rfl,lo,hi,rfl,a1,a2,a3,by omega⟩
 case fin =>
   rintro c st' ⟨rfl,lo,hi,rfl,b1,b2,b3,b4⟩
   have:hi=k0:=by omega
   subst this; exact q lo
 case step =>
   rintro x c st' _ hx ⟨rfl,lo,hi,rfl,b1,b2,b3,b4⟩
   by_cases hge:lo ≥ hi
   . refine h1 x lo hi _ hge ?_
     have:hi=k0:=by omega
     subst this; exact q lo
   . refine h2 x lo hi _ (by omega) b3 ?_
     by_cases hm:lo + (hi - lo) / 2 < k0
     . rw [if_pos hm]
       exact ⟨rfl,_,_,rfl,by omega,by omega,by omega,by omega⟩
     . rw [if_neg hm]
       exact ⟨rfl,_,_,rfl,by omega,by omega,by omega,by omega⟩
theorem wp_gallop (L:LtOk prog w A E s κ a₀ key) {left:Bool} {x:Keyed} {arr:Array Keyed} {base n hint k0:Nat} (hh:hint < n) (h0:k0≤n) (hc:Cut a₀ key left x arr base n k0) (hx:x∈a₀.toList) {st:SortSt} (hk:kindOf st=κ) {Q:Option Nat→SortSt→Prop} (h:Q (some k0) st) :
   wpS (model prog w) A E s (gallop' left x arr base n hint) Q st:=by
 unfold gallop'
 refine wpS_bind (wp_beyond L hc hx hk hh ?_ rfl)
 by_cases hr:hint < k0
 . rw [decide_eq_true hr]
   dsimp only
   rw [if_pos rfl]
   refine wpS_bind (wpS_mono (wpS_forRange (I:=fun y c st'=>st'=st∧∃ la o,c=(none,la,o)∧la < o∧hint + la < k0∧y < o) (Q:=fun c st'=>st'=st∧∃ la o,c=(none,la,o)∧hint + la < k0∧k0≤hint + min o (n - hint)) ?step ?fin ⟨rfl,0,1,rfl,by omega,by omega,by omega⟩) ?post)
   case fin =>
     rintro c st' ⟨rfl,la,o,rfl,b1,b2,b3⟩
     exact ⟨rfl,la,o,rfl,b2,by omega⟩
   case step =>
     rintro y c st' _ hy ⟨rfl,la,o,rfl,b1,b2,b3⟩
     dsimp only
     by_cases hge:o ≥ n - hint
     . rw [if_pos hge]
       exact wpS_pure ⟨rfl,la,o,rfl,b2,by omega⟩
     . rw [if_neg hge]
       refine wpS_bind (wp_beyond L hc hx hk (show hint + o < n by omega) ?_ rfl)
       by_cases hm:hint + o < k0
       . rw [decide_eq_true hm]
         dsimp only
         rw [if_neg (by simp)]
         exact wpS_pure ⟨rfl,o,2 * o + 1,rfl,by omega,hm,by omega⟩
       . rw [decide_eq_false hm]
         dsimp only
         rw [if_pos (by simp)]
         exact wpS_pure ⟨rfl,la,o,rfl,b2,by omega⟩
   case post =>
     rintro c st' ⟨rfl,la,o,rfl,b1,b2⟩
     dsimp only
     refine wpS_bind (wp_search (n:=n) (k0:=k0) (fun i lo hi Q' hge q=>?_) (fun i lo hi Q' hl hn q=>?_) (by omega) b2 (by omega) fun l=>wpS_pure h)
     . dsimp only
       rw [if_pos hge]
       exact wpS_pure q
     . dsimp only
       rw [if_neg (by omega)]
       refine wpS_bind (wp_beyond L hc hx hk (show lo + (hi - lo) / 2 < n by omega) ?_ rfl)
       by_cases hm:lo + (hi - lo) / 2 < k0
       . rw [decide_eq_true hm]; rw [if_pos hm] at q
         dsimp only
         rw [if_pos rfl]; exact wpS_pure q
       . rw [decide_eq_false hm]; rw [if_neg hm] at q
         dsimp only
         rw [if_neg Bool.false_ne_true]; exact wpS_pure q
 . rw [decide_eq_false hr]
   dsimp only
   rw [if_neg Bool.false_ne_true]
   refine wpS_bind (wpS_mono (wpS_forRange (I:=fun y c st'=>st'=st∧∃ la o,c=(none,la,o)∧la < o∧k0≤hint - la∧y < o∧la≤hint) (Q:=fun c st'=>st'=st∧∃ la o,c=(none,la,o)∧k0≤hint - la∧hint + 1 - min o (hint + 1)≤k0) ?step ?fin ⟨rfl,0,1,rfl,by omega,by omega,by omega,by omega⟩) ?post)
   case fin =>
     rintro c st' ⟨rfl,la,o,rfl,b1,b2,b3,b4⟩
     exact ⟨rfl,la,o,rfl,b2,by omega⟩
   case step =>
     rintro y c st' _ hy ⟨rfl,la,o,rfl,b1,b2,b3,b4⟩
     dsimp only
     by_cases hge:o ≥ hint + 1
     . rw [if_pos hge]
       exact wpS_pure ⟨rfl,la,o,rfl,b2,by omega⟩
     . rw [if_neg hge]
       refine wpS_bind (wp_beyond L hc hx hk (show hint - o < n by omega) ?_ rfl)
       by_cases hm:hint - o < k0
       . rw [decide_eq_true hm]
         dsimp only
         rw [if_pos rfl]
         exact wpS_pure ⟨rfl,la,o,rfl,b2,by omega⟩
       . rw [decide_eq_false hm]
         dsimp only
         rw [if_neg Bool.false_ne_true]
         exact wpS_pure ⟨rfl,o,2 * o + 1,rfl,by omega,by omega,by omega,by omega⟩
   case post =>
     rintro c st' ⟨rfl,la,o,rfl,b1,b2⟩
     dsimp only
     refine wpS_bind (wp_search (n:=n) (k0:=k0) (fun i lo hi Q' hge q=>?_) (fun i lo hi Q' hl hn q=>?_) b2 b1 (by omega) fun l=>wpS_pure h)
     . dsimp only
       rw [if_pos hge]
       exact wpS_pure q
     . dsimp only
       rw [if_neg (by omega)]
       refine wpS_bind (wp_beyond L hc hx hk (show lo + (hi - lo) / 2 < n by omega) ?_ rfl)
       by_cases hm:lo + (hi - lo) / 2 < k0
       . rw [decide_eq_true hm]; rw [if_pos hm] at q
         dsimp only
         rw [if_pos rfl]; exact wpS_pure q
       . rw [decide_eq_false hm]; rw [if_neg hm] at q
         dsimp only
         rw [if_neg Bool.false_ne_true]; exact wpS_pure q
end
end L2.Tim
end
section
namespace L2.Tim
open PySem PySem.W PySem.Calls PyProof PyProof.Rows
section
variable {prog:Program} {w:World} {A:Around} {E:Value→Shared→Prop} {s:Shared} {κ:SortKind} {a₀:Array Keyed} {key:Keyed→Int}
noncomputable def Srt (key:Keyed→Int) (l:List Keyed):Prop:=l.Pairwise fun x y=>key x≤key y
theorem srt_mid {o p q r:List Keyed} (h1:Srt key (o++(p++q))) (h2:Srt key (o++r)) (h:∀ u∈p,∀ v∈r,key u≤key v):Srt key ((o++p)++r):=by
 unfold Srt at *
 rw [List.pairwise_append] at h1 h2 ⊢
 have h3:=List.pairwise_append.mp h1.2.1
 refine ⟨List.pairwise_append.mpr ⟨h1.1,h3.1,fun a ha b hb=>h1.2.2 a ha b (List.mem_append_left _ hb)⟩,h2.2.1,fun a ha b hb=>?_⟩
 rcases List.mem_append.mp ha with ha | ha
 . exact h2.2.2 a ha b hb
 . exact h a ha b hb
structure Mg (key:Keyed→Int) (X Y:List Keyed) (out:Array Keyed) (ia ib:Nat):Prop where
 sx:Srt key (out.toList++X.drop ia)
 sy:Srt key (out.toList++Y.drop ib)
 pm:out.toList.Perm (X.take ia++Y.take ib)
theorem Mg.pushY {X Y:List Keyed} {out:Array Keyed} {ia ib:Nat} {y:Keyed} (h:Mg key X Y out ia ib) (hy:Y[ib]?=some y) (hx:∀ u∈X.drop ia,key y≤key u):Mg key X Y (out.push y) ia (ib + 1):=by
 obtain ⟨hlt,e⟩:=List.getElem?_eq_some_iff.mp hy
 have ed:Y.drop ib=[y]++Y.drop (ib + 1):=by rw [List.drop_eq_getElem_cons hlt,e]; rfl
 have et:Y.take (ib + 1)=Y.take ib++[y]:=by rw [List.take_succ,hy]; rfl
 have sy:=h.sy
 rw [ed] at sy
 refine ⟨?_,?_,?_⟩
 . rw [Array.toList_push]
   exact srt_mid sy h.sx fun u hu v hv=>by rw [List.mem_singleton.mp hu]; exact hx v hv
 . rw [Array.toList_push,List.append_assoc]; exact sy
 . rw [Array.toList_push,et,← List.append_assoc]
   exact h.pm.append_right _
theorem Mg.moveX {X Y:List Keyed} {out:Array Keyed} {ia ib k:Nat} {mid:List Keyed} (h:Mg key X Y out ia ib) (hm:X.drop ia=mid++X.drop (ia + k)) (ht:X.take (ia + k)=X.take ia++mid) (hle:∀ u∈mid,∀ v∈Y.drop ib,key u≤key v) {out':Array Keyed} (ho:out'.toList=out.toList++mid):Mg key X Y out' (ia + k) ib:=by
 have sx:=h.sx
 rw [hm] at sx
 refine ⟨?_,?_,?_⟩
 . rw [ho,List.append_assoc]; exact sx
 . rw [ho]; exact srt_mid sx h.sy hle
 . rw [ho,ht]
   refine (h.pm.append_right mid).trans ?_
   rw [List.append_assoc,List.append_assoc]
   exact (List.perm_append_comm).append_left _
theorem Mg.moveY {X Y:List Keyed} {out:Array Keyed} {ia ib k:Nat} {mid:List Keyed} (h:Mg key X Y out ia ib) (hm:Y.drop ib=mid++Y.drop (ib + k)) (ht:Y.take (ib + k)=Y.take ib++mid) (hle:∀ u∈mid,∀ v∈X.drop ia,key u≤key v) {out':Array Keyed} (ho:out'.toList=out.toList++mid):Mg key X Y out' ia (ib + k):=by
 have sy:=h.sy
 rw [hm] at sy
 refine ⟨?_,?_,?_⟩
 . rw [ho]; exact srt_mid sy h.sx hle
 . rw [ho,List.append_assoc]; exact sy
 . rw [ho,ht,← List.append_assoc]
   exact h.pm.append_right mid
theorem Mg.pushX {X Y:List Keyed} {out:Array Keyed} {ia ib:Nat} {x:Keyed} (h:Mg key X Y out ia ib) (hx:X[ia]?=some x) (hy:∀ u∈Y.drop ib,key x≤key u):Mg key X Y (out.push x) (ia + 1) ib:=by
 obtain ⟨hlt,e⟩:=List.getElem?_eq_some_iff.mp hx
 refine h.moveX (mid:=[x]) (by rw [List.drop_eq_getElem_cons hlt,e]; rfl) (by rw [List.take_succ,hx]; rfl) (fun u hu v hv=>by rw [List.mem_singleton.mp hu]; exact hy v hv) (Array.toList_push)
structure Res (key:Keyed→Int) (X Y:List Keyed) (r:Array Keyed):Prop where
 srt:Srt key r.toList
 perm:r.toList.Perm (X++Y)
theorem Mg.endY {X Y:List Keyed} {out r:Array Keyed} {ia ib:Nat} (h:Mg key X Y out ia ib) (hb:Y.length≤ib) (hr:r.toList=out.toList++X.drop ia):Res key X Y r:=by
 refine ⟨by rw [hr]; exact h.sx,?_⟩
 have:=h.pm
 rw [List.take_of_length_le hb] at this
 rw [hr]
 refine (this.append_right _).trans ?_
 rw [List.append_assoc]
 refine (List.perm_append_comm.append_left _).trans ?_
 rw [←List.append_assoc,List.take_append_drop]
theorem Mg.endX {X Y:List Keyed} {out r:Array Keyed} {ia ib:Nat} (h:Mg key X Y out ia ib) (hl:∀ u∈Y,∀ v∈X.drop ia,key u≤key v) (hr:r.toList=out.toList++Y.drop ib++X.drop ia):Res key X Y r:=by
 have m:=h.moveY (k:=Y.length) (mid:=Y.drop ib) (by rw [List.drop_of_length_le (show Y.length≤ib + Y.length by omega),List.append_nil]) (by rw [List.take_of_length_le (by omega),List.take_append_drop]) (fun u hu v hv=>hl u (List.mem_of_mem_drop hu) v hv) (out':=(out.toList++Y.drop ib).toArray) rfl
 exact m.endY (by omega) hr
theorem srt_drop_le {l:List Keyed} (h:Srt key l) {i:Nat} {x:Keyed} (hx:l[i]?=some x):∀ u∈l.drop i,key x≤key u:=fun u hu=>by
 obtain ⟨hlt,e⟩:=List.getElem?_eq_some_iff.mp hx
 rw [List.drop_eq_getElem_cons hlt,e] at hu
 rcases List.mem_cons.mp hu with rfl | hu
 . exact Int.le_refl _
 . obtain ⟨j,hj,rfl⟩:=List.getElem_of_mem hu
   rw [List.getElem_drop]
   rw [←e]
   rw [List.length_drop] at hj
   exact List.pairwise_iff_getElem.mp h i (i + 1 + j) hlt (by omega) (by omega)
theorem wp_ite {α:Type} {c:Prop} [Decidable c] {m1 m2:StateT SortSt Sem α} {Q:α→SortSt→Prop} {st:SortSt} (h1:c→wpS (model prog w) A E s m1 Q st) (h2:¬ c→wpS (model prog w) A E s m2 Q st):wpS (model prog w) A E s (if c then m1 else m2) Q st:=by
 by_cases h:c
 . rw [if_pos h]; exact h1 h
 . rw [if_neg h]; exact h2 h
structure Sm (st st':SortSt):Prop where
 kind:kindOf st'=kindOf st
 arr:arrOf st'=arrOf st
 pend:pendingOf st'=pendingOf st
 fail:failedOf st'=failedOf st
theorem Sm.refl {st:SortSt}:Sm st st:=⟨rfl,rfl,rfl,rfl⟩
theorem Sm.trans {a b c:SortSt} (h:Sm a b) (k:Sm b c):Sm a c:=⟨k.kind.trans h.kind,k.arr.trans h.arr,k.pend.trans h.pend,k.fail.trans h.fail⟩
theorem Mg.endX0 {X Y:List Keyed} {out r:Array Keyed} {ia ib:Nat} (h:Mg key X Y out ia ib) (hb:X.length≤ia) (hr:r.toList=out.toList++Y.drop ib):Res key X Y r:=by
 refine ⟨by rw [hr]; exact h.sy,?_⟩
 have:=h.pm
 rw [List.take_of_length_le hb] at this
 rw [hr]
 refine (this.append_right _).trans ?_
 rw [List.append_assoc,List.take_append_drop]
theorem ext_all {a:Array Keyed} {i:Nat}:(a.extract i).toList=a.toList.drop i:=by
 rw [Array.toList_extract,List.extract_eq_drop_take]
 exact List.take_of_length_le (by rw [List.length_drop,Array.length_toList]; exact Nat.le_refl _)
theorem ext_mid {a:Array Keyed} {i k:Nat}:(a.extract i (i + k)).toList=(a.toList.drop i).take k:=by
 rw [Array.toList_extract,List.extract_eq_drop_take,Nat.add_sub_cancel_left]
theorem drop_split {l:List Keyed} {i k:Nat}:l.drop i=(l.drop i).take k++l.drop (i + k):=by
 rw [←List.drop_drop,List.take_append_drop]
theorem Mg.galX {a b out:Array Keyed} {ia ib k:Nat} (h:Mg key a.toList b.toList out ia ib) (hle:∀ u∈(a.toList.drop ia).take k,∀ v∈b.toList.drop ib,key u≤key v):Mg key a.toList b.toList (out++a.extract ia (ia + k)) (ia + k) ib:=
 h.moveX drop_split List.take_add hle (by rw [Array.toList_append,ext_mid])
theorem Mg.galY {a b out:Array Keyed} {ia ib k:Nat} (h:Mg key a.toList b.toList out ia ib) (hle:∀ u∈(b.toList.drop ib).take k,∀ v∈a.toList.drop ia,key u≤key v):Mg key a.toList b.toList (out++b.extract ib (ib + k)) ia (ib + k):=
 h.moveY drop_split List.take_add hle (by rw [Array.toList_append,ext_mid])
theorem cut_list (left:Bool) (x:Keyed):∀ {l:List Keyed},Srt key l→∃ k0,k0≤l.length∧∀ i (hi:i < l.length),(if left=true then decide (key l[i] < key x) else !decide (key x < key l[i]))=decide (i < k0)
 | [],_=>⟨0,Nat.le_refl _,fun i hi=>absurd hi (Nat.not_lt_zero _)⟩
 | y :: t,h=>by
   unfold Srt at h
   rw [List.pairwise_cons] at h
   by_cases hp:(if left=true then decide (key y < key x) else !decide (key x < key y))=true
   . obtain ⟨k0,h1,h2⟩:=cut_list left x (l:=t) h.2
     refine ⟨k0 + 1,by rw [List.length_cons]; omega,fun i hi=>?_⟩
     cases i with
     | zero=>rw [show decide (0 < k0 + 1)=true from decide_eq_true (by omega)]; exact hp
     | succ i =>
       rw [List.length_cons] at hi
       have:=h2 i (by omega)
       rw [List.getElem_cons_succ,this]
       exact decide_eq_decide.mpr (by omega)
   . refine ⟨0,Nat.zero_le _,fun i hi=>?_⟩
     rw [decide_eq_false (Nat.not_lt_zero _)]
     have hle:key y≤key (y :: t)[i]:=by
       cases i with
       | zero=>exact Int.le_refl _
       | succ i =>
         rw [List.length_cons] at hi
         exact h.1 _ (List.getElem_mem _)
     cases left with
     | true =>
       simp only [if_true,decide_eq_true_eq] at hp ⊢
       exact decide_eq_false (by omega)
     | false =>
       simp only [Bool.false_eq_true,if_false,Bool.not_eq_true',decide_eq_false_iff_not] at hp ⊢
       rw [Bool.not_eq_false',decide_eq_true_eq]
       omega
theorem cut_arr {left:Bool} {x:Keyed} {arr:Array Keyed} {base n:Nat} (hn:base + n≤arr.size) (hs:Srt key ((arr.toList.drop base).take n)) (hm:∀ u∈(arr.toList.drop base).take n,u∈a₀.toList) :
   ∃ k0,k0≤n∧Cut a₀ key left x arr base n k0∧(∀ u∈(arr.toList.drop base).take k0,key u≤key x)∧∀ u∈((arr.toList.drop base).take n).drop k0,key x≤key u:=by
 have hl:((arr.toList.drop base).take n).length=n:=by rw [List.length_take,List.length_drop,Array.length_toList]; omega
 obtain ⟨k0,h1,h2⟩:=cut_list (key:=key) left x hs
 rw [hl] at h1
 have g:∀ i (hi:i < ((arr.toList.drop base).take n).length),arr[base + i]?=some ((arr.toList.drop base).take n)[i]:=fun i hi=>by
   rw [List.getElem_take,List.getElem_drop,← Array.getElem?_toList,List.getElem?_eq_getElem]
 refine ⟨k0,h1,fun i hi=>⟨((arr.toList.drop base).take n)[i]'(by omega),g i (by omega),hm _ (List.getElem_mem _),h2 i (by omega)⟩,fun u hu=>?_,fun u hu=>?_⟩
 . have e:(arr.toList.drop base).take k0=((arr.toList.drop base).take n).take k0:=by rw [List.take_take,Nat.min_eq_left h1]
   rw [e] at hu
   obtain ⟨i,hi,rfl⟩:=List.getElem_of_mem hu
   rw [List.length_take] at hi
   rw [List.getElem_take]
   have:=h2 i (by omega)
   rw [decide_eq_true (show i < k0 by omega)] at this
   cases left with
   | true=>simp only [if_true,decide_eq_true_eq] at this; omega
   | false=>simp only [Bool.false_eq_true,if_false,Bool.not_eq_true',decide_eq_false_iff_not] at this; omega
 . obtain ⟨i,hi,rfl⟩:=List.getElem_of_mem hu
   rw [List.length_drop] at hi
   rw [List.getElem_drop]
   have:=h2 (k0 + i) (by omega)
   rw [decide_eq_false (show ¬ k0 + i < k0 by omega)] at this
   cases left with
   | true=>simp only [if_true,decide_eq_false_iff_not] at this; omega
   | false=>simp only [Bool.false_eq_true,if_false,Bool.not_eq_false',decide_eq_true_eq] at this; omega
theorem cut_end' {left:Bool} {x:Keyed} {arr:Array Keyed} {base:Nat} (hn:base≤arr.size) (hs:Srt key arr.toList) (hm:∀ u∈arr.toList,u∈a₀.toList) :
   ∃ k0,k0≤arr.size - base∧Cut a₀ key left x arr base (arr.size - base) k0∧(∀ u∈(arr.toList.drop base).take k0,key u≤key x)∧∀ u∈arr.toList.drop (base + k0),key x≤key u:=by
 have e:(arr.toList.drop base).take (arr.size - base)=arr.toList.drop base:=List.take_of_length_le (by rw [List.length_drop,Array.length_toList]; exact Nat.le_refl _)
 obtain ⟨k0,h1,h2,h3,h4⟩:=cut_arr (a₀:=a₀) (key:=key) (left:=left) (x:=x) (arr:=arr) (base:=base) (n:=arr.size - base) (by omega) (by rw [e]; exact hs.sublist (List.drop_sublist _ _)) (by rw [e]; exact fun u hu=>hm u (List.mem_of_mem_drop hu))
 rw [e,List.drop_drop] at h4
 exact ⟨k0,h1,h2,h3,h4⟩
theorem arr_get {a:Array Keyed} {i:Nat} (h:i < a.size):a[i]?=some (a.getD i (Value.none,Value.none))∧a.toList[i]?=some (a.getD i (Value.none,Value.none))∧a.getD i (Value.none,Value.none)∈a.toList:=by
 have e:a.getD i (Value.none,Value.none)=a[i]:=by simp [Array.getD,h]
 rw [e]
 exact ⟨by simp [h],by simp [h],by simp⟩
noncomputable def setMinGallop':Nat→StateT SortSt Sem Unit:=sortPriv% PySem.Builtin.setMinGallop
theorem wp_pace {g:Nat} {st:SortSt} {Q:Unit→SortSt→Prop} (h:∀ st2,Sm st st2→Q () st2):wpS (model prog w) A E s (setMinGallop' g) Q st:=by
 unfold setMinGallop'
 exact wpS_modify (h _ ⟨rfl,rfl,rfl,rfl⟩)
noncomputable def mergeLo':Array Keyed→Array Keyed→StateT SortSt Sem (Array Keyed):=sortPriv% PySem.Builtin.mergeLo
structure LoI (key:Keyed→Int) (a b:Array Keyed) (c:Option (Array Keyed)) (out:Array Keyed) (ia ib x:Nat):Prop where
 no:c=none
 mg:Mg key a.toList b.toList out ia ib
 la:ia + 1 < a.size
 lb:ib < b.size
 lt:x≤ia + ib
theorem LoI.mono {a b out:Array Keyed} {c:Option (Array Keyed)} {ia ib x x':Nat} (h:LoI key a b c out ia ib x) (k:x'≤x):LoI key a b c out ia ib x':=⟨h.no,h.mg,h.la,h.lb,Nat.le_trans k h.lt⟩
inductive LoQ (key:Keyed→Int) (a b:Array Keyed) (c:Option (Array Keyed)) (out:Array Keyed) (ia ib x:Nat):Prop where
 | res (r:Array Keyed) (h:c=some r) (hr:Res key a.toList b.toList r):LoQ key a b c out ia ib x
 | go (h:LoI key a b c out ia ib x):LoQ key a b c out ia ib x
theorem beq_of {i j:Nat} (h:(i == j)=true):i=j:=eq_of_beq h
theorem ne_of {i j:Nat} (h:¬ (i == j)=true):i≠j:=fun e=>h (beq_iff_eq.mpr e)
theorem lt2 {i k n:Nat} (h:k≤n - i) (h':i + 1 < n) (e:i + k + 1≠n) (e':i + k≠n):i + k + 1 < n:=by omega
theorem lt3 {i k n:Nat} (h:k≤n - i) (h':i < n) (e:i + k≠n):i + k < n:=by omega
theorem wp_lo (L:LtOk prog w A E s κ a₀ key) {a b:Array Keyed} (ha:0 < a.size) (hb:0 < b.size) (ma:∀ x∈a.toList,x∈a₀.toList) (mb:∀ x∈b.toList,x∈a₀.toList) (sa:Srt key a.toList) (sb:Srt key b.toList)
   (h1:∀ u∈a.toList,key (b.getD 0 (Value.none,Value.none))≤key u) (h2:∀ u∈b.toList,key u≤key (a.getD (a.size - 1) (Value.none,Value.none))) {st:SortSt} (hk:kindOf st=κ) {Q:Array Keyed→SortSt→Prop} (q:∀ r st',Sm st st'→Res key a.toList b.toList r→Q r st') :
   wpS (model prog w) A E s (mergeLo' a b) Q st:=by
 have lastA:∀ {i:Nat},i + 1=a.size→∀ u∈b.toList,∀ v∈a.toList.drop i,key u≤key v:=fun {i} hi u hu v hv=>by
   have gl:=arr_get (show i < a.size by omega)
   have:a.toList.drop i=[a.getD i (Value.none,Value.none)]:=by
     obtain ⟨hlt,e⟩:=List.getElem?_eq_some_iff.mp gl.2.1
     rw [List.drop_eq_getElem_cons hlt,e,List.drop_of_length_le (by rw [Array.length_toList]; omega)]
   rw [this,List.mem_singleton] at hv
   rw [hv,show i=a.size - 1 by omega]
   exact h2 u hu
 have endB:∀ {out:Array Keyed} {i j:Nat},b.size≤j→(out++a.extract i++b.extract j).toList=out.toList++a.toList.drop i:=fun {out i j} hj=>by
   rw [Array.toList_append,Array.toList_append,ext_all,ext_all,List.drop_of_length_le (show b.toList.length≤j by rw [Array.length_toList]; exact hj),List.append_nil]
 have endA:∀ {out:Array Keyed} {i j:Nat},(out++b.extract j++a.extract i).toList=out.toList++b.toList.drop j++a.toList.drop i:=fun {out i j}=>by
   rw [Array.toList_append,Array.toList_append,ext_all,ext_all]
 have endY:∀ {out:Array Keyed} {i j:Nat},Mg key a.toList b.toList out i j→j=b.size→Res key a.toList b.toList (out++a.extract i++b.extract j):=fun {out i j} h e=>h.endY (by rw [Array.length_toList,e]; exact Nat.le_refl _) (endB (Nat.le_of_eq e.symm))
 have endA0:∀ {out:Array Keyed} {i j:Nat},i=a.size→(out++a.extract i++b.extract j).toList=out.toList++b.toList.drop j:=fun {out i j} hj=>by
   rw [Array.toList_append,Array.toList_append,ext_all,ext_all,List.drop_of_length_le (show a.toList.length≤i by rw [Array.length_toList,hj]; exact Nat.le_refl _),List.append_nil]
 have gb0:=arr_get hb
 have J0:Mg key a.toList b.toList #[b.getD 0 (Value.none,Value.none)] 0 1:=by
   have:Mg key a.toList b.toList #[] 0 0:=⟨sa,sb,.refl _⟩
   exact this.pushY gb0.2.1 h1
 unfold mergeLo'
 refine wpS_bind (wpS_lift (wpAny_rule ⟨rfl,?_⟩))
 refine wpS_bind (wp_elem gb0.1 ?_)
 refine wp_ite (fun e1=>wpS_pure (q _ _ .refl (endY J0 (beq_of e1)))) fun e1=>?_
 refine wp_ite (fun e2=>wpS_pure (q _ _ .refl (J0.endX (lastA (beq_of e2)) endA))) fun e2=>?_
 refine wpS_bind (wpS_get ?_)
 refine wpS_bind (wpS_mono (wpS_forRange (I:=fun x c st'=>Sm st st'∧LoI key a b c.1 c.2.1 c.2.2.1 c.2.2.2.1 (x + 1)) (Q:=fun c st'=>Sm st st'∧∃ r,c.1=some r∧Res key a.toList b.toList r) ?step ?fin ⟨.refl,⟨rfl,J0,Nat.lt_of_le_of_ne ha (ne_of e2),Nat.lt_of_le_of_ne hb (ne_of e1),Nat.le_refl _⟩⟩) ?post)
 case fin =>
   intro c st' h
   have h1:=h.2.la
   have h2:=h.2.lb
   have h3:=h.2.lt
   omega
 case post =>
   rintro ⟨c1,c⟩ st' ⟨hS,r,hr,hR⟩
   cases hr
   exact wpS_pure (q r _ hS hR)
 case step =>
   intro x c st' _ hx ⟨hS,I⟩
   refine wpS_bind (wpS_mono (wpS_forRange (I:=fun y c' st''=>Sm st st''∧LoI key a b c'.1 c'.2.1 c'.2.2.1 c'.2.2.2.1 (c.2.2.1 + c.2.2.2.1 + y)) (Q:=fun c' st''=>Sm st st''∧LoQ key a b c'.1 c'.2.1 c'.2.2.1 c'.2.2.2.1 (c.2.2.1 + c.2.2.2.1 + 1)) ?istep ?ifin ⟨hS,⟨rfl,I.mg,I.la,I.lb,Nat.le_refl _⟩⟩) ?ipost)
   case ifin=>exact fun c st'' h=>⟨h.1,.go (h.2.mono (Nat.add_le_add_left (Nat.le_trans ha (Nat.le_trans (Nat.le_add_right _ _) (Nat.le_max_right _ _))) _))⟩
   case istep =>
     intro y c' st'' _ hy ⟨hS2,I'⟩
     have gx:=arr_get (Nat.lt_of_succ_lt I'.la)
     have gy:=arr_get I'.lb
     refine wpS_bind (wp_elem gy.1 (wpS_bind (wp_elem gx.1 (wpS_bind (L _ _ _ _ (mb _ gy.2.2) (ma _ gx.2.2) (hS2.kind.trans hk) ?_)))))
     refine wp_ite (fun hlt=>wpS_bind (wp_elem gy.1 ?_)) (fun hlt=>wpS_bind (wp_elem gx.1 ?_))
     . have J2:=I'.mg.pushY gy.2.1 fun u hu=>Int.le_trans (Int.le_of_lt (of_decide_eq_true hlt)) (srt_drop_le sa gx.2.1 u hu)
       refine wp_ite (fun e3=>wpS_pure ⟨hS2,.res _ rfl (endY J2 (beq_of e3))⟩) fun e3=>?_
       have I2:LoI key a b none _ _ _ (c.2.2.1 + c.2.2.2.1 + (y + 1)):=⟨rfl,J2,I'.la,Nat.lt_of_le_of_ne I'.lb (ne_of e3),Nat.succ_le_succ I'.lt⟩
       exact wp_ite (fun _=>wpS_pure ⟨hS2,.go (I2.mono (Nat.add_le_add_left (Nat.le_add_left 1 y) _))⟩) fun _=>wpS_pure ⟨hS2,I2⟩
     . have J2:=I'.mg.pushX gx.2.1 fun u hu=>Int.le_trans (Int.not_lt.mp (of_decide_eq_false (Bool.eq_false_iff.mpr hlt))) (srt_drop_le sb gy.2.1 u hu)
       refine wp_ite (fun e3=>wpS_pure ⟨hS2,.res _ rfl (J2.endX (lastA (beq_of e3)) endA)⟩) fun e3=>?_
       have I2:LoI key a b none _ _ _ (c.2.2.1 + c.2.2.2.1 + (y + 1)):=⟨rfl,J2,Nat.lt_of_le_of_ne I'.la (ne_of e3),I'.lb,Nat.le_trans (Nat.succ_le_succ I'.lt) (Nat.le_of_eq (Nat.add_right_comm _ _ 1))⟩
       exact wp_ite (fun _=>wpS_pure ⟨hS2,.go (I2.mono (Nat.add_le_add_left (Nat.le_add_left 1 y) _))⟩) fun _=>wpS_pure ⟨hS2,I2⟩
   case ipost =>
     rintro ⟨c1,c'⟩ st'' ⟨hS2,hQ⟩
     cases hQ with
     | res r hr hR=>cases hr; exact wpS_pure ⟨hS2,r,rfl,hR⟩
     | go I' =>
       have hc:=I'.no
       cases hc
       refine wpS_bind (wpS_lift (wpAny_rule ⟨rfl,?_⟩))
       refine wpS_bind (wpS_mono (wpS_forRange (I:=fun y c1 st3=>Sm st st3∧LoI key a b c1.1 c1.2.1 c1.2.2.1 c1.2.2.2.1 (c.2.2.1 + c.2.2.2.1 + 1)) (Q:=fun c1 st3=>Sm st st3∧LoQ key a b c1.1 c1.2.1 c1.2.2.1 c1.2.2.2.1 (c.2.2.1 + c.2.2.2.1 + 1)) ?gstep (fun c st3 h=>⟨h.1,.go h.2⟩) ⟨hS2,⟨rfl,I'.mg,I'.la,I'.lb,I'.lt⟩⟩) ?gpost)
       case gpost =>
         rintro ⟨c2,c3⟩ st3 ⟨hS3,hQ⟩
         cases hQ with
         | res r hr hR=>cases hr; exact wpS_pure ⟨hS3,r,rfl,hR⟩
         | go I3 =>
           have hc:=I3.no
           cases hc
           exact wpS_bind (wpS_modify (wpS_pure ⟨hS3.trans ⟨rfl,rfl,rfl,rfl⟩,⟨rfl,I3.mg,I3.la,I3.lb,Nat.le_trans (Nat.succ_le_succ I.lt) I3.lt⟩⟩))
       case gstep =>
         intro y c1 st1 _ hy ⟨Sm1,I1⟩
         have gy:=arr_get I1.lb
         have la:=I1.la
         extract_lets s1 out s2 ia s3 ib s4 mg s5 ac bc ib1 jp mg1
         refine have hjp:∀ g st2,Sm st st2→wpS (model prog w) A E s (jp () g) _ st2:=?_; wp_ite (fun _=>hjp _ _ Sm1) fun _=>hjp _ _ Sm1
         intro g st0 Sm0
         refine wpS_bind (wp_pace fun st2 Sm2=>?_)
         have Sm':=Sm0.trans Sm2
         obtain ⟨k,d1,d2,d3,d4⟩:=cut_end' (a₀:=a₀) (key:=key) (left:=false) (x:=b.getD ib (Value.none,Value.none)) (arr:=a) (base:=ia) (Nat.le_of_lt (Nat.lt_of_succ_lt la)) sa ma
         refine wpS_bind (wp_elem gy.1 (wpS_bind (wp_gallop L (Nat.sub_pos_of_lt (Nat.lt_of_succ_lt la)) d1 d2 (mb _ gy.2.2) (Sm'.kind.trans hk) ?_)))
         clear_value jp
         dsimp -zeta only
         extract_lets ak jp2 out1 ia1
         have J1:=I1.mg.galX (k:=k) fun u hu v hv=>Int.le_trans (d3 u hu) (srt_drop_le sb gy.2.1 v hv)
         have gl:c.2.2.1 + c.2.2.2.1 + 1≤ia + ib:=I1.lt
         refine have h2:∀ out ia,Mg key a.toList b.toList out ia ib→ia + 1 < a.size→(∀ u∈a.toList.drop ia,key (b.getD ib (Value.none,Value.none))≤key u)→c.2.2.1 + c.2.2.2.1 + 1≤ia + ib→wpS (model prog w) A E s (jp2 () out ia) _ st2:=?_
           wp_ite (fun _=>wp_ite (fun e=>wpS_pure ⟨Sm',.res _ rfl (J1.endX (lastA (beq_of e)) endA)⟩) fun e=>wp_ite (fun e'=>wpS_pure ⟨Sm',.res _ rfl (J1.endX0 (by rw [Array.length_toList]; exact Nat.le_of_eq (beq_of e').symm) (endA0 (beq_of e')))⟩) fun e'=>h2 _ _ J1 (lt2 d1 la (ne_of e) (ne_of e')) d4 (Nat.le_trans gl (Nat.add_le_add_right (Nat.le_add_right _ _) _)))
             fun hk=>h2 _ _ I1.mg la (by rw [Nat.eq_zero_of_not_pos hk] at d4; exact d4) gl
         intro out0 ia0 J la0 d5 gl0
         have J2:=J.pushY gy.2.1 d5
         have gx:=arr_get (Nat.lt_of_succ_lt la0)
         refine wpS_bind (wp_elem gy.1 (wp_ite (fun e=>wpS_pure ⟨Sm',.res _ rfl (endY J2 (beq_of e))⟩) fun e=>wpS_bind (wp_elem gx.1 ?_)))
         have lb1:ib + 1 < b.size:=Nat.lt_of_le_of_ne I1.lb (ne_of e)
         obtain ⟨k1,c1,c2,c3,c4⟩:=cut_end' (a₀:=a₀) (key:=key) (left:=true) (x:=a.getD ia0 (Value.none,Value.none)) (arr:=b) (base:=ib + 1) (Nat.le_of_lt lb1) sb mb
         refine wpS_bind (wp_gallop L (Nat.sub_pos_of_lt lb1) c1 c2 (ma _ gx.2.2) (Sm'.kind.trans hk) ?_)
         clear_value jp2
         dsimp -zeta only
         extract_lets bk ia3 jp3 out3 ib3
         have J3:=J2.galY (k:=k1) fun u hu v hv=>Int.le_trans (c3 u hu) (srt_drop_le sa gx.2.1 v hv)
         refine have h3:∀ out ib',Mg key a.toList b.toList out ia0 ib'→ib' < b.size→(∀ u∈b.toList.drop ib',key (a.getD ia0 (Value.none,Value.none))≤key u)→ib≤ib'→wpS (model prog w) A E s (jp3 () out ib') _ st2:=?_
           wp_ite (fun _=>wp_ite (fun e=>wpS_pure ⟨Sm',.res _ rfl (endY J3 (beq_of e))⟩) fun e=>h3 _ _ J3 (lt3 c1 lb1 (ne_of e)) c4 (Nat.le_trans (Nat.le_succ _) (Nat.le_add_right _ _)))
             fun hk=>h3 _ _ J2 lb1 (by rw [Nat.eq_zero_of_not_pos hk] at c4; exact c4) (Nat.le_succ _)
         intro out4 ib4 J' lb4 d6 g4
         have J4:=J'.pushX gx.2.1 d6
         refine wpS_bind (wp_elem gx.1 (wp_ite (fun e=>wpS_pure ⟨Sm',.res _ rfl (J4.endX (lastA (beq_of e)) endA)⟩) fun e=>?_))
         have I4:LoI key a b none _ _ _ (c.2.2.1 + c.2.2.2.1 + 1):=⟨rfl,J4,Nat.lt_of_le_of_ne la0 (ne_of e),lb4,Nat.le_trans gl0 (Nat.add_le_add (Nat.le_succ _) g4)⟩
         exact wp_ite (fun _=>wpS_pure ⟨Sm',.go I4⟩) fun _=>wpS_pure ⟨Sm',I4⟩
end
end L2.Tim
end
section
namespace L2.Tim
open PySem PySem.W PySem.Calls PyProof PyProof.Rows
section
variable {prog:Program} {w:World} {A:Around} {E:Value→Shared→Prop} {s:Shared} {κ:SortKind} {a₀:Array Keyed} {key:Keyed→Int}
structure Mh (key:Keyed→Int) (X Y:List Keyed) (out:Array Keyed) (na nb:Nat):Prop where
 sx:Srt key (X.take na++out.toList.reverse)
 sy:Srt key (Y.take nb++out.toList.reverse)
 pm:out.toList.reverse.Perm (X.drop na++Y.drop nb)
theorem srt_mid' {o p q r:List Keyed} (h1:Srt key ((p++q)++o)) (h2:Srt key (r++o)) (h:∀ u∈r,∀ v∈q,key u≤key v):Srt key (r++(q++o)):=by
 unfold Srt at *
 rw [List.append_assoc] at h1
 rw [List.pairwise_append] at h1 h2 ⊢
 refine ⟨h2.1,h1.2.1,fun a ha b hb=>?_⟩
 rcases List.mem_append.mp hb with hb | hb
 . exact h a ha b hb
 . exact h2.2.2 a ha b hb
theorem Mh.moveX {X Y:List Keyed} {out out':Array Keyed} {na nb na':Nat} {mid:List Keyed} (h:Mh key X Y out na nb) (hm:X.take na=X.take na'++mid) (hd:X.drop na'=mid++X.drop na) (hle:∀ u∈Y.take nb,∀ v∈mid,key u≤key v) (ho:out'.toList.reverse=mid++out.toList.reverse):Mh key X Y out' na' nb:=by
 have sx:=h.sx
 rw [hm] at sx
 refine ⟨?_,?_,?_⟩
 . rw [ho,← List.append_assoc]; exact sx
 . rw [ho]; exact srt_mid' sx h.sy hle
 . rw [ho,hd,List.append_assoc]; exact h.pm.append_left _
theorem Mh.moveY {X Y:List Keyed} {out out':Array Keyed} {na nb nb':Nat} {mid:List Keyed} (h:Mh key X Y out na nb) (hm:Y.take nb=Y.take nb'++mid) (hd:Y.drop nb'=mid++Y.drop nb) (hle:∀ u∈X.take na,∀ v∈mid,key u≤key v) (ho:out'.toList.reverse=mid++out.toList.reverse):Mh key X Y out' na nb':=by
 have sy:=h.sy
 rw [hm] at sy
 refine ⟨?_,?_,?_⟩
 . rw [ho]; exact srt_mid' sy h.sx hle
 . rw [ho,← List.append_assoc]; exact sy
 . rw [ho,hd]
   refine (h.pm.append_left mid).trans ?_
   rw [←List.append_assoc,← List.append_assoc]
   exact List.perm_append_comm.append_right _
theorem push_rev {out:Array Keyed} {x:Keyed}:(out.push x).toList.reverse=[x]++out.toList.reverse:=by
 rw [Array.toList_push,List.reverse_append]; rfl
theorem take_pred {X:List Keyed} {na:Nat} {x:Keyed} (h0:0 < na) (hx:X[na - 1]?=some x):X.take na=X.take (na - 1)++[x]∧X.drop (na - 1)=[x]++X.drop na:=by
 obtain ⟨hlt,e⟩:=List.getElem?_eq_some_iff.mp hx
 refine ⟨?_,?_⟩
 . have:=List.take_succ (l:=X) (i:=na - 1)
   rw [show na - 1 + 1=na by omega,hx] at this
   exact this
 . rw [List.drop_eq_getElem_cons hlt,e,show na - 1 + 1=na by omega]; rfl
theorem Mh.pushX {X Y:List Keyed} {out:Array Keyed} {na nb:Nat} {x:Keyed} (h:Mh key X Y out na nb) (h0:0 < na) (hx:X[na - 1]?=some x) (hle:∀ u∈Y.take nb,key u≤key x):Mh key X Y (out.push x) (na - 1) nb:=
 h.moveX (take_pred h0 hx).1 (take_pred h0 hx).2 (fun u hu v hv=>by rw [List.mem_singleton.mp hv]; exact hle u hu) push_rev
theorem Mh.pushY {X Y:List Keyed} {out:Array Keyed} {na nb:Nat} {y:Keyed} (h:Mh key X Y out na nb) (h0:0 < nb) (hy:Y[nb - 1]?=some y) (hle:∀ u∈X.take na,key u≤key y):Mh key X Y (out.push y) na (nb - 1):=
 h.moveY (take_pred h0 hy).1 (take_pred h0 hy).2 (fun u hu v hv=>by rw [List.mem_singleton.mp hv]; exact hle u hu) push_rev
theorem blk_rev {out a:Array Keyed} {i n:Nat}:(out++(a.extract i n).reverse).toList.reverse=(a.toList.take n).drop i++out.toList.reverse:=by
 rw [Array.toList_append,Array.toList_reverse,List.reverse_append,List.reverse_reverse,Array.toList_extract,List.extract_eq_drop_take,← List.drop_take]
theorem take_split {X:List Keyed} {i n:Nat} (h:i≤n):X.take n=X.take i++(X.take n).drop i∧X.drop i=(X.take n).drop i++X.drop n:=by
 refine ⟨?_,?_⟩
 . have:=(List.take_append_drop i (X.take n)).symm
   rwa [List.take_take,Nat.min_eq_left h] at this
 . have:X.drop n=(X.drop i).drop (n - i):=by rw [List.drop_drop]; congr 1; omega
   rw [List.drop_take,this,List.take_append_drop]
theorem Mh.galX {a b out:Array Keyed} {na nb k:Nat} (h:Mh key a.toList b.toList out na nb) (hk:k≤na) (hle:∀ u∈b.toList.take nb,∀ v∈(a.toList.take na).drop k,key u≤key v):Mh key a.toList b.toList (out++(a.extract k na).reverse) k nb:=
 h.moveX (take_split hk).1 (take_split hk).2 hle blk_rev
theorem Mh.galY {a b out:Array Keyed} {na nb k:Nat} (h:Mh key a.toList b.toList out na nb) (hk:k≤nb) (hle:∀ u∈a.toList.take na,∀ v∈(b.toList.take nb).drop k,key u≤key v):Mh key a.toList b.toList (out++(b.extract k nb).reverse) na k:=
 h.moveY (take_split hk).1 (take_split hk).2 hle blk_rev
theorem Mh.endX {X Y:List Keyed} {out r:Array Keyed} {na nb:Nat} (h:Mh key X Y out na nb) (h0:na=0) (hr:r.toList=Y.take nb++out.toList.reverse):Res key X Y r:=by
 subst h0
 refine ⟨by rw [hr]; exact h.sy,?_⟩
 rw [hr]
 refine (h.pm.append_left _).trans ?_
 rw [List.drop_zero,← List.append_assoc]
 refine (List.perm_append_comm.append_right _).trans ?_
 rw [List.append_assoc,List.take_append_drop]
theorem Mh.endY0 {X Y:List Keyed} {out r:Array Keyed} {na nb:Nat} (h:Mh key X Y out na nb) (h0:nb=0) (hr:r.toList=X.take na++out.toList.reverse):Res key X Y r:=by
 subst h0
 refine ⟨by rw [hr]; exact h.sx,?_⟩
 rw [hr]
 refine (h.pm.append_left _).trans ?_
 rw [List.drop_zero,← List.append_assoc,List.take_append_drop]
theorem Mh.endY {X Y:List Keyed} {out r:Array Keyed} {na nb:Nat} (h:Mh key X Y out na nb) (hl:∀ u∈Y.take nb,∀ v∈X,key u≤key v) (hr:r.toList=Y.take nb++X.take na++out.toList.reverse):Res key X Y r:=by
 have m:=h.moveX (na':=0) (mid:=X.take na) (by simp) (by rw [List.drop_zero,List.take_append_drop]) (fun u hu v hv=>hl u hu v (List.mem_of_mem_take hv)) (out':=(X.take na++out.toList.reverse).reverse.toArray) (by simp)
 refine m.endX rfl ?_
 rw [hr]; simp
theorem srt_take_le {l:List Keyed} (h:Srt key l) {i:Nat} {x:Keyed} (hx:l[i]?=some x):∀ u∈l.take (i + 1),key u≤key x:=fun u hu=>by
 obtain ⟨hlt,e⟩:=List.getElem?_eq_some_iff.mp hx
 obtain ⟨j,hj,rfl⟩:=List.getElem_of_mem hu
 rw [List.length_take] at hj
 rw [List.getElem_take,← e]
 by_cases hji:j=i
 . subst hji; exact Int.le_refl _
 . exact List.pairwise_iff_getElem.mp h j i (by omega) hlt (by omega)
theorem ext_take {a:Array Keyed} {n:Nat}:(a.extract 0 n).toList=a.toList.take n:=by
 rw [Array.toList_extract,List.extract_eq_drop_take,List.drop_zero,Nat.sub_zero]
noncomputable def mergeHi':Array Keyed→Array Keyed→StateT SortSt Sem (Array Keyed):=sortPriv% PySem.Builtin.mergeHi
theorem le0 {m n:Nat} (h:0 < m):m - 1 + n + (0 + 1)≤m + n:=by omega
theorem le1 {m n y t:Nat} (h:0 < m) (h':m + n + y≤t):m - 1 + n + (y + 1)≤t:=by omega
theorem le2 {m n y t:Nat} (h:1 < n) (h':m + n + y≤t):m + (n - 1) + (y + 1)≤t:=by omega
theorem le3 {m t x u:Nat} (h:m + 1≤t) (h':t + (x + 1)≤u):m + (x + 1 + 1)≤u:=by omega
theorem le4 {m n m' n' t:Nat} (h:m'≤m) (h':n'≤n - 1) (g:m + n + 1≤t):m' - 1 + n' + 1≤t:=by omega
theorem gt1 {n:Nat} (h:1 < n) (h':n - 1≠1):1 < n - 1:=by omega
theorem pred1 {l:List Keyed} {n:Nat} {u:Keyed} (h:0 < n) (hu:u∈l.take n):u∈l.take (n - 1 + 1):=by rwa [Nat.sub_add_cancel h]
structure HiI (key:Keyed→Int) (a b:Array Keyed) (c:Option (Array Keyed)) (na nb:Nat) (out:Array Keyed) (x t:Nat):Prop where
 no:c=none
 mg:Mh key a.toList b.toList out na nb
 la:0 < na
 lb:1 < nb
 ua:na≤a.size
 ub:nb≤b.size
 lt:na + nb + x≤t
theorem HiI.mono {a b out:Array Keyed} {c:Option (Array Keyed)} {na nb x x' t:Nat} (h:HiI key a b c na nb out x t) (k:x'≤x):HiI key a b c na nb out x' t:=⟨h.no,h.mg,h.la,h.lb,h.ua,h.ub,Nat.le_trans (Nat.add_le_add_left k _) h.lt⟩
inductive HiQ (key:Keyed→Int) (a b:Array Keyed) (c:Option (Array Keyed)) (na nb:Nat) (out:Array Keyed) (x t:Nat):Prop where
 | res (r:Array Keyed) (h:c=some r) (hr:Res key a.toList b.toList r):HiQ key a b c na nb out x t
 | go (h:HiI key a b c na nb out x t):HiQ key a b c na nb out x t
theorem wp_hi (L:LtOk prog w A E s κ a₀ key) {a b:Array Keyed} (ha:0 < a.size) (hb:0 < b.size) (ma:∀ x∈a.toList,x∈a₀.toList) (mb:∀ x∈b.toList,x∈a₀.toList) (sa:Srt key a.toList) (sb:Srt key b.toList)
   (h1:∀ u∈a.toList,key (b.getD 0 (Value.none,Value.none))≤key u) (h2:∀ u∈b.toList,key u≤key (a.getD (a.size - 1) (Value.none,Value.none))) {st:SortSt} (hk:kindOf st=κ) {Q:Array Keyed→SortSt→Prop} (q:∀ r st',Sm st st'→Res key a.toList b.toList r→Q r st') :
   wpS (model prog w) A E s (mergeHi' a b) Q st:=by
 have gb0:=arr_get hb
 have firstB:∀ {n:Nat},n≤1→∀ u∈b.toList.take n,∀ v∈a.toList,key u≤key v:=fun {n} hn u hu v hv=>by
   have hu:u∈b.toList.take 1:=List.mem_of_mem_take (i:=n) (by rwa [List.take_take,Nat.min_eq_left hn])
   have e:b.toList.take 1=[b.getD 0 (Value.none,Value.none)]:=by
     have:=List.take_succ (l:=b.toList) (i:=0)
     rw [gb0.2.1] at this
     exact this
   rw [e,List.mem_singleton] at hu
   rw [hu]; exact h1 v hv
 have endA:∀ {out:Array Keyed} {n m:Nat},n=0→(a.extract 0 n++b.extract 0 m++out.reverse).toList=b.toList.take m++out.toList.reverse:=fun {out n m} hn=>by
   subst hn
   rw [Array.toList_append,Array.toList_append,ext_take,ext_take,Array.toList_reverse,List.take_zero,List.nil_append]
 have endZ:∀ {out:Array Keyed} {n m:Nat},m=0→(a.extract 0 n++b.extract 0 m++out.reverse).toList=a.toList.take n++out.toList.reverse:=fun {out n m} hn=>by
   subst hn
   rw [Array.toList_append,Array.toList_append,ext_take,ext_take,Array.toList_reverse,List.take_zero,List.append_nil]
 have endF:∀ {out:Array Keyed} {n m:Nat},(b.extract 0 m++a.extract 0 n++out.reverse).toList=b.toList.take m++a.toList.take n++out.toList.reverse:=fun {out n m}=>by
   rw [Array.toList_append,Array.toList_append,ext_take,ext_take,Array.toList_reverse]
 have ga0:=arr_get (show a.size - 1 < a.size by omega)
 have J0:Mh key a.toList b.toList #[a.getD (a.size - 1) (Value.none,Value.none)] (a.size - 1) b.size:=by
   have:Mh key a.toList b.toList #[] a.size b.size:=by
     have ea:a.toList.take a.size=a.toList:=List.take_of_length_le (by rw [Array.length_toList]; exact Nat.le_refl _)
     have eb:b.toList.take b.size=b.toList:=List.take_of_length_le (by rw [Array.length_toList]; exact Nat.le_refl _)
     refine ⟨?_,?_,?_⟩
     . rw [ea]; simpa using sa
     . rw [eb]; simpa using sb
     . rw [List.drop_of_length_le (by rw [Array.length_toList]; exact Nat.le_refl _),List.drop_of_length_le (by rw [Array.length_toList]; exact Nat.le_refl _)]; exact .refl _
   exact this.pushX ha ga0.2.1 fun u hu=>h2 u (List.mem_of_mem_take hu)
 unfold mergeHi'
 refine wpS_bind (wpS_lift (wpAny_rule ⟨rfl,?_⟩))
 refine wpS_bind (wp_elem ga0.1 ?_)
 refine wp_ite (fun e1=>wpS_pure (q _ _ .refl (J0.endX (beq_of e1) (endA (beq_of e1))))) fun e1=>?_
 refine wp_ite (fun e2=>wpS_pure (q _ _ .refl (J0.endY (firstB (Nat.le_of_eq (beq_of e2))) endF))) fun e2=>?_
 refine wpS_bind (wpS_get ?_)
 refine wpS_bind (wpS_mono (wpS_forRange (I:=fun x c st'=>Sm st st'∧HiI key a b c.1 c.2.1 c.2.2.1 c.2.2.2.1 (x + 1) (a.size + b.size)) (Q:=fun c st'=>Sm st st'∧∃ r,c.1=some r∧Res key a.toList b.toList r) ?step ?fin ⟨.refl,⟨rfl,J0,Nat.pos_of_ne_zero (ne_of e1),Nat.lt_of_le_of_ne hb (ne_of e2).symm,Nat.sub_le _ _,Nat.le_refl _,le0 ha⟩⟩) ?post)
 case fin =>
   intro c st' h
   have h3:=h.2.lt
   omega
 case post =>
   rintro ⟨c1,c⟩ st' ⟨hS,r,hr,hR⟩
   cases hr
   exact wpS_pure (q r _ hS hR)
 case step =>
   intro x c st' _ hx ⟨hS,I⟩
   refine wpS_bind (wpS_mono (wpS_forRange (I:=fun y c' st''=>Sm st st''∧HiI key a b c'.1 c'.2.1 c'.2.2.1 c'.2.2.2.1 y (c.2.1 + c.2.2.1)) (Q:=fun c' st''=>Sm st st''∧HiQ key a b c'.1 c'.2.1 c'.2.2.1 c'.2.2.2.1 1 (c.2.1 + c.2.2.1)) ?istep ?ifin ⟨hS,⟨rfl,I.mg,I.la,I.lb,I.ua,I.ub,Nat.le_refl _⟩⟩) ?ipost)
   case ifin=>exact fun c st'' h=>⟨h.1,.go (h.2.mono (Nat.le_trans ha (Nat.le_trans (Nat.le_add_right _ _) (Nat.le_max_right _ _))))⟩
   case istep =>
     intro y c' st'' _ hy ⟨hS2,I'⟩
     have gx:=arr_get (Nat.lt_of_lt_of_le (Nat.sub_lt I'.la Nat.one_pos) I'.ua)
     have gy:=arr_get (Nat.lt_of_lt_of_le (Nat.sub_lt (Nat.lt_of_succ_lt I'.lb) Nat.one_pos) I'.ub)
     refine wpS_bind (wp_elem gy.1 (wpS_bind (wp_elem gx.1 (wpS_bind (L _ _ _ _ (mb _ gy.2.2) (ma _ gx.2.2) (hS2.kind.trans hk) ?_)))))
     refine wp_ite (fun hlt=>wpS_bind (wp_elem gx.1 ?_)) (fun hlt=>wpS_bind (wp_elem gy.1 ?_))
     . have J2:=I'.mg.pushX I'.la gx.2.1 fun u hu=>Int.le_trans (srt_take_le sb gy.2.1 u (pred1 (Nat.lt_of_succ_lt I'.lb) hu)) (Int.le_of_lt (of_decide_eq_true hlt))
       refine wp_ite (fun e3=>wpS_pure ⟨hS2,.res _ rfl (J2.endX (beq_of e3) (endA (beq_of e3)))⟩) fun e3=>?_
       have I2:HiI key a b none _ _ _ (y + 1) (c.2.1 + c.2.2.1):=⟨rfl,J2,Nat.pos_of_ne_zero (ne_of e3),I'.lb,Nat.le_trans (Nat.sub_le _ _) I'.ua,I'.ub,le1 I'.la I'.lt⟩
       exact wp_ite (fun _=>wpS_pure ⟨hS2,.go (I2.mono (Nat.le_add_left 1 y))⟩) fun _=>wpS_pure ⟨hS2,I2⟩
     . have J2:=I'.mg.pushY (Nat.lt_of_succ_lt I'.lb) gy.2.1 fun u hu=>Int.le_trans (srt_take_le sa gx.2.1 u (pred1 I'.la hu)) (Int.not_lt.mp (of_decide_eq_false (Bool.eq_false_iff.mpr hlt)))
       refine wp_ite (fun e3=>wpS_pure ⟨hS2,.res _ rfl (J2.endY (firstB (Nat.le_of_eq (beq_of e3))) endF)⟩) fun e3=>?_
       have I2:HiI key a b none _ _ _ (y + 1) (c.2.1 + c.2.2.1):=⟨rfl,J2,I'.la,gt1 I'.lb (ne_of e3),I'.ua,Nat.le_trans (Nat.sub_le _ _) I'.ub,le2 I'.lb I'.lt⟩
       exact wp_ite (fun _=>wpS_pure ⟨hS2,.go (I2.mono (Nat.le_add_left 1 y))⟩) fun _=>wpS_pure ⟨hS2,I2⟩
   case ipost =>
     rintro ⟨c1,c'⟩ st'' ⟨hS2,hQ⟩
     cases hQ with
     | res r hr hR=>cases hr; exact wpS_pure ⟨hS2,r,rfl,hR⟩
     | go I' =>
       have hc:=I'.no
       cases hc
       refine wpS_bind (wpS_lift (wpAny_rule ⟨rfl,?_⟩))
       refine wpS_bind (wpS_mono (wpS_forRange (I:=fun y c1 st3=>Sm st st3∧HiI key a b c1.1 c1.2.1 c1.2.2.1 c1.2.2.2.1 1 (c.2.1 + c.2.2.1)) (Q:=fun c1 st3=>Sm st st3∧HiQ key a b c1.1 c1.2.1 c1.2.2.1 c1.2.2.2.1 1 (c.2.1 + c.2.2.1)) ?gstep (fun c st3 h=>⟨h.1,.go h.2⟩) ⟨hS2,⟨rfl,I'.mg,I'.la,I'.lb,I'.ua,I'.ub,I'.lt⟩⟩) ?gpost)
       case gpost =>
         rintro ⟨c2,c3⟩ st3 ⟨hS3,hQ⟩
         cases hQ with
         | res r hr hR=>cases hr; exact wpS_pure ⟨hS3,r,rfl,hR⟩
         | go I3 =>
           have hc:=I3.no
           cases hc
           exact wpS_bind (wpS_modify (wpS_pure ⟨hS3.trans ⟨rfl,rfl,rfl,rfl⟩,⟨rfl,I3.mg,I3.la,I3.lb,I3.ua,I3.ub,le3 I3.lt I.lt⟩⟩))
       case gstep =>
         intro y c1 st1 _ hy ⟨Sm1,I1⟩
         have gy:=arr_get (Nat.lt_of_lt_of_le (Nat.sub_lt (Nat.lt_of_succ_lt I1.lb) Nat.one_pos) I1.ub)
         extract_lets s1 na s2 nb s3 out s4 mg s5 ac bc nb1 jp mg1
         have gl:na + nb + 1≤c.2.1 + c.2.2.1:=I1.lt
         have la:0 < na:=I1.la
         have lb:0 < nb:=Nat.lt_of_succ_lt I1.lb
         have ua:na≤a.size:=I1.ua
         refine have hjp:∀ g st2,Sm st st2→wpS (model prog w) A E s (jp () g) _ st2:=?_; wp_ite (fun _=>hjp _ _ Sm1) fun _=>hjp _ _ Sm1
         intro g st0 Sm0
         refine wpS_bind (wp_pace fun st2 Sm2=>?_)
         have Sm':=Sm0.trans Sm2
         obtain ⟨k,d1,d2,d3,d4⟩:=cut_arr (a₀:=a₀) (key:=key) (left:=false) (x:=b.getD (nb - 1) (Value.none,Value.none)) (arr:=a) (base:=0) (n:=na) (Nat.le_trans (Nat.le_of_eq (Nat.zero_add _)) ua) (sa.sublist (List.take_sublist _ _)) (fun u hu=>ma u (List.mem_of_mem_take hu))
         refine wpS_bind (wp_elem gy.1 (wpS_bind (wp_gallop L (Nat.sub_lt la Nat.one_pos) d1 d2 (mb _ gy.2.2) (Sm'.kind.trans hk) ?_)))
         clear_value jp
         dsimp -zeta only
         extract_lets kk ak jp2 out1 na1
         have J1:=I1.mg.galX d1 fun u hu v hv=>Int.le_trans (srt_take_le sb gy.2.1 u (pred1 lb hu)) (d4 v hv)
         refine have h2:∀ na' out,Mh key a.toList b.toList out na' nb→0 < na'→(∀ u∈a.toList.take na',key u≤key (b.getD (nb - 1) (Value.none,Value.none)))→na'≤na→wpS (model prog w) A E s (jp2 () na' out) _ st2:=?_
           wp_ite (fun _=>wp_ite (fun e=>wpS_pure ⟨Sm',.res _ rfl (J1.endX (beq_of e) (endA (beq_of e)))⟩) fun e=>h2 _ _ J1 (Nat.pos_of_ne_zero (ne_of e)) d3 d1)
             fun hk=>h2 _ _ I1.mg la (Nat.le_antisymm d1 (Nat.le_of_sub_eq_zero (Nat.eq_zero_of_not_pos hk)) ▸ d3) (Nat.le_refl _)
         intro na0 out0 J la0 d5 g0
         have J2:=J.pushY lb gy.2.1 d5
         have gx:=arr_get (Nat.lt_of_lt_of_le (Nat.sub_lt la0 Nat.one_pos) (Nat.le_trans g0 ua))
         refine wpS_bind (wp_elem gy.1 (wp_ite (fun e=>wpS_pure ⟨Sm',.res _ rfl (J2.endY (firstB (Nat.le_of_eq (beq_of e))) endF)⟩) fun e=>wpS_bind (wp_elem gx.1 ?_)))
         have lb1:1 < nb - 1:=gt1 I1.lb (ne_of e)
         have ub1:nb - 1≤b.size:=Nat.le_trans (Nat.sub_le _ _) I1.ub
         obtain ⟨k1,c1,c2,c3,c4⟩:=cut_arr (a₀:=a₀) (key:=key) (left:=true) (x:=a.getD (na0 - 1) (Value.none,Value.none)) (arr:=b) (base:=0) (n:=nb - 1) (Nat.le_trans (Nat.le_of_eq (Nat.zero_add _)) ub1) (sb.sublist (List.take_sublist _ _)) (fun u hu=>mb u (List.mem_of_mem_take hu))
         refine wpS_bind (wp_gallop L (Nat.sub_lt (Nat.lt_of_succ_lt lb1) Nat.one_pos) c1 c2 (ma _ gx.2.2) (Sm'.kind.trans hk) ?_)
         clear_value jp2
         dsimp -zeta only
         extract_lets kk1 bk na3 jp3 out3 nb3
         have J3:=J2.galY c1 fun u hu v hv=>Int.le_trans (srt_take_le sa gx.2.1 u (pred1 la0 hu)) (c4 v hv)
         refine have h3:∀ nb' out,Mh key a.toList b.toList out na0 nb'→1 < nb'→(∀ u∈b.toList.take nb',key u≤key (a.getD (na0 - 1) (Value.none,Value.none)))→nb'≤nb - 1→wpS (model prog w) A E s (jp3 () nb' out) _ st2:=?_
           wp_ite (fun _=>wp_ite (fun e=>wpS_pure ⟨Sm',.res _ rfl (J3.endY (firstB (Nat.le_of_eq (beq_of e))) endF)⟩) fun e=>wp_ite (fun e'=>wpS_pure ⟨Sm',.res _ rfl (J3.endY0 (beq_of e') (endZ (beq_of e')))⟩) fun e'=>h3 _ _ J3 (Nat.lt_of_le_of_ne (Nat.pos_of_ne_zero (ne_of e')) (ne_of e).symm) c3 c1)
             fun hk=>h3 _ _ J2 lb1 ((congrArg (fun n=>∀ u∈b.toList.take n,key u≤key (a.getD (na0 - 1) (Value.none,Value.none))) (Nat.le_antisymm c1 (Nat.le_of_sub_eq_zero (Nat.eq_zero_of_not_pos hk)))).mp c3) (Nat.le_refl _)
         intro nb4 out4 J' lb4 d6 g4
         have J4:=J'.pushX la0 gx.2.1 d6
         refine wpS_bind (wp_elem gx.1 (wp_ite (fun e=>wpS_pure ⟨Sm',.res _ rfl (J4.endX (beq_of e) (endA (beq_of e)))⟩) fun e=>?_))
         have I4:HiI key a b none _ _ _ 1 (c.2.1 + c.2.2.1):=⟨rfl,J4,Nat.pos_of_ne_zero (ne_of e),lb4,Nat.le_trans (Nat.sub_le _ _) (Nat.le_trans g0 ua),Nat.le_trans g4 ub1,le4 g0 g4 gl⟩
         exact wp_ite (fun _=>wpS_pure ⟨Sm',.go I4⟩) fun _=>wpS_pure ⟨Sm',I4⟩
end
end L2.Tim
end
section
namespace L2.Tim
open PySem PySem.W PySem.Calls PyProof PyProof.Rows
section
variable {prog:Program} {w:World} {A:Around} {E:Value→Shared→Prop} {s:Shared} {κ:SortKind} {a₀:Array Keyed} {key:Keyed→Int}
theorem wpS_set {σ:Type} {M:Model} {x:σ} {Q:PUnit→σ→Prop} {st:σ} (h:Q ⟨⟩ x):wpS M A E s (set x:StateT σ Sem PUnit) Q st:=by
 unfold wpS; rw [StateT.run_set]; exact wpAny_pure ⟨rfl,h⟩
theorem kk_get {a:Array Keyed} {i:Nat} (h:i < a.size):kk key a i=key (a.toList[i]'(by rw [Array.length_toList]; exact h)):=by
 unfold kk
 congr 1
 simp [Array.getD,h]
theorem slice_len {a:Array Keyed} {lo n:Nat} (h:lo + n≤a.size):((a.toList.drop lo).take n).length=n:=by rw [List.length_take,List.length_drop,Array.length_toList]; omega
theorem srt_of {a:Array Keyed} {lo n:Nat} (h:lo + n≤a.size) (hs:SIn key a lo n):Srt key ((a.toList.drop lo).take n):=by
 unfold Srt
 rw [List.pairwise_iff_getElem]
 intro i j hi hj hij
 rw [slice_len h] at hi hj
 have e1:=kk_get (key:=key) (a:=a) (i:=lo + i) (by omega)
 have e2:=kk_get (key:=key) (a:=a) (i:=lo + j) (by omega)
 rw [List.getElem_take,List.getElem_drop,List.getElem_take,List.getElem_drop,← e1,← e2]
 exact hs i j (by omega) hj
theorem of_srt {a:Array Keyed} {lo n:Nat} (h:lo + n≤a.size) (hs:Srt key ((a.toList.drop lo).take n)):SIn key a lo n:=fun i j hij hj=>by
 by_cases e:i=j
 . subst e; exact Int.le_refl _
 . have:=List.pairwise_iff_getElem.mp hs i j (by rw [slice_len h]; omega) (by rw [slice_len h]; omega) (by omega)
   have e1:=kk_get (key:=key) (a:=a) (i:=lo + i) (by omega)
   have e2:=kk_get (key:=key) (a:=a) (i:=lo + j) (by omega)
   rw [List.getElem_take,List.getElem_drop,List.getElem_take,List.getElem_drop,← e1,← e2] at this
   exact this
theorem put_list (o:Nat):∀ (m:List Keyed) (j:Nat) (a:Array Keyed),o + j + m.length≤a.size→((m.zipIdx j).foldl (fun a p=>a.setIfInBounds (o + p.2) p.1) a).toList=a.toList.take (o + j)++m++a.toList.drop (o + j + m.length)
 | [],j,a,_=>by simp
 | x :: t,j,a,h=>by
   rw [List.length_cons] at h
   rw [List.zipIdx_cons,List.foldl_cons,put_list o t (j + 1) _ (by rw [Array.size_setIfInBounds]; omega)]
   have hl:o + j < a.toList.length:=by rw [Array.length_toList]; omega
   show ((a.setIfInBounds (o + j) x).toList.take (o + (j + 1))++t)++_=_
   rw [Array.toList_setIfInBounds]
   have e1:(a.toList.set (o + j) x).take (o + (j + 1))=a.toList.take (o + j)++[x]:=by
     rw [show o + (j + 1)=(o + j) + 1 by omega,List.take_succ,List.take_set_of_le (Nat.le_refl _),List.getElem?_set_self hl]; rfl
   have e2:(a.toList.set (o + j) x).drop (o + (j + 1) + t.length)=a.toList.drop (o + j + (x :: t).length):=by
     rw [List.drop_set_of_lt (by omega),List.length_cons]; congr 1; omega
   rw [e1,e2,List.append_assoc,List.append_assoc,List.append_assoc]; rfl
theorem swap_mid {a a':Array Keyed} {sa n:Nat} {M:List Keyed} (hz:sa + n≤a.size) (hM:M.Perm ((a.toList.drop sa).take n)) (e:a'.toList=a.toList.take sa++M++a.toList.drop (sa + n)):a'.Perm a∧(a'.toList.drop sa).take n=M∧∀ j,j < sa ∨ sa + n≤j→a'[j]?=a[j]?:=by
 have hl:M.length=n:=by rw [hM.length_eq,slice_len hz]
 have ht:(a.toList.take sa).length=sa:=by rw [List.length_take,Array.length_toList]; omega
 refine ⟨?_,?_,fun j hj=>?_⟩
 . rw [Array.perm_iff_toList_perm,e]
   have e2:a.toList=a.toList.take sa++(a.toList.drop sa).take n++a.toList.drop (sa + n):=by
     rw [List.append_assoc,← drop_split,List.take_append_drop]
   refine List.Perm.trans ?_ (.of_eq e2.symm)
   exact (hM.append_left _).append_right _
 . rw [e,List.append_assoc,List.drop_append_of_le_length (by omega),List.drop_of_length_le (by omega),List.nil_append,List.take_append_of_le_length (by omega),List.take_of_length_le (by omega)]
 . rw [←Array.getElem?_toList,← Array.getElem?_toList,e,List.append_assoc]
   rcases hj with hj | hj
   . rw [List.getElem?_append_left (by omega),List.getElem?_take_of_lt hj]
   . rw [List.getElem?_append_right (by omega),List.getElem?_append_right (by omega),List.getElem?_drop]
     congr 1; omega
theorem srt_app {l m:List Keyed} (h1:Srt key l) (h2:Srt key m) (h:∀ u∈l,∀ v∈m,key u≤key v):Srt key (l++m):=List.pairwise_append.mpr ⟨h1,h2,h⟩
theorem mergeAt_ok (L:LtOk prog w A E s κ a₀ key) {st:SortSt} {i sa na sb nb p1 p2:Nat} {Q:Bool→SortSt→Prop} (hB:Bs κ a₀ st) (h1:(pendingOf st)[i]?=some (sa,na,p1)) (h2:(pendingOf st)[i + 1]?=some (sb,nb,p2)) (hs:sb=sa + na) (ha:0 < na) (hb:0 < nb) (hz:sb + nb≤a₀.size) (sA:SIn key (arrOf st) sa na) (sB:SIn key (arrOf st) sb nb)
   (h:∀ st',Bs κ a₀ st'→pendingOf st'=((pendingOf st).setIfInBounds i (sa,na + nb,p1)).eraseIdxIfInBounds (i + 1)→SIn key (arrOf st') sa (na + nb)→(∀ j,j < sa ∨ sa + (na + nb)≤j→(arrOf st')[j]?=(arrOf st)[j]?)→Q true st') :
   wpS (model prog w) A E s (mergeAt' i) Q st:=by
 subst hs
 have hsz:=hB.size
 have mem:∀ x∈(arrOf st).toList,x∈a₀.toList:=fun x hx=>(Array.perm_iff_toList_perm.mp hB.perm).mem_iff.mp hx
 have hkd:=hB.kind
 have hfl:=hB.fail
 have hpm:=hB.perm
 cases st with
 | mk kd a pd mg fl =>
 dsimp only [arrOf,pendingOf,PyProof.Rows.kindOf,failedOf] at *
 have srA:=srt_of (by omega) sA
 have srB:=srt_of (by omega) sB
 have gb:=arr_get (a:=a) (i:=sa + na) (by omega)
 have gl:=arr_get (a:=a) (i:=sa + na - 1) (by omega)
 obtain ⟨k,d1,d2,d3,d4⟩:=cut_arr (a₀:=a₀) (key:=key) (left:=false) (x:=a.getD (sa + na) (Value.none,Value.none)) (arr:=a) (base:=sa) (n:=na) (by omega) srA (fun u hu=>mem u (List.mem_of_mem_drop (List.mem_of_mem_take hu)))
 obtain ⟨k1,c1,c2,c3,c4⟩:=cut_arr (a₀:=a₀) (key:=key) (left:=true) (x:=a.getD (sa + na - 1) (Value.none,Value.none)) (arr:=a) (base:=sa + na) (n:=nb) (by omega) srB (fun u hu=>mem u (List.mem_of_mem_drop (List.mem_of_mem_take hu)))
 -- the two runs as lists
 have hAB:(a.toList.drop sa).take (na + nb)=(a.toList.drop sa).take na++(a.toList.drop (sa + na)).take nb:=by rw [List.take_add,List.drop_drop]
 have fst:∀ u∈(a.toList.drop (sa + na)).take nb,key (a.getD (sa + na) (Value.none,Value.none))≤key u:=fun u hu=>by
   have e0:((a.toList.drop (sa + na)).take nb)[0]?=some (a.getD (sa + na) (Value.none,Value.none)):=by rw [List.getElem?_take_of_lt hb,List.getElem?_drop,Nat.add_zero]; exact gb.2.1
   exact srt_drop_le srB e0 u hu
 have lst:∀ u∈(a.toList.drop sa).take na,key u≤key (a.getD (sa + na - 1) (Value.none,Value.none)):=fun u hu=>by
   have e0:((a.toList.drop sa).take na)[na - 1]?=some (a.getD (sa + na - 1) (Value.none,Value.none)):=by rw [List.getElem?_take_of_lt (by omega),List.getElem?_drop,show sa + (na - 1)=sa + na - 1 by omega]; exact gl.2.1
   exact srt_take_le srA e0 u (by rw [show na - 1 + 1=na by omega,List.take_take,Nat.min_self]; exact hu)
 have whole:(∀ u∈(a.toList.drop sa).take na,∀ v∈(a.toList.drop (sa + na)).take nb,key u≤key v)→SIn key a sa (na + nb):=fun hh=>of_srt (by omega) (by rw [hAB]; exact srt_app srA srB hh)
 unfold mergeAt'
 refine wpS_bind (wpS_get ?_)
 dsimp only
 rw [h1,h2]
 dsimp only
 refine wpS_bind (wpS_set ?_)
 refine wpS_bind (wp_elem gb.1 (wpS_bind (wp_gallop L ha d1 d2 (mem _ gb.2.2) hkd ?_)))
 dsimp only
 by_cases e1:na - k=0
 . rw [if_pos (by simpa using e1)]
   refine wpS_pure (h _ ⟨hkd,hpm,hfl⟩ rfl (whole fun u hu v hv=>?_) fun j _=>rfl)
   rw [show na=k by omega] at hu
   exact Int.le_trans (d3 u hu) (fst v hv)
 . rw [if_neg (by simpa using e1)]
   rw [show sa + k + (na - k) - 1=sa + na - 1 by omega]
   refine wpS_bind (wp_elem gl.1 (wpS_bind (wp_gallop L (show nb - 1 < nb by omega) c1 c2 (mem _ gl.2.2) hkd ?_)))
   dsimp only
   by_cases e2:k1=0
   . rw [if_pos (by simpa using e2)]
     refine wpS_pure (h _ ⟨hkd,hpm,hfl⟩ rfl (whole fun u hu v hv=>?_) fun j _=>rfl)
     rw [e2,List.drop_zero] at c4
     exact Int.le_trans (lst u hu) (c4 v hv)
   . rw [if_neg (by simpa using e2)]
     have ex:(a.extract (sa + k) (sa + na)).toList=((a.toList.drop sa).take na).drop k:=by
       rw [Array.toList_extract,List.extract_eq_drop_take,List.drop_take,List.drop_drop,show sa + na - (sa + k)=na - k by omega]
     have ey:(a.extract (sa + na) (sa + na + k1)).toList=(a.toList.drop (sa + na)).take k1:=ext_mid
     have eyy:(a.toList.drop (sa + na)).take k1=((a.toList.drop (sa + na)).take nb).take k1:=by rw [List.take_take,Nat.min_eq_left c1]
     have lx:(a.extract (sa + k) (sa + na)).size=na - k:=by rw [←Array.length_toList,ex,List.length_drop,slice_len (by omega)]
     have ly:(a.extract (sa + na) (sa + na + k1)).size=k1:=by rw [←Array.length_toList,ey,slice_len (by omega)]
     have y0:(a.extract (sa + na) (sa + na + k1)).getD 0 (Value.none,Value.none)=a.getD (sa + na) (Value.none,Value.none):=by
       have:=(arr_get (a:=a.extract (sa + na) (sa + na + k1)) (i:=0) (by omega)).2.1
       rw [ey,List.getElem?_take_of_lt (by omega),List.getElem?_drop,Nat.add_zero,gb.2.1] at this
       exact (Option.some.inj this).symm
     have xl:(a.extract (sa + k) (sa + na)).getD ((a.extract (sa + k) (sa + na)).size - 1) (Value.none,Value.none)=a.getD (sa + na - 1) (Value.none,Value.none):=by
       have:=(arr_get (a:=a.extract (sa + k) (sa + na)) (i:=(a.extract (sa + k) (sa + na)).size - 1) (by omega)).2.1
       rw [lx] at this ⊢
       rw [ex,List.getElem?_drop,List.getElem?_take_of_lt (by omega),List.getElem?_drop,show sa + (k + (na - k - 1))=sa + na - 1 by omega,gl.2.1] at this
       exact (Option.some.inj this).symm
     have fin:∀ (r:Array Keyed) (st2:SortSt),Sm (SortSt.mk' kd a ((pd.setIfInBounds i (sa,na + nb,p1)).eraseIdxIfInBounds (i + 1)) mg fl) st2→Res key (a.extract (sa + k) (sa + na)).toList (a.extract (sa + na) (sa + na + k1)).toList r →
         Q (failedOf st2).isNone (SortSt.mk' (PyProof.Rows.kindOf st2) (r.toList.zipIdx.foldl (fun a p=>a.setIfInBounds (sa + k + p.2) p.1) (arrOf st2)) (pendingOf st2) (gallopOf st2) (failedOf st2)):=fun r st2 S R=>by
       have f1:=S.fail
       have f2:=S.arr
       have f3:=S.pend
       have f4:=S.kind
       dsimp only [arrOf,pendingOf,PyProof.Rows.kindOf,failedOf] at f1 f2 f3 f4
       have hrl:r.toList.length=na - k + k1:=by rw [R.perm.length_eq,List.length_append,Array.length_toList,Array.length_toList,lx,ly]
       have pl:=put_list (sa + k) r.toList 0 a (by omega)
       rw [Nat.add_zero,hrl,show sa + k + (na - k + k1)=sa + na + k1 by omega] at pl
       have sp:a.toList.take (sa + k)=a.toList.take sa++(a.toList.drop sa).take k:=List.take_add
       have sq:a.toList.drop (sa + na + k1)=((a.toList.drop (sa + na)).take nb).drop k1++a.toList.drop (sa + (na + nb)):=by
         have:=(take_split (X:=a.toList.drop (sa + na)) c1).2
         rw [List.drop_drop,List.drop_drop] at this
         rw [this]; congr 2; omega
       rw [sp,sq] at pl
       have pl2:(r.toList.zipIdx.foldl (fun a p=>a.setIfInBounds (sa + k + p.2) p.1) a).toList=a.toList.take sa++((a.toList.drop sa).take k++r.toList++((a.toList.drop (sa + na)).take nb).drop k1)++a.toList.drop (sa + (na + nb)):=by
         rw [pl]; simp only [List.append_assoc]
       have rp:=R.perm
       rw [ex,ey,eyy] at rp
       have ekk:(a.toList.drop sa).take k=((a.toList.drop sa).take na).take k:=by rw [List.take_take,Nat.min_eq_left d1]
       have hMp:((a.toList.drop sa).take k++r.toList++((a.toList.drop (sa + na)).take nb).drop k1).Perm ((a.toList.drop sa).take (na + nb)):=by
         rw [hAB]
         refine ((rp.append_left _).append_right _).trans ?_
         rw [ekk,← List.append_assoc,List.take_append_drop,List.append_assoc,List.take_append_drop]
       obtain ⟨w1,w2,w3⟩:=swap_mid (n:=na + nb) (by omega) hMp pl2
       have hsrt:Srt key ((a.toList.drop sa).take k++r.toList++((a.toList.drop (sa + na)).take nb).drop k1):=by
         have inr:∀ u∈r.toList,u∈((a.toList.drop sa).take na).drop k ∨ u∈((a.toList.drop (sa + na)).take nb).take k1:=fun u hu=>List.mem_append.mp (rp.mem_iff.mp hu)
         refine srt_app (srt_app (by rw [ekk]; exact srA.sublist (List.take_sublist _ _)) R.srt fun u hu v hv=>?_) (srB.sublist (List.drop_sublist _ _)) fun u hu v hv=>?_
         . rcases inr v hv with hv | hv
           . exact Int.le_trans (d3 u hu) (d4 v hv)
           . exact Int.le_trans (d3 u hu) (fst v (List.mem_of_mem_take hv))
         . rcases List.mem_append.mp hu with hu | hu
           . exact Int.le_trans (d3 u hu) (fst v (List.mem_of_mem_drop hv))
           . rcases inr u hu with hu | hu
             . exact Int.le_trans (lst u (List.mem_of_mem_drop hu)) (c4 v hv)
             . rw [←eyy] at hu
               exact Int.le_trans (c3 u hu) (c4 v hv)
       have f0:failedOf st2=none:=f1.trans hfl
       have q0:(failedOf st2).isNone=true:=by rw [f0]; rfl
       rw [q0]
       refine h _ ⟨f4.trans hkd,?_,f0⟩ f3 ?_ ?_
       . show (r.toList.zipIdx.foldl _ (arrOf st2)).Perm a₀
         rw [show arrOf st2=a from f2]
         exact w1.trans hpm
       . show SIn key (r.toList.zipIdx.foldl _ (arrOf st2)) sa (na + nb)
         rw [show arrOf st2=a from f2]
         exact of_srt (by rw [w1.size_eq]; omega) (by rw [w2]; exact hsrt)
       . show ∀ j,_→(r.toList.zipIdx.foldl _ (arrOf st2))[j]?=_
         rw [show arrOf st2=a from f2]
         exact w3
     have mx:∀ x∈(a.extract (sa + k) (sa + na)).toList,x∈a₀.toList:=fun x hx=>mem x (by rw [ex] at hx; exact List.mem_of_mem_drop (List.mem_of_mem_take (List.mem_of_mem_drop hx)))
     have my:∀ x∈(a.extract (sa + na) (sa + na + k1)).toList,x∈a₀.toList:=fun x hx=>mem x (by rw [ey] at hx; exact List.mem_of_mem_drop (List.mem_of_mem_take hx))
     have sx:Srt key (a.extract (sa + k) (sa + na)).toList:=by rw [ex]; exact srA.sublist (List.drop_sublist _ _)
     have sy:Srt key (a.extract (sa + na) (sa + na + k1)).toList:=by rw [ey,eyy]; exact srB.sublist (List.take_sublist _ _)
     have hx1:∀ u∈(a.extract (sa + k) (sa + na)).toList,key ((a.extract (sa + na) (sa + na + k1)).getD 0 (Value.none,Value.none))≤key u:=by
       rw [y0,ex]; exact d4
     have hy1:∀ u∈(a.extract (sa + na) (sa + na + k1)).toList,key u≤key ((a.extract (sa + k) (sa + na)).getD ((a.extract (sa + k) (sa + na)).size - 1) (Value.none,Value.none)):=by
       rw [xl,ey]; exact c3
     refine wp_ite (fun _=>?_) fun _=>?_
     . exact wpS_bind (wp_lo L (by omega) (by omega) mx my sx sy hx1 hy1 hkd fun r st2 S R=>wpS_bind (wpS_modify (wpS_bind (wpS_get (wpS_pure (fin r st2 S R))))))
     . exact wpS_bind (wp_hi L (by omega) (by omega) mx my sx sy hx1 hy1 hkd fun r st2 S R=>wpS_bind (wpS_modify (wpS_bind (wpS_get (wpS_pure (fin r st2 S R))))))
end
end L2.Tim
end
section
namespace L2.Tim
open PySem PySem.W PySem.Calls PyProof PyProof.Rows
section
variable {prog:Program} {w:World} {A:Around} {E:Value→Shared→Prop} {s:Shared} {κ:SortKind} {a₀:Array Keyed} {key:Keyed→Int}
noncomputable def Runs (key:Keyed→Int) (a:Array Keyed):Nat→List (Nat × Nat × Nat)→Nat→Prop
 | st,[],fin=>st=fin
 | st,(x,n,_) :: r,fin=>x=st∧0 < n∧SIn key a x n∧Runs key a (st + n) r fin
theorem runs_app {a:Array Keyed}:∀ {l r:List (Nat × Nat × Nat)} {st fin:Nat},Runs key a st (l++r) fin↔∃ m,Runs key a st l m∧Runs key a m r fin
 | [],r,st,fin=>⟨fun h=>⟨st,rfl,h⟩,fun ⟨m,h1,h2⟩=>by cases h1; exact h2⟩
 | (x,n,p) :: l,r,st,fin=>by
   show (x=st∧0 < n∧SIn key a x n∧Runs key a (st + n) (l++r) fin)↔_
   rw [runs_app (l:=l)]
   exact ⟨fun ⟨h1,h2,h3,m,h4,h5⟩=>⟨m,⟨h1,h2,h3,h4⟩,h5⟩,fun ⟨m,⟨h1,h2,h3,h4⟩,h5⟩=>⟨h1,h2,h3,m,h4,h5⟩⟩
theorem runs_le {a:Array Keyed}:∀ {l:List (Nat × Nat × Nat)} {st fin:Nat},Runs key a st l fin→st + l.length≤fin
 | [],st,fin,h=>by cases h; exact Nat.le_refl _
 | (x,n,p) :: l,st,fin,h=>by
   have:=runs_le h.2.2.2
   have:=h.2.1
   rw [List.length_cons]; omega
theorem runs_congr {a b:Array Keyed}:∀ {l:List (Nat × Nat × Nat)} {st fin:Nat},(∀ j,st≤j→j < fin→b[j]?=a[j]?)→Runs key a st l fin→Runs key b st l fin
 | [],st,fin,_,h=>h
 | (x,n,p) :: l,st,fin,hc,h=>by
   have hl:=runs_le h.2.2.2
   refine ⟨h.1,h.2.1,fun i j hij hj=>?_,runs_congr (fun j h1 h2=>hc j (by omega) h2) h.2.2.2⟩
   have hx:=h.1
   rw [kk_congr (hc (x + i) (by omega) (by omega)),kk_congr (hc (x + j) (by omega) (by omega))]
   exact h.2.2.1 i j hij hj
structure Rn (κ:SortKind) (a₀:Array Keyed) (key:Keyed→Int) (lo:Nat) (st:SortSt):Prop where
 bs:Bs κ a₀ st
 runs:Runs key (arrOf st) 0 (pendingOf st).toList lo
theorem sin_congr {a b:Array Keyed} {lo n:Nat} (h:∀ j,lo≤j→b[j]?=a[j]?) (hs:SIn key a lo n):SIn key b lo n:=fun i j hij hj=>by
 rw [kk_congr (h (lo + i) (by omega)),kk_congr (h (lo + j) (by omega))]; exact hs i j hij hj
theorem runs_same {a:Array Keyed}:∀ {l l':List (Nat × Nat × Nat)} {st fin:Nat},l.map (fun x=>(x.1,x.2.1))=l'.map (fun x=>(x.1,x.2.1))→Runs key a st l fin→Runs key a st l' fin
 | [],[],st,fin,_,h=>h
 | [],_ :: _,st,fin,e,h=>by cases e
 | _ :: _,[],st,fin,e,h=>by cases e
 | (x,n,p) :: l,(x',n',p') :: l',st,fin,e,h=>by
   rw [List.map_cons,List.map_cons] at e
   injection e with e1 e2
   injection e1 with e3 e4
   dsimp only at e3 e4
   subst e3 e4
   exact ⟨h.1,h.2.1,h.2.2.1,runs_same e2 h.2.2.2⟩
theorem push_rn {st:SortSt} {lo n:Nat} (h:Rn κ a₀ key lo st) (hs:SIn key (arrOf st) lo n) (hn:0 < n):Rn κ a₀ key (lo + n) (setPending st ((pendingOf st).push (lo,n,0))):=by
 refine ⟨⟨h.bs.kind,h.bs.perm,h.bs.fail⟩,?_⟩
 show Runs key (arrOf st) 0 ((pendingOf st).push (lo,n,0)).toList (lo + n)
 rw [Array.toList_push,runs_app]
 exact ⟨lo,h.runs,rfl,hn,hs,rfl⟩
theorem pow_rn {st:SortSt} {lo k pw:Nat} (h:Rn κ a₀ key lo st):Rn κ a₀ key lo (setPending st ((pendingOf st).modify k fun x=>(x.1,x.2.1,pw))):=by
 refine ⟨⟨h.bs.kind,h.bs.perm,h.bs.fail⟩,?_⟩
 show Runs key (arrOf st) 0 ((pendingOf st).modify k fun x=>(x.1,x.2.1,pw)).toList lo
 refine runs_same ?_ h.runs
 rw [Array.toList_modify]
 refine List.ext_getElem? fun i=>?_
 rw [List.getElem?_map,List.getElem?_map,List.getElem?_modify]
 cases (pendingOf st).toList[i]? with
 | none=>rfl
 | some v =>
   show some (v.1,v.2.1)=some ((if k=i then (v.1,v.2.1,pw) else v).1,(if k=i then (v.1,v.2.1,pw) else v).2.1)
   split <;> rfl
theorem ite_succ {c:Prop} [Decidable c] {a b n:Nat} (ha:a + 1 < n) (hb:b + 1 < n):(if c then a else b) + 1 < n:=by
 by_cases h:c
 . rw [if_pos h]; exact ha
 . rw [if_neg h]; exact hb
theorem split2 {α:Type} {l:List α} {i:Nat} (h:i + 1 < l.length):∃ l1 x y l2,l=l1++x :: y :: l2∧l1.length=i:=by
 refine ⟨l.take i,l[i],l[i + 1],l.drop (i + 2),?_,by rw [List.length_take]; omega⟩
 rw [←List.drop_eq_getElem_cons,← List.drop_eq_getElem_cons,List.take_append_drop]
theorem merge_rn (L:LtOk prog w A E s κ a₀ key) {st:SortSt} {i lo:Nat} {Q:Bool→SortSt→Prop} (h:Rn κ a₀ key lo st) (hlo:lo≤a₀.size) (hi:i + 1 < (pendingOf st).size)
   (q:∀ st',Rn κ a₀ key lo st'→(pendingOf st').size + 1=(pendingOf st).size→(∀ j,lo≤j→(arrOf st')[j]?=(arrOf st)[j]?)→Q true st'):wpS (model prog w) A E s (mergeAt' i) Q st:=by
 obtain ⟨l1,⟨xa,na,pa⟩,⟨xb,nb,pb⟩,l2,el,hl1⟩:=split2 (l:=(pendingOf st).toList) (i:=i) (by rw [Array.length_toList]; exact hi)
 have hr:=h.runs
 rw [el,runs_app] at hr
 obtain ⟨m,r1,ea,ha,sA,eb,hb,sB,r2⟩:=hr
 subst ea
 subst eb
 have hr2:=runs_le r2
 have hr1:=runs_le r1
 have g1:(pendingOf st)[i]?=some (xa,na,pa):=by rw [←Array.getElem?_toList,el,List.getElem?_append_right (by omega),hl1,Nat.sub_self]; rfl
 have g2:(pendingOf st)[i + 1]?=some (xa + na,nb,pb):=by rw [←Array.getElem?_toList,el,List.getElem?_append_right (by omega),hl1,Nat.add_sub_cancel_left]; rfl
 refine mergeAt_ok L h.bs g1 g2 rfl ha hb (by omega) sA sB fun st' hB' hp hs hk=>q st' ⟨hB',?_⟩ ?_ fun j hj=>hk j (.inr (by omega))
 . have ep:(pendingOf st').toList=l1++(xa,na + nb,pa) :: l2:=by
     rw [hp,Array.eraseIdxIfInBounds,dif_pos (by rw [Array.size_setIfInBounds]; exact hi),Array.toList_eraseIdx,Array.toList_setIfInBounds,el]
     rw [List.set_append_right _ _ (by omega),hl1,Nat.sub_self,List.set_cons_zero,List.eraseIdx_append_of_length_le (by omega),hl1,Nat.add_sub_cancel_left]
     rfl
   rw [ep,runs_app]
   refine ⟨xa,runs_congr (fun j _ hj=>hk j (.inl hj)) r1,rfl,by omega,hs,?_⟩
   rw [←Nat.add_assoc]
   exact runs_congr (fun j hj _=>hk j (.inr (by omega))) r2
 . rw [hp,Array.eraseIdxIfInBounds,dif_pos (by rw [Array.size_setIfInBounds]; exact hi),Array.size_eraseIdx,Array.size_setIfInBounds]
   omega
theorem runs_ok (L:LtOk prog w A E s κ a₀ key) (D:Dis key a₀) {st:SortSt} {Q:Unit→SortSt→Prop} (hB:Bs κ a₀ st) (hp:pendingOf st=#[]) (h2:2≤a₀.size)
   (q:∀ st',Bs κ a₀ st'→SIn key (arrOf st') 0 a₀.size→Q () st'):wpS (model prog w) A E s sortRuns' Q st:=by
 rw [sortRuns'_eq]
 refine wpS_bind (wpS_get ?_)
 dsimp only
 rw [hB.size]
 generalize minRun' a₀.size a₀.size 0=mr
 refine wpS_bind (wpS_mono (wpS_forRange (I:=fun x c st'=>∃ lo,c=(none,lo)∧x≤lo∧lo≤a₀.size∧Rn κ a₀ key lo st') (Q:=fun c st'=>c=(none,a₀.size)∧Rn κ a₀ key a₀.size st') ?step ?fin ⟨0,rfl,Nat.le_refl _,Nat.zero_le _,hB,by rw [hp]; rfl⟩) ?post)
 case fin =>
   rintro c st' ⟨lo,rfl,h1,h2,hR⟩
   have:lo=a₀.size:=by omega
   subst this
   exact ⟨rfl,hR⟩
 case step =>
   rintro x c st' _ hx ⟨lo,rfl,h1,hlo,hR⟩
   dsimp only
   by_cases hge:lo ≥ a₀.size
   . rw [if_pos hge]
     have:lo=a₀.size:=by omega
     subst this
     exact wpS_pure ⟨rfl,hR⟩
   . rw [if_neg hge]
     refine wpS_bind (wp_count L D (by omega) (by omega) hR.bs fun m st2 hB2 pre2 pe2 m1 m2 s2=>?_)
     dsimp only
     have hR2:Rn κ a₀ key lo st2:=⟨hB2,by rw [pe2]; exact runs_congr (fun j _ hj=>pre2 j hj) hR.runs⟩
     by_cases hm:m < mr
     . rw [if_pos hm]
       refine wpS_bind (wpS_lift (wpAny_rule ⟨rfl,?_⟩))
       refine wpS_bind (wp_bin L (show lo + min (a₀.size - lo) mr≤a₀.size by omega) (by omega) hB2 s2 fun st3 hB3 pre3 pe3 s3=>?_)
       rw [if_neg (by simp)]
       have hR3:Rn κ a₀ key lo st3:=⟨hB3,by rw [pe3]; exact runs_congr (fun j _ hj=>pre3 j hj) hR2.runs⟩
       refine wpS_bind (wpS_get ?_)
       cases hbk:(pendingOf st3).back? with
       | none =>
         dsimp only
         exact wpS_bind (wpS_modify (wpS_pure ⟨lo + min (a₀.size - lo) mr,rfl,by omega,by omega,push_rn hR3 s3 (by omega)⟩))
       | some v =>
         obtain ⟨s1,n1,p1⟩:=v
         dsimp only
         refine wpS_bind (wpS_mono (wpS_forRange (I:=fun y c st4=>c=(none,())∧Rn κ a₀ key lo st4∧SIn key (arrOf st4) lo (min (a₀.size - lo) mr)) (Q:=fun c st4=>c=(none,())∧Rn κ a₀ key lo st4∧SIn key (arrOf st4) lo (min (a₀.size - lo) mr)) (fun y c st4 _ _ hI=>?_) (fun c st4 hI=>hI) ⟨rfl,hR3,s3⟩) ?_)
         . obtain ⟨rfl,hR4,hs4⟩:=hI
           refine wpS_bind (wpS_get ?_)
           by_cases hp1:(pendingOf st4).size > 1
           . rw [if_pos hp1,getElem?_pos (pendingOf st4) ((pendingOf st4).size - 2) (by omega)]
             dsimp only
             refine wp_ite (fun _=>wpS_pure ⟨rfl,hR4,hs4⟩) fun _=>wpS_bind (merge_rn L hR4 (by omega) (by omega) fun st5 hR5 _ hk5=>?_)
             rw [if_neg (by simp)]
             exact wpS_pure ⟨rfl,hR5,sin_congr (fun j hj=>hk5 j hj) hs4⟩
           . rw [if_neg hp1]
             exact wpS_pure ⟨rfl,hR4,hs4⟩
         . rintro c st4 ⟨rfl,hR4,hs4⟩
           dsimp only
           exact wpS_bind (wpS_modify (wpS_bind (wpS_modify (wpS_pure ⟨lo + min (a₀.size - lo) mr,rfl,by omega,by omega,push_rn (pow_rn hR4) hs4 (by omega)⟩))))
     . rw [if_neg hm]
       refine wpS_bind (wpS_get ?_)
       cases hbk:(pendingOf st2).back? with
       | none =>
         dsimp only
         exact wpS_bind (wpS_modify (wpS_pure ⟨lo + m,rfl,by omega,by omega,push_rn hR2 s2 (by omega)⟩))
       | some v =>
         obtain ⟨s1,n1,p1⟩:=v
         dsimp only
         refine wpS_bind (wpS_mono (wpS_forRange (I:=fun y c st4=>c=(none,())∧Rn κ a₀ key lo st4∧SIn key (arrOf st4) lo (m)) (Q:=fun c st4=>c=(none,())∧Rn κ a₀ key lo st4∧SIn key (arrOf st4) lo (m)) (fun y c st4 _ _ hI=>?_) (fun c st4 hI=>hI) ⟨rfl,hR2,s2⟩) ?_)
         . obtain ⟨rfl,hR4,hs4⟩:=hI
           refine wpS_bind (wpS_get ?_)
           by_cases hp1:(pendingOf st4).size > 1
           . rw [if_pos hp1,getElem?_pos (pendingOf st4) ((pendingOf st4).size - 2) (by omega)]
             dsimp only
             refine wp_ite (fun _=>wpS_pure ⟨rfl,hR4,hs4⟩) fun _=>wpS_bind (merge_rn L hR4 (by omega) (by omega) fun st5 hR5 _ hk5=>?_)
             rw [if_neg (by simp)]
             exact wpS_pure ⟨rfl,hR5,sin_congr (fun j hj=>hk5 j hj) hs4⟩
           . rw [if_neg hp1]
             exact wpS_pure ⟨rfl,hR4,hs4⟩
         . rintro c st4 ⟨rfl,hR4,hs4⟩
           dsimp only
           exact wpS_bind (wpS_modify (wpS_bind (wpS_modify (wpS_pure ⟨lo + m,rfl,by omega,by omega,push_rn (pow_rn hR4) hs4 (by omega)⟩))))
 case post =>
   rintro c st' ⟨rfl,hR⟩
   dsimp only
   have hle:=runs_le hR.runs
   rw [Array.length_toList] at hle
   refine wpS_bind (wpS_mono (wpS_forRange (I:=fun x c st4=>c=(none,())∧Rn κ a₀ key a₀.size st4∧((pendingOf st4).size≤1 ∨ (pendingOf st4).size + x≤a₀.size)) (Q:=fun c st4=>c=(none,())∧Rn κ a₀ key a₀.size st4∧(pendingOf st4).size≤1) (fun y c st4 _ _ hI=>?_) (fun c st4 hI=>⟨hI.1,hI.2.1,by have:=hI.2.2; omega⟩) ⟨rfl,hR,.inr (by omega)⟩) ?_)
   . obtain ⟨rfl,hR4,hs4⟩:=hI
     refine wpS_bind (wpS_get ?_)
     refine wp_ite (fun h1=>wpS_pure ⟨rfl,hR4,h1⟩) fun h1=>wpS_bind (merge_rn L hR4 (Nat.le_refl _) (ite_succ (by omega) (by omega)) fun st5 hR5 hz5 _=>?_)
     rw [if_neg (by simp)]
     exact wpS_pure ⟨rfl,hR5,.inr (by omega)⟩
   . rintro c st4 ⟨rfl,hR4,h1⟩
     refine wpS_pure (q st4 hR4.bs ?_)
     have hr:=hR4.runs
     rw [←Array.length_toList] at h1
     match hl:(pendingOf st4).toList,hr,h1 with
     | [],hr,_=>exact absurd (show 0=a₀.size from hr) (by omega)
     | [(x,n,p)],hr,_ =>
       obtain ⟨rfl,_,hs,he⟩:=hr
       have he':0 + n=a₀.size:=he
       rw [←he',Nat.zero_add]; exact hs
     | _ :: _ :: _,_,h1=>rw [List.length_cons,List.length_cons] at h1; omega
end
end L2.Tim
end
section
namespace L2
open PySem PySem.W PySem.Calls PyProof PyProof.Rows
noncomputable def lexL:List Int→List Int→Bool
 | x :: xs,y :: ys=>if x=y then lexL xs ys else decide (x < y)
 | [],_ :: _=>true
 | _,[]=>false
noncomputable def lexD (d:Bool):List Int→List Int→Bool
 | x :: xs,y :: ys=>if x=y then lexD d xs ys else decide (x < y)
 | _,_=>d
theorem lexD_eq:∀ xs ys:List Int,lexD (decide (xs.length < ys.length)) xs ys=lexL xs ys
 | [],[]=>rfl
 | [],_ :: _=>decide_eq_true (Nat.succ_pos _)
 | _ :: _,[]=>rfl
 | x :: xs,y :: ys=>by
   have:=lexD_eq xs ys
   have e:decide ((x :: xs).length < (y :: ys).length)=decide (xs.length < ys.length):=decide_eq_decide.mpr Nat.add_lt_add_iff_right
   unfold lexD lexL
   rw [e,this]
theorem perm_unmap {α β:Type} {f:α→β}:∀ {l:List α} {l':List β},l'.Perm (l.map f)→∃ m:List α,m.Perm l∧m.map f=l'
 | [],l',h=>⟨[],.refl _,(List.perm_nil.mp h).symm⟩
 | a :: t,l',h=>by
   obtain ⟨s,r,rfl⟩:=List.append_of_mem (h.mem_iff.mpr (.head _))
   obtain ⟨m,h1,h2⟩:=perm_unmap (l:=t) (List.perm_cons (f a) |>.mp ((List.perm_middle.symm).trans h))
   obtain ⟨m1,m2,rfl,rfl,rfl⟩:=List.map_eq_append_iff.mp h2
   exact ⟨m1++a :: m2,List.perm_middle.trans (h1.cons a),by rw [List.map_append,List.map_cons]⟩
section
variable {prog:Program} {w:World} {A:Around} {E:Value→Shared→Prop} {κ:SortKind} {s:Shared}
theorem lex_askD {d:Bool} {Q:Bool→Shared→Prop}:∀ {us vs:List Value} {xs ys:List Int} (i:Nat),IntVs us xs→IntVs vs ys→Q (lexD d xs ys) s→KatLex prog w A true d Q (us.zip vs) i s
 | _,_,_,_,i,.nil,.nil,h=>h
 | _,_,_,_,i,.nil,.cons _,h=>h
 | _,_,_,_,i,.cons _,.nil,h=>h
 | _,_,_,_,i,.cons (i:=a) (t:=t) (us:=us) (ns:=xs) r,.cons (i:=b) (t:=u) (us:=vs) (ns:=ys) r',h=>by
   show KatLex prog w A true d Q ((Value.int a t,Value.int b u) :: us.zip vs) i s
   unfold lexD at h
   refine kat_cons (wpAny_eqBool_int (kat_go (fun e=>?_) fun e=>?_))
   . rw [if_pos (of_decide_eq_true e)] at h
     exact kat_yes (lex_askD (i + 1) r r' h)
   . rw [if_neg (of_decide_eq_false e)] at h
     refine kat_no ?_
     cases i with
     | zero=>exact oneLt_int h
     | succ i=>exact kat_one _ _ (lt_int h)
noncomputable def itm (vs:List Value) (i:Nat):Keyed:=(vs.getD i Value.none,vs.getD i Value.none)
theorem itm_all (vs:List Value):(vs.toArray.zip vs.toArray).toList=(List.range vs.length).map (itm vs):=by
 rw [Array.toList_zip]
 apply List.ext_getElem
 . simp
 . intro i h1 h2
   have hi:i < vs.length:=by simpa using h2
   simp [itm,List.getD_eq_getElem?_getD,List.getElem?_eq_getElem hi]
theorem sorted_T {l:Addr} {vs:List Value} {key:Keyed→Int} {Q:Value→Shared→Prop} (hl:s.heap.IsList l vs.toArray) (h2:2≤vs.length) (hz:vs.length≤16777216)
   (kind:∀ h' (Q':SortKind→Shared→Prop),(∀ b o,s.heap.get? b=some o→h'.get? b=some o)→Q' κ { s with heap:=h' }→wpAny (model prog w) A.in1.in1 (keyKind' vs.toArray) Q' (fun _ _=>False) { s with heap:=h' })
   (ask:∀ h' i j C,(∀ b o,s.heap.get? b=some o→h'.get? b=some o)→i < vs.length→j < vs.length→C (decide (key (itm vs i) < key (itm vs j))) { s with heap:=h' }→wpAny (model prog w) A.in1.in1 (keyLt' κ (vs.getD i Value.none) (vs.getD j Value.none)) C (fun _ _=>False) { s with heap:=h' })
   (dis:∀ i j,i < vs.length→j < vs.length→key (itm vs i)=key (itm vs j)→i=j)
   (h:∀ (h':Heap) (c:Nat) (ix:List Nat),(∀ b o,s.heap.get? b=some o→h'.get? b=some o)→ix.Perm (List.range vs.length)→ix.Pairwise (fun i j=>key (itm vs i) < key (itm vs j)) →
     h'.get? (s.heap.objs.size + 1)=some (seqObj "list" (ix.map fun i=>vs.getD i Value.none).toArray c)→Q (.ref (s.heap.objs.size + 1)) { s with heap:=h' }) :
   wpAny (model prog w) A (call (.builtin "sorted") [.ref l]) Q E s:=by
 have hs0:(vs.toArray.zip vs.toArray).size=vs.length:=by simp
 have un:∀ {a:Array Keyed},a.Perm (vs.toArray.zip vs.toArray)→∃ ix:List Nat,ix.Perm (List.range vs.length)∧ix.map (itm vs)=a.toList:=fun {a} hp=>perm_unmap (by rw [←itm_all]; exact Array.perm_iff_toList_perm.mp hp)
 have kk_at:∀ {a:Array Keyed} {ix:List Nat} (i:Nat) (hi:i < ix.length),ix.map (itm vs)=a.toList→Tim.kk key a i=key (itm vs ix[i]):=fun {a ix} i hi e=>by
   unfold Tim.kk
   rw [Array.getD_eq_getD_getElem?,← Array.getElem?_toList,← e,List.getElem?_map,List.getElem?_eq_getElem hi]
   rfl
 have ixl:∀ {ix:List Nat},ix.Perm (List.range vs.length)→ix.length=vs.length:=fun hp=>by rw [hp.length_eq,List.length_range]
 have ixm:∀ {ix:List Nat},ix.Perm (List.range vs.length)→∀ i (hi:i < ix.length),ix[i] < vs.length:=fun hp i hi=>List.mem_range.mp (hp.mem_iff.mp (List.getElem_mem hi))
 have hD:Tim.Dis key (vs.toArray.zip vs.toArray):=fun a hp i j hi hj hij e=>by
   obtain ⟨ix,p1,p2⟩:=un hp
   rw [hs0,← ixl p1] at hi hj
   rw [kk_at i hi p2,kk_at j hj p2] at e
   exact hij ((List.getElem_inj (p1.nodup_iff.mpr List.nodup_range)).mp (dis _ _ (ixm p1 i hi) (ixm p1 j hj) e))
 refine Calls.call_function_entry kind_sorted plain_sorted entry_sorted (args_sorted1 _) ?_
 unfold Builtin.«sorted»
 refine wpAny_bind (m:=checkCount "sorted" 1 1 _) (wpAny_pure ?_)
 refine wpAny_bind (collect_list hl ?_ (by rw [sizeLine_eq]; omega))
 refine wpAny_bind (wpAny_newList ?_ (by rw [sizeLine_eq]; omega))
 have hsz:((s.heap.push (seqObj "list" #[] 0)).update s.heap.objs.size (Obj.mapSeq (·++vs.toArray))).objs.size=s.heap.objs.size + 1:=by
   rw [Heap.size_update,size_push']
 have hoL:(((s.heap.push (seqObj "list" #[] 0)).update s.heap.objs.size (Obj.mapSeq (·++vs.toArray))).push (seqObj "list" vs.toArray 0)).get? (s.heap.objs.size + 1)=some (seqObj "list" vs.toArray 0):=by
   rw [←hsz]; exact Heap.get?_push_size _ rfl
 have keep:∀ b o,s.heap.get? b=some o→(((s.heap.push (seqObj "list" #[] 0)).update s.heap.objs.size (Obj.mapSeq (·++vs.toArray))).push (seqObj "list" vs.toArray 0)).get? b=some o:=fun b o q=>by
   have hlt:b < s.heap.objs.size:=Heap.lt_size q
   rw [Heap.get?_push_ne _ _ _ (by rw [hsz]; exact Nat.ne_of_lt (Nat.lt_succ_of_lt hlt)),Heap.get?_update_ne _ _ _ _ (Nat.ne_of_lt hlt),Heap.get?_push_ne _ _ _ (Nat.ne_of_lt hlt)]
   exact q
 show wpAny _ _ _ _ _ { s with heap:=((s.heap.push (seqObj "list" #[] 0)).update s.heap.objs.size (Obj.mapSeq (·++vs.toArray))).push (seqObj "list" vs.toArray 0) }
 rw [hsz]
 generalize hg:((s.heap.push (seqObj "list" #[] 0)).update s.heap.objs.size (Obj.mapSeq (·++vs.toArray))).push (seqObj "list" vs.toArray 0)=g at hoL keep ⊢
 refine wpAny_bind (wpAny_holding (wpAny_call_entry slot_list_sort ⟨_,hoL,rfl⟩ entry_list_sort ?body (args_list_sort _)))
 case body =>
   rw [list_sort_plain]
   refine wpAny_bind (listItems_at hoL rfl ?_)
   refine wpAny_bind (listUpdate_at hoL rfl ?_ (by rw [List.size_toArray,sizeLine_eq]; omega) (Nat.zero_le _))
   obtain ⟨e1,ho1⟩:∃ e1,(g.update (s.heap.objs.size + 1) (Obj.mapSeq fun _=>(#[]:Array Value))).get? (s.heap.objs.size + 1)=some (seqObj "list" #[] e1):=⟨_,get?_update_seq hoL fun _=>#[]⟩
   refine wpAny_bind (seqEpoch_at ho1 rfl ?_)
   refine wpAny_bind (wpAny_newTuple ?_ (by show vs.length≤_; rw [sizeLine_eq]; omega))
   refine wpAny_bind (wpAny_newList ?_ (Nat.zero_le _))
   refine wpAny_holding ?_
   have keep6:∀ b o,s.heap.get? b=some o→(((g.update (s.heap.objs.size + 1) (Obj.mapSeq fun _=>(#[]:Array Value))).push (seqObj "tuple" vs.toArray 0)).push (seqObj "list" #[] 0)).get? b=some o:=fun b o e=>by
     have hlt:b < s.heap.objs.size:=Heap.lt_size e
     refine Heap.get?_push_of_some _ (Heap.get?_push_of_some _ ?_)
     rw [Heap.get?_update_ne _ _ _ _ (Nat.ne_of_lt (Nat.lt_succ_of_lt hlt))]
     exact keep b o e
   have ho6:(((g.update (s.heap.objs.size + 1) (Obj.mapSeq fun _=>(#[]:Array Value))).push (seqObj "tuple" vs.toArray 0)).push (seqObj "list" #[] 0)).get? (s.heap.objs.size + 1)=some (seqObj "list" #[] e1):=
     Heap.get?_push_of_some _ (Heap.get?_push_of_some _ ho1)
   show wpAny (model prog w) _ _ _ _ { s with heap:=((g.update (s.heap.objs.size + 1) (Obj.mapSeq fun _=>(#[]:Array Value))).push (seqObj "tuple" vs.toArray 0)).push (seqObj "list" #[] 0) }
   generalize ((g.update (s.heap.objs.size + 1) (Obj.mapSeq fun _=>(#[]:Array Value))).push (seqObj "tuple" vs.toArray 0)).push (seqObj "list" #[] 0)=g6 at ho6 keep6 ⊢
   dsimp only
   have h2':¬ vs.toArray.size < 2:=by rw [List.size_toArray]; omega
   rw [if_neg h2',if_neg h2']
   refine wpAny_bind (wpAny_mono (kind g6 (fun κ' s'=>κ'=κ∧s'={ s with heap:=g6 }) keep6 ⟨rfl,rfl⟩) (fun κ' s' hk=>?_) fun _ _ x=>x.elim)
   obtain ⟨rfl,rfl⟩:=hk
   have L:Tim.LtOk prog w A.in1.in1 (fun _ _=>False) { s with heap:=g6 } κ' (vs.toArray.zip vs.toArray) key:=fun x y st Q' hx hy hk hq=>by
     rw [itm_all] at hx hy
     obtain ⟨i,hi,rfl⟩:=List.mem_map.mp hx
     obtain ⟨j,hj,rfl⟩:=List.mem_map.mp hy
     rw [lt'_eq]
     refine wpS_bind (wpS_get ?_)
     rw [hk]
     refine wpS_bind (wpS_lift (wpAny_attempt (wpAny_mono (ask g6 i j (fun c s'=>s'={ s with heap:=g6 }∧c=decide (key (itm vs i) < key (itm vs j))) keep6 (List.mem_range.mp hi) (List.mem_range.mp hj) ⟨rfl,rfl⟩) (fun c s' hc=>?_) fun _ _ hF=>hF.elim)))
     obtain ⟨rfl,rfl⟩:=hc
     exact ⟨rfl,wpS_pure hq⟩
   refine wpAny_bind (wpAny_mono (Tim.runs_ok L hD (st:=SortSt.mk' κ' (vs.toArray.zip vs.toArray) #[] 7 none) (Q:=fun _ st'=>Tim.Bs κ' (vs.toArray.zip vs.toArray) st'∧Tim.SIn key (arrOf st') 0 (vs.toArray.zip vs.toArray).size) ⟨rfl,.refl _,rfl⟩ rfl (by rw [hs0]; exact h2) fun st' a b=>⟨a,b⟩) ?_ fun _ _ x=>x.elim)
   rintro ⟨⟨⟩,st'⟩ s' ⟨rfl,hB,hS⟩
   dsimp only at hB hS ⊢
   obtain ⟨ix,p1,p2⟩:=un hB.perm
   have hout:(arrOf st').map (·.2)=(ix.map fun i=>vs.getD i Value.none).toArray:=by
     apply Array.toList_inj.mp
     rw [Array.toList_map,← p2,List.map_map]
     rfl
   have hixl:(ix.map fun i=>vs.getD i Value.none).toArray.size≤sizeLine:=by rw [List.size_toArray,List.length_map,ixl p1,sizeLine_eq]; omega
   rw [show (arrOf st').map (·.2)=_ from hout]
   refine wpAny_bind (seqEpoch_at ho6 rfl ?_)
   refine wpAny_bind (listUpdate_at ho6 rfl ?_ (Nat.zero_le _) (Nat.le_succ_of_le hixl))
   rw [hB.fail]
   simp only [bne_self_eq_false,Bool.false_eq_true,if_false]
   refine wpAny_pure ⟨_,rfl,wpAny_pure ⟨_,rfl,?_⟩⟩
   refine h _ _ ix (fun b o e=>?_) p1 (List.pairwise_iff_getElem.mpr fun i j hi hj hij=>?_) (get?_update_seq ho6 fun _=>(ix.map fun i=>vs.getD i Value.none).toArray)
   . have hlt:b < s.heap.objs.size:=Heap.lt_size e
     rw [Heap.get?_update_ne _ _ _ _ (Nat.ne_of_lt (Nat.lt_succ_of_lt hlt))]
     exact keep6 b o e
   . have:=hS i j (Nat.le_of_lt hij) (by rw [hs0,← ixl p1]; exact hj)
     rw [Nat.zero_add,Nat.zero_add,kk_at i hi p2,kk_at j hj p2] at this
     rcases Int.lt_or_eq_of_le this with z | z
     . exact z
     . have:=(List.getElem_inj (p1.nodup_iff.mpr List.nodup_range)).mp (dis _ _ (ixm p1 i hi) (ixm p1 j hj) z)
       exact absurd this (Nat.ne_of_lt hij)
end
theorem intVs_one {us:List Value}:∀ {a b:List Int},IntVs us a→IntVs us b→a=b:=by
 induction us with
 | nil=>intro a b h k; cases h; cases k; rfl
 | cons u us ih =>
   intro a b h k
   cases h with
   | cons h =>
     cases k with
     | cons k=>rw [ih h k]
noncomputable def keyOf (its:List Value) (zs:List (List Int)) (K:List Int→Int) (x:Keyed):Int:=
 open Classical in K (zs.getD (its.findIdx fun v=>decide (v=x.1)) [])
theorem keyOf_eq {h:Heap} {its:List Value} {zs:List (List Int)} {K:List Int→Int} (tv:TV h its zs) {i:Nat} {z:List Int} (hz:zs[i]?=some z):keyOf its zs K (itm its i)=K z:=by
 classical
 obtain ⟨b,o,n,us,f1,f2,f3,f4,f5⟩:=tv.2 i z hz
 have e1:its.getD i Value.none=.ref b:=by rw [List.getD_eq_getElem?_getD,f1]; rfl
 have hlt:its.findIdx (fun v=>decide (v=its.getD i Value.none)) < its.length:=List.findIdx_lt_length_of_exists ⟨.ref b,List.mem_of_getElem? f1,by rw [e1]; exact decide_eq_true rfl⟩
 have hp:=List.findIdx_getElem (w:=hlt)
 have hj:=of_decide_eq_true hp
 have hlt':its.findIdx (fun v=>decide (v=its.getD i Value.none)) < zs.length:=by rw [←tv.1]; exact hlt
 obtain ⟨b',o',n',us',g1,g2,g3,g4,g5⟩:=tv.2 _ _ (List.getElem?_eq_getElem hlt')
 have e2:Value.ref b'=.ref b:=by
   rw [List.getElem?_eq_getElem hlt] at g1
   rw [←e1,← hj]; exact (Option.some.inj g1).symm
 cases e2
 rw [f2] at g2
 cases g2
 rw [f4] at g4
 injection g4 with g4
 have g4:=Array.toList_inj.mpr g4
 have g4:us=us':=g4
 subst g4
 unfold keyOf
 show K (zs.getD (its.findIdx fun v=>decide (v=its.getD i Value.none)) [])=K z
 rw [List.getD_eq_getElem?_getD,List.getElem?_eq_getElem hlt',Option.getD_some,intVs_one g5 f5]
theorem TV.up {h h':Heap} {its:List Value} {zs:List (List Int)} (tv:TV h its zs) (keep:∀ b o,h.get? b=some o→h'.get? b=some o):TV h' its zs:=⟨tv.1,fun i z e=>by
 obtain ⟨b,o,n,us,f1,f2,f3⟩:=tv.2 i z e
 exact ⟨b,o,n,us,f1,keep _ _ f2,f3⟩⟩
theorem call_sortT {X:Cx}:CallR X (.builtin "sorted") (fun xs H Q=>∃ p ys zs,∃ K:List Int→Int,xs=[.ref p]∧SqL X.K H p ys∧TsAt X.K H ys zs∧(zs.length < 2 ∨ ∀ z∈zs,z≠[])∧zs.Nodup∧(∀ a∈zs,∀ b∈zs,lexL a b=decide (K a < K b))∧(∀ a∈zs,∀ b∈zs,K a=K b→a=b) ∧
   ∀ (l:Addr) (ix:List Nat),H l=none→ix.Perm (List.range zs.length)→(ix.map fun i=>zs.getD i []).Pairwise (fun a b=>K a < K b)→Q (.ref l) (upd H l (.lst (ix.map fun i=>ys.getD i .non)))):=by
 intro pins s σ H xs us Q I r h
 obtain ⟨p,ys,zs,K,rfl,hq,hP,hne,hnd,hK,hKi,q⟩:=h
 obtain ⟨u,rfl,rx⟩:=vals1 r
 cases rx
 obtain ⟨its,rv,pl,hz⟩:=I.list hq
 have hlen:=rv.length
 have hl:s.heap.IsList p its.toArray:=pl.isList
 have tv:=hP.tv I rv
 have hn:its.length=zs.length:=tv.1
 have hD:s.heap.get? (s.heap.objs.size + 1)=none:=Heap.get?_none_of_le (Nat.le_succ _)
 by_cases h2:its.length < 2
 . refine sorted_short hl h2 fun h' c keep e=>?_
   obtain ⟨hn',I'⟩:=I.beside (h':=h') hz rv hD (fun b o _ e=>keep b o e) (fun m ⟨o,es,ep,ho,r⟩=>⟨o,es,ep,keep _ o ho,r⟩) e
   have ey:(List.range zs.length).map (fun i=>ys.getD i .non)=ys:=by rw [←hn,← hlen]; exact pickN_all _
   have:=q _ (List.range zs.length) hn' (.refl _) (by
     rw [pickN_all]
     match zs,show zs.length < 2 by omega with
     | [],_=>exact .nil
     | [_],_=>exact List.pairwise_singleton _ _)
   rw [ey] at this
   exact ⟨V.ref _,_,I',rfl,this⟩
 . have hne:∀ z∈zs,z≠[]:=hne.resolve_left (by omega)
   have hzl:its.length≤16777216:=by rw [sizeLine_eq] at hz; omega
   have gz:∀ {i:Nat},i < its.length→∃ z,zs[i]?=some z∧zs.getD i []=z∧z∈zs:=fun {i} hi=>by
     rw [hn] at hi
     exact ⟨zs[i],List.getElem?_eq_getElem hi,by rw [List.getD_eq_getElem?_getD,List.getElem?_eq_getElem hi]; rfl,List.getElem_mem hi⟩
   refine sorted_T (κ:=tuples' true) (key:=keyOf its zs K) hl (by omega) hzl (fun h' Q' keep hq'=>?_) (fun h' i j C keep hi hj hc=>?_) (fun i j hi hj e=>?_) fun h' c ix keep hp hw e=>?_
   . obtain ⟨fs,kt,kl,ki⟩:=(tv.up keep).tups hne
     refine kat_kind (s:={ s with heap:=h' }) (T:=.type "int") kt (by omega) (fun v hv=>?_) rfl hq'
     obtain ⟨i,t,rfl⟩:=ki v hv
     exact Looks.of_pure rfl
   . obtain ⟨z,a1,a2,a3⟩:=gz hi
     obtain ⟨z',b1,b2,b3⟩:=gz hj
     rw [keyOf_eq tv a1,keyOf_eq tv b1,← hK z a3 z' b3,← lexD_eq] at hc
     obtain ⟨b,o,n,us,f1,f2,f3,f4,f5⟩:=(tv.up keep).2 i z a1
     obtain ⟨b',o',n',us',f1',f2',f3',f4',f5'⟩:=(tv.up keep).2 j z' b1
     rw [List.getD_eq_getElem?_getD,List.getD_eq_getElem?_getD,f1,f1']
     refine kat_lt (s:={ s with heap:=h' }) f2 f4 f2' f4' ?_
     rw [List.size_toArray,List.size_toArray,intVs_len f5,intVs_len f5']
     exact lex_askD (s:={ s with heap:=h' }) 0 f5 f5' hc
   . obtain ⟨z,a1,a2,a3⟩:=gz hi
     obtain ⟨z',b1,b2,b3⟩:=gz hj
     rw [keyOf_eq tv a1,keyOf_eq tv b1] at e
     have ez:=hKi z a3 z' b3 e
     subst ez
     exact (List.getElem?_inj (by omega) hnd).mp (a1.trans b1.symm)
   . have hlt:∀ i∈ix,i < its.length:=fun i hi=>List.mem_range.mp (hp.mem_iff.mp hi)
     obtain ⟨hn',I'⟩:=I.beside (h':=h') (ys:=ix.map fun i=>ys.getD i .non) (by rw [List.length_map,hp.length_eq,List.length_range]; omega) (vals_pick rv ix fun i hi=>by have:=hlt i hi; omega) hD (fun b o _ e=>keep b o e) (fun m ⟨o,es,ep,ho,r⟩=>⟨o,es,ep,keep _ o ho,r⟩) e
     refine ⟨V.ref _,_,I',rfl,q _ ix hn' (by rw [←hn]; exact hp) ?_⟩
     rw [List.pairwise_map]
     refine hw.imp_of_mem fun {i j} hi hj w=>?_
     obtain ⟨z,a1,a2,a3⟩:=gz (hlt i hi)
     obtain ⟨z',b1,b2,b3⟩:=gz (hlt j hj)
     rw [keyOf_eq tv a1,keyOf_eq tv b1] at w
     rw [a2,b2]
     exact w
theorem lexL_irr:∀ a:List Int,lexL a a=false
 | []=>rfl
 | x :: xs=>by unfold lexL; rw [if_pos rfl]; exact lexL_irr xs
theorem lexL_tot:∀ {a b:List Int},lexL a b=false→a≠b→lexL b a=true
 | [],[],_,h=>absurd rfl h
 | [],_ :: _,h,_=>by cases h
 | _ :: _,[],_,_=>rfl
 | x :: xs,y :: ys,h,n=>by
   unfold lexL at h ⊢
   by_cases e:x=y
   . subst e
     rw [if_pos rfl] at h ⊢
     exact lexL_tot h fun e=>n (by rw [e])
   . rw [if_neg e] at h
     rw [if_neg (fun z=>e z.symm)]
     have:=of_decide_eq_false h
     exact decide_eq_true (by omega)
theorem lexL_tr:∀ {a b c:List Int},lexL a b=true→lexL b c=true→lexL a c=true
 | [],[],_,h,_=>by cases h
 | _ :: _,[],_,h,_=>by cases h
 | _,_ :: _,[],_,h=>by cases h
 | [],_ :: _,_ :: _,_,_=>rfl
 | x :: xs,y :: ys,z :: zs,h,k=>by
   unfold lexL at h k ⊢
   by_cases e:x=y
   . subst e
     rw [if_pos rfl] at h
     by_cases e':x=z
     . rw [if_pos e'] at k ⊢; exact lexL_tr h k
     . rw [if_neg e'] at k ⊢; exact k
   . rw [if_neg e] at h
     have h:=of_decide_eq_true h
     by_cases e':y=z
     . subst e'
       rw [if_neg e]; exact decide_eq_true h
     . rw [if_neg e'] at k
       have k:=of_decide_eq_true k
       rw [if_neg (by omega)]
       exact decide_eq_true (by omega)
noncomputable def insT (z:List Int):List (List Int)→List (List Int)
 | []=>[z]
 | y :: ys=>if lexL y z then y :: insT z ys else z :: y :: ys
noncomputable def sortT:List (List Int)→List (List Int)
 | []=>[]
 | z :: zs=>insT z (sortT zs)
theorem insT_perm (z:List Int):∀ l,(insT z l).Perm (z :: l)
 | []=>.refl _
 | y :: ys=>by
   unfold insT
   by_cases h:lexL y z=true
   . rw [if_pos h]; exact ((insT_perm z ys).cons y).trans (.swap z y ys)
   . rw [if_neg h]
theorem sortT_perm:∀ l,(sortT l).Perm l
 | []=>.refl _
 | z :: zs=>(insT_perm z _).trans ((sortT_perm zs).cons z)
theorem insT_lt (z:List Int):∀ l,z ∉ l→l.Pairwise (fun a b=>lexL a b=true)→(insT z l).Pairwise (fun a b=>lexL a b=true)
 | [],_,_=>List.pairwise_singleton _ _
 | y :: ys,hz,h=>by
   rw [List.pairwise_cons] at h
   rw [List.mem_cons,not_or] at hz
   unfold insT
   by_cases e:lexL y z=true
   . rw [if_pos e]
     refine List.pairwise_cons.mpr ⟨fun a ha=>?_,insT_lt z ys hz.2 h.2⟩
     rcases List.mem_cons.mp ((insT_perm z ys).mem_iff.mp ha) with q | q
     . rw [q]; exact e
     . exact h.1 a q
   . rw [if_neg e]
     have e:=lexL_tot (Bool.eq_false_iff.mpr e) fun q=>hz.1 q.symm
     refine List.pairwise_cons.mpr ⟨fun a ha=>?_,List.pairwise_cons.mpr h⟩
     rcases List.mem_cons.mp ha with q | q
     . rw [q]; exact e
     . exact lexL_tr e (h.1 a q)
theorem sortT_lt:∀ {l:List (List Int)},l.Nodup→(sortT l).Pairwise (fun a b=>lexL a b=true)
 | [],_=>.nil
 | z :: zs,h=>by
   rw [List.nodup_cons] at h
   exact insT_lt z _ (fun q=>h.1 ((sortT_perm zs).mem_iff.mp q)) (sortT_lt h.2)
theorem lexL_asym {a b:List Int} (h:lexL a b=true):lexL b a=false:=by
 cases e:lexL b a with
 | false=>rfl
 | true=>rw [←lexL_irr a]; exact (lexL_tr h e).symm
theorem sort_key {zs:List (List Int)} (hn:zs.Nodup) {a b:List Int} (ha:a∈zs) (hb:b∈zs):lexL a b=decide (((sortT zs).idxOf a:Int) < (sortT zs).idxOf b):=by
 have hs:=sortT_lt hn
 have i1:=List.idxOf_lt_length_of_mem ((sortT_perm zs).mem_iff.mpr ha)
 have i2:=List.idxOf_lt_length_of_mem ((sortT_perm zs).mem_iff.mpr hb)
 have e1:=List.getElem_idxOf i1
 have e2:=List.getElem_idxOf i2
 rcases Nat.lt_trichotomy ((sortT zs).idxOf a) ((sortT zs).idxOf b) with h | h | h
 . have:=List.pairwise_iff_getElem.mp hs _ _ i1 i2 h
   rw [e1,e2] at this
   rw [this]; exact (decide_eq_true (by omega)).symm
 . have:a=b:=by rw [←e1,← e2]; exact getElem_congr_idx h
   rw [this,lexL_irr]; exact (decide_eq_false (by omega)).symm
 . have:=List.pairwise_iff_getElem.mp hs _ _ i2 i1 h
   rw [e1,e2] at this
   rw [lexL_asym this]; exact (decide_eq_false (by omega)).symm
theorem sort_inj {zs:List (List Int)} {a b:List Int} (ha:a∈zs) (hb:b∈zs) (h:((sortT zs).idxOf a:Int)=(sortT zs).idxOf b):a=b:=by
 have i1:=List.idxOf_lt_length_of_mem ((sortT_perm zs).mem_iff.mpr ha)
 have i2:=List.idxOf_lt_length_of_mem ((sortT_perm zs).mem_iff.mpr hb)
 rw [←List.getElem_idxOf i1,← List.getElem_idxOf i2]
 exact getElem_congr_idx (by omega)
theorem sortT_eq {zs l:List (List Int)} (hn:zs.Nodup) (hp:l.Perm zs) (h:l.Pairwise fun a b=>((sortT zs).idxOf a:Int) < (sortT zs).idxOf b):l=sortT zs:=by
 refine List.Perm.eq_of_pairwise (le:=fun a b=>lexL a b=true) (fun a b _ _ h k=>?_) (h.imp_of_mem fun {a b} ha hb w=>?_) (sortT_lt hn) (hp.trans (sortT_perm zs).symm)
 . rw [lexL_asym h] at k; cases k
 . rw [sort_key hn (hp.mem_iff.mp ha) (hp.mem_iff.mp hb)]; exact decide_eq_true w
noncomputable def plI (z:Int × Int):List Int:=[z.1,z.2]
noncomputable def key2:List Int→Int
 | [a,b]=>code2 (a,b)
 | _=>0
theorem key2_lt {a b:Int × Int} (ha:0≤a.2∧a.2 < 1000) (hb:0≤b.2∧b.2 < 1000):lexL (plI a) (plI b)=decide (key2 (plI a) < key2 (plI b)):=by
 rw [show key2 (plI a)=code2 a from rfl,show key2 (plI b)=code2 b from rfl,decide_eq_decide.mpr (code2_lt ha hb)]
 unfold plI lexL lexL lexL
 by_cases h1:a.1=b.1
 . rw [if_pos h1]
   by_cases h2:a.2=b.2
   . rw [if_pos h2]; exact (decide_eq_false (by omega)).symm
   . rw [if_neg h2]; exact decide_eq_decide.mpr (by omega)
 . rw [if_neg h1]; exact decide_eq_decide.mpr (by omega)
theorem plI_inj {a b:Int × Int} (h:plI a=plI b):a=b:=by
 unfold plI at h
 injection h with h1 h2
 injection h2 with h2 _
 exact Prod.ext h1 h2
end L2
end
section
namespace L2
open PySem PyProof.Rows
section
variable {X:Cx} {N:List Str} {csc:Scope} {fr:List (Option Nat)} {elt tg iter tg2 iter2:Expr} {ifs ifs2:List Expr} {cpos:Pos} {wi wi2:TI} {g g2:TG} {ts ts2:List TT} {te:TE}
theorem ps_comp2 {y:Str} {py spos:Pos} {i:Nat} (hc:X.calm=true) (S:CompScope X N csc fr) (hi:PI X tg iter wi) (hg:∀ C s0 H0 ex,PG (X.comp N csc C s0 H0 ex) tg g) (ht:∀ C s0 H0 ex,PTs (X.comp N csc C s0 H0 ex) ifs ts)
   (hi2:∀ C s0 H0 ex,PI (X.comp N csc C s0 H0 ex) tg2 iter2 wi2) (hg2:∀ C s0 H0 ex,PG (X.comp N csc C s0 H0 ex) tg2 g2) (ht2:∀ C s0 H0 ex,PTs (X.comp N csc C s0 H0 ex) ifs2 ts2)
   (he:∀ C s0 H0 ex,PE (X.comp N csc C s0 H0 ex) elt te) (hN:X.N.Nodup) (hy:X.N[i]?=some y) (hx:Loc X.env.scope y)
   (hsw:swapsWith (.ListComp elt [⟨tg,iter,ifs,0⟩,⟨tg2,iter2,ifs2,0⟩] csc cpos) (some (.Name y py)) spos.line X.env=pure true:=by rfl)
   (hf:X.fn y=true ∨ X.env.scope.names.lookup y=some .local:=by first | exact .inl rfl | exact .inr rfl | assumption)
   (hs:∀ x,foldedSetIterable iter X.env x=pure x:=by intro _; rfl)
   (hs2:∀ env x,foldedSetIterable iter2 env x=pure x:=by intro _ _; rfl) :
   PS X (.Assign [.Name y py] (.ListComp elt [⟨tg,iter,ifs,0⟩,⟨tg2,iter2,ifs2,0⟩] csc cpos) spos) (tAsg (rComp fr wi g ts fun acc=>tInner wi2 g2 ts2 (tEmit acc te)) (gName i)):=
 ps_compG hc S hi (B:=fun acc env=>(do
         let x ← eval iter2 env
         standAt iter2.pos
         let x ← foldedSetIterable iter2 env x
         let _ ← runOwn (.compStart (.ListComp elt [⟨tg,iter,ifs,0⟩,⟨tg2,iter2,ifs2,0⟩] csc cpos) 1 (← holding [x] (pyIter x)) acc env) env)) (turn2 elt tg iter ifs tg2 iter2 ifs2 csc cpos) hg ht
   (fun C s0 H0 ex acc=>pb_inner rfl hc (hi2 C s0 H0 ex) (hg2 C s0 H0 ex) (ht2 C s0 H0 ex) (pb_emit (he C s0 H0 ex)) (hs2 _)) hN hy hx hsw hf hs
end
end L2
end
section
namespace L2
open PySem PySem.Calls PyProof PyProof.Rows
open AutoSeq1 (wpAny_loadPart')
section
variable {prog:Program} {w:World} {A:Around} {E:Value→Shared→Prop} {s:Shared}
theorem nextOf_tup_item {it t:Addr} {i:Nat} {items:Array Value} {x:Value} {Q:Value→Shared→Prop} (hit:s.heap.IsTupleIter it t i) (ht:s.heap.IsTuple t items) (hx:items[i]?=some x)
   (hQ:∀ h',h'.IsTupleIter it t (i + 1)→Heap.SameBut it s.heap h'→Q x { s with heap:=h' }):wpAny (model prog w) A (Builtin.SmallTypes.nextOf (.ref it)) Q E s:=by
 obtain ⟨o,ho,hc,hd⟩:=id hit
 obtain ⟨ol,hol,_,nl,hdl⟩:=ht
 unfold Builtin.SmallTypes.nextOf
 refine wpAny_bind (wpAny_callSpecial?_slot (name:=Str.ofString "__next__") hit.typeIs F.slot_tuple_iterator_next
   (wpAny_call_entry F.slot_tuple_iterator_next hit.typeIs F.entry_tuple_iterator_next ?_ (F.args_tuple_iterator_next_1 _)))
 show wpAny _ _ (field (.ref it) 0 >>= _) _ _ s
 refine wpAny_bind (wpAny_field ho hd (x:=.ref t) rfl ?_)
 show wpAny _ _ (if (Value.ref t == Value.none)=true then _ else _) _ _ s
 rw [if_neg (show ¬ ((Value.ref t == Value.none)=true) from Bool.false_ne_true)]
 show wpAny _ _ (field (.ref it) 1 >>= _) _ _ s
 refine wpAny_bind (wpAny_field ho hd (x:=.int i 0) rfl ?_)
 show wpAny _ _ (seqItems? (.ref t) >>= _) _ _ s
 refine wpAny_bind (wpAny_seqItems hol hdl ?_)
 simp only [Int.toNat_natCast,hx]
 refine wpAny_bind (wpAny_setField ho hd (by simp) (wpAny_pure ⟨x,rfl,wpAny_pure (hQ _ ?_ (Heap.SameBut.update ..))⟩))
 exact ⟨_,Heap.get?_update_self _ ho (Obj.isFreed_of_fields (Obj.data_mapFields hd _)),(Obj.cls_mapFields ..).trans hc,by
   rw [Obj.data_mapFields hd]; simp [rawInt]⟩
theorem nextOf_tup_end {it t:Addr} {i:Nat} {items:Array Value} {Q:Value→Shared→Prop} (hh:A.handled=none) (hit:s.heap.IsTupleIter it t i) (ht:s.heap.IsTuple t items) (hx:items[i]?=none)
   (hE:∀ h' e,Heap.ExtBut it s.heap h'→(∃ o,h'.get? e=some o∧o.cls=.type "StopIteration")→E (.ref e) { s with heap:=h' }):wpAny (model prog w) A (Builtin.SmallTypes.nextOf (.ref it)) Q E s:=by
 obtain ⟨o,ho,hc,hd⟩:=id hit
 obtain ⟨ol,hol,_,nl,hdl⟩:=ht
 unfold Builtin.SmallTypes.nextOf
 refine wpAny_bind (wpAny_callSpecial?_slot (name:=Str.ofString "__next__") hit.typeIs F.slot_tuple_iterator_next
   (wpAny_call_entry F.slot_tuple_iterator_next hit.typeIs F.entry_tuple_iterator_next ?_ (F.args_tuple_iterator_next_1 _)))
 show wpAny _ _ (field (.ref it) 0 >>= _) _ _ s
 refine wpAny_bind (wpAny_field ho hd (x:=.ref t) rfl ?_)
 show wpAny _ _ (if (Value.ref t == Value.none)=true then _ else _) _ _ s
 rw [if_neg (show ¬ ((Value.ref t == Value.none)=true) from Bool.false_ne_true)]
 show wpAny _ _ (field (.ref it) 1 >>= _) _ _ s
 refine wpAny_bind (wpAny_field ho hd (x:=.int i 0) rfl ?_)
 show wpAny _ _ (seqItems? (.ref t) >>= _) _ _ s
 refine wpAny_bind (wpAny_seqItems hol hdl ?_)
 simp only [Int.toNat_natCast,hx]
 first
   | refine wpAny_bind (wpAny_rule (wpAny_bind (wpAny_setField ho hd (by simp) ?_)))
   | refine wpAny_bind (wpAny_setField ho hd (by simp) ?_)
 first
   | show wpAny _ _ (newExc (.type "StopIteration") [] >>= _) _ _ _
   | (refine wpAny_bind (wpAny_letGo ?_); show wpAny _ _ (newExc (.type "StopIteration") [] >>= _) _ _ _)
 refine wpAny_bind ?_
 simp only [newExc,newTuple]
 refine wpAny_bind (wpAny_newObj_type ?_ (by size_fits))
 refine wpAny_bind (m:=firstArgMember _ _) (wpAny_of_eq (a:=Value.none) (by first | rfl | (simp only [firstArgMember]; rfl)) ?_)
 refine wpAny_newObj_type ?_ (by size_fits)
 simp only [raiseNew]
 refine wpAny_bind (wpAny_handled ?_)
 first | rw [show A.in1.handled=none from hh] | rw [hh]
 refine wpAny_bind (wpAny_pure (wpAny_throw ?_))
 exact hE _ _ (((Heap.SameBut.update ..).extBut.push _).push _) ⟨_,Heap.get?_push_size _ rfl,rfl⟩
end
theorem draws_tup {prog:Program} {w:World} {A:Around} (hh:A.handled=none) (it t:Addr) (hne:t≠it) (items:Array Value) :
   Draws prog w A it [it,t] items.size (fun i v=>items[i]?=some v) (fun i h=>h.IsTupleIter it t i∧h.IsTuple t items) where
 live:=fun _ _ st=>let ⟨o,ho,_⟩:=st.1; ⟨o,ho⟩
 frame:=fun _ _ _ st hk=>⟨st.1.at fun o e=>hk it (by simp) o e,let ⟨o,ho,r⟩:=st.2; ⟨o,hk t (by simp) o ho,r⟩⟩
 item:=fun i s Q E hi st hQ=>by
   refine nextOf_tup_item st.1 st.2 (x:=items[i]) (by simp [hi]) fun h' hit' hs'=>?_
   exact hQ _ h' s.toks (by simp [hi]) ⟨hit',let ⟨o,ho,r⟩:=st.2; ⟨o,hs'.extBut t o hne ho,r⟩⟩ hs'
 done:=fun s Q E st hE=>nextOf_tup_end hh st.1 st.2 (by simp) hE
theorem meets_enum_tup (l:Addr) (items:Array Value) (n:Nat) (dct:Option Addr) (sl:Array (Option Value)) :
   Meets (Builtin.«enumerate.__new__» ⟨[.type "enumerate",.ref l],[]⟩) (fun _ R s=>s.heap.get? l=some { cls:=.type "tuple",dict:=dct,data:=.seq items n,slots:=sl } ∧
     R (.ok (.ret (.ref (s.heap.push { cls:=.type "tuple_iterator",data:=.fields #[.ref l,.int 0 0] }).objs.size)))
       { s with heap:=(s.heap.push { cls:=.type "tuple_iterator",data:=.fields #[.ref l,.int 0 0] }).push { cls:=.type "enumerate",data:=.fields #[.none,.bool false,.ref s.heap.objs.size,rawInt 0,.none,.none] } }):=
 .of_wp fun prog w A R s h=>by
   obtain ⟨hp,g,d,tk,os⟩:=s; obtain ⟨hl,h⟩:=h
   have hsub:=sub_enumerate
   have hL:Heap.IsTuple (Shared.heap ⟨hp,g,d,tk,os⟩) l items:=⟨_,hl,rfl,n,rfl⟩
   wp_walk using wpAny_loadPart' hl
   refine wpAny_stack_any fun st=>wpAny_pure ?_
   split
   . rename_i c _ _ _ _ _
     cases (c == Value.type "enumerate")
     . wp_walk using wpAny_loadPart' hl,wpAny_pyIter_tuple hL
       exact ⟨_,rfl,h⟩
     . wp_walk using wpAny_loadPart' hl,wpAny_pyIter_tuple hL
       exact ⟨_,rfl,h⟩
   . wp_walk using wpAny_loadPart' hl,wpAny_pyIter_tuple hL
     exact ⟨_,rfl,h⟩
section
variable {prog:Program} {w:World} {A:Around} {E:Value→Shared→Prop} {s:Shared}
theorem call_enum_tup {l:Addr} {items:Array Value} {Q:Value→Shared→Prop} (hL:s.heap.IsTuple l items)
   (h:∀ h',IsEnum h' (s.heap.objs.size + 1) s.heap.objs.size 0 .none→h'.IsTupleIter s.heap.objs.size l 0→h'.objs.size=s.heap.objs.size + 2 →
     (∀ b o,s.heap.get? b=some o→h'.get? b=some o)→Q (.ref (s.heap.objs.size + 1)) { s with heap:=h' }) :
   wpAny (model prog w) A (call (.type "enumerate") [.ref l]) Q E s:=by
 obtain ⟨⟨c,dct,dt,sl⟩,hl,hc,n,hd⟩:=hL
 replace hc:c=.type "tuple":=hc
 replace hd:dt=.seq items n:=hd
 subst hc hd
 refine callType_new F.called_enumerate (by decide) (F.typeCall_enumerate_1 _) (F.newCall_enumerate_1 _) (fun obj=>F.args_object_init_2 obj _) F.entry_enumerate_new
   (meets_enum_tup l items n dct sl) ⟨hl,?_⟩
 have hz:(s.heap.push { cls:=.type "tuple_iterator",data:=.fields #[.ref l,.int 0 0] }).objs.size=s.heap.objs.size + 1:=Heap.size_push ..
 show _∧_
 rw [hz]
 have he:IsEnum ((s.heap.push { cls:=.type "tuple_iterator",data:=.fields #[.ref l,.int 0 0] }).push
     { cls:=.type "enumerate",data:=.fields #[.none,.bool false,.ref s.heap.objs.size,rawInt 0,.none,.none] }) (s.heap.objs.size + 1) s.heap.objs.size 0 .none:=by
   have:=Heap.get?_push_size (s.heap.push { cls:=.type "tuple_iterator",data:=.fields #[.ref l,.int 0 0] })
     (o:={ cls:=.type "enumerate",data:=.fields #[.none,.bool false,.ref s.heap.objs.size,rawInt 0,.none,.none] }) rfl
   rw [hz] at this; exact this
 refine ⟨⟨_,he,rfl⟩,h _ he ⟨_,Heap.get?_push_of_some _ (Heap.get?_push_size _ rfl),rfl,rfl⟩ (by rw [Heap.size_push,hz]) fun b o x=>Heap.get?_push_of_some _ (Heap.get?_push_of_some _ x)⟩
end
end L2
end
section
namespace L2
open PySem PySem.Calls PyProof PyProof.Rows
noncomputable def Ite (K:PySem.W.Frag) (a:Addr):It:=
 ⟨fun i H=>∃ xs x,SqT K H a xs∧xs[i]?=some x,fun i H x H'=>∃ t y,H t=none∧x=.ref t∧(∀ xs,SqT K H a xs→xs[i]?=some y)∧H'=upd H t (.tup [.int (i:Nat),y]),fun i H=>∃ xs,SqT K H a xs∧xs.length=i⟩
theorem Inv.turned2 {X:Cx} {pins:List (Addr × Obj)} {σ:St} {H:Hp} {s:Shared} {h':Heap} {t':Nat} {e it T:Addr} {ys:List V} {its:List Value} {n:Nat} (I:Inv X pins σ H s) (fe:FpOk X pins H e) (fi:FpOk X pins H it)
   (k:∀ b o,b≠e→b≠it→s.heap.get? b=some o→h'.get? b=some o) (hT:s.heap.objs.size≤T) (hz:ys.length≤sizeLine) (r:Vals ys its) (ho:h'.get? T=some { cls:=.type "tuple",data:=.seq its.toArray n }) :
   Inv X pins σ (upd H T (.tup ys)) { s with heap:=h',toks:=t' }:=by
 obtain ⟨e0,e1,e2,e3,e4,e5⟩:=fe
 obtain ⟨i0,i1,i2,i3,i4,i5⟩:=fi
 have hn:H T=none:=I.hok.fresh hT
 have neT:∀ b u,H b=some u→b≠T:=fun b u q z=>by rw [z,hn] at q; cases q
 have nee:∀ b u,H b=some u→b≠e:=fun b u q z=>by rw [z,e0] at q; cases q
 have nei:∀ b u,H b=some u→b≠it:=fun b u q z=>by rw [z,i0] at q; cases q
 have neoT:∀ b o,s.heap.get? b=some o→b≠T:=fun b o q z=>absurd (Nat.lt_of_lt_of_le (Heap.lt_size q) hT) (by rw [z]; exact Nat.lt_irrefl _)
 refine I.step (g':=s.gens) (d':=s.drawn) (ch:=[e,it]) (fun b hb=>?_) (fun b o _ _ hc q _=>k b o (fun z=>hc (by simp [z])) (fun z=>hc (by simp [z])) q) (fun b o _ _ hc q _=>⟨o.slots,k b o (fun z=>hc (by simp [z])) (fun z=>hc (by simp [z])) q⟩)
   (fun b o _ q m=>by rw [upd_ne (neoT b o q)]; exact m) (fun b o hc q=>⟨o,k b o (fun z=>hc (by simp [z])) (fun z=>hc (by simp [z])) q⟩) (fun b xs q=>by rw [upd_ne (neT b _ q)]; exact q) (fun b o u q=>by rw [upd_ne (neT b _ q)]; exact q)
   (fun b ps q=>⟨#[],by rw [upd_ne (neT b _ q),q]; simp⟩) (fun m hm=>?_) (fun b u q=>?_) I.bare
 . rcases List.mem_cons.mp hb with z | hb
   . subst z; exact ⟨e3,e1,e4,e5⟩
   . have z:=List.mem_singleton.mp hb
     subst z; exact ⟨i3,i1,i4,i5⟩
 . obtain ⟨o,es,ep,ho,r⟩:=hm
   exact ⟨o,es,ep,k _ o (Ne.symm e1) (Ne.symm i1) ho,r⟩
 . by_cases hb:b=T
   . subst hb
     rw [upd_same] at q
     cases q
     exact ⟨hz,its,r,_,ho,rfl,n,rfl,rfl⟩
   . rw [upd_ne hb] at q
     refine (I.hok b u q).stay (fun c v hc w=>k c v ?_ ?_ w) (fun c hc=>by rw [upd_ne (neT c _ hc)]; exact hc) fun c xs hc=>by rw [upd_ne (neT c _ hc)]; exact hc
     . rcases hc with z | z
       . rw [z]; exact nee b u q
       . exact nee c _ z
     . rcases hc with z | z
       . rw [z]; exact nei b u q
       . exact nei c _ z
theorem Inv.turned1 {X:Cx} {pins:List (Addr × Obj)} {σ:St} {H:Hp} {s:Shared} {h':Heap} {t':Nat} {it:Addr} (I:Inv X pins σ H s) (fi:FpOk X pins H it) (k:∀ b o,b≠it→s.heap.get? b=some o→h'.get? b=some o):Inv X pins σ H { s with heap:=h',toks:=t' }:=by
 obtain ⟨i0,i1,i2,i3,i4,i5⟩:=fi
 exact I.turned k i0 i1 i3 i4 i5
theorem turn_enum {P:Program} {w:World} {K:PySem.W.Frag} {elts:List Expr} {x1:Nat} {pos:Pos} (a e it:Addr) (hei:e≠it):Turn P w K (.Tuple elts x1 pos) (Ite K a) [e,it] e (fun i h=>(∃ old,IsEnum h e it (i:Nat) old)∧h.IsTupleIter it a i) where
 mem:=by simp
 obj:=fun i h st b hb=>by
   rcases List.mem_cons.mp hb with z | hb
   . subst z
     obtain ⟨old,he⟩:=st.1
     exact ⟨_,he,fun v z=>by cases (show Data.fields _=Data.cell v from z)⟩
   . have z:=List.mem_singleton.mp hb
     subst z
     obtain ⟨o,q,c,d⟩:=st.2
     exact ⟨o,q,fun v z=>by rw [d] at z; cases z⟩
 keep:=fun i h h' st k=>⟨let ⟨old,he⟩:=st.1; ⟨old,k e (by simp) _ he⟩,st.2.at fun o q=>k it (by simp) o q⟩
 item:=by
   intro X hP hw hK hc i pins s σ H E I hf st hg
   subst hP hw hK
   obtain ⟨xs,x,hq,hx⟩:=hg
   obtain ⟨⟨old,he⟩,hit⟩:=st
   obtain ⟨its,rv,p,hz⟩:=I.tuple hq
   obtain ⟨u,hu,ru⟩:=rv.get hx
   have hlen:=rv.length
   have hi:i < xs.length:=(List.getElem?_eq_some_iff.mp hx).1
   have hai:a≠it:=fun z=>by
     obtain ⟨o1,q1,c1,_⟩:=id p
     obtain ⟨o2,q2,c2,_⟩:=id hit
     rw [z,q2] at q1; cases q1
     rw [c2] at c1; exact absurd (Value.type.inj c1) (by decide)
   have hae:a≠e:=fun z=>by
     obtain ⟨o1,q1,c1,_⟩:=id p
     have he':s.heap.get? e=_:=he
     rw [z,he'] at q1; cases q1
     exact absurd (Value.type.inj c1) (by decide)
   have D:=draws_tup (prog:=X.prog) (w:=X.w) (A:=X.A.in1) (I.ok.hd hc) it a hai its.toArray
   refine wpAny_pyNext_enum_itemD D he ⟨hit,p⟩ (by rw [List.size_toArray]; omega) hei (fun m=>?_) fun v h1 tk hP ho hs1 hT hsz hk=>?_
   . rcases List.mem_cons.mp m with z | m
     . exact hei z
     . exact hae (List.mem_singleton.mp m).symm
   . have hP:its.toArray[i]?=some v:=hP
     have ev:v=u:=by
       rw [List.getElem?_toArray,hu] at hP
       exact (Option.some.inj hP).symm
     subst ev
     refine ⟨_,rfl,wpAny_letOwnedTupleGo_enum (s:={ s with heap:=h1,toks:=tk + 1 }) ho fun h2 he2 sb=>?_⟩
     have sz:s.heap.objs.size≠e:=Nat.ne_of_gt (Heap.lt_size he)
     refine ⟨.ref s.heap.objs.size,_,Inv.turned2 (s:=s) (h':=h2) (t':=tk + 1) (T:=s.heap.objs.size) (ys:=[.int (i:Nat),x]) (its:=[.int (i:Nat) tk,v]) (n:=0) I (hf e (by simp)) (hf it (by simp)) (fun b o h1' h2' q=>(sb.2 b h1').trans (hk b o h1' h2' q)) (Nat.le_refl _) (by rw [sizeLine_eq]; show 2≤_; decide) (.cons ⟨tk,rfl⟩ (.cons ru .nil)) ((sb.2 _ sz).trans hT),rfl,
       ⟨s.heap.objs.size,x,I.hok.fresh (Nat.le_refl _),rfl,fun ys hy=>by rw [I.tuple_inj hy hq]; exact hx,rfl⟩,⟨⟨v,by simpa using he2⟩,hs1.1.at fun o q=>(sb.2 it (Ne.symm hei)).trans q⟩,fun b hb=>?_⟩
     rw [upd_ne (fun z=>?_)]
     . exact (hf b hb).1
     . have hlt:b < s.heap.objs.size:=by
         rcases List.mem_cons.mp hb with y | hb
         . rw [y]; exact Heap.lt_size he
         . rw [List.mem_singleton.mp hb]; obtain ⟨o,q,_⟩:=hit; exact Heap.lt_size q
       exact absurd z (Nat.ne_of_lt hlt)
 done:=by
   intro X hP hw hK hc i pins s σ H E I hf st hg
   subst hP hw hK
   obtain ⟨xs,hq,hx⟩:=hg
   obtain ⟨⟨old,he⟩,hit⟩:=st
   obtain ⟨its,rv,p,hz⟩:=I.tuple hq
   have hlen:=rv.length
   have hai:a≠it:=fun z=>by
     obtain ⟨o1,q1,c1,_⟩:=id p
     obtain ⟨o2,q2,c2,_⟩:=id hit
     rw [z,q2] at q1; cases q1
     rw [c2] at c1; exact absurd (Value.type.inj c1) (by decide)
   have D:=draws_tup (prog:=X.prog) (w:=X.w) (A:=X.A.in1) (I.ok.hd hc) it a hai its.toArray
   have en:its.toArray.size=i:=by rw [List.size_toArray]; omega
   exact wpAny_pyNext_enum_endD D he ⟨by rw [en]; exact hit,p⟩ fun h' eb=>⟨rfl,I.turned1 (t':=s.toks) (hf it (by simp)) fun b o hb q=>eb b o hb q⟩
 self:=fun _ _ _ _ _ st h=>let ⟨old,he⟩:=st.1; wpAny_pyIter_enum he h
noncomputable def IteL (K:PySem.W.Frag) (a:Addr):It:=
 ⟨fun i H=>∃ xs x,SqL K H a xs∧xs[i]?=some x,fun i H x H'=>∃ t y,H t=none∧x=.ref t∧(∀ xs,SqL K H a xs→xs[i]?=some y)∧H'=upd H t (.tup [.int (i:Nat),y]),fun i H=>∃ xs,SqL K H a xs∧xs.length=i⟩
theorem turn_enumL {P:Program} {w:World} {K:PySem.W.Frag} {elts:List Expr} {x1:Nat} {pos:Pos} (a e it:Addr) (hei:e≠it):Turn P w K (.Tuple elts x1 pos) (IteL K a) [e,it] e (fun i h=>(∃ old,IsEnum h e it (i:Nat) old)∧h.IsListIter it a i) where
 mem:=by simp
 obj:=fun i h st b hb=>by
   rcases List.mem_cons.mp hb with z | hb
   . subst z
     obtain ⟨old,he⟩:=st.1
     exact ⟨_,he,fun v z=>by cases (show Data.fields _=Data.cell v from z)⟩
   . have z:=List.mem_singleton.mp hb
     subst z
     obtain ⟨o,q,c,d⟩:=st.2
     exact ⟨o,q,fun v z=>by rw [d] at z; cases z⟩
 keep:=fun i h h' st k=>⟨let ⟨old,he⟩:=st.1; ⟨old,k e (by simp) _ he⟩,st.2.at fun o q=>k it (by simp) o q⟩
 item:=by
   intro X hP hw hK hc i pins s σ H E I hf st hg
   subst hP hw hK
   obtain ⟨xs,x,hq,hx⟩:=hg
   obtain ⟨⟨old,he⟩,hit⟩:=st
   obtain ⟨its,rv,p0,hz⟩:=I.list hq
   have p:=p0.isList
   obtain ⟨u,hu,ru⟩:=rv.get hx
   have hlen:=rv.length
   have hi:i < xs.length:=(List.getElem?_eq_some_iff.mp hx).1
   have hai:a≠it:=fun z=>by
     obtain ⟨o1,q1,c1,_⟩:=id p
     obtain ⟨o2,q2,c2,_⟩:=id hit
     rw [z,q2] at q1; cases q1
     rw [c2] at c1; exact absurd (Value.type.inj c1) (by decide)
   have hae:a≠e:=fun z=>by
     obtain ⟨o1,q1,c1,_⟩:=id p
     have he':s.heap.get? e=_:=he
     rw [z,he'] at q1; cases q1
     exact absurd (Value.type.inj c1) (by decide)
   have D:=Draws.list (prog:=X.prog) (w:=X.w) (A:=X.A.in1) (I.ok.hd hc) it a hai its.toArray
   refine wpAny_pyNext_enum_itemD D he ⟨hit,p⟩ (by rw [List.size_toArray]; omega) hei (fun m=>?_) fun v h1 tk hP ho hs1 hT hsz hk=>?_
   . rcases List.mem_cons.mp m with z | m
     . exact hei z
     . exact hae (List.mem_singleton.mp m).symm
   . have hP:its.toArray[i]?=some v:=hP
     have ev:v=u:=by
       rw [List.getElem?_toArray,hu] at hP
       exact (Option.some.inj hP).symm
     subst ev
     refine ⟨_,rfl,wpAny_letOwnedTupleGo_enum (s:={ s with heap:=h1,toks:=tk + 1 }) ho fun h2 he2 sb=>?_⟩
     have sz:s.heap.objs.size≠e:=Nat.ne_of_gt (Heap.lt_size he)
     refine ⟨.ref s.heap.objs.size,_,Inv.turned2 (s:=s) (h':=h2) (t':=tk + 1) (T:=s.heap.objs.size) (ys:=[.int (i:Nat),x]) (its:=[.int (i:Nat) tk,v]) (n:=0) I (hf e (by simp)) (hf it (by simp)) (fun b o h1' h2' q=>(sb.2 b h1').trans (hk b o h1' h2' q)) (Nat.le_refl _) (by rw [sizeLine_eq]; show 2≤_; decide) (.cons ⟨tk,rfl⟩ (.cons ru .nil)) ((sb.2 _ sz).trans hT),rfl,
       ⟨s.heap.objs.size,x,I.hok.fresh (Nat.le_refl _),rfl,fun ys hy=>by rw [I.list_inj hy hq]; exact hx,rfl⟩,⟨⟨v,by simpa using he2⟩,hs1.1.at fun o q=>(sb.2 it (Ne.symm hei)).trans q⟩,fun b hb=>?_⟩
     rw [upd_ne (fun z=>?_)]
     . exact (hf b hb).1
     . have hlt:b < s.heap.objs.size:=by
         rcases List.mem_cons.mp hb with y | hb
         . rw [y]; exact Heap.lt_size he
         . rw [List.mem_singleton.mp hb]; obtain ⟨o,q,_⟩:=hit; exact Heap.lt_size q
       exact absurd z (Nat.ne_of_lt hlt)
 done:=by
   intro X hP hw hK hc i pins s σ H E I hf st hg
   subst hP hw hK
   obtain ⟨xs,hq,hx⟩:=hg
   obtain ⟨⟨old,he⟩,hit⟩:=st
   obtain ⟨its,rv,p0,hz⟩:=I.list hq
   have p:=p0.isList
   have hlen:=rv.length
   have hai:a≠it:=fun z=>by
     obtain ⟨o1,q1,c1,_⟩:=id p
     obtain ⟨o2,q2,c2,_⟩:=id hit
     rw [z,q2] at q1; cases q1
     rw [c2] at c1; exact absurd (Value.type.inj c1) (by decide)
   have D:=Draws.list (prog:=X.prog) (w:=X.w) (A:=X.A.in1) (I.ok.hd hc) it a hai its.toArray
   have en:its.toArray.size=i:=by rw [List.size_toArray]; omega
   exact wpAny_pyNext_enum_endD D he ⟨by rw [en]; exact hit,p⟩ fun h' eb=>⟨rfl,I.turned1 (t':=s.toks) (hf it (by simp)) fun b o hb q=>eb b o hb q⟩
 self:=fun _ _ _ _ _ st h=>let ⟨old,he⟩:=st.1; wpAny_pyIter_enum he h
noncomputable def iEnum (K:PySem.W.Frag) (ta:TA):TI:=fun σ H R=>ta σ H fun vs H1=>∃ a,vs=[.ref a]∧(((∃ xs,SqT K H1 a xs)∧R (Ite K a) H1) ∨ ((∃ xs,SqL K H1 a xs)∧R (IteL K a) H1))
theorem pi_enum {X:Cx} {elts:List Expr} {x1:Nat} {tpos:Pos} {a:Expr} {ta:TA} {p pos:Pos} (hg:Gl X "enumerate") (hm:X.mg "enumerate"=none) (ha:PA X [a] ta) (hs:starEach [a] X.env=[(false,eval a X.env)]:=by rfl):PI X (.Tuple elts x1 tpos) (.Call (.Name "enumerate" p) [a] [] pos) (iEnum X.K ta):=by
 intro pins s σ H R I h
 refine Call_ (ld_blt I hg hm boot_enumerate (PyProof.Rows.callWith_type1 (thn (ha pos pins s σ H _ I h) fun us s1 ⟨vs,H1,I1,r1,q1⟩=>?_) hs rfl))
 obtain ⟨c,e,q⟩:=q1
 subst e
 cases r1 with
 | cons r rr =>
   cases rr
   cases r
   have fp:∀ b∈[s1.heap.objs.size + 1,s1.heap.objs.size],FpOk X pins H1 b:=fun b hb=>by
     have hb':s1.heap.objs.size≤b:=by
       rcases List.mem_cons.mp hb with z | hb
       . rw [z]; exact Nat.le_succ _
       . rw [List.mem_singleton.mp hb]; exact Nat.le_refl _
     exact I1.fpOk hb' (I1.hok.fresh hb')
   rcases q with ⟨⟨xs,hq⟩,q⟩ | ⟨⟨xs,hq⟩,q⟩
   . obtain ⟨its,rv,pt,hz⟩:=I1.tuple hq
     refine call_enum_tup (show s1.heap.IsTuple c its.toArray from pt) fun h' he hit hsz hk=>wpAny_pyIter_enum he ?_
     exact ⟨s1.heap.objs.size + 1,[s1.heap.objs.size + 1,s1.heap.objs.size],_,_,H1,rfl,I1.kept (t':=s1.toks) hk,turn_enum c _ _ (Nat.succ_ne_self _),⟨⟨_,he⟩,hit⟩,fp,q⟩
   . obtain ⟨its,rv,pt,hz⟩:=I1.list hq
     refine call_enumerate_list pt.isList fun h' he hit hsz hk=>wpAny_pyIter_enum he ?_
     exact ⟨s1.heap.objs.size + 1,[s1.heap.objs.size + 1,s1.heap.objs.size],_,_,H1,rfl,I1.kept (t':=s1.toks) hk,turn_enumL c _ _ (Nat.succ_ne_self _),⟨⟨_,he⟩,hit⟩,fp,q⟩
end L2
end
section
namespace L2
open PySem PyProof.Rows
noncomputable def intsOf:List Expr→Option (List Int)
 | []=>some []
 | .Constant (.int i) _ _ :: es=>(intsOf es).map fun r=>i :: r
 | .UnaryOp .USub (.Constant (.int i) _ _) _ :: es=>(intsOf es).map fun r=>-i :: r
 | _=>none
end L2
end
section
namespace M
open PySem
inductive Val where
 | none | bool (b:Bool) | int (i:Int) | str (x:Str)
 | tup (vs:List Val) | lst (vs:List Val) | dct0
 | ctup (ns:List Int) | scr (ns:List Int)
 | ref (i:Nat) | fn (x:Str) | ty (n:String)
 deriving Inhabited
inductive Cel where
 | lst (vs:List Val)
 deriving Inhabited
noncomputable abbrev Sto:=List Cel
noncomputable abbrev Env:=List (Option Val)
inductive Out (α:Type) where
 | ok (a:α) (s:Sto)
 | exc (c:Str) (args:List Val) (s:Sto)
 | stuck
noncomputable def Out.bind {α β:Type} (o:Out α) (f:α→Sto→Out β):Out β:=
 match o with
 | .ok a s=>f a s
 | .exc c as s=>.exc c as s
 | .stuck=>.stuck
@[simp] theorem bind_ok {α β:Type} (a:α) (s:Sto) (f:α→Sto→Out β):(Out.ok a s).bind f=f a s:=rfl
@[simp] theorem bind_stuck {α β:Type} (f:α→Sto→Out β):(Out.stuck:Out α).bind f=.stuck:=rfl
@[simp] theorem bind_exc {α β:Type} (c:Str) (as:List Val) (s:Sto) (f:α→Sto→Out β):(Out.exc c as s:Out α).bind f=.exc c as s:=rfl
mutual
noncomputable def Val.isD:Val→Bool
 | .none | .bool _ | .int _=>true
 | .str x=>PyData.strOk x
 | .tup vs=>isDs vs
 | .lst vs=>isDs vs
 | .dct0 | .ctup _ | .scr _ | .ref _ | .fn _ | .ty _=>false
noncomputable def isDs:List Val→Bool
 | []=>true
 | v :: vs=>v.isD && isDs vs
end
mutual
noncomputable def Val.isR:Val→Bool
 | .none | .bool _ | .int _ | .str _ | .dct0=>true
 | .tup vs=>isRs vs
 | .lst vs=>isRs vs
 | .ctup _ | .scr _ | .ref _ | .fn _ | .ty _=>false
noncomputable def isRs:List Val→Bool
 | []=>true
 | v :: vs=>v.isR && isRs vs
end
mutual
noncomputable def Val.d:Val→PyData
 | .none=>.none
 | .bool b=>.bool b
 | .int i=>.int i
 | .str x=>.str x
 | .tup vs=>.tuple (ds vs)
 | .lst vs=>.list (ds vs)
 | .dct0=>.dict []
 | .ctup _ | .scr _ | .ref _ | .fn _ | .ty _=>.none
noncomputable def ds:List Val→List PyData
 | []=>[]
 | v :: vs=>v.d :: ds vs
end
mutual
noncomputable def Val.noRef:Val→Bool
 | .ref _=>false
 | .tup vs=>noRefs vs
 | .lst vs=>noRefs vs
 | .none | .bool _ | .int _ | .str _ | .dct0 | .ctup _ | .scr _ | .fn _ | .ty _=>true
noncomputable def noRefs:List Val→Bool
 | []=>true
 | v :: vs=>v.noRef && noRefs vs
end
noncomputable def Cel.noRef:Cel→Bool
 | .lst vs=>noRefs vs
mutual
noncomputable def Val.beq:Val→Val→Bool
 | .none,.none=>true
 | .bool a,.bool b=>a == b
 | .int a,.int b=>a == b
 | .str a,.str b=>a == b
 | .tup a,.tup b=>beqs a b
 | .lst a,.lst b=>beqs a b
 | .dct0,.dct0=>true
 | .ctup a,.ctup b=>a == b
 | .scr a,.scr b=>a == b
 | .ref a,.ref b=>a == b
 | .fn a,.fn b=>a == b
 | .ty a,.ty b=>a == b
 | _,_=>false
noncomputable def beqs:List Val→List Val→Bool
 | [],[]=>true
 | a :: as,b :: bs=>a.beq b && beqs as bs
 | _,_=>false
end
noncomputable def Cel.beq:Cel→Cel→Bool
 | .lst a,.lst b=>beqs a b
noncomputable def okOld:Sto→Sto→Bool
 | [],_=>true
 | o :: r,o' :: r'=>(o'.noRef || o'.beq o) && okOld r r'
 | _ :: _,[]=>false
mutual
noncomputable def freezeV (n0:Nat) (s:Sto):Nat→Val→Option Val
 | _,.ref i=>if i < n0 then some (.ref i) else match s[i]? with
   | some (.lst vs)=>if noRefs vs then some (.lst vs) else Option.none
   | Option.none=>Option.none
 | k + 1,.tup vs=>(freezeL n0 s k vs).map .tup
 | _,v=>if v.noRef then some v else Option.none
noncomputable def freezeL (n0:Nat) (s:Sto):Nat→List Val→Option (List Val)
 | _,[]=>some []
 | 0,_ :: _=>Option.none
 | k + 1,v :: vs=>match (if v.noRef then some v else freezeV n0 s k v),freezeL n0 s k vs with
   | some v',some vs'=>some (v' :: vs')
   | _,_=>Option.none
end
noncomputable def freeze (n0:Nat) (s:Sto) (v:Val):Option Val:=if v.noRef then some v else freezeV n0 s 20 v
inductive Bop | add | sub | mul | fdiv | mod | pow | shl | shr | band
 deriving DecidableEq
inductive Cop | eq | ne | lt | le | gt | ge | is | isNot | in_ | notIn
 deriving DecidableEq
inductive Bf | len | all | any | tuple | list | sorted | repr | max | min | sum | int | isi | divmod | str
 deriving DecidableEq
inductive Mf | count | append | extend | pop | index
 deriving DecidableEq
inductive Tgt
 | nm (i:Nat)
 | nms (is:List Nat)
mutual
inductive Ex
 | lit (v:Val) | var (i:Nat) | gl (x:Str) | ty (x:Str) (n:String)
 | bin (m:Bool) (op:Bop) (a b:Ex) | neg (a:Ex) | not (a:Ex)
 | cmp (op:Cop) (a b:Ex) | chain (op op':Cop) (a b c:Ex)
 | andE (a:Ex) (es:Exs) | orE (a:Ex) (es:Exs) | ife (c:Cn) (a b:Ex)
 | tup (es:Exs) | lst (m:Bool) (es:Exs) | dct0
 | call (f:Str) (ver:Nat) (es:Exs) | blt (f:Bf) (m:Bool) (es:Exs) | maxD (a d:Ex)
 | meth (f:Mf) (m:Bool) (o:Ex) (es:Exs)
 | ix (a b:Ex) | sl (m:Bool) (a:Ex) (lo hi st:OEx)
 | comp (m:Bool) (N:List Str) (fr:List (Option Nat)) (elt:Ex) (t:Tgt) (it:Itb) (ifs:Cns)
 | comp2 (m:Bool) (N:List Str) (fr:List (Option Nat)) (elt:Ex) (t:Tgt) (it:Itb) (ifs:Cns) (t2:Tgt) (it2:Itb) (ifs2:Cns)
 | listRange (m:Bool) (a b c:Ex)
inductive Exs
 | nil | cons (e:Ex) (es:Exs)
inductive OEx
 | no | yes (e:Ex)
inductive Cn
 | val (e:Ex) | not (c:Cn) | and (c:Cn) (cs:Cns) | or (c:Cn) (cs:Cns)
inductive Cns
 | nil | cons (c:Cn) (cs:Cns)
inductive Itb
 | val (e:Ex) | range1 (a:Ex) | range2 (a b:Ex) | enum (e:Ex) | zip (a b:Ex)
end
mutual
inductive Sm
 | expr (e:Ex) | ret (e:Ex) | retN | asg (i:Nat) (e:Ex) | asgT (is:List Nat) (e:Ex) | par (is:List Nat) (es:Exs)
 | aug (i:Nat) (op:Bop) (e:Ex) | setIx (o i e:Ex)
 | ifS (c:Cn) (a b:Sms) | forS (t:Tgt) (it:Itb) (b:Sms) | whileS (c:Cn) (b:Sms)
 | pass | brk | cont | raise (e:Ex)
inductive Sms
 | nil | cons (s:Sm) (ss:Sms)
end
structure Fn where
 N:List Str
 ps:List Str
 keep:Bool
 body:Sms
noncomputable abbrev Calls:=Str→Nat→List Val→Sto→Out Val
noncomputable def LINE:Nat:=16777216
noncomputable def newList (m:Bool) (vs:List Val) (s:Sto):Out Val:=if m then .ok (.ref s.length) (s++[.lst vs]) else .ok (.lst vs) s
noncomputable def seqOf (s:Sto):Val→Option (List Val)
 | .tup vs=>some vs
 | .lst vs=>some vs
 | .ctup ns=>some (ns.map .int)
 | .scr ns=>some (ns.map .int)
 | .ref i=>match s[i]? with
   | some (.lst vs)=>some vs
   | Option.none=>Option.none
 | _=>Option.none
noncomputable def lstOf (s:Sto):Val→Option (List Val)
 | .lst vs=>some vs
 | .ref i=>match s[i]? with
   | some (.lst vs)=>some vs
   | Option.none=>Option.none
 | _=>Option.none
noncomputable def truth (s:Sto):Val→Option Bool
 | .none=>some false
 | .bool b=>some b
 | .int i=>some (i != 0)
 | .str x=>if x.length≤LINE then some ((x.length:Int) != 0) else Option.none
 | .tup vs=>some !vs.isEmpty
 | .lst vs=>some !vs.isEmpty
 | .dct0=>some false
 | .ref i=>match s[i]? with
   | some (.lst vs)=>some !vs.isEmpty
   | Option.none=>Option.none
 | _=>Option.none
noncomputable def Out.truth (o:Out Val):Out Bool:=o.bind fun v s=>match M.truth s v with
 | some b=>.ok b s
 | Option.none=>.stuck
noncomputable def deref0 (s:Sto):Val→Val
 | .ref i=>match s[i]? with
   | some (.lst vs)=>.lst vs
   | Option.none=>.ref i
 | v=>v
noncomputable def deref (s:Sto):Val→Val
 | .tup vs=>.tup (vs.map (deref0 s))
 | v=>deref0 s v
noncomputable def okShow (d:PyData):Bool:=d.showable && d.leavesShort 40 && decide (d.depth≤50) && decide (d.weight≤300000) && (!d.hasDict || !L2.hasList d)
noncomputable def flat:Val→Bool
 | .none | .bool _ | .int _ | .str _=>true
 | _=>false
noncomputable def eqF:Val→Val→Bool
 | .none,.none=>true
 | .bool a,.bool b=>a == b
 | .bool a,.int b=>(if a then 1 else 0) == b
 | .int a,.bool b=>a == (if b then 1 else 0)
 | .int a,.int b=>a == b
 | .str a,.str b=>a == b
 | _,_=>false
noncomputable def eqOp (a b:Val):Option Bool:=if a.isD && b.isD && decide (b.d.depth≤60) then some (PyData.eqv a.d b.d) else Option.none
noncomputable def intsOf:List Val→Option (List Int)
 | []=>some []
 | .int i :: vs=>(intsOf vs).map (i :: ·)
 | _=>Option.none
noncomputable def Val.isN:Val→Bool
 | .none=>true
 | _=>false
noncomputable def inD (x:Val) (vs:List Val):Bool:=x.isD && isDs vs && decide (x.d.depth≤60)
noncomputable def cmpOp (op:Cop) (x y:Val) (s:Sto):Out Val:=
 match op with
 | .eq=>match x,y with
   | .str a,.str b=>.ok (.bool (decide (a=b))) s
   | _,_=>match eqOp (deref s x) (deref s y) with | some b=>.ok (.bool b) s | Option.none=>.stuck
 | .ne=>match x,y with
   | .str a,.str b=>.ok (.bool !(decide (a=b))) s
   | _,_=>match eqOp (deref s x) (deref s y) with | some b=>.ok (.bool !b) s | Option.none=>.stuck
 | .is=>match y with | .none=>.ok (.bool x.isN) s | .bool b=>(match x with | .bool a=>.ok (.bool (decide (a=b))) s | _=>.stuck) | _=>.stuck
 | .isNot=>match y with | .none=>.ok (.bool !x.isN) s | .bool b=>(match x with | .bool a=>.ok (.bool !(decide (a=b))) s | _=>.stuck) | _=>.stuck
 | .in_=>match seqOf s y with
   | some vs=>if flat x && vs.all flat then .ok (.bool (vs.any fun z=>eqF z x)) s else if inD x vs then .ok (.bool (vs.any fun z=>PyData.eqv z.d x.d)) s else .stuck
   | Option.none=>.stuck
 | .notIn=>match seqOf s y with
   | some vs=>if flat x && vs.all flat then .ok (.bool !(vs.any fun z=>eqF z x)) s else if inD x vs then .ok (.bool !(vs.any fun z=>PyData.eqv z.d x.d)) s else .stuck
   | Option.none=>.stuck
 | .lt=>match x,y with | .int i,.int j=>.ok (.bool (decide (i < j))) s | _,_=>.stuck
 | .le=>match x,y with | .int i,.int j=>.ok (.bool (decide (i≤j))) s | _,_=>.stuck
 | .gt=>match x,y with | .int i,.int j=>.ok (.bool (decide (j < i))) s | _,_=>.stuck
 | .ge=>match x,y with | .int i,.int j=>.ok (.bool (decide (j≤i))) s | _,_=>.stuck
noncomputable def binOp (m:Bool) (op:Bop) (x y:Val) (s:Sto):Out Val:=
 match op with
 | .add=>match x,y with
   | .int i,.int j=>.ok (.int (i + j)) s
   | .str a,.str b=>if a.length + b.length≤LINE then .ok (.str (a++b)) s else .stuck
   | .tup a,.tup b=>if a.length + b.length≤LINE then .ok (.tup (a++b)) s else .stuck
   | _,_=>match lstOf s x,lstOf s y with
     | some a,some b=>if a.length + b.length≤LINE then newList m (a++b) s else .stuck
     | _,_=>.stuck
 | .sub=>match x,y with | .int i,.int j=>.ok (.int (i - j)) s | _,_=>.stuck
 | .mul=>match x,y with
   | .int i,.int j=>if (-(2 ^ 64) < i∧i < 2 ^ 64) ∨ (-(2 ^ 64) < j∧j < 2 ^ 64) then .ok (.int (i * j)) s else .stuck
   | .tup a,.int k=>if -1000≤k∧k≤1000∧a≠[]∧a.length≤1000 then .ok (.tup (List.replicate k.toNat a).flatten) s else .stuck
   | _,.int k=>match lstOf s x with
     | some a=>if -1000≤k∧k≤1000∧a.length * k.toNat≤LINE then newList m (List.replicate k.toNat a).flatten s else .stuck
     | Option.none=>.stuck
   | _,_=>.stuck
 | .fdiv=>match x,y with | .int i,.int j=>if 0 < j∧j < 1073741824 then .ok (.int (i / j)) s else .stuck | _,_=>.stuck
 | .mod=>match x,y with | .int i,.int j=>if 0 < j then .ok (.int (i % j)) s else .stuck | _,_=>.stuck
 | .pow=>match x,y with | .int i,.int j=>if 0≤j∧j≤1000000∧i.natAbs < 2 ^ 64 then .ok (.int (i ^ j.toNat)) s else .stuck | _,_=>.stuck
 | .shl=>match x,y with | .int i,.int j=>if 0≤j∧j≤1000000∧i.natAbs < 2 ^ 64 then .ok (.int (i * 2 ^ j.toNat)) s else .stuck | _,_=>.stuck
 | .shr=>match x,y with | .int i,.int j=>if 0≤j then .ok (.int (i / 2 ^ j.toNat)) s else .stuck | _,_=>.stuck
 | .band=>match x,y with | .int i,.int j=>.ok (.int (Builtin.bitAnd i j)) s | _,_=>.stuck
noncomputable def kindOf:Val→Option L2.Kd
 | .none=>some .non
 | .bool _=>some .bl
 | .int _=>some .int
 | .str _=>some .str
 | .tup _=>some .tup
 | .lst _=>some .lst
 | .dct0=>some .dct
 | .ref _=>some .lst
 | _=>Option.none
noncomputable def kdOfTy:String→Option L2.Kd
 | "bool"=>some .bl
 | "int"=>some .int
 | "str"=>some .str
 | "list"=>some .lst
 | "tuple"=>some .tup
 | "dict"=>some .dct
 | _=>Option.none
noncomputable def boolsOf:List Val→Option (List Bool)
 | []=>some []
 | .bool b :: vs=>(boolsOf vs).map (b :: ·)
 | _=>Option.none
noncomputable def pairsOf:List Val→Option (List (Int × Int))
 | []=>some []
 | .tup [.int a,.int b] :: vs=>(pairsOf vs).map ((a,b) :: ·)
 | _=>Option.none
noncomputable def prV (z:Int × Int):Val:=.tup [.int z.1,.int z.2]
noncomputable def insP (z:Int × Int):List (Int × Int)→List (Int × Int)
 | []=>[z]
 | y :: ys=>if L2.code2 z≤L2.code2 y then z :: y :: ys else y :: insP z ys
noncomputable def sortP:List (Int × Int)→List (Int × Int)
 | []=>[]
 | z :: zs=>insP z (sortP zs)
noncomputable def tupsOf:List Val→Option (List (List Int))
 | []=>some []
 | .tup a :: vs=>match intsOf a,tupsOf vs with
   | some z,some zs=>some (z :: zs)
   | _,_=>Option.none
 | _=>Option.none
noncomputable def tpV (z:List Int):Val:=.tup (z.map .int)
noncomputable def sortOp (m:Bool) (vs:List Val) (s:Sto):Out Val:=match tupsOf vs with
 | some zs=>if zs.Nodup∧(zs.length < 2 ∨ ∀ z∈zs,z≠[]) then newList m ((L2.sortT zs).map tpV) s else .stuck
 | Option.none=>.stuck
noncomputable def blt (f:Bf) (m:Bool) (xs:List Val) (s:Sto):Out Val:=
 match f with
 | .len=>match xs with
   | [.str x]=>if x.length≤LINE then .ok (.int x.length) s else .stuck
   | [x]=>match seqOf s x with | some vs=>.ok (.int vs.length) s | Option.none=>.stuck
   | _=>.stuck
 | .all=>match xs with
   | [x]=>match lstOf s x with | some vs=>(match boolsOf vs with | some bs=>.ok (.bool (bs.all id)) s | Option.none=>.stuck) | Option.none=>.stuck
   | _=>.stuck
 | .any=>.stuck
 | .tuple=>match xs with
   | [.tup vs]=>.ok (.tup vs) s
   | [x]=>match lstOf s x with | some vs=>.ok (.tup vs) s | Option.none=>.stuck
   | _=>.stuck
 | .list=>match xs with
   | [x]=>match seqOf s x with | some vs=>newList m vs s | Option.none=>.stuck
   | _=>.stuck
 | .repr=>match xs with
   | [x]=>if (deref s x).isR && okShow (deref s x).d then .ok (.str (deref s x).d.shown) s else .stuck
   | _=>.stuck
 | .max=>match xs with
   | [.int i,.int j]=>.ok (.int (if j > i then j else i)) s
   | [x]=>match lstOf s x with | some vs=>(match M.intsOf vs with | some ns=>if ns≠[] then .ok (.int (L2.maxOr 0 ns)) s else .stuck | Option.none=>.stuck) | Option.none=>.stuck
   | _=>.stuck
 | .min=>match xs with
   | [.int i,.int j]=>.ok (.int (if j < i then j else i)) s
   | [x]=>match lstOf s x with | some vs=>(match M.intsOf vs with | some ns=>if ns≠[] then .ok (.int (L2.minOr 0 ns)) s else .stuck | Option.none=>.stuck) | Option.none=>.stuck
   | _=>.stuck
 | .int=>match xs with
   | [.int i]=>.ok (.int i) s
   | [.bool b]=>.ok (.int (if b then 1 else 0)) s
   | _=>.stuck
 | .isi=>match xs with
   | [x,.ty n]=>match kindOf x,kdOfTy n with | some a,some c=>.ok (.bool (a.sub c)) s | _,_=>.stuck
   | _=>.stuck
 | .divmod=>match xs with
   | [.int i,.int j]=>if 0 < j∧j < 1073741824 then .ok (.tup [.int (i / j),.int (i % j)]) s else .stuck
   | _=>.stuck
 | .str=>match xs with
   | [.int i]=>if i.natAbs.log2 < 1920 then .ok (.str (toString i)) s else .stuck
   | _=>.stuck
 | .sum=>.stuck
 | .sorted=>match xs with
   | [x]=>match lstOf s x with
     | some vs=>(match pairsOf vs with
       | some zs=>if zs.Nodup∧∀ z∈zs,0≤z.2∧z.2 < 1000 then newList m ((sortP zs).map prV) s else sortOp m vs s
       | Option.none=>sortOp m vs s)
     | Option.none=>.stuck
   | _=>.stuck
noncomputable def upd (s:Sto) (i:Nat) (vs:List Val):Sto:=s.set i (.lst vs)
noncomputable def meth (f:Mf) (o:Val) (xs:List Val) (s:Sto):Out Val:=
 match f with
 | .count=>match o,xs with
   | .tup vs,[y]=>if flat y && vs.all flat then .ok (.int (vs.countP fun z=>eqF z y:Nat)) s else .stuck
   | _,[y]=>match lstOf s o with | some vs=>if flat y && vs.all flat then .ok (.int (vs.countP fun z=>eqF z y:Nat)) s else .stuck | Option.none=>.stuck
   | _,_=>.stuck
 | .append=>match o,xs with
   | .ref i,[y]=>match s[i]? with | some (.lst vs)=>if vs.length < LINE then .ok .none (upd s i (vs++[y])) else .stuck | Option.none=>.stuck
   | _,_=>.stuck
 | .extend=>match o,xs with
   | .ref i,[y]=>match s[i]?,lstOf s y with | some (.lst vs),some ws=>if vs.length + ws.length≤LINE then .ok .none (upd s i (vs++ws)) else .stuck | _,_=>.stuck
   | _,_=>.stuck
 | .pop=>.stuck
 | .index=>.stuck
noncomputable def ixOp (a b:Val) (s:Sto):Out Val:=
 match b with
 | .int i=>match seqOf s a with | some vs=>(match L2.atI vs i with | some v=>.ok v s | Option.none=>.stuck) | Option.none=>.stuck
 | _=>.stuck
noncomputable def cutG {α:Type} (xs:List α) (lo hi:Option Int):List α:=(xs.drop (HT.sIx xs.length 0 lo)).take (HT.sIx xs.length xs.length hi - HT.sIx xs.length 0 lo)
noncomputable def slOp (m:Bool) (a:Val) (lo hi st:Option Int) (s:Sto):Out Val:=
 match a,st with
 | .tup vs,Option.none=>.ok (.tup (cutG vs lo hi)) s
 | .tup vs,some c=>if c≠0∧(L2.cut3 vs.length lo hi c).2≤LINE then .ok (.tup (L2.pickV vs (L2.cut3 vs.length lo hi c).1 c (L2.cut3 vs.length lo hi c).2)) s else .stuck
 | _,Option.none=>match lstOf s a with | some vs=>newList m (cutG vs lo hi) s | Option.none=>.stuck
 | _,some _=>.stuck
noncomputable def lrOp (m:Bool) (x y z:Val) (s:Sto):Out Val:=match x,y,z with
 | .int i,.int j,.int k=>if -(2 ^ 30)≤i∧i≤2 ^ 30∧-(2 ^ 30)≤j∧j≤2 ^ 30∧0 < k∧k≤2 ^ 29∧Builtin.Range.rangeSize i j k≤1000 then newList m ((L2.rangeL i j k).map .int) s else .stuck
 | _,_,_=>.stuck
noncomputable def bindT (t:Tgt) (v:Val) (env:Env):Option Env:=
 match t with
 | .nm i=>some (env.set i (some v))
 | .nms is=>match v with
   | .tup vs=>if vs.length=is.length then some ((is.zip vs).foldl (fun e p=>e.set p.1 (some p.2)) env) else Option.none
   | _=>Option.none
structure Src where
 xs:List Val
 at_:Option Nat
noncomputable def Src.ok (r:Src) (s:Sto):Bool:=match r.at_ with
 | Option.none=>true
 | some i=>match s[i]? with
   | some (.lst vs)=>beqs vs r.xs
   | Option.none=>false
noncomputable def enumV (n:Nat):List Val→List Val
 | []=>[]
 | v :: vs=>.tup [.int n,v] :: enumV (n + 1) vs
noncomputable def srcOf (s:Sto):Val→Option Src
 | .tup vs=>some ⟨vs,Option.none⟩
 | .lst vs=>some ⟨vs,Option.none⟩
 | .ctup ns=>some ⟨ns.map .int,Option.none⟩
 | .ref i=>match s[i]? with
   | some (.lst vs)=>some ⟨vs,some i⟩
   | Option.none=>Option.none
 | _=>Option.none
noncomputable def rngV (lo:Int) (n:Nat):List Val:=(List.range n).map fun (k:Nat)=>Val.int (lo + k)
noncomputable def loopC (r:Src) (t:Tgt) (body:Env→Sto→List Val→Out (List Val × Env)):List Val→Env→Sto→List Val→Out (List Val × Env)
 | [],env,s,acc=>if r.ok s then .ok (acc,env) s else .stuck
 | x :: xs,env,s,acc=>if r.ok s then match bindT t x env with
     | Option.none=>.stuck
     | some env'=>(body env' s acc).bind fun p s'=>loopC r t body xs p.2 s' p.1
   else .stuck
noncomputable def startC (fr:List (Option Nat)) (env:Env):Env:=fr.map fun o=>match o with | some j=>(env[j]?).join | Option.none=>Option.none
inductive Fl
 | nx (env:Env) | bk (env:Env) | ct (env:Env) | rt (v:Val)
noncomputable def loopF (r:Src) (t:Tgt) (body:Env→Sto→Out Fl):List Val→Env→Sto→Out Fl
 | [],env,s=>if r.ok s then .ok (.nx env) s else .stuck
 | x :: xs,env,s=>if r.ok s then match bindT t x env with
     | Option.none=>.stuck
     | some env'=>(body env' s).bind fun fl s'=>match fl with
       | .nx e=>loopF r t body xs e s'
       | .ct e=>loopF r t body xs e s'
       | .bk e=>.ok (.nx e) s'
       | .rt v=>.ok (.rt v) s'
   else .stuck
noncomputable def loopW (c:Env→Sto→Out Bool) (body:Env→Sto→Out Fl):Nat→Env→Sto→Out Fl
 | 0,_,_=>.stuck
 | n + 1,env,s=>(c env s).bind fun b s1=>if b then (body env s1).bind fun fl s2=>match fl with
     | .nx e=>loopW c body n e s2
     | .ct e=>loopW c body n e s2
     | .bk e=>.ok (.nx e) s2
     | .rt v=>.ok (.rt v) s2
   else .ok (.nx env) s1
noncomputable def WHILE:Nat:=100000
section
variable (Φ:Calls) (G:Str→Option Val)
mutual
noncomputable def evE (env:Env):Ex→Sto→Out Val
 | .lit v,s=>.ok v s
 | .var i,s=>match env[i]? with | some (some v)=>.ok v s | _=>.stuck
 | .gl x,s=>match G x with | some v=>.ok v s | Option.none=>.stuck
 | .ty _ n,s=>.ok (.ty n) s
 | .bin m op a b,s=>(evE env a s).bind fun x s1=>(evE env b s1).bind fun y s2=>binOp m op x y s2
 | .neg a,s=>(evE env a s).bind fun x s1=>match x with | .int i=>.ok (.int (-i)) s1 | _=>.stuck
 | .not a,s=>(evE env a s).bind fun x s1=>match x with | .bool b=>.ok (.bool !b) s1 | _=>.stuck
 | .cmp op a b,s=>(evE env a s).bind fun x s1=>(evE env b s1).bind fun y s2=>cmpOp op x y s2
 | .chain op op' a b c,s=>(evE env a s).bind fun x s1=>(evE env b s1).bind fun y s2=>(cmpOp op x y s2).bind fun r s3=>match r with
     | .bool true=>(evE env c s3).bind fun z s4=>cmpOp op' y z s4
     | .bool false=>.ok (.bool false) s3
     | _=>.stuck
 | .andE a es,s=>match es with
   | .nil=>evE env a s
   | .cons _ _=>(evE env a s).bind fun x s1=>match x with
     | .bool true=>evAnd env es s1
     | .bool false=>.ok (.bool false) s1
     | _=>.stuck
 | .orE a es,s=>match es with
   | .nil=>evE env a s
   | .cons _ _=>(evE env a s).bind fun x s1=>match x with
     | .bool false=>evOr env es s1
     | .bool true=>.ok (.bool true) s1
     | _=>.stuck
 | .ife c a b,s=>(evT env c s).bind fun t s1=>if t then evE env a s1 else evE env b s1
 | .tup es,s=>(evEs env es s).bind fun vs s1=>if vs.length≤LINE then .ok (.tup vs) s1 else .stuck
 | .lst m es,s=>(evEs env es s).bind fun vs s1=>if vs.length≤LINE then newList m vs s1 else .stuck
 | .dct0,s=>.ok .dct0 s
 | .call f ver es,s=>(evEs env es s).bind fun vs s1=>Φ f ver vs s1
 | .blt f m es,s=>(evEs env es s).bind fun vs s1=>blt f m vs s1
 | .maxD a d,s=>(evE env a s).bind fun x s1=>(evE env d s1).bind fun y s2=>match y with
     | .int k=>(match lstOf s2 x with | some vs=>(match intsOf vs with | some ns=>.ok (.int (L2.maxOr k ns)) s2 | Option.none=>.stuck) | Option.none=>.stuck)
     | _=>.stuck
 | .meth f _ o es,s=>(evE env o s).bind fun x s1=>(evEs env es s1).bind fun vs s2=>meth f x vs s2
 | .ix a b,s=>(evE env a s).bind fun x s1=>(evE env b s1).bind fun y s2=>ixOp x y s2
 | .sl m a lo hi st,s=>(evE env a s).bind fun x s1=>(evO env lo s1).bind fun l s2=>(evO env hi s2).bind fun h s3=>(evO env st s3).bind fun c s4=>slOp m x l h c s4
 | .comp m _ fr elt t it ifs,s=>(evIt env it s).bind fun r s1 =>
     (loopC r t (fun e s' acc=>(evTs e ifs s').bind fun b s2=>if b then (evE e elt s2).bind fun v s3=>.ok (acc++[v],e) s3 else .ok (acc,e) s2) r.xs (startC fr env) s1 []).bind fun p s2=>newList m p.1 s2
 | .comp2 m _ fr elt t it ifs t2 it2 ifs2,s=>(evIt env it s).bind fun r s1 =>
     (loopC r t (fun e s' acc=>(evTs e ifs s').bind fun b s2=>if b then (evIt e it2 s2).bind fun r2 s3 =>
         loopC r2 t2 (fun e' s4 acc'=>(evTs e' ifs2 s4).bind fun b' s5=>if b' then (evE e' elt s5).bind fun v s6=>.ok (acc'++[v],e') s6 else .ok (acc',e') s5) r2.xs e s3 acc
       else .ok (acc,e) s2) r.xs (startC fr env) s1 []).bind fun p s2=>if p.1.length≤LINE then newList m p.1 s2 else .stuck
 | .listRange m a b c,s=>(evE env a s).bind fun x s1=>(evE env b s1).bind fun y s2=>(evE env c s2).bind fun z s3=>lrOp m x y z s3
noncomputable def evAnd (env:Env):Exs→Sto→Out Val
 | .nil,_=>.stuck
 | .cons a es,s=>match es with
   | .nil=>evE env a s
   | .cons _ _=>(evE env a s).bind fun x s1=>match x with
     | .bool true=>evAnd env es s1
     | .bool false=>.ok (.bool false) s1
     | _=>.stuck
noncomputable def evOr (env:Env):Exs→Sto→Out Val
 | .nil,_=>.stuck
 | .cons a es,s=>match es with
   | .nil=>evE env a s
   | .cons _ _=>(evE env a s).bind fun x s1=>match x with
     | .bool false=>evOr env es s1
     | .bool true=>.ok (.bool true) s1
     | _=>.stuck
noncomputable def evEs (env:Env):Exs→Sto→Out (List Val)
 | .nil,s=>.ok [] s
 | .cons e es,s=>(evE env e s).bind fun v s1=>(evEs env es s1).bind fun vs s2=>.ok (v :: vs) s2
noncomputable def evO (env:Env):OEx→Sto→Out (Option Int)
 | .no,s=>.ok Option.none s
 | .yes e,s=>(evE env e s).bind fun v s1=>match v with | .int i=>.ok (some i) s1 | _=>.stuck
/-- a test -/
noncomputable def evT (env:Env):Cn→Sto→Out Bool
 | .val e,s=>(evE env e s).truth
 | .not a,s=>(evT env a s).bind fun b s1=>.ok (!b) s1
 | .and a es,s=>(evT env a s).bind fun b s1=>if b then evTs env es s1 else .ok false s1
 | .or a es,s=>(evT env a s).bind fun b s1=>if b then .ok true s1 else evTo env es s1
noncomputable def evTs (env:Env):Cns→Sto→Out Bool
 | .nil,s=>.ok true s
 | .cons a es,s=>(evT env a s).bind fun b s1=>if b then evTs env es s1 else .ok false s1
noncomputable def evTo (env:Env):Cns→Sto→Out Bool
 | .nil,s=>.ok false s
 | .cons a es,s=>(evT env a s).bind fun b s1=>if b then .ok true s1 else evTo env es s1
noncomputable def evIt (env:Env):Itb→Sto→Out Src
 | .val e,s=>(evE env e s).bind fun v s1=>match srcOf s1 v with | some r=>.ok r s1 | Option.none=>.stuck
 | .range1 a,s=>(evE env a s).bind fun x s1=>match x with
     | .int j=>if -(2 ^ 62)≤j∧j≤LINE then .ok ⟨rngV 0 j.toNat,Option.none⟩ s1 else .stuck
     | _=>.stuck
 | .range2 a b,s=>(evE env a s).bind fun x s1=>(evE env b s1).bind fun y s2=>match x,y with
     | .int i,.int j=>if -(2 ^ 62)≤i∧i < 2 ^ 62∧-(2 ^ 62)≤j∧j < 2 ^ 62∧j - i≤LINE then .ok ⟨rngV i (j - i).toNat,Option.none⟩ s2 else .stuck
     | _,_=>.stuck
 | .enum e,s=>(evE env e s).bind fun v s1=>match v with
     | .tup vs=>.ok ⟨enumV 0 vs,Option.none⟩ s1
     | .lst vs=>.ok ⟨enumV 0 vs,Option.none⟩ s1
     | _=>.stuck
 | .zip _ _,_=>.stuck
end
mutual
noncomputable def exS (env:Env):Sm→Sto→Out Fl
 | .expr e,s=>(evE Φ G env e s).bind fun _ s1=>.ok (.nx env) s1
 | .ret e,s=>(evE Φ G env e s).bind fun v s1=>.ok (.rt v) s1
 | .retN,s=>.ok (.rt .none) s
 | .asg i e,s=>(evE Φ G env e s).bind fun v s1=>.ok (.nx (env.set i (some v))) s1
 | .asgT is e,s=>(evE Φ G env e s).bind fun v s1=>match bindT (.nms is) v env with | some env'=>.ok (.nx env') s1 | Option.none=>.stuck
 | .par is es,s=>(evEs Φ G env es s).bind fun vs s1=>if vs.length=is.length then .ok (.nx ((is.zip vs).foldl (fun e p=>e.set p.1 (some p.2)) env)) s1 else .stuck
 | .aug i op e,s=>match env[i]? with
   | some (some (.int x))=>(evE Φ G env e s).bind fun v s1=>match v with
     | .int y=>(binOp false op (.int x) (.int y) s1).bind fun z s2=>.ok (.nx (env.set i (some z))) s2
     | _=>.stuck
   | _=>.stuck
 | .setIx o i e,s=>(evE Φ G env e s).bind fun v s1=>(evE Φ G env o s1).bind fun x s2=>(evE Φ G env i s2).bind fun y s3=>match x,y with
     | .ref r,.int k=>(match s3[r]? with
       | some (.lst vs)=>(match L2.ixN vs.length k with | some j=>.ok (.nx env) (upd s3 r (vs.set j v)) | Option.none=>.stuck)
       | Option.none=>.stuck)
     | _,_=>.stuck
 | .ifS c a b,s=>(evT Φ G env c s).bind fun t s1=>if t then exSs env a s1 else exSs env b s1
 | .forS t it b,s=>(evIt Φ G env it s).bind fun r s1=>loopF r t (fun e s'=>exSs e b s') r.xs env s1
 | .whileS c b,s=>loopW (fun e s'=>evT Φ G e c s') (fun e s'=>exSs e b s') WHILE env s
 | .pass,s=>.ok (.nx env) s
 | .brk,s=>.ok (.bk env) s
 | .cont,s=>.ok (.ct env) s
 | .raise _,_=>.stuck
noncomputable def exSs (env:Env):Sms→Sto→Out Fl
 | .nil,s=>.ok (.nx env) s
 | .cons c cs,s=>(exS env c s).bind fun fl s1=>match fl with
     | .nx e=>exSs e cs s1
     | fl=>.ok fl s1
end
end
noncomputable def startE (N:List Str) (vs:List Val):Env:=vs.map some++List.replicate (N.length - vs.length) Option.none
noncomputable def leave (F:Fn) (s0:Sto) (v:Val) (s:Sto):Out Val:=
 if F.keep then .ok v s
 else if okOld s0 s then (match freeze s0.length s v with | some v'=>.ok v' (s.take s0.length) | Option.none=>.stuck) else .stuck
structure Tbl where
 fn:Str→Nat→Option Fn
 gl:Str→Option Val
noncomputable def run (T:Tbl) (Φ:Calls) (F:Fn) (vs:List Val) (s:Sto):Out Val:=
 if vs.length=F.ps.length then (exSs Φ T.gl (startE F.N vs) F.body s).bind fun fl s1=>match fl with
   | .nx _=>leave F s .none s1
   | .rt v=>leave F s v s1
   | _=>.stuck
 else .stuck
noncomputable def callN (T:Tbl):Nat→Calls
 | 0=>fun _ _ _ _=>.stuck
 | n + 1=>fun f ver vs s=>match T.fn f ver with | some F=>run T (callN T n) F vs s | Option.none=>.stuck
end M
end
section
namespace M
open PySem
noncomputable abbrev KF:=PySem.W.Frag
structure Own where
 o:List Addr
 h:List Addr
noncomputable def Own.no (ρ:Own) (a:Addr):Prop:=a ∉ ρ.o∧a ∉ ρ.h
noncomputable def KT (K:KF) (a:Addr) (xs:List L2.V):Prop:=∃ (o:Obj) (its:Array Value) (n:Nat),K.lookup a=some o∧o.cls=.type "tuple"∧o.data=.seq its n∧its.size≤sizeLine∧L2.Vals xs its.toList
noncomputable def SC (K:KF) (ρ:Own) (H:L2.Hp) (a:Addr) (xs:List L2.V):Prop:=(ρ.no a∧L2.Rd H a (.lst xs)) ∨
   ∃ (o:Obj) (its:Array Value) (n:Nat),K.lookup a=some o∧o.cls=.type "list"∧o.dict=none∧o.data=.seq its n∧its.size≤sizeLine∧L2.Vals xs its.toList
mutual
inductive RD (K:KF) (mg:Str→Option Value) (ρ:Own) (H:L2.Hp):Val→L2.V→Prop
 | none:RD K mg ρ H .none .non
 | bool (b:Bool):RD K mg ρ H (.bool b) (.bl b)
 | int (i:Int):RD K mg ρ H (.int i) (.int i)
 | str (x:Str):RD K mg ρ H (.str x) (.str x)
 | tup {a:Addr} {vs:List Val} {xs:List L2.V}:ρ.no a→H a=some (.tup xs)→RDs K mg ρ H vs xs→RD K mg ρ H (.tup vs) (.ref a)
 | lst {a:Addr} {vs:List Val} {xs:List L2.V}:ρ.no a→H a=some (.lst xs)→RDs K mg ρ H vs xs→RD K mg ρ H (.lst vs) (.ref a)
 | dct0 {a:Addr}:ρ.no a→H a=some (.dK [])→RD K mg ρ H .dct0 (.ref a)
 | ctup {a:Addr} {ns:List Int}:KT K a (ns.map L2.V.int)→RD K mg ρ H (.ctup ns) (.ref a)
 | scr {a:Addr} {ns:List Int}:SC K ρ H a (ns.map L2.V.int)→RD K mg ρ H (.scr ns) (.ref a)
 | ref {a:Addr} {i:Nat}:ρ.o[i]?=some a→RD K mg ρ H (.ref i) (.ref a)
 | fn {x:Str} {f:Addr}:mg x=some (.ref f)→RD K mg ρ H (.fn x) (.ref f)
 | ty (n:String):RD K mg ρ H (.ty n) (.ty n)
inductive RDs (K:KF) (mg:Str→Option Value) (ρ:Own) (H:L2.Hp):List Val→List L2.V→Prop
 | nil:RDs K mg ρ H [] []
 | cons {v:Val} {x:L2.V} {vs:List Val} {xs:List L2.V}:RD K mg ρ H v x→RDs K mg ρ H vs xs→RDs K mg ρ H (v :: vs) (x :: xs)
end
structure HR (K:KF) (mg:Str→Option Value) (ρ:Own) (s:Sto) (H:L2.Hp):Prop where
 len:ρ.o.length=s.length
 nd:ρ.o.Nodup
 obj:∀ (i:Nat) (vs:List Val),s[i]?=some (Cel.lst vs)→∃ (a:Addr) (xs:List L2.V),ρ.o[i]?=some a∧H a=some (.lst xs)∧RDs K mg ρ H vs xs
 hid:∀ a∈ρ.h,(∃ xs,H a=some (.lst xs))∧a ∉ ρ.o
structure Ext (ρ:Own) (H:L2.Hp) (ρ':Own) (H':L2.Hp):Prop where
 pre:∃ new:List Addr,ρ'.o=ρ.o++new∧∀ a∈new,H a=none
 hid:ρ'.h=ρ.h
 keep:∀ (a:Addr) (o:L2.HO),H a=some o→a ∉ ρ.o→H' a=some o
structure ER (K:KF) (mg:Str→Option Value) (ρ:Own) (H:L2.Hp) (env:Env) (σ:L2.St):Prop where
 len:env.length=σ.length
 at_:∀ (i:Nat) (v:Val),env[i]?=some (some v)→∃ x:L2.V,σ[i]?=some (some x)∧RD K mg ρ H v x
section
variable {K:KF} {mg:Str→Option Value} {ρ ρ' ρ'':Own} {H H' H'':L2.Hp} {s s':Sto}
theorem HR.trk (h:HR K mg ρ s H) {a:Addr} (ha:a∈ρ.o):∃ xs,H a=some (.lst xs):=by
 obtain ⟨i,hi,e⟩:=List.getElem_of_mem ha
 have hs:i < s.length:=by rw [←h.len]; exact hi
 cases hc:s[i] with
 | lst vs =>
   obtain ⟨b,xs,e1,e2,_⟩:=h.obj i vs (by rw [List.getElem?_eq_getElem hs,hc])
   rw [List.getElem?_eq_getElem hi,e] at e1
   cases e1
   exact ⟨xs,e2⟩
theorem HR.new (h:HR K mg ρ s H) {p:Addr} (hp:H p=none):ρ.no p:=by
 refine ⟨fun hm=>?_,fun hm=>?_⟩
 . obtain ⟨xs,e⟩:=h.trk hm
   rw [hp] at e; cases e
 . obtain ⟨⟨xs,e⟩,_⟩:=h.hid p hm
   rw [hp] at e; cases e
theorem Ext.refl:Ext ρ H ρ H:=⟨⟨[],by simp,fun a ha=>by cases ha⟩,rfl,fun a o e _=>e⟩
theorem Ext.notin (x:Ext ρ H ρ' H') {a:Addr} {o:L2.HO} (e:H a=some o) (n:ρ.no a):ρ'.no a:=by
 obtain ⟨new,e1,hn⟩:=x.pre
 refine ⟨?_,by rw [x.hid]; exact n.2⟩
 rw [e1]
 intro hm
 rcases List.mem_append.mp hm with hm | hm
 . exact n.1 hm
 . rw [hn a hm] at e; cases e
theorem Ext.get (x:Ext ρ H ρ' H') {i:Nat} {a:Addr} (e:ρ.o[i]?=some a):ρ'.o[i]?=some a:=by
 obtain ⟨new,e1,hn⟩:=x.pre
 have hi:i < ρ.o.length:=(List.getElem?_eq_some_iff.mp e).1
 rw [e1,List.getElem?_append_left hi]; exact e
theorem Ext.trans (x:Ext ρ H ρ' H') (h:HR K mg ρ' s H') (y:Ext ρ' H' ρ'' H''):Ext ρ H ρ'' H'':=by
 obtain ⟨new,e1,hn⟩:=x.pre
 obtain ⟨new2,e2,hn2⟩:=y.pre
 refine ⟨⟨new++new2,by rw [e2,e1,List.append_assoc],fun a ha=>?_⟩,y.hid.trans x.hid,fun a o e n=>y.keep a o (x.keep a o e n) ?_⟩
 . rcases List.mem_append.mp ha with ha | ha
   . exact hn a ha
   . cases q:H a with
     | none=>rfl
     | some o =>
       by_cases hm:a∈ρ.o
       . obtain ⟨xs,e⟩:=h.trk (a:=a) (by rw [e1]; exact List.mem_append_left _ hm)
         rw [hn2 a ha] at e; cases e
       . have:=x.keep a o q hm
         rw [hn2 a ha] at this; cases this
 . rw [e1]
   intro hm
   rcases List.mem_append.mp hm with hm | hm
   . exact n hm
   . rw [hn a hm] at e; cases e
theorem SC.sql {a:Addr} {xs:List L2.V} (h:SC K ρ H a xs):L2.SqL K H a xs:=by
 rcases h with ⟨_,h⟩ | h
 . exact .inl h
 . exact .inr h
theorem KT.sqt {a:Addr} {xs:List L2.V} (h:KT K a xs):L2.SqT K H a xs:=.inr h
structure Mv (ρ:Own) (H:L2.Hp) (ρ':Own) (H':L2.Hp):Prop where
 keep:∀ (a:Addr) (o:L2.HO),H a=some o→ρ.no a→H' a=some o∧ρ'.no a
 get:∀ (i:Nat) (a:Addr),ρ.o[i]?=some a→ρ'.o[i]?=some a
theorem Ext.mv (x:Ext ρ H ρ' H'):Mv ρ H ρ' H':=⟨fun a o e n=>⟨x.keep a o e n.1,x.notin e n⟩,fun i a e=>x.get e⟩
theorem SC.mv {a:Addr} {xs:List L2.V} (x:Mv ρ H ρ' H') (h:SC K ρ H a xs):SC K ρ' H' a xs:=by
 rcases h with ⟨n,h | ⟨o,h⟩⟩ | h
 . exact .inl ⟨(x.keep _ _ h n).2,.inl (x.keep _ _ h n).1⟩
 . exact .inl ⟨(x.keep _ _ h n).2,.inr ⟨o,(x.keep _ _ h n).1⟩⟩
 . exact .inr h
end
mutual
theorem RD.mv {K:KF} {mg:Str→Option Value} {ρ ρ':Own} {H H':L2.Hp} (x:Mv ρ H ρ' H'):∀ {v:Val} {u:L2.V},RD K mg ρ H v u→RD K mg ρ' H' v u
 | _,_,.none=>.none
 | _,_,.bool b=>.bool b
 | _,_,.int i=>.int i
 | _,_,.str t=>.str t
 | _,_,.tup n e r=>.tup (x.keep _ _ e n).2 (x.keep _ _ e n).1 (RDs.mv x r)
 | _,_,.lst n e r=>.lst (x.keep _ _ e n).2 (x.keep _ _ e n).1 (RDs.mv x r)
 | _,_,.dct0 n e=>.dct0 (x.keep _ _ e n).2 (x.keep _ _ e n).1
 | _,_,.ctup h=>.ctup h
 | _,_,.scr h=>.scr (h.mv x)
 | _,_,.ref e=>.ref (x.get _ _ e)
 | _,_,.fn e=>.fn e
 | _,_,.ty n=>.ty n
theorem RDs.mv {K:KF} {mg:Str→Option Value} {ρ ρ':Own} {H H':L2.Hp} (x:Mv ρ H ρ' H'):∀ {vs:List Val} {us:List L2.V},RDs K mg ρ H vs us→RDs K mg ρ' H' vs us
 | _,_,.nil=>.nil
 | _,_,.cons r rs=>.cons (RD.mv x r) (RDs.mv x rs)
end
theorem RD.mono {K:KF} {mg:Str→Option Value} {ρ ρ':Own} {H H':L2.Hp} {v:Val} {u:L2.V} (r:RD K mg ρ H v u) (x:Ext ρ H ρ' H'):RD K mg ρ' H' v u:=RD.mv x.mv r
theorem RDs.mono {K:KF} {mg:Str→Option Value} {ρ ρ':Own} {H H':L2.Hp} {v:List Val} {u:List L2.V} (r:RDs K mg ρ H v u) (x:Ext ρ H ρ' H'):RDs K mg ρ' H' v u:=RDs.mv x.mv r
end M
end
section
namespace M
open PySem
section
variable {K:KF} {mg:Str→Option Value} {ρ ρ' ρ'':Own} {H H' H'':L2.Hp} {s s':Sto}
theorem RDs.length:∀ {vs:List Val} {xs:List L2.V},RDs K mg ρ H vs xs→vs.length=xs.length
 | _,_,.nil=>rfl
 | _,_,.cons _ r=>by rw [List.length_cons,List.length_cons,r.length]
theorem RDs.get:∀ {vs:List Val} {xs:List L2.V} {i:Nat} {v:Val},RDs K mg ρ H vs xs→vs[i]?=some v→∃ x,xs[i]?=some x∧RD K mg ρ H v x
 | _,_,_,_,.nil,e=>by simp at e
 | _,_,0,_,.cons r _,e=>by simp at e; subst e; exact ⟨_,rfl,r⟩
 | _,_,i + 1,v,.cons _ rs,e=>by
   obtain ⟨x,h1,h2⟩:=RDs.get (i:=i) (v:=v) rs (by simpa using e)
   exact ⟨x,by simpa using h1,h2⟩
theorem RDs.getV:∀ {vs:List Val} {xs:List L2.V} {i:Nat} {x:L2.V},RDs K mg ρ H vs xs→xs[i]?=some x→∃ v,vs[i]?=some v∧RD K mg ρ H v x
 | _,_,_,_,.nil,e=>by simp at e
 | _,_,0,_,.cons r _,e=>by simp at e; subst e; exact ⟨_,rfl,r⟩
 | _,_,i + 1,v,.cons _ rs,e=>by
   obtain ⟨x,h1,h2⟩:=RDs.getV (i:=i) (x:=v) rs (by simpa using e)
   exact ⟨x,by simpa using h1,h2⟩
theorem RDs.append:∀ {vs ws:List Val} {xs ys:List L2.V},RDs K mg ρ H vs xs→RDs K mg ρ H ws ys→RDs K mg ρ H (vs++ws) (xs++ys)
 | _,_,_,_,.nil,r=>r
 | _,_,_,_,.cons r rs,q=>.cons r (rs.append q)
theorem RDs.take:∀ {vs:List Val} {xs:List L2.V} (n:Nat),RDs K mg ρ H vs xs→RDs K mg ρ H (vs.take n) (xs.take n)
 | _,_,0,_=>.nil
 | _,_,_ + 1,.nil=>.nil
 | _,_,n + 1,.cons r rs=>.cons r (rs.take n)
theorem RDs.drop:∀ {vs:List Val} {xs:List L2.V} (n:Nat),RDs K mg ρ H vs xs→RDs K mg ρ H (vs.drop n) (xs.drop n)
 | _,_,0,r=>r
 | _,_,_ + 1,.nil=>.nil
 | _,_,n + 1,.cons _ rs=>rs.drop n
theorem RDs.set {v:Val} {x:L2.V} (r:RD K mg ρ H v x):∀ {vs:List Val} {xs:List L2.V} (i:Nat),RDs K mg ρ H vs xs→RDs K mg ρ H (vs.set i v) (xs.set i x)
 | _,_,_,.nil=>.nil
 | _,_,0,.cons _ t=>.cons r t
 | _,_,i + 1,.cons q t=>.cons q (RDs.set r i t)
theorem RDs.rep {vs:List Val} {xs:List L2.V} (r:RDs K mg ρ H vs xs):∀ k:Nat,RDs K mg ρ H (List.replicate k vs).flatten (List.replicate k xs).flatten
 | 0=>.nil
 | k + 1=>by
   rw [List.replicate_succ,List.replicate_succ,List.flatten_cons,List.flatten_cons]
   exact r.append (RDs.rep r k)
theorem RDs.pick {vs:List Val} {xs:List L2.V} (r:RDs K mg ρ H vs xs):∀ (is:List Nat),RDs K mg ρ H (is.filterMap fun i=>vs[i]?) (is.filterMap fun i=>xs[i]?)
 | []=>.nil
 | i :: is=>by
   rw [List.filterMap_cons,List.filterMap_cons]
   cases hx:vs[i]? with
   | none =>
     have:xs[i]?=none:=by
       have h2:vs.length≤i:=List.getElem?_eq_none_iff.mp hx
       exact List.getElem?_eq_none_iff.mpr (by rw [←r.length]; exact h2)
     rw [this]; exact RDs.pick r is
   | some v =>
     obtain ⟨u,hu,ru⟩:=r.get hx
     rw [hu]
     exact .cons ru (RDs.pick r is)
theorem RDs.pickV {vs:List Val} {xs:List L2.V} (r:RDs K mg ρ H vs xs) (lo st:Int) (n:Nat):RDs K mg ρ H (L2.pickV vs lo st n) (L2.pickV xs lo st n):=by
 have h:=r.pick ((List.range n).map fun (k:Nat)=>(lo + (k:Int) * st).toNat)
 rw [List.filterMap_map,List.filterMap_map] at h
 exact h
theorem RDs.ints:∀ (ns:List Int),RDs K mg ρ H (ns.map .int) (ns.map .int)
 | []=>.nil
 | n :: ns=>.cons (.int n) (RDs.ints ns)
theorem RDs.cut {vs:List Val} {xs:List L2.V} (r:RDs K mg ρ H vs xs) (lo hi:Option Int):RDs K mg ρ H (cutG vs lo hi) (L2.cutV xs lo hi):=by
 unfold cutG L2.cutV
 rw [r.length]
 exact (r.drop _).take _
theorem nd_ix {α:Type}:∀ {l:List α} {i j:Nat} {x:α},l.Nodup→l[i]?=some x→l[j]?=some x→i=j
 | [],_,_,_,_,e,_=>by simp at e
 | a :: l,0,0,_,_,_,_=>rfl
 | a :: l,0,j + 1,x,nd,e1,e2=>by
   simp at e1 e2; subst e1
   exact absurd (List.mem_of_getElem? e2) (List.nodup_cons.mp nd).1
 | a :: l,i + 1,0,x,nd,e1,e2=>by
   simp at e1 e2; subst e2
   exact absurd (List.mem_of_getElem? e1) (List.nodup_cons.mp nd).1
 | a :: l,i + 1,j + 1,x,nd,e1,e2=>by
   simp at e1 e2
   rw [nd_ix (List.nodup_cons.mp nd).2 e1 e2]
theorem Ext.new (h:HR K mg ρ s H) {p:Addr} (hp:H p=none) (o:L2.HO):Ext ρ H ρ (L2.upd H p o):=
 ⟨⟨[],by simp,fun a ha=>by cases ha⟩,rfl,fun a u e _=>by rw [L2.upd_ne (L2.ne_of_none e hp)]; exact e⟩
theorem HR.more (h:HR K mg ρ s H) {p:Addr} (hp:H p=none) (o:L2.HO):HR K mg ρ s (L2.upd H p o):=by
 refine ⟨h.len,h.nd,fun i vs e=>?_,fun a ha=>?_⟩
 . obtain ⟨a,xs,e1,e2,r⟩:=h.obj i vs e
   exact ⟨a,xs,e1,by rw [L2.upd_ne (L2.ne_of_none e2 hp)]; exact e2,r.mono (Ext.new h hp o)⟩
 . obtain ⟨⟨xs,e⟩,n⟩:=h.hid a ha
   exact ⟨⟨xs,by rw [L2.upd_ne (L2.ne_of_none e hp)]; exact e⟩,n⟩
noncomputable def Own.more (ρ:Own) (p:Addr):Own:=⟨ρ.o++[p],ρ.h⟩
theorem Ext.own (h:HR K mg ρ s H) {p:Addr} (hp:H p=none) (o:L2.HO):Ext ρ H (ρ.more p) (L2.upd H p o):=
 ⟨⟨[p],rfl,fun a ha=>by rw [List.mem_singleton.mp ha]; exact hp⟩,rfl,fun a u e _=>by rw [L2.upd_ne (L2.ne_of_none e hp)]; exact e⟩
theorem own_ref (h:HR K mg ρ s H) (p:Addr):(ρ.more p).o[s.length]?=some p:=by
 show (ρ.o++[p])[s.length]?=some p
 rw [←h.len,List.getElem?_append_right (Nat.le_refl _)]; simp
theorem HR.own (h:HR K mg ρ s H) {p:Addr} (hp:H p=none) {vs:List Val} {xs:List L2.V} (r:RDs K mg ρ H vs xs):HR K mg (ρ.more p) (s++[.lst vs]) (L2.upd H p (.lst xs)):=by
 have X:=Ext.own h hp (.lst xs)
 refine ⟨by show (ρ.o++[p]).length=_; rw [List.length_append,List.length_append,h.len]; rfl,?_,fun i ws q=>?_,fun a ha=>?_⟩
 . show (ρ.o++[p]).Nodup
   rw [List.nodup_append]
   exact ⟨h.nd,by simp,fun a ha b hb=>by rw [List.mem_singleton.mp hb]; intro z; subst z; exact (h.new hp).1 ha⟩
 . by_cases hi:i < s.length
   . rw [List.getElem?_append_left hi] at q
     obtain ⟨a,ys,e1,e2,t⟩:=h.obj i ws q
     exact ⟨a,ys,X.get e1,by rw [L2.upd_ne (L2.ne_of_none e2 hp)]; exact e2,t.mono X⟩
   . have hi':i=s.length:=by
       have:=(List.getElem?_eq_some_iff.mp q).1
       rw [List.length_append] at this
       simp at this; omega
     subst hi'
     rw [List.getElem?_append_right (Nat.le_refl _)] at q
     simp at q
     subst q
     exact ⟨p,xs,own_ref h p,L2.upd_same,r.mono X⟩
 . obtain ⟨⟨ys,q⟩,n⟩:=h.hid a ha
   refine ⟨⟨ys,by rw [L2.upd_ne (L2.ne_of_none q hp)]; exact q⟩,fun hm=>?_⟩
   rcases List.mem_append.mp hm with hm | hm
   . exact n hm
   . rw [List.mem_singleton.mp hm,hp] at q; cases q
theorem Ext.write (h:HR K mg ρ s H) {i:Nat} {a:Addr} (e:ρ.o[i]?=some a) (o:L2.HO):Ext ρ H ρ (L2.upd H a o):=
 ⟨⟨[],by simp,fun a ha=>by cases ha⟩,rfl,fun b u q n=>by rw [L2.upd_ne (fun z=>n (by rw [z]; exact List.mem_of_getElem? e))]; exact q⟩
theorem HR.write (h:HR K mg ρ s H) {i:Nat} {a:Addr} (e:ρ.o[i]?=some a) {vs:List Val} {xs:List L2.V} (r:RDs K mg ρ H vs xs):HR K mg ρ (upd s i vs) (L2.upd H a (.lst xs)):=by
 have X:=Ext.write h e (.lst xs)
 refine ⟨by unfold upd; rw [List.length_set]; exact h.len,h.nd,fun j ws q=>?_,fun b hb=>?_⟩
 . unfold upd at q
   by_cases hij:i=j
   . subst hij
     have hi:i < s.length:=by rw [←h.len]; exact (List.getElem?_eq_some_iff.mp e).1
     rw [List.getElem?_set_self hi] at q
     cases q
     exact ⟨a,xs,e,L2.upd_same,r.mono X⟩
   . rw [List.getElem?_set_ne hij] at q
     obtain ⟨b,ys,e1,e2,t⟩:=h.obj j ws q
     refine ⟨b,ys,e1,?_,t.mono X⟩
     have hb:b≠a:=by
       intro z
       subst z
       exact hij (nd_ix h.nd e e1)
     rw [L2.upd_ne hb]; exact e2
 . obtain ⟨⟨ys,q⟩,n⟩:=h.hid b hb
   exact ⟨⟨ys,by rw [L2.upd_ne (fun z=>n (by rw [z]; exact List.mem_of_getElem? e))]; exact q⟩,n⟩
theorem ER.mono {env:Env} {σ:L2.St} (x:Ext ρ H ρ' H') (h:ER K mg ρ H env σ):ER K mg ρ' H' env σ:=⟨h.len,fun i v e=>by
 obtain ⟨u,h1,h2⟩:=h.at_ i v e
 exact ⟨u,h1,h2.mono x⟩⟩
theorem ER.set {env:Env} {σ:L2.St} (h:ER K mg ρ H env σ) (i:Nat) {v:Val} {x:L2.V} (r:RD K mg ρ H v x):ER K mg ρ H (env.set i (some v)) (σ.set i (some x)):=by
 refine ⟨by rw [List.length_set,List.length_set,h.len],fun j w e=>?_⟩
 by_cases hij:i=j
 . subst hij
   by_cases hi:i < env.length
   . rw [List.getElem?_set_self hi] at e
     cases e
     exact ⟨x,by rw [List.getElem?_set_self (by rw [←h.len]; exact hi)],r⟩
   . rw [List.getElem?_eq_none (by rw [List.length_set]; omega)] at e
     cases e
 . rw [List.getElem?_set_ne hij] at e
   rw [List.getElem?_set_ne hij]
   exact h.at_ j w e
end
section
variable (K:KF) (mg:Str→Option Value)
noncomputable def Want {α β:Type} (R:Own→L2.Hp→α→β→Prop) (ρ:Own) (H:L2.Hp) (o:Out α) (Q:β→L2.Hp→Prop):Prop:=
 match o with
 | .ok v s'=>∀ ρ' x H',Ext ρ H ρ' H'→HR K mg ρ' s' H'→R ρ' H' v x→Q x H'
 | _=>False
noncomputable def tV (env:Env) (s:Sto) (o:Out Val):L2.TE:=fun σ H Q=>∃ ρ,HR K mg ρ s H∧ER K mg ρ H env σ∧Want K mg (RD K mg) ρ H o Q
noncomputable def tVs (env:Env) (s:Sto) (o:Out (List Val)):L2.TA:=fun σ H Q=>∃ ρ,HR K mg ρ s H∧ER K mg ρ H env σ∧Want K mg (RDs K mg) ρ H o Q
noncomputable def tT (env:Env) (s:Sto) (o:Out Bool):L2.TT:=fun σ H Q=>∃ ρ,HR K mg ρ s H∧ER K mg ρ H env σ∧Want K mg (fun _ _ a b=>a=b) ρ H o Q
noncomputable def tO (env:Env) (s:Sto) (o:Out (Option Int)):L2.TO:=fun σ H Q=>∃ ρ,HR K mg ρ s H∧ER K mg ρ H env σ∧Want K mg (fun _ _ a b=>a=b) ρ H o Q
end
section
variable {X:L2.Cx} {e:Expr}
theorem pe_imp {t t':L2.TE} (h:L2.PE X e t) (i:∀ σ H Q,t' σ H Q→t σ H Q):L2.PE X e t':=fun pins s σ H Q I q=>h pins s σ H Q I (i σ H Q q)
theorem pt_imp {t t':L2.TT} (h:L2.PT X e t) (i:∀ σ H Q,t' σ H Q→t σ H Q):L2.PT X e t':=fun pins s σ H Q I q=>h pins s σ H Q I (i σ H Q q)
theorem pa_imp {es:List Expr} {t t':L2.TA} (h:L2.PA X es t) (i:∀ σ H Q,t' σ H Q→t σ H Q):L2.PA X es t':=fun pos pins s σ H Q I q=>h pos pins s σ H Q I (i σ H Q q)
theorem ps_imp {st:Stmt} {t t':L2.TS} (h:L2.PS X st t) (i:∀ D σ H,t' D σ H→t D σ H):L2.PS X st t':=fun pins s σ H D I q=>h pins s σ H D I (i D σ H q)
theorem pss_imp {st:List Stmt} {t t':L2.TS} (h:L2.PSs X st t) (i:∀ D σ H,t' D σ H→t D σ H):L2.PSs X st t':=fun pins s σ H D I q=>h pins s σ H D I (i D σ H q)
theorem pe_no {t:L2.TE} (h:∀ σ H Q,¬ t σ H Q):L2.PE X e t:=fun pins s σ H Q I q=>(h σ H Q q).elim
theorem pt_no {t:L2.TT} (h:∀ σ H Q,¬ t σ H Q):L2.PT X e t:=fun pins s σ H Q I q=>(h σ H Q q).elim
theorem pw_no {t:L2.TT} (h:∀ σ H Q,¬ t σ H Q):L2.PW X e t:=fun wh pins s σ H Q I q=>(h σ H Q q).elim
theorem pa_no {es:List Expr} {t:L2.TA} (h:∀ σ H Q,¬ t σ H Q):L2.PA X es t:=fun pos pins s σ H Q I q=>(h σ H Q q).elim
end
section
variable {K:KF} {mg:Str→Option Value} {env:Env} {s:Sto}
theorem tV_no {o:Out Val} (h:∀ v s',o≠.ok v s') {σ:L2.St} {H:L2.Hp} {Q:L2.VK}:¬ tV K mg env s o σ H Q:=by
 rintro ⟨ρ,_,_,w⟩
 cases o with
 | ok v s'=>exact h v s' rfl
 | _=>exact w
theorem tVs_no {o:Out (List Val)} (h:∀ v s',o≠.ok v s') {σ:L2.St} {H:L2.Hp} {Q:List L2.V→L2.Hp→Prop}:¬ tVs K mg env s o σ H Q:=by
 rintro ⟨ρ,_,_,w⟩
 cases o with
 | ok v s'=>exact h v s' rfl
 | _=>exact w
theorem tT_no {o:Out Bool} (h:∀ v s',o≠.ok v s') {σ:L2.St} {H:L2.Hp} {Q:Bool→L2.Hp→Prop}:¬ tT K mg env s o σ H Q:=by
 rintro ⟨ρ,_,_,w⟩
 cases o with
 | ok v s'=>exact h v s' rfl
 | _=>exact w
end
end M
end
section
namespace M
open PySem
theorem line_eq:LINE=sizeLine:=by rw [sizeLine_eq]; rfl
section
variable {K:KF} {mg:Str→Option Value} {ρ ρ':Own} {H H':L2.Hp} {s s':Sto}
theorem lst_at (hr:HR K mg ρ s H) {v:Val} {x:L2.V} {vs:List Val} (r:RD K mg ρ H v x) (e:lstOf s v=some vs):∃ a xs,x=.ref a∧H a=some (.lst xs)∧RDs K mg ρ H vs xs:=by
 cases r with
 | lst n h q=>cases e; exact ⟨_,_,rfl,h,q⟩
 | @ref a i h =>
   simp only [lstOf] at e
   split at e
   . rename_i ws hw
     cases e
     obtain ⟨b,xs,e1,e2,q⟩:=hr.obj i _ hw
     rw [h] at e1; cases e1
     exact ⟨_,_,rfl,e2,q⟩
   . cases e
 | _=>cases e
theorem seq_at (hr:HR K mg ρ s H) {v:Val} {x:L2.V} {vs:List Val} (r:RD K mg ρ H v x) (e:seqOf s v=some vs):∃ a xs,x=.ref a∧(L2.SqL K H a xs ∨ L2.SqT K H a xs)∧RDs K mg ρ H vs xs:=by
 cases r with
 | lst n h q=>cases e; exact ⟨_,_,rfl,.inl (.of h),q⟩
 | tup n h q=>cases e; exact ⟨_,_,rfl,.inr (.of h),q⟩
 | ctup h=>cases e; exact ⟨_,_,rfl,.inr h.sqt,RDs.ints _⟩
 | scr h=>cases e; exact ⟨_,_,rfl,.inl h.sql,RDs.ints _⟩
 | @ref a i h =>
   simp only [seqOf] at e
   split at e
   . rename_i ws hw
     cases e
     obtain ⟨b,xs,e1,e2,q⟩:=hr.obj i _ hw
     rw [h] at e1; cases e1
     exact ⟨_,_,rfl,.inl (.of e2),q⟩
   . cases e
 | _=>cases e
mutual
theorem RD.reads {P:Program} {w:World} {h:Heap} (ok:L2.HOk P w H h):∀ {v:Val} {x:L2.V} {u:Value},RD K mg ρ H v x→v.isR=true→L2.RelV x u→∃ as,Reads h u v.d as∧(L2.hasList v.d=false→sysModules ∉ as)
 | _,_,u,.none,_,r=>by cases (show u=Value.none from r); exact ⟨[],.none,fun _=>by simp⟩
 | _,_,u,.bool b,_,r=>by cases (show u=Value.bool b from r); exact ⟨[],.bool b,fun _=>by simp⟩
 | _,_,u,.int i,_,r=>by obtain ⟨t,q⟩:=(show ∃ t,u=Value.int i t from r); cases q; exact ⟨[],.int i t,fun _=>by simp⟩
 | _,_,u,.str x,_,r=>by obtain ⟨t,q⟩:=(show ∃ t,u=Value.str x t from r); cases q; exact ⟨[],.str x t,fun _=>by simp⟩
 | _,.ref a,u,.lst (xs:=xs) n ha rs,hv,r=>by
   cases (show u=Value.ref a from r)
   obtain ⟨z,its,n,rv,e⟩:=(show L2.ObjOk P w H h a (.lst xs) from ok a _ ha)
   obtain ⟨as,q,_⟩:=RDs.reads ok rs (by simpa only [Val.isR] using hv) rv
   exact ⟨a :: as,.list e rfl rfl (by simpa using q),fun z=>by simp [Val.d,L2.hasList] at z⟩
 | _,.ref a,u,.tup (xs:=xs) n ha rs,hv,r=>by
   cases (show u=Value.ref a from r)
   obtain ⟨z,its,rv,o,e,c,n,dd⟩:=(show L2.ObjOk P w H h a (.tup xs) from ok a _ ha)
   obtain ⟨as,q,q2⟩:=RDs.reads ok rs (by simpa only [Val.isR] using hv) rv
   exact ⟨as,.tuple e c dd.1 (by simpa using q),fun z=>q2 (by simpa [Val.d,L2.hasList] using z)⟩
 | _,.ref a,u,.dct0 n ha,_,r=>by
   cases (show u=Value.ref a from r)
   obtain ⟨z,y,vs,rv,o,es,ep,e,c,dd,k⟩:=(show L2.ObjOk P w H h a (.dK []) from ok a _ ha)
   cases rv
   have hes:es=#[]:=by
     have h2:=k.2.1
     cases hl:es.toList with
     | nil=>simpa using hl
     | cons a r=>rw [hl] at h2; cases h2
   subst hes
   refine ⟨[a]++[],Reads.dict (as:=[]) (bs:=[]) e c.1 dd .nil .nil,fun _=>?_⟩
   have:a≠sysModules:=by simpa using y
   simpa using Ne.symm this
 | _,_,_,.ctup _,hv,_=>by cases hv
 | _,_,_,.scr _,hv,_=>by cases hv
 | _,_,_,.ref _,hv,_=>by cases hv
 | _,_,_,.fn _,hv,_=>by cases hv
 | _,_,_,.ty _,hv,_=>by cases hv
theorem RDs.reads {P:Program} {w:World} {h:Heap} (ok:L2.HOk P w H h):∀ {vs:List Val} {xs:List L2.V} {us:List Value},RDs K mg ρ H vs xs→isRs vs=true→L2.Vals xs us→∃ as,ReadsAll h us (ds vs) as∧(L2.hasListAll (ds vs)=false→sysModules ∉ as)
 | _,_,_,.nil,_,r=>by cases r; exact ⟨[],.nil,fun _=>by simp⟩
 | _,_,_,.cons r rs,hv,q=>by
   cases q with
   | cons q1 q2 =>
     rw [isRs,Bool.and_eq_true] at hv
     obtain ⟨as,h1,h2⟩:=RD.reads ok r hv.1 q1
     obtain ⟨bs,h3,h4⟩:=RDs.reads ok rs hv.2 q2
     refine ⟨as++bs,.cons h1 h3,fun z=>?_⟩
     rw [ds,L2.hasListAll,Bool.or_eq_false_iff] at z
     intro hm
     rcases List.mem_append.mp hm with hm | hm
     . exact h2 z.1 hm
     . exact h4 z.2 hm
end
theorem deref0_reads {P:Program} {w:World} {h:Heap} (ok:L2.HOk P w H h) (hr:HR K mg ρ s H) {v:Val} {x:L2.V} {u:Value} (hv:(deref0 s v).isR=true) (r:RD K mg ρ H v x) (ru:L2.RelV x u) :
   ∃ as,Reads h u (deref0 s v).d as∧(L2.hasList (deref0 s v).d=false→sysModules ∉ as):=by
 cases v with
 | ref i =>
   cases r with
   | @ref a _ e0 =>
   simp only [deref0] at hv ⊢
   split at hv
   . rename_i ws hw
     obtain ⟨b,xs,e1,e2,q⟩:=hr.obj i _ hw
     rw [e0] at e1; cases e1
     cases (show u=Value.ref a from ru)
     obtain ⟨z,its,n,rv,e⟩:=(show L2.ObjOk P w H h a (.lst xs) from ok a _ e2)
     obtain ⟨as,q,_⟩:=RDs.reads ok q (by simpa only [Val.isR] using hv) rv
     exact ⟨a :: as,.list e rfl rfl (by simpa using q),fun z=>by simp [Val.d,L2.hasList] at z⟩
   . cases hv
 | _=>exact RD.reads ok r hv ru
theorem RDs.reads0 {P:Program} {w:World} {h:Heap} (ok:L2.HOk P w H h) (hr:HR K mg ρ s H):∀ {vs:List Val} {xs:List L2.V} {us:List Value},RDs K mg ρ H vs xs→isRs (vs.map (deref0 s))=true→L2.Vals xs us→∃ as,ReadsAll h us (ds (vs.map (deref0 s))) as∧(L2.hasListAll (ds (vs.map (deref0 s)))=false→sysModules ∉ as)
 | _,_,_,.nil,_,r=>by cases r; exact ⟨[],.nil,fun _=>by simp⟩
 | _,_,_,.cons r rs,hv,q=>by
   cases q with
   | cons q1 q2 =>
     rw [List.map_cons,isRs,Bool.and_eq_true] at hv
     obtain ⟨as,h1,h2⟩:=deref0_reads ok hr hv.1 r q1
     obtain ⟨bs,h3,h4⟩:=RDs.reads0 ok hr rs hv.2 q2
     rw [List.map_cons]
     refine ⟨as++bs,.cons h1 h3,fun z=>?_⟩
     rw [ds,L2.hasListAll,Bool.or_eq_false_iff] at z
     intro hm
     rcases List.mem_append.mp hm with hm | hm
     . exact h2 z.1 hm
     . exact h4 z.2 hm
theorem deref_ne {v:Val} (h:∀ vs,v≠.tup vs):deref s v=deref0 s v:=by
 cases v <;> first | rfl | exact absurd rfl (h _)
theorem deref_reads {P:Program} {w:World} {h:Heap} (ok:L2.HOk P w H h) (hr:HR K mg ρ s H) {v:Val} {x:L2.V} {u:Value} (hv:(deref s v).isR=true) (r:RD K mg ρ H v x) (ru:L2.RelV x u) :
   ∃ as,Reads h u (deref s v).d as∧(L2.hasList (deref s v).d=false→sysModules ∉ as):=by
 cases v with
 | tup vs =>
   cases r with
   | @tup a _ xs n ha rs =>
     cases (show u=Value.ref a from ru)
     obtain ⟨z,its,rv,o,e,c,n,dd⟩:=(show L2.ObjOk P w H h a (.tup xs) from ok a _ ha)
     obtain ⟨as,q,q2⟩:=RDs.reads0 ok hr rs (by simpa only [deref,Val.isR] using hv) rv
     exact ⟨as,.tuple e c dd.1 (by simpa using q),fun z=>q2 (by simpa [deref,Val.d,L2.hasList] using z)⟩
 | _=>exact (show _ from by rw [deref_ne (fun _ h=>by cases h)] at hv ⊢; exact deref0_reads ok hr hv r ru)
mutual
theorem isR_of_isD:∀ {v:Val},v.isD=true→v.isR=true
 | .none,_=>rfl
 | .bool _,_=>rfl
 | .int _,_=>rfl
 | .str _,_=>rfl
 | .tup vs,h=>by rw [Val.isR]; exact isRs_of_isDs (by simpa only [Val.isD] using h)
 | .lst vs,h=>by rw [Val.isR]; exact isRs_of_isDs (by simpa only [Val.isD] using h)
 | .dct0,h=>by cases h
 | .ctup _,h=>by cases h
 | .scr _,h=>by cases h
 | .ref _,h=>by cases h
 | .fn _,h=>by cases h
 | .ty _,h=>by cases h
theorem isRs_of_isDs:∀ {vs:List Val},isDs vs=true→isRs vs=true
 | [],_=>rfl
 | v :: vs,h=>by
   rw [isDs,Bool.and_eq_true] at h
   rw [isRs,isR_of_isD h.1,isRs_of_isDs h.2]; rfl
end
mutual
theorem canLay_of_isD:∀ {v:Val},v.isD=true→v.d.canLay0=true
 | .none,_=>rfl
 | .bool _,_=>rfl
 | .int _,_=>rfl
 | .str _,h=>by simpa only [Val.isD,Val.d,PyData.canLay0] using h
 | .tup vs,h=>by rw [Val.d,PyData.canLay0]; exact canLays_of_isDs (by simpa only [Val.isD] using h)
 | .lst vs,h=>by rw [Val.d,PyData.canLay0]; exact canLays_of_isDs (by simpa only [Val.isD] using h)
 | .dct0,h=>by cases h
 | .ctup _,h=>by cases h
 | .scr _,h=>by cases h
 | .ref _,h=>by cases h
 | .fn _,h=>by cases h
 | .ty _,h=>by cases h
theorem canLays_of_isDs:∀ {vs:List Val},isDs vs=true→PyData.canLayAll0 (ds vs)=true
 | [],_=>rfl
 | v :: vs,h=>by
   rw [isDs,Bool.and_eq_true] at h
   rw [ds,PyData.canLayAll0,canLay_of_isD h.1,canLays_of_isDs h.2]; rfl
end
theorem new_lst (hr:HR K mg ρ s H) {m:Bool} {vs:List Val} {xs:List L2.V} (r:RDs K mg ρ H vs xs) {Q:L2.VK} (w:Want K mg (RD K mg) ρ H (newList m vs s) Q):∀ p,H p=none→Q (.ref p) (L2.upd H p (.lst xs)):=fun p hp=>by
 cases m with
 | true=>exact w _ _ _ (Ext.own hr hp _) (hr.own hp r) (.ref (own_ref hr p))
 | false=>exact w _ _ _ (Ext.new hr hp _) (hr.more hp _) (.lst (hr.new hp) L2.upd_same (r.mono (Ext.new hr hp _)))
theorem new_tup (hr:HR K mg ρ s H) {vs:List Val} {xs:List L2.V} (r:RDs K mg ρ H vs xs) {Q:L2.VK} (w:Want K mg (RD K mg) ρ H (.ok (.tup vs) s) Q):∀ p,H p=none→Q (.ref p) (L2.upd H p (.tup xs)):=fun p hp =>
 w _ _ _ (Ext.new hr hp _) (hr.more hp _) (.tup (hr.new hp) L2.upd_same (r.mono (Ext.new hr hp _)))
theorem Ext.same (e:L2.Same H H'):Ext ρ H ρ H':=⟨⟨[],by simp,fun a ha=>by cases ha⟩,rfl,fun a o h _=>e a o h⟩
theorem HR.same (hr:HR K mg ρ s H) (e:L2.Same H H'):HR K mg ρ s H':=⟨hr.len,hr.nd,fun i vs q=>by
 obtain ⟨a,xs,e1,e2,r⟩:=hr.obj i vs q
 exact ⟨a,xs,e1,e a _ e2,r.mono (Ext.same e)⟩,fun a ha=>by
 obtain ⟨⟨ys,q⟩,n⟩:=hr.hid a ha
 exact ⟨⟨ys,e a _ q⟩,n⟩⟩
theorem gets_tup (hr:HR K mg ρ s H) {vs:List Val} {xs:List L2.V} (r:RDs K mg ρ H vs xs) {Q:L2.VK} (w:Want K mg (RD K mg) ρ H (.ok (.tup vs) s) Q):L2.GetsT H xs Q:=fun p H' e h=>by
 have hr':=hr.same e
 refine w _ _ _ (Ext.same e) hr' (.tup ⟨fun hm=>?_,fun hm=>?_⟩ h (r.mono (Ext.same e)))
 . obtain ⟨ys,q⟩:=hr'.trk hm
   rw [h] at q; cases q
 . obtain ⟨⟨ys,q⟩,_⟩:=hr'.hid _ hm
   rw [h] at q; cases q
end
section
variable (K:KF) (mg:Str→Option Value)
noncomputable def rM2 (g:Val→Val→Sto→Out Val):L2.R2:=fun x y H Q=>∃ ρ s v w,HR K mg ρ s H∧RD K mg ρ H v x∧RD K mg ρ H w y∧Want K mg (RD K mg) ρ H (g v w s) Q
noncomputable def rMc (g:List Val→Sto→Out Val):List L2.V→L2.Hp→L2.VK→Prop:=fun xs H Q=>∃ ρ s vs,HR K mg ρ s H∧RDs K mg ρ H vs xs∧Want K mg (RD K mg) ρ H (g vs s) Q
end
section
variable {X:L2.Cx} {k:Nat}
theorem want_ok {K:KF} {mg:Str→Option Value} {ρ:Own} {H:L2.Hp} {s:Sto} (hr:HR K mg ρ s H) {v:Val} {x:L2.V} (r:RD K mg ρ H v x) {Q:L2.VK} (w:Want K mg (RD K mg) ρ H (.ok v s) Q):Q x H:=w _ _ _ Ext.refl hr r
theorem op_bin_add (m:Bool):L2.OpR X (binaryOp .Add) (rM2 X.K X.mg (binOp m .add)):=by
 intro pins s σ H x y v u Q I rx ry h
 obtain ⟨ρ,t,a,b,hr,ra,rb,w⟩:=h
 simp only [binOp] at w
 split at w
 . cases ra; cases rb
   exact L2.op_add pins s σ H _ _ v u Q I rx ry ⟨_,_,rfl,rfl,want_ok hr (.int _) w⟩
 . split at w
   . rename_i hz
     cases ra; cases rb
     exact L2.op_add_str pins s σ H _ _ v u Q I rx ry ⟨_,_,rfl,rfl,by rw [←line_eq]; exact hz,want_ok hr (.str _) w⟩
   . exact w.elim
 . split at w
   . rename_i hz
     cases ra with
     | tup n1 h1 q1 =>
       cases rb with
       | tup n2 h2 q2 =>
         refine L2.op_catT2 pins s σ H _ _ v u Q I rx ry ⟨_,_,_,_,rfl,rfl,h1,h2,?_,gets_tup hr (q1.append q2) w⟩
         rw [←q1.length,← q2.length,← line_eq]; exact hz
   . exact w.elim
 . split at w
   . rename_i ea eb
     split at w
     . rename_i hz
       obtain ⟨p1,xs,rfl,h1,q1⟩:=lst_at hr ra ea
       obtain ⟨p2,ys,rfl,h2,q2⟩:=lst_at hr rb eb
       refine L2.op_cat pins s σ H _ _ v u Q I rx ry ⟨_,_,_,_,rfl,rfl,h1,h2,?_,new_lst hr (q1.append q2) w⟩
       rw [←q1.length,← q2.length,← line_eq]; exact hz
     . exact w.elim
   . exact w.elim
theorem op_bin_sub (m:Bool):L2.OpR X (binaryOp .Sub) (rM2 X.K X.mg (binOp m .sub)):=by
 intro pins s σ H x y v u Q I rx ry h
 obtain ⟨ρ,t,a,b,hr,ra,rb,w⟩:=h
 simp only [binOp] at w
 split at w
 . cases ra; cases rb
   exact L2.op_sub pins s σ H _ _ v u Q I rx ry ⟨_,_,rfl,rfl,want_ok hr (.int _) w⟩
 . exact w.elim
theorem op_bin_mul (m:Bool):L2.OpR X (binaryOp .Mult) (rM2 X.K X.mg (binOp m .mul)):=by
 intro pins s σ H x y v u Q I rx ry h
 obtain ⟨ρ,t,a,b,hr,ra,rb,w⟩:=h
 simp only [binOp] at w
 split at w
 . split at w
   . rename_i hz
     cases ra; cases rb
     exact L2.op_mul pins s σ H _ _ v u Q I rx ry ⟨_,_,rfl,rfl,hz,want_ok hr (.int _) w⟩
   . exact w.elim
 . split at w
   . rename_i hz
     obtain ⟨z1,z2,z3,z4⟩:=hz
     cases ra with
     | tup n1 h1 q1 =>
       cases rb
       refine L2.op_repA pins s σ H _ _ v u Q I rx ry ⟨_,_,_,rfl,rfl,h1,z1,z2,?_,?_,gets_tup hr (q1.rep _) w⟩
       . intro e; subst e; cases q1; exact z3 rfl
       . rw [←q1.length]; exact z4
   . exact w.elim
 . split at w
   . rename_i ea
     split at w
     . rename_i hz
       obtain ⟨z1,z2,z3⟩:=hz
       obtain ⟨p1,xs,rfl,h1,q1⟩:=lst_at hr ra ea
       cases rb
       refine L2.op_rep pins s σ H _ _ v u Q I rx ry ⟨_,_,_,rfl,rfl,h1,by omega,by omega,?_,new_lst hr (q1.rep _) w⟩
       rw [←q1.length,← line_eq]; exact z3
     . exact w.elim
   . exact w.elim
 . exact w.elim
theorem op_bin_fdiv (m:Bool):L2.OpR X (binaryOp .FloorDiv) (rM2 X.K X.mg (binOp m .fdiv)):=by
 intro pins s σ H x y v u Q I rx ry h
 obtain ⟨ρ,t,a,b,hr,ra,rb,w⟩:=h
 simp only [binOp] at w
 split at w
 . split at w
   . rename_i hz
     cases ra; cases rb
     exact L2.op_fdiv pins s σ H _ _ v u Q I rx ry ⟨_,_,rfl,rfl,hz,want_ok hr (.int _) w⟩
   . exact w.elim
 . exact w.elim
theorem op_bin_mod (m:Bool):L2.OpR X (binaryOp .Mod) (rM2 X.K X.mg (binOp m .mod)):=by
 intro pins s σ H x y v u Q I rx ry h
 obtain ⟨ρ,t,a,b,hr,ra,rb,w⟩:=h
 simp only [binOp] at w
 split at w
 . split at w
   . rename_i hz
     cases ra; cases rb
     exact L2.op_mod pins s σ H _ _ v u Q I rx ry ⟨_,_,rfl,rfl,hz,want_ok hr (.int _) w⟩
   . exact w.elim
 . exact w.elim
theorem op_bin_pow (m:Bool):L2.OpR X (binaryOp .Pow) (rM2 X.K X.mg (binOp m .pow)):=by
 intro pins s σ H x y v u Q I rx ry h
 obtain ⟨ρ,t,a,b,hr,ra,rb,w⟩:=h
 simp only [binOp] at w
 split at w
 . split at w
   . rename_i hz
     cases ra; cases rb
     exact L2.op_pow pins s σ H _ _ v u Q I rx ry ⟨_,_,rfl,rfl,hz,want_ok hr (.int _) w⟩
   . exact w.elim
 . exact w.elim
theorem op_bin_shl (m:Bool):L2.OpR X (binaryOp .LShift) (rM2 X.K X.mg (binOp m .shl)):=by
 intro pins s σ H x y v u Q I rx ry h
 obtain ⟨ρ,t,a,b,hr,ra,rb,w⟩:=h
 simp only [binOp] at w
 split at w
 . split at w
   . rename_i hz
     cases ra; cases rb
     exact L2.op_shl pins s σ H _ _ v u Q I rx ry ⟨_,_,rfl,rfl,hz,want_ok hr (.int _) w⟩
   . exact w.elim
 . exact w.elim
theorem op_bin_shr (m:Bool):L2.OpR X (binaryOp .RShift) (rM2 X.K X.mg (binOp m .shr)):=by
 intro pins s σ H x y v u Q I rx ry h
 obtain ⟨ρ,t,a,b,hr,ra,rb,w⟩:=h
 simp only [binOp] at w
 split at w
 . split at w
   . rename_i hz
     cases ra; cases rb
     exact L2.op_shr pins s σ H _ _ v u Q I rx ry ⟨_,_,rfl,rfl,hz,want_ok hr (.int _) w⟩
   . exact w.elim
 . exact w.elim
theorem op_bin_band (m:Bool):L2.OpR X (binaryOp .BitAnd) (rM2 X.K X.mg (binOp m .band)):=by
 intro pins s σ H x y v u Q I rx ry h
 obtain ⟨ρ,t,a,b,hr,ra,rb,w⟩:=h
 simp only [binOp] at w
 split at w
 . cases ra; cases rb
   exact L2.op_and pins s σ H _ _ v u Q I rx ry ⟨_,_,rfl,rfl,want_ok hr (.int _) w⟩
 . exact w.elim
end
end M
end
section
namespace M
open PySem
section
variable {K:KF} {mg:Str→Option Value} {ρ ρ':Own} {H H':L2.Hp} {s s':Sto}
theorem RD.flat {v:Val} {x:L2.V} (r:RD K mg ρ H v x) (h:flat v=true):L2.flatV x=true:=by
 cases r <;> first | rfl | cases h
theorem RD.eqF {v w:Val} {x y:L2.V} (r:RD K mg ρ H v x) (q:RD K mg ρ H w y) (h:M.flat v=true) (h':M.flat w=true):L2.eqV x y=M.eqF v w:=by
 cases r <;> first | (cases h; done) | (cases q <;> first | rfl | (cases h'; done))
theorem RDs.flat:∀ {vs:List Val} {xs:List L2.V},RDs K mg ρ H vs xs→vs.all flat=true→xs.all L2.flatV=true
 | _,_,.nil,_=>rfl
 | _,_,.cons r rs,h=>by
   rw [List.all_cons,Bool.and_eq_true] at h
   rw [List.all_cons,r.flat h.1,rs.flat h.2]; rfl
theorem RDs.any {w:Val} {y:L2.V} (q:RD K mg ρ H w y) (hw:M.flat w=true):∀ {vs:List Val} {xs:List L2.V},RDs K mg ρ H vs xs→vs.all M.flat=true→(xs.any fun z=>L2.eqV z y)=vs.any fun z=>M.eqF z w
 | _,_,.nil,_=>rfl
 | _,_,.cons r rs,h=>by
   rw [List.all_cons,Bool.and_eq_true] at h
   rw [List.any_cons,List.any_cons,r.eqF q h.1 hw,RDs.any q hw rs h.2]
theorem RDs.countP {w:Val} {y:L2.V} (q:RD K mg ρ H w y) (hw:M.flat w=true):∀ {vs:List Val} {xs:List L2.V},RDs K mg ρ H vs xs→vs.all M.flat=true→(xs.countP fun z=>L2.eqV z y)=vs.countP fun z=>M.eqF z w
 | _,_,.nil,_=>rfl
 | _,_,.cons r rs,h=>by
   rw [List.all_cons,Bool.and_eq_true] at h
   rw [List.countP_cons,List.countP_cons,r.eqF q h.1 hw,RDs.countP q hw rs h.2]
theorem RDs.bools:∀ {vs:List Val} {xs:List L2.V} {bs:List Bool},RDs K mg ρ H vs xs→boolsOf vs=some bs→xs=bs.map L2.V.bl
 | _,_,_,.nil,h=>by cases h; rfl
 | _,_,_,.cons r rs,h=>by
   cases r with
   | bool b =>
     simp only [boolsOf,Option.map_eq_some_iff] at h
     obtain ⟨bs',h1,h2⟩:=h
     subst h2
     rw [rs.bools h1]; rfl
   | _=>cases h
theorem RDs.intsE:∀ {vs:List Val} {xs:List L2.V} {ns:List Int},RDs K mg ρ H vs xs→intsOf vs=some ns→xs=ns.map L2.V.int
 | _,_,_,.nil,h=>by cases h; rfl
 | _,_,_,.cons r rs,h=>by
   cases r with
   | int b =>
     simp only [intsOf,Option.map_eq_some_iff] at h
     obtain ⟨bs',h1,h2⟩:=h
     subst h2
     rw [rs.intsE h1]; rfl
   | _=>cases h
theorem atI_rds {vs:List Val} {xs:List L2.V} {i:Int} {v:Val} (r:RDs K mg ρ H vs xs) (h:L2.atI vs i=some v):∃ x,L2.atI xs i=some x∧RD K mg ρ H v x:=by
 unfold L2.atI at h ⊢
 rw [←r.length]
 obtain ⟨j,h1,h2⟩:=Option.bind_eq_some_iff.mp h
 obtain ⟨x,h3,h4⟩:=r.get h2
 exact ⟨x,by rw [h1]; exact h3,h4⟩
theorem tru_at (hr:HR K mg ρ s H) {v:Val} {x:L2.V} {b:Bool} (r:RD K mg ρ H v x) (h:truth s v=some b):L2.TruV K x H b:=by
 have hz:∀ {vs:List Val} {xs:List L2.V},RDs K mg ρ H vs xs→vs.isEmpty=xs.isEmpty:=fun r=>by cases r <;> rfl
 cases r with
 | none=>cases h; rfl
 | bool b=>cases h; rfl
 | int i=>cases h; rfl
 | str x =>
   simp only [truth] at h
   split at h
   . cases h
     rename_i q
     exact ⟨by rw [←line_eq]; exact q,rfl⟩
   . cases h
 | tup n e q=>cases h; exact .inr (.inl ⟨_,.of e,by rw [hz q]⟩)
 | lst n e q=>cases h; exact .inl ⟨_,.of e,by rw [hz q]⟩
 | dct0 n e=>cases h; exact .inr (.inr ⟨_,e,rfl⟩)
 | ctup _=>cases h
 | scr _=>cases h
 | @ref a i e =>
   simp only [truth] at h
   split at h
   . rename_i ws hw
     cases h
     obtain ⟨c,xs,e1,e2,q⟩:=hr.obj i _ hw
     rw [e] at e1; cases e1
     exact .inl ⟨_,.of e2,by rw [hz q]⟩
   . cases h
 | fn _=>cases h
 | ty _=>cases h
theorem ty_at (hr:HR K mg ρ s H) {v:Val} {x:L2.V} {a:L2.Kd} (r:RD K mg ρ H v x) (h:kindOf v=some a):(L2.TyOf K H x (.type a.nm)):=by
 cases r with
 | none=>cases h; exact .non
 | bool b=>cases h; exact .bl b
 | int i=>cases h; exact .int i
 | str x=>cases h; exact .str x
 | tup n e q=>cases h; exact .tup e
 | lst n e q=>cases h; exact .lst e
 | dct0 n e=>cases h; exact .dK e
 | @ref b i e =>
   cases h
   obtain ⟨xs,q⟩:=hr.trk (List.mem_of_getElem? e)
   exact .lst q
 | _=>cases h
theorem kd_nm {n:String} {c:L2.Kd} (h:kdOfTy n=some c):n=c.nm∧c≠.non:=by
 unfold kdOfTy at h
 split at h <;> first | (cases h; exact ⟨rfl,by decide⟩) | cases h
end
section
variable {X:L2.Cx} {k:Nat}
theorem mShow {d:PyData} (h:okShow d=true):L2.Shows d:=by
 unfold okShow at h
 simp only [Bool.and_eq_true,decide_eq_true_eq,Bool.or_eq_true,Bool.not_eq_true'] at h
 obtain ⟨⟨⟨⟨h1,h2⟩,h3⟩,h4⟩,h5⟩:=h
 have L:L2.Leaf d.depth d.weight d:=⟨h1,h2,Nat.le_refl _,Nat.le_refl _⟩
 refine L.shows h3 h4 fun z=>?_
 rcases h5 with h5 | h5
 . rw [h5] at z; cases z
 . exact h5
theorem op_cmp_eq (hr0:L2.Room k X.A):L2.OpR X (compareOp .Eq) (rM2 X.K X.mg (cmpOp .eq)):=by
 intro pins s σ H x y v u Q I rx ry h
 obtain ⟨ρ,t,a,b,hr,ra,rb,w⟩:=h
 simp only [cmpOp,eqOp] at w
 split at w
 . rename_i p q
   cases ra; cases rb
   have e:decide (L2.V.str p=L2.V.str q)=decide (p=q):=by
     rw [Bool.eq_iff_iff]; simp
   refine L2.op_eq pins s σ H _ _ v u Q I rx ry ⟨rfl,?_⟩
   rw [e]
   exact want_ok hr (.bool _) w
 . by_cases hc:((deref t a).isD && (deref t b).isD && decide ((deref t b).d.depth≤60))=true
   . rw [if_pos hc] at w
     simp only [Bool.and_eq_true,decide_eq_true_eq] at hc
     obtain ⟨as,r1,_⟩:=deref_reads I.hok hr (isR_of_isD hc.1.1) ra rx
     obtain ⟨bs,r2,_⟩:=deref_reads I.hok hr (isR_of_isD hc.1.2) rb ry
     have hu:=hr0.un
     have hm:=Nat.min_le_right (deref t a).d.depth (deref t b).d.depth
     exact SeqAt.compareEq_reads r1 r2 (canLay_of_isD hc.1.1) (canLay_of_isD hc.1.2) (by omega) ⟨.bl _,H,I,rfl,want_ok hr (.bool _) w⟩
   . rw [if_neg hc] at w; exact w.elim
theorem op_cmp_ne (hr0:L2.Room k X.A):L2.OpR X (compareOp .NotEq) (rM2 X.K X.mg (cmpOp .ne)):=by
 intro pins s σ H x y v u Q I rx ry h
 obtain ⟨ρ,t,a,b,hr,ra,rb,w⟩:=h
 simp only [cmpOp,eqOp] at w
 split at w
 . rename_i p q
   cases ra; cases rb
   have e:decide (L2.V.str p=L2.V.str q)=decide (p=q):=by
     rw [Bool.eq_iff_iff]; simp
   refine L2.op_ne pins s σ H _ _ v u Q I rx ry ⟨rfl,?_⟩
   rw [e]
   exact want_ok hr (.bool _) w
 . by_cases hc:((deref t a).isD && (deref t b).isD && decide ((deref t b).d.depth≤60))=true
   . rw [if_pos hc] at w
     simp only [Bool.and_eq_true,decide_eq_true_eq] at hc
     obtain ⟨as,r1,_⟩:=deref_reads I.hok hr (isR_of_isD hc.1.1) ra rx
     obtain ⟨bs,r2,_⟩:=deref_reads I.hok hr (isR_of_isD hc.1.2) rb ry
     have hu:=hr0.un
     have hm:=Nat.min_le_right (deref t a).d.depth (deref t b).d.depth
     exact SeqAt.compareNe_reads r1 r2 (canLay_of_isD hc.1.1) (canLay_of_isD hc.1.2) (by omega) ⟨.bl _,H,I,rfl,want_ok hr (.bool _) w⟩
   . rw [if_neg hc] at w; exact w.elim
theorem RD.isNone {K:KF} {mg:Str→Option Value} {ρ:Own} {H:L2.Hp} {v:Val} {x:L2.V} (r:RD K mg ρ H v x):decide (x=.non)=v.isN:=by
 cases r <;> first | rfl | exact decide_eq_false (fun z=>nomatch z)
theorem op_cmp_is:L2.OpR X (compareOp .Is) (rM2 X.K X.mg (cmpOp .is)):=by
 intro pins s σ H x y v u Q I rx ry h
 obtain ⟨ρ,t,a,b,hr,ra,rb,w⟩:=h
 cases rb with
 | none =>
   refine L2.op_isN pins s σ H _ _ v u Q I rx ry ⟨rfl,?_⟩
   rw [ra.isNone]
   exact want_ok hr (.bool _) w
 | bool c =>
   cases ra with
   | bool d=>cases rx; cases ry; cases c <;> cases d <;> exact wpAny_pure ⟨.bl _,H,I,rfl,want_ok hr (.bool _) w⟩
   | _=>exact w.elim
 | _=>exact w.elim
theorem op_cmp_isNot:L2.OpR X (compareOp .IsNot) (rM2 X.K X.mg (cmpOp .isNot)):=by
 intro pins s σ H x y v u Q I rx ry h
 obtain ⟨ρ,t,a,b,hr,ra,rb,w⟩:=h
 cases rb with
 | none =>
   refine L2.op_notN pins s σ H _ _ v u Q I rx ry ⟨rfl,?_⟩
   rw [ra.isNone]
   exact want_ok hr (.bool _) w
 | bool c =>
   cases ra with
   | bool d=>cases rx; cases ry; cases c <;> cases d <;> exact wpAny_pure ⟨.bl _,H,I,rfl,want_ok hr (.bool _) w⟩
   | _=>exact w.elim
 | _=>exact w.elim
theorem isDs_mem:∀ {vs:List Val} {v:Val},isDs vs=true→v∈vs→v.isD=true
 | w :: vs,v,h,m=>by
   rw [isDs,Bool.and_eq_true] at h
   rcases List.mem_cons.mp m with rfl | m
   . exact h.1
   . exact isDs_mem h.2 m
theorem eqs_of {A:Around} {s:Shared} {u:Value} {K:KF} {mg:Str→Option Value} {ρ:Own} {H:L2.Hp} {g:Val→Bool} {vs:List Val} {xs:List L2.V} {its:List Value} (q:RDs K mg ρ H vs xs) (r:L2.Vals xs its)
   (hE:∀ z x w,z∈vs→RD K mg ρ H z x→L2.RelV x w→SeqAt.EqAt A s w u (g z)):∃ f:Value→Bool,(∀ w∈its.toArray,SeqAt.EqAt A s w u (f w))∧its.toArray.any f=vs.any g:=by
 classical
 have at_:∀ i w,its[i]?=some w→∃ z x,vs[i]?=some z∧RD K mg ρ H z x∧L2.RelV x w:=fun i w e=>by
   have hi:i < xs.length:=by rw [r.length]; exact (List.getElem?_eq_some_iff.mp e).1
   have hx:xs[i]?=some xs[i]:=List.getElem?_eq_getElem hi
   obtain ⟨w',e',rw'⟩:=r.get hx
   rw [e] at e'; cases e'
   obtain ⟨z,e1,rz⟩:=q.getV hx
   exact ⟨z,_,e1,rz,rw'⟩
 refine ⟨fun w=>decide (∃ (i:Nat) (z:Val),its[i]?=some w∧vs[i]?=some z∧g z=true),fun w hw=>?_,?_⟩
 . obtain ⟨i,hi⟩:=List.getElem?_of_mem (by simpa using hw:w∈its)
   by_cases hd:∃ (i:Nat) (z:Val),its[i]?=some w∧vs[i]?=some z∧g z=true
   . dsimp only; rw [decide_eq_true hd]
     obtain ⟨j,z,e1,e2,e3⟩:=hd
     obtain ⟨z',x,e4,rz,rw'⟩:=at_ j w e1
     rw [e2] at e4; cases e4
     rw [←e3]; exact hE z x w (List.mem_of_getElem? e2) rz rw'
   . dsimp only; rw [decide_eq_false hd]
     obtain ⟨z,x,e4,rz,rw'⟩:=at_ i w hi
     have hg:g z=false:=by
       cases hg:g z with
       | false=>rfl
       | true=>exact (hd ⟨i,z,hi,e4,hg⟩).elim
     rw [←hg]; exact hE z x w (List.mem_of_getElem? e4) rz rw'
 . rw [Bool.eq_iff_iff,Array.any_toList.symm,List.any_eq_true,List.any_eq_true]
   constructor
   . rintro ⟨w,_,h⟩
     obtain ⟨i,z,_,e2,e3⟩:=of_decide_eq_true h
     exact ⟨z,List.mem_of_getElem? e2,e3⟩
   . rintro ⟨z,hz,e3⟩
     obtain ⟨i,hi⟩:=List.getElem?_of_mem hz
     obtain ⟨x,e1,_⟩:=q.get hi
     obtain ⟨w,e2,_⟩:=r.get e1
     exact ⟨w,List.mem_of_getElem? e2,decide_eq_true ⟨i,z,e2,hi,e3⟩⟩
theorem eqD {K:KF} {mg:Str→Option Value} {ρ:Own} {H:L2.Hp} {P:Program} {w:World} {s:Shared} {A:Around} (hu:A.units + 60 < cLine) (ok:L2.HOk P w H s.heap) {a z:Val} {x y:L2.V} {v u:Value} (ra:RD K mg ρ H a x) (rx:L2.RelV x v) (ha:a.isD=true) (hd:a.d.depth≤60)
   (rz:RD K mg ρ H z y) (ry:L2.RelV y u) (hz:z.isD=true):SeqAt.EqAt A s u v (PyData.eqv z.d a.d):=by
 obtain ⟨as,r1,_⟩:=RD.reads ok ra (isR_of_isD ha) rx
 obtain ⟨bs,r2,_⟩:=RD.reads ok rz (isR_of_isD hz) ry
 have hm:=Nat.min_le_right z.d.depth a.d.depth
 exact SeqAt.eqAt_reads _ _ _ _ _ _ _ _ r2 r1 (canLay_of_isD hz) (canLay_of_isD ha) (by omega)
theorem op_cmp_in (hr0:L2.Room k X.A):L2.OpR X (compareOp .In) (rM2 X.K X.mg (cmpOp .in_)):=by
 intro pins s σ H x y v u Q I rx ry h
 obtain ⟨ρ,t,a,b,hr,ra,rb,w⟩:=h
 simp only [cmpOp] at w
 split at w
 . rename_i vs e
   obtain ⟨p,xs,rfl,hq,q⟩:=seq_at hr rb e
   split at w
   . rename_i hf
     rw [Bool.and_eq_true] at hf
     refine L2.op_in_seq pins s σ H _ _ v u Q I rx ry ⟨p,xs,rfl,hq,ra.flat hf.1,q.flat hf.2,?_⟩
     simp only [L2.inV,Bool.false_eq_true,if_false]
     rw [RDs.any ra hf.1 q hf.2]
     exact want_ok hr (.bool _) w
   . split at w
     . rename_i hf
       simp only [inD,Bool.and_eq_true,decide_eq_true_eq] at hf
       have hu:=hr0.un
       cases ry
       rcases hq with hq | hq
       . obtain ⟨its,r,pl,hz⟩:=I.list hq
         obtain ⟨f,f1,f2⟩:=eqs_of (A:=X.A.in1) (s:=s) (u:=v) (g:=fun z=>PyData.eqv z.d a.d) q r fun z x' w' hz rz ry'=>eqD (show X.A.units + 1 + 60 < cLine by omega) I.hok ra rx hf.1.1 hf.2 rz ry' (isDs_mem hf.1.2 hz)
         exact SeqAt.in_listAt f pl.isList f1 ⟨.bl _,H,I,rfl,by rw [f2]; exact want_ok hr (.bool _) w⟩
       . obtain ⟨its,r,pl,hz⟩:=I.tuple hq
         obtain ⟨f,f1,f2⟩:=eqs_of (A:=X.A.in1) (s:=s) (u:=v) (g:=fun z=>PyData.eqv z.d a.d) q r fun z x' w' hz rz ry'=>eqD (show X.A.units + 1 + 60 < cLine by omega) I.hok ra rx hf.1.1 hf.2 rz ry' (isDs_mem hf.1.2 hz)
         exact SeqAt.in_tupleAt f pl f1 ⟨.bl _,H,I,rfl,by rw [f2]; exact want_ok hr (.bool _) w⟩
     . exact w.elim
 . exact w.elim
theorem op_cmp_notIn (hr0:L2.Room k X.A):L2.OpR X (compareOp .NotIn) (rM2 X.K X.mg (cmpOp .notIn)):=by
 intro pins s σ H x y v u Q I rx ry h
 obtain ⟨ρ,t,a,b,hr,ra,rb,w⟩:=h
 simp only [cmpOp] at w
 split at w
 . rename_i vs e
   obtain ⟨p,xs,rfl,hq,q⟩:=seq_at hr rb e
   split at w
   . rename_i hf
     rw [Bool.and_eq_true] at hf
     refine L2.op_notIn_seq pins s σ H _ _ v u Q I rx ry ⟨p,xs,rfl,hq,ra.flat hf.1,q.flat hf.2,?_⟩
     simp only [L2.inV,if_true]
     rw [RDs.any ra hf.1 q hf.2]
     exact want_ok hr (.bool _) w
   . split at w
     . rename_i hf
       simp only [inD,Bool.and_eq_true,decide_eq_true_eq] at hf
       have hu:=hr0.un
       cases ry
       rcases hq with hq | hq
       . obtain ⟨its,r,pl,hz⟩:=I.list hq
         obtain ⟨f,f1,f2⟩:=eqs_of (A:=X.A.in1) (s:=s) (u:=v) (g:=fun z=>PyData.eqv z.d a.d) q r fun z x' w' hz rz ry'=>eqD (show X.A.units + 1 + 60 < cLine by omega) I.hok ra rx hf.1.1 hf.2 rz ry' (isDs_mem hf.1.2 hz)
         exact SeqAt.notIn_listAt f pl.isList f1 ⟨.bl _,H,I,rfl,by rw [f2]; exact want_ok hr (.bool _) w⟩
       . obtain ⟨its,r,pl,hz⟩:=I.tuple hq
         obtain ⟨f,f1,f2⟩:=eqs_of (A:=X.A.in1) (s:=s) (u:=v) (g:=fun z=>PyData.eqv z.d a.d) q r fun z x' w' hz rz ry'=>eqD (show X.A.units + 1 + 60 < cLine by omega) I.hok ra rx hf.1.1 hf.2 rz ry' (isDs_mem hf.1.2 hz)
         exact SeqAt.notIn_tupleAt f pl f1 ⟨.bl _,H,I,rfl,by rw [f2]; exact want_ok hr (.bool _) w⟩
     . exact w.elim
 . exact w.elim
theorem op_cmp_lt:L2.OpR X (compareOp .Lt) (rM2 X.K X.mg (cmpOp .lt)):=by
 intro pins s σ H x y v u Q I rx ry h
 obtain ⟨ρ,t,a,b,hr,ra,rb,w⟩:=h
 simp only [cmpOp] at w
 split at w
 . cases ra; cases rb
   exact L2.op_lt pins s σ H _ _ v u Q I rx ry ⟨_,_,rfl,rfl,want_ok hr (.bool _) w⟩
 . exact w.elim
theorem op_cmp_le:L2.OpR X (compareOp .LtE) (rM2 X.K X.mg (cmpOp .le)):=by
 intro pins s σ H x y v u Q I rx ry h
 obtain ⟨ρ,t,a,b,hr,ra,rb,w⟩:=h
 simp only [cmpOp] at w
 split at w
 . cases ra; cases rb
   exact L2.op_le pins s σ H _ _ v u Q I rx ry ⟨_,_,rfl,rfl,want_ok hr (.bool _) w⟩
 . exact w.elim
theorem op_cmp_gt:L2.OpR X (compareOp .Gt) (rM2 X.K X.mg (cmpOp .gt)):=by
 intro pins s σ H x y v u Q I rx ry h
 obtain ⟨ρ,t,a,b,hr,ra,rb,w⟩:=h
 simp only [cmpOp] at w
 split at w
 . cases ra; cases rb
   exact L2.op_gt pins s σ H _ _ v u Q I rx ry ⟨_,_,rfl,rfl,want_ok hr (.bool _) w⟩
 . exact w.elim
theorem op_cmp_ge:L2.OpR X (compareOp .GtE) (rM2 X.K X.mg (cmpOp .ge)):=by
 intro pins s σ H x y v u Q I rx ry h
 obtain ⟨ρ,t,a,b,hr,ra,rb,w⟩:=h
 simp only [cmpOp] at w
 split at w
 . cases ra; cases rb
   exact L2.op_ge pins s σ H _ _ v u Q I rx ry ⟨_,_,rfl,rfl,want_ok hr (.bool _) w⟩
 . exact w.elim
noncomputable def Cop.op:Cop→CmpOp
 | .eq=>.Eq | .ne=>.NotEq | .lt=>.Lt | .le=>.LtE | .gt=>.Gt | .ge=>.GtE | .is=>.Is | .isNot=>.IsNot | .in_=>.In | .notIn=>.NotIn
theorem op_cmp (hr0:L2.Room k X.A):∀ op:Cop,L2.OpR X (compareOp op.op) (rM2 X.K X.mg (cmpOp op))
 | .eq=>op_cmp_eq hr0 | .ne=>op_cmp_ne hr0 | .lt=>op_cmp_lt | .le=>op_cmp_le | .gt=>op_cmp_gt | .ge=>op_cmp_ge | .is=>op_cmp_is | .isNot=>op_cmp_isNot | .in_=>op_cmp_in hr0 | .notIn=>op_cmp_notIn hr0
noncomputable def Bop.op:Bop→Operator
 | .add=>.Add | .sub=>.Sub | .mul=>.Mult | .fdiv=>.FloorDiv | .mod=>.Mod | .pow=>.Pow | .shl=>.LShift | .shr=>.RShift | .band=>.BitAnd
theorem op_bin (m:Bool):∀ op:Bop,L2.OpR X (binaryOp op.op) (rM2 X.K X.mg (binOp m op))
 | .add=>op_bin_add m | .sub=>op_bin_sub m | .mul=>op_bin_mul m | .fdiv=>op_bin_fdiv m | .mod=>op_bin_mod m | .pow=>op_bin_pow m | .shl=>op_bin_shl m | .shr=>op_bin_shr m | .band=>op_bin_band m
theorem ix_op:L2.IxR X (rM2 X.K X.mg ixOp):=by
 intro value slice pins s σ H x y v u Q I rx ry h hs
 obtain ⟨ρ,t,a,b,hr,ra,rb,w⟩:=h
 simp only [ixOp] at w
 split at w
 . split at w
   . rename_i vs e
     split at w
     . rename_i z hz
       obtain ⟨p,xs,rfl,hq,q⟩:=seq_at hr ra e
       cases rb
       obtain ⟨xz,h1,h2⟩:=atI_rds q hz
       refine L2.ix_seq value slice pins s σ H _ _ v u Q I rx ry ?_ hs
       rcases hq with hq | hq
       . exact .inl ⟨p,xs,_,xz,rfl,rfl,hq,h1,want_ok hr h2 w⟩
       . exact .inr (.inl ⟨p,xs,_,xz,rfl,rfl,hq,h1,want_ok hr h2 w⟩)
     . exact w.elim
   . exact w.elim
 . exact w.elim
end
end M
end
section
namespace M
open PySem
noncomputable def Bf.nm:Bf→Str
 | .len=>"len" | .all=>"all" | .any=>"any" | .tuple=>"tuple" | .list=>"list" | .sorted=>"sorted" | .repr=>"repr" | .max=>"max" | .min=>"min" | .sum=>"sum" | .int=>"int" | .isi=>"isinstance" | .divmod=>"divmod" | .str=>"str"
noncomputable def Bf.val:Bf→Value
 | .len=>.builtin "len" | .all=>.builtin "all" | .any=>.builtin "any" | .tuple=>.type "tuple" | .list=>.type "list" | .sorted=>.builtin "sorted" | .repr=>.builtin "repr" | .max=>.builtin "max" | .min=>.builtin "min" | .sum=>.builtin "sum" | .int=>.type "int"
 | .isi=>.builtin "isinstance" | .divmod=>.builtin "divmod" | .str=>.type "str"
theorem Bf.boot:∀ f:Bf,bootBuiltins f.nm=some f.val
 | .len=>boot_len | .all=>PyProof.Rows.boot_all | .any=>PyProof.Rows.boot_any | .tuple=>PyProof.Rows.boot_tuple | .list=>PyProof.Rows.boot_list | .sorted=>PyProof.Rows.boot_sorted | .repr=>PyProof.Rows.boot_repr | .max=>PyProof.Rows.boot_max | .min=>PyProof.Rows.boot_min
 | .sum=>PyProof.Rows.boot_sum | .int=>PyProof.Rows.boot_int | .isi=>PyProof.Rows.boot_isinstance | .divmod=>PyProof.Rows.boot_divmod | .str=>PyProof.Rows.boot_str
section
variable {X:L2.Cx} {k:Nat} {m:Bool}
theorem rds1 {K:KF} {mg:Str→Option Value} {ρ:Own} {H:L2.Hp} {v:Val} {xs:List L2.V} (r:RDs K mg ρ H [v] xs):∃ x,xs=[x]∧RD K mg ρ H v x:=by
 cases r with
 | cons r1 r2=>cases r2; exact ⟨_,rfl,r1⟩
theorem rds2 {K:KF} {mg:Str→Option Value} {ρ:Own} {H:L2.Hp} {v w:Val} {xs:List L2.V} (r:RDs K mg ρ H [v,w] xs):∃ x y,xs=[x,y]∧RD K mg ρ H v x∧RD K mg ρ H w y:=by
 cases r with
 | cons r1 r2 =>
   obtain ⟨y,rfl,r3⟩:=rds1 r2
   exact ⟨_,_,rfl,r1,r3⟩
theorem call_len:L2.CallR X (.builtin "len") (rMc X.K X.mg (blt .len m)):=by
 intro pins s σ H xs us Q I r h
 obtain ⟨ρ,t,vs,hr,rv,w⟩:=h
 simp only [blt] at w
 split at w
 . split at w
   . rename_i hz
     obtain ⟨x,rfl,rx⟩:=rds1 rv
     cases rx
     exact L2.call_len_str pins s σ H _ us Q I r ⟨_,rfl,by rw [←line_eq]; exact hz,want_ok hr (.int _) w⟩
   . exact w.elim
 . split at w
   . rename_i e
     obtain ⟨x,rfl,rx⟩:=rds1 rv
     obtain ⟨p,ys,rfl,hq,q⟩:=seq_at hr rx e
     refine L2.call_len_seq pins s σ H _ us Q I r ⟨p,ys,rfl,hq,?_⟩
     rw [←q.length]
     exact want_ok hr (.int _) w
   . exact w.elim
 . exact w.elim
theorem call_all (hc:X.calm=true):L2.CallR X (.builtin "all") (rMc X.K X.mg (blt .all m)):=by
 intro pins s σ H xs us Q I r h
 obtain ⟨ρ,t,vs,hr,rv,w⟩:=h
 simp only [blt] at w
 split at w
 . split at w
   . rename_i e
     split at w
     . rename_i bs eb
       obtain ⟨x,rfl,rx⟩:=rds1 rv
       obtain ⟨p,ys,rfl,hq,q⟩:=lst_at hr rx e
       rw [q.bools eb] at hq
       exact L2.call_all hc pins s σ H _ us Q I r ⟨p,bs,rfl,.of hq,want_ok hr (.bool _) w⟩
     . exact w.elim
   . exact w.elim
 . exact w.elim
theorem call_tuple:L2.CallR X (.type "tuple") (rMc X.K X.mg (blt .tuple m)):=by
 intro pins s σ H xs us Q I r h
 obtain ⟨ρ,t,vs,hr,rv,w⟩:=h
 simp only [blt] at w
 split at w
 . obtain ⟨x,rfl,rx⟩:=rds1 rv
   cases rx with
   | tup n e q=>exact L2.call_tuple_of pins s σ H _ us Q I r ⟨_,_,rfl,.inr ⟨.of e,want_ok hr (.tup n e q) w⟩⟩
 . split at w
   . rename_i e
     obtain ⟨x,rfl,rx⟩:=rds1 rv
     obtain ⟨p,ys,rfl,hq,q⟩:=lst_at hr rx e
     exact L2.call_tuple_of pins s σ H _ us Q I r ⟨p,ys,rfl,.inl ⟨.of hq,new_tup hr q w⟩⟩
   . exact w.elim
 . exact w.elim
theorem call_list:L2.CallR X (.type "list") (rMc X.K X.mg (blt .list m)):=by
 intro pins s σ H xs us Q I r h
 obtain ⟨ρ,t,vs,hr,rv,w⟩:=h
 simp only [blt] at w
 split at w
 . split at w
   . rename_i e
     obtain ⟨x,rfl,rx⟩:=rds1 rv
     obtain ⟨p,ys,rfl,hq,q⟩:=seq_at hr rx e
     exact L2.call_list_of pins s σ H _ us Q I r ⟨p,ys,rfl,hq,new_lst hr q w⟩
   . exact w.elim
 . exact w.elim
theorem call_rpr (hr0:L2.Room k X.A):L2.CallR X (.builtin "repr") (rMc X.K X.mg (blt .repr m)):=by
 intro pins s σ H xs us Q I r h
 obtain ⟨ρ,t,vs,hr,rv,w⟩:=h
 simp only [blt] at w
 split at w
 . rename_i v
   split at w
   . rename_i hc
     rw [Bool.and_eq_true] at hc
     obtain ⟨x,rfl,rx⟩:=rds1 rv
     obtain ⟨u,rfl,ru⟩:=L2.vals1 r
     have S:=mShow hc.2
     have q:Q (.str (deref t v).d.shown) H:=want_ok hr (.str _) w
     have fin:∀ (tk':Tok) (tk:Nat),L2.EP X pins σ Q (.str (deref t v).d.shown tk') { s with toks:=tk }:=fun _ tk=>⟨.str _,H,I.tok _,⟨_,rfl⟩,q⟩
     obtain ⟨as,R,hs⟩:=deref_reads I.hok hr hc.1 rx ru
     have fr:∀ a,u=.ref a→wpAny (model X.prog X.w) X.A (call (.builtin "repr") [u]) (L2.EP X pins σ Q) X.xe s:=fun a e=>by
       subst e
       refine repr_of_reads' R S.sh (fun z=>hs (S.mix z)) hr0.gd ?_ (fun _ _ e=>e) (fun h' u tk hk=>⟨.str _,H,I.kept hk,⟨_,rfl⟩,q⟩) S.ln
       have:=S.dp
       have:=hr0.un
       omega
     cases rx with
     | none=>cases (show u=Value.none from ru); exact PySem.P.repr_of_none (fin _ _)
     | bool b=>cases (show u=Value.bool b from ru); exact PySem.P.repr_of_bool (fin _ _)
     | int i=>obtain ⟨t',z⟩:=(show ∃ t,u=Value.int i t from ru); cases z; exact PySem.P.repr_of_int (by simpa [deref,deref0,Val.d,PyData.showable] using S.sh) (fin _ _)
     | str x=>obtain ⟨t',z⟩:=(show ∃ t,u=Value.str x t from ru); cases z; exact PySem.P.repr_of_str (fin _ _) S.ln
     | tup _ _ _=>exact fr _ ru
     | lst _ _ _=>exact fr _ ru
     | dct0 _ _=>exact fr _ ru
     | ref _=>exact fr _ ru
     | ctup _=>exact fr _ ru
     | scr _=>exact fr _ ru
     | fn _=>exact fr _ ru
     | ty _=>exact absurd hc.1 (by simp [deref,deref0,Val.isR])
   . exact w.elim
 . exact w.elim
theorem call_max (hc:X.calm=true):L2.CallR X (.builtin "max") (rMc X.K X.mg (blt .max m)):=by
 intro pins s σ H xs us Q I r h
 obtain ⟨ρ,t,vs,hr,rv,w⟩:=h
 simp only [blt] at w
 split at w
 . obtain ⟨x,y,rfl,rx,ry⟩:=rds2 rv
   cases rx; cases ry
   exact L2.call_max2 hc pins s σ H _ us Q I r ⟨_,_,rfl,want_ok hr (.int _) w⟩
 . split at w
   . rename_i e
     split at w
     . rename_i ns en
       split at w
       . rename_i hn
         obtain ⟨x,rfl,rx⟩:=rds1 rv
         obtain ⟨p,ys,rfl,hq,q⟩:=lst_at hr rx e
         rw [q.intsE en] at hq
         exact L2.call_maxL hc pins s σ H _ us Q I r ⟨p,ns,rfl,.of hq,hn,want_ok hr (.int _) w⟩
       . exact w.elim
     . exact w.elim
   . exact w.elim
 . exact w.elim
theorem call_min (hc:X.calm=true):L2.CallR X (.builtin "min") (rMc X.K X.mg (blt .min m)):=by
 intro pins s σ H xs us Q I r h
 obtain ⟨ρ,t,vs,hr,rv,w⟩:=h
 simp only [blt] at w
 split at w
 . obtain ⟨x,y,rfl,rx,ry⟩:=rds2 rv
   cases rx; cases ry
   exact L2.call_min2 hc pins s σ H _ us Q I r ⟨_,_,rfl,want_ok hr (.int _) w⟩
 . split at w
   . rename_i e
     split at w
     . rename_i ns en
       split at w
       . rename_i hn
         obtain ⟨x,rfl,rx⟩:=rds1 rv
         obtain ⟨p,ys,rfl,hq,q⟩:=lst_at hr rx e
         rw [q.intsE en] at hq
         exact L2.call_minL hc pins s σ H _ us Q I r ⟨p,ns,rfl,.of hq,hn,want_ok hr (.int _) w⟩
       . exact w.elim
     . exact w.elim
   . exact w.elim
 . exact w.elim
theorem call_int:L2.CallR X (.type "int") (rMc X.K X.mg (blt .int m)):=by
 intro pins s σ H xs us Q I r h
 obtain ⟨ρ,t,vs,hr,rv,w⟩:=h
 simp only [blt] at w
 split at w
 . obtain ⟨x,rfl,rx⟩:=rds1 rv
   cases rx
   exact L2.call_int1 pins s σ H _ us Q I r (.inl ⟨_,rfl,want_ok hr (.int _) w⟩)
 . obtain ⟨x,rfl,rx⟩:=rds1 rv
   cases rx
   exact L2.call_int1 pins s σ H _ us Q I r (.inr ⟨_,rfl,want_ok hr (.int _) w⟩)
 . exact w.elim
theorem call_isi:L2.CallR X (.builtin "isinstance") (rMc X.K X.mg (blt .isi m)):=by
 intro pins s σ H xs us Q I r h
 obtain ⟨ρ,t,vs,hr,rv,w⟩:=h
 simp only [blt] at w
 split at w
 . split at w
   . rename_i ea ec
     obtain ⟨x,y,rfl,rx,ry⟩:=rds2 rv
     cases ry
     obtain ⟨e1,e2⟩:=kd_nm ec
     subst e1
     exact L2.call_isi pins s σ H _ us Q I r ⟨_,_,_,_,rfl,ty_at hr rx ea,L2.kit_kd X.K _ _ e2,want_ok hr (.bool _) w⟩
   . exact w.elim
 . exact w.elim
theorem call_divmod:L2.CallR X (.builtin "divmod") (rMc X.K X.mg (blt .divmod m)):=by
 intro pins s σ H xs us Q I r h
 obtain ⟨ρ,t,vs,hr,rv,w⟩:=h
 simp only [blt] at w
 split at w
 . split at w
   . rename_i hz
     obtain ⟨x,y,rfl,rx,ry⟩:=rds2 rv
     cases rx; cases ry
     exact L2.call_divmod pins s σ H _ us Q I r ⟨_,_,rfl,hz,new_tup hr (.cons (.int _) (.cons (.int _) .nil)) w⟩
   . exact w.elim
 . exact w.elim
theorem call_str:L2.CallR X (.type "str") (rMc X.K X.mg (blt .str m)):=by
 intro pins s σ H xs us Q I r h
 obtain ⟨ρ,t,vs,hr,rv,w⟩:=h
 simp only [blt] at w
 split at w
 . split at w
   . rename_i hz
     obtain ⟨x,rfl,rx⟩:=rds1 rv
     cases rx
     exact L2.call_str_int pins s σ H _ us Q I r ⟨_,rfl,hz,want_ok hr (.str _) w⟩
   . exact w.elim
 . exact w.elim
theorem insP_perm (z:Int × Int):∀ l,(insP z l).Perm (z :: l)
 | []=>.refl _
 | y :: ys=>by
   unfold insP
   split
   . exact .refl _
   . exact ((insP_perm z ys).cons y).trans (.swap z y ys)
theorem sortP_perm:∀ l,(sortP l).Perm l
 | []=>.refl _
 | z :: zs=>(insP_perm z _).trans ((sortP_perm zs).cons z)
theorem insP_le (z:Int × Int):∀ l,l.Pairwise (fun a b=>L2.code2 a≤L2.code2 b)→(insP z l).Pairwise (fun a b=>L2.code2 a≤L2.code2 b)
 | [],_=>by simp [insP]
 | y :: ys,h=>by
   rw [List.pairwise_cons] at h
   unfold insP
   split
   . rename_i hz
     refine List.pairwise_cons.mpr ⟨fun a ha=>?_,List.pairwise_cons.mpr h⟩
     rcases List.mem_cons.mp ha with e | e
     . subst e; exact hz
     . exact Int.le_trans hz (h.1 a e)
   . rename_i hz
     refine List.pairwise_cons.mpr ⟨fun a ha=>?_,insP_le z ys h.2⟩
     rcases List.mem_cons.mp ((insP_perm z ys).mem_iff.mp ha) with e | e
     . subst e; omega
     . exact h.1 a e
theorem sortP_le:∀ l,(sortP l).Pairwise (fun a b=>L2.code2 a≤L2.code2 b)
 | []=>.nil
 | z :: zs=>insP_le z _ (sortP_le zs)
theorem sortP_lt {l:List (Int × Int)} (nd:l.Nodup) (hb:∀ z∈l,0≤z.2∧z.2 < 1000):(sortP l).Pairwise (fun a b=>L2.code2 a < L2.code2 b):=by
 have h1:=sortP_le l
 have h2:(sortP l).Pairwise (·≠·):=(sortP_perm l).nodup_iff.mpr nd
 have h3:=h1.and h2
 refine h3.imp_of_mem ?_
 intro a b ha hb' hab
 have m1:=hb a ((sortP_perm l).mem_iff.mp ha)
 have m2:=hb b ((sortP_perm l).mem_iff.mp hb')
 rcases Int.lt_or_eq_of_le hab.1 with z | z
 . exact z
 . exact absurd (L2.code2_inj m1 m2 z) hab.2
theorem prs_at {K:KF} {mg:Str→Option Value} {ρ:Own} {H:L2.Hp}:∀ {vs:List Val} {xs:List L2.V} {zs:List (Int × Int)},RDs K mg ρ H vs xs→pairsOf vs=some zs→vs=zs.map prV∧L2.PrAt K H xs zs
 | _,_,_,.nil,h=>by cases h; exact ⟨rfl,rfl,fun i z e=>by simp at e⟩
 | _,_,_,.cons (v:=v) (x:=x) (vs:=vs) (xs:=xs) r rs,h=>by
   unfold pairsOf at h
   split at h
   . rename_i hv; cases hv
   . rename_i a b ws hv
     cases hv
     rw [Option.map_eq_some_iff] at h
     obtain ⟨zs',h1,rfl⟩:=h
     obtain ⟨e1,e2,e3⟩:=prs_at rs h1
     refine ⟨by rw [e1]; rfl,by rw [List.length_cons,List.length_cons,e2],fun i z hz=>?_⟩
     cases i with
     | zero =>
       simp at hz; subst hz
       cases r with
       | tup n e q =>
         cases q with
         | cons q1 q2 =>
           cases q2 with
           | cons q2 q3 =>
             cases q1; cases q2; cases q3
             exact ⟨_,rfl,.of e⟩
     | succ i =>
       simp only [List.getElem?_cons_succ] at hz ⊢
       exact e3 i z hz
   . cases h
theorem rds_ix {K:KF} {mg:Str→Option Value} {ρ:Own} {H:L2.Hp} {vs:List Val} {xs:List L2.V} (r:RDs K mg ρ H vs xs):∀ {ix:List Nat},(∀ i∈ix,i < vs.length)→RDs K mg ρ H (ix.map fun i=>vs.getD i .none) (ix.map fun i=>xs.getD i .non)
 | [],_=>.nil
 | i :: ix,h=>by
   have hi:=h i (.head _)
   obtain ⟨x,h1,h2⟩:=r.get (List.getElem?_eq_getElem hi)
   refine .cons ?_ (rds_ix r fun j hj=>h j (.tail _ hj))
   show RD K mg ρ H (vs.getD i .none) (xs.getD i .non)
   rw [List.getD_eq_getElem?_getD,List.getElem?_eq_getElem hi,List.getD_eq_getElem?_getD,h1]
   exact h2
theorem tps_at {K:KF} {mg:Str→Option Value} {ρ:Own} {H:L2.Hp}:∀ {vs:List Val} {xs:List L2.V} {zs:List (List Int)},RDs K mg ρ H vs xs→tupsOf vs=some zs→L2.TsAt K H xs zs
 | _,_,_,.nil,h=>by cases h; exact ⟨rfl,fun i z e=>by simp at e⟩
 | _,_,_,.cons (v:=v) (x:=x) (vs:=vs) (xs:=xs) r rs,h=>by
   unfold tupsOf at h
   split at h
   . rename_i hv; cases hv
   . rename_i a ws hv
     cases hv
     split at h
     . rename_i z zs' h1 h2
       cases h
       obtain ⟨e2,e3⟩:=tps_at rs h2
       refine ⟨by rw [List.length_cons,List.length_cons,e2],fun i z' hz=>?_⟩
       cases i with
       | zero =>
         simp at hz; subst hz
         cases r with
         | tup n e q=>exact ⟨_,rfl,by rw [q.intsE h1] at e; exact .of e⟩
       | succ i =>
         simp only [List.getElem?_cons_succ] at hz ⊢
         exact e3 i z' hz
     . cases h
   . cases h
theorem ints_map:∀ {a:List Val} {z:List Int},intsOf a=some z→a=z.map .int
 | [],_,h=>by cases h; rfl
 | v :: vs,z,h=>by
   cases v with
   | int i =>
     obtain ⟨n,h1,rfl⟩:=Option.map_eq_some_iff.mp (show (intsOf vs).map (i :: ·)=some z from h)
     rw [ints_map h1]; rfl
   | _=>cases h
theorem tps_eq {K:KF} {mg:Str→Option Value} {ρ:Own} {H:L2.Hp}:∀ {vs:List Val} {xs:List L2.V} {zs:List (List Int)},RDs K mg ρ H vs xs→tupsOf vs=some zs→vs=zs.map tpV
 | _,_,_,.nil,h=>by cases h; rfl
 | _,_,_,.cons (v:=v) (x:=x) (vs:=vs) (xs:=xs) r rs,h=>by
   unfold tupsOf at h
   split at h
   . rename_i hv; cases hv
   . rename_i a ws hv
     cases hv
     split at h
     . rename_i z zs' h1 h2
       cases h
       rw [tps_eq rs h2,List.map_cons]
       rw [ints_map h1]
       rfl
     . cases h
   . cases h
theorem sorted_ix {K:KF} {mg:Str→Option Value} {ρ:Own} {H:L2.Hp} {α:Type} {d:α} {f:α→Val} {zs l:List α} {ys:List L2.V} {ix:List Nat} (q:RDs K mg ρ H (zs.map f) ys) (hp:ix.Perm (List.range zs.length)) (h:(ix.map fun i=>zs.getD i d).Perm zs→(ix.map fun i=>zs.getD i d)=l):RDs K mg ρ H (l.map f) (ix.map fun i=>ys.getD i .non):=by
 have hlt:∀ i∈ix,i < zs.length:=fun i hi=>List.mem_range.mp (hp.mem_iff.mp hi)
 have e1:(ix.map fun i=>zs.getD i d).Perm zs:=L2.pick_perm d hp
 have rr:=rds_ix q (ix:=ix) (by rw [List.length_map]; exact hlt)
 have e3:(ix.map fun i=>(zs.map f).getD i .none)=l.map f:=by
   rw [←h e1,List.map_map]
   refine List.map_congr_left fun i hi=>?_
   have:=hlt i hi
   show _=f (zs.getD i d)
   rw [List.getD_eq_getElem?_getD,List.getElem?_map,List.getElem?_eq_getElem this,List.getD_eq_getElem?_getD,List.getElem?_eq_getElem this]
   rfl
 rw [e3] at rr
 exact rr
theorem call_sorted:L2.CallR X (.builtin "sorted") (rMc X.K X.mg (blt .sorted m)):=by
 intro pins s σ H xs us Q I r h
 obtain ⟨ρ,t,vs,hr,rv,w⟩:=h
 have gen:∀ {v:Val} {ws:List Val},RDs X.K X.mg ρ H [v] xs→lstOf t v=some ws→Want X.K X.mg (RD X.K X.mg) ρ H (sortOp m ws t) Q→wpAny (model X.prog X.w) X.A (call (.builtin "sorted") us) (L2.EP X pins σ Q) X.xe s:=fun {v ws} rv e w=>by
   unfold sortOp at w
   split at w
   . rename_i zs ez
     split at w
     . rename_i hz
       obtain ⟨x,rfl,rx⟩:=rds1 rv
       obtain ⟨p,ys,rfl,hq,q⟩:=lst_at hr rx e
       refine L2.call_sortT pins s σ H _ us Q I r ⟨p,ys,zs,fun a=>((L2.sortT zs).idxOf a:Int),rfl,.of hq,tps_at q ez,hz.2,hz.1,fun a ha b hb=>L2.sort_key hz.1 ha hb,fun a ha b hb=>L2.sort_inj ha hb,fun l ix hl hp hw=>new_lst hr (sorted_ix (tps_eq q ez ▸ q) hp fun e1=>L2.sortT_eq hz.1 e1 hw) w l hl⟩
     . exact w.elim
   . exact w.elim
 simp only [blt] at w
 split at w
 . split at w
   . rename_i e
     split at w
     . rename_i zs ez
       split at w
       . rename_i hz
         obtain ⟨x,rfl,rx⟩:=rds1 rv
         obtain ⟨p,ys,rfl,hq,q⟩:=lst_at hr rx e
         obtain ⟨ev,pa⟩:=prs_at q ez
         subst ev
         have hb:∀ {a:List Int},a∈zs.map L2.plI→∃ z∈zs,L2.plI z=a:=fun ha=>List.mem_map.mp ha
         refine L2.call_sortT pins s σ H _ us Q I r ⟨p,ys,zs.map L2.plI,L2.key2,rfl,.of hq,⟨by rw [List.length_map]; exact pa.1,fun i l hl=>?_⟩,.inr fun a ha=>?_,List.pairwise_map.mpr (hz.1.imp fun n h=>n (L2.plI_inj h)),fun a ha b hb'=>?_,fun a ha b hb' h=>?_,fun l ix hl hp hw=>?_⟩
         . rw [List.getElem?_map] at hl
           obtain ⟨z,e1,rfl⟩:=Option.map_eq_some_iff.mp hl
           exact pa.2 i z e1
         . obtain ⟨z,_,rfl⟩:=hb ha; exact List.cons_ne_nil _ _
         . obtain ⟨z,h1,rfl⟩:=hb ha
           obtain ⟨z',h2,rfl⟩:=hb hb'
           exact L2.key2_lt (hz.2 z h1) (hz.2 z' h2)
         . obtain ⟨z,h1,rfl⟩:=hb ha
           obtain ⟨z',h2,rfl⟩:=hb hb'
           rw [L2.code2_inj (hz.2 z h1) (hz.2 z' h2) h]
         . rw [List.length_map] at hp
           refine new_lst hr (sorted_ix (d:=(0,0)) q hp fun e1=>L2.rising_ext ?_ (sortP_lt hz.1 hz.2) fun x=>e1.mem_iff.trans (sortP_perm zs).mem_iff.symm) w l hl
           rw [List.pairwise_map] at hw ⊢
           refine hw.imp_of_mem fun {i j} hi hj w=>?_
           have l1:=List.mem_range.mp (hp.mem_iff.mp hi)
           have l2:=List.mem_range.mp (hp.mem_iff.mp hj)
           rw [List.getD_eq_getElem?_getD,List.getElem?_map,List.getElem?_eq_getElem l1,List.getD_eq_getElem?_getD,List.getElem?_map,List.getElem?_eq_getElem l2] at w
           rw [List.getD_eq_getElem?_getD,List.getElem?_eq_getElem l1,List.getD_eq_getElem?_getD,List.getElem?_eq_getElem l2]
           exact w
       . exact gen rv e w
     . exact gen rv e w
   . exact w.elim
 . exact w.elim
theorem call_no {f:Value} {g:List Val→Sto→Out Val} (hg:∀ vs s,g vs s=.stuck):L2.CallR X f (rMc X.K X.mg g):=by
 intro pins s σ H xs us Q I r h
 obtain ⟨ρ,t,vs,hr,rv,w⟩:=h
 rw [hg] at w
 exact w.elim
theorem call_bf (hc:X.calm=true) (hr0:L2.Room k X.A):∀ (f:Bf) (m:Bool),L2.CallR X f.val (rMc X.K X.mg (blt f m))
 | .len,_=>call_len | .all,_=>call_all hc | .any,_=>call_no fun _ _=>rfl | .tuple,_=>call_tuple | .list,_=>call_list | .sorted,_=>call_sorted | .repr,_=>call_rpr hr0
 | .max,_=>call_max hc | .min,_=>call_min hc | .sum,_=>call_no fun _ _=>rfl | .int,_=>call_int | .isi,_=>call_isi | .divmod,_=>call_divmod | .str,_=>call_str
end
end M
end
section
namespace M
open PySem
noncomputable def plain:Expr→Bool
 | .Starred .. | .Set .. | .Slice .. | .SetComp ..=>false
 | _=>true
theorem plain_star {e:Expr} (h:plain e=true):L2.noStar e=true:=by cases e <;> first | rfl | cases h
theorem plain_mark {op:CmpOp} {e:Expr} (h:plain e=true):behindInMarks op e=false:=by cases e <;> first | rfl | cases h
theorem plain_ix {e:Expr} (h:plain e=true):L2.PlainIx e:=by
 intro o i
 cases e <;> first | rfl | cases h
theorem plain_fold {e:Expr} {env:PySem.Env} (h:plain e=true) (x:Value):foldedSetIterable e env x=pure x:=by cases e <;> first | rfl | cases h
noncomputable def noSuper:Expr→Bool
 | .Call (.Name _ _) [] [] _=>false
 | _=>true
theorem base_of {o:Expr} {name:Str} {env:PySem.Env} (h:noSuper o=true):attributeBase o name env (eval o env)=eval o env:=by
 unfold attributeBase
 split
 . cases h
 . rfl
noncomputable def plainT:Expr→Bool
 | .UnaryOp .Not _ _ | .BoolOp .. | .IfExp .. | .Compare ..=>false
 | _=>true
theorem plainT_is {e:Expr} {env:PySem.Env} (h:plainT e=true) (whole:Sem Value):isTrue e env whole=(do let v ← whole; standAt e.pos; holding [v] (truthy v)):=by
 cases e with
 | UnaryOp op a p=>cases op <;> first | rfl | cases h
 | _=>first | rfl | cases h
noncomputable def plains:List Expr→Bool
 | []=>true
 | e :: es=>plain e && plains es
theorem plains_any:∀ {es:List Expr} {pos:Pos} {env:PySem.Env},plains es=true→(backTo pos (starEach es env)).any (·.1)=false
 | [],_,_,_=>rfl
 | e :: es,pos,env,h=>by
   rw [plains,Bool.and_eq_true] at h
   rw [L2.star_cons (plain_star h.1)]
   show (false || (backTo pos (starEach es env)).any (·.1))=false
   rw [plains_any h.2]; rfl
section
variable {K:KF} {mg:Str→Option Value} {env:Env} {s s1:Sto} {ρ ρ':Own} {H H':L2.Hp}
theorem Want.mono {α β:Type} {R:Own→L2.Hp→α→β→Prop} {o:Out α} {Q:β→L2.Hp→Prop} (w:Want K mg R ρ H o Q) (x:Ext ρ H ρ' H') (h:HR K mg ρ' s1 H'):Want K mg R ρ' H' o Q:=by
 cases o with
 | ok v s'=>exact fun ρ2 y H2 x2 h2 r2=>w ρ2 y H2 (x.trans h x2) h2 r2
 | _=>exact w
end
section
variable {X:L2.Cx} {env:Env} {s:Sto} {E a b c:Expr}
theorem pe_stuck {o:Out Val} (h:∀ v s',o≠.ok v s'):L2.PE X E (tV X.K X.mg env s o):=pe_no fun _ _ _=>tV_no h
theorem un1 {o:Out Val} {r:L2.V→L2.Hp→L2.VK→Prop} {g:Val→Sto→Out Val} (h:L2.PE X a (tV X.K X.mg env s o)) (rule:∀ ta,L2.PE X a ta→L2.PE X E (L2.tUn r ta))
   (op:∀ ρ H s1 v x Q,HR X.K X.mg ρ s1 H→RD X.K X.mg ρ H v x→Want X.K X.mg (RD X.K X.mg) ρ H (g v s1) Q→r x H Q):L2.PE X E (tV X.K X.mg env s (o.bind g)):=by
 cases o with
 | ok v s1=>exact pe_imp (rule _ h) fun σ H Q ⟨ρ,hr,er,w⟩=>⟨ρ,hr,er,fun ρ1 x H1 x1 hr1 r1=>op ρ1 H1 s1 v x Q hr1 r1 (w.mono x1 hr1)⟩
 | exc _ _ _=>exact pe_stuck (fun _ _ e=>by cases e)
 | stuck=>exact pe_stuck (fun _ _ e=>by cases e)
theorem bin2 {o:Out Val} {f2:Sto→Out Val} {g:Val→Val→Sto→Out Val} (h1:L2.PE X a (tV X.K X.mg env s o)) (h2:∀ s1,L2.PE X b (tV X.K X.mg env s1 (f2 s1)))
   (rule:∀ ta tb,L2.PE X a ta→L2.PE X b tb→L2.PE X E (L2.tOp (rM2 X.K X.mg g) ta tb)):L2.PE X E (tV X.K X.mg env s (o.bind fun x s1=>(f2 s1).bind fun y s2=>g x y s2)):=by
 cases o with
 | ok v s1 =>
   show L2.PE X E (tV X.K X.mg env s ((f2 s1).bind fun y s2=>g v y s2))
   have h2':=h2 s1
   cases hb:f2 s1 with
   | ok w s2 =>
     rw [hb] at h2'
     exact pe_imp (rule _ _ h1 h2') fun σ H Q ⟨ρ,hr,er,wt⟩=>⟨ρ,hr,er,fun ρ1 x H1 x1 hr1 r1=>⟨ρ1,hr1,er.mono x1,fun ρ2 y H2 x2 hr2 r2=>⟨ρ2,s2,v,w,hr2,r1.mono x2,r2,wt.mono (x1.trans hr1 x2) hr2⟩⟩⟩
   | exc _ _ _=>exact pe_stuck (fun _ _ e=>by cases e)
   | stuck=>exact pe_stuck (fun _ _ e=>by cases e)
 | exc _ _ _=>exact pe_stuck (fun _ _ e=>by cases e)
 | stuck=>exact pe_stuck (fun _ _ e=>by cases e)
theorem je_chain {op op':Cop} {o:Out Val} {f2 f3:Sto→Out Val} {k:Nat} {pos:Pos} (hr0:L2.Room k X.A) (h1:L2.PE X a (tV X.K X.mg env s o)) (h2:∀ s1,L2.PE X b (tV X.K X.mg env s1 (f2 s1))) (h3:∀ s1,L2.PE X c (tV X.K X.mg env s1 (f3 s1))) (hm:plain c=true) :
   L2.PE X (.Compare a [op.op,op'.op] [b,c] pos) (tV X.K X.mg env s (o.bind fun x s1=>(f2 s1).bind fun y s2=>(cmpOp op x y s2).bind fun r s3=>match r with
     | .bool true=>(f3 s3).bind fun z s4=>cmpOp op' y z s4
     | .bool false=>.ok (.bool false) s3
     | _=>.stuck)):=by
 cases o with
 | ok v s1 =>
   have h2':=h2 s1
   show L2.PE X _ (tV X.K X.mg env s ((f2 s1).bind _))
   cases hb:f2 s1 with
   | ok w s2 =>
     rw [hb] at h2'
     show L2.PE X _ (tV X.K X.mg env s ((cmpOp op v w s2).bind _))
     cases hc:cmpOp op v w s2 with
     | ok r s3 =>
       cases r with
       | bool t =>
         have h3':=h3 s3
         have rule:=L2.pe_chain (pos:=pos) (op_cmp hr0 op) (op_cmp hr0 op') h1 h2' h3' (show lastMarks [op.op,op'.op] [b,c]=false from plain_mark hm)
         refine pe_imp rule fun σ H Q ⟨ρ,hr,er,wt⟩=>⟨ρ,hr,er,fun ρ1 x H1 x1 hr1 r1=>⟨ρ1,hr1,er.mono x1,fun ρ2 y H2 x2 hr2 r2=>⟨ρ2,s2,v,w,hr2,r1.mono x2,r2,?_⟩⟩⟩
         rw [hc]
         intro ρ3 z H3 x3 hr3 r3
         cases r3
         refine ⟨t,rfl,?_⟩
         have xx:=(x1.trans hr1 x2).trans hr2 x3
         have wt':=wt.mono xx hr3
         cases t with
         | true =>
           rw [if_pos rfl]
           refine ⟨ρ3,hr3,er.mono xx,?_⟩
           have wt2:Want X.K X.mg (RD X.K X.mg) ρ3 H3 ((f3 s3).bind fun z s4=>cmpOp op' w z s4) Q:=wt'
           cases hz:f3 s3 with
           | ok u s4 =>
             rw [hz] at wt2
             exact fun ρ4 q H4 x4 hr4 r4=>⟨ρ4,s4,w,u,hr4,(r2.mono x3).mono x4,r4,wt2.mono x4 hr4⟩
           | exc _ _ _=>rw [hz] at wt2; exact wt2
           | stuck=>rw [hz] at wt2; exact wt2
         | false =>
           rw [if_neg Bool.false_ne_true]
           exact want_ok hr3 (.bool false) wt'
       | _=>exact pe_stuck (fun _ _ e=>by cases e)
     | exc _ _ _=>exact pe_stuck (fun _ _ e=>by cases e)
     | stuck=>exact pe_stuck (fun _ _ e=>by cases e)
   | exc _ _ _=>exact pe_stuck (fun _ _ e=>by cases e)
   | stuck=>exact pe_stuck (fun _ _ e=>by cases e)
 | exc _ _ _=>exact pe_stuck (fun _ _ e=>by cases e)
 | stuck=>exact pe_stuck (fun _ _ e=>by cases e)
theorem je_neg {o:Out Val} {pos:Pos} (h:L2.PE X a (tV X.K X.mg env s o)):L2.PE X (.UnaryOp .USub a pos) (tV X.K X.mg env s (o.bind fun x s1=>match x with | .int i=>.ok (.int (-i)) s1 | _=>.stuck)):=by
 refine un1 h (fun ta q=>L2.pe_un L2.un_neg q) fun ρ H s1 v x Q hr r w=>?_
 cases r with
 | int i=>exact ⟨i,rfl,want_ok hr (.int _) w⟩
 | _=>exact w.elim
theorem je_not {o:Out Val} {pos:Pos} (h:L2.PE X a (tV X.K X.mg env s o)):L2.PE X (.UnaryOp .Not a pos) (tV X.K X.mg env s (o.bind fun x s1=>match x with | .bool b=>.ok (.bool !b) s1 | _=>.stuck)):=by
 refine un1 (r:=fun x H Q=>∃ c,x=.bl c∧Q (.bl (!c)) H) h (fun ta q=>L2.pe_not q) fun ρ H s1 v x Q hr r w=>?_
 cases r with
 | bool i=>exact ⟨i,rfl,want_ok hr (.bool _) w⟩
 | _=>exact w.elim
theorem je_and {rest:List Expr} {o:Out Val} {f2:Sto→Out Val} {pos:Pos} (h1:L2.PE X a (tV X.K X.mg env s o)) (h2:∀ s1,L2.PE X (.BoolOp .And (b :: rest) pos) (tV X.K X.mg env s1 (f2 s1))) :
   L2.PE X (.BoolOp .And (a :: b :: rest) pos) (tV X.K X.mg env s (o.bind fun x s1=>match x with | .bool true=>f2 s1 | .bool false=>.ok (.bool false) s1 | _=>.stuck)):=by
 cases o with
 | ok v s1 =>
   refine pe_imp (L2.pe_and h1 (h2 s1)) fun σ H Q ⟨ρ,hr,er,wt⟩=>⟨ρ,hr,er,fun ρ1 x H1 x1 hr1 r1=>?_⟩
   have wt':=wt.mono x1 hr1
   cases r1 with
   | bool t =>
     refine ⟨t,rfl,?_⟩
     cases t with
     | true=>exact L2.iteT (⟨ρ1,hr1,er.mono x1,wt'⟩)
     | false=>exact L2.iteF (want_ok hr1 (.bool _) wt')
   | _=>exact wt'.elim
 | exc _ _ _=>exact pe_stuck (fun _ _ e=>by cases e)
 | stuck=>exact pe_stuck (fun _ _ e=>by cases e)
theorem je_or {rest:List Expr} {o:Out Val} {f2:Sto→Out Val} {pos:Pos} (h1:L2.PE X a (tV X.K X.mg env s o)) (h2:∀ s1,L2.PE X (.BoolOp .Or (b :: rest) pos) (tV X.K X.mg env s1 (f2 s1))) :
   L2.PE X (.BoolOp .Or (a :: b :: rest) pos) (tV X.K X.mg env s (o.bind fun x s1=>match x with | .bool false=>f2 s1 | .bool true=>.ok (.bool true) s1 | _=>.stuck)):=by
 cases o with
 | ok v s1 =>
   refine pe_imp (L2.pe_or h1 (h2 s1)) fun σ H Q ⟨ρ,hr,er,wt⟩=>⟨ρ,hr,er,fun ρ1 x H1 x1 hr1 r1=>?_⟩
   have wt':=wt.mono x1 hr1
   cases r1 with
   | bool t =>
     refine ⟨t,rfl,?_⟩
     cases t with
     | true=>exact L2.iteT (want_ok hr1 (.bool _) wt')
     | false=>exact L2.iteF (⟨ρ1,hr1,er.mono x1,wt'⟩)
   | _=>exact wt'.elim
 | exc _ _ _=>exact pe_stuck (fun _ _ e=>by cases e)
 | stuck=>exact pe_stuck (fun _ _ e=>by cases e)
theorem je_ife {o:Out Bool} {f2 f3:Sto→Out Val} {pos:Pos} (h1:L2.PT X c (tT X.K X.mg env s o)) (h2:∀ s1,L2.PE X a (tV X.K X.mg env s1 (f2 s1))) (h3:∀ s1,L2.PE X b (tV X.K X.mg env s1 (f3 s1))) :
   L2.PE X (.IfExp c a b pos) (tV X.K X.mg env s (o.bind fun t s1=>if t then f2 s1 else f3 s1)):=by
 cases o with
 | ok v s1 =>
   refine pe_imp (L2.pe_ifExp h1 (h2 s1) (h3 s1)) fun σ H Q ⟨ρ,hr,er,wt⟩=>⟨ρ,hr,er,fun ρ1 x H1 x1 hr1 r1=>?_⟩
   have wt':=wt.mono x1 hr1
   cases r1
   cases v with
   | true=>exact L2.iteT (⟨ρ1,hr1,er.mono x1,wt'⟩)
   | false=>exact L2.iteF (⟨ρ1,hr1,er.mono x1,wt'⟩)
 | exc _ _ _=>exact pe_stuck (fun _ _ e=>by cases e)
 | stuck=>exact pe_stuck (fun _ _ e=>by cases e)
theorem pa_stuck {es:List Expr} {o:Out (List Val)} (h:∀ v s',o≠.ok v s'):L2.PA X es (tVs X.K X.mg env s o):=pa_no fun _ _ _=>tVs_no h
theorem jes_nil:L2.PA X [] (tVs X.K X.mg env s (.ok [] s)):=pa_imp L2.pa_nil fun σ H Q ⟨ρ,hr,er,wt⟩=>wt ρ [] H Ext.refl hr .nil
theorem jes_cons {es:List Expr} {o:Out Val} {f2:Sto→Out (List Val)} (hp:plain a=true) (h1:L2.PE X a (tV X.K X.mg env s o)) (h2:∀ s1,L2.PA X es (tVs X.K X.mg env s1 (f2 s1))) :
   L2.PA X (a :: es) (tVs X.K X.mg env s (o.bind fun v s1=>(f2 s1).bind fun vs s2=>.ok (v :: vs) s2)):=by
 cases o with
 | ok v s1 =>
   have h2':=h2 s1
   show L2.PA X _ (tVs X.K X.mg env s ((f2 s1).bind _))
   cases hb:f2 s1 with
   | ok ws s2 =>
     rw [hb] at h2'
     exact pa_imp (L2.pac h1 h2' (plain_star hp)) fun σ H Q ⟨ρ,hr,er,wt⟩=>⟨ρ,hr,er,fun ρ1 x H1 x1 hr1 r1=>⟨ρ1,hr1,er.mono x1,fun ρ2 y H2 x2 hr2 r2=>wt ρ2 _ H2 (x1.trans hr1 x2) hr2 (.cons (r1.mono x2) r2)⟩⟩
   | exc _ _ _=>exact pa_stuck (fun _ _ e=>by cases e)
   | stuck=>exact pa_stuck (fun _ _ e=>by cases e)
 | exc _ _ _=>exact pa_stuck (fun _ _ e=>by cases e)
 | stuck=>exact pa_stuck (fun _ _ e=>by cases e)
theorem je_tup {es:List Expr} {o:Out (List Val)} {k:Nat} {pos:Pos} (h:L2.PA X es (tVs X.K X.mg env s o)):L2.PE X (.Tuple es k pos) (tV X.K X.mg env s (o.bind fun vs s1=>if vs.length≤LINE then .ok (.tup vs) s1 else .stuck)):=by
 cases o with
 | ok vs s1 =>
   refine pe_imp (L2.pe_tup h) fun σ H Q ⟨ρ,hr,er,wt⟩=>⟨ρ,hr,er,fun ρ1 xs H1 x1 hr1 r1=>?_⟩
   have wt':Want X.K X.mg (RD X.K X.mg) ρ1 H1 (if vs.length≤LINE then .ok (.tup vs) s1 else .stuck) Q:=wt.mono x1 hr1
   by_cases hz:vs.length≤LINE
   . rw [if_pos hz] at wt'
     exact ⟨by rw [←r1.length,← line_eq]; exact hz,new_tup hr1 r1 wt'⟩
   . rw [if_neg hz] at wt'; exact wt'.elim
 | exc _ _ _=>exact pe_stuck (fun _ _ e=>by cases e)
 | stuck=>exact pe_stuck (fun _ _ e=>by cases e)
theorem je_lst {es:List Expr} {o:Out (List Val)} {m:Bool} {pos:Pos} (h:L2.PA X es (tVs X.K X.mg env s o)):L2.PE X (.List es pos) (tV X.K X.mg env s (o.bind fun vs s1=>if vs.length≤LINE then newList m vs s1 else .stuck)):=by
 cases o with
 | ok vs s1 =>
   refine pe_imp (L2.pe_lst h) fun σ H Q ⟨ρ,hr,er,wt⟩=>⟨ρ,hr,er,fun ρ1 xs H1 x1 hr1 r1=>?_⟩
   have wt':Want X.K X.mg (RD X.K X.mg) ρ1 H1 (if vs.length≤LINE then newList m vs s1 else .stuck) Q:=wt.mono x1 hr1
   by_cases hz:vs.length≤LINE
   . rw [if_pos hz] at wt'
     exact ⟨by rw [←r1.length,← line_eq]; exact hz,new_lst hr1 r1 wt'⟩
   . rw [if_neg hz] at wt'; exact wt'.elim
 | exc _ _ _=>exact pe_stuck (fun _ _ e=>by cases e)
 | stuck=>exact pe_stuck (fun _ _ e=>by cases e)
theorem je_cb {es:List Expr} {o:Out (List Val)} {g:List Val→Sto→Out Val} (h:L2.PA X es (tVs X.K X.mg env s o)) (rule:∀ t,L2.PA X es t→L2.PE X E (L2.tCB (rMc X.K X.mg g) t)):L2.PE X E (tV X.K X.mg env s (o.bind g)):=by
 cases o with
 | ok vs s1=>exact pe_imp (rule _ h) fun σ H Q ⟨ρ,hr,er,wt⟩=>⟨ρ,hr,er,fun ρ1 xs H1 x1 hr1 r1=>⟨ρ1,s1,vs,hr1,r1,wt.mono x1 hr1⟩⟩
 | exc _ _ _=>exact pe_stuck (fun _ _ e=>by cases e)
 | stuck=>exact pe_stuck (fun _ _ e=>by cases e)
theorem je_blt {es:List Expr} {o:Out (List Val)} {f:Bf} {m:Bool} {k:Nat} {p pos:Pos} (hc:X.calm=true) (hr0:L2.Room k X.A) (hg:L2.Gl X f.nm) (hm:X.mg f.nm=none) (hp:plains (a :: es)=true) (h:L2.PA X (a :: es) (tVs X.K X.mg env s o)) :
   L2.PE X (.Call (.Name f.nm p) (a :: es) [] pos) (tV X.K X.mg env s (o.bind (blt f m))):=by
 rw [plains,Bool.and_eq_true] at hp
 refine je_cb h fun t ht=>?_
 have hb:=call_bf hc hr0 f m
 have bo:=f.boot
 have st:=L2.star_cons (es:=es) (env:=X.env) (plain_star hp.1)
 have hn:=plains_any (pos:=pos) (env:=X.env) hp.2
 cases f with
 | tuple=>exact L2.pe_callTy hb hg hm bo ht (by decide) (by decide) st hn
 | list=>exact L2.pe_callTy hb hg hm bo ht (by decide) (by decide) st hn
 | int=>exact L2.pe_callTy hb hg hm bo ht (by decide) (by decide) st hn
 | str=>exact L2.pe_callTy hb hg hm bo ht (by decide) (by decide) st hn
 | _=>exact L2.pe_callB hb hg hm bo ht (by decide) (by decide) st hn
theorem pt_stuck {o:Out Bool} (h:∀ v s',o≠.ok v s'):L2.PT X E (tT X.K X.mg env s o):=pt_no fun _ _ _=>tT_no h
theorem jt_val {o:Out Val} (hp:plainT a=true) (h:L2.PE X a (tV X.K X.mg env s o)):L2.PT X a (tT X.K X.mg env s o.truth):=by
 cases o with
 | ok v s1 =>
   refine pt_imp (L2.pt_truth h (plainT_is hp)) fun σ H Q ⟨ρ,hr,er,wt⟩=>⟨ρ,hr,er,fun ρ1 x H1 x1 hr1 r1=>?_⟩
   have wt':=wt.mono x1 hr1
   simp only [Out.truth,bind_ok] at wt'
   cases ht:truth s1 v with
   | none=>rw [ht] at wt'; exact wt'.elim
   | some b=>rw [ht] at wt'; exact ⟨b,tru_at hr1 r1 ht,wt' _ _ _ Ext.refl hr1 rfl⟩
 | exc _ _ _=>exact pt_stuck (fun _ _ e=>by cases e)
 | stuck=>exact pt_stuck (fun _ _ e=>by cases e)
theorem jt_not {o:Out Bool} {pos:Pos} (h:L2.PT X a (tT X.K X.mg env s o)):L2.PT X (.UnaryOp .Not a pos) (tT X.K X.mg env s (o.bind fun b s1=>.ok (!b) s1)):=by
 cases o with
 | ok v s1=>exact pt_imp (L2.pt_not h) fun σ H Q ⟨ρ,hr,er,wt⟩=>⟨ρ,hr,er,fun ρ1 x H1 x1 hr1 r1=>by cases r1; exact wt _ _ _ x1 hr1 rfl⟩
 | exc _ _ _=>exact pt_stuck (fun _ _ e=>by cases e)
 | stuck=>exact pt_stuck (fun _ _ e=>by cases e)
theorem pw_stuck {o:Out Bool} (h:∀ v s',o≠.ok v s'):L2.PW X E (tT X.K X.mg env s o):=pw_no fun _ _ _=>tT_no h
theorem jw_and_nil {pos:Pos}:L2.PW X (.BoolOp .And [] pos) (tT X.K X.mg env s (.ok true s)):=fun wh pins sh σ H Q I ⟨ρ,hr,er,wt⟩=>PyProof.Rows.isTrue_and_nil ⟨H,I,wt _ _ _ Ext.refl hr rfl⟩
theorem jw_or_nil {pos:Pos}:L2.PW X (.BoolOp .Or [] pos) (tT X.K X.mg env s (.ok false s)):=fun wh pins sh σ H Q I ⟨ρ,hr,er,wt⟩=>PyProof.Rows.isTrue_or_nil ⟨H,I,wt _ _ _ Ext.refl hr rfl⟩
theorem jw_and {rest:List Expr} {o:Out Bool} {f2:Sto→Out Bool} {pos:Pos} (h1:L2.PT X a (tT X.K X.mg env s o)) (h2:∀ s1,L2.PW X (.BoolOp .And rest pos) (tT X.K X.mg env s1 (f2 s1))) :
   L2.PW X (.BoolOp .And (a :: rest) pos) (tT X.K X.mg env s (o.bind fun b s1=>if b then f2 s1 else .ok false s1)):=by
 cases o with
 | ok v s1 =>
   intro wh pins sh σ H Q I h
   obtain ⟨ρ,hr,er,wt⟩:=h
   refine PyProof.Rows.isTrue_and (L2.thn (h1 pins sh σ H (fun c H1=>if c=true then tT X.K X.mg env s1 (f2 s1) σ H1 Q else Q false H1) I ⟨ρ,hr,er,fun ρ1 x H1 x1 hr1 r1=>?_⟩) fun c s' ⟨H1,I1,q1⟩=>?_)
   . have wt':=wt.mono x1 hr1
     cases r1
     cases v with
     | true=>exact L2.iteT (⟨ρ1,hr1,er.mono x1,wt'⟩)
     | false=>exact L2.iteF (wt' _ _ _ Ext.refl hr1 rfl)
   . cases c with
     | true=>exact h2 s1 wh pins s' σ H1 Q I1 q1
     | false=>exact ⟨H1,I1,q1⟩
 | exc _ _ _=>exact pw_stuck (fun _ _ e=>by cases e)
 | stuck=>exact pw_stuck (fun _ _ e=>by cases e)
theorem jw_or {rest:List Expr} {o:Out Bool} {f2:Sto→Out Bool} {pos:Pos} (h1:L2.PT X a (tT X.K X.mg env s o)) (h2:∀ s1,L2.PW X (.BoolOp .Or rest pos) (tT X.K X.mg env s1 (f2 s1))) :
   L2.PW X (.BoolOp .Or (a :: rest) pos) (tT X.K X.mg env s (o.bind fun b s1=>if b then .ok true s1 else f2 s1)):=by
 cases o with
 | ok v s1 =>
   intro wh pins sh σ H Q I h
   obtain ⟨ρ,hr,er,wt⟩:=h
   refine PyProof.Rows.isTrue_or (L2.thn (h1 pins sh σ H (fun c H1=>if c=true then Q true H1 else tT X.K X.mg env s1 (f2 s1) σ H1 Q) I ⟨ρ,hr,er,fun ρ1 x H1 x1 hr1 r1=>?_⟩) fun c s' ⟨H1,I1,q1⟩=>?_)
   . have wt':=wt.mono x1 hr1
     cases r1
     cases v with
     | true=>exact L2.iteT (wt' _ _ _ Ext.refl hr1 rfl)
     | false=>exact L2.iteF (⟨ρ1,hr1,er.mono x1,wt'⟩)
   . cases c with
     | true=>exact ⟨H1,I1,q1⟩
     | false=>exact h2 s1 wh pins s' σ H1 Q I1 q1
 | exc _ _ _=>exact pw_stuck (fun _ _ e=>by cases e)
 | stuck=>exact pw_stuck (fun _ _ e=>by cases e)
end
end M
end
section
namespace M
open PySem
section
variable {X:L2.Cx} {env:Env} {s:Sto} {E a b c:Expr}
theorem po_imp {e:Option Expr} {t t':L2.TO} (h:L2.PO X e t) (i:∀ σ H Q,t' σ H Q→t σ H Q):L2.PO X e t':=fun pins s σ H Q I q=>h pins s σ H Q I (i σ H Q q)
theorem tO_no {o:Out (Option Int)} (h:∀ v s',o≠.ok v s') {σ:L2.St} {H:L2.Hp} {Q:Option Int→L2.Hp→Prop}:¬ tO X.K X.mg env s o σ H Q:=by
 rintro ⟨ρ,_,_,w⟩
 cases o with
 | ok v s'=>exact h v s' rfl
 | _=>exact w
theorem po_stuck {e:Option Expr} {o:Out (Option Int)} (h:∀ v s',o≠.ok v s'):L2.PO X e (tO X.K X.mg env s o):=fun pins sh σ H Q I q=>(tO_no h q).elim
theorem jo_no:L2.PO X none (tO X.K X.mg env s (.ok none s)):=po_imp L2.po_none fun σ H Q ⟨ρ,hr,er,wt⟩=>wt _ _ _ Ext.refl hr rfl
theorem jo_yes {o:Out Val} (h:L2.PE X a (tV X.K X.mg env s o)):L2.PO X (some a) (tO X.K X.mg env s (o.bind fun v s1=>match v with | .int i=>.ok (some i) s1 | _=>.stuck)):=by
 cases o with
 | ok v s1 =>
   refine po_imp (L2.po_some h) fun σ H Q ⟨ρ,hr,er,wt⟩=>⟨ρ,hr,er,fun ρ1 x H1 x1 hr1 r1=>?_⟩
   have wt':=wt.mono x1 hr1
   cases r1 with
   | int i=>exact ⟨i,rfl,wt' _ _ _ Ext.refl hr1 rfl⟩
   | _=>exact wt'.elim
 | exc _ _ _=>exact po_stuck (fun _ _ e=>by cases e)
 | stuck=>exact po_stuck (fun _ _ e=>by cases e)
noncomputable def rMs (K:KF) (mg:Str→Option Value) (m:Bool):L2.V→Option Int→Option Int→L2.Hp→L2.VK→Prop:=fun x lo hi H Q=>∃ ρ s v,HR K mg ρ s H∧RD K mg ρ H v x∧Want K mg (RD K mg) ρ H (slOp m v lo hi none s) Q
theorem sl_op (m:Bool):L2.SlR X (rMs X.K X.mg m):=by
 intro pins s σ H x v vl vu lo hi sl Q I rx hs pl pu h
 obtain ⟨ρ,t,w,hr,rw',wt⟩:=h
 simp only [slOp] at wt
 split at wt
 . cases rw' with
   | tup n e q=>exact L2.sl_tup2 pins s σ H _ v vl vu lo hi sl Q I rx hs pl pu ⟨_,_,rfl,e,gets_tup hr (q.cut lo hi) wt⟩
 . rename_i heq
   cases heq
 . split at wt
   . rename_i e
     obtain ⟨p,xs,rfl,hq,q⟩:=lst_at hr rw' e
     exact L2.sl_list pins s σ H _ v vl vu lo hi sl Q I rx hs pl pu ⟨_,_,rfl,.of hq,new_lst hr (q.cut lo hi) wt⟩
   . exact wt.elim
 . rename_i heq
   cases heq
theorem je_sl {lo hi st:Option Expr} {o:Out Val} {f2 f3 f4:Sto→Out (Option Int)} {m:Bool} {p2 pos:Pos} (h1:L2.PE X a (tV X.K X.mg env s o)) (h2:∀ s1,L2.PO X lo (tO X.K X.mg env s1 (f2 s1))) (h3:∀ s1,L2.PO X hi (tO X.K X.mg env s1 (f3 s1)))
   (h4:∀ s1,L2.PO X st (tO X.K X.mg env s1 (f4 s1))) (hst:(st=none∧∀ s1,f4 s1=.ok none s1) ∨ ∃ e,st=some e∧∀ s1 s2,f4 s1≠.ok none s2) :
   L2.PE X (.Subscript a (.Slice lo hi st p2) pos) (tV X.K X.mg env s (o.bind fun x s1=>(f2 s1).bind fun l s2=>(f3 s2).bind fun h s3=>(f4 s3).bind fun c s4=>slOp m x l h c s4)):=by
 cases o with
 | ok v s1 =>
   have h2':=h2 s1
   show L2.PE X _ (tV X.K X.mg env s ((f2 s1).bind _))
   cases hl:f2 s1 with
   | ok l s2 =>
     rw [hl] at h2'
     have h3':=h3 s2
     show L2.PE X _ (tV X.K X.mg env s ((f3 s2).bind _))
     cases hh:f3 s2 with
     | ok h s3 =>
       rw [hh] at h3'
       have h4':=h4 s3
       show L2.PE X _ (tV X.K X.mg env s ((f4 s3).bind _))
       rcases hst with ⟨rfl,e4⟩ | ⟨e,rfl,e4⟩
       . rw [e4 s3]
         refine pe_imp (L2.pe_slice (sl_op m) h1 h2' h3') fun σ H Q ⟨ρ,hr,er,wt⟩=>⟨ρ,hr,er,fun ρ1 x H1 x1 hr1 r1=>⟨ρ1,hr1,er.mono x1,fun ρ2 y H2 x2 hr2 r2=>?_⟩⟩
         cases r2
         refine ⟨ρ2,hr2,(er.mono x1).mono x2,fun ρ3 z H3 x3 hr3 r3=>?_⟩
         cases r3
         exact ⟨ρ3,s3,v,hr3,(r1.mono x2).mono x3,wt.mono ((x1.trans hr1 x2).trans hr2 x3) hr3⟩
       . cases hc:f4 s3 with
         | ok cc s4 =>
           rw [hc] at h4'
           cases cc with
           | none=>exact absurd hc (e4 s3 s4)
           | some ci =>
             refine pe_imp (L2.pe_slice3 h1 h2' h3' h4') fun σ H Q ⟨ρ,hr,er,wt⟩=>⟨ρ,hr,er,fun ρ1 x H1 x1 hr1 r1=>⟨ρ1,hr1,er.mono x1,fun ρ2 y H2 x2 hr2 r2=>?_⟩⟩
             cases r2
             refine ⟨ρ2,hr2,(er.mono x1).mono x2,fun ρ3 z H3 x3 hr3 r3=>?_⟩
             cases r3
             refine ⟨ρ3,hr3,((er.mono x1).mono x2).mono x3,fun ρ4 z4 H4 x4 hr4 r4=>?_⟩
             cases r4
             have xx:=((x1.trans hr1 x2).trans hr2 x3).trans hr3 x4
             have wt':Want X.K X.mg (RD X.K X.mg) ρ4 H4 (slOp m v l h (some ci) s4) Q:=wt.mono xx hr4
             have r:=((r1.mono x2).mono x3).mono x4
             cases r with
             | tup n e q =>
               simp only [slOp] at wt'
               split at wt'
               . rename_i hz
                 have hlen:=q.length
                 refine ⟨_,_,ci,rfl,e,rfl,hz.1,by rw [←hlen,← line_eq]; exact hz.2,?_⟩
                 rw [←hlen]
                 exact gets_tup hr4 (q.pickV _ _ _) wt'
               . exact wt'.elim
             | _=>exact wt'.elim
         | exc _ _ _=>exact pe_stuck (fun _ _ e=>by cases e)
         | stuck=>exact pe_stuck (fun _ _ e=>by cases e)
     | exc _ _ _=>exact pe_stuck (fun _ _ e=>by cases e)
     | stuck=>exact pe_stuck (fun _ _ e=>by cases e)
   | exc _ _ _=>exact pe_stuck (fun _ _ e=>by cases e)
   | stuck=>exact pe_stuck (fun _ _ e=>by cases e)
 | exc _ _ _=>exact pe_stuck (fun _ _ e=>by cases e)
 | stuck=>exact pe_stuck (fun _ _ e=>by cases e)
noncomputable def Mf.nm:Mf→Str
 | .count=>"count" | .append=>"append" | .extend=>"extend" | .pop=>"pop" | .index=>"index"
theorem je_meth1 {f:Mf} {o:Out Val} {f2:Sto→Out Val} {apos cpos:Pos} (hs:noSuper a=true) (hp:plain b=true) (hline:(apos.endLine == cpos.line)=true) (h1:L2.PE X a (tV X.K X.mg env s o)) (h2:∀ s1,L2.PE X b (tV X.K X.mg env s1 (f2 s1))) :
   L2.PE X (.Call (.Attribute a f.nm apos) [b] [] cpos) (tV X.K X.mg env s (o.bind fun x s1=>((f2 s1).bind fun v s2=>(Out.ok [v] s2:Out (List Val))).bind fun vs s2=>meth f x vs s2)):=by
 cases o with
 | ok v s1 =>
   have h2':=h2 s1
   show L2.PE X _ (tV X.K X.mg env s (((f2 s1).bind fun v s2=>(Out.ok [v] s2:Out (List Val))).bind fun vs s2=>meth f v vs s2))
   cases hb:f2 s1 with
   | ok w s2 =>
     rw [hb] at h2'
     show L2.PE X _ (tV X.K X.mg env s (meth f v [w] s2))
     cases f with
     | count =>
       by_cases hv:∃ vs,v=.tup vs
       . obtain ⟨vs,rfl⟩:=hv
         refine pe_imp (L2.pe_countT h1 h2' (base_of hs) (plain_star hp) hline) fun σ H Q ⟨ρ,hr,er,wt⟩=>⟨ρ,hr,er,fun ρ1 x H1 x1 hr1 r1=>?_⟩
         cases r1 with
         | tup n e q =>
           refine ⟨⟨_,_,rfl,e⟩,ρ1,hr1,er.mono x1,fun ρ2 y H2 x2 hr2 r2=>?_⟩
           have wt':Want X.K X.mg (RD X.K X.mg) ρ2 H2 (meth .count (.tup vs) [w] s2) Q:=wt.mono (x1.trans hr1 x2) hr2
           simp only [meth] at wt'
           split at wt'
           . rename_i hf
             rw [Bool.and_eq_true] at hf
             have q2:=q.mono x2
             refine ⟨_,_,y,rfl,rfl,L2.SqT.of (x2.keep _ _ e n.1),r2.flat hf.1,q2.flat hf.2,?_⟩
             rw [RDs.countP r2 hf.1 q2 hf.2]
             exact want_ok hr2 (.int _) wt'
           . exact wt'.elim
       . refine pe_imp (L2.pe_countL h1 h2' (base_of hs) (plain_star hp) hline) fun σ H Q ⟨ρ,hr,er,wt⟩=>⟨ρ,hr,er,fun ρ1 x H1 x1 hr1 r1=>?_⟩
         have wt':Want X.K X.mg (RD X.K X.mg) ρ1 H1 (meth .count v [w] s2) Q:=wt.mono x1 hr1
         have em:meth .count v [w] s2=(match lstOf s2 v with | some vs=>if M.flat w && vs.all M.flat then .ok (.int (vs.countP fun z=>eqF z w:Nat)) s2 else .stuck | Option.none=>.stuck):=by
           cases v with
           | tup vs=>exact absurd ⟨vs,rfl⟩ hv
           | _=>rfl
         rw [em] at wt'
         cases hl:lstOf s2 v with
         | none=>rw [hl] at wt'; exact wt'.elim
         | some vs =>
           rw [hl] at wt'
           -- the receiver is a list already ahead of the argument
           have ty:L2.tyV X.K "list" x H1:=by
             cases r1 with
             | lst n e q=>exact .inl ⟨rfl,_,.of e⟩
             | ref e =>
               obtain ⟨xs,q⟩:=hr1.trk (List.mem_of_getElem? e)
               exact .inl ⟨rfl,_,.of q⟩
             | _=>cases hl
           refine ⟨ty,ρ1,hr1,er.mono x1,fun ρ2 y H2 x2 hr2 r2=>?_⟩
           obtain ⟨p,xs,rfl,hq,q⟩:=lst_at hr2 (r1.mono x2) hl
           have wt2:=wt'.mono x2 hr2
           simp only at wt2
           split at wt2
           . rename_i hf
             rw [Bool.and_eq_true] at hf
             refine ⟨_,_,y,rfl,rfl,L2.SqL.of hq,r2.flat hf.1,q.flat hf.2,?_⟩
             rw [RDs.countP r2 hf.1 q hf.2]
             exact want_ok hr2 (.int _) wt2
           . exact wt2.elim
     | append =>
       cases v with
       | ref i =>
         refine pe_imp (L2.pe_append (es:=[]) h1 h2' (base_of hs) (plain_star hp) hline) fun σ H Q ⟨ρ,hr,er,wt⟩=>⟨ρ,hr,er,fun ρ1 x H1 x1 hr1 r1=>?_⟩
         cases r1 with
         | ref e =>
           obtain ⟨xs,q⟩:=hr1.trk (List.mem_of_getElem? e)
           refine ⟨.inl ⟨rfl,_,.of q⟩,ρ1,hr1,er.mono x1,fun ρ2 y H2 x2 hr2 r2=>?_⟩
           have wt':Want X.K X.mg (RD X.K X.mg) ρ2 H2 (meth .append (.ref i) [w] s2) Q:=wt.mono (x1.trans hr1 x2) hr2
           simp only [meth] at wt'
           split at wt'
           . rename_i vs hv
             split at wt'
             . rename_i hz
               obtain ⟨b',ys,e1,e2,q2⟩:=hr2.obj i _ hv
               have e':=x2.get e
               rw [e'] at e1; cases e1
               refine ⟨_,ys,y,rfl,rfl,e2,by rw [←q2.length,← line_eq]; exact hz,?_⟩
               exact wt' _ _ _ (Ext.write hr2 e' _) (hr2.write e' (q2.append (.cons r2 .nil))) .none
             . exact wt'.elim
           . exact wt'.elim
       | _=>exact pe_stuck (fun _ _ e=>by cases e)
     | extend =>
       cases v with
       | ref i =>
         have hs1:starEach [b] X.env=(false,eval b X.env) :: starEach [] X.env:=L2.star_cons (plain_star hp)
         have rule:L2.PE X (.Call (.Attribute a "extend" apos) [b] [] cpos) (L2.tBM X.K "list" L2.rExtend _ (L2.tCons _ L2.tNil)):=L2.pe_bm PySem.F.plainAttrs_list PySem.F.slot_list_extend PySem.F.type_list_extend L2.mt_extend h1 (L2.pac h2' L2.pa_nil (plain_star hp)) (base_of hs) (by rw [hs1]; rfl) hline hs1 rfl
         refine pe_imp rule fun σ H Q ⟨ρ,hr,er,wt⟩=>⟨ρ,hr,er,fun ρ1 x H1 x1 hr1 r1=>?_⟩
         cases r1 with
         | ref e =>
           obtain ⟨xs,q⟩:=hr1.trk (List.mem_of_getElem? e)
           refine ⟨.inl ⟨rfl,_,.of q⟩,ρ1,hr1,er.mono x1,fun ρ2 y H2 x2 hr2 r2=>?_⟩
           have wt':Want X.K X.mg (RD X.K X.mg) ρ2 H2 (meth .extend (.ref i) [w] s2) Q:=wt.mono (x1.trans hr1 x2) hr2
           simp only [meth] at wt'
           split at wt'
           . rename_i vs ws hv hw
             split at wt'
             . rename_i hz
               obtain ⟨b',ys,e1,e2,q2⟩:=hr2.obj i _ hv
               obtain ⟨p,zs,rfl,hq,q3⟩:=lst_at hr2 r2 hw
               have e':=x2.get e
               rw [e'] at e1; cases e1
               refine ⟨_,_,ys,zs,rfl,rfl,e2,hq,by rw [←q2.length,← q3.length,← line_eq]; exact hz,?_⟩
               exact wt' _ _ _ (Ext.write hr2 e' _) (hr2.write e' (q2.append q3)) .none
             . exact wt'.elim
           . exact wt'.elim
       | _=>exact pe_stuck (fun _ _ e=>by cases e)
     | pop=>exact pe_stuck (fun _ _ e=>by cases e)
     | index=>exact pe_stuck (fun _ _ e=>by cases e)
   | exc _ _ _=>exact pe_stuck (fun _ _ e=>by cases e)
   | stuck=>exact pe_stuck (fun _ _ e=>by cases e)
 | exc _ _ _=>exact pe_stuck (fun _ _ e=>by cases e)
 | stuck=>exact pe_stuck (fun _ _ e=>by cases e)
end
noncomputable def spN (T:Tbl) (K:KF) (mg:Str→Option Value) (n:Nat) (f:Str) (ver:Nat):L2.Sp:=fun vs H Q _=>∃ ρ s args,HR K mg ρ s H∧RDs K mg ρ H args vs∧Want K mg (RD K mg) ρ H (callN T n f ver args s) Q
structure Callee (T:Tbl) (n:Nat) (X:L2.Cx) (f:Str) (ver:Nat) (F:Fn):Prop where
 ex:∃ fa fd,X.mg f=some (.ref fa)∧PySem.W.keepIn X.K (.ref fa)=true∧L2.Binds X.K fd F.ps []∧L2.FnOk X.prog X.w X.K X.mg X.base L2.CX0 n fa fd F.ps (spN T X.K X.mg n f ver)
section
variable {X:L2.Cx} {env:Env} {s:Sto} {T:Tbl} {n ver:Nat} {f:Str} {F:Fn}
theorem je_call0 {p pos:Pos} (C:Callee T n X f ver F) (hr0:L2.Room n X.A) (hg:L2.Gl X f) (hd:(f == ("__debug__":Str))=false):L2.PE X (.Call (.Name f p) [] [] pos) (tV X.K X.mg env s (callN T n f ver [] s)):=by
 obtain ⟨fa,fd,hm,hk,hb,hf⟩:=C.ex
 exact pe_imp (L2.pe_call0 hf hr0 hg hm hk hb .nil L2.pass0 hd) fun σ H Q ⟨ρ,hr,er,wt⟩=>⟨ρ,s,[],hr,.nil,wt⟩
theorem je_call {es:List Expr} {o:Out (List Val)} {p pos:Pos} (C:Callee T n X f ver F) (hr0:L2.Room n X.A) (hg:L2.Gl X f) (hd:(f == ("__debug__":Str))=false) (hp:plains es=true) (hne:es≠[]) (h:L2.PA X es (tVs X.K X.mg env s o)) :
   L2.PE X (.Call (.Name f p) es [] pos) (tV X.K X.mg env s (o.bind (callN T n f ver))):=by
 obtain ⟨fa,fd,hm,hk,hb,hf⟩:=C.ex
 cases o with
 | ok vs s1 =>
   cases es with
   | nil=>exact absurd rfl hne
   | cons e es =>
     rw [plains,Bool.and_eq_true] at hp
     refine pe_imp (L2.pe_call hf hr0 hg hm hk hb .nil L2.pass0 h hd (L2.star_cons (plain_star hp.1)) (plains_any hp.2)) fun σ H Q ⟨ρ,hr,er,wt⟩=>⟨ρ,hr,er,fun ρ1 xs H1 x1 hr1 r1=>?_⟩
     show spN T X.K X.mg n f ver (xs++[]) H1 Q L2.E0
     rw [List.append_nil]
     exact ⟨ρ1,s1,vs,hr1,r1,wt.mono x1 hr1⟩
 | exc _ _ _=>exact pe_stuck (fun _ _ e=>by cases e)
 | stuck=>exact pe_stuck (fun _ _ e=>by cases e)
end
end M
end
section
namespace M
open PySem
mutual
theorem beq_eq:∀ {a b:Val},a.beq b=true→a=b
 | .none,b,h=>by cases b <;> first | rfl | cases h
 | .bool x,b,h=>by cases b with | bool y=>simp only [Val.beq,beq_iff_eq] at h; rw [h] | _=>cases h
 | .int x,b,h=>by cases b with | int y=>simp only [Val.beq,beq_iff_eq] at h; rw [h] | _=>cases h
 | .str x,b,h=>by cases b with | str y=>simp only [Val.beq,beq_iff_eq] at h; rw [h] | _=>cases h
 | .tup x,b,h=>by cases b with | tup y=>simp only [Val.beq] at h; rw [beqs_eq h] | _=>cases h
 | .lst x,b,h=>by cases b with | lst y=>simp only [Val.beq] at h; rw [beqs_eq h] | _=>cases h
 | .dct0,b,h=>by cases b <;> first | rfl | cases h
 | .ctup x,b,h=>by cases b with | ctup y=>simp only [Val.beq,beq_iff_eq] at h; rw [h] | _=>cases h
 | .scr x,b,h=>by cases b with | scr y=>simp only [Val.beq,beq_iff_eq] at h; rw [h] | _=>cases h
 | .ref x,b,h=>by cases b with | ref y=>simp only [Val.beq,beq_iff_eq] at h; rw [h] | _=>cases h
 | .fn x,b,h=>by cases b with | fn y=>simp only [Val.beq,beq_iff_eq] at h; rw [h] | _=>cases h
 | .ty x,b,h=>by cases b with | ty y=>simp only [Val.beq,beq_iff_eq] at h; rw [h] | _=>cases h
theorem beqs_eq:∀ {a b:List Val},beqs a b=true→a=b
 | [],[],_=>rfl
 | [],_ :: _,h=>by cases h
 | _ :: _,[],h=>by cases h
 | x :: xs,y :: ys,h=>by
   rw [beqs,Bool.and_eq_true] at h
   rw [beq_eq h.1,beqs_eq h.2]
end
section
variable {K:KF} {mg:Str→Option Value}
theorem Mv.refl {ρ:Own} {H:L2.Hp}:Mv ρ H ρ H:=⟨fun a o e n=>⟨e,n⟩,fun i a e=>e⟩
theorem Mv.trans {ρ ρ1 ρ2:Own} {H H1 H2:L2.Hp} (x:Mv ρ H ρ1 H1) (y:Mv ρ1 H1 ρ2 H2):Mv ρ H ρ2 H2:=
 ⟨fun a o e n=>y.keep a o (x.keep a o e n).1 (x.keep a o e n).2,fun i a e=>y.get i a (x.get i a e)⟩
structure Walk (K:KF) (mg:Str→Option Value) (ρ:Own) (H:L2.Hp) (r:Src) (J:L2.It):Prop where
 len:r.xs.length≤LINE
 go:∀ (ρ2:Own) (H2:L2.Hp) (s2:Sto) (i:Nat) (v:Val),Mv ρ H ρ2 H2→HR K mg ρ2 s2 H2→r.ok s2=true→r.xs[i]?=some v→J.go i H2∧∀ x H3,J.yld i H2 x H3→(H3=H2 ∨ ∃ p o,H2 p=none∧H3=L2.upd H2 p o)∧RD K mg ρ2 H3 v x
 stop:∀ (ρ2:Own) (H2:L2.Hp) (s2:Sto) (i:Nat),Mv ρ H ρ2 H2→HR K mg ρ2 s2 H2→r.ok s2=true→i=r.xs.length→J.stop i H2
theorem Walk.mv {ρ ρ1:Own} {H H1:L2.Hp} {r:Src} {J:L2.It} (w:Walk K mg ρ H r J) (x:Mv ρ H ρ1 H1):Walk K mg ρ1 H1 r J:=
 ⟨w.len,fun ρ2 H2 s2 i v y=>w.go ρ2 H2 s2 i v (x.trans y),fun ρ2 H2 s2 i y=>w.stop ρ2 H2 s2 i (x.trans y)⟩
noncomputable def Sized (H:L2.Hp):Prop:=∀ a xs,(H a=some (.tup xs) ∨ H a=some (.lst xs))→xs.length≤sizeLine
theorem pi_sized {X:L2.Cx} {tg it:Expr} {wi:L2.TI} (h:L2.PI X tg it wi):L2.PI X tg it (fun σ H R=>wi σ H fun J H1=>Sized H1→R J H1):=fun pins s σ H R I q =>
 L2.thn (h pins s σ H _ I q) fun v s1 h1=>L2.thn h1 fun itv s2 ⟨i,fp,tn,J,H',e,I',T,t0,f,r⟩=>⟨i,fp,tn,J,H',e,I',T,t0,f,r fun a xs hx=>by
   rcases hx with hx | hx
   . obtain ⟨z,_⟩:=(show L2.ObjOk X.prog X.w H' s2.heap a (.tup xs) from I'.hok a _ hx); exact z
   . obtain ⟨z,_⟩:=(show L2.ObjOk X.prog X.w H' s2.heap a (.lst xs) from I'.hok a _ hx); exact z⟩
theorem walk_tup {ρ:Own} {H:L2.Hp} {a:Addr} {vs:List Val} {xs:List L2.V} (hz:vs.length≤LINE) (n:ρ.no a) (e:H a=some (.tup xs)) (q:RDs K mg ρ H vs xs):Walk K mg ρ H ⟨vs,none⟩ (L2.Itt K a) where
 len:=hz
 go:=fun ρ2 H2 s2 i v x hr _ hv=>by
   have e2:=(x.keep a _ e n).1
   have q2:=RDs.mv x q
   obtain ⟨y,h1,h2⟩:=q2.get hv
   refine ⟨⟨xs,y,.of e2,h1⟩,fun z H3 ⟨e3,h3⟩=>⟨.inl e3,?_⟩⟩
   subst e3
   have:=h3 xs (.of e2)
   rw [h1] at this; cases this
   exact h2
 stop:=fun ρ2 H2 s2 i x hr _ hi=>⟨xs,.of (x.keep a _ e n).1,by rw [←q.length]; exact Nat.le_of_eq hi.symm⟩
theorem walk_lst {ρ:Own} {H:L2.Hp} {a:Addr} {vs:List Val} {xs:List L2.V} (hz:vs.length≤LINE) (n:ρ.no a) (e:H a=some (.lst xs)) (q:RDs K mg ρ H vs xs):Walk K mg ρ H ⟨vs,none⟩ (L2.Itl K a) where
 len:=hz
 go:=fun ρ2 H2 s2 i v x hr _ hv=>by
   have e2:=(x.keep a _ e n).1
   have q2:=RDs.mv x q
   obtain ⟨y,h1,h2⟩:=q2.get hv
   refine ⟨⟨xs,y,.of e2,h1⟩,fun z H3 ⟨e3,h3⟩=>⟨.inl e3,?_⟩⟩
   subst e3
   have:=h3 xs (.of e2)
   rw [h1] at this; cases this
   exact h2
 stop:=fun ρ2 H2 s2 i x hr _ hi=>⟨xs,.of (x.keep a _ e n).1,by rw [←q.length]; exact Nat.le_of_eq hi.symm⟩
theorem walk_ctup {ρ:Own} {H:L2.Hp} {a:Addr} {ns:List Int} (k:KT K a (ns.map L2.V.int)):Walk K mg ρ H ⟨ns.map .int,none⟩ (L2.Itt K a) where
 len:=by
   obtain ⟨o,its,n,_,_,_,h4,h5⟩:=k
   have:=h5.length
   simp only [List.length_map,Array.length_toList] at this
   show (ns.map Val.int).length≤_
   rw [List.length_map,line_eq,this]; exact h4
 go:=fun ρ2 H2 s2 i v x hr _ hv=>by
   obtain ⟨y,h1,h2⟩:=(RDs.ints (K:=K) (mg:=mg) (ρ:=ρ2) (H:=H2) ns).get hv
   refine ⟨⟨_,y,k.sqt,h1⟩,fun z H3 ⟨e3,h3⟩=>⟨.inl e3,?_⟩⟩
   subst e3
   have:=h3 _ k.sqt
   rw [h1] at this; cases this
   exact h2
 stop:=fun ρ2 H2 s2 i x hr _ hi=>⟨_,k.sqt,by rw [List.length_map]; rw [hi]; simp⟩
theorem walk_ref {ρ:Own} {H:L2.Hp} {i0:Nat} {a:Addr} {vs:List Val} (hz:vs.length≤LINE) (e:ρ.o[i0]?=some a):Walk K mg ρ H ⟨vs,some i0⟩ (L2.Itl K a) where
 len:=hz
 go:=fun ρ2 H2 s2 i v x hr ho hv=>by
   simp only [Src.ok] at ho
   split at ho
   . rename_i ws hw
     cases beqs_eq ho
     obtain ⟨b,xs,e1,e2,q⟩:=hr.obj i0 _ hw
     rw [x.get _ _ e] at e1; cases e1
     obtain ⟨y,h1,h2⟩:=q.get hv
     refine ⟨⟨xs,y,.of e2,h1⟩,fun z H3 ⟨e3,h3⟩=>⟨.inl e3,?_⟩⟩
     subst e3
     have:=h3 xs (.of e2)
     rw [h1] at this; cases this
     exact h2
   . cases ho
 stop:=fun ρ2 H2 s2 i x hr ho hi=>by
   simp only [Src.ok] at ho
   split at ho
   . rename_i ws hw
     cases beqs_eq ho
     obtain ⟨b,xs,e1,e2,q⟩:=hr.obj i0 _ hw
     rw [x.get _ _ e] at e1; cases e1
     exact ⟨xs,.of e2,by rw [←q.length]; exact Nat.le_of_eq hi.symm⟩
   . cases ho
theorem rngV_get {lo:Int} {n i:Nat}:(rngV lo n)[i]?=if i < n then some (.int (lo + i)) else none:=by
 unfold rngV
 rw [List.getElem?_map]
 by_cases h:i < n
 . rw [if_pos h,List.getElem?_range h]; rfl
 . rw [if_neg h,List.getElem?_eq_none (by rw [List.length_range]; omega)]; rfl
theorem rngV_len {lo:Int} {n:Nat}:(rngV lo n).length=n:=by unfold rngV; rw [List.length_map,List.length_range]
theorem walk_rng {ρ:Own} {H:L2.Hp} {lo:Int} {n:Nat} (hz:n≤LINE):Walk K mg ρ H ⟨rngV lo n,none⟩ (L2.Itr lo n) where
 len:=by show (rngV lo n).length≤_; rw [rngV_len]; exact hz
 go:=fun ρ2 H2 s2 i v x hr _ hv=>by
   have hv':(rngV lo n)[i]?=some v:=hv
   rw [rngV_get] at hv'
   split at hv'
   . rename_i hi
     cases hv'
     refine ⟨hi,fun z H3 ⟨e3,h3⟩=>⟨.inl e3,?_⟩⟩
     subst h3
     exact .int _
   . cases hv'
 stop:=fun ρ2 H2 s2 i x hr _ hi=>by
   have:i=(rngV lo n).length:=hi
   rw [rngV_len] at this; exact Nat.le_of_eq this.symm
theorem enumV_get:∀ {vs:List Val} {n i:Nat},(enumV n vs)[i]?=(vs[i]?).map fun v=>.tup [.int ((n + i:Nat):Int),v]
 | [],_,_=>rfl
 | v :: vs,n,0=>rfl
 | v :: vs,n,i + 1=>by
   show (enumV (n + 1) vs)[i]?=(vs[i]?).map _
   rw [enumV_get]
   rw [show n + 1 + i=n + (i + 1) by omega]
theorem enumV_len:∀ {vs:List Val} {n:Nat},(enumV n vs).length=vs.length
 | [],_=>rfl
 | v :: vs,n=>by show (enumV (n + 1) vs).length + 1=_; rw [enumV_len]; rfl
theorem walk_enum {ρ:Own} {H:L2.Hp} {a:Addr} {vs:List Val} {xs:List L2.V} (hz:vs.length≤LINE) (n:ρ.no a) (e:H a=some (.tup xs)) (q:RDs K mg ρ H vs xs):Walk K mg ρ H ⟨enumV 0 vs,none⟩ (L2.Ite K a) where
 len:=by show (enumV 0 vs).length≤_; rw [enumV_len]; exact hz
 go:=fun ρ2 H2 s2 i v x hr _ hv=>by
   have e2:=(x.keep a _ e n).1
   have q2:=RDs.mv x q
   have hv':(enumV 0 vs)[i]?=some v:=hv
   rw [enumV_get,Option.map_eq_some_iff] at hv'
   obtain ⟨w,h0,rfl⟩:=hv'
   obtain ⟨y,h1,h2⟩:=q2.get h0
   refine ⟨⟨xs,y,.of e2,h1⟩,fun z H3 ⟨t,y',ht,e3,h3,e4⟩=>⟨.inr ⟨t,_,ht,e4⟩,?_⟩⟩
   subst e3 e4
   have:=h3 xs (.of e2)
   rw [h1] at this; cases this
   have X:=Ext.new hr ht (.tup [.int ((i:Nat):Int),y])
   refine .tup (hr.new ht) L2.upd_same (.cons ?_ (.cons (h2.mono X) .nil))
   rw [Nat.zero_add]; exact .int _
 stop:=fun ρ2 H2 s2 i x hr _ hi=>⟨xs,.of (x.keep a _ e n).1,by rw [←q.length,hi]; exact enumV_len.symm⟩
theorem walk_enumL {ρ:Own} {H:L2.Hp} {a:Addr} {vs:List Val} {xs:List L2.V} (hz:vs.length≤LINE) (n:ρ.no a) (e:H a=some (.lst xs)) (q:RDs K mg ρ H vs xs):Walk K mg ρ H ⟨enumV 0 vs,none⟩ (L2.IteL K a) where
 len:=by show (enumV 0 vs).length≤_; rw [enumV_len]; exact hz
 go:=fun ρ2 H2 s2 i v x hr _ hv=>by
   have e2:=(x.keep a _ e n).1
   have q2:=RDs.mv x q
   have hv':(enumV 0 vs)[i]?=some v:=hv
   rw [enumV_get,Option.map_eq_some_iff] at hv'
   obtain ⟨w,h0,rfl⟩:=hv'
   obtain ⟨y,h1,h2⟩:=q2.get h0
   refine ⟨⟨xs,y,.of e2,h1⟩,fun z H3 ⟨t,y',ht,e3,h3,e4⟩=>⟨.inr ⟨t,_,ht,e4⟩,?_⟩⟩
   subst e3 e4
   have:=h3 xs (.of e2)
   rw [h1] at this; cases this
   have X:=Ext.new hr ht (.tup [.int ((i:Nat):Int),y])
   refine .tup (hr.new ht) L2.upd_same (.cons ?_ (.cons (h2.mono X) .nil))
   rw [Nat.zero_add]; exact .int _
 stop:=fun ρ2 H2 s2 i x hr _ hi=>⟨xs,.of (x.keep a _ e n).1,by rw [←q.length,hi]; exact enumV_len.symm⟩
noncomputable def tI (env:Env) (s:Sto) (o:Out Src):L2.TI:=fun σ H R=>∃ ρ,HR K mg ρ s H∧ER K mg ρ H env σ∧(match o with
 | .ok r s'=>∀ ρ' H' J,Ext ρ H ρ' H'→HR K mg ρ' s' H'→Walk K mg ρ' H' r J→R J H'
 | _=>False)
end
section
variable {X:L2.Cx} {env:Env} {s:Sto} {a b tg:Expr}
theorem pi_imp {it:Expr} {t t':L2.TI} (h:L2.PI X tg it t) (i:∀ σ H R,t' σ H R→t σ H R):L2.PI X tg it t':=fun pins s σ H R I q=>h pins s σ H R I (i σ H R q)
theorem pi_stuck {it:Expr} {o:Out Src} (h:∀ v s',o≠.ok v s'):L2.PI X tg it (tI (K:=X.K) (mg:=X.mg) env s o):=fun pins sh σ H R I q=>by
 obtain ⟨ρ,_,_,w⟩:=q
 cases o with
 | ok v s'=>exact (h v s' rfl).elim
 | exc _ _ _=>exact w.elim
 | stuck=>exact w.elim
theorem Sized.of {K:KF} {mg:Str→Option Value} {ρ:Own} {H:L2.Hp} (z:Sized H) {a:Addr} {vs:List Val} {xs:List L2.V} (q:RDs K mg ρ H vs xs) (h:H a=some (.tup xs) ∨ H a=some (.lst xs)):vs.length≤LINE:=by
 rw [q.length,line_eq]; exact z a xs h
theorem ji_val {o:Out Val} (h:L2.PE X a (tV X.K X.mg env s o)):L2.PI X tg a (tI (K:=X.K) (mg:=X.mg) env s (o.bind fun v s1=>match srcOf s1 v with | some r=>.ok r s1 | Option.none=>.stuck)):=by
 cases o with
 | ok v s1 =>
   show L2.PI X tg a (tI (K:=X.K) (mg:=X.mg) env s (match srcOf s1 v with | some r=>.ok r s1 | Option.none=>.stuck))
   cases v with
   | tup vs =>
     refine pi_imp (pi_sized (L2.pi_tup h)) fun σ H R ⟨ρ,hr,er,w⟩=>⟨ρ,hr,er,fun ρ1 x H1 x1 hr1 r1=>?_⟩
     cases r1 with
     | tup n e q=>exact ⟨_,rfl,⟨_,.of e⟩,fun z=>w ρ1 H1 _ x1 hr1 (walk_tup (z.of q (.inl e)) n e q)⟩
   | lst vs =>
     refine pi_imp (pi_sized (L2.pi_list h)) fun σ H R ⟨ρ,hr,er,w⟩=>⟨ρ,hr,er,fun ρ1 x H1 x1 hr1 r1=>?_⟩
     cases r1 with
     | lst n e q=>exact ⟨_,rfl,⟨_,.of e⟩,fun z=>w ρ1 H1 _ x1 hr1 (walk_lst (z.of q (.inr e)) n e q)⟩
   | ctup ns =>
     refine pi_imp (L2.pi_tup h) fun σ H R ⟨ρ,hr,er,w⟩=>⟨ρ,hr,er,fun ρ1 x H1 x1 hr1 r1=>?_⟩
     cases r1 with
     | ctup k=>exact ⟨_,rfl,⟨_,k.sqt⟩,w ρ1 H1 _ x1 hr1 (walk_ctup k)⟩
   | ref i =>
     simp only [srcOf]
     cases hs:s1[i]? with
     | none=>exact pi_stuck (fun _ _ e=>by cases e)
     | some cl =>
       cases cl with
       | lst vs =>
         refine pi_imp (pi_sized (L2.pi_list h)) fun σ H R ⟨ρ,hr,er,w⟩=>⟨ρ,hr,er,fun ρ1 x H1 x1 hr1 r1=>?_⟩
         cases r1 with
         | ref e =>
           obtain ⟨b',xs,e1,e2,q⟩:=hr1.obj i _ hs
           rw [e] at e1; cases e1
           exact ⟨_,rfl,⟨_,.of e2⟩,fun z=>w ρ1 H1 _ x1 hr1 (walk_ref (z.of q (.inr e2)) e)⟩
   | _=>exact pi_stuck (fun _ _ e=>by cases e)
 | exc _ _ _=>exact pi_stuck (fun _ _ e=>by cases e)
 | stuck=>exact pi_stuck (fun _ _ e=>by cases e)
theorem ji_range1 {o:Out Val} {p pos:Pos} (hp:plain a=true) (hg:L2.Gl X "range") (hm:X.mg "range"=none) (h:L2.PE X a (tV X.K X.mg env s o)) :
   L2.PI X tg (.Call (.Name "range" p) [a] [] pos) (tI (K:=X.K) (mg:=X.mg) env s (o.bind fun x s1=>match x with
     | .int j=>if -(2 ^ 62)≤j∧j≤LINE then .ok ⟨rngV 0 j.toNat,Option.none⟩ s1 else .stuck
     | _=>.stuck)):=by
 cases o with
 | ok v s1 =>
   have st:starEach [a] X.env=[(false,eval a X.env)]:=L2.star_cons (plain_star hp)
   refine pi_imp (L2.pi_range1 hg hm (L2.pac h L2.pa_nil (plain_star hp)) st) fun σ H R ⟨ρ,hr,er,w⟩=>⟨ρ,hr,er,fun ρ1 x H1 x1 hr1 r1=>?_⟩
   cases r1 with
   | int j =>
     simp only [bind_ok] at w
     by_cases hz:-(2 ^ 62)≤j∧j≤LINE
     . rw [if_pos hz] at w
       have hl:(LINE:Int) < 2 ^ 62:=by decide
       exact ⟨j,rfl,hz.1,by omega,w ρ1 H1 _ x1 hr1 (walk_rng (by omega))⟩
     . rw [if_neg hz] at w; exact w.elim
   | _=>exact w.elim
 | exc _ _ _=>exact pi_stuck (fun _ _ e=>by cases e)
 | stuck=>exact pi_stuck (fun _ _ e=>by cases e)
theorem ji_range2 {o:Out Val} {f2:Sto→Out Val} {p pos:Pos} (hp:plain a=true) (hp2:plain b=true) (hg:L2.Gl X "range") (hm:X.mg "range"=none) (h:L2.PE X a (tV X.K X.mg env s o)) (h2:∀ s1,L2.PE X b (tV X.K X.mg env s1 (f2 s1))) :
   L2.PI X tg (.Call (.Name "range" p) [a,b] [] pos) (tI (K:=X.K) (mg:=X.mg) env s (o.bind fun x s1=>(f2 s1).bind fun y s2=>match x,y with
     | .int i,.int j=>if -(2 ^ 62)≤i∧i < 2 ^ 62∧-(2 ^ 62)≤j∧j < 2 ^ 62∧j - i≤LINE then .ok ⟨rngV i (j - i).toNat,Option.none⟩ s2 else .stuck
     | _,_=>.stuck)):=by
 cases o with
 | ok v s1 =>
   have h2':=h2 s1
   simp only [bind_ok]
   cases hb:f2 s1 with
   | ok w s2 =>
     rw [hb] at h2'
     have st2:starEach [b] X.env=[(false,eval b X.env)]:=L2.star_cons (plain_star hp2)
     have st:starEach [a,b] X.env=[(false,eval a X.env),(false,eval b X.env)]:=by rw [L2.star_cons (plain_star hp),st2]
     refine pi_imp (L2.pi_range2 hg hm (L2.pac h (L2.pac h2' L2.pa_nil (plain_star hp2)) (plain_star hp)) st st2) fun σ H R ⟨ρ,hr,er,wt⟩=>⟨ρ,hr,er,fun ρ1 x H1 x1 hr1 r1=>⟨ρ1,hr1,er.mono x1,fun ρ2 y H2 x2 hr2 r2=>?_⟩⟩
     simp only [bind_ok] at wt
     cases r1 with
     | int i =>
       cases r2 with
       | int j =>
         simp only at wt
         by_cases hz:-(2 ^ 62)≤i∧i < 2 ^ 62∧-(2 ^ 62)≤j∧j < 2 ^ 62∧j - i≤LINE
         . rw [if_pos hz] at wt
           exact ⟨i,j,rfl,⟨hz.1,hz.2.1,hz.2.2.1,hz.2.2.2.1⟩,wt ρ2 H2 _ (x1.trans hr1 x2) hr2 (walk_rng (by omega))⟩
         . rw [if_neg hz] at wt; exact wt.elim
       | _=>exact wt.elim
     | _=>exact wt.elim
   | exc _ _ _=>exact pi_stuck (fun _ _ e=>by cases e)
   | stuck=>exact pi_stuck (fun _ _ e=>by cases e)
 | exc _ _ _=>exact pi_stuck (fun _ _ e=>by cases e)
 | stuck=>exact pi_stuck (fun _ _ e=>by cases e)
theorem ji_enum {es:List Expr} {k:Nat} {o:Out Val} {p pos tp:Pos} (hp:plain a=true) (hg:L2.Gl X "enumerate") (hm:X.mg "enumerate"=none) (h:L2.PE X a (tV X.K X.mg env s o)) :
   L2.PI X (.Tuple es k tp) (.Call (.Name "enumerate" p) [a] [] pos) (tI (K:=X.K) (mg:=X.mg) env s (o.bind fun v s1=>match v with
     | .tup vs=>.ok ⟨enumV 0 vs,Option.none⟩ s1
     | .lst vs=>.ok ⟨enumV 0 vs,Option.none⟩ s1
     | _=>.stuck)):=by
 cases o with
 | ok v s1 =>
   have st:starEach [a] X.env=[(false,eval a X.env)]:=L2.star_cons (plain_star hp)
   refine pi_imp (pi_sized (L2.pi_enum hg hm (L2.pac h L2.pa_nil (plain_star hp)) st)) fun σ H R ⟨ρ,hr,er,w⟩=>⟨ρ,hr,er,fun ρ1 x H1 x1 hr1 r1=>?_⟩
   cases r1 with
   | tup n e q=>exact ⟨_,rfl,.inl ⟨⟨_,.of e⟩,fun z=>w ρ1 H1 _ x1 hr1 (walk_enum (z.of q (.inl e)) n e q)⟩⟩
   | lst n e q=>exact ⟨_,rfl,.inr ⟨⟨_,.of e⟩,fun z=>w ρ1 H1 _ x1 hr1 (walk_enumL (z.of q (.inr e)) n e q)⟩⟩
   | _=>exact w.elim
 | exc _ _ _=>exact pi_stuck (fun _ _ e=>by cases e)
 | stuck=>exact pi_stuck (fun _ _ e=>by cases e)
end
end M
end
section
namespace M
open PySem
noncomputable def TgOk (K:KF) (mg:Str→Option Value) (t:Tgt) (g:L2.TG):Prop:=∀ (ρ:Own) (s:Sto) (H:L2.Hp) (v:Val) (x:L2.V) (env env':Env) (σ:L2.St) (Q:L2.St→L2.Hp→Prop),HR K mg ρ s H→RD K mg ρ H v x→ER K mg ρ H env σ→bindT t v env=some env' →
 (∀ σ',ER K mg ρ H env' σ'→Q σ' H)→g x σ H Q
theorem tg_name {K:KF} {mg:Str→Option Value} {i:Nat}:TgOk K mg (.nm i) (L2.gName i):=fun ρ s H v x env env' σ Q hr r er e q=>by
 cases e
 exact q _ (er.set i r)
noncomputable def gNames:List Nat→L2.TGs
 | []=>L2.gNil
 | i :: is=>L2.gCons (L2.gName i) (gNames is)
theorem names_set {K:KF} {mg:Str→Option Value} {ρ:Own} {H:L2.Hp} {Q:L2.St→L2.Hp→Prop}:∀ {is:List Nat} {vs:List Val} {xs:List L2.V} {env:Env} {σ:L2.St},RDs K mg ρ H vs xs→ER K mg ρ H env σ→vs.length=is.length →
   (∀ σ',ER K mg ρ H ((is.zip vs).foldl (fun e p=>e.set p.1 (some p.2)) env) σ'→Q σ' H)→gNames is xs σ H Q
 | [],[],_,env,σ,.nil,er,_,q=>⟨rfl,q σ er⟩
 | [],_ :: _,_,_,_,_,_,h,_=>by cases h
 | _ :: _,[],_,_,_,_,_,h,_=>by cases h
 | i :: is,v :: vs,x :: xs,env,σ,.cons r rs,er,h,q=>⟨x,xs,rfl,names_set rs (er.set i r) (by simpa using h) q⟩
theorem tg_names {K:KF} {mg:Str→Option Value} {is:List Nat}:TgOk K mg (.nms is) (L2.gTup K is.length (gNames is)):=fun ρ s H v x env env' σ Q hr r er e q=>by
 simp only [bindT] at e
 split at e
 . split at e
   . rename_i hl
     cases e
     cases r with
     | tup n e q2=>exact ⟨_,_,rfl,.of e,by rw [←q2.length]; exact hl,names_set q2 er hl q⟩
   . cases e
 . cases e
noncomputable def allNames (sc:Scope) (N:List Str):List Nat→List Expr→Bool
 | [],[]=>true
 | i :: is,.Name x _ :: es=>decide (N[i]?=some x) && (decide (sc.names.lookup x=some .local) || decide (sc.names.lookup x=some .cell)) && allNames sc N is es
 | _,_=>false
noncomputable def ckT (sc:Scope) (N:List Str):Tgt→Expr→Bool
 | .nm i,.Name x _=>decide (N[i]?=some x) && (decide (sc.names.lookup x=some .local) || decide (sc.names.lookup x=some .cell))
 | .nms is,.Tuple es _ _=>allNames sc N is es && decide (es≠[])
 | _,_=>false
section
variable {X:L2.Cx}
structure Scp (sc:Scope) (N:List Str) (X:L2.Cx):Prop where
 hN:X.N=N
 nd:N.Nodup
 vis:∀ x,sc.names.lookup x=some .local ∨ sc.names.lookup x=some .cell ∨ sc.names.lookup x=some .free→L2.Vis X.env.scope x
 loc:∀ x,sc.names.lookup x=some .local ∨ sc.names.lookup x=some .cell→L2.Loc X.env.scope x∧(X.fn x=true ∨ X.env.scope.names.lookup x=some .local)
 gl:∀ x,sc.names.lookup x=some .globalImplicit→L2.Gl X x
 cf:∀ x,sc.names.lookup x=some .cell ∨ sc.names.lookup x=some .free→X.env.kindOf x=some .cell ∨ X.env.kindOf x=some .free
theorem pg_nm {sc:Scope} {N:List Str} (S:Scp sc N X) {i:Nat} {x:Str} {p:Pos} (h1:N[i]?=some x) (h2:sc.names.lookup x=some .local ∨ sc.names.lookup x=some .cell):L2.PG X (.Name x p) (L2.gName i):=by
 obtain ⟨a,b⟩:=S.loc x h2
 exact L2.pg_name (by rw [S.hN]; exact S.nd) (by rw [S.hN]; exact h1) a b
theorem pgs_names {sc:Scope} {N:List Str} (S:Scp sc N X):∀ {is:List Nat} {es:List Expr},allNames sc N is es=true→L2.PGs X es (gNames is)∧(assignEach es X.env).length=is.length∧(assignEach es X.env).findIdx? (·.1)=none
 | [],[],_=>⟨L2.pgs_nil,rfl,rfl⟩
 | [],_ :: _,h=>by cases h
 | _ :: _,[],h=>by cases h
 | i :: is,e :: es,h=>by
   cases e with
   | Name x p =>
     simp only [allNames,Bool.and_eq_true,Bool.or_eq_true,decide_eq_true_eq] at h
     obtain ⟨a,b,c⟩:=pgs_names S h.2
     refine ⟨L2.pgs_cons (pg_nm S h.1.1 h.1.2) a,?_,?_⟩
     . show (assignEach es X.env).length + 1=is.length + 1
       rw [b]
     . show List.findIdx? (·.1) ((false,assign (.Name x p) X.env) :: assignEach es X.env)=none
       rw [List.findIdx?_cons]
       simp only [Bool.false_eq_true,if_false]
       rw [c]; rfl
   | _=>cases h
theorem pg_of {sc:Scope} {N:List Str} (S:Scp sc N X) (hc:X.calm=true) {t:Tgt} {e:Expr} (h:ckT sc N t e=true):∃ g,L2.PG X e g∧TgOk X.K X.mg t g:=by
 cases t with
 | nm i =>
   cases e with
   | Name x p =>
     simp only [ckT,Bool.and_eq_true,Bool.or_eq_true,decide_eq_true_eq] at h
     exact ⟨_,pg_nm S h.1 h.2,tg_name⟩
   | _=>cases h
 | nms is =>
   cases e with
   | Tuple es k p =>
     simp only [ckT,Bool.and_eq_true,decide_eq_true_eq] at h
     obtain ⟨a,b,c⟩:=pgs_names S h.1
     exact ⟨_,L2.pg_tup hc a b c,tg_names⟩
   | _=>cases h
end
structure Lp (acc:Addr) (ρ:Own) (H:L2.Hp) (ρ':Own) (H':L2.Hp):Prop where
 pre:∃ new:List Addr,ρ'.o=ρ.o++new∧∀ a∈new,H a=none
 hid:ρ'.h=acc :: ρ.h
 keep:∀ (a:Addr) (o:L2.HO),H a=some o→a ∉ ρ.o→H' a=some o
section
variable {K:KF} {mg:Str→Option Value} {ρ ρ1 ρ2:Own} {H H1 H2:L2.Hp} {s s1:Sto} {acc:Addr}
noncomputable def Own.hide (ρ:Own) (acc:Addr):Own:=⟨ρ.o,acc :: ρ.h⟩
theorem hide_mv (hn:H acc=none) (o:L2.HO):Mv ρ H (ρ.hide acc) (L2.upd H acc o):=
 ⟨fun a u e n=>⟨by rw [L2.upd_ne (L2.ne_of_none e hn)]; exact e,n.1,fun hm=>by
   rcases List.mem_cons.mp hm with z | z
   . exact L2.ne_of_none e hn z
   . exact n.2 z⟩,fun i a e=>e⟩
theorem HR.hide (hr:HR K mg ρ s H) (hn:H acc=none) {xs:List L2.V}:HR K mg (ρ.hide acc) s (L2.upd H acc (.lst xs)):=by
 refine ⟨hr.len,hr.nd,fun i vs e=>?_,fun a ha=>?_⟩
 . obtain ⟨a,ys,e1,e2,q⟩:=hr.obj i vs e
   exact ⟨a,ys,e1,by rw [L2.upd_ne (L2.ne_of_none e2 hn)]; exact e2,RDs.mv (hide_mv hn _) q⟩
 . rcases List.mem_cons.mp ha with z | z
   . subst z; exact ⟨⟨xs,L2.upd_same⟩,(hr.new hn).1⟩
   . obtain ⟨⟨ys,e⟩,n⟩:=hr.hid a z
     exact ⟨⟨ys,by rw [L2.upd_ne (L2.ne_of_none e hn)]; exact e⟩,n⟩
theorem Lp.start (hn:H acc=none) (o:L2.HO):Lp acc ρ H (ρ.hide acc) (L2.upd H acc o):=
 ⟨⟨[],by simp [Own.hide],fun a ha=>by cases ha⟩,rfl,fun a u e _=>by rw [L2.upd_ne (L2.ne_of_none e hn)]; exact e⟩
theorem Lp.step (l:Lp acc ρ H ρ1 H1) (hr:HR K mg ρ1 s1 H1) (x:Ext ρ1 H1 ρ2 H2):Lp acc ρ H ρ2 H2:=by
 obtain ⟨new,e1,hn⟩:=l.pre
 obtain ⟨new2,e2,hn2⟩:=x.pre
 refine ⟨⟨new++new2,by rw [e2,e1,List.append_assoc],fun a ha=>?_⟩,x.hid.trans l.hid,fun a o e n=>x.keep a o (l.keep a o e n) ?_⟩
 . rcases List.mem_append.mp ha with ha | ha
   . exact hn a ha
   . cases q:H a with
     | none=>rfl
     | some o =>
       by_cases hm:a∈ρ.o
       . obtain ⟨xs,e⟩:=hr.trk (a:=a) (by rw [e1]; exact List.mem_append_left _ hm)
         rw [hn2 a ha] at e; cases e
       . have:=l.keep a o q hm
         rw [hn2 a ha] at this; cases this
 . rw [e1]
   intro hm
   rcases List.mem_append.mp hm with hm | hm
   . exact n hm
   . rw [hn a hm] at e; cases e
theorem Lp.emit (l:Lp acc ρ H ρ1 H1) (hn:H acc=none) (o:L2.HO):Lp acc ρ H ρ1 (L2.upd H1 acc o):=
 ⟨l.pre,l.hid,fun a u e n=>by rw [L2.upd_ne (L2.ne_of_none e hn)]; exact l.keep a u e n⟩
theorem Lp.here (l:Lp acc ρ H ρ1 H1):acc∈ρ1.h:=by rw [l.hid]; exact List.mem_cons_self
theorem emit_mv (ha:acc∈ρ1.h) (o:L2.HO):Mv ρ1 H1 ρ1 (L2.upd H1 acc o):=
 ⟨fun a u e n=>⟨by rw [L2.upd_ne (fun z=>n.2 (by rw [z]; exact ha))]; exact e,n⟩,fun i a e=>e⟩
theorem HR.emit (hr:HR K mg ρ1 s1 H1) (ha:acc∈ρ1.h) {xs:List L2.V}:HR K mg ρ1 s1 (L2.upd H1 acc (.lst xs)):=by
 have hno:=(hr.hid acc ha).2
 refine ⟨hr.len,hr.nd,fun i vs e=>?_,fun a hm=>?_⟩
 . obtain ⟨a,ys,e1,e2,q⟩:=hr.obj i vs e
   exact ⟨a,ys,e1,by rw [L2.upd_ne (fun z=>hno (by rw [←z]; exact List.mem_of_getElem? e1))]; exact e2,RDs.mv (emit_mv ha _) q⟩
 . obtain ⟨⟨ys,e⟩,n⟩:=hr.hid a hm
   by_cases z:a=acc
   . subst z; exact ⟨⟨xs,L2.upd_same⟩,n⟩
   . exact ⟨⟨ys,by rw [L2.upd_ne z]; exact e⟩,n⟩
theorem Lp.done (l:Lp acc ρ H ρ1 H1) (h0:HR K mg ρ s H) (hn:H acc=none) (hr:HR K mg ρ1 s1 H1) {vs:List Val} {ys:List L2.V} (e:H1 acc=some (.lst ys)) (q:RDs K mg ρ1 H1 vs ys) {m:Bool} {Q:L2.VK} (w:Want K mg (RD K mg) ρ H (newList m vs s1) Q):Q (.ref acc) H1:=by
 have ha:=l.here
 have hacc:=(hr.hid acc ha).2
 have hnh:=(h0.new hn).2
 cases m with
 | false =>
   have mv:Mv ρ1 H1 ⟨ρ1.o,ρ.h⟩ H1:=⟨fun a u e n=>⟨e,n.1,fun z=>n.2 (by rw [l.hid]; exact List.mem_cons_of_mem _ z)⟩,fun i a e=>e⟩
   refine w ⟨ρ1.o,ρ.h⟩ _ H1 ⟨l.pre,rfl,l.keep⟩ ⟨hr.len,hr.nd,fun i ws e=>?_,fun a hm=>?_⟩ (.lst ⟨hacc,hnh⟩ e (RDs.mv mv q))
   . obtain ⟨a,zs,e1,e2,t⟩:=hr.obj i ws e
     exact ⟨a,zs,e1,e2,RDs.mv mv t⟩
   . exact hr.hid a (by rw [l.hid]; exact List.mem_cons_of_mem _ hm)
 | true =>
   have mv:Mv ρ1 H1 ⟨ρ1.o++[acc],ρ.h⟩ H1:=by
     refine ⟨fun a u e n=>⟨e,fun hm=>?_,fun z=>n.2 (by rw [l.hid]; exact List.mem_cons_of_mem _ z)⟩,fun i a e=>?_⟩
     . rcases List.mem_append.mp hm with hm | hm
       . exact n.1 hm
       . rw [List.mem_singleton.mp hm] at n; exact n.2 ha
     . show (ρ1.o++[acc])[i]?=_
       rw [List.getElem?_append_left (List.getElem?_eq_some_iff.mp e).1]; exact e
   have rf:(ρ1.o++[acc])[s1.length]?=some acc:=by rw [←hr.len,List.getElem?_append_right (Nat.le_refl _)]; simp
   refine w ⟨ρ1.o++[acc],ρ.h⟩ _ H1 ⟨?_,rfl,l.keep⟩ ⟨?_,?_,fun i ws q'=>?_,fun a hm=>?_⟩ (.ref rf)
   . obtain ⟨new,e1,hnew⟩:=l.pre
     refine ⟨new++[acc],by show ρ1.o++[acc]=_; rw [e1,List.append_assoc],fun a hm=>?_⟩
     rcases List.mem_append.mp hm with hm | hm
     . exact hnew a hm
     . rw [List.mem_singleton.mp hm]; exact hn
   . show (ρ1.o++[acc]).length=(s1++[Cel.lst vs]).length
     rw [List.length_append,List.length_append,hr.len]; rfl
   . show (ρ1.o++[acc]).Nodup
     rw [List.nodup_append]
     exact ⟨hr.nd,by simp,fun a ha' b hb=>by rw [List.mem_singleton.mp hb]; intro z; subst z; exact hacc ha'⟩
   . by_cases hi:i < s1.length
     . rw [List.getElem?_append_left hi] at q'
       obtain ⟨a,zs,e1,e2,t⟩:=hr.obj i ws q'
       exact ⟨a,zs,mv.get i a e1,e2,RDs.mv mv t⟩
     . have hi':i=s1.length:=by
         have:=(List.getElem?_eq_some_iff.mp q').1
         rw [List.length_append] at this
         simp at this; omega
       subst hi'
       rw [List.getElem?_append_right (Nat.le_refl _)] at q'
       simp at q'
       subst q'
       exact ⟨acc,ys,rf,e,RDs.mv mv q⟩
   . obtain ⟨x,n⟩:=hr.hid a (by rw [l.hid]; exact List.mem_cons_of_mem _ hm)
     refine ⟨x,fun z=>?_⟩
     rcases List.mem_append.mp z with z | z
     . exact n z
     . rw [List.mem_singleton.mp z] at hm; exact hnh hm
end
end M
end
section
namespace M
open PySem
section
variable {K:KF} {mg:Str→Option Value}
theorem for_walk {J:L2.It} {g:L2.TG} {tb:L2.TS} {D:L2.Ends} {σ:L2.St} {H:L2.Hp} {n:Nat} (Pv:Nat→L2.St→L2.Hp→Prop) (h0:Pv 0 σ H) (hd:∀ σ H,Pv n σ H→J.stop n H∧D.nx σ H)
   (hs:∀ i σ H,i < n→Pv i σ H→J.go i H∧∀ x H',J.yld i H x H'→g x σ H' fun σ2 H2=>tb { D with nx:=Pv (i + 1),ct:=Pv (i + 1),bk:=D.nx } σ2 H2):L2.rLoop J g tb D σ H:=by
 refine ⟨fun i m σ H=>m=n - i∧i≤n∧Pv i σ H,⟨n,by simp,Nat.zero_le _,h0⟩,?_⟩
 rintro i m σ H ⟨rfl,hi,p⟩
 by_cases hlt:i < n
 . obtain ⟨a,b⟩:=hs i σ H hlt p
   exact .inr ⟨a,Pv (i + 1),fun σ' H' p'=>⟨n - (i + 1),by omega,rfl,hlt,p'⟩,b⟩
 . have e:i=n:=by omega
   subst e
   exact .inl (hd σ H p)
structure CS (K:KF) (mg:Str→Option Value) (acc:Addr) (ρ0:Own) (H0:L2.Hp) (a:List Val) (s:Sto) (env:Env) (ρ:Own) (σ:L2.St) (H:L2.Hp):Prop where
 lp:Lp acc ρ0 H0 ρ H
 hr:HR K mg ρ s H
 er:ER K mg ρ H env σ
 ac:∃ ys,H acc=some (.lst ys)∧RDs K mg ρ H a ys
noncomputable def Grows (body:Env→Sto→List Val→Out (List Val × Env)):Prop:=∀ e s a p s',body e s a=.ok p s'→a.length≤p.1.length
theorem loopC_grows {r:Src} {t:Tgt} {body:Env→Sto→List Val→Out (List Val × Env)} (hb:Grows body):∀ {xs:List Val} {env:Env} {s:Sto} {a:List Val} {p:List Val × Env} {s':Sto},loopC r t body xs env s a=.ok p s'→a.length≤p.1.length
 | [],env,s,a,p,s',h=>by
   rw [loopC] at h
   split at h
   . cases h; exact Nat.le_refl _
   . cases h
 | x :: xs,env,s,a,p,s',h=>by
   rw [loopC] at h
   split at h
   . split at h
     . cases h
     . rename_i env' he
       cases hc:body env' s a with
       | ok q s1 =>
         rw [hc] at h
         exact Nat.le_trans (hb _ _ _ _ _ hc) (loopC_grows hb h)
       | exc _ _ _=>rw [hc] at h; cases h
       | stuck=>rw [hc] at h; cases h
   . cases h
noncomputable def BodyOk (K:KF) (mg:Str→Option Value) (acc:Addr) (ρ0:Own) (H0:L2.Hp) (body:Env→Sto→List Val→Out (List Val × Env)) (tb:L2.TS):Prop:=
 ∀ (ρ:Own) (s:Sto) (H:L2.Hp) (env:Env) (σ:L2.St) (a:List Val) (p:List Val × Env) (s':Sto) (D:L2.Ends),CS K mg acc ρ0 H0 a s env ρ σ H→body env s a=.ok p s'→p.1.length≤LINE →
   (∀ ρ' H' σ',CS K mg acc ρ0 H0 p.1 s' p.2 ρ' σ' H'→Mv ρ H ρ' H'→D.nx σ' H')→tb D σ H
theorem comp_loop {acc:Addr} {ρ0:Own} {H0:L2.Hp} {r:Src} {J:L2.It} {t:Tgt} {g:L2.TG} {body:Env→Sto→List Val→Out (List Val × Env)} {tb:L2.TS} {D:L2.Ends} {ρ:Own} {s:Sto} {H:L2.Hp} {env:Env} {σ:L2.St} {a:List Val}
   {p:List Val × Env} {sf:Sto} (W:Walk K mg ρ H r J) (TG:TgOk K mg t g) (hg:Grows body) (hb:BodyOk K mg acc ρ0 H0 body tb)
   (C:CS K mg acc ρ0 H0 a s env ρ σ H) (h:loopC r t body r.xs env s a=.ok p sf) (hz:p.1.length≤LINE) (fin:∀ ρ' H' σ',CS K mg acc ρ0 H0 p.1 sf p.2 ρ' σ' H'→Mv ρ H ρ' H'→D.nx σ' H'):L2.rLoop J g tb D σ H:=by
 refine for_walk (n:=r.xs.length) (fun i σ2 H2=>∃ ρ2 s2 env2 a2,CS K mg acc ρ0 H0 a2 s2 env2 ρ2 σ2 H2∧Mv ρ H ρ2 H2∧loopC r t body (r.xs.drop i) env2 s2 a2=.ok p sf) ⟨ρ,s,env,a,C,Mv.refl,by rw [List.drop_zero]; exact h⟩ ?_ ?_
 . rintro σ2 H2 ⟨ρ2,s2,env2,a2,C2,mv,h2⟩
   rw [List.drop_length,loopC] at h2
   split at h2
   . rename_i ho
     cases h2
     exact ⟨W.stop ρ2 H2 _ _ mv C2.hr ho rfl,fin ρ2 H2 σ2 C2 mv⟩
   . cases h2
 . rintro i σ2 H2 hi ⟨ρ2,s2,env2,a2,C2,mv,h2⟩
   rw [List.drop_eq_getElem_cons hi,loopC] at h2
   split at h2
   . rename_i ho
     obtain ⟨hgo,hy⟩:=W.go ρ2 H2 s2 i (r.xs[i]) mv C2.hr ho (List.getElem?_eq_getElem hi)
     refine ⟨hgo,fun x H3 y=>?_⟩
     obtain ⟨hH,rx⟩:=hy x H3 y
     split at h2
     . cases h2
     . rename_i env' he
       -- the item is there: perhaps a new thing
       have C3:CS K mg acc ρ0 H0 a2 s2 env2 ρ2 σ2 H3∧Mv ρ2 H2 ρ2 H3:=by
         rcases hH with e | ⟨q,o,hq,e⟩
         . subst e; exact ⟨C2,Mv.refl⟩
         . subst e
           have X:=Ext.new C2.hr hq o
           refine ⟨⟨C2.lp.step C2.hr X,C2.hr.more hq o,C2.er.mono X,?_⟩,X.mv⟩
           obtain ⟨ys,e1,e2⟩:=C2.ac
           exact ⟨ys,by rw [L2.upd_ne (L2.ne_of_none e1 hq)]; exact e1,e2.mono X⟩
       refine TG ρ2 s2 H3 _ x env2 env' σ2 _ C3.1.hr rx C3.1.er he fun σ4 er4=>?_
       cases hc:body env' s2 a2 with
       | ok q s5 =>
         rw [hc] at h2
         have hlen:q.1.length≤LINE:=Nat.le_trans (loopC_grows hg h2) hz
         exact hb ρ2 s2 H3 env' σ4 a2 q s5 _ ⟨C3.1.lp,C3.1.hr,er4,C3.1.ac⟩ hc hlen fun ρ5 H5 σ5 C5 mv5=>⟨ρ5,s5,q.2,q.1,C5,(mv.trans C3.2).trans mv5,h2⟩
       | exc _ _ _=>rw [hc] at h2; cases h2
       | stuck=>rw [hc] at h2; cases h2
   . cases h2
end
section
variable (K:KF) (mg:Str→Option Value) (Φ:Calls) (G:Str→Option Val)
noncomputable def uE (e:Ex):L2.TE:=fun σ H Q=>∃ env s,tV K mg env s (evE Φ G env e s) σ H Q
noncomputable def uT (e:Cn):L2.TT:=fun σ H Q=>∃ env s,tT K mg env s (evT Φ G env e s) σ H Q
noncomputable def uI (it:Itb):L2.TI:=fun σ H R=>∃ env s,tI (K:=K) (mg:=mg) env s (evIt Φ G env it s) σ H R
noncomputable def uTs:Cns→List L2.TT
 | .nil=>[]
 | .cons e es=>uT K mg Φ G e :: uTs es
end
section
variable {K:KF} {mg:Str→Option Value} {Φ:Calls} {G:Str→Option Val}
theorem pe_u {X:L2.Cx} {e:Ex} {E:Expr} (h:∀ env s,L2.PE X E (tV X.K X.mg env s (evE Φ G env e s))):L2.PE X E (uE X.K X.mg Φ G e):=fun pins s σ H Q I ⟨env,t,q⟩=>h env t pins s σ H Q I q
theorem pt_u {X:L2.Cx} {e:Cn} {E:Expr} (h:∀ env s,L2.PT X E (tT X.K X.mg env s (evT Φ G env e s))):L2.PT X E (uT X.K X.mg Φ G e):=fun pins s σ H Q I ⟨env,t,q⟩=>h env t pins s σ H Q I q
theorem pi_u {X:L2.Cx} {it:Itb} {tg E:Expr} (h:∀ env s,L2.PI X tg E (tI (K:=X.K) (mg:=X.mg) env s (evIt Φ G env it s))):L2.PI X tg E (uI X.K X.mg Φ G it):=fun pins s σ H Q I ⟨env,t,q⟩=>h env t pins s σ H Q I q
theorem tests_ok {s2:Sto} {env:Env} {σ:L2.St} {b:Bool} {Q:Bool→L2.Hp→Prop}:∀ {es:Cns} {ρ:Own} {s:Sto} {H:L2.Hp},HR K mg ρ s H→ER K mg ρ H env σ→evTs Φ G env es s=.ok b s2 →
   (∀ ρ' H',Ext ρ H ρ' H'→HR K mg ρ' s2 H'→Q b H')→L2.tTests (uTs K mg Φ G es) σ H Q
 | .nil,ρ,s,H,hr,er,h,q=>by
   rw [evTs] at h; cases h
   exact q ρ H Ext.refl hr
 | .cons e es,ρ,s,H,hr,er,h,q=>by
   rw [evTs] at h
   refine ⟨env,s,ρ,hr,er,?_⟩
   cases hc:evT Φ G env e s with
   | ok c s1 =>
     rw [hc] at h
     intro ρ1 c' H1 x1 hr1 e1
     cases e1
     cases c with
     | true=>exact L2.iteT (tests_ok hr1 (er.mono x1) h fun ρ' H' x' hr'=>q ρ' H' (x1.trans hr1 x') hr')
     | false =>
       simp only [bind_ok] at h
       cases h
       exact L2.iteF (q ρ1 H1 x1 hr1)
   | exc _ _ _=>rw [hc] at h; cases h
   | stuck=>rw [hc] at h; cases h
noncomputable def turnB (Φ:Calls) (G:Str→Option Val) (elt:Ex) (ifs:Cns):Env→Sto→List Val→Out (List Val × Env):=fun e s' acc=>(evTs Φ G e ifs s').bind fun b s2=>if b then (evE Φ G e elt s2).bind fun v s3=>.ok (acc++[v],e) s3 else .ok (acc,e) s2
theorem turnB_grows {elt:Ex} {ifs:Cns}:Grows (turnB Φ G elt ifs):=by
 intro e s a p s' h
 unfold turnB at h
 cases hc:evTs Φ G e ifs s with
 | ok b s1 =>
   rw [hc] at h
   cases b with
   | true =>
     simp only [bind_ok,if_true] at h
     cases hv:evE Φ G e elt s1 with
     | ok v s2=>rw [hv] at h; cases h; simp
     | exc _ _ _=>rw [hv] at h; cases h
     | stuck=>rw [hv] at h; cases h
   | false=>simp only [bind_ok] at h; cases h; exact Nat.le_refl _
 | exc _ _ _=>rw [hc] at h; cases h
 | stuck=>rw [hc] at h; cases h
theorem turnB_ok {acc:Addr} {ρ0:Own} {H0:L2.Hp} (hn:H0 acc=none) {elt:Ex} {ifs:Cns}:BodyOk K mg acc ρ0 H0 (turnB Φ G elt ifs) (L2.tTB (uTs K mg Φ G ifs) (L2.tEmit acc (uE K mg Φ G elt))):=by
 intro ρ s H env σ a p s' D C h hz q
 unfold turnB at h
 cases hc:evTs Φ G env ifs s with
 | ok b s1 =>
   rw [hc] at h
   refine tests_ok (ρ:=ρ) (s:=s) C.hr C.er hc fun ρ1 H1 x1 hr1=>?_
   have hacc1:∃ ys,H1 acc=some (.lst ys)∧RDs K mg ρ1 H1 a ys:=by
     obtain ⟨ys,e1,e2⟩:=C.ac
     exact ⟨ys,x1.keep _ _ e1 (C.hr.hid acc C.lp.here).2,e2.mono x1⟩
   cases b with
   | true =>
     simp only [bind_ok,if_true] at h
     refine L2.iteT ⟨env,s1,ρ1,hr1,C.er.mono x1,?_⟩
     cases hv:evE Φ G env elt s1 with
     | ok v s2 =>
       rw [hv] at h
       cases h
       intro ρ2 y H2 x2 hr2 r2
       have xx:=x1.trans hr1 x2
       have lp2:=C.lp.step C.hr xx
       obtain ⟨ys,e1,e2⟩:=hacc1
       have e3:H2 acc=some (.lst ys):=x2.keep _ _ e1 (hr1.hid acc (C.lp.step C.hr x1).here).2
       have e4:=e2.mono x2
       have hl:ys.length < sizeLine:=by
         have h1:(a++[v]).length≤LINE:=hz
         rw [List.length_append,e2.length,line_eq] at h1
         simp at h1; omega
       have mv2:=emit_mv (H1:=H2) lp2.here (.lst (ys++[y]))
       refine ⟨ys,e3,hl,q ρ2 _ σ ⟨lp2.emit hn _,hr2.emit lp2.here,⟨C.er.len,fun i v' e'=>?_⟩,⟨_,L2.upd_same,RDs.mv mv2 (e4.append (.cons r2 .nil))⟩⟩ (xx.mv.trans mv2)⟩
       obtain ⟨u,h1,h2⟩:=(C.er.mono xx).at_ i v' e'
       exact ⟨u,h1,RD.mv mv2 h2⟩
     | exc _ _ _=>rw [hv] at h; cases h
     | stuck=>rw [hv] at h; cases h
   | false =>
     simp only [bind_ok] at h
     cases h
     exact L2.iteF (q ρ1 H1 σ ⟨C.lp.step C.hr x1,hr1,C.er.mono x1,hacc1⟩ x1.mv)
 | exc _ _ _=>rw [hc] at h; cases h
 | stuck=>rw [hc] at h; cases h
noncomputable def turnB2 (Φ:Calls) (G:Str→Option Val) (elt:Ex) (ifs:Cns) (t2:Tgt) (it2:Itb) (ifs2:Cns):Env→Sto→List Val→Out (List Val × Env):=fun e s' acc=>(evTs Φ G e ifs s').bind fun b s2=>if b then (evIt Φ G e it2 s2).bind fun r2 s3 =>
         loopC r2 t2 (turnB Φ G elt ifs2) r2.xs e s3 acc
       else .ok (acc,e) s2
theorem turnB2_grows {elt:Ex} {ifs ifs2:Cns} {t2:Tgt} {it2:Itb}:Grows (turnB2 Φ G elt ifs t2 it2 ifs2):=by
 intro e s a p s' h
 unfold turnB2 at h
 cases hc:evTs Φ G e ifs s with
 | ok b s1 =>
   rw [hc] at h
   cases b with
   | true =>
     simp only [bind_ok,if_true] at h
     cases hv:evIt Φ G e it2 s1 with
     | ok v s2=>rw [hv] at h; exact loopC_grows turnB_grows h
     | exc _ _ _=>rw [hv] at h; cases h
     | stuck=>rw [hv] at h; cases h
   | false=>simp only [bind_ok] at h; cases h; exact Nat.le_refl _
 | exc _ _ _=>rw [hc] at h; cases h
 | stuck=>rw [hc] at h; cases h
theorem turnB2_ok {acc:Addr} {ρ0:Own} {H0:L2.Hp} (hn:H0 acc=none) {elt:Ex} {ifs ifs2:Cns} {t2:Tgt} {it2:Itb} {g2:L2.TG} (TG:TgOk K mg t2 g2) :
   BodyOk K mg acc ρ0 H0 (turnB2 Φ G elt ifs t2 it2 ifs2) (L2.tTB (uTs K mg Φ G ifs) (L2.tInner (uI K mg Φ G it2) g2 (uTs K mg Φ G ifs2) (L2.tEmit acc (uE K mg Φ G elt)))):=by
 intro ρ s H env σ a p s' D C h hz q
 unfold turnB2 at h
 cases hc:evTs Φ G env ifs s with
 | ok b s1 =>
   rw [hc] at h
   refine tests_ok (ρ:=ρ) (s:=s) C.hr C.er hc fun ρ1 H1 x1 hr1=>?_
   have hacc1:∃ ys,H1 acc=some (.lst ys)∧RDs K mg ρ1 H1 a ys:=by
     obtain ⟨ys,e1,e2⟩:=C.ac
     exact ⟨ys,x1.keep _ _ e1 (C.hr.hid acc C.lp.here).2,e2.mono x1⟩
   have lp1:=C.lp.step C.hr x1
   cases b with
   | true =>
     simp only [bind_ok,if_true] at h
     refine L2.iteT ⟨env,s1,ρ1,hr1,C.er.mono x1,?_⟩
     cases hv:evIt Φ G env it2 s1 with
     | ok r2 s2 =>
       rw [hv] at h
       intro ρ2 H2 J x2 hr2 W
       have xx:=x1.trans hr1 x2
       obtain ⟨ys,e1,e2⟩:=hacc1
       have e3:H2 acc=some (.lst ys):=x2.keep _ _ e1 (hr1.hid acc lp1.here).2
       exact comp_loop W TG turnB_grows (turnB_ok hn) ⟨lp1.step hr1 x2,hr2,C.er.mono xx,⟨ys,e3,e2.mono x2⟩⟩ h hz fun ρ3 H3 σ3 C3 mv3=>q ρ3 H3 σ3 C3 (xx.mv.trans mv3)
     | exc _ _ _=>rw [hv] at h; cases h
     | stuck=>rw [hv] at h; cases h
   | false =>
     simp only [bind_ok] at h
     cases h
     exact L2.iteF (q ρ1 H1 σ ⟨lp1,hr1,C.er.mono x1,hacc1⟩ x1.mv)
 | exc _ _ _=>rw [hc] at h; cases h
 | stuck=>rw [hc] at h; cases h
theorem startC_er {ρ:Own} {H:L2.Hp} {env:Env} {σ:L2.St} (er:ER K mg ρ H env σ) (fr:List (Option Nat)):ER K mg ρ H (startC fr env) (L2.startC fr σ):=by
 refine ⟨by unfold startC L2.startC; rw [List.length_map,List.length_map],fun i v e=>?_⟩
 unfold startC at e
 unfold L2.startC
 rw [List.getElem?_map] at e ⊢
 cases hf:fr[i]? with
 | none=>rw [hf] at e; cases e
 | some o =>
   rw [hf] at e
   cases o with
   | none=>cases e
   | some j =>
     have e':(env[j]?).join=some v:=Option.some.inj e
     have e2:env[j]?=some (some v):=by
       cases h1:env[j]? with
       | none=>rw [h1] at e'; cases e'
       | some w=>rw [h1] at e'; have:w=some v:=e'; rw [this]
     obtain ⟨x,h1,h2⟩:=er.at_ j v e2
     refine ⟨x,?_,h2⟩
     show some ((σ[j]?).join)=_
     rw [h1]; rfl
theorem comp_read {fr:List (Option Nat)} {it:Itb} {t:Tgt} {g:L2.TG} {ts:List L2.TT} {tb:Addr→L2.TB} {body:Env→Sto→List Val→Out (List Val × Env)} {m:Bool} {env:Env} {s:Sto} (TG:TgOk K mg t g) (hg:Grows body)
   (hb:∀ acc ρ0 H0,H0 acc=none→BodyOk K mg acc ρ0 H0 body (L2.tTB ts (tb acc))) {σ:L2.St} {H:L2.Hp} {Q:L2.VK} {chk:Bool}
   (h:tV K mg env s ((evIt Φ G env it s).bind fun r s1=>(loopC r t body r.xs (startC fr env) s1 []).bind fun p s2=>if chk=true→p.1.length≤LINE then newList m p.1 s2 else .stuck) σ H Q)
   (hlen:chk=false→∀ r s1 p s2,loopC r t body r.xs (startC fr env) s1 []=.ok p s2→p.1.length≤r.xs.length):L2.rComp fr (uI K mg Φ G it) g ts tb σ H Q:=by
 obtain ⟨ρ,hr,er,w⟩:=h
 refine ⟨env,s,ρ,hr,er,?_⟩
 cases hi:evIt Φ G env it s with
 | ok r s1 =>
   rw [hi] at w
   simp only [bind_ok] at w
   intro ρ1 H1 J x1 hr1 W acc hacc
   cases hl:loopC r t body r.xs (startC fr env) s1 [] with
   | ok p s2 =>
     rw [hl] at w
     simp only [bind_ok] at w
     have hz:p.1.length≤LINE∧Want K mg (RD K mg) ρ H (newList m p.1 s2) Q:=by
       by_cases hc:chk=true→p.1.length≤LINE
       . rw [if_pos hc] at w
         refine ⟨?_,w⟩
         cases chk with
         | true=>exact hc rfl
         | false=>exact Nat.le_trans (hlen rfl r s1 p s2 hl) W.len
       . rw [if_neg hc] at w; exact w.elim
     have mv:=hide_mv (ρ:=ρ1) hacc (.lst [])
     have ers:=startC_er (er.mono x1) fr
     refine comp_loop (ρ0:=ρ1) (H0:=H1) (W.mv mv) TG hg (hb acc ρ1 H1 hacc) ⟨Lp.start hacc _,hr1.hide hacc,⟨ers.len,fun i v e=>?_⟩,⟨[],L2.upd_same,.nil⟩⟩ hl hz.1 fun ρ3 H3 σ3 C3 _=>?_
     . obtain ⟨x,h1,h2⟩:=ers.at_ i v e
       exact ⟨x,h1,RD.mv mv h2⟩
     . obtain ⟨ys,e1,e2⟩:=C3.ac
       exact C3.lp.done hr1 hacc C3.hr e1 e2 (hz.2.mono x1 hr1)
   | exc _ _ _=>rw [hl] at w; exact w.elim
   | stuck=>rw [hl] at w; exact w.elim
 | exc _ _ _=>rw [hi] at w; exact w.elim
 | stuck=>rw [hi] at w; exact w.elim
theorem turnB_len {r:Src} {t:Tgt} {elt:Ex} {ifs:Cns}:∀ {xs:List Val} {env:Env} {s:Sto} {a:List Val} {p:List Val × Env} {s':Sto},loopC r t (turnB Φ G elt ifs) xs env s a=.ok p s'→p.1.length≤a.length + xs.length
 | [],env,s,a,p,s',h=>by
   rw [loopC] at h
   split at h
   . cases h; exact Nat.le_refl _
   . cases h
 | x :: xs,env,s,a,p,s',h=>by
   rw [loopC] at h
   split at h
   . split at h
     . cases h
     . rename_i env' he
       cases hc:turnB Φ G elt ifs env' s a with
       | ok q s1 =>
         rw [hc] at h
         have h1:=turnB_len h
         have h2:q.1.length≤a.length + 1:=by
           unfold turnB at hc
           cases h3:evTs Φ G env' ifs s with
           | ok b s2 =>
             rw [h3] at hc
             cases b with
             | true =>
               simp only [bind_ok,if_true] at hc
               cases h4:evE Φ G env' elt s2 with
               | ok v s3=>rw [h4] at hc; cases hc; simp
               | exc _ _ _=>rw [h4] at hc; cases hc
               | stuck=>rw [h4] at hc; cases hc
             | false=>simp only [bind_ok] at hc; cases hc; exact Nat.le_succ _
           | exc _ _ _=>rw [h3] at hc; cases hc
           | stuck=>rw [h3] at hc; cases hc
         rw [List.length_cons]; omega
       | exc _ _ _=>rw [hc] at h; cases h
       | stuck=>rw [hc] at h; cases h
   . cases h
end
end M
end
section
namespace M
open PySem
noncomputable def isVis (sc:Scope) (x:Str):Bool:=decide (sc.names.lookup x=some .local) || decide (sc.names.lookup x=some .cell) || decide (sc.names.lookup x=some .free)
noncomputable def isGl (sc:Scope) (x:Str):Bool:=decide (sc.names.lookup x=some .globalImplicit)
noncomputable def bltNames:List Str:=["len","all","any","tuple","list","sorted","repr","max","min","sum","int","isinstance","divmod","str","bool","dict","set","range","enumerate","zip"]
noncomputable def tyOk (y:Str) (n:String):Bool:=(decide (y="int") && decide (n="int")) || (decide (y="bool") && decide (n="bool")) || (decide (y="str") && decide (n="str")) || (decide (y="list") && decide (n="list")) || (decide (y="tuple") && decide (n="tuple")) || (decide (y="dict") && decide (n="dict"))
noncomputable def ckLit:Val→Expr→Bool
 | .none,.Constant .none _ _=>true
 | .bool b,.Constant (.bool c) _ _=>b == c
 | .int i,.Constant (.int j) _ _=>decide (i=j)
 | .str x,.Constant (.str y) _ _=>decide (x=y)
 | _,_=>false
noncomputable def isLit:Ex→Int→Bool
 | .lit (.int i),j=>decide (i=j)
 | _,_=>false
theorem isLit_eq {e:Ex} {j:Int} (h:isLit e j=true):e=.lit (.int j):=by
 unfold isLit at h
 split at h
 . rw [of_decide_eq_true h]
 . cases h
mutual
noncomputable def ck (sc:Scope) (N:List Str):Ex→Expr→Bool
 | .lit v,e=>ckLit v e
 | .var i,e=>(match e with | .Name x _=>decide (N[i]?=some x) && isVis sc x && !(x == ("__debug__":Str)) && !(x == ("__classdict__":Str)) | _=>false)
 | .gl y,e=>(match e with | .Name x _=>decide (x=y) && isGl sc x && !(x == ("__debug__":Str)) | _=>false)
 | .ty y n,e=>(match e with | .Name x _=>decide (x=y) && isGl sc x && tyOk y n | _=>false)
 | .bin _ op a b,e=>(match e with | .BinOp l o r _=>decide (o=op.op) && ck sc N a l && ck sc N b r | _=>false)
 | .neg a,e=>(match e with | .UnaryOp .USub x _=>ck sc N a x | _=>false)
 | .not a,e=>(match e with | .UnaryOp .Not x _=>ck sc N a x | _=>false)
 | .cmp op a b,e=>(match e with | .Compare l [o] [r] _=>decide (o=op.op) && ck sc N a l && ck sc N b r && plain r | _=>false)
 | .chain op op' a b c,e=>(match e with | .Compare l [o,o'] [r,r'] _=>decide (o=op.op) && decide (o'=op'.op) && ck sc N a l && ck sc N b r && ck sc N c r' && plain r' | _=>false)
 | .andE a es,e=>(match e with | .BoolOp .And (x :: xs) _=>ck sc N a x && ckL sc N es xs | _=>false)
 | .orE a es,e=>(match e with | .BoolOp .Or (x :: xs) _=>ck sc N a x && ckL sc N es xs | _=>false)
 | .ife c a b,e=>(match e with | .IfExp t x y _=>ckC sc N c t && ck sc N a x && ck sc N b y | _=>false)
 | .tup es,e=>(match e with | .Tuple xs _ _=>ckL sc N es xs && plains xs | _=>false)
 | .lst _ es,e=>(match e with | .List xs _=>ckL sc N es xs && plains xs | _=>false)
 | .dct0,e=>(match e with | .Dict [] [] _=>true | _=>false)
 | .call f _ es,e=>(match e with | .Call (.Name x _) xs [] _=>decide (x=f) && isGl sc x && !(x == ("__debug__":Str)) && ckL sc N es xs && plains xs | _=>false)
 | .blt f _ es,e=>(match e with | .Call (.Name x _) (y :: ys) [] _=>decide (x=f.nm) && isGl sc x && ckL sc N es (y :: ys) && plains (y :: ys) | _=>false)
 | .maxD _ _,_=>false
 | .meth f _ o es,e=>(match e with | .Call (.Attribute ob x ap) [y] [] cp=>decide (x=f.nm) && ck sc N o ob && ckL sc N es [y] && plain y && noSuper ob && (ap.endLine == cp.line) | _=>false)
 | .ix a b,e=>(match e with | .Subscript l r _=>ck sc N a l && ck sc N b r && plain r | _=>false)
 | .sl _ a lo hi st,e=>(match e with | .Subscript l (.Slice x y z _) _=>ck sc N a l && ckO sc N lo x && ckO sc N hi y && ckO sc N st z | _=>false)
 | .comp _ N' fr elt t it ifs,e=>(match e with | .ListComp x [⟨tg,iter,fs,0⟩] csc _=>L2.ckComp sc N N' csc fr && decide N'.Nodup && ckT csc N' t tg && ckI sc N it iter tg && ckCs csc N' ifs fs && ck csc N' elt x && plain iter | _=>false)
 | .comp2 _ N' fr elt t it ifs t2 it2 ifs2,e=>(match e with | .ListComp x [⟨tg,iter,fs,0⟩,⟨tg2,iter2,fs2,0⟩] csc _=>L2.ckComp sc N N' csc fr && decide N'.Nodup && ckT csc N' t tg && ckI sc N it iter tg && ckCs csc N' ifs fs && ckT csc N' t2 tg2 && ckI csc N' it2 iter2 tg2 && ckCs csc N' ifs2 fs2 && ck csc N' elt x && plain iter && plain iter2 | _=>false)
 | .listRange _ z a w,e=>(match e with | .Call (.Name x _) [.Call (.Name y _) [c] [] _] [] _=>isLit z 0 && isLit w 1 && decide (x="list") && decide (y="range") && isGl sc x && isGl sc y && ck sc N a c && plain c | _=>false)
noncomputable def ckL (sc:Scope) (N:List Str):Exs→List Expr→Bool
 | .nil,es=>(match es with | []=>true | _=>false)
 | .cons a as,es=>(match es with | e :: es=>ck sc N a e && ckL sc N as es | _=>false)
noncomputable def ckO (sc:Scope) (N:List Str):OEx→Option Expr→Bool
 | .no,e=>(match e with | none=>true | _=>false)
 | .yes a,e=>(match e with | some e=>ck sc N a e | _=>false)
noncomputable def ckC (sc:Scope) (N:List Str):Cn→Expr→Bool
 | .val a,e=>ck sc N a e && (plainT e || (match e with | .Compare ..=>true | _=>false))
 | .not c,e=>(match e with | .UnaryOp .Not x _=>ckC sc N c x | _=>false)
 | .and c cs,e=>(match e with | .BoolOp .And (x :: xs) _=>ckC sc N c x && ckCs sc N cs xs | _=>false)
 | .or c cs,e=>(match e with | .BoolOp .Or (x :: xs) _=>ckC sc N c x && ckCs sc N cs xs | _=>false)
noncomputable def ckCs (sc:Scope) (N:List Str):Cns→List Expr→Bool
 | .nil,es=>(match es with | []=>true | _=>false)
 | .cons a as,es=>(match es with | e :: es=>ckC sc N a e && ckCs sc N as es | _=>false)
noncomputable def ckI (sc:Scope) (N:List Str):Itb→Expr→Expr→Bool
 | .val a,e,_=>ck sc N a e
 | .range1 a,e,_=>(match e with | .Call (.Name x _) [y] [] _=>decide (x="range") && isGl sc x && ck sc N a y && plain y | _=>false)
 | .range2 a b,e,_=>(match e with | .Call (.Name x _) [y,z] [] _=>decide (x="range") && isGl sc x && ck sc N a y && ck sc N b z && plain y && plain z | _=>false)
 | .enum a,e,tg=>(match e,tg with | .Call (.Name x _) [y] [] _,.Tuple _ _ _=>decide (x="enumerate") && isGl sc x && ck sc N a y && plain y | _,_=>false)
 | .zip _ _,_,_=>false
end
structure Ok (T:Tbl) (n:Nat) (sc:Scope) (N:List Str) (X:L2.Cx):Prop where
 calm:X.calm=true
 room:L2.Room n X.A
 scp:Scp sc N X
 fns:∀ f v F,T.fn f v=some F→Callee T n X f v F
 gls:∀ x v,T.gl x=some v→∃ u xv,X.mg x=some u∧L2.RelV xv u∧∀ ρ H,RD X.K X.mg ρ H v xv
 blt:∀ x∈bltNames,X.mg x=none
 xe:X.xe=fun _ _=>False
theorem cs_of {sc:Scope} {N N':List Str} {csc:Scope} {fr:List (Option Nat)} {X:L2.Cx} (S:Scp sc N X) (h:L2.ckComp sc N N' csc fr=true):L2.CompScope X N' csc fr:=by
 unfold L2.ckComp at h
 simp only [Bool.and_eq_true,List.all_eq_true,Bool.or_eq_true,decide_eq_true_eq,List.mem_range] at h
 obtain ⟨⟨⟨⟨⟨⟨a1,a2⟩,a3⟩,a4⟩,a5⟩,a6⟩,a7⟩:=h
 refine ⟨a1,a2,fun x hx hk=>?_,fun x hx hk=>?_,a5,fun i j x e1 e2=>?_,fun x e1 e2=>?_⟩
 . rcases a3 x hx with z | z
   . exact absurd hk z
   . exact z
 . rcases a4 x hx with z | z
   . exact absurd hk z
   . exact S.cf x.1 z
 . have hi:i < N'.length:=(List.getElem?_eq_some_iff.mp e1).1
   have q:=a6 i hi
   rw [e1,e2] at q
   simp only [Bool.and_eq_true,decide_eq_true_eq,List.any_eq_true] at q
   obtain ⟨q1,y,q2,q3,q4⟩:=q
   refine ⟨by rw [S.hN]; exact q1,?_⟩
   have:y=(x,NameKind.free):=Prod.ext q3 q4
   rw [←this]; exact q2
 . rcases a7 (x,.free) e2 with z | z
   . exact z rfl
   . exact z e1
theorem relabel_local {sc:Scope} {env:PySem.Env} {x:Str} (h:sc.names.lookup x=some .local):(relabel sc env).names.lookup x=some .local:=lookup_relabel_local h
theorem relabel_gl {sc:Scope} {env:PySem.Env} {x:Str} (h:sc.names.lookup x=some .globalImplicit):(relabel sc env).names.lookup x=some .globalImplicit:=by
 have key:∀ (names:List (Str × NameKind)),names.lookup x=some .globalImplicit→(names.map fun (n,k)=>if (k == NameKind.free && env.scope.kind == .function && env.kindOf n == some .cell) then (n,NameKind.cell) else (n,k)).lookup x=some .globalImplicit:=by
   intro names
   induction names with
   | nil=>intro h; simp at h
   | cons p r ih =>
     obtain ⟨n,k⟩:=p
     intro h
     rw [List.map_cons]
     dsimp only
     cases hx:(x == n) with
     | true =>
       rw [List.lookup_cons,hx] at h
       cases h
       have e:(NameKind.globalImplicit == NameKind.free)=false:=rfl
       rw [e]
       simp only [Bool.false_and,Bool.false_eq_true,if_false,List.lookup_cons,hx]
     | false =>
       rw [List.lookup_cons,hx] at h
       have:=ih h
       split <;> simpa only [List.lookup_cons,hx] using this
 exact key sc.names h
theorem Scp.comp {sc:Scope} {N N':List Str} {csc:Scope} {fr:List (Option Nat)} {X:L2.Cx} (S:Scp sc N X) (hc:L2.CompScope X N' csc fr) (nd:N'.Nodup) (C:Addr) (s0:Shared) (H0:L2.Hp) (ex:List Addr):Scp csc N' (X.comp N' csc C s0 H0 ex):=by
 have nocell:∀ x,csc.names.lookup x≠some .cell:=fun x h=>hc.nocell _ (PySem.mem_of_lookup h) rfl
 refine ⟨rfl,nd,fun x h=>?_,fun x h=>?_,fun x h=>?_,fun x h=>?_⟩
 . rcases h with h | h | h
   . exact .inl (relabel_local h)
   . exact absurd h (nocell x)
   . exact (L2.relabel_free hc.locals h).elim (fun z=>.inr (.inl z)) fun z=>.inr (.inr z)
 . rcases h with h | h
   . exact ⟨.inl (relabel_local h),.inr (relabel_local h)⟩
   . exact absurd h (nocell x)
 . exact relabel_gl h
 . rcases h with h | h
   . exact absurd h (nocell x)
   . exact L2.relabel_free hc.locals h
theorem Callee.comp {T:Tbl} {n:Nat} {X:L2.Cx} {f:Str} {v:Nat} {F:Fn} (c:Callee T n X f v F) (N':List Str) (csc:Scope) (C:Addr) (s0:Shared) (H0:L2.Hp) (ex:List Addr):Callee T n (X.comp N' csc C s0 H0 ex) f v F:=⟨c.ex⟩
theorem Ok.comp {T:Tbl} {n:Nat} {sc:Scope} {N N':List Str} {csc:Scope} {fr:List (Option Nat)} {X:L2.Cx} (o:Ok T n sc N X) (hc:L2.CompScope X N' csc fr) (nd:N'.Nodup) (C:Addr) (s0:Shared) (H0:L2.Hp) (ex:List Addr):Ok T n csc N' (X.comp N' csc C s0 H0 ex):=
 ⟨o.calm,o.room,o.scp.comp hc nd C s0 H0 ex,fun f v F h=>(o.fns f v F h).comp N' csc C s0 H0 ex,o.gls,o.blt,rfl⟩
end M
end
section
namespace M
open PySem
section
variable {T:Tbl} {n:Nat}
noncomputable def JE (T:Tbl) (n:Nat) (a:Ex):Prop:=∀ (sc:Scope) (N:List Str) (X:L2.Cx) (e:Expr),Ok T n sc N X→ck sc N a e=true→∀ env s,L2.PE X e (tV X.K X.mg env s (evE (callN T n) T.gl env a s))
noncomputable def JL (T:Tbl) (n:Nat) (a:Exs):Prop:=∀ (sc:Scope) (N:List Str) (X:L2.Cx) (es:List Expr),Ok T n sc N X→ckL sc N a es=true →
 (plains es=true→∀ env s,L2.PA X es (tVs X.K X.mg env s (evEs (callN T n) T.gl env a s))) ∧
 (∀ e es' pos,es=e :: es'→∀ env s,L2.PE X (.BoolOp .And es pos) (tV X.K X.mg env s (evAnd (callN T n) T.gl env a s))) ∧
 (∀ e es' pos,es=e :: es'→∀ env s,L2.PE X (.BoolOp .Or es pos) (tV X.K X.mg env s (evOr (callN T n) T.gl env a s))) ∧
 (∀ y,es=[y]→plain y=true→∃ b,a=.cons b .nil∧∀ env s,L2.PE X y (tV X.K X.mg env s (evE (callN T n) T.gl env b s)))
noncomputable def JO (T:Tbl) (n:Nat) (a:OEx):Prop:=∀ (sc:Scope) (N:List Str) (X:L2.Cx) (e:Option Expr),Ok T n sc N X→ckO sc N a e=true→(∀ env s,L2.PO X e (tO X.K X.mg env s (evO (callN T n) T.gl env a s))) ∧
 ((e=none∧∀ env s1,evO (callN T n) T.gl env a s1=.ok none s1) ∨ ∃ e',e=some e'∧∀ env s1 s2,evO (callN T n) T.gl env a s1≠.ok none s2)
noncomputable def JC (T:Tbl) (n:Nat) (a:Cn):Prop:=∀ (sc:Scope) (N:List Str) (X:L2.Cx) (e:Expr),Ok T n sc N X→ckC sc N a e=true→∀ env s,L2.PT X e (tT X.K X.mg env s (evT (callN T n) T.gl env a s))
noncomputable def JCs (T:Tbl) (n:Nat) (a:Cns):Prop:=∀ (sc:Scope) (N:List Str) (X:L2.Cx) (es:List Expr),Ok T n sc N X→ckCs sc N a es=true →
 (∀ pos env s,L2.PW X (.BoolOp .And es pos) (tT X.K X.mg env s (evTs (callN T n) T.gl env a s)))∧(∀ pos env s,L2.PW X (.BoolOp .Or es pos) (tT X.K X.mg env s (evTo (callN T n) T.gl env a s)))∧L2.PTs X es (uTs X.K X.mg (callN T n) T.gl a)
noncomputable def JI (T:Tbl) (n:Nat) (a:Itb):Prop:=∀ (sc:Scope) (N:List Str) (X:L2.Cx) (e tg:Expr),Ok T n sc N X→ckI sc N a e tg=true→∀ env s,L2.PI X tg e (tI (K:=X.K) (mg:=X.mg) env s (evIt (callN T n) T.gl env a s))
theorem je_lit {v:Val}:JE T n (.lit v):=by
 intro sc N X e o h env s
 simp only [ck] at h
 show L2.PE X e (tV X.K X.mg env s (.ok v s))
 unfold ckLit at h
 split at h
 . exact pe_imp L2.pe_non fun σ H Q ⟨ρ,hr,er,w⟩=>want_ok hr .none w
 . have h':=(beq_iff_eq.mp h); subst h'
   exact pe_imp L2.pe_bl fun σ H Q ⟨ρ,hr,er,w⟩=>want_ok hr (.bool _) w
 . have h':=of_decide_eq_true h; subst h'
   exact pe_imp L2.pe_int fun σ H Q ⟨ρ,hr,er,w⟩=>want_ok hr (.int _) w
 . have h':=of_decide_eq_true h; subst h'
   exact pe_imp L2.pe_str fun σ H Q ⟨ρ,hr,er,w⟩=>want_ok hr (.str _) w
 . cases h
theorem je_var {i:Nat}:JE T n (.var i):=by
 intro sc N X e o h env s
 simp only [ck] at h
 split at h
 . rename_i x p
   simp only [Bool.and_eq_true,decide_eq_true_eq,isVis,Bool.or_eq_true,Bool.not_eq_true'] at h
   obtain ⟨⟨⟨h1,h2⟩,h3⟩,h4⟩:=h
   have hv:L2.Vis X.env.scope x:=o.scp.vis x (by rcases h2 with (z | z) | z; exact .inl z; exact .inr (.inl z); exact .inr (.inr z))
   show L2.PE X _ (tV X.K X.mg env s (match env[i]? with | some (some v)=>.ok v s | _=>.stuck))
   refine pe_imp (L2.pe_var (i:=i) (by rw [o.scp.hN]; exact h1) hv h3 h4) fun σ H Q ⟨ρ,hr,er,w⟩=>?_
   split at w
   . rename_i v e
     obtain ⟨x',h5,h6⟩:=er.at_ i v e
     exact ⟨x',h5,want_ok hr h6 w⟩
   . exact w.elim
 . cases h
theorem je_gl {y:Str}:JE T n (.gl y):=by
 intro sc N X e o h env s
 simp only [ck] at h
 split at h
 . rename_i x p
   simp only [Bool.and_eq_true,decide_eq_true_eq,isGl,Bool.not_eq_true'] at h
   obtain ⟨⟨h1,h2⟩,h3⟩:=h
   subst h1
   show L2.PE X _ (tV X.K X.mg env s (match T.gl x with | some v=>.ok v s | Option.none=>.stuck))
   cases hv:T.gl x with
   | none=>exact pe_stuck (fun _ _ e=>by cases e)
   | some v =>
     obtain ⟨u,xv,e1,e2,e3⟩:=o.gls x v hv
     exact pe_imp (L2.pe_glob (o.scp.gl x h2) e1 e2 h3) fun σ H Q ⟨ρ,hr,er,w⟩=>want_ok hr (e3 ρ H) w
 . cases h
theorem je_ty {y:Str} {m:String}:JE T n (.ty y m):=by
 intro sc N X e o h env s
 simp only [ck] at h
 split at h
 . rename_i x p
   simp only [Bool.and_eq_true,decide_eq_true_eq,isGl] at h
   obtain ⟨⟨h1,h2⟩,h3⟩:=h
   subst h1
   show L2.PE X _ (tV X.K X.mg env s (.ok (.ty m) s))
   have key:x∈bltNames∧bootBuiltins x=some (.type m)∧x≠"__name__"∧(x == ("__debug__":Str))=false:=by
     unfold tyOk at h3
     simp only [Bool.or_eq_true,Bool.and_eq_true,decide_eq_true_eq] at h3
     rcases h3 with ((((⟨rfl,rfl⟩ | ⟨rfl,rfl⟩) | ⟨rfl,rfl⟩) | ⟨rfl,rfl⟩) | ⟨rfl,rfl⟩) | ⟨rfl,rfl⟩
     . exact ⟨by decide,PyProof.Rows.boot_int,by decide,by decide⟩
     . exact ⟨by decide,PyProof.Rows.boot_bool,by decide,by decide⟩
     . exact ⟨by decide,PyProof.Rows.boot_str,by decide,by decide⟩
     . exact ⟨by decide,PyProof.Rows.boot_list,by decide,by decide⟩
     . exact ⟨by decide,PyProof.Rows.boot_tuple,by decide,by decide⟩
     . exact ⟨by decide,PyProof.Rows.boot_dict,by decide,by decide⟩
   exact pe_imp (L2.pe_ty (o.scp.gl x h2) (o.blt x key.1) key.2.1 key.2.2.1 key.2.2.2) fun σ H Q ⟨ρ,hr,er,w⟩=>want_ok hr (.ty _) w
 . cases h
theorem je_dct0:JE T n .dct0:=by
 intro sc N X e o h env s
 simp only [ck] at h
 split at h
 . show L2.PE X _ (tV X.K X.mg env s (.ok .dct0 s))
   exact pe_imp (L2.pe_dnew fun pins σ H s I=>I.big) fun σ H Q ⟨ρ,hr,er,w⟩ p hp=>w _ _ _ (Ext.new hr hp _) (hr.more hp _) (.dct0 (hr.new hp) L2.upd_same)
 . cases h
theorem cmp_bool {op:Cop} {x y v:Val} {s s':Sto} (h:cmpOp op x y s=.ok v s'):∃ b,v=.bool b:=by
 unfold cmpOp at h
 split at h <;> (split at h <;> first | (cases h; exact ⟨_,rfl⟩) | cases h | (split at h <;> first | (cases h; exact ⟨_,rfl⟩) | cases h | (split at h <;> first | (cases h; exact ⟨_,rfl⟩) | cases h)))
theorem truth_conv {K:KF} {mg:Str→Option Value} {ρ:Own} {H:L2.Hp} {o:Out Val} {Q:Bool→L2.Hp→Prop} (hb:∀ v s',o=.ok v s'→∃ b,v=.bool b) (w:Want K mg (fun _ _ a b=>a=b) ρ H o.truth Q):Want K mg (RD K mg) ρ H o fun x H'=>∃ k,x=.bl k∧Q k H':=by
 cases o with
 | ok v s1 =>
   obtain ⟨b,rfl⟩:=hb v s1 rfl
   intro ρ1 x H1 x1 hr1 r1
   cases r1
   exact ⟨b,rfl,w _ _ _ x1 hr1 rfl⟩
 | exc _ _ _=>exact w
 | stuck=>exact w
theorem jt_cmp {X:L2.Cx} {env:Env} {s:Sto} {a b:Expr} {op:Cop} {o:Out Val} {f2:Sto→Out Val} {k:Nat} {pos:Pos} (hr0:L2.Room k X.A) (h1:L2.PE X a (tV X.K X.mg env s o)) (h2:∀ s1,L2.PE X b (tV X.K X.mg env s1 (f2 s1))) (hm:plain b=true) :
   L2.PT X (.Compare a [op.op] [b] pos) (tT X.K X.mg env s (o.bind fun x s1=>(f2 s1).bind fun y s2=>cmpOp op x y s2).truth):=by
 cases o with
 | ok v s1 =>
   have h2':=h2 s1
   show L2.PT X _ (tT X.K X.mg env s ((f2 s1).bind fun y s2=>cmpOp op v y s2).truth)
   cases hb:f2 s1 with
   | ok w s2 =>
     rw [hb] at h2'
     exact pt_imp (L2.pt_cmpR (op_cmp hr0 op) h1 h2' (plain_mark hm)) fun σ H Q ⟨ρ,hr,er,wt⟩=>⟨ρ,hr,er,fun ρ1 x H1 x1 hr1 r1=>⟨ρ1,hr1,er.mono x1,fun ρ2 y H2 x2 hr2 r2=>⟨ρ2,s2,v,w,hr2,r1.mono x2,r2,truth_conv (fun _ _ h=>cmp_bool h) (wt.mono (x1.trans hr1 x2) hr2)⟩⟩⟩
   | exc _ _ _=>exact pt_stuck (fun _ _ e=>by cases e)
   | stuck=>exact pt_stuck (fun _ _ e=>by cases e)
 | exc _ _ _=>exact pt_stuck (fun _ _ e=>by cases e)
 | stuck=>exact pt_stuck (fun _ _ e=>by cases e)
theorem jt_chain {X:L2.Cx} {env:Env} {s:Sto} {a b c:Expr} {op op':Cop} {o:Out Val} {f2 f3:Sto→Out Val} {k:Nat} {pos:Pos} (hr0:L2.Room k X.A) (h1:L2.PE X a (tV X.K X.mg env s o)) (h2:∀ s1,L2.PE X b (tV X.K X.mg env s1 (f2 s1))) (h3:∀ s1,L2.PE X c (tV X.K X.mg env s1 (f3 s1))) (hm:plain c=true) :
   L2.PT X (.Compare a [op.op,op'.op] [b,c] pos) (tT X.K X.mg env s (o.bind fun x s1=>(f2 s1).bind fun y s2=>(cmpOp op x y s2).bind fun r s3=>match r with
     | .bool true=>(f3 s3).bind fun z s4=>cmpOp op' y z s4
     | .bool false=>.ok (.bool false) s3
     | _=>.stuck).truth):=by
 cases o with
 | ok v s1 =>
   have h2':=h2 s1
   show L2.PT X _ (tT X.K X.mg env s ((f2 s1).bind _).truth)
   cases hb:f2 s1 with
   | ok w s2 =>
     rw [hb] at h2'
     show L2.PT X _ (tT X.K X.mg env s ((cmpOp op v w s2).bind _).truth)
     cases hc:cmpOp op v w s2 with
     | ok r s3 =>
       cases r with
       | bool t =>
         have h3':=h3 s3
         have rule:=L2.pt_chain (pos:=pos) (op_cmp hr0 op) (op_cmp hr0 op') h1 h2' h3' (show lastMarks [op.op,op'.op] [b,c]=false from plain_mark hm)
         refine pt_imp rule fun σ H Q ⟨ρ,hr,er,wt⟩=>⟨ρ,hr,er,fun ρ1 x H1 x1 hr1 r1=>⟨ρ1,hr1,er.mono x1,fun ρ2 y H2 x2 hr2 r2=>⟨ρ2,s2,v,w,hr2,r1.mono x2,r2,?_⟩⟩⟩
         rw [hc]
         intro ρ3 z H3 x3 hr3 r3
         cases r3
         refine ⟨t,rfl,?_⟩
         have xx:=(x1.trans hr1 x2).trans hr2 x3
         have wt':=wt.mono xx hr3
         cases t with
         | true =>
           rw [if_pos rfl]
           refine ⟨ρ3,hr3,er.mono xx,?_⟩
           have wt2:Want X.K X.mg (fun _ _ a b=>a=b) ρ3 H3 ((f3 s3).bind fun z s4=>cmpOp op' w z s4).truth Q:=wt'
           cases hz:f3 s3 with
           | ok u s4 =>
             rw [hz] at wt2
             exact fun ρ4 q H4 x4 hr4 r4=>⟨ρ4,s4,w,u,hr4,(r2.mono x3).mono x4,r4,truth_conv (fun _ _ h=>cmp_bool h) (wt2.mono x4 hr4)⟩
           | exc _ _ _=>rw [hz] at wt2; exact wt2
           | stuck=>rw [hz] at wt2; exact wt2
         | false =>
           rw [if_neg Bool.false_ne_true]
           exact ⟨false,rfl,wt' _ _ _ Ext.refl hr3 rfl⟩
       | _=>exact pt_stuck (fun _ _ e=>by cases e)
     | exc _ _ _=>exact pt_stuck (fun _ _ e=>by cases e)
     | stuck=>exact pt_stuck (fun _ _ e=>by cases e)
   | exc _ _ _=>exact pt_stuck (fun _ _ e=>by cases e)
   | stuck=>exact pt_stuck (fun _ _ e=>by cases e)
 | exc _ _ _=>exact pt_stuck (fun _ _ e=>by cases e)
 | stuck=>exact pt_stuck (fun _ _ e=>by cases e)
theorem jc_cmp {op:Cop} {a b:Ex} (ja:JE T n a) (jb:JE T n b):JC T n (.val (.cmp op a b)):=by
 intro sc N X e o h env s
 simp only [ckC,Bool.and_eq_true,ck] at h
 obtain ⟨h1,_⟩:=h
 split at h1
 . simp only [Bool.and_eq_true,decide_eq_true_eq] at h1
   obtain ⟨⟨⟨rfl,h3⟩,h4⟩,h5⟩:=h1
   exact jt_cmp o.room (ja _ _ _ _ o h3 env s) (fun s1=>jb _ _ _ _ o h4 env s1) h5
 . cases h1
theorem jc_chain {op op':Cop} {a b c:Ex} (ja:JE T n a) (jb:JE T n b) (jc:JE T n c):JC T n (.val (.chain op op' a b c)):=by
 intro sc N X e o h env s
 simp only [ckC,Bool.and_eq_true,ck] at h
 obtain ⟨h1,_⟩:=h
 split at h1
 . simp only [Bool.and_eq_true,decide_eq_true_eq] at h1
   obtain ⟨⟨⟨⟨⟨rfl,rfl⟩,h3⟩,h4⟩,h5⟩,h6⟩:=h1
   exact jt_chain o.room (ja _ _ _ _ o h3 env s) (fun s1=>jb _ _ _ _ o h4 env s1) (fun s1=>jc _ _ _ _ o h5 env s1) h6
 . cases h1
noncomputable def isCmp:Ex→Bool
 | .cmp .. | .chain ..=>true
 | _=>false
theorem jc_val {a:Ex} (ja:JE T n a) (hn:isCmp a=false):JC T n (.val a):=by
 intro sc N X e o h env s
 simp only [ckC,Bool.and_eq_true,Bool.or_eq_true] at h
 obtain ⟨h1,h2⟩:=h
 have je:=ja sc N X e o h1 env s
 rcases h2 with h2 | h2
 . exact jt_val h2 je
 . split at h2
   . cases a <;> first | (cases hn; done) | (simp only [ck,ckLit] at h1; cases h1; done) | (simp only [ck,ckLit] at h1; split at h1 <;> first | (rename_i heq; cases heq; done) | (cases h1; done))
   . cases h2
end
end M
end
section
namespace M
open PySem
section
variable {T:Tbl} {n:Nat}
theorem jE_bin {m:Bool} {op:Bop} {a b:Ex} (ja:JE T n a) (jb:JE T n b):JE T n (.bin m op a b):=by
 intro sc N X e o h env s
 simp only [ck] at h
 split at h
 . simp only [Bool.and_eq_true,decide_eq_true_eq] at h
   obtain ⟨⟨rfl,h1⟩,h2⟩:=h
   exact bin2 (ja _ _ _ _ o h1 env s) (fun s1=>jb _ _ _ _ o h2 env s1) fun ta tb pa pb=>L2.pe_op (op_bin m op) pa pb
 . cases h
theorem jE_neg {a:Ex} (ja:JE T n a):JE T n (.neg a):=by
 intro sc N X e o h env s
 simp only [ck] at h
 split at h
 . exact je_neg (ja _ _ _ _ o h env s)
 . cases h
theorem jE_not {a:Ex} (ja:JE T n a):JE T n (.not a):=by
 intro sc N X e o h env s
 simp only [ck] at h
 split at h
 . exact je_not (ja _ _ _ _ o h env s)
 . cases h
theorem jE_cmp {op:Cop} {a b:Ex} (ja:JE T n a) (jb:JE T n b):JE T n (.cmp op a b):=by
 intro sc N X e o h env s
 simp only [ck] at h
 split at h
 . simp only [Bool.and_eq_true,decide_eq_true_eq] at h
   obtain ⟨⟨⟨rfl,h1⟩,h2⟩,h3⟩:=h
   exact bin2 (ja _ _ _ _ o h1 env s) (fun s1=>jb _ _ _ _ o h2 env s1) fun ta tb pa pb=>L2.pe_cmpR (op_cmp o.room op) pa pb (plain_mark h3)
 . cases h
theorem jE_chain {op op':Cop} {a b c:Ex} (ja:JE T n a) (jb:JE T n b) (jc:JE T n c):JE T n (.chain op op' a b c):=by
 intro sc N X e o h env s
 simp only [ck] at h
 split at h
 . simp only [Bool.and_eq_true,decide_eq_true_eq] at h
   obtain ⟨⟨⟨⟨⟨rfl,rfl⟩,h3⟩,h4⟩,h5⟩,h6⟩:=h
   exact je_chain o.room (ja _ _ _ _ o h3 env s) (fun s1=>jb _ _ _ _ o h4 env s1) (fun s1=>jc _ _ _ _ o h5 env s1) h6
 . cases h
theorem jE_and {a:Ex} {es:Exs} (ja:JE T n a) (jl:JL T n es):JE T n (.andE a es):=by
 intro sc N X e o h env s
 simp only [ck] at h
 split at h
 . rename_i x xs pos
   simp only [Bool.and_eq_true] at h
   obtain ⟨h1,h2⟩:=h
   cases es with
   | nil =>
     simp only [ckL] at h2
     split at h2
     . exact L2.pe_one (ja _ _ _ _ o h1 env s)
     . cases h2
   | cons b es' =>
     cases xs with
     | nil=>cases h2
     | cons y ys=>exact je_and (ja _ _ _ _ o h1 env s) fun s1=>(jl _ _ _ _ o h2).2.1 y ys pos rfl env s1
 . cases h
theorem jE_or {a:Ex} {es:Exs} (ja:JE T n a) (jl:JL T n es):JE T n (.orE a es):=by
 intro sc N X e o h env s
 simp only [ck] at h
 split at h
 . rename_i x xs pos
   simp only [Bool.and_eq_true] at h
   obtain ⟨h1,h2⟩:=h
   cases es with
   | nil =>
     simp only [ckL] at h2
     split at h2
     . exact L2.pe_one (ja _ _ _ _ o h1 env s)
     . cases h2
   | cons b es' =>
     cases xs with
     | nil=>cases h2
     | cons y ys=>exact je_or (ja _ _ _ _ o h1 env s) fun s1=>(jl _ _ _ _ o h2).2.2.1 y ys pos rfl env s1
 . cases h
theorem jE_ife {c:Cn} {a b:Ex} (jc:JC T n c) (ja:JE T n a) (jb:JE T n b):JE T n (.ife c a b):=by
 intro sc N X e o h env s
 simp only [ck] at h
 split at h
 . simp only [Bool.and_eq_true] at h
   exact je_ife (jc _ _ _ _ o h.1.1 env s) (fun s1=>ja _ _ _ _ o h.1.2 env s1) (fun s1=>jb _ _ _ _ o h.2 env s1)
 . cases h
theorem jE_tup {es:Exs} (jl:JL T n es):JE T n (.tup es):=by
 intro sc N X e o h env s
 simp only [ck] at h
 split at h
 . simp only [Bool.and_eq_true] at h
   exact je_tup ((jl _ _ _ _ o h.1).1 h.2 env s)
 . cases h
theorem jE_lst {m:Bool} {es:Exs} (jl:JL T n es):JE T n (.lst m es):=by
 intro sc N X e o h env s
 simp only [ck] at h
 split at h
 . simp only [Bool.and_eq_true] at h
   exact je_lst ((jl _ _ _ _ o h.1).1 h.2 env s)
 . cases h
theorem callN_none {f:Str} {ver:Nat} (h:T.fn f ver=none) (vs:List Val) (s:Sto):callN T n f ver vs s=.stuck:=by
 cases n with
 | zero=>rfl
 | succ n=>simp only [callN,h]
theorem jE_call {f:Str} {ver:Nat} {es:Exs} (jl:JL T n es):JE T n (.call f ver es):=by
 intro sc N X e o h env s
 simp only [ck] at h
 split at h
 . rename_i x p xs pos
   simp only [Bool.and_eq_true,decide_eq_true_eq,isGl,Bool.not_eq_true'] at h
   obtain ⟨⟨⟨⟨rfl,h2⟩,h3⟩,h4⟩,h5⟩:=h
   show L2.PE X _ (tV X.K X.mg env s ((evEs (callN T n) T.gl env es s).bind fun vs s1=>callN T n x ver vs s1))
   cases hf:T.fn x ver with
   | none =>
     refine pe_stuck fun v s' e=>?_
     cases hv:evEs (callN T n) T.gl env es s with
     | ok vs s1=>rw [hv] at e; simp only [bind_ok,callN_none hf] at e; cases e
     | exc _ _ _=>rw [hv] at e; cases e
     | stuck=>rw [hv] at e; cases e
   | some F =>
     have C:=o.fns x ver F hf
     cases xs with
     | nil =>
       cases es with
       | nil=>exact je_call0 C o.room (o.scp.gl x h2) h3
       | cons _ _=>cases h4
     | cons y ys=>exact je_call C o.room (o.scp.gl x h2) h3 h5 (by simp) ((jl _ _ _ _ o h4).1 h5 env s)
 . cases h
theorem bf_mem (f:Bf):f.nm∈bltNames:=by cases f <;> decide
theorem jE_blt {f:Bf} {m:Bool} {es:Exs} (jl:JL T n es):JE T n (.blt f m es):=by
 intro sc N X e o h env s
 simp only [ck] at h
 split at h
 . rename_i x p y ys pos
   simp only [Bool.and_eq_true,decide_eq_true_eq,isGl] at h
   obtain ⟨⟨⟨rfl,h2⟩,h3⟩,h4⟩:=h
   exact je_blt o.calm o.room (o.scp.gl _ h2) (o.blt _ (bf_mem f)) h4 ((jl _ _ _ _ o h3).1 h4 env s)
 . cases h
theorem jE_lrange {m:Bool} {z a w:Ex} (ja:JE T n a):JE T n (.listRange m z a w):=by
 intro sc N X e o h env s
 simp only [ck] at h
 split at h
 . rename_i x p y p2 c pos2 pos
   simp only [Bool.and_eq_true,decide_eq_true_eq,isGl] at h
   obtain ⟨⟨⟨⟨⟨⟨⟨h1,h2⟩,rfl⟩,rfl⟩,h3⟩,h4⟩,h5⟩,h6⟩:=h
   obtain rfl:=isLit_eq h1
   obtain rfl:=isLit_eq h2
   have je:=ja _ _ _ _ o h5 env s
   show L2.PE X _ (tV X.K X.mg env s ((evE (callN T n) T.gl env a s).bind fun y s2=>lrOp m (.int 0) y (.int 1) s2))
   cases ho:evE (callN T n) T.gl env a s with
   | ok v s1 =>
     rw [ho] at je
     refine pe_imp (L2.pe_listRange1 o.calm rfl rfl (o.scp.gl _ h3) (o.blt _ (by decide)) (o.scp.gl _ h4) (o.blt _ (by decide)) (L2.pac je L2.pa_nil (plain_star h6)) (L2.star_cons (plain_star h6))) fun σ H Q ⟨ρ,hr,er,w⟩=>⟨ρ,hr,er,fun ρ1 x H1 x1 hr1 r1=>?_⟩
     have w':=w.mono x1 hr1
     cases r1 with
     | int j =>
       by_cases hc:-(2 ^ 30)≤(0:Int)∧(0:Int)≤2 ^ 30∧-(2 ^ 30)≤j∧j≤2 ^ 30∧(0:Int) < 1∧(1:Int)≤2 ^ 29∧Builtin.Range.rangeSize 0 j 1≤1000
       . have w2:Want X.K X.mg (RD X.K X.mg) ρ1 H1 (if -(2 ^ 30)≤(0:Int)∧(0:Int)≤2 ^ 30∧-(2 ^ 30)≤j∧j≤2 ^ 30∧(0:Int) < 1∧(1:Int)≤2 ^ 29∧Builtin.Range.rangeSize 0 j 1≤1000 then newList m ((L2.rangeL 0 j 1).map .int) s1 else .stuck) Q:=w'
         rw [if_pos hc] at w2
         exact ⟨j,rfl,hc.2.2.1,hc.2.2.2.1,hc.2.2.2.2.2.2,new_lst hr1 (RDs.ints _) w2⟩
       . have w2:Want X.K X.mg (RD X.K X.mg) ρ1 H1 (if -(2 ^ 30)≤(0:Int)∧(0:Int)≤2 ^ 30∧-(2 ^ 30)≤j∧j≤2 ^ 30∧(0:Int) < 1∧(1:Int)≤2 ^ 29∧Builtin.Range.rangeSize 0 j 1≤1000 then newList m ((L2.rangeL 0 j 1).map .int) s1 else .stuck) Q:=w'
         rw [if_neg hc] at w2
         exact w2.elim
     | _=>exact w'.elim
   | exc _ _ _=>exact pe_stuck (fun _ _ e=>by cases e)
   | stuck=>exact pe_stuck (fun _ _ e=>by cases e)
 . cases h
theorem jE_meth {f:Mf} {m:Bool} {a:Ex} {es:Exs} (ja:JE T n a) (jl:JL T n es):JE T n (.meth f m a es):=by
 intro sc N X e o h env s
 simp only [ck] at h
 split at h
 . rename_i ob x ap y cp
   simp only [Bool.and_eq_true,decide_eq_true_eq] at h
   obtain ⟨⟨⟨⟨⟨rfl,h1⟩,h2⟩,h3⟩,h4⟩,h5⟩:=h
   obtain ⟨b,rfl,jb⟩:=(jl _ _ _ _ o h2).2.2.2 y rfl h3
   exact je_meth1 h4 h3 h5 (ja _ _ _ _ o h1 env s) fun s1=>jb env s1
 . cases h
theorem jE_ix {a b:Ex} (ja:JE T n a) (jb:JE T n b):JE T n (.ix a b):=by
 intro sc N X e o h env s
 simp only [ck] at h
 split at h
 . simp only [Bool.and_eq_true] at h
   exact bin2 (ja _ _ _ _ o h.1.1 env s) (fun s1=>jb _ _ _ _ o h.1.2 env s1) fun ta tb pa pb=>L2.pe_ix ix_op pa pb (plain_ix h.2)
 . cases h
theorem jE_sl {m:Bool} {a:Ex} {lo hi st:OEx} (ja:JE T n a) (j1:JO T n lo) (j2:JO T n hi) (j3:JO T n st):JE T n (.sl m a lo hi st):=by
 intro sc N X e o h env s
 simp only [ck] at h
 split at h
 . simp only [Bool.and_eq_true] at h
   obtain ⟨⟨⟨h1,h2⟩,h3⟩,h4⟩:=h
   obtain ⟨p3,q3⟩:=j3 _ _ _ _ o h4
   refine je_sl (ja _ _ _ _ o h1 env s) (fun s1=>(j1 _ _ _ _ o h2).1 env s1) (fun s1=>(j2 _ _ _ _ o h3).1 env s1) (fun s1=>p3 env s1) ?_
   rcases q3 with ⟨e1,e2⟩ | ⟨e',e1,e2⟩
   . exact .inl ⟨e1,fun s1=>e2 env s1⟩
   . exact .inr ⟨e',e1,fun s1 s2=>e2 env s1 s2⟩
 . cases h
theorem jE_comp {m:Bool} {N':List Str} {fr:List (Option Nat)} {elt:Ex} {t:Tgt} {it:Itb} {ifs:Cns} (je:JE T n elt) (ji:JI T n it) (jc:JCs T n ifs):JE T n (.comp m N' fr elt t it ifs):=by
 intro sc N X e o h env s
 simp only [ck] at h
 split at h
 . rename_i x tg iter fs csc cpos
   simp only [Bool.and_eq_true,decide_eq_true_eq] at h
   obtain ⟨⟨⟨⟨⟨⟨h1,h2⟩,h3⟩,h4⟩,h5⟩,h6⟩,h7⟩:=h
   have S:=cs_of o.scp h1
   have oc:=o.comp S h2
   obtain ⟨g,pg,tg'⟩:∃ g,(∀ C s0 H0 ex,L2.PG (X.comp N' csc C s0 H0 ex) tg g)∧TgOk X.K X.mg t g:=by
     cases t with
     | nm i =>
       cases tg with
       | Name y p =>
         simp only [ckT,Bool.and_eq_true,Bool.or_eq_true,decide_eq_true_eq] at h3
         exact ⟨_,fun C s0 H0 ex=>pg_nm (oc C s0 H0 ex).scp h3.1 h3.2,tg_name⟩
       | _=>cases h3
     | nms is =>
       cases tg with
       | Tuple es k p =>
         simp only [ckT,Bool.and_eq_true,decide_eq_true_eq] at h3
         refine ⟨_,fun C s0 H0 ex=>?_,tg_names (is:=is)⟩
         obtain ⟨a,b,c⟩:=pgs_names (oc C s0 H0 ex).scp h3.1
         exact L2.pg_tup (X:=X.comp N' csc C s0 H0 ex) o.calm a b c
       | _=>cases h3
   have rule:L2.PE X (.ListComp x [⟨tg,iter,fs,0⟩] csc cpos) (L2.rComp fr (uI X.K X.mg (callN T n) T.gl it) g (uTs X.K X.mg (callN T n) T.gl ifs) fun acc=>L2.tEmit acc (uE X.K X.mg (callN T n) T.gl elt)):=
     L2.pe_comp o.calm S (pi_u fun env s=>ji _ _ _ _ _ o h4 env s) pg (fun C s0 H0 ex=>(jc _ _ _ _ (oc C s0 H0 ex) h5).2.2) (fun C s0 H0 ex=>pe_u (X:=X.comp N' csc C s0 H0 ex) fun env s=>je _ _ _ _ (oc C s0 H0 ex) h6 env s) (plain_fold h7)
   refine pe_imp rule fun σ H Q hq=>comp_read (env:=env) (s:=s) (chk:=false) (m:=m) (body:=turnB (callN T n) T.gl elt ifs) tg' turnB_grows (fun acc ρ0 H0 hn=>turnB_ok hn) ?_ fun _ r s1 p s2 hl=>?_
   . simp only [Bool.false_eq_true,false_implies,if_true]; exact hq
   . have:=turnB_len hl
     simpa using this
 . cases h
theorem jE_comp2 {m:Bool} {N':List Str} {fr:List (Option Nat)} {elt:Ex} {t t2:Tgt} {it it2:Itb} {ifs ifs2:Cns} (je:JE T n elt) (ji:JI T n it) (jc:JCs T n ifs) (ji2:JI T n it2) (jc2:JCs T n ifs2):JE T n (.comp2 m N' fr elt t it ifs t2 it2 ifs2):=by
 intro sc N X e o h env s
 simp only [ck] at h
 split at h
 . rename_i x tg iter fs tg2 iter2 fs2 csc cpos
   simp only [Bool.and_eq_true,decide_eq_true_eq] at h
   obtain ⟨⟨⟨⟨⟨⟨⟨⟨⟨⟨h1,h2⟩,h3⟩,h4⟩,h5⟩,h6⟩,h7⟩,h8⟩,h9⟩,h10⟩,h11⟩:=h
   have S:=cs_of o.scp h1
   have oc:=o.comp S h2
   have tgt:∀ (t:Tgt) (tg:Expr),ckT csc N' t tg=true→∃ g,(∀ C s0 H0 ex,L2.PG (X.comp N' csc C s0 H0 ex) tg g)∧TgOk X.K X.mg t g:=by
     intro t tg h3
     cases t with
     | nm i =>
       cases tg with
       | Name y p =>
         simp only [ckT,Bool.and_eq_true,Bool.or_eq_true,decide_eq_true_eq] at h3
         exact ⟨_,fun C s0 H0 ex=>pg_nm (oc C s0 H0 ex).scp h3.1 h3.2,tg_name⟩
       | _=>cases h3
     | nms is =>
       cases tg with
       | Tuple es k p =>
         simp only [ckT,Bool.and_eq_true,decide_eq_true_eq] at h3
         refine ⟨_,fun C s0 H0 ex=>?_,tg_names (is:=is)⟩
         obtain ⟨a,b,c⟩:=pgs_names (oc C s0 H0 ex).scp h3.1
         exact L2.pg_tup (X:=X.comp N' csc C s0 H0 ex) o.calm a b c
       | _=>cases h3
   obtain ⟨g,pg,tg'⟩:=tgt t tg h3
   obtain ⟨g2,pg2,tg2'⟩:=tgt t2 tg2 h6
   have rule:=L2.pe_comp2 (cpos:=cpos) (elt:=x) (ifs:=fs) (ifs2:=fs2) (ts:=uTs X.K X.mg (callN T n) T.gl ifs) (ts2:=uTs X.K X.mg (callN T n) T.gl ifs2) (wi2:=uI X.K X.mg (callN T n) T.gl it2) (te:=uE X.K X.mg (callN T n) T.gl elt) o.calm S (pi_u (tg:=tg) fun env s=>ji _ _ _ _ _ o h4 env s) pg (fun C s0 H0 ex=>(jc _ _ _ _ (oc C s0 H0 ex) h5).2.2)
     (fun C s0 H0 ex=>pi_u (X:=X.comp N' csc C s0 H0 ex) (tg:=tg2) fun env s=>ji2 _ _ _ _ _ (oc C s0 H0 ex) h7 env s) pg2 (fun C s0 H0 ex=>(jc2 _ _ _ _ (oc C s0 H0 ex) h8).2.2)
     (fun C s0 H0 ex=>pe_u (X:=X.comp N' csc C s0 H0 ex) fun env s=>je _ _ _ _ (oc C s0 H0 ex) h9 env s) (plain_fold h10) (fun env=>plain_fold h11)
   refine pe_imp rule fun σ H Q hq=>comp_read (env:=env) (s:=s) (chk:=true) (m:=m) (body:=turnB2 (callN T n) T.gl elt ifs t2 it2 ifs2) tg' turnB2_grows (fun acc ρ0 H0 hn=>turnB2_ok hn tg2') ?_ fun z=>by cases z
   simp only [true_implies]; exact hq
 . cases h
theorem jL_nil:JL T n .nil:=by
 intro sc N X es o h
 simp only [ckL] at h
 split at h
 . exact ⟨fun _ env s=>jes_nil,⟨fun e es' pos z=>(nomatch z),⟨fun e es' pos z=>(nomatch z),fun y z=>(nomatch z)⟩⟩⟩
 . cases h
theorem jL_cons {a:Ex} {as:Exs} (ja:JE T n a) (jl:JL T n as):JL T n (.cons a as):=by
 intro sc N X es o h
 simp only [ckL] at h
 split at h
 . rename_i e es
   simp only [Bool.and_eq_true] at h
   obtain ⟨h1,h2⟩:=h
   obtain ⟨l1,l2,l3,l4⟩:=jl _ _ _ _ o h2
   refine ⟨fun hp env s=>?_,fun e' es' pos z env s=>?_,fun e' es' pos z env s=>?_,fun y z hp=>?_⟩
   . rw [plains,Bool.and_eq_true] at hp
     exact jes_cons hp.1 (ja _ _ _ _ o h1 env s) fun s1=>l1 hp.2 env s1
   . cases as with
     | nil =>
       simp only [ckL] at h2
       split at h2
       . exact L2.pe_one (ja _ _ _ _ o h1 env s)
       . cases h2
     | cons b as' =>
       cases es with
       | nil=>cases h2
       | cons y ys=>exact je_and (ja _ _ _ _ o h1 env s) fun s1=>l2 y ys pos rfl env s1
   . cases as with
     | nil =>
       simp only [ckL] at h2
       split at h2
       . exact L2.pe_one (ja _ _ _ _ o h1 env s)
       . cases h2
     | cons b as' =>
       cases es with
       | nil=>cases h2
       | cons y ys=>exact je_or (ja _ _ _ _ o h1 env s) fun s1=>l3 y ys pos rfl env s1
   . cases z
     cases as with
     | nil=>exact ⟨a,rfl,fun env s=>ja _ _ _ _ o h1 env s⟩
     | cons _ _=>cases h2
 . cases h
theorem jO_no:JO T n .no:=by
 intro sc N X e o h
 simp only [ckO] at h
 split at h
 . exact ⟨fun env s=>jo_no,.inl ⟨rfl,fun env s1=>rfl⟩⟩
 . cases h
theorem jO_yes {a:Ex} (ja:JE T n a):JO T n (.yes a):=by
 intro sc N X e o h
 simp only [ckO] at h
 split at h
 . refine ⟨fun env s=>jo_yes (ja _ _ _ _ o h env s),.inr ⟨_,rfl,fun env s1 s2 z=>?_⟩⟩
   have z':((evE (callN T n) T.gl env a s1).bind fun v s1=>match v with | .int i=>.ok (some i) s1 | _=>.stuck)=.ok none s2:=z
   cases hv:evE (callN T n) T.gl env a s1 with
   | ok v s3=>rw [hv] at z'; cases v <;> cases z'
   | exc _ _ _=>rw [hv] at z'; cases z'
   | stuck=>rw [hv] at z'; cases z'
 . cases h
theorem jC_not {c:Cn} (jc:JC T n c):JC T n (.not c):=by
 intro sc N X e o h env s
 simp only [ckC] at h
 split at h
 . exact jt_not (jc _ _ _ _ o h env s)
 . cases h
theorem jC_and {c:Cn} {cs:Cns} (jc:JC T n c) (jcs:JCs T n cs):JC T n (.and c cs):=by
 intro sc N X e o h env s
 simp only [ckC] at h
 split at h
 . simp only [Bool.and_eq_true] at h
   exact (jw_and (jc _ _ _ _ o h.1 env s) fun s1=>(jcs _ _ _ _ o h.2).1 _ env s1).pt
 . cases h
theorem jC_or {c:Cn} {cs:Cns} (jc:JC T n c) (jcs:JCs T n cs):JC T n (.or c cs):=by
 intro sc N X e o h env s
 simp only [ckC] at h
 split at h
 . simp only [Bool.and_eq_true] at h
   exact (jw_or (jc _ _ _ _ o h.1 env s) fun s1=>(jcs _ _ _ _ o h.2).2.1 _ env s1).pt
 . cases h
theorem jCs_nil:JCs T n .nil:=by
 intro sc N X es o h
 simp only [ckCs] at h
 split at h
 . exact ⟨fun pos env s=>jw_and_nil,fun pos env s=>jw_or_nil,.nil⟩
 . cases h
theorem jCs_cons {c:Cn} {cs:Cns} (jc:JC T n c) (jcs:JCs T n cs):JCs T n (.cons c cs):=by
 intro sc N X es o h
 simp only [ckCs] at h
 split at h
 . simp only [Bool.and_eq_true] at h
   obtain ⟨a,b,d⟩:=jcs _ _ _ _ o h.2
   exact ⟨fun pos env s=>jw_and (jc _ _ _ _ o h.1 env s) fun s1=>a pos env s1,fun pos env s=>jw_or (jc _ _ _ _ o h.1 env s) fun s1=>b pos env s1,.cons (pt_u fun env s=>jc _ _ _ _ o h.1 env s) d⟩
 . cases h
theorem jI_val {a:Ex} (ja:JE T n a):JI T n (.val a):=fun sc N X e tg o h env s=>ji_val (ja _ _ _ _ o (by simpa only [ckI] using h) env s)
theorem jI_range1 {a:Ex} (ja:JE T n a):JI T n (.range1 a):=by
 intro sc N X e tg o h env s
 simp only [ckI] at h
 split at h
 . simp only [Bool.and_eq_true,decide_eq_true_eq,isGl] at h
   obtain ⟨⟨⟨rfl,h1⟩,h2⟩,h3⟩:=h
   exact ji_range1 h3 (o.scp.gl _ h1) (o.blt _ (by decide)) (ja _ _ _ _ o h2 env s)
 . cases h
theorem jI_range2 {a b:Ex} (ja:JE T n a) (jb:JE T n b):JI T n (.range2 a b):=by
 intro sc N X e tg o h env s
 simp only [ckI] at h
 split at h
 . simp only [Bool.and_eq_true,decide_eq_true_eq,isGl] at h
   obtain ⟨⟨⟨⟨⟨rfl,h1⟩,h2⟩,h3⟩,h4⟩,h5⟩:=h
   exact ji_range2 h4 h5 (o.scp.gl _ h1) (o.blt _ (by decide)) (ja _ _ _ _ o h2 env s) fun s1=>jb _ _ _ _ o h3 env s1
 . cases h
theorem jI_enum {a:Ex} (ja:JE T n a):JI T n (.enum a):=by
 intro sc N X e tg o h env s
 simp only [ckI] at h
 split at h
 . simp only [Bool.and_eq_true,decide_eq_true_eq,isGl] at h
   obtain ⟨⟨⟨rfl,h1⟩,h2⟩,h3⟩:=h
   exact ji_enum h3 (o.scp.gl _ h1) (o.blt _ (by decide)) (ja _ _ _ _ o h2 env s)
 . cases h
end
section
variable (T:Tbl) (n:Nat)
mutual
theorem jE:∀ a:Ex,JE T n a
 | .lit _=>je_lit
 | .var _=>je_var
 | .gl _=>je_gl
 | .ty _ _=>je_ty
 | .bin _ _ a b=>jE_bin (jE a) (jE b)
 | .neg a=>jE_neg (jE a)
 | .not a=>jE_not (jE a)
 | .cmp _ a b=>jE_cmp (jE a) (jE b)
 | .chain _ _ a b c=>jE_chain (jE a) (jE b) (jE c)
 | .andE a es=>jE_and (jE a) (jL es)
 | .orE a es=>jE_or (jE a) (jL es)
 | .ife c a b=>jE_ife (jC c) (jE a) (jE b)
 | .tup es=>jE_tup (jL es)
 | .lst _ es=>jE_lst (jL es)
 | .dct0=>je_dct0
 | .call _ _ es=>jE_call (jL es)
 | .blt _ _ es=>jE_blt (jL es)
 | .maxD _ _=>fun sc N X e o h=>by cases h
 | .meth _ _ a es=>jE_meth (jE a) (jL es)
 | .ix a b=>jE_ix (jE a) (jE b)
 | .sl _ a lo hi st=>jE_sl (jE a) (jO lo) (jO hi) (jO st)
 | .comp _ _ _ elt _ it ifs=>jE_comp (jE elt) (jI it) (jCs ifs)
 | .comp2 _ _ _ elt _ it ifs _ it2 ifs2=>jE_comp2 (jE elt) (jI it) (jCs ifs) (jI it2) (jCs ifs2)
 | .listRange _ _ a _=>jE_lrange (jE a)
theorem jL:∀ a:Exs,JL T n a
 | .nil=>jL_nil
 | .cons a as=>jL_cons (jE a) (jL as)
theorem jO:∀ a:OEx,JO T n a
 | .no=>jO_no
 | .yes a=>jO_yes (jE a)
theorem jC:∀ a:Cn,JC T n a
 | .val (.cmp _ a b)=>jc_cmp (jE a) (jE b)
 | .val (.chain _ _ a b c)=>jc_chain (jE a) (jE b) (jE c)
 | .val (.lit v)=>jc_val (jE (.lit v)) rfl
 | .val (.var v)=>jc_val (jE (.var v)) rfl
 | .val (.gl v)=>jc_val (jE (.gl v)) rfl
 | .val (.ty v w)=>jc_val (jE (.ty v w)) rfl
 | .val (.bin m o a b)=>jc_val (jE (.bin m o a b)) rfl
 | .val (.neg a)=>jc_val (jE (.neg a)) rfl
 | .val (.not a)=>jc_val (jE (.not a)) rfl
 | .val (.andE a b)=>jc_val (jE (.andE a b)) rfl
 | .val (.orE a b)=>jc_val (jE (.orE a b)) rfl
 | .val (.ife a b c)=>jc_val (jE (.ife a b c)) rfl
 | .val (.tup a)=>jc_val (jE (.tup a)) rfl
 | .val (.lst m a)=>jc_val (jE (.lst m a)) rfl
 | .val .dct0=>jc_val (jE .dct0) rfl
 | .val (.call a b c)=>jc_val (jE (.call a b c)) rfl
 | .val (.blt a b c)=>jc_val (jE (.blt a b c)) rfl
 | .val (.maxD a b)=>jc_val (jE (.maxD a b)) rfl
 | .val (.meth a b c d)=>jc_val (jE (.meth a b c d)) rfl
 | .val (.ix a b)=>jc_val (jE (.ix a b)) rfl
 | .val (.sl a b c d e)=>jc_val (jE (.sl a b c d e)) rfl
 | .val (.comp a b c d e f g)=>jc_val (jE (.comp a b c d e f g)) rfl
 | .val (.comp2 a b c d e f g h i j)=>jc_val (jE (.comp2 a b c d e f g h i j)) rfl
 | .val (.listRange a b c d)=>jc_val (jE (.listRange a b c d)) rfl
 | .not c=>jC_not (jC c)
 | .and c cs=>jC_and (jC c) (jCs cs)
 | .or c cs=>jC_or (jC c) (jCs cs)
theorem jCs:∀ a:Cns,JCs T n a
 | .nil=>jCs_nil
 | .cons c cs=>jCs_cons (jC c) (jCs cs)
theorem jI:∀ a:Itb,JI T n a
 | .val a=>jI_val (jE a)
 | .range1 a=>jI_range1 (jE a)
 | .range2 a b=>jI_range2 (jE a) (jE b)
 | .enum a=>jI_enum (jE a)
 | .zip _ _=>fun sc N X e tg o h=>by cases h
end
end
end M
end
section
namespace M
open PySem
section
variable (K:KF) (mg:Str→Option Value)
noncomputable def WantS (ρ:Own) (H:L2.Hp) (o:Out Fl) (D:L2.Ends):Prop:=
 match o with
 | .ok (.nx e) s'=>∀ ρ' H' σ',Ext ρ H ρ' H'→HR K mg ρ' s' H'→ER K mg ρ' H' e σ'→D.nx σ' H'
 | .ok (.bk e) s'=>∀ ρ' H' σ',Ext ρ H ρ' H'→HR K mg ρ' s' H'→ER K mg ρ' H' e σ'→D.bk σ' H'
 | .ok (.ct e) s'=>∀ ρ' H' σ',Ext ρ H ρ' H'→HR K mg ρ' s' H'→ER K mg ρ' H' e σ'→D.ct σ' H'
 | .ok (.rt v) s'=>∀ ρ' H' x,Ext ρ H ρ' H'→HR K mg ρ' s' H'→RD K mg ρ' H' v x→D.rt x H'
 | _=>False
noncomputable def tSt (env:Env) (s:Sto) (o:Out Fl):L2.TS:=fun D σ H=>∃ ρ,HR K mg ρ s H∧ER K mg ρ H env σ∧WantS K mg ρ H o D
end
section
variable {K:KF} {mg:Str→Option Value} {ρ ρ':Own} {H H':L2.Hp}
theorem WantS.mono {s1:Sto} {o:Out Fl} {D:L2.Ends} (w:WantS K mg ρ H o D) (x:Ext ρ H ρ' H') (h:HR K mg ρ' s1 H'):WantS K mg ρ' H' o D:=by
 cases o with
 | ok fl s' =>
   cases fl with
   | nx e=>exact fun ρ2 H2 σ2 x2 h2 r2=>w ρ2 H2 σ2 (x.trans h x2) h2 r2
   | bk e=>exact fun ρ2 H2 σ2 x2 h2 r2=>w ρ2 H2 σ2 (x.trans h x2) h2 r2
   | ct e=>exact fun ρ2 H2 σ2 x2 h2 r2=>w ρ2 H2 σ2 (x.trans h x2) h2 r2
   | rt v=>exact fun ρ2 H2 y x2 h2 r2=>w ρ2 H2 y (x.trans h x2) h2 r2
 | exc _ _ _=>exact w
 | stuck=>exact w
end
noncomputable def notComp:Expr→Bool
 | .ListComp .. | .SetComp .. | .DictComp ..=>false
 | _=>true
theorem swaps_no {e:Expr} {t:Option Expr} {l:Nat} {env:PySem.Env} (h:notComp e=true):swapsWith e t l env=pure false:=by cases e <;> first | rfl | cases h
theorem swaps_tup {e:Expr} {ts:List Expr} {k:Nat} {p:Pos} {l:Nat} {env:PySem.Env}:swapsWithSole [.Tuple ts k p] e l env=pure false:=by cases e <;> rfl
theorem swaps_sub {e o i:Expr} {p:Pos} {l:Nat} {env:PySem.Env}:swapsWithSole [.Subscript o i p] e l env=pure false:=by cases e <;> rfl
noncomputable def notTuple:Expr→Bool
 | .Tuple ..=>false
 | _=>true
theorem swapped_no {e:Expr} {ts:List Expr} {k:Nat} {p:Pos} {env:PySem.Env} (h:notTuple e=true):swappedStores [.Tuple ts k p] e env=pure none:=by
 cases e <;> first | (cases h; done) | rfl
theorem swapped_sub {o i e:Expr} {p:Pos} {env:PySem.Env}:swappedStores [.Subscript o i p] e env=pure none:=by cases e <;> rfl
noncomputable def swapC (sc:Scope) (ts vs:List Expr):Bool:=
 match ts with
 | [.Name x px,.Name y py]=>decide (sc.names.lookup x=some .local) && decide (sc.names.lookup y=some .local) && (px.line == py.line) && decide (x≠y) && !(vs.all (foldedForSure 8)) && !(vs.all (constantsAlone 8))
 | [.Name x px,.Name y py,.Name z pz]=>decide (sc.names.lookup x=some .local) && decide (sc.names.lookup y=some .local) && decide (sc.names.lookup z=some .local) && (px.line == py.line) && (px.line == pz.line) && decide (x≠y) && decide (x≠z) && decide (y≠z) && !(vs.all (foldedForSure 8)) && !(vs.all (constantsAlone 8))
 | _=>false
noncomputable def unswC (sc:Scope) (ts:List Expr):Bool:=ts.any (fun | .Name x _=>decide (sc.names.lookup x≠some .local) | _=>false) || decide (3 < ts.length)
theorem noStar_any {vs:List Expr} (h:plains vs=true):(vs.any fun | .Starred ..=>true | _=>false)=false:=by
 induction vs with
 | nil=>rfl
 | cons v vs ih =>
   rw [plains,Bool.and_eq_true] at h
   rw [List.any_cons,ih h.2]
   cases v <;> first | rfl | (have z:=h.1; cases z)
theorem swapped_two {x y:Str} {px py pt pt2:Pos} {kt k2:Nat} {a b:Expr} {env:PySem.Env} (hb:env.blockKind=.function) (hx:env.kindOf x=some .local) (hy:env.kindOf y=some .local) (hl:(px.line == py.line)=true) (hne:x≠y) (hp:plains [a,b]=true)
   (hf:[a,b].all (foldedForSure 8)=false) (hc:[a,b].all (constantsAlone 8)=false):swappedStores [.Tuple [.Name x px,.Name y py] kt pt] (.Tuple [a,b] k2 pt2) env=pure (some [x,y]):=by
 have hs:=noStar_any hp
 have hl':(py.line == px.line)=true:=by rw [beq_iff_eq] at hl ⊢; exact hl.symm
 unfold swappedStores
 have e1:([x,y].eraseDups.length != [x,y].length)=false:=by
   have:(y == x)=false:=by simpa using Ne.symm hne
   simp [List.eraseDups_cons,this]
 simp only [List.length_cons,List.length_nil,hb,hf,hs,hc,hx,hy,hl',List.head?_cons,Option.map_some,Option.getD_some,List.filterMap_cons,List.filterMap_nil,beq_self_eq_true,Bool.and_self,if_true]
 have hpos:(Expr.Name x px).pos.line=px.line:=rfl
 refine (if_neg (by decide)).trans ((if_neg (fun z=>Bool.false_ne_true (hs.symm.trans z))).trans ?_)
 simp only [hpos,beq_self_eq_true,hl',Bool.and_self,if_true,e1,List.length_cons,List.length_nil,bne_self_eq_false,Bool.or_self,Bool.false_eq_true,if_false]
 exact if_neg (fun z=>Bool.false_ne_true (e1.symm.trans (by rw [Bool.false_or] at z; exact z)))
theorem swapped_three {x y z:Str} {px py pz pt pt2:Pos} {kt k2:Nat} {a b c:Expr} {env:PySem.Env} (hb:env.blockKind=.function) (hx:env.kindOf x=some .local) (hy:env.kindOf y=some .local) (hz:env.kindOf z=some .local) (hl:(px.line == py.line)=true) (hl2:(px.line == pz.line)=true)
   (hne:x≠y) (hne2:x≠z) (hne3:y≠z) (hp:plains [a,b,c]=true) (hf:[a,b,c].all (foldedForSure 8)=false) (hc:[a,b,c].all (constantsAlone 8)=false):swappedStores [.Tuple [.Name x px,.Name y py,.Name z pz] kt pt] (.Tuple [a,b,c] k2 pt2) env=pure (some [x,y,z]):=by
 have hs:=noStar_any hp
 have hl':(py.line == px.line)=true:=by rw [beq_iff_eq] at hl ⊢; exact hl.symm
 have hl2':(pz.line == px.line)=true:=by rw [beq_iff_eq] at hl2 ⊢; exact hl2.symm
 unfold swappedStores
 have e1:([x,y,z].eraseDups.length != [x,y,z].length)=false:=by
   have h1:(y == x)=false:=by simpa using Ne.symm hne
   have h2:(z == x)=false:=by simpa using Ne.symm hne2
   have h3:(z == y)=false:=by simpa using Ne.symm hne3
   simp [List.eraseDups_cons,h1,h2,h3]
 simp only [List.length_cons,List.length_nil,hb,hf,hs,hc,hx,hy,hz,hl',hl2',List.head?_cons,Option.map_some,Option.getD_some,List.filterMap_cons,List.filterMap_nil,beq_self_eq_true,Bool.and_self,if_true]
 have hpos:(Expr.Name x px).pos.line=px.line:=rfl
 refine (if_neg (by decide)).trans ((if_neg (fun z=>Bool.false_ne_true (hs.symm.trans z))).trans ?_)
 simp only [hpos,beq_self_eq_true,hl',hl2',Bool.and_self,if_true,e1,List.length_cons,List.length_nil,bne_self_eq_false,Bool.or_self,Bool.false_eq_true,if_false]
 exact if_neg (fun z=>Bool.false_ne_true (e1.symm.trans (by rw [Bool.false_or] at z; exact z)))
theorem filterMap_lt {α β:Type} {f:α→Option β}:∀ {l:List α},(∃ a∈l,f a=none)→(l.filterMap f).length < l.length
 | [],⟨a,h,_⟩=>by cases h
 | b :: l,⟨a,h,e⟩=>by
   rw [List.filterMap_cons]
   have hle:=List.length_filterMap_le f l
   rcases List.mem_cons.mp h with z | z
   . subst z; rw [e]; simp only [List.length_cons]; omega
   . have:=filterMap_lt ⟨a,z,e⟩
     cases f b with
     | none=>simp only [List.length_cons]; omega
     | some _=>simp only [List.length_cons]; omega
theorem unswapped {ts vs:List Expr} {kt k2:Nat} {pt pt2:Pos} {env:PySem.Env} (h:(∃ x p,Expr.Name x p∈ts∧env.kindOf x≠some .local) ∨ 3 < ts.length):swappedStores [.Tuple ts kt pt] (.Tuple vs k2 pt2) env=pure none:=by
 unfold swappedStores
 simp only []
 split
 . rfl
 . rename_i h1
   split
   . rfl
   . rw [if_pos]
     rcases h with ⟨x,p,hm,hk⟩ | h
     . rw [Bool.or_eq_true]
       left
       rw [bne_iff_ne]
       refine Nat.ne_of_lt (filterMap_lt ⟨_,hm,?_⟩)
       have:(env.kindOf x == some .local)=false:=by simpa using hk
       simp only [this,Bool.false_and,Bool.false_eq_true,if_false]
     . exfalso
       apply h1
       have:(ts.length == 2 || ts.length == 3)=false:=by
         rw [Bool.or_eq_false_iff]
         constructor <;> (rw [beq_eq_false_iff_ne]; omega)
       rw [this]; rfl
theorem sub_assign {o i:Expr} {p:Pos} {env:PySem.Env} (h:plain i=true) (v:Value):assign (.Subscript o i p) env v=(do
     let ov ← holding [v] (eval o env)
     let iv ← holding [v,ov] (eval i env)
     standAt p
     holding [v,ov,iv] (setItem ov iv v)
     release [v,ov,iv] []):=by
 cases i <;> first | rfl | cases h
section
variable {X:L2.Cx} {env:Env} {s:Sto}
theorem ps_no {st:Stmt} {t:L2.TS} (h:∀ D σ H,¬ t D σ H):L2.PS X st t:=fun pins s σ H D I q=>(h D σ H q).elim
theorem tSt_no {o:Out Fl} (h:∀ v s',o≠.ok v s') {D:L2.Ends} {σ:L2.St} {H:L2.Hp}:¬ tSt X.K X.mg env s o D σ H:=by
 rintro ⟨ρ,_,_,w⟩
 cases o with
 | ok v s'=>exact h v s' rfl
 | exc _ _ _=>exact w
 | stuck=>exact w
theorem ps_stuck {st:Stmt} {o:Out Fl} (h:∀ v s',o≠.ok v s'):L2.PS X st (tSt X.K X.mg env s o):=ps_no fun _ _ _=>tSt_no h
theorem js_expr {e:Expr} {o:Out Val} {pos:Pos} (hn:notComp e=true) (h:L2.PE X e (tV X.K X.mg env s o)):L2.PS X (.Expr e pos) (tSt X.K X.mg env s (o.bind fun _ s1=>.ok (.nx env) s1)):=by
 cases o with
 | ok v s1=>exact ps_imp (L2.ps_expr h (swaps_no hn)) fun D σ H ⟨ρ,hr,er,w⟩=>⟨ρ,hr,er,fun ρ1 x H1 x1 hr1 r1=>w ρ1 H1 σ x1 hr1 (er.mono x1)⟩
 | exc _ _ _=>exact ps_stuck (fun _ _ e=>by cases e)
 | stuck=>exact ps_stuck (fun _ _ e=>by cases e)
theorem js_ret {e:Expr} {o:Out Val} {pos:Pos} (h:L2.PE X e (tV X.K X.mg env s o)):L2.PS X (.Return (some e) pos) (tSt X.K X.mg env s (o.bind fun v s1=>.ok (.rt v) s1)):=by
 cases o with
 | ok v s1=>exact ps_imp (L2.ps_ret h) fun D σ H ⟨ρ,hr,er,w⟩=>⟨ρ,hr,er,fun ρ1 x H1 x1 hr1 r1=>w ρ1 H1 x x1 hr1 r1⟩
 | exc _ _ _=>exact ps_stuck (fun _ _ e=>by cases e)
 | stuck=>exact ps_stuck (fun _ _ e=>by cases e)
theorem js_retN {pos:Pos}:L2.PS X (.Return none pos) (tSt X.K X.mg env s (.ok (.rt .none) s)):=ps_imp L2.ps_retN fun D σ H ⟨ρ,hr,er,w⟩=>w ρ H _ Ext.refl hr .none
theorem js_pass {pos:Pos}:L2.PS X (.Pass pos) (tSt X.K X.mg env s (.ok (.nx env) s)):=ps_imp L2.ps_pass fun D σ H ⟨ρ,hr,er,w⟩=>w ρ H _ Ext.refl hr er
theorem js_brk {pos:Pos}:L2.PS X (.Break pos) (tSt X.K X.mg env s (.ok (.bk env) s)):=ps_imp L2.ps_break fun D σ H ⟨ρ,hr,er,w⟩=>w ρ H _ Ext.refl hr er
theorem js_cont {pos:Pos}:L2.PS X (.Continue pos) (tSt X.K X.mg env s (.ok (.ct env) s)):=ps_imp L2.ps_continue fun D σ H ⟨ρ,hr,er,w⟩=>w ρ H _ Ext.refl hr er
theorem js_asg {i:Nat} {o:Out Val} {st:Stmt} {te:L2.TE} (rule:L2.PS X st (L2.tAsg te (L2.gName i))) (h:∀ σ H Q,tV X.K X.mg env s o σ H Q→te σ H Q):L2.PS X st (tSt X.K X.mg env s (o.bind fun v s1=>.ok (.nx (env.set i (some v))) s1)):=by
 cases o with
 | ok v s1=>exact ps_imp rule fun D σ H ⟨ρ,hr,er,w⟩=>h _ _ _ ⟨ρ,hr,er,fun ρ1 x H1 x1 hr1 r1=>w ρ1 H1 _ x1 hr1 ((er.mono x1).set i r1)⟩
 | exc _ _ _=>exact ps_stuck (fun _ _ e=>by cases e)
 | stuck=>exact ps_stuck (fun _ _ e=>by cases e)
theorem js_asgT {t:Tgt} {g:L2.TG} {o:Out Val} {st:Stmt} {te:L2.TE} (TG:TgOk X.K X.mg t g) (rule:L2.PS X st (L2.tAsg te g)) (h:∀ σ H Q,tV X.K X.mg env s o σ H Q→te σ H Q) :
   L2.PS X st (tSt X.K X.mg env s (o.bind fun v s1=>match bindT t v env with | some env'=>.ok (.nx env') s1 | Option.none=>.stuck)):=by
 cases o with
 | ok v s1 =>
   show L2.PS X st (tSt X.K X.mg env s (match bindT t v env with | some env'=>.ok (.nx env') s1 | Option.none=>.stuck))
   cases hb:bindT t v env with
   | none=>exact ps_stuck (fun _ _ e=>by cases e)
   | some env'=>exact ps_imp rule fun D σ H ⟨ρ,hr,er,w⟩=>h _ _ _ ⟨ρ,hr,er,fun ρ1 x H1 x1 hr1 r1=>TG ρ1 s1 H1 v x env env' σ _ hr1 r1 (er.mono x1) hb fun σ' er'=>w ρ1 H1 σ' x1 hr1 er'⟩
 | exc _ _ _=>exact ps_stuck (fun _ _ e=>by cases e)
 | stuck=>exact ps_stuck (fun _ _ e=>by cases e)
theorem ip_int (op:Bop) (m:Bool):(∃ r,L2.PIp X op.op r∧∀ (i j:Int) (H:L2.Hp) (Q:L2.VK) (v:Val) (s s':Sto),binOp m op (.int i) (.int j) s=.ok v s'→(∃ k:Int,v=.int k∧s'=s∧(Q (.int k) H→r (.int i) (.int j) H Q))) ∨ (op=.pow ∨ op=.shl ∨ op=.shr ∨ op=.band):=by
 cases op with
 | add=>exact .inl ⟨_,L2.iop_add,fun i j H Q v s s' h=>by cases h; exact ⟨_,rfl,rfl,fun q=>⟨i,j,rfl,rfl,q⟩⟩⟩
 | sub=>exact .inl ⟨_,L2.iop_sub,fun i j H Q v s s' h=>by cases h; exact ⟨_,rfl,rfl,fun q=>⟨i,j,rfl,rfl,q⟩⟩⟩
 | mul=>exact .inl ⟨_,L2.iop_mul,fun i j H Q v s s' h=>by
     simp only [binOp] at h
     split at h
     . rename_i hz; cases h; exact ⟨_,rfl,rfl,fun q=>⟨i,j,rfl,rfl,hz,q⟩⟩
     . cases h⟩
 | fdiv=>exact .inl ⟨_,L2.iop_fdiv,fun i j H Q v s s' h=>by
     simp only [binOp] at h
     split at h
     . rename_i hz; cases h; exact ⟨_,rfl,rfl,fun q=>⟨i,j,rfl,rfl,hz,q⟩⟩
     . cases h⟩
 | mod=>exact .inl ⟨_,L2.iop_mod,fun i j H Q v s s' h=>by
     simp only [binOp] at h
     split at h
     . rename_i hz; cases h; exact ⟨_,rfl,rfl,fun q=>⟨i,j,rfl,rfl,hz,q⟩⟩
     . cases h⟩
 | pow=>exact .inr (.inl rfl)
 | shl=>exact .inr (.inr (.inl rfl))
 | shr=>exact .inr (.inr (.inr (.inl rfl)))
 | band=>exact .inr (.inr (.inr (.inr rfl)))
theorem js_aug {i:Nat} {x:Str} {e:Expr} {op:Bop} {f:Sto→Out Val} {pos pos':Pos} (hop:¬ (op=.pow ∨ op=.shl ∨ op=.shr ∨ op=.band)) (hN:X.N.Nodup) (hi:X.N[i]?=some x) (hx:L2.Loc X.env.scope x) (hf:X.fn x=true ∨ X.env.scope.names.lookup x=some .local) (h:∀ s,L2.PE X e (tV X.K X.mg env s (f s))) :
   L2.PS X (.AugAssign (.Name x pos') op.op e pos) (tSt X.K X.mg env s (match env[i]? with
   | some (some (.int x))=>(f s).bind fun v s1=>match v with
     | .int y=>(binOp false op (.int x) (.int y) s1).bind fun z s2=>.ok (.nx (env.set i (some z))) s2
     | _=>.stuck
   | _=>.stuck)):=by
 rcases ip_int (X:=X) op false with ⟨r,hr0,hq⟩ | z
 . cases he:env[i]? with
   | none=>exact ps_stuck (fun _ _ e=>by cases e)
   | some ov =>
     cases ov with
     | none=>exact ps_stuck (fun _ _ e=>by cases e)
     | some v0 =>
       cases v0 with
       | int a =>
         have h':=h s
         simp only []
         cases hv:f s with
         | ok v s1 =>
           rw [hv] at h'
           cases v with
           | int b =>
             simp only [bind_ok]
             cases hb:binOp false op (.int a) (.int b) s1 with
             | ok z s2 =>
               obtain ⟨k,rfl,rfl,q⟩:=hq a b (fun _=>none) (fun _ _=>True) z s1 s2 hb
               refine ps_imp (L2.ps_aug hN hi hx h' hr0 hf) fun D σ H ⟨ρ,hr,er,w⟩=>?_
               obtain ⟨xv,e1,e2⟩:=er.at_ i _ he
               cases e2
               refine ⟨_,e1,ρ,hr,er,fun ρ1 y H1 x1 hr1 r1=>?_⟩
               cases r1
               obtain ⟨k',e3,_,q'⟩:=hq a b H1 (fun z H2=>D.nx (σ.set i (some z)) H2) _ _ _ hb
               cases e3
               exact q' (w ρ1 H1 _ x1 hr1 ((er.mono x1).set i (.int _)))
             | exc _ _ _=>exact ps_stuck (fun _ _ e=>by cases e)
             | stuck=>exact ps_stuck (fun _ _ e=>by cases e)
           | _=>exact ps_stuck (fun _ _ e=>by cases e)
         | exc _ _ _=>exact ps_stuck (fun _ _ e=>by cases e)
         | stuck=>exact ps_stuck (fun _ _ e=>by cases e)
       | _=>exact ps_stuck (fun _ _ e=>by cases e)
 . exact absurd z hop
theorem js_setIx {a i e:Expr} {o:Out Val} {f2 f3:Sto→Out Val} {p pos:Pos} (hi0:plain i=true) (h1:L2.PE X e (tV X.K X.mg env s o)) (h2:∀ s1,L2.PE X a (tV X.K X.mg env s1 (f2 s1))) (h3:∀ s1,L2.PE X i (tV X.K X.mg env s1 (f3 s1))) :
   L2.PS X (.Assign [.Subscript a i p] e pos) (tSt X.K X.mg env s (o.bind fun v s1=>(f2 s1).bind fun x s2=>(f3 s2).bind fun y s3=>match x,y with
     | .ref r,.int k=>(match s3[r]? with
       | some (.lst vs)=>(match L2.ixN vs.length k with | some j=>.ok (.nx env) (upd s3 r (vs.set j v)) | Option.none=>.stuck)
       | Option.none=>.stuck)
     | _,_=>.stuck)):=by
 cases o with
 | ok v s1 =>
   have h2':=h2 s1
   simp only [bind_ok]
   cases hb:f2 s1 with
   | ok x s2 =>
     rw [hb] at h2'
     have h3':=h3 s2
     simp only [bind_ok]
     cases hc:f3 s2 with
     | ok y s3 =>
       rw [hc] at h3'
       simp only [bind_ok]
       have rule:L2.PS X (.Assign [.Subscript a i p] e pos) (L2.tAsg _ (L2.gSub _ _ L2.rSetL)):=L2.ps_asg h1 (L2.pg_sub h2' h3' L2.set_list (sub_assign hi0)) swaps_sub swapped_sub
       cases x with
       | ref r =>
         cases y with
         | int k =>
           simp only []
           cases hs:s3[r]? with
           | none=>exact ps_stuck (fun _ _ e=>by cases e)
           | some cl =>
             cases cl with
             | lst vs =>
               simp only []
               cases hj:L2.ixN vs.length k with
               | none=>exact ps_stuck (fun _ _ e=>by cases e)
               | some j =>
                 refine ps_imp rule fun D σ H ⟨ρ,hr,er,w⟩=>⟨ρ,hr,er,fun ρ1 xv H1 x1 hr1 r1=>⟨ρ1,hr1,er.mono x1,fun ρ2 xo H2 x2 hr2 r2=>⟨ρ2,hr2,(er.mono x1).mono x2,fun ρ3 xi H3 x3 hr3 r3=>?_⟩⟩⟩
                 cases r3
                 have r2':=r2.mono x3
                 cases r2' with
                 | ref e0 =>
                   obtain ⟨b',xs,e1,e2,q⟩:=hr3.obj r _ hs
                   rw [e0] at e1; cases e1
                   have xx:=(x1.trans hr1 x2).trans hr2 x3
                   refine ⟨_,xs,k,j,rfl,rfl,e2,by rw [←q.length]; exact hj,?_⟩
                   exact w ρ3 _ σ (xx.trans hr3 (Ext.write hr3 e0 _)) (hr3.write e0 (RDs.set ((r1.mono x2).mono x3) j q)) ((er.mono xx).mono (Ext.write hr3 e0 _))
         | _=>exact ps_stuck (fun _ _ e=>by cases e)
       | _=>exact ps_stuck (fun _ _ e=>by cases e)
     | exc _ _ _=>exact ps_stuck (fun _ _ e=>by cases e)
     | stuck=>exact ps_stuck (fun _ _ e=>by cases e)
   | exc _ _ _=>exact ps_stuck (fun _ _ e=>by cases e)
   | stuck=>exact ps_stuck (fun _ _ e=>by cases e)
 | exc _ _ _=>exact ps_stuck (fun _ _ e=>by cases e)
 | stuck=>exact ps_stuck (fun _ _ e=>by cases e)
end
end M
end
section
namespace M
open PySem
section
variable {X:L2.Cx} {env:Env} {s:Sto}
theorem js_par2 {i j:Nat} {o:Out (List Val)} {st:Stmt} {ta:L2.TA} (rule:L2.PS X st (L2.tPar i j ta)) (h:∀ σ H Q,tVs X.K X.mg env s o σ H Q→ta σ H Q) :
   L2.PS X st (tSt X.K X.mg env s (o.bind fun vs s1=>if vs.length=[i,j].length then .ok (.nx (([i,j].zip vs).foldl (fun e p=>e.set p.1 (some p.2)) env)) s1 else .stuck)):=by
 cases o with
 | ok vs s1 =>
   show L2.PS X st (tSt X.K X.mg env s (if vs.length=[i,j].length then .ok (.nx (([i,j].zip vs).foldl (fun e p=>e.set p.1 (some p.2)) env)) s1 else .stuck))
   match vs with
   | [v,w] =>
     refine ps_imp rule fun D σ H ⟨ρ,hr,er,wt⟩=>h _ _ _ ⟨ρ,hr,er,fun ρ1 xs H1 x1 hr1 r1=>?_⟩
     obtain ⟨x,y,rfl,rx,ry⟩:=rds2 r1
     exact ⟨x,y,rfl,wt ρ1 H1 _ x1 hr1 (((er.mono x1).set i rx).set j ry)⟩
   | []=>exact ps_stuck (fun _ _ e=>by cases e)
   | [_]=>exact ps_stuck (fun _ _ e=>by cases e)
   | _ :: _ :: _ :: r=>exact ps_stuck (fun _ _ e=>by simp at e)
 | exc _ _ _=>exact ps_stuck (fun _ _ e=>by cases e)
 | stuck=>exact ps_stuck (fun _ _ e=>by cases e)
theorem rds3 {K:KF} {mg:Str→Option Value} {ρ:Own} {H:L2.Hp} {v w z:Val} {xs:List L2.V} (r:RDs K mg ρ H [v,w,z] xs):∃ x y t,xs=[x,y,t]∧RD K mg ρ H v x∧RD K mg ρ H w y∧RD K mg ρ H z t:=by
 cases r with
 | cons r1 r2 =>
   obtain ⟨y,t,rfl,r3,r4⟩:=rds2 r2
   exact ⟨_,_,_,rfl,r1,r3,r4⟩
theorem js_par3 {i j k:Nat} {o:Out (List Val)} {st:Stmt} {ta:L2.TA} (rule:L2.PS X st (L2.tPar3 i j k ta)) (h:∀ σ H Q,tVs X.K X.mg env s o σ H Q→ta σ H Q) :
   L2.PS X st (tSt X.K X.mg env s (o.bind fun vs s1=>if vs.length=[i,j,k].length then .ok (.nx (([i,j,k].zip vs).foldl (fun e p=>e.set p.1 (some p.2)) env)) s1 else .stuck)):=by
 cases o with
 | ok vs s1 =>
   show L2.PS X st (tSt X.K X.mg env s (if vs.length=[i,j,k].length then .ok (.nx (([i,j,k].zip vs).foldl (fun e p=>e.set p.1 (some p.2)) env)) s1 else .stuck))
   match vs with
   | [v,w,z] =>
     refine ps_imp rule fun D σ H ⟨ρ,hr,er,wt⟩=>h _ _ _ ⟨ρ,hr,er,fun ρ1 xs H1 x1 hr1 r1=>?_⟩
     obtain ⟨x,y,t,rfl,rx,ry,rt⟩:=rds3 r1
     exact ⟨x,y,t,rfl,wt ρ1 H1 _ x1 hr1 ((((er.mono x1).set i rx).set j ry).set k rt)⟩
   | []=>exact ps_stuck (fun _ _ e=>by cases e)
   | [_]=>exact ps_stuck (fun _ _ e=>by cases e)
   | [_,_]=>exact ps_stuck (fun _ _ e=>by cases e)
   | _ :: _ :: _ :: _ :: r=>exact ps_stuck (fun _ _ e=>by simp at e)
 | exc _ _ _=>exact ps_stuck (fun _ _ e=>by cases e)
 | stuck=>exact ps_stuck (fun _ _ e=>by cases e)
noncomputable def uSs (K:KF) (mg:Str→Option Value) (Φ:Calls) (G:Str→Option Val) (b:Sms):L2.TS:=fun D σ H=>∃ env s,tSt K mg env s (exSs Φ G env b s) D σ H
theorem js_if {c:Expr} {a b:List Stmt} {o:Out Bool} {f2 f3:Sto→Out Fl} {ta tb:L2.TS} {pos:Pos} (hc:L2.PT X c (tT X.K X.mg env s o)) (ha:L2.PSs X a ta) (hb:L2.PSs X b tb) (ia:∀ s1 D σ H,tSt X.K X.mg env s1 (f2 s1) D σ H→ta D σ H) (ib:∀ s1 D σ H,tSt X.K X.mg env s1 (f3 s1) D σ H→tb D σ H) :
   L2.PS X (.If c a b pos) (tSt X.K X.mg env s (o.bind fun t s1=>if t then f2 s1 else f3 s1)):=by
 cases o with
 | ok v s1 =>
   refine ps_imp (L2.ps_if hc ha hb) fun D σ H ⟨ρ,hr,er,wt⟩=>⟨ρ,hr,er,fun ρ1 x H1 x1 hr1 r1=>?_⟩
   have wt':=wt.mono x1 hr1
   cases r1
   cases v with
   | true=>exact L2.iteT (ia s1 D σ H1 ⟨ρ1,hr1,er.mono x1,wt'⟩)
   | false=>exact L2.iteF (ib s1 D σ H1 ⟨ρ1,hr1,er.mono x1,wt'⟩)
 | exc _ _ _=>exact ps_stuck (fun _ _ e=>by cases e)
 | stuck=>exact ps_stuck (fun _ _ e=>by cases e)
theorem for_read {K:KF} {mg:Str→Option Value} {r:Src} {J:L2.It} {t:Tgt} {g:L2.TG} {body:Env→Sto→Out Fl} {tb:L2.TS} {D:L2.Ends} {ρ:Own} {H:L2.Hp} {σ:L2.St} (W:Walk K mg ρ H r J) (TG:TgOk K mg t g) (hb:∀ env s D σ H,tSt K mg env s (body env s) D σ H→tb D σ H)
   (hr:HR K mg ρ s H) (er:ER K mg ρ H env σ) (w:WantS K mg ρ H (loopF r t body r.xs env s) D):L2.rLoop J g tb D σ H:=by
 refine for_walk (n:=r.xs.length) (fun i σ2 H2=>∃ ρ2 s2 env2,HR K mg ρ2 s2 H2∧ER K mg ρ2 H2 env2 σ2∧Ext ρ H ρ2 H2∧loopF r t body (r.xs.drop i) env2 s2=loopF r t body r.xs env s) ⟨ρ,s,env,hr,er,Ext.refl,by rw [List.drop_zero]⟩ ?_ ?_
 . rintro σ2 H2 ⟨ρ2,s2,env2,hr2,er2,x2,h2⟩
   rw [List.drop_length,loopF] at h2
   split at h2
   . rename_i ho
     rw [←h2] at w
     exact ⟨W.stop ρ2 H2 s2 _ x2.mv hr2 ho rfl,w ρ2 H2 σ2 x2 hr2 er2⟩
   . rw [←h2] at w; exact w.elim
 . rintro i σ2 H2 hi ⟨ρ2,s2,env2,hr2,er2,x2,h2⟩
   rw [List.drop_eq_getElem_cons hi,loopF] at h2
   split at h2
   . rename_i ho
     obtain ⟨hgo,hy⟩:=W.go ρ2 H2 s2 i (r.xs[i]) x2.mv hr2 ho (List.getElem?_eq_getElem hi)
     refine ⟨hgo,fun x H3 y=>?_⟩
     obtain ⟨hH,rx⟩:=hy x H3 y
     split at h2
     . rw [←h2] at w; exact w.elim
     . rename_i env' he
       have C3:HR K mg ρ2 s2 H3∧Ext ρ2 H2 ρ2 H3:=by
         rcases hH with e | ⟨q,o,hq,e⟩
         . subst e; exact ⟨hr2,Ext.refl⟩
         . subst e; exact ⟨hr2.more hq o,Ext.new hr2 hq o⟩
       have x3:=x2.trans hr2 C3.2
       refine TG ρ2 s2 H3 _ x env2 env' σ2 _ C3.1 rx (er2.mono C3.2) he fun σ4 er4=>hb env' s2 _ σ4 H3 ⟨ρ2,C3.1,er4,?_⟩
       cases hc:body env' s2 with
       | ok fl s5 =>
         rw [hc] at h2
         simp only [bind_ok] at h2
         cases fl with
         | nx e=>exact fun ρ5 H5 σ5 x5 hr5 er5=>⟨ρ5,s5,e,hr5,er5,x3.trans C3.1 x5,h2⟩
         | ct e=>exact fun ρ5 H5 σ5 x5 hr5 er5=>⟨ρ5,s5,e,hr5,er5,x3.trans C3.1 x5,h2⟩
         | bk e =>
           simp only [] at h2
           rw [←h2] at w
           exact fun ρ5 H5 σ5 x5 hr5 er5=>w ρ5 H5 σ5 (x3.trans C3.1 x5) hr5 er5
         | rt v =>
           simp only [] at h2
           rw [←h2] at w
           exact fun ρ5 H5 y5 x5 hr5 r5=>w ρ5 H5 y5 (x3.trans C3.1 x5) hr5 r5
       | exc _ _ _=>rw [hc] at h2; simp only [bind_exc] at h2; rw [←h2] at w; exact w.elim
       | stuck=>rw [hc] at h2; simp only [bind_stuck] at h2; rw [←h2] at w; exact w.elim
   . rw [←h2] at w; exact w.elim
theorem js_for {Φ:Calls} {G:Str→Option Val} {it:Itb} {t:Tgt} {b:Sms} {tg iter:Expr} {body:List Stmt} {g:L2.TG} {pos:Pos} (hx:X.xe=fun _ _=>False) (hc:X.calm=true) (hp:plain iter=true) (hi:∀ env s,L2.PI X tg iter (tI (K:=X.K) (mg:=X.mg) env s (evIt Φ G env it s))) (hg:L2.PG X tg g) (TG:TgOk X.K X.mg t g)
   (hb:L2.PSs X body (uSs X.K X.mg Φ G b)):L2.PS X (.For tg iter body [] pos) (tSt X.K X.mg env s ((evIt Φ G env it s).bind fun r s1=>loopF r t (fun e s'=>exSs Φ G e b s') r.xs env s1)):=by
 have hpass:PassesOwn (model X.prog X.w) X.A X.env X.xe:=by rw [hx]; exact PassesOwn.never
 refine ps_imp (L2.ps_for hpass hc (pi_u hi) hg hb (plain_fold hp)) fun D σ H ⟨ρ,hr,er,w⟩=>⟨env,s,ρ,hr,er,?_⟩
 cases hv:evIt Φ G env it s with
 | ok r s1 =>
   rw [hv] at w
   exact fun ρ1 H1 J x1 hr1 W=>for_read W TG (fun env s D σ H h=>⟨env,s,h⟩) hr1 (er.mono x1) (w.mono x1 hr1)
 | exc _ _ _=>rw [hv] at w; exact w.elim
 | stuck=>rw [hv] at w; exact w.elim
theorem while_read {K:KF} {mg:Str→Option Value} {c:Env→Sto→Out Bool} {body:Env→Sto→Out Fl} {tc:L2.TT} {tb:L2.TS} {D:L2.Ends} {ρ:Own} {H:L2.Hp} {σ:L2.St} {n:Nat} (hc:∀ env s σ H Q,tT K mg env s (c env s) σ H Q→tc σ H Q) (hb:∀ env s D σ H,tSt K mg env s (body env s) D σ H→tb D σ H)
   (hr:HR K mg ρ s H) (er:ER K mg ρ H env σ) (w:WantS K mg ρ H (loopW c body n env s) D):L2.tWhile tc tb D σ H:=by
 refine ⟨fun m σ2 H2=>∃ ρ2 s2 env2,HR K mg ρ2 s2 H2∧ER K mg ρ2 H2 env2 σ2∧Ext ρ H ρ2 H2∧loopW c body m env2 s2=loopW c body n env s,⟨n,ρ,s,env,hr,er,Ext.refl,rfl⟩,?_⟩
 rintro m σ2 H2 ⟨ρ2,s2,env2,hr2,er2,x2,h2⟩
 cases m with
 | zero=>rw [loopW] at h2; rw [←h2] at w; exact w.elim
 | succ m =>
   rw [loopW] at h2
   refine hc env2 s2 σ2 H2 _ ⟨ρ2,hr2,er2,?_⟩
   cases hv:c env2 s2 with
   | ok t s3 =>
     rw [hv] at h2
     simp only [bind_ok] at h2
     intro ρ3 t' H3 x3 hr3 e3
     cases e3
     have x3':=x2.trans hr2 x3
     cases t with
     | true =>
       refine L2.iteT ⟨_,fun σ' H' p=>⟨m,Nat.lt_succ_self m,p⟩,hb env2 s3 _ σ2 H3 ⟨ρ3,hr3,er2.mono x3,?_⟩⟩
       simp only [if_true] at h2
       cases hbd:body env2 s3 with
       | ok fl s5 =>
         rw [hbd] at h2
         simp only [bind_ok] at h2
         cases fl with
         | nx e=>exact fun ρ5 H5 σ5 x5 hr5 er5=>⟨ρ5,s5,e,hr5,er5,x3'.trans hr3 x5,h2⟩
         | ct e=>exact fun ρ5 H5 σ5 x5 hr5 er5=>⟨ρ5,s5,e,hr5,er5,x3'.trans hr3 x5,h2⟩
         | bk e =>
           simp only [] at h2
           rw [←h2] at w
           exact fun ρ5 H5 σ5 x5 hr5 er5=>w ρ5 H5 σ5 (x3'.trans hr3 x5) hr5 er5
         | rt v =>
           simp only [] at h2
           rw [←h2] at w
           exact fun ρ5 H5 y5 x5 hr5 r5=>w ρ5 H5 y5 (x3'.trans hr3 x5) hr5 r5
       | exc _ _ _=>rw [hbd] at h2; simp only [bind_exc] at h2; rw [←h2] at w; exact w.elim
       | stuck=>rw [hbd] at h2; simp only [bind_stuck] at h2; rw [←h2] at w; exact w.elim
     | false =>
       simp only [Bool.false_eq_true,if_false] at h2
       rw [←h2] at w
       exact L2.iteF (w ρ3 H3 σ2 x3' hr3 (er2.mono x3))
   | exc _ _ _=>rw [hv] at h2; simp only [bind_exc] at h2; rw [←h2] at w; exact w.elim
   | stuck=>rw [hv] at h2; simp only [bind_stuck] at h2; rw [←h2] at w; exact w.elim
theorem js_while {Φ:Calls} {G:Str→Option Val} {c:Cn} {b:Sms} {ce:Expr} {body:List Stmt} {pos:Pos} (hx:X.xe=fun _ _=>False) (hc:∀ env s,L2.PT X ce (tT X.K X.mg env s (evT Φ G env c s))) (hb:L2.PSs X body (uSs X.K X.mg Φ G b)) :
   L2.PS X (.While ce body [] pos) (tSt X.K X.mg env s (loopW (fun e s'=>evT Φ G e c s') (fun e s'=>exSs Φ G e b s') WHILE env s)):=by
 have hpass:PassesOwn (model X.prog X.w) X.A X.env X.xe:=by rw [hx]; exact PassesOwn.never
 exact ps_imp (L2.ps_while hpass (pt_u hc) hb) fun D σ H ⟨ρ,hr,er,w⟩=>while_read (fun env s σ H Q h=>⟨env,s,h⟩) (fun env s D σ H h=>⟨env,s,h⟩) hr er w
theorem jss_nil:L2.PSs X [] (tSt X.K X.mg env s (.ok (.nx env) s)):=pss_imp L2.pss_nil fun D σ H ⟨ρ,hr,er,w⟩=>w ρ H σ Ext.refl hr er
theorem jss_cons {st:Stmt} {rest:List Stmt} {o:Out Fl} {f:Env→Sto→Out Fl} {tr:L2.TS} (h1:L2.PS X st (tSt X.K X.mg env s o)) (h2:L2.PSs X rest tr) (i2:∀ env s D σ H,tSt X.K X.mg env s (f env s) D σ H→tr D σ H) :
   L2.PSs X (st :: rest) (tSt X.K X.mg env s (o.bind fun fl s1=>match fl with | .nx e=>f e s1 | fl=>.ok fl s1)):=by
 refine pss_imp (L2.pss_cons h1 h2) fun D σ H ⟨ρ,hr,er,w⟩=>⟨ρ,hr,er,?_⟩
 cases o with
 | ok fl s1 =>
   simp only [bind_ok] at w
   cases fl with
   | nx e=>exact fun ρ1 H1 σ1 x1 hr1 er1=>i2 e s1 D σ1 H1 ⟨ρ1,hr1,er1,w.mono x1 hr1⟩
   | bk e=>exact w
   | ct e=>exact w
   | rt v=>exact w
 | exc _ _ _=>exact w.elim
 | stuck=>exact w.elim
end
end M
end
section
namespace M
open PySem
mutual
noncomputable def ckS (sc:Scope) (N:List Str):Sm→Stmt→Bool
 | .expr e,st=>(match st with | .Expr x _=>ck sc N e x && notComp x | _=>false)
 | .ret e,st=>(match st with | .Return (some x) _=>ck sc N e x | _=>false)
 | .retN,st=>(match st with | .Return none _=>true | _=>false)
 | .asg i e,st=>(match st with | .Assign [.Name x _] v _=>decide (N[i]?=some x) && (decide (sc.names.lookup x=some .local) || decide (sc.names.lookup x=some .cell)) && ck sc N e v | _=>false)
 | .asgT is e,st=>(match st with | .Assign [.Tuple ts _ _] v _=>allNames sc N is ts && ck sc N e v && notTuple v | _=>false)
 | .par is es,st=>(match st with | .Assign [.Tuple ts _ _] (.Tuple vs _ _) _=>allNames sc N is ts && ckL sc N es vs && plains vs && decide (is.length≤8) && decide is.Nodup && decide (ts.length=vs.length) && (swapC sc ts vs || unswC sc ts) | _=>false)
 | .aug i op e,st=>(match st with | .AugAssign (.Name x _) o v _=>decide (N[i]?=some x) && (decide (sc.names.lookup x=some .local) || decide (sc.names.lookup x=some .cell)) && decide (o=op.op) && ck sc N e v && !(decide (op=.pow) || decide (op=.shl) || decide (op=.shr) || decide (op=.band)) | _=>false)
 | .setIx o i e,st=>(match st with | .Assign [.Subscript a b _] v _=>ck sc N o a && ck sc N i b && ck sc N e v && plain b | _=>false)
 | .ifS c a b,st=>(match st with | .If t x y _=>ckC sc N c t && ckSs sc N a x && ckSs sc N b y | _=>false)
 | .forS t it b,st=>(match st with | .For tg iter body [] _=>ckT sc N t tg && ckI sc N it iter tg && ckSs sc N b body && plain iter | _=>false)
 | .whileS c b,st=>(match st with | .While t body [] _=>ckC sc N c t && ckSs sc N b body | _=>false)
 | .pass,st=>(match st with | .Pass _=>true | _=>false)
 | .brk,st=>(match st with | .Break _=>true | _=>false)
 | .cont,st=>(match st with | .Continue _=>true | _=>false)
 | .raise _,_=>true
noncomputable def ckSs (sc:Scope) (N:List Str):Sms→List Stmt→Bool
 | .nil,ss=>(match ss with | []=>true | _=>false)
 | .cons c cs,ss=>(match ss with | t :: ts=>ckS sc N c t && ckSs sc N cs ts | _=>false)
end
structure OkF (T:Tbl) (n:Nat) (sc:Scope) (N:List Str) (X:L2.Cx):Prop where
 ok:Ok T n sc N X
 esc:X.env.scope=sc
 bk:X.env.blockKind=.function
section
variable {T:Tbl} {n:Nat}
noncomputable def JS (T:Tbl) (n:Nat) (a:Sm):Prop:=∀ (sc:Scope) (N:List Str) (X:L2.Cx) (st:Stmt),OkF T n sc N X→ckS sc N a st=true→∀ env s,L2.PS X st (tSt X.K X.mg env s (exS (callN T n) T.gl env a s))
noncomputable def JSs (T:Tbl) (n:Nat) (a:Sms):Prop:=∀ (sc:Scope) (N:List Str) (X:L2.Cx) (st:List Stmt),OkF T n sc N X→ckSs sc N a st=true→∀ env s,L2.PSs X st (tSt X.K X.mg env s (exSs (callN T n) T.gl env a s))
theorem pss_u {X:L2.Cx} {b:Sms} {st:List Stmt} {Φ:Calls} {G:Str→Option Val} (h:∀ env s,L2.PSs X st (tSt X.K X.mg env s (exSs Φ G env b s))):L2.PSs X st (uSs X.K X.mg Φ G b):=fun pins s σ H D I ⟨env,t,q⟩=>h env t pins s σ H D I q
theorem jS_expr {e:Ex}:JS T n (.expr e):=by
 intro sc N X st o h env s
 simp only [ckS] at h
 split at h
 . simp only [Bool.and_eq_true] at h
   exact js_expr h.2 (jE T n e _ _ _ _ o.ok h.1 env s)
 . cases h
theorem jS_ret {e:Ex}:JS T n (.ret e):=by
 intro sc N X st o h env s
 simp only [ckS] at h
 split at h
 . exact js_ret (jE T n e _ _ _ _ o.ok h env s)
 . cases h
theorem jS_retN:JS T n .retN:=by
 intro sc N X st o h env s
 simp only [ckS] at h
 split at h
 . exact js_retN
 . cases h
theorem swaps_comp {elt:Expr} {gens:List Comprehension} {csc:Scope} {cpos py:Pos} {y:Str} {l:Nat} {env:PySem.Env}:∃ b,swapsWith (.ListComp elt gens csc cpos) (some (.Name y py)) l env=pure b:=⟨_,rfl⟩
theorem jS_asg {i:Nat} {e:Ex}:JS T n (.asg i e):=by
 intro sc N X st o h env s
 simp only [ckS] at h
 split at h
 . rename_i x px v pos
   simp only [Bool.and_eq_true,decide_eq_true_eq,Bool.or_eq_true] at h
   obtain ⟨⟨h1,h2⟩,h3⟩:=h
   obtain ⟨l1,l2⟩:=o.ok.scp.loc x h2
   have hN:X.N.Nodup:=by rw [o.ok.scp.hN]; exact o.ok.scp.nd
   have hi:X.N[i]?=some x:=by rw [o.ok.scp.hN]; exact h1
   by_cases hn:notComp v=true
   . exact js_asg (L2.ps_set hN hi l1 (jE T n e _ _ _ _ o.ok h3 env s) (swaps_no hn) l2) fun σ H Q q=>q
   . -- a comprehension
     cases e with
     | comp m N' fr elt t it ifs =>
       simp only [ck] at h3
       split at h3
       . rename_i x' tg iter fs csc cpos
         simp only [Bool.and_eq_true,decide_eq_true_eq] at h3
         obtain ⟨⟨⟨⟨⟨⟨c1,c2⟩,c3⟩,c4⟩,c5⟩,c6⟩,c7⟩:=h3
         have S:=cs_of o.ok.scp c1
         have oc:=o.ok.comp S c2
         obtain ⟨g,pg,tg'⟩:∃ g,(∀ C s0 H0 ex,L2.PG (X.comp N' csc C s0 H0 ex) tg g)∧TgOk X.K X.mg t g:=by
           cases t with
           | nm i =>
             cases tg with
             | Name y p =>
               simp only [ckT,Bool.and_eq_true,Bool.or_eq_true,decide_eq_true_eq] at c3
               exact ⟨_,fun C s0 H0 ex=>pg_nm (oc C s0 H0 ex).scp c3.1 c3.2,tg_name⟩
             | _=>cases c3
           | nms is =>
             cases tg with
             | Tuple es k p =>
               simp only [ckT,Bool.and_eq_true,decide_eq_true_eq] at c3
               refine ⟨_,fun C s0 H0 ex=>?_,tg_names (is:=is)⟩
               obtain ⟨a,b,c⟩:=pgs_names (oc C s0 H0 ex).scp c3.1
               exact L2.pg_tup (X:=X.comp N' csc C s0 H0 ex) o.ok.calm a b c
             | _=>cases c3
         have hpi:L2.PI X tg iter (uI X.K X.mg (callN T n) T.gl it):=pi_u fun env s=>jI T n it _ _ _ _ _ o.ok c4 env s
         have hts:∀ C s0 H0 ex,L2.PTs (X.comp N' csc C s0 H0 ex) fs (uTs X.K X.mg (callN T n) T.gl ifs):=fun C s0 H0 ex=>(jCs T n ifs _ _ _ _ (oc C s0 H0 ex) c5).2.2
         have hel:∀ C s0 H0 ex,L2.PE (X.comp N' csc C s0 H0 ex) x' (uE X.K X.mg (callN T n) T.gl elt):=fun C s0 H0 ex=>pe_u (X:=X.comp N' csc C s0 H0 ex) fun env s=>jE T n elt _ _ _ _ (oc C s0 H0 ex) c6 env s
         have rule:L2.PS X (.Assign [.Name x px] (.ListComp x' [⟨tg,iter,fs,0⟩] csc cpos) pos) (L2.tAsg (L2.rComp fr (uI X.K X.mg (callN T n) T.gl it) g (uTs X.K X.mg (callN T n) T.gl ifs) fun acc=>L2.tEmit acc (uE X.K X.mg (callN T n) T.gl elt)) (L2.gName i)):=by
           obtain ⟨b,hb⟩:=swaps_comp (elt:=x') (gens:=[⟨tg,iter,fs,0⟩]) (csc:=csc) (cpos:=cpos) (y:=x) (py:=px) (l:=pos.line) (env:=X.env)
           cases b with
           | true=>exact L2.ps_comp o.ok.calm S hpi pg hts hel hN hi l1 hb l2 (plain_fold c7)
           | false=>exact L2.ps_set hN hi l1 (L2.pe_comp o.ok.calm S hpi pg hts hel (plain_fold c7)) hb l2
         refine js_asg (o:=evE (callN T n) T.gl env (.comp m N' fr elt t it ifs) s) rule fun σ H Q hq=>comp_read (env:=env) (s:=s) (chk:=false) (m:=m) (body:=turnB (callN T n) T.gl elt ifs) tg' turnB_grows (fun acc ρ0 H0 hn=>turnB_ok hn) ?_ fun _ r s1 p s2 hl=>?_
         . simp only [Bool.false_eq_true,false_implies,if_true]; exact hq
         . have:=turnB_len hl
           simpa using this
       . cases h3
     | comp2 m N' fr elt t it ifs t2 it2 ifs2 =>
       simp only [ck] at h3
       split at h3
       . rename_i x' tg iter fs tg2 iter2 fs2 csc cpos
         simp only [Bool.and_eq_true,decide_eq_true_eq] at h3
         obtain ⟨⟨⟨⟨⟨⟨⟨⟨⟨⟨c1,c2⟩,c3⟩,c4⟩,c5⟩,c6⟩,c7⟩,c8⟩,c9⟩,c10⟩,c11⟩:=h3
         have S:=cs_of o.ok.scp c1
         have oc:=o.ok.comp S c2
         have tgt:∀ (t:Tgt) (tg:Expr),ckT csc N' t tg=true→∃ g,(∀ C s0 H0 ex,L2.PG (X.comp N' csc C s0 H0 ex) tg g)∧TgOk X.K X.mg t g:=by
           intro t tg c3
           cases t with
           | nm i =>
             cases tg with
             | Name y p =>
               simp only [ckT,Bool.and_eq_true,Bool.or_eq_true,decide_eq_true_eq] at c3
               exact ⟨_,fun C s0 H0 ex=>pg_nm (oc C s0 H0 ex).scp c3.1 c3.2,tg_name⟩
             | _=>cases c3
           | nms is =>
             cases tg with
             | Tuple es k p =>
               simp only [ckT,Bool.and_eq_true,decide_eq_true_eq] at c3
               refine ⟨_,fun C s0 H0 ex=>?_,tg_names (is:=is)⟩
               obtain ⟨a,b,c⟩:=pgs_names (oc C s0 H0 ex).scp c3.1
               exact L2.pg_tup (X:=X.comp N' csc C s0 H0 ex) o.ok.calm a b c
             | _=>cases c3
         obtain ⟨g,pg,tg'⟩:=tgt t tg c3
         obtain ⟨g2,pg2,tg2'⟩:=tgt t2 tg2 c6
         have hpi:L2.PI X tg iter (uI X.K X.mg (callN T n) T.gl it):=pi_u fun env s=>jI T n it _ _ _ _ _ o.ok c4 env s
         have hts:∀ C s0 H0 ex,L2.PTs (X.comp N' csc C s0 H0 ex) fs (uTs X.K X.mg (callN T n) T.gl ifs):=fun C s0 H0 ex=>(jCs T n ifs _ _ _ _ (oc C s0 H0 ex) c5).2.2
         have hpi2:∀ C s0 H0 ex,L2.PI (X.comp N' csc C s0 H0 ex) tg2 iter2 (uI X.K X.mg (callN T n) T.gl it2):=fun C s0 H0 ex=>pi_u (X:=X.comp N' csc C s0 H0 ex) fun env s=>jI T n it2 _ _ _ _ _ (oc C s0 H0 ex) c7 env s
         have hts2:∀ C s0 H0 ex,L2.PTs (X.comp N' csc C s0 H0 ex) fs2 (uTs X.K X.mg (callN T n) T.gl ifs2):=fun C s0 H0 ex=>(jCs T n ifs2 _ _ _ _ (oc C s0 H0 ex) c8).2.2
         have hel:∀ C s0 H0 ex,L2.PE (X.comp N' csc C s0 H0 ex) x' (uE X.K X.mg (callN T n) T.gl elt):=fun C s0 H0 ex=>pe_u (X:=X.comp N' csc C s0 H0 ex) fun env s=>jE T n elt _ _ _ _ (oc C s0 H0 ex) c9 env s
         have rule:L2.PS X (.Assign [.Name x px] (.ListComp x' [⟨tg,iter,fs,0⟩,⟨tg2,iter2,fs2,0⟩] csc cpos) pos) (L2.tAsg (L2.rComp fr (uI X.K X.mg (callN T n) T.gl it) g (uTs X.K X.mg (callN T n) T.gl ifs) fun acc=>L2.tInner (uI X.K X.mg (callN T n) T.gl it2) g2 (uTs X.K X.mg (callN T n) T.gl ifs2) (L2.tEmit acc (uE X.K X.mg (callN T n) T.gl elt))) (L2.gName i)):=by
           obtain ⟨b,hb⟩:=swaps_comp (elt:=x') (gens:=[⟨tg,iter,fs,0⟩,⟨tg2,iter2,fs2,0⟩]) (csc:=csc) (cpos:=cpos) (y:=x) (py:=px) (l:=pos.line) (env:=X.env)
           cases b with
           | true=>exact L2.ps_comp2 o.ok.calm S hpi pg hts hpi2 pg2 hts2 hel hN hi l1 hb l2 (plain_fold c10) (fun env=>plain_fold c11)
           | false=>exact L2.ps_set hN hi l1 (L2.pe_comp2 o.ok.calm S hpi pg hts hpi2 pg2 hts2 hel (plain_fold c10) (fun env=>plain_fold c11)) hb l2
         refine js_asg (o:=evE (callN T n) T.gl env (.comp2 m N' fr elt t it ifs t2 it2 ifs2) s) rule fun σ H Q hq=>comp_read (env:=env) (s:=s) (chk:=true) (m:=m) (body:=turnB2 (callN T n) T.gl elt ifs t2 it2 ifs2) tg' turnB2_grows (fun acc ρ0 H0 hn=>turnB2_ok hn tg2') ?_ fun z=>by cases z
         simp only [true_implies]; exact hq
       . cases h3
     | _=>exfalso; apply hn; first | (simp only [ck,ckLit] at h3; cases h3; done) | (simp only [ck,ckLit] at h3; split at h3 <;> first | rfl | (cases h3; done))
 . cases h
theorem jS_asgT {is:List Nat} {e:Ex}:JS T n (.asgT is e):=by
 intro sc N X st o h env s
 simp only [ckS] at h
 split at h
 . rename_i ts k p v pos
   simp only [Bool.and_eq_true] at h
   obtain ⟨⟨h1,h2⟩,h3⟩:=h
   obtain ⟨a,b,c⟩:=pgs_names o.ok.scp h1
   exact js_asgT (t:=.nms is) tg_names (L2.ps_asg (jE T n e _ _ _ _ o.ok h2 env s) (L2.pg_tup o.ok.calm a b c) swaps_tup (swapped_no h3)) fun σ H Q q=>q
 . cases h
theorem jS_par {is:List Nat} {es:Exs}:JS T n (.par is es):=by
 intro sc N X st o h env s
 simp only [ckS] at h
 split at h
 . rename_i ts k p vs k2 p2 pos
   simp only [Bool.and_eq_true,decide_eq_true_eq,Bool.or_eq_true] at h
   obtain ⟨⟨⟨⟨⟨⟨h1,h2⟩,h3⟩,h4⟩,h5⟩,h6⟩,h7⟩:=h
   have hes:=(jL T n es _ _ _ _ o.ok h2).1 h3 env s
   have hN:X.N.Nodup:=by rw [o.ok.scp.hN]; exact o.ok.scp.nd
   have kind:∀ x,X.env.kindOf x=sc.names.lookup x:=fun x=>by show X.env.scope.names.lookup x=_; rw [o.esc]
   rcases h7 with h7 | h7
   . unfold swapC at h7
     split at h7
     . rename_i x px y py
       simp only [Bool.and_eq_true,decide_eq_true_eq,Bool.not_eq_true'] at h7
       obtain ⟨⟨⟨⟨⟨q1,q2⟩,q3⟩,q4⟩,q5⟩,q6⟩:=h7
       match is,h1,h5 with
       | [i,j],h1,h5 =>
         simp only [allNames,Bool.and_eq_true,decide_eq_true_eq,Bool.or_eq_true] at h1
         obtain ⟨⟨i1,i2⟩,⟨j1,j2⟩,_⟩:=h1
         match vs,h6 with
         | [a,b],_ =>
           have hij:i≠j:=by rw [List.nodup_cons] at h5; exact fun z=>h5.1 (by rw [z]; exact List.mem_singleton.mpr rfl)
           exact js_par2 (L2.ps_par o.ok.calm hN (by rw [o.ok.scp.hN]; exact i1) (by rw [o.ok.scp.hN]; exact j1) hij (by rw [o.esc]; exact q1) (by rw [o.esc]; exact q2) hes
             (swapped_two o.bk (by rw [kind]; exact q1) (by rw [kind]; exact q2) q3 q4 h3 q5 q6) swaps_tup) fun σ H Q q=>q
       | [],h1,_=>exact absurd h1 (by simp [allNames])
       | [_],h1,_=>exact absurd h1 (by simp [allNames])
       | _ :: _ :: _ :: _,h1,_=>exact absurd h1 (by simp [allNames])
     . rename_i x px y py z pz
       simp only [Bool.and_eq_true,decide_eq_true_eq,Bool.not_eq_true'] at h7
       obtain ⟨⟨⟨⟨⟨⟨⟨⟨⟨q1,q2⟩,q3⟩,q4⟩,q5⟩,q6⟩,q7⟩,q8⟩,q9⟩,q10⟩:=h7
       match is,h1,h5 with
       | [i,j,l],h1,h5 =>
         simp only [allNames,Bool.and_eq_true,decide_eq_true_eq,Bool.or_eq_true] at h1
         obtain ⟨⟨i1,i2⟩,⟨j1,j2⟩,⟨l1,l2⟩,_⟩:=h1
         match vs,h6 with
         | [a,b,c],_ =>
           simp only [List.nodup_cons,List.mem_cons,List.not_mem_nil,or_false,not_or] at h5
           exact js_par3 (L2.ps_par3 o.ok.calm hN (by rw [o.ok.scp.hN]; exact i1) (by rw [o.ok.scp.hN]; exact j1) (by rw [o.ok.scp.hN]; exact l1) h5.1.1 h5.1.2 h5.2.1 (by rw [o.esc]; exact q1) (by rw [o.esc]; exact q2) (by rw [o.esc]; exact q3) hes
             (swapped_three o.bk (by rw [kind]; exact q1) (by rw [kind]; exact q2) (by rw [kind]; exact q3) q4 q5 q6 q7 q8 h3 q9 q10) swaps_tup) fun σ H Q q=>q
       | [],h1,_=>exact absurd h1 (by simp [allNames])
       | [_],h1,_=>exact absurd h1 (by simp [allNames])
       | [_,_],h1,_=>exact absurd h1 (by simp [allNames])
       | _ :: _ :: _ :: _ :: _,h1,_=>exact absurd h1 (by simp [allNames])
     . cases h7
   . have hun:(∃ x p,Expr.Name x p∈ts∧X.env.kindOf x≠some .local) ∨ 3 < ts.length:=by
       unfold unswC at h7
       simp only [Bool.or_eq_true,decide_eq_true_eq,List.any_eq_true] at h7
       rcases h7 with ⟨e,hm,he⟩ | h7
       . cases e with
         | Name x px =>
           simp only [decide_eq_true_eq] at he
           exact .inl ⟨x,px,hm,by rw [kind]; exact he⟩
         | _=>cases he
       . exact .inr h7
     obtain ⟨a,b,c⟩:=pgs_names o.ok.scp h1
     have rule:=js_asgT (t:=.nms is) (env:=env) (s:=s) tg_names (L2.ps_asg (pos:=pos) (je_tup (k:=k2) (pos:=p2) hes) (L2.pg_tup (k:=k) (pos:=p) o.ok.calm a b c) swaps_tup (unswapped hun)) fun σ H Q q=>q
     have e:((evEs (callN T n) T.gl env es s).bind fun vs s1=>if vs.length=is.length then (.ok:Fl→Sto→Out Fl) (.nx ((is.zip vs).foldl (fun e p=>e.set p.1 (some p.2)) env)) s1 else .stuck)=(((evEs (callN T n) T.gl env es s).bind fun vs s1=>if vs.length≤LINE then (.ok:Val→Sto→Out Val) (.tup vs) s1 else .stuck).bind fun v s1=>match bindT (.nms is) v env with | some env'=>(.ok:Fl→Sto→Out Fl) (.nx env') s1 | Option.none=>.stuck):=by
       cases evEs (callN T n) T.gl env es s with
       | ok ws s1 =>
         simp only [bind_ok]
         by_cases hl:ws.length=is.length
         . have hz:ws.length≤LINE:=by rw [hl]; exact Nat.le_trans h4 (by decide)
           simp only [if_pos hl,if_pos hz,bind_ok,bindT]
         . rw [if_neg hl]
           by_cases hz:ws.length≤LINE
           . simp only [if_neg hl,if_pos hz,bind_ok,bindT]
           . simp only [if_neg hz,bind_stuck]
       | exc _ _ _=>rfl
       | stuck=>rfl
     show L2.PS X _ (tSt X.K X.mg env s ((evEs (callN T n) T.gl env es s).bind fun vs s1=>if vs.length=is.length then .ok (.nx ((is.zip vs).foldl (fun e p=>e.set p.1 (some p.2)) env)) s1 else .stuck))
     rw [e]
     exact rule
 . cases h
theorem jS_aug {i:Nat} {op:Bop} {e:Ex}:JS T n (.aug i op e):=by
 intro sc N X st o h env s
 simp only [ckS] at h
 split at h
 . rename_i x px o' v pos
   simp only [Bool.and_eq_true,decide_eq_true_eq,Bool.or_eq_true,Bool.not_eq_true',Bool.or_eq_false_iff,decide_eq_false_iff_not] at h
   obtain ⟨⟨⟨⟨h1,h2⟩,rfl⟩,h3⟩,h4⟩:=h
   obtain ⟨l1,l2⟩:=o.ok.scp.loc x h2
   exact js_aug (f:=evE (callN T n) T.gl env e) (by rintro (z | z | z | z); exact h4.1.1.1 z; exact h4.1.1.2 z; exact h4.1.2 z; exact h4.2 z) (by rw [o.ok.scp.hN]; exact o.ok.scp.nd) (by rw [o.ok.scp.hN]; exact h1) l1 l2 fun s=>jE T n e _ _ _ _ o.ok h3 env s
 . cases h
theorem jS_setIx {a i e:Ex}:JS T n (.setIx a i e):=by
 intro sc N X st o h env s
 simp only [ckS] at h
 split at h
 . simp only [Bool.and_eq_true] at h
   exact js_setIx h.2 (jE T n e _ _ _ _ o.ok h.1.2 env s) (fun s1=>jE T n a _ _ _ _ o.ok h.1.1.1 env s1) fun s1=>jE T n i _ _ _ _ o.ok h.1.1.2 env s1
 . cases h
theorem jS_if {c:Cn} {a b:Sms} (ja:JSs T n a) (jb:JSs T n b):JS T n (.ifS c a b):=by
 intro sc N X st o h env s
 simp only [ckS] at h
 split at h
 . simp only [Bool.and_eq_true] at h
   exact js_if (jC T n c _ _ _ _ o.ok h.1.1 env s) (pss_u fun env s=>ja _ _ _ _ o h.1.2 env s) (pss_u fun env s=>jb _ _ _ _ o h.2 env s) (fun s1 D σ H q=>⟨env,s1,q⟩) fun s1 D σ H q=>⟨env,s1,q⟩
 . cases h
theorem jS_for {t:Tgt} {it:Itb} {b:Sms} (jb:JSs T n b):JS T n (.forS t it b):=by
 intro sc N X st o h env s
 simp only [ckS] at h
 split at h
 . simp only [Bool.and_eq_true] at h
   obtain ⟨g,pg,tg⟩:=pg_of o.ok.scp o.ok.calm h.1.1.1
   exact js_for o.ok.xe o.ok.calm h.2 (fun env s=>jI T n it _ _ _ _ _ o.ok h.1.1.2 env s) pg tg (pss_u fun env s=>jb _ _ _ _ o h.1.2 env s)
 . cases h
theorem jS_while {c:Cn} {b:Sms} (jb:JSs T n b):JS T n (.whileS c b):=by
 intro sc N X st o h env s
 simp only [ckS] at h
 split at h
 . simp only [Bool.and_eq_true] at h
   exact js_while o.ok.xe (fun env s=>jC T n c _ _ _ _ o.ok h.1 env s) (pss_u fun env s=>jb _ _ _ _ o h.2 env s)
 . cases h
theorem jS_pass:JS T n .pass:=by
 intro sc N X st o h env s
 simp only [ckS] at h
 split at h
 . exact js_pass
 . cases h
theorem jS_brk:JS T n .brk:=by
 intro sc N X st o h env s
 simp only [ckS] at h
 split at h
 . exact js_brk
 . cases h
theorem jS_cont:JS T n .cont:=by
 intro sc N X st o h env s
 simp only [ckS] at h
 split at h
 . exact js_cont
 . cases h
theorem jS_raise {e:Ex}:JS T n (.raise e):=fun sc N X st o h env s=>ps_stuck (fun _ _ e=>by cases e)
theorem jSs_nil:JSs T n .nil:=by
 intro sc N X st o h env s
 simp only [ckSs] at h
 split at h
 . exact jss_nil
 . cases h
theorem jSs_cons {c:Sm} {cs:Sms} (jc:JS T n c) (jcs:JSs T n cs):JSs T n (.cons c cs):=by
 intro sc N X st o h env s
 simp only [ckSs] at h
 split at h
 . simp only [Bool.and_eq_true] at h
   exact jss_cons (f:=fun e s=>exSs (callN T n) T.gl e cs s) (jc _ _ _ _ o h.1 env s) (pss_u fun env s=>jcs _ _ _ _ o h.2 env s) fun env s D σ H q=>⟨env,s,q⟩
 . cases h
end
section
variable (T:Tbl) (n:Nat)
mutual
theorem jS:∀ a:Sm,JS T n a
 | .expr _=>jS_expr
 | .ret _=>jS_ret
 | .retN=>jS_retN
 | .asg _ _=>jS_asg
 | .asgT _ _=>jS_asgT
 | .par _ _=>jS_par
 | .aug _ _ _=>jS_aug
 | .setIx _ _ _=>jS_setIx
 | .ifS _ a b=>jS_if (jSs a) (jSs b)
 | .forS _ _ b=>jS_for (jSs b)
 | .whileS _ b=>jS_while (jSs b)
 | .pass=>jS_pass
 | .brk=>jS_brk
 | .cont=>jS_cont
 | .raise _=>jS_raise
theorem jSs:∀ a:Sms,JSs T n a
 | .nil=>jSs_nil
 | .cons c cs=>jSs_cons (jS c) (jSs cs)
end
end
end M
end
section
namespace M
open PySem
mutual
noncomputable def refsB (n:Nat):Val→Bool
 | .ref i=>decide (i < n)
 | .tup vs=>refsBs n vs
 | .lst vs=>refsBs n vs
 | .none | .bool _ | .int _ | .str _ | .dct0 | .ctup _ | .scr _ | .fn _ | .ty _=>true
noncomputable def refsBs (n:Nat):List Val→Bool
 | []=>true
 | v :: vs=>refsB n v && refsBs n vs
end
mutual
theorem refsB_of:∀ {n:Nat} {v:Val},v.noRef=true→refsB n v=true
 | _,.ref _,h=>by cases h
 | n,.tup vs,h=>by rw [refsB]; exact refsBs_of (by simpa only [Val.noRef] using h)
 | n,.lst vs,h=>by rw [refsB]; exact refsBs_of (by simpa only [Val.noRef] using h)
 | _,.none,_=>rfl
 | _,.bool _,_=>rfl
 | _,.int _,_=>rfl
 | _,.str _,_=>rfl
 | _,.dct0,_=>rfl
 | _,.ctup _,_=>rfl
 | _,.scr _,_=>rfl
 | _,.fn _,_=>rfl
 | _,.ty _,_=>rfl
theorem refsBs_of:∀ {n:Nat} {vs:List Val},noRefs vs=true→refsBs n vs=true
 | _,[],_=>rfl
 | n,v :: vs,h=>by
   rw [noRefs,Bool.and_eq_true] at h
   rw [refsBs,refsB_of h.1,refsBs_of h.2]; rfl
end
section
variable {K:KF} {mg:Str→Option Value}
mutual
theorem RD.refs {ρ:Own} {H:L2.Hp}:∀ {v:Val} {x:L2.V},RD K mg ρ H v x→refsB ρ.o.length v=true
 | _,_,.none=>rfl
 | _,_,.bool _=>rfl
 | _,_,.int _=>rfl
 | _,_,.str _=>rfl
 | _,_,.tup _ _ r=>by rw [refsB]; exact RDs.refs r
 | _,_,.lst _ _ r=>by rw [refsB]; exact RDs.refs r
 | _,_,.dct0 _ _=>rfl
 | _,_,.ctup _=>rfl
 | _,_,.scr _=>rfl
 | _,_,.ref e=>by rw [refsB]; exact decide_eq_true (List.getElem?_eq_some_iff.mp e).1
 | _,_,.fn _=>rfl
 | _,_,.ty _=>rfl
theorem RDs.refs {ρ:Own} {H:L2.Hp}:∀ {v:List Val} {x:List L2.V},RDs K mg ρ H v x→refsBs ρ.o.length v=true
 | _,_,.nil=>rfl
 | _,_,.cons r rs=>by rw [refsBs,RD.refs r,RDs.refs rs]; rfl
end
structure Cut (ρ ρ':Own):Prop where
 pre:∃ new,ρ'.o=ρ.o++new
 hid:ρ'.h=ρ.h
theorem Cut.no {ρ ρ':Own} (c:Cut ρ ρ') {a:Addr} (n:ρ'.no a):ρ.no a:=by
 obtain ⟨new,e⟩:=c.pre
 exact ⟨fun h=>n.1 (by rw [e]; exact List.mem_append_left _ h),by rw [←c.hid]; exact n.2⟩
mutual
theorem RD.shed {ρ ρ':Own} {H:L2.Hp} (c:Cut ρ ρ'):∀ {v:Val} {x:L2.V},RD K mg ρ' H v x→refsB ρ.o.length v=true→RD K mg ρ H v x
 | _,_,.none,_=>.none
 | _,_,.bool b,_=>.bool b
 | _,_,.int i,_=>.int i
 | _,_,.str t,_=>.str t
 | _,_,.tup n e r,h=>.tup (c.no n) e (RDs.shed c r (by simpa only [refsB] using h))
 | _,_,.lst n e r,h=>.lst (c.no n) e (RDs.shed c r (by simpa only [refsB] using h))
 | _,_,.dct0 n e,_=>.dct0 (c.no n) e
 | _,_,.ctup h,_=>.ctup h
 | _,_,.scr h,_=>.scr (by
     rcases h with ⟨n,h⟩ | h
     . exact .inl ⟨c.no n,h⟩
     . exact .inr h)
 | _,_,.ref (i:=i) e,h=>.ref (by
     obtain ⟨new,e'⟩:=c.pre
     rw [refsB] at h
     rw [e',List.getElem?_append_left (of_decide_eq_true h)] at e
     exact e)
 | _,_,.fn e,_=>.fn e
 | _,_,.ty n,_=>.ty n
theorem RDs.shed {ρ ρ':Own} {H:L2.Hp} (c:Cut ρ ρ'):∀ {v:List Val} {x:List L2.V},RDs K mg ρ' H v x→refsBs ρ.o.length v=true→RDs K mg ρ H v x
 | _,_,.nil,_=>.nil
 | _,_,.cons r rs,h=>by
   rw [refsBs,Bool.and_eq_true] at h
   exact .cons (RD.shed c r h.1) (RDs.shed c rs h.2)
end
theorem okOld_at:∀ {s s':Sto} {i:Nat} {o':Cel},okOld s s'=true→i < s.length→s'[i]?=some o'→o'.noRef=true ∨ s[i]?=some o'
 | [],_,_,_,_,h,_=>by cases h
 | o :: r,[],_,_,h,_,_=>by cases h
 | o :: r,o' :: r',0,q,h,_,e=>by
   rw [okOld,Bool.and_eq_true,Bool.or_eq_true] at h
   simp only [List.getElem?_cons_zero,Option.some.injEq] at e
   subst e
   rcases h.1 with z | z
   . exact .inl z
   . right
     cases o' with
     | lst a=>cases o with
       | lst b=>simp only [Cel.beq] at z; rw [beqs_eq z]; rfl
 | o :: r,o' :: r',i + 1,q,h,hi,e=>by
   rw [okOld,Bool.and_eq_true] at h
   have:=okOld_at (i:=i) h.2 (by simpa using hi) (by simpa using e)
   simpa using this
mutual
theorem freezeV_ok {ρ ρ':Own} {H:L2.Hp} {s:Sto} (c:Cut ρ ρ') (hr:HR K mg ρ' s H):∀ {k:Nat} {v v':Val} {x:L2.V},RD K mg ρ' H v x→freezeV ρ.o.length s k v=some v'→RD K mg ρ H v' x
 | k,.ref i,v',x,r,h=>by
   have h':(if i < ρ.o.length then some (Val.ref i) else match s[i]? with
     | some (.lst vs)=>if noRefs vs then some (.lst vs) else Option.none
     | Option.none=>Option.none)=some v':=by cases k <;> exact h
   cases r with
   | ref e =>
     by_cases hi:i < ρ.o.length
     . rw [if_pos hi] at h'
       cases h'
       exact RD.shed c (.ref e) (by rw [refsB]; exact decide_eq_true hi)
     . rw [if_neg hi] at h'
       split at h'
       . rename_i vs hs
         split at h'
         . rename_i hn
           cases h'
           obtain ⟨a,xs,e1,e2,q⟩:=hr.obj i vs hs
           rw [e] at e1; cases e1
           obtain ⟨new,e'⟩:=c.pre
           have hm:=List.mem_of_getElem? e
           refine .lst ⟨fun hm'=>?_,fun hh=>?_⟩ e2 (RDs.shed c q (refsBs_of hn))
           . obtain ⟨j,hj,ej⟩:=List.getElem_of_mem hm'
             have ej':ρ'.o[j]?=ρ'.o[i]?:=by rw [e,e',List.getElem?_append_left hj,List.getElem?_eq_getElem hj,ej]
             have:=nd_ix hr.nd e (ej'.trans e)
             omega
           . exact (hr.hid _ (by rw [c.hid]; exact hh)).2 hm
         . cases h'
       . cases h'
 | k + 1,.tup vs,v',x,r,h=>by
   rw [freezeV,Option.map_eq_some_iff] at h
   obtain ⟨ws,h1,rfl⟩:=h
   cases r with
   | tup n e q=>exact .tup (c.no n) e (freezeL_ok c hr q h1)
 | 0,.tup vs,v',x,r,h=>by
   have h':(if (Val.tup vs).noRef then some (Val.tup vs) else Option.none)=some v':=h
   split at h'
   . rename_i hn; cases h'; exact RD.shed c r (refsB_of hn)
   . cases h'
 | k,.lst vs,v',x,r,h=>by
   have h':(if (Val.lst vs).noRef then some (Val.lst vs) else Option.none)=some v':=by cases k <;> exact h
   split at h'
   . rename_i hn; cases h'; exact RD.shed c r (refsB_of hn)
   . cases h'
 | k,.none,v',x,r,h=>by
   have h':some Val.none=some v':=by cases k <;> exact h
   cases h'; exact RD.shed c r rfl
 | k,.bool b,v',x,r,h=>by
   have h':some (Val.bool b)=some v':=by cases k <;> exact h
   cases h'; exact RD.shed c r rfl
 | k,.int b,v',x,r,h=>by
   have h':some (Val.int b)=some v':=by cases k <;> exact h
   cases h'; exact RD.shed c r rfl
 | k,.str b,v',x,r,h=>by
   have h':some (Val.str b)=some v':=by cases k <;> exact h
   cases h'; exact RD.shed c r rfl
 | k,.dct0,v',x,r,h=>by
   have h':some Val.dct0=some v':=by cases k <;> exact h
   cases h'; exact RD.shed c r rfl
 | k,.ctup b,v',x,r,h=>by
   have h':some (Val.ctup b)=some v':=by cases k <;> exact h
   cases h'; exact RD.shed c r rfl
 | k,.scr b,v',x,r,h=>by
   have h':some (Val.scr b)=some v':=by cases k <;> exact h
   cases h'; exact RD.shed c r rfl
 | k,.fn b,v',x,r,h=>by
   have h':some (Val.fn b)=some v':=by cases k <;> exact h
   cases h'; exact RD.shed c r rfl
 | k,.ty b,v',x,r,h=>by
   have h':some (Val.ty b)=some v':=by cases k <;> exact h
   cases h'; exact RD.shed c r rfl
theorem freezeL_ok {ρ ρ':Own} {H:L2.Hp} {s:Sto} (c:Cut ρ ρ') (hr:HR K mg ρ' s H):∀ {k:Nat} {v v':List Val} {x:List L2.V},RDs K mg ρ' H v x→freezeL ρ.o.length s k v=some v'→RDs K mg ρ H v' x
 | k,[],v',x,r,h=>by
   have h':some ([]:List Val)=some v':=by cases k <;> exact h
   cases h'; cases r; exact .nil
 | 0,_ :: _,v',x,r,h=>by cases h
 | k + 1,v :: vs,v',x,r,h=>by
   rw [freezeL] at h
   cases r with
   | cons r1 r2 =>
     split at h
     . rename_i a b ha hb
       cases h
       refine .cons ?_ (freezeL_ok c hr r2 hb)
       by_cases hn:v.noRef=true
       . rw [if_pos hn] at ha; cases ha; exact RD.shed c r1 (refsB_of hn)
       . rw [if_neg hn] at ha; exact freezeV_ok c hr r1 ha
     . cases h
end
theorem leave_ok {F:Fn} {ρ ρ':Own} {H H':L2.Hp} {s s1:Sto} {v:Val} {x:L2.V} {Q:L2.VK} (h0:HR K mg ρ s H) (w:Want K mg (RD K mg) ρ H (leave F s v s1) Q) (X:Ext ρ H ρ' H') (hr:HR K mg ρ' s1 H') (r:RD K mg ρ' H' v x):Q x H':=by
 unfold leave at w
 by_cases hk:F.keep=true
 . rw [if_pos hk] at w; exact w ρ' x H' X hr r
 . rw [if_neg hk] at w
   by_cases ho:okOld s s1=true
   . rw [if_pos ho] at w
     have c:Cut ρ ρ':=⟨by obtain ⟨new,e,_⟩:=X.pre; exact ⟨new,e⟩,X.hid⟩
     cases hf:freeze s.length s1 v with
     | none=>rw [hf] at w; exact w.elim
     | some v' =>
       rw [hf] at w
       have hlen:s.length≤s1.length:=by
         obtain ⟨new,e,_⟩:=X.pre
         rw [←h0.len,← hr.len,e,List.length_append]; omega
       refine w ρ x H' ⟨⟨[],by simp,fun a ha=>by cases ha⟩,rfl,X.keep⟩ ⟨?_,h0.nd,fun i vs e=>?_,fun a ha=>?_⟩ ?_
       . rw [List.length_take,h0.len]; omega
       . have hi:i < s.length:=by
           have:=(List.getElem?_eq_some_iff.mp e).1
           rw [List.length_take] at this; omega
         rw [List.getElem?_take_of_lt hi] at e
         obtain ⟨a,xs,e1,e2,q⟩:=hr.obj i vs e
         have e3:ρ.o[i]?=some a:=by
           obtain ⟨new,e',_⟩:=X.pre
           rw [e',List.getElem?_append_left (by rw [h0.len]; exact hi)] at e1
           exact e1
         refine ⟨a,xs,e3,e2,RDs.shed c q ?_⟩
         rcases okOld_at ho hi e with z | z
         . exact refsBs_of z
         . obtain ⟨b,ys,_,_,q'⟩:=h0.obj i vs z
           exact RDs.refs q'
       . obtain ⟨z,n⟩:=hr.hid a (by rw [X.hid]; exact ha)
         exact ⟨z,(h0.hid a ha).2⟩
       . unfold freeze at hf
         by_cases hn:v.noRef=true
         . rw [if_pos hn] at hf; cases hf; exact RD.shed c r (refsB_of hn)
         . rw [if_neg hn,← h0.len] at hf
           exact freezeV_ok c hr r hf
   . rw [if_neg ho] at w; exact w.elim
theorem start_er {ρ:Own} {H:L2.Hp} {args:List Val} {vs:List L2.V} {N:List Str} (r:RDs K mg ρ H args vs):ER K mg ρ H (startE N args) (L2.start N vs):=by
 refine ⟨by unfold startE L2.start; rw [List.length_append,List.length_append,List.length_map,List.length_map,List.length_replicate,List.length_replicate,r.length],fun i v e=>?_⟩
 unfold startE at e
 unfold L2.start
 by_cases hi:i < args.length
 . rw [List.getElem?_append_left (by simpa using hi),List.getElem?_map] at e
   rw [List.getElem?_append_left (by rw [List.length_map,← r.length]; exact hi),List.getElem?_map]
   cases ha:args[i]? with
   | none=>rw [ha] at e; cases e
   | some a =>
     rw [ha] at e
     have:a=v:=Option.some.inj (Option.some.inj e)
     subst this
     obtain ⟨x,h1,h2⟩:=r.get ha
     exact ⟨x,by rw [h1]; rfl,h2⟩
 . rw [List.getElem?_append_right (by simpa using hi),List.getElem?_replicate] at e
   split at e <;> cases e
end
noncomputable def argNames (a:Arguments):Option (List Str):=
 if a.posonlyargs.isEmpty && a.vararg.isNone && a.kwonlyargs.isEmpty && a.kw_defaults.isEmpty && a.kwarg.isNone && a.defaults.isEmpty then some (a.args.map (·.arg)) else none
noncomputable def ckFn (st:Stmt) (F:Fn):Bool:=
 match st with
 | .FunctionDef _ args body _ _ _ sc _ _ _=>decide (argNames args=some F.ps) && decide (sc.kind=.function) && !sc.isCoroutine && !sc.isGenerator && decide F.N.Nodup && decide (F.N.take F.ps.length=F.ps) &&
     F.ps.all (fun x=>decide (sc.names.lookup x=some .local) || decide (sc.names.lookup x=some .cell)) && sc.names.all (fun y=>decide (y.2≠.free)) && ckSs sc F.N F.body body
 | _=>false
theorem lookup_zip:∀ {ps:List Str} {us:List Value},ps.Nodup→us.length=ps.length→ps.filterMap (fun n=>((ps.zip us).lookup n).map (n,·))=ps.zip us:=by
 have key:∀ (ps qs:List Str) (us ws:List Value),(qs++ps).Nodup→us.length=ps.length→ws.length=qs.length→ps.filterMap (fun n=>(((qs++ps).zip (ws++us)).lookup n).map (n,·))=ps.zip us:=by
   intro ps
   induction ps with
   | nil=>intro qs us ws _ _ _; rfl
   | cons p ps ih =>
     intro qs us ws nd h1 h2
     cases us with
     | nil=>cases h1
     | cons u us =>
       have hl:((qs++p :: ps).zip (ws++u :: us)).lookup p=some u:=by
         rw [List.zip_append h2.symm]
         have:∀ (qs:List Str) (ws:List Value),p ∉ qs→((qs.zip ws)++(p :: ps).zip (u :: us)).lookup p=some u:=by
           intro qs
           induction qs with
           | nil=>intro ws _; simp
           | cons q qs ih2 =>
             intro ws hn
             cases ws with
             | nil=>simp
             | cons w ws =>
               have hpq:(p == q)=false:=by
                 have:p≠q:=fun z=>hn (by rw [z]; exact List.mem_cons_self)
                 simpa using this
               rw [List.zip_cons_cons,List.cons_append,List.lookup_cons,hpq]
               exact ih2 ws fun z=>hn (List.mem_cons_of_mem _ z)
         refine this qs ws fun z=>?_
         rw [List.nodup_append] at nd
         exact nd.2.2 p z p List.mem_cons_self rfl
       rw [List.filterMap_cons,hl]
       have:=ih (qs++[p]) us (ws++[u]) (by simpa using nd) (by simpa using h1) (by simp [h2])
       rw [List.append_assoc,List.append_assoc] at this
       exact congrArg ((p,u) :: ·) this
 intro ps us nd h
 simpa using key ps [] us [] (by simpa using nd) h rfl
theorem lookup_some:∀ {ps:List Str} {us:List Value},us.length=ps.length→∀ n∈ps,((ps.zip us).lookup n).isNone=false
 | [],_,_,n,h=>by cases h
 | p :: ps,[],h,_,_=>by cases h
 | p :: ps,u :: us,h,n,hn=>by
   rw [List.zip_cons_cons,List.lookup_cons]
   cases hb:(n == p) with
   | true=>rfl
   | false =>
     have:n≠p:=by simpa using hb
     rcases List.mem_cons.mp hn with z | z
     . exact absurd z this
     . exact lookup_some (by simpa using h) n z
theorem bind_all {x qual:Str} {a:Arguments} {body:List Stmt} {sc:Scope} {kV doc pm cdv ct:Value} {an:Option Addr} {ps:List Str} (h:argNames a=some ps) (nd:ps.Nodup) (us:List Value) (hl:us.length=ps.length) :
   bindArgs (PySem.W.fnOf x qual a body sc .none kV doc pm an cdv ct) ⟨us,[]⟩=pure (ps.zip us):=by
 unfold argNames at h
 split at h
 . rename_i hc
   simp only [Bool.and_eq_true,List.isEmpty_iff,Option.isNone_iff_eq_none] at hc
   obtain ⟨⟨⟨⟨⟨h1,h2⟩,h3⟩,h4⟩,h5⟩,h6⟩:=hc
   cases h
   obtain ⟨po,ar,va,ko,kd,kw,df⟩:=a
   simp only at h1 h2 h3 h4 h5 h6 hl nd ⊢
   subst h1 h2 h3 h4 h5 h6
   have hm:((ar.map (·.arg)).take ((ar.map (·.arg)).length - 0)).filter (fun n=>(((ar.map (·.arg)).zip us).lookup n).isNone)=[]:=by
     rw [List.filter_eq_nil_iff]
     intro n hn
     rw [lookup_some hl n (List.mem_of_mem_take hn)]
     decide
   unfold bindArgs
   have hd:seqItems? Value.none=pure none:=rfl
   have hg:¬ (us.length > (ar.map (·.arg)).length∧True):=by rintro ⟨z,_⟩; omega
   simp only [PySem.W.fnOf,List.map_nil,List.nil_append,List.append_nil,List.forIn_nil,pure_bind,hd,Option.getD_none,List.toList_toArray,List.length_nil,List.drop_nil,Nat.sub_zero,Option.isNone_none,Bool.and_true]
   rw [if_neg (by rw [List.length_map] at hl; simp; omega)]
   have hm':(List.filter (fun n=>(List.lookup n ((List.map (fun x=>x.arg) ar).zip us)).isNone) (List.take (List.map (fun x=>x.arg) ar).length (List.map (fun x=>x.arg) ar)))=[]:=hm
   rw [hm',if_neg (by decide),List.zip_nil_right,List.forIn_nil,pure_bind,if_neg (by decide),lookup_zip nd hl]
 . cases h
noncomputable def DefOk (K:KF) (x:Str) (st:Stmt):Prop:=∃ f fd,PySem.W.nsIn K mainGlobals x=some (some (.ref f))∧L2.Fun K x x st f fd
theorem def_mk {K:KF} {x:Str} {st:Stmt} {f:Addr} {oc:Value} {od an:Option Addr} {osl:Array (Option Value)} {kV doc pm cdv ct:Value} (a:PySem.W.nsIn K mainGlobals x=some (some (.ref f)))
   (l:K.lookup f=some ⟨oc,od,.func (PySem.W.fnOf x x (L2.defArgs st) (L2.defBody st) (L2.defScope st) .none kV doc pm an cdv ct),osl⟩) (c:PySem.W.codeIn K cdv x=true) (k:PySem.W.keepIn K (.ref f)=true):DefOk K x st:=
 ⟨f,_,a,L2.fun_mk l c k⟩
section
variable {P:Program} {w:World} {K:KF} {mg:Str→Option Value} {base:Heap} {T:Tbl}
structure Top (T:Tbl) (K:KF) (mg:Str→Option Value):Prop where
 defs:∀ f v F,T.fn f v=some F→∃ st fa fd,mg f=some (.ref fa)∧L2.Fun K f f st fa fd∧ckFn st F=true
 gls:∀ x v,T.gl x=some v→∃ u xv,mg x=some u∧L2.RelV xv u∧∀ ρ H,RD K mg ρ H v xv
 blt:∀ x∈bltNames,mg x=none
theorem ckFn_parts {st:Stmt} {F:Fn} (h:ckFn st F=true):argNames (L2.defArgs st)=some F.ps∧L2.FnScope F.N F.ps (L2.defScope st)∧ckSs (L2.defScope st) F.N F.body (L2.defBody st)=true:=by
 unfold ckFn at h
 split at h
 . simp only [Bool.and_eq_true,decide_eq_true_eq,Bool.not_eq_true',List.all_eq_true,Bool.or_eq_true] at h
   obtain ⟨⟨⟨⟨⟨⟨⟨⟨h1,h2⟩,h3⟩,h4⟩,h5⟩,h6⟩,h7⟩,h8⟩,h9⟩:=h
   exact ⟨h1,⟨h2,h3,h4,h5,h6,h7,h8⟩,h9⟩
 . cases h
theorem fn_ok (top:Top T K mg):∀ (n:Nat) (f:Str) (v:Nat) (F:Fn) (st:Stmt) (fa:Addr) (fd:FuncData),T.fn f v=some F→L2.Fun K f f st fa fd→ckFn st F=true→L2.FnOk P w K mg base L2.CX0 n fa fd F.ps (spN T K mg n f v)
 | 0,f,v,F,st,fa,fd,h,e2,e3=>by
   refine ⟨fun vs H Q E q=>?_,fun A outer s H args us vs Q E _ _ _ _ q=>?_⟩
   . obtain ⟨ρ,t,as,_,_,z⟩:=q; exact z.elim
   . obtain ⟨ρ,t,as,_,_,z⟩:=q; exact z.elim
 | n + 1,f,v,F,st,fa,fd,h,e2,e3=>by
   obtain ⟨p1,p2,p3⟩:=ckFn_parts e3
   have hcall:∀ (vs:List Val) (s:Sto),callN T (n + 1) f v vs s=run T (callN T n) F vs s:=fun vs s=>by simp only [callN,h]
   refine e2.ok p2 (fun vs H Q E q=>?_) fun cdv A outer s H vs Q E hr q=>?_
   . obtain ⟨ρ,t,as,_,r,z⟩:=q
     rw [hcall] at z
     unfold run at z
     split at z
     . rename_i hl; rw [←r.length]; exact hl
     . exact z.elim
   . obtain ⟨ρ,t,as,h0,r,z⟩:=q
     rw [hcall] at z
     unfold run at z
     have hl:as.length=F.ps.length:=by
       by_cases hl:as.length=F.ps.length
       . exact hl
       . rw [if_neg hl] at z; exact z.elim
     rw [if_pos hl] at z
     have okf:OkF T n (L2.defScope st) F.N (L2.cxOf L2.CX0 P w K mg base F.N f (L2.defScope st) fa cdv A outer s H E).nox:=by
       refine ⟨⟨rfl,hr,⟨rfl,p2.nd,fun x hx=>hx,fun x hx=>⟨hx,.inl rfl⟩,fun x hx=>hx,fun x hx=>hx⟩,fun g v' G hg=>?_,top.gls,top.blt,rfl⟩,rfl,?_⟩
       . obtain ⟨st2,ga,gd,q1,q2,q3⟩:=top.defs g v' G hg
         obtain ⟨r1,r2,r3⟩:=ckFn_parts q3
         have nd:G.ps.Nodup:=by rw [←r2.pre]; exact r2.nd.sublist (List.take_sublist _ _)
         exact ⟨ga,gd,q1,q2.kp,q2.binds fun kV doc pm an cdv ct us hl=>bind_all r1 nd us hl,fn_ok top n g v' G st2 ga gd hg q2 q3⟩
       . show (if (L2.defScope st).kind.isAnnotationScope then ScopeKind.function else (L2.defScope st).kind)=.function
         rw [p2.kind]; rfl
     refine ⟨_,jSs T n F.body (L2.defScope st) F.N _ (L2.defBody st) okf p3 (startE F.N as) t,ρ,h0,start_er r,?_⟩
     show WantS K mg ρ H (exSs (callN T n) T.gl (startE F.N as) F.body t) _
     cases hx:exSs (callN T n) T.gl (startE F.N as) F.body t with
     | ok fl s1 =>
       rw [hx] at z
       cases fl with
       | nx e=>exact fun ρ1 H1 σ1 x1 hr1 er1=>leave_ok h0 z x1 hr1 .none
       | rt v'=>exact fun ρ1 H1 x x1 hr1 r1=>leave_ok h0 z x1 hr1 r1
       | bk e=>exact z.elim
       | ct e=>exact z.elim
     | exc _ _ _=>rw [hx] at z; exact z.elim
     | stuck=>rw [hx] at z; exact z.elim
end
end M
end
section
namespace M
open PySem Hd
noncomputable def GlOk (K:KF) (x:Str):Val→Prop
 | .int i=>∃ t,PySem.W.nsIn K mainGlobals x=some (some (.int i t))
 | .str y=>∃ t,PySem.W.nsIn K mainGlobals x=some (some (.str y t))
 | .ctup ns=>∃ a,PySem.W.nsIn K mainGlobals x=some (some (.ref a))∧KT K a (ns.map L2.V.int)
 | _=>False
noncomputable def tbl (fnL:List ((Str × Nat) × Fn)) (glL:List (Str × Val)):Tbl:=⟨fun f v=>fnL.lookup (f,v),fun x=>glL.lookup x⟩
noncomputable def tabCk (fnL:List ((Str × Nat) × Fn)) (D:List (Str × Stmt)):Bool:=fnL.all fun p=>match D.lookup p.1.1 with | some st=>ckFn st p.2 | none=>false
theorem mem_lk {α β:Type} [BEq α] [LawfulBEq α]:∀ {l:List (α × β)} {a:α} {b:β},l.lookup a=some b→(a,b)∈l
 | [],_,_,h=>by cases h
 | (c,d) :: l,a,b,h=>by
   rw [List.lookup_cons] at h
   cases hb:(a == c) with
   | true=>rw [hb] at h; cases h; rw [eq_of_beq hb]; exact List.mem_cons_self
   | false=>rw [hb] at h; exact List.mem_cons_of_mem _ (mem_lk h)
theorem top_of {K:KF} {mg:Str→Option Value} {h:Heap} {fnL:List ((Str × Nat) × Fn)} {glL:List (Str × Val)} {D:List (Str × Stmt)} (X:K.In h) (G:h.Ns mainGlobals mg) (hd:∀ p∈D,DefOk K p.1 p.2) (hg:∀ p∈glL,GlOk K p.1 p.2) (hb:∀ x∈bltNames,PySem.W.nsIn K mainGlobals x=some none)
   (hc:tabCk fnL D=true):Top (tbl fnL glL) K mg:=by
 refine ⟨fun f v F e=>?_,fun x v e=>?_,fun x hx=>PySem.W.mg_none_of X G (hb x hx)⟩
 . have hm:((f,v),F)∈fnL:=mem_lk e
   unfold tabCk at hc
   rw [List.all_eq_true] at hc
   have h1:=hc _ hm
   split at h1
   . rename_i st hs
     obtain ⟨fa,fd,a,F'⟩:=hd _ (mem_lk hs)
     exact ⟨st,fa,fd,PySem.W.mg_of X G a,F',h1⟩
   . cases h1
 . have hm:(x,v)∈glL:=mem_lk e
   have h1:=hg _ hm
   cases v with
   | int i =>
     obtain ⟨t,a⟩:=h1
     exact ⟨_,.int i,PySem.W.mg_of X G a,⟨t,rfl⟩,fun ρ H=>.int i⟩
   | str y =>
     obtain ⟨t,a⟩:=h1
     exact ⟨_,.str y,PySem.W.mg_of X G a,⟨t,rfl⟩,fun ρ H=>.str y⟩
   | ctup ns =>
     obtain ⟨a,h2,h3⟩:=h1
     exact ⟨_,.ref a,PySem.W.mg_of X G h2,rfl,fun ρ H=>.ctup h3⟩
   | _=>exact h1.elim
theorem int_mk {K:KF} {x:Str} {i:Int} {t:Tok} (a:PySem.W.nsIn K mainGlobals x=some (some (.int i t))):GlOk K x (.int i):=⟨t,a⟩
theorem str_mk {K:KF} {x y:Str} {t:Tok} (a:PySem.W.nsIn K mainGlobals x=some (some (.str y t))):GlOk K x (.str y):=⟨t,a⟩
theorem intsA_vals:∀ {us:List Value} {ns:List Int},intsA us=some ns→L2.Vals (ns.map L2.V.int) us
 | [],_,h=>by cases h; exact .nil
 | u :: us,ns,h=>by
   cases u with
   | int i t =>
     simp only [intsA,Option.map_eq_some_iff] at h
     obtain ⟨ms,h1,rfl⟩:=h
     exact .cons ⟨t,rfl⟩ (intsA_vals h1)
   | _=>cases h
theorem ctup_mk {K:KF} {x:Str} {a:Addr} {od:Option Addr} {us:List Value} {n:Nat} {sl:Array (Option Value)} {ns:List Int} (h:PySem.W.nsIn K mainGlobals x=some (some (.ref a)))
   (l:K.lookup a=some ⟨.type "tuple",od,.seq us.toArray n,sl⟩) (hz:us.length≤1000) (hi:intsA us=some ns):GlOk K x (.ctup ns):=
 ⟨a,h,_,us.toArray,n,l,rfl,rfl,by rw [List.size_toArray,sizeLine_eq]; omega,by simpa using intsA_vals hi⟩
noncomputable def spLaw (K:KF):L2.Sp:=fun vs H Q _=>∃ (a:Addr) (ns:List Int),vs=[.ref a]∧L2.SqL K H a (ns.map L2.V.int)∧ns.length≤63∧∀ H',Q (.bl true) H'
theorem walk {l:PySem.W.OpenLaw} {q:Program} {loose:List Str} {XP:(Str→Option Value)→Heap→Prop} {YP:World→Heap→Prop} {d:DefRec} {K:Params→KF} {T:Tbl} {F:Fn} {n:Nat} {x:Str} (hn:l.most=some 63) (hdf:d.params.defaults=[]) (hr:L2.Room n callerA)
   (hY:∀ (w:World) (h:Heap),YP w h→(K w.params).In h) (hF:T.fn d.name 0=some F) (hx:F.ps=[x])
   (TOP:∀ (w:World) (mg:Str→Option Value) (h:Heap),(K w.params).In h→h.Ns mainGlobals mg→Top T (K w.params) mg)
   (HL:∀ ns:List Int,ns.length≤63→∃ s',callN T n d.name 0 [.scr ns] []=.ok (.bool true) s') :
   PySem.W.WalkO q loose XP YP l.row.toRowW d [] (fun f vs=>PySem.call f vs):=by
 refine L2.walk_of (n:=63) (k:=n) (x:=x) (CX:=fun _=>L2.CX0) (sp:=fun w=>spLaw (K w.params)) hn (by decide) hdf hr hY (fun w mg fa h KX G hmg=>?_) (fun _ _ a ns hl _ hS=>⟨a,ns,rfl,hS,hl,fun _=>rfl⟩) fun _ _ _ _ _ z=>z
 have top:=TOP w mg h KX G
 obtain ⟨st,fa',fd',e1,e2,e3⟩:=top.defs _ _ _ hF
 obtain ⟨p1,p2,p3⟩:=ckFn_parts e3
 have nd:F.ps.Nodup:=by rw [←p2.pre]; exact p2.nd.sublist (List.take_sublist _ _)
 rw [e1] at hmg
 cases hmg
 refine ⟨fd',fun s u=>?_,fun base kb nb=>?_⟩
 . obtain ⟨oc,od,kV,doc,pm,an,cdv,ct,osl,e,_⟩:=e2.ex
   subst e
   refine .of_eq ?_
   have:=bind_all (x:=d.name) (qual:=d.name) (body:=L2.defBody st) (sc:=L2.defScope st) (kV:=kV) (doc:=doc) (pm:=pm) (cdv:=cdv) (ct:=ct) (an:=an) p1 nd [u] (by rw [hx]; rfl)
   rw [hx] at this
   exact this
 . have f4:=fn_ok (P:=l.prog) (w:=w) (base:=base) top n d.name 0 F st _ fd' hF e2 e3
   rw [hx] at f4
   refine f4.imp fun vs H Q E ⟨a,ns,e,hS,hl,hq⟩=>?_
   subst e
   obtain ⟨s',hs⟩:=HL ns hl
   refine ⟨⟨[],[]⟩,[],[.scr ns],⟨rfl,List.nodup_nil,fun i vs z=>by simp at z,fun a z=>by cases z⟩,.cons (.scr ?_) .nil,?_⟩
   . rcases hS with hS | hS
     . exact .inl ⟨⟨by simp,by simp⟩,hS⟩
     . exact .inr hS
   . rw [hs]
     intro ρ' x' H' _ _ r
     cases r
     exact hq H'
end M
end
section
namespace F
open PySem M
noncomputable def F__law_cell_at:Fn:=⟨["_law_script","_law_k"],["_law_script","_law_k"],false,(.cons (.ifS (.val (.cmp .lt (.var 1) (.blt .len false (.cons (.var 0) .nil)))) (.cons (.ret (.ix (.var 0) (.var 1))) .nil) .nil) (.cons (.ret (.lit (.int 0))) .nil))⟩
noncomputable def F__law_draw:Fn:=⟨["_law_pen_here","_law_many","_law_left","_law_found","_law_mixed"],["_law_pen_here","_law_many"],false,(.cons (.ifS (.val (.cmp .gt (.ix (.var 0) (.lit (.int 0))) (.lit (.int 0)))) (.cons (.asgT [2,3] (.blt .divmod false (.cons (.ix (.var 0) (.lit (.int 0))) (.cons (.var 1) .nil)))) (.cons (.setIx (.var 0) (.lit (.int 0)) (.var 2)) (.cons (.ret (.var 3)) .nil))) .nil) (.cons (.setIx (.var 0) (.lit (.int 1)) (.bin false .mod (.bin false .add (.bin false .mul (.ix (.var 0) (.lit (.int 1))) (.lit (.int 48271))) (.lit (.int 30269))) (.lit (.int 2147483629)))) (.cons (.asg 4 (.bin false .mod (.bin false .add (.bin false .add (.bin false .mul (.ix (.var 0) (.lit (.int 1))) (.ix (.var 0) (.lit (.int 1)))) (.bin false .mul (.lit (.int 40692)) (.ix (.var 0) (.lit (.int 1))))) (.lit (.int 7))) (.lit (.int 2147483587)))) (.cons (.ret (.bin false .mod (.bin false .fdiv (.var 4) (.lit (.int 64))) (.var 1))) .nil))))⟩
noncomputable def F__law_ended:Fn:=⟨["_law_sizes_here","_law_found","_law_hue","_law_here","_law_size","_law_step"],["_law_sizes_here","_law_found","_law_hue"],false,(.cons (.par [3,4] (.cons (.blt .len false (.cons (.var 1) .nil)) (.cons (.ix (.var 0) (.var 2)) .nil))) (.cons (.forS (.nm 5) (.range2 (.lit (.int 1)) (.bin false .add (.bin false .fdiv (.var 3) (.bin false .sub (.var 4) (.lit (.int 1)))) (.lit (.int 1)))) (.cons (.ifS (.val (.cmp .eq (.comp false ["_law_k","_law_hue","_law_found","_law_here","_law_step"] [none,some 2,some 1,some 3,some 5] (.var 0) (.nm 0) (.range2 (.lit (.int 1)) (.var 4)) (.cons (.val (.cmp .ne (.ix (.var 2) (.bin false .sub (.var 3) (.bin false .mul (.var 0) (.var 4)))) (.var 1))) .nil)) (.lst false .nil))) (.cons (.ret (.lit (.bool true))) .nil) .nil) .nil)) (.cons (.ret (.lit (.bool false))) .nil)))⟩
noncomputable def F__law_pen_1:Fn:=⟨["_law_cell","_law_left"],["_law_cell"],true,(.cons (.asg 1 (.blt .max false (.cons (.var 0) (.cons (.bin false .sub (.lit (.int 0)) (.var 0)) .nil)))) (.cons (.ret (.lst true (.cons (.bin false .mul (.var 1) (.blt .int false (.cons (.cmp .ge (.var 1) (.bin false .pow (.lit (.int 10)) (.lit (.int 18)))) .nil))) (.cons (.bin false .mod (.var 1) (.lit (.int 2147483629))) .nil)))) .nil))⟩
noncomputable def F_are_sizes:Fn:=⟨["thing"],["thing"],false,(.cons (.ret (.andE (.blt .isi false (.cons (.var 0) (.cons (.ty "tuple" "tuple") .nil))) (.cons (.chain .le .le (.lit (.int 1)) (.blt .len false (.cons (.var 0) .nil)) (.blt .len false (.cons (.gl "HUES") .nil))) (.cons (.call "are_wholes" 0 (.cons (.var 0) (.cons (.gl "LEAST_SIZE") (.cons (.gl "MOST_SIZE") .nil)))) .nil)))) .nil)⟩
noncomputable def F_are_wholes:Fn:=⟨["things","least","most"],["things","least","most"],false,(.cons (.ret (.blt .all false (.cons (.comp false ["thing","least","most"] [none,some 1,some 2] (.call "is_whole" 0 (.cons (.var 0) (.cons (.var 1) (.cons (.var 2) .nil)))) (.nm 0) (.val (.var 0)) .nil) .nil))) .nil)⟩
noncomputable def F_is_whole:Fn:=⟨["thing","least","most"],["thing","least","most"],false,(.cons (.ret (.andE (.blt .isi false (.cons (.var 0) (.cons (.ty "int" "int") .nil))) (.cons (.not (.blt .isi false (.cons (.var 0) (.cons (.ty "bool" "bool") .nil)))) (.cons (.chain .le .le (.var 1) (.var 0) (.var 2)) .nil)))) .nil)⟩
noncomputable def F_need_sizes:Fn:=⟨["thing"],["thing"],false,(.cons (.ifS (.not (.val (.call "are_sizes" 0 (.cons (.var 0) .nil)))) (.cons (.raise (.lit .none)) .nil) .nil) .nil)⟩
end F
end
section
namespace M
open PySem L2
theorem cut_row {n f d s:Nat} (hd:0 < d) (hs:1≤s) (h:f + d * (s - 1) < n):cut3 n (some (f:Int)) (some ((f:Int) + (d:Int) * (s:Int))) (d:Int)=((f:Int),s):=by
 have hmul:d * s=d * (s - 1) + d:=by rw [←Nat.mul_succ]; congr 1; omega
 have e0:(d:Int) * (s:Int)=((d * s:Nat):Int):=(Int.natCast_mul d s).symm
 have e1:Builtin.Slice.sliceAdjust (some (f:Int)) (some ((f:Int) + (d:Int) * (s:Int))) (d:Int) (n:Int)=((f:Int),((min (f + d * s) n:Nat):Int)):=by
   rw [e0]
   unfold Builtin.Slice.sliceAdjust
   simp only [if_neg (show ¬ (d:Int) < 0 by omega),if_neg (show ¬ (f:Int) < 0 by omega),if_neg (show ¬ ((f:Int) + ((d * s:Nat):Int)) < 0 by omega)]
   refine Prod.ext ?_ ?_
   . show min (f:Int) (n:Int)=f; omega
   . show min ((f:Int) + ((d * s:Nat):Int)) (n:Int)=_; omega
 unfold cut3
 rw [e1]
 refine Prod.ext rfl ?_
 show Builtin.Slice.slicePlaces (f:Int) ((min (f + d * s) n:Nat):Int) (d:Int)=s
 unfold Builtin.Slice.slicePlaces
 rw [if_pos (by omega),if_pos (by omega)]
 have e2:(((min (f + d * s) n:Nat):Int) - (f:Int) - 1)=((min (f + d * s) n - f - 1:Nat):Int):=by omega
 rw [e2,← Int.natCast_ediv]
 have e3:(min (f + d * s) n - f - 1) / d=s - 1:=by
   refine Nat.div_eq_of_lt_le ?_ ?_
   . rw [Nat.mul_comm]; omega
   . have:(s - 1 + 1) * d=d * s:=by rw [show s - 1 + 1=s by omega,Nat.mul_comm]
     omega
 rw [e3]; omega
theorem fm_map {α β:Type} {f:α→Option β} {g:α→β}:∀ {l:List α},(∀ x∈l,f x=some (g x))→l.filterMap f=l.map g
 | [],_=>rfl
 | x :: l,h=>by rw [List.filterMap_cons,h x (List.mem_cons_self ..),List.map_cons,fm_map fun y hy=>h y (List.mem_cons_of_mem _ hy)]
theorem pick_row {ns:List Int} {f d s:Nat} (h:f + d * (s - 1) < ns.length):pickV ns (f:Int) (d:Int) s=(List.range s).map fun k=>ns.getD (f + k * d) 0:=by
 unfold pickV
 refine fm_map fun k hk=>?_
 rw [List.mem_range] at hk
 have h1:k * d≤d * (s - 1):=by rw [Nat.mul_comm]; exact Nat.mul_le_mul_left d (by omega)
 have e:((f:Int) + (k:Int) * (d:Int)).toNat=f + k * d:=by
   rw [show (k:Int) * (d:Int)=((k * d:Nat):Int) from (Int.natCast_mul k d).symm]; omega
 have hlt:f + k * d < ns.length:=by omega
 rw [e,List.getElem?_eq_getElem hlt]
 rw [List.getD_eq_getElem?_getD,List.getElem?_eq_getElem hlt]; rfl
noncomputable def Sz (zs:List Int):Prop:=1≤zs.length∧zs.length≤4∧∀ x∈zs,2≤x∧x≤8
noncomputable def sizeN (zs:List Int) (h:Nat):Nat:=(zs.getD h 0).toNat
theorem sizeN_ok {zs:List Int} (hz:Sz zs) {h:Nat} (hh:h < zs.length):zs[h]?=some ((sizeN zs h:Nat):Int)∧2≤sizeN zs h∧sizeN zs h≤8:=by
 have e:zs.getD h 0=zs[h]:=by rw [List.getD_eq_getElem?_getD,List.getElem?_eq_getElem hh]; rfl
 have:=hz.2.2 zs[h] (List.getElem_mem hh)
 unfold sizeN
 rw [e,List.getElem?_eq_getElem hh]
 refine ⟨?_,by omega,by omega⟩
 congr 1; omega
end M
end
section
namespace M
open PySem
noncomputable def Out.post {α:Type} (o:Out α) (P:α→Sto→Prop):Prop:=∃ a s,o=.ok a s∧P a s
theorem post_ok {α:Type} {a:α} {s:Sto} {P:α→Sto→Prop}:(Out.ok a s).post P↔P a s:=
 ⟨fun ⟨_,_,e,h⟩=>(by cases e; exact h),fun h=>⟨a,s,rfl,h⟩⟩
theorem post_bind {α β:Type} {o:Out α} {f:α→Sto→Out β} {P:β→Sto→Prop}:(o.bind f).post P↔o.post fun a s=>(f a s).post P:=by
 cases o with
 | ok a s=>exact (post_ok (P:=fun a s=>(f a s).post P)).symm
 | exc c as s=>exact ⟨fun ⟨_,_,e,_⟩=>(by cases e),fun ⟨_,_,e,_⟩=>(by cases e)⟩
 | stuck=>exact ⟨fun ⟨_,_,e,_⟩=>(by cases e),fun ⟨_,_,e,_⟩=>(by cases e)⟩
theorem post_mono {α:Type} {o:Out α} {P Q:α→Sto→Prop} (h:o.post P) (i:∀ a s,P a s→Q a s):o.post Q:=by
 obtain ⟨a,s,e,h⟩:=h
 exact ⟨a,s,e,i a s h⟩
theorem post_congr {α:Type} {o:Out α} {P Q:α→Sto→Prop} (h:∀ a s,P a s↔Q a s):o.post P↔o.post Q:=⟨fun k=>post_mono k fun a s=>(h a s).mp,fun k=>post_mono k fun a s=>(h a s).mpr⟩
theorem post_stuck {α:Type} {P:α→Sto→Prop}:(Out.stuck:Out α).post P↔False:=⟨fun ⟨_,_,e,_⟩=>(by cases e),False.elim⟩
theorem post_ite {α:Type} {c:Prop} [Decidable c] {a b:Out α} {P:α→Sto→Prop}:(if c then a else b).post P↔if c then a.post P else b.post P:=by split <;> exact Iff.rfl
theorem post_eq {α:Type} {o:Out α} {a:α} {s:Sto}:o=.ok a s↔o.post fun x t=>x=a∧t=s:=⟨fun h=>⟨a,s,h,rfl,rfl⟩,fun ⟨_,_,h,e1,e2⟩=>(by rw [h,e1,e2])⟩
section
variable {Φ:Calls} {G:Str→Option Val} {env:Env} {s:Sto}
theorem p_lit {v:Val} {P:Val→Sto→Prop}:(evE Φ G env (.lit v) s).post P↔P v s:=post_ok
theorem p_var {i:Nat} {P:Val→Sto→Prop}:(evE Φ G env (.var i) s).post P↔∃ v,env[i]?=some (some v)∧P v s:=by
 show (match env[i]? with | some (some v)=>Out.ok v s | _=>.stuck).post P↔_
 split
 . rename_i v e
   refine post_ok.trans ⟨fun h=>⟨_,e,h⟩,fun ⟨u,h1,h2⟩=>?_⟩
   rw [e] at h1; cases h1; exact h2
 . rename_i hn
   exact ⟨fun ⟨_,_,e,_⟩=>(by cases e),fun ⟨u,h1,h2⟩=>absurd h1 (hn u)⟩
theorem p_gl {x:Str} {P:Val→Sto→Prop}:(evE Φ G env (.gl x) s).post P↔∃ v,G x=some v∧P v s:=by
 show (match G x with | some v=>Out.ok v s | Option.none=>.stuck).post P↔_
 split
 . rename_i v e
   refine post_ok.trans ⟨fun h=>⟨_,e,h⟩,fun ⟨u,h1,h2⟩=>?_⟩
   rw [e] at h1; cases h1; exact h2
 . rename_i e
   exact ⟨fun ⟨_,_,e,_⟩=>(by cases e),fun ⟨u,h1,h2⟩=>(by rw [e] at h1; cases h1)⟩
theorem p_ty {x:Str} {n:String} {P:Val→Sto→Prop}:(evE Φ G env (.ty x n) s).post P↔P (.ty n) s:=post_ok
theorem p_bin {m:Bool} {op:Bop} {a b:Ex} {P:Val→Sto→Prop}:(evE Φ G env (.bin m op a b) s).post P↔(evE Φ G env a s).post fun x s1=>(evE Φ G env b s1).post fun y s2=>(binOp m op x y s2).post P:=by
 show (Out.bind _ _).post P↔_
 simp only [post_bind]
theorem p_neg {a:Ex} {P:Val→Sto→Prop}:(evE Φ G env (.neg a) s).post P↔(evE Φ G env a s).post fun x s1=>∃ i,x=.int i∧P (.int (-i)) s1:=by
 show (Out.bind _ _).post P↔_
 simp only [post_bind]
 exact post_congr fun x s1=>by cases x <;> simp [post_ok,post_stuck]
theorem p_not {a:Ex} {P:Val→Sto→Prop}:(evE Φ G env (.not a) s).post P↔(evE Φ G env a s).post fun x s1=>∃ b,x=.bool b∧P (.bool !b) s1:=by
 show (Out.bind _ _).post P↔_
 simp only [post_bind]
 exact post_congr fun x s1=>by cases x <;> simp [post_ok,post_stuck]
theorem p_cmp {op:Cop} {a b:Ex} {P:Val→Sto→Prop}:(evE Φ G env (.cmp op a b) s).post P↔(evE Φ G env a s).post fun x s1=>(evE Φ G env b s1).post fun y s2=>(cmpOp op x y s2).post P:=by
 show (Out.bind _ _).post P↔_
 simp only [post_bind]
theorem p_chain {op op':Cop} {a b c:Ex} {P:Val→Sto→Prop}:(evE Φ G env (.chain op op' a b c) s).post P↔(evE Φ G env a s).post fun x s1=>(evE Φ G env b s1).post fun y s2=>(cmpOp op x y s2).post fun r s3=>∃ t,r=.bool t∧if t=true then (evE Φ G env c s3).post fun z s4=>(cmpOp op' y z s4).post P else P (.bool false) s3:=by
 show (Out.bind _ _).post P↔_
 simp only [post_bind]
 refine post_congr fun x s1=>post_congr fun y s2=>post_congr fun r s3=>?_
 cases r with
 | bool t=>cases t <;> simp [post_ok,post_stuck,post_bind]
 | _=>simp [post_stuck]
theorem p_and {a b:Ex} {es:Exs} {P:Val→Sto→Prop}:(evE Φ G env (.andE a (.cons b es)) s).post P↔(evE Φ G env a s).post fun x s1=>∃ t,x=.bool t∧if t=true then (evAnd Φ G env (.cons b es) s1).post P else P (.bool false) s1:=by
 show (Out.bind _ _).post P↔_
 simp only [post_bind]
 refine post_congr fun x s1=>?_
 cases x with
 | bool t=>cases t <;> simp [post_ok,post_stuck]
 | _=>simp [post_stuck]
theorem p_and1 {a:Ex} {P:Val→Sto→Prop}:(evAnd Φ G env (.cons a .nil) s).post P↔(evE Φ G env a s).post P:=Iff.rfl
theorem p_and2 {a b:Ex} {es:Exs} {P:Val→Sto→Prop}:(evAnd Φ G env (.cons a (.cons b es)) s).post P↔(evE Φ G env a s).post fun x s1=>∃ t,x=.bool t∧if t=true then (evAnd Φ G env (.cons b es) s1).post P else P (.bool false) s1:=by
 show ((evE Φ G env a s).bind fun x s1=>match x with
     | .bool true=>evAnd Φ G env (.cons b es) s1
     | .bool false=>.ok (.bool false) s1
     | _=>.stuck).post P↔_
 simp only [post_bind]
 refine post_congr fun x s1=>?_
 cases x with
 | bool t=>cases t <;> simp [post_ok,post_stuck]
 | _=>simp [post_stuck]
theorem p_or {a b:Ex} {es:Exs} {P:Val→Sto→Prop}:(evE Φ G env (.orE a (.cons b es)) s).post P↔(evE Φ G env a s).post fun x s1=>∃ t,x=.bool t∧if t=true then P (.bool true) s1 else (evOr Φ G env (.cons b es) s1).post P:=by
 show (Out.bind _ _).post P↔_
 simp only [post_bind]
 refine post_congr fun x s1=>?_
 cases x with
 | bool t=>cases t <;> simp [post_ok,post_stuck]
 | _=>simp [post_stuck]
theorem p_or1 {a:Ex} {P:Val→Sto→Prop}:(evOr Φ G env (.cons a .nil) s).post P↔(evE Φ G env a s).post P:=Iff.rfl
theorem p_or2 {a b:Ex} {es:Exs} {P:Val→Sto→Prop}:(evOr Φ G env (.cons a (.cons b es)) s).post P↔(evE Φ G env a s).post fun x s1=>∃ t,x=.bool t∧if t=true then P (.bool true) s1 else (evOr Φ G env (.cons b es) s1).post P:=by
 show ((evE Φ G env a s).bind fun x s1=>match x with
     | .bool false=>evOr Φ G env (.cons b es) s1
     | .bool true=>.ok (.bool true) s1
     | _=>.stuck).post P↔_
 simp only [post_bind]
 refine post_congr fun x s1=>?_
 cases x with
 | bool t=>cases t <;> simp [post_ok,post_stuck]
 | _=>simp [post_stuck]
theorem p_ife {c:Cn} {a b:Ex} {P:Val→Sto→Prop}:(evE Φ G env (.ife c a b) s).post P↔(evT Φ G env c s).post fun t s1=>if t=true then (evE Φ G env a s1).post P else (evE Φ G env b s1).post P:=by
 show (Out.bind _ _).post P↔_
 simp only [post_bind,post_ite]
theorem p_tup {es:Exs} {P:Val→Sto→Prop}:(evE Φ G env (.tup es) s).post P↔(evEs Φ G env es s).post fun vs s1=>(if vs.length≤LINE then Out.ok (Val.tup vs) s1 else .stuck).post P:=by
 show (Out.bind _ _).post P↔_
 simp only [post_bind]
theorem p_lst {m:Bool} {es:Exs} {P:Val→Sto→Prop}:(evE Φ G env (.lst m es) s).post P↔(evEs Φ G env es s).post fun vs s1=>(if vs.length≤LINE then newList m vs s1 else .stuck).post P:=by
 show (Out.bind _ _).post P↔_
 simp only [post_bind]
theorem p_call {f:Str} {v:Nat} {es:Exs} {P:Val→Sto→Prop}:(evE Φ G env (.call f v es) s).post P↔(evEs Φ G env es s).post fun vs s1=>(Φ f v vs s1).post P:=by
 show (Out.bind _ _).post P↔_
 simp only [post_bind]
theorem p_blt {f:Bf} {m:Bool} {es:Exs} {P:Val→Sto→Prop}:(evE Φ G env (.blt f m es) s).post P↔(evEs Φ G env es s).post fun vs s1=>(blt f m vs s1).post P:=by
 show (Out.bind _ _).post P↔_
 simp only [post_bind]
theorem p_meth {f:Mf} {m:Bool} {o:Ex} {es:Exs} {P:Val→Sto→Prop}:(evE Φ G env (.meth f m o es) s).post P↔(evE Φ G env o s).post fun x s1=>(evEs Φ G env es s1).post fun vs s2=>(meth f x vs s2).post P:=by
 show (Out.bind _ _).post P↔_
 simp only [post_bind]
theorem p_lrange {m:Bool} {a b c:Ex} {P:Val→Sto→Prop}:(evE Φ G env (.listRange m a b c) s).post P↔(evE Φ G env a s).post fun x s1=>(evE Φ G env b s1).post fun y s2=>(evE Φ G env c s2).post fun z s3=>(lrOp m x y z s3).post P:=by
 show (Out.bind _ _).post P↔_
 simp only [post_bind]
theorem p_ix {a b:Ex} {P:Val→Sto→Prop}:(evE Φ G env (.ix a b) s).post P↔(evE Φ G env a s).post fun x s1=>(evE Φ G env b s1).post fun y s2=>(ixOp x y s2).post P:=by
 show (Out.bind _ _).post P↔_
 simp only [post_bind]
theorem p_sl {m:Bool} {a:Ex} {lo hi st:OEx} {P:Val→Sto→Prop}:(evE Φ G env (.sl m a lo hi st) s).post P↔(evE Φ G env a s).post fun x s1=>(evO Φ G env lo s1).post fun l s2=>(evO Φ G env hi s2).post fun h s3=>(evO Φ G env st s3).post fun c s4=>(slOp m x l h c s4).post P:=by
 show (Out.bind _ _).post P↔_
 simp only [post_bind]
theorem p_onil {P:Option Int→Sto→Prop}:(evO Φ G env .no s).post P↔P none s:=post_ok
theorem p_oyes {e:Ex} {P:Option Int→Sto→Prop}:(evO Φ G env (.yes e) s).post P↔(evE Φ G env e s).post fun v s1=>∃ i,v=.int i∧P (some i) s1:=by
 show (Out.bind _ _).post P↔_
 simp only [post_bind]
 exact post_congr fun x s1=>by cases x <;> simp [post_ok,post_stuck]
theorem p_nil {P:List Val→Sto→Prop}:(evEs Φ G env .nil s).post P↔P [] s:=post_ok
theorem p_cons {e:Ex} {es:Exs} {P:List Val→Sto→Prop}:(evEs Φ G env (.cons e es) s).post P↔(evE Φ G env e s).post fun v s1=>(evEs Φ G env es s1).post fun vs s2=>P (v :: vs) s2:=by
 show (Out.bind _ _).post P↔_
 simp only [post_bind,post_ok]
theorem p_val {e:Ex} {P:Bool→Sto→Prop}:(evT Φ G env (.val e) s).post P↔(evE Φ G env e s).post fun v s1=>∃ b,truth s1 v=some b∧P b s1:=by
 show (Out.bind (evE Φ G env e s) _).post P↔_
 simp only [post_bind]
 refine ⟨fun h=>post_mono h fun v s1 h=>?_,fun h=>post_mono h fun v s1 h=>?_⟩
 . split at h
   . rename_i b e; exact ⟨b,e,post_ok.mp h⟩
   . obtain ⟨_,_,e,_⟩:=h; cases e
 . obtain ⟨b,e,h⟩:=h
   rw [e]; exact post_ok.mpr h
theorem p_tnot {c:Cn} {P:Bool→Sto→Prop}:(evT Φ G env (.not c) s).post P↔(evT Φ G env c s).post fun b s1=>P (!b) s1:=by
 show (Out.bind _ _).post P↔_
 simp only [post_bind,post_ok]
theorem p_tand {c:Cn} {cs:Cns} {P:Bool→Sto→Prop}:(evT Φ G env (.and c cs) s).post P↔(evT Φ G env c s).post fun b s1=>if b=true then (evTs Φ G env cs s1).post P else P false s1:=by
 show (Out.bind _ _).post P↔_
 simp only [post_bind,post_ite,post_ok]
theorem p_tor {c:Cn} {cs:Cns} {P:Bool→Sto→Prop}:(evT Φ G env (.or c cs) s).post P↔(evT Φ G env c s).post fun b s1=>if b=true then P true s1 else (evTo Φ G env cs s1).post P:=by
 show (Out.bind _ _).post P↔_
 simp only [post_bind,post_ite,post_ok]
theorem p_tsnil {P:Bool→Sto→Prop}:(evTs Φ G env .nil s).post P↔P true s:=post_ok
theorem p_tonil {P:Bool→Sto→Prop}:(evTo Φ G env .nil s).post P↔P false s:=post_ok
theorem p_tscons {c:Cn} {cs:Cns} {P:Bool→Sto→Prop}:(evTs Φ G env (.cons c cs) s).post P↔(evT Φ G env c s).post fun b s1=>if b=true then (evTs Φ G env cs s1).post P else P false s1:=by
 show (Out.bind _ _).post P↔_
 simp only [post_bind,post_ite,post_ok]
theorem p_tocons {c:Cn} {cs:Cns} {P:Bool→Sto→Prop}:(evTo Φ G env (.cons c cs) s).post P↔(evT Φ G env c s).post fun b s1=>if b=true then P true s1 else (evTo Φ G env cs s1).post P:=by
 show (Out.bind _ _).post P↔_
 simp only [post_bind,post_ite,post_ok]
theorem p_ival {e:Ex} {P:Src→Sto→Prop}:(evIt Φ G env (.val e) s).post P↔(evE Φ G env e s).post fun v s1=>∃ r,srcOf s1 v=some r∧P r s1:=by
 show (Out.bind _ _).post P↔_
 simp only [post_bind]
 refine ⟨fun h=>post_mono h fun v s1 h=>?_,fun h=>post_mono h fun v s1 h=>?_⟩
 . split at h
   . rename_i b e; exact ⟨b,e,post_ok.mp h⟩
   . obtain ⟨_,_,e,_⟩:=h; cases e
 . obtain ⟨b,e,h⟩:=h
   rw [e]; exact post_ok.mpr h
theorem p_range1 {a:Ex} {P:Src→Sto→Prop}:(evIt Φ G env (.range1 a) s).post P↔(evE Φ G env a s).post fun x s1=>∃ j,x=.int j∧(-(2 ^ 62)≤j∧j≤LINE)∧P ⟨rngV 0 j.toNat,Option.none⟩ s1:=by
 show (Out.bind _ _).post P↔_
 simp only [post_bind]
 refine ⟨fun h=>post_mono h fun v s1 h=>?_,fun h=>post_mono h fun v s1 h=>?_⟩
 . split at h
   . rw [post_ite] at h
     split at h
     . rename_i j z; exact ⟨_,rfl,z,post_ok.mp h⟩
     . obtain ⟨_,_,e,_⟩:=h; cases e
   . obtain ⟨_,_,e,_⟩:=h; cases e
 . obtain ⟨j,rfl,z,h⟩:=h
   simp only [if_pos z]
   exact post_ok.mpr h
theorem p_range2 {a b:Ex} {P:Src→Sto→Prop}:(evIt Φ G env (.range2 a b) s).post P↔(evE Φ G env a s).post fun x s1=>(evE Φ G env b s1).post fun y s2=>∃ i j,x=.int i∧y=.int j∧(-(2 ^ 62)≤i∧i < 2 ^ 62∧-(2 ^ 62)≤j∧j < 2 ^ 62∧j - i≤LINE)∧P ⟨rngV i (j - i).toNat,Option.none⟩ s2:=by
 show (Out.bind _ _).post P↔_
 simp only [post_bind]
 refine ⟨fun h=>post_mono h fun v s1 h=>post_mono h fun w s2 h=>?_,fun h=>post_mono h fun v s1 h=>post_mono h fun w s2 h=>?_⟩
 . split at h
   . rw [post_ite] at h
     split at h
     . rename_i z; exact ⟨_,_,rfl,rfl,z,post_ok.mp h⟩
     . obtain ⟨_,_,e,_⟩:=h; cases e
   . obtain ⟨_,_,e,_⟩:=h; cases e
 . obtain ⟨i,j,rfl,rfl,z,h⟩:=h
   simp only [if_pos z]
   exact post_ok.mpr h
theorem p_enum {a:Ex} {P:Src→Sto→Prop}:(evIt Φ G env (.enum a) s).post P↔(evE Φ G env a s).post fun x s1=>∃ vs,(x=.tup vs ∨ x=.lst vs)∧P ⟨enumV 0 vs,Option.none⟩ s1:=by
 show (Out.bind _ _).post P↔_
 simp only [post_bind]
 refine ⟨fun h=>post_mono h fun v s1 h=>?_,fun h=>post_mono h fun v s1 h=>?_⟩
 . split at h
   . exact ⟨_,.inl rfl,post_ok.mp h⟩
   . exact ⟨_,.inr rfl,post_ok.mp h⟩
   . obtain ⟨_,_,e,_⟩:=h; cases e
 . obtain ⟨j,rfl | rfl,h⟩:=h <;> exact post_ok.mpr h
theorem p_expr {e:Ex} {P:Fl→Sto→Prop}:(exS Φ G env (.expr e) s).post P↔(evE Φ G env e s).post fun _ s1=>P (.nx env) s1:=by
 show (Out.bind _ _).post P↔_
 simp only [post_bind,post_ok]
theorem p_ret {e:Ex} {P:Fl→Sto→Prop}:(exS Φ G env (.ret e) s).post P↔(evE Φ G env e s).post fun v s1=>P (.rt v) s1:=by
 show (Out.bind _ _).post P↔_
 simp only [post_bind,post_ok]
theorem p_retN {P:Fl→Sto→Prop}:(exS Φ G env .retN s).post P↔P (.rt .none) s:=post_ok
theorem p_asg {i:Nat} {e:Ex} {P:Fl→Sto→Prop}:(exS Φ G env (.asg i e) s).post P↔(evE Φ G env e s).post fun v s1=>P (.nx (env.set i (some v))) s1:=by
 show (Out.bind _ _).post P↔_
 simp only [post_bind,post_ok]
theorem p_asgT {is:List Nat} {e:Ex} {P:Fl→Sto→Prop}:(exS Φ G env (.asgT is e) s).post P↔(evE Φ G env e s).post fun v s1=>∃ env',bindT (.nms is) v env=some env'∧P (.nx env') s1:=by
 show (Out.bind _ _).post P↔_
 simp only [post_bind]
 refine ⟨fun h=>post_mono h fun v s1 h=>?_,fun h=>post_mono h fun v s1 h=>?_⟩
 . split at h
   . rename_i b e; exact ⟨b,e,post_ok.mp h⟩
   . obtain ⟨_,_,e,_⟩:=h; cases e
 . obtain ⟨b,e,h⟩:=h
   rw [e]; exact post_ok.mpr h
theorem p_par {is:List Nat} {es:Exs} {P:Fl→Sto→Prop}:(exS Φ G env (.par is es) s).post P↔(evEs Φ G env es s).post fun vs s1=>(if vs.length=is.length then Out.ok (Fl.nx ((is.zip vs).foldl (fun e p=>e.set p.1 (some p.2)) env)) s1 else .stuck).post P:=by
 show (Out.bind _ _).post P↔_
 simp only [post_bind]
theorem p_setIx {o i e:Ex} {P:Fl→Sto→Prop}:(exS Φ G env (.setIx o i e) s).post P↔(evE Φ G env e s).post fun v s1=>(evE Φ G env o s1).post fun x s2=>(evE Φ G env i s2).post fun y s3=>∃ r k vs j,x=.ref r∧y=.int k∧s3[r]?=some (.lst vs)∧L2.ixN vs.length k=some j∧P (.nx env) (upd s3 r (vs.set j v)):=by
 show (Out.bind _ _).post P↔_
 simp only [post_bind]
 refine post_congr fun v s1=>post_congr fun x s2=>post_congr fun y s3=>⟨fun h=>?_,fun ⟨r,k,vs,j,h1,h2,h3,h4,h5⟩=>?_⟩
 . split at h
   . split at h
     . rename_i e3
       split at h
       . rename_i e4; exact ⟨_,_,_,_,rfl,rfl,e3,e4,post_ok.mp h⟩
       . exact (post_stuck.mp h).elim
     . exact (post_stuck.mp h).elim
   . exact (post_stuck.mp h).elim
 . subst h1; subst h2
   simp only [h3,h4]
   exact post_ok.mpr h5
theorem p_if {c:Cn} {a b:Sms} {P:Fl→Sto→Prop}:(exS Φ G env (.ifS c a b) s).post P↔(evT Φ G env c s).post fun t s1=>if t=true then (exSs Φ G env a s1).post P else (exSs Φ G env b s1).post P:=by
 show (Out.bind _ _).post P↔_
 simp only [post_bind,post_ite]
theorem p_pass {P:Fl→Sto→Prop}:(exS Φ G env .pass s).post P↔P (.nx env) s:=post_ok
theorem p_brk {P:Fl→Sto→Prop}:(exS Φ G env .brk s).post P↔P (.bk env) s:=post_ok
theorem p_cont {P:Fl→Sto→Prop}:(exS Φ G env .cont s).post P↔P (.ct env) s:=post_ok
theorem p_snil {P:Fl→Sto→Prop}:(exSs Φ G env .nil s).post P↔P (.nx env) s:=post_ok
noncomputable def thenS (Φ:Calls) (G:Str→Option Val) (cs:Sms) (P:Fl→Sto→Prop):Fl→Sto→Prop
 | .nx e,s1=>(exSs Φ G e cs s1).post P
 | fl,s1=>P fl s1
theorem p_scons {c:Sm} {cs:Sms} {P:Fl→Sto→Prop}:(exSs Φ G env (.cons c cs) s).post P↔(exS Φ G env c s).post (thenS Φ G cs P):=by
 show (Out.bind _ _).post P↔_
 simp only [post_bind]
 have:∀ fl s1,(match fl with | .nx e=>exSs Φ G e cs s1 | fl=>Out.ok fl s1:Out Fl).post P↔thenS Φ G cs P fl s1:=fun fl s1=>by
   cases fl with
   | nx e=>exact Iff.rfl
   | _=>exact post_ok
 exact ⟨fun h=>post_mono h fun fl s1 h=>(this fl s1).mp h,fun h=>post_mono h fun fl s1 h=>(this fl s1).mpr h⟩
theorem then_nx {cs:Sms} {P:Fl→Sto→Prop} {e:Env}:thenS Φ G cs P (.nx e) s↔(exSs Φ G e cs s).post P:=Iff.rfl
theorem then_rt {cs:Sms} {P:Fl→Sto→Prop} {v:Val}:thenS Φ G cs P (.rt v) s↔P (.rt v) s:=Iff.rfl
theorem then_bk {cs:Sms} {P:Fl→Sto→Prop} {v:Env}:thenS Φ G cs P (.bk v) s↔P (.bk v) s:=Iff.rfl
theorem then_ct {cs:Sms} {P:Fl→Sto→Prop} {v:Env}:thenS Φ G cs P (.ct v) s↔P (.ct v) s:=Iff.rfl
theorem loopC_pure {I:Env→Prop} {g:Val→List Val} {r:Src} {t:Tgt} {body:Env→Sto→List Val→Out (List Val × Env)} (hr:r.ok s=true):∀ (xs:List Val),(∀ x∈xs,∀ e acc,I e→∃ e1 e2,bindT t x e=some e1∧body e1 s acc=.ok (acc++g x,e2) s∧I e2)→∀ e acc,I e→∃ e',I e'∧loopC r t body xs e s acc=.ok (acc++xs.flatMap g,e') s
 | [],_,e,acc,h0=>⟨e,h0,by simp [loopC,hr]⟩
 | x :: xs,h,e,acc,h0=>by
   obtain ⟨e1,e2,h1,h2,h3⟩:=h x (.head _) e acc h0
   obtain ⟨e',h4,h5⟩:=loopC_pure hr xs (fun y hy=>h y (.tail _ hy)) e2 (acc++g x) h3
   refine ⟨e',h4,?_⟩
   simp only [loopC,hr,if_true,h1,h2,bind_ok,h5,List.flatMap_cons,List.append_assoc]
theorem p_comp {m:Bool} {N:List Str} {fr:List (Option Nat)} {elt:Ex} {t:Tgt} {it:Itb} {ifs:Cns} {P:Val→Sto→Prop} (I:Env→Prop) (g:Val→List Val)
   (h:(evIt Φ G env it s).post fun r s1=>r.ok s1=true∧I (startC fr env)∧(∀ x∈r.xs,∀ e,I e→∃ e1,bindT t x e=some e1∧I e1∧(evTs Φ G e1 ifs s1).post fun b s2=>s2=s1∧if b=true then (evE Φ G e1 elt s1).post (fun v s2=>s2=s1∧g x=[v]) else g x=[])∧(newList m (r.xs.flatMap g) s1).post P) :
   (evE Φ G env (.comp m N fr elt t it ifs) s).post P:=by
 obtain ⟨r,s1,ei,h1,h2,h3,h4⟩:=h
 obtain ⟨e',_,h5⟩:=loopC_pure (I:=I) (g:=g) (body:=fun e s' acc=>(evTs Φ G e ifs s').bind fun b s2=>if b then (evE Φ G e elt s2).bind fun v s3=>.ok (acc++[v],e) s3 else .ok (acc,e) s2) h1 r.xs (fun x hx e acc he=>by
   obtain ⟨e1,k1,k2,b,s2,k3,rfl,k4⟩:=h3 x hx e he
   refine ⟨e1,e1,k1,?_,k2⟩
   rw [k3,bind_ok]
   cases b with
   | true =>
     rw [if_pos rfl] at k4 ⊢
     obtain ⟨v,s3,kw,rfl,kv⟩:=k4
     rw [kw,bind_ok,kv]
   | false =>
     rw [if_neg Bool.false_ne_true] at k4 ⊢
     rw [k4,List.append_nil]) (startC fr env) [] h2
 show (Out.bind (evIt Φ G env it s) _).post P
 rw [ei,bind_ok]
 rw [h5,bind_ok]
 exact h4
noncomputable def Small (l:List Val):Prop:=l.length≤LINE
theorem p_comp2 {m:Bool} {N:List Str} {fr:List (Option Nat)} {elt:Ex} {t t2:Tgt} {it it2:Itb} {ifs ifs2:Cns} {P:Val→Sto→Prop} (I:Env→Prop) (g:Val→List Val) (J:Val→Env→Prop) (g2:Val→Val→List Val)
   (h:(evIt Φ G env it s).post fun r s1=>r.ok s1=true∧I (startC fr env)∧(∀ x∈r.xs,∀ e,I e→∃ e1,bindT t x e=some e1∧(evTs Φ G e1 ifs s1).post fun b s2=>s2=s1∧if b=true then (evIt Φ G e1 it2 s1).post (fun r2 s2=>s2=s1∧r2.ok s1=true∧J x e1∧(∀ e,J x e→I e)∧g x=r2.xs.flatMap (g2 x)∧∀ y∈r2.xs,∀ e,J x e→∃ e2,bindT t2 y e=some e2∧J x e2∧(evTs Φ G e2 ifs2 s1).post fun b s2=>s2=s1∧if b=true then (evE Φ G e2 elt s1).post (fun v s2=>s2=s1∧g2 x y=[v]) else g2 x y=[]) else g x=[]∧I e1)∧Small (r.xs.flatMap g)∧(newList m (r.xs.flatMap g) s1).post P) :
   (evE Φ G env (.comp2 m N fr elt t it ifs t2 it2 ifs2) s).post P:=by
 obtain ⟨r,s1,ei,h1,h2,h3,hl,h4⟩:=h
 obtain ⟨e',_,h5⟩:=loopC_pure (I:=I) (g:=g) (body:=fun e s' acc=>(evTs Φ G e ifs s').bind fun b s2=>if b then (evIt Φ G e it2 s2).bind fun r2 s3 =>
         loopC r2 t2 (fun e' s4 acc'=>(evTs Φ G e' ifs2 s4).bind fun b' s5=>if b' then (evE Φ G e' elt s5).bind fun v s6=>.ok (acc'++[v],e') s6 else .ok (acc',e') s5) r2.xs e s3 acc
       else .ok (acc,e) s2) h1 r.xs (fun x hx e acc he=>by
   obtain ⟨e1,k1,b,s2,k3,rfl,k4⟩:=h3 x hx e he
   cases b with
   | true =>
     rw [if_pos rfl] at k4
     obtain ⟨r2,s3,k5,rfl,k6,k7,k8,k9,k10⟩:=k4
     obtain ⟨e2,k11,k12⟩:=loopC_pure (I:=J x) (g:=g2 x) (body:=fun e' s4 acc'=>(evTs Φ G e' ifs2 s4).bind fun b' s5=>if b' then (evE Φ G e' elt s5).bind fun v s6=>.ok (acc'++[v],e') s6 else .ok (acc',e') s5) k6 r2.xs (fun y hy e acc he=>by
       obtain ⟨e1,k1,k2,b,s2,k3,rfl,k4⟩:=k10 y hy e he
       refine ⟨e1,e1,k1,?_,k2⟩
       rw [k3,bind_ok]
       cases b with
       | true =>
         rw [if_pos rfl] at k4 ⊢
         obtain ⟨v,s3,kw,rfl,kv⟩:=k4
         rw [kw,bind_ok,kv]
       | false =>
         rw [if_neg Bool.false_ne_true] at k4 ⊢
         rw [k4,List.append_nil]) e1 acc k7
     refine ⟨e1,e2,k1,?_,k8 _ k11⟩
     rw [k3,bind_ok,if_pos rfl,k5,bind_ok,k12,k9]
   | false =>
     rw [if_neg Bool.false_ne_true] at k4
     refine ⟨e1,e1,k1,?_,k4.2⟩
     rw [k3,bind_ok,if_neg Bool.false_ne_true,k4.1,List.append_nil]) (startC fr env) [] h2
 show (Out.bind (evIt Φ G env it s) _).post P
 rw [ei,bind_ok]
 rw [h5,bind_ok]
 simp only [List.nil_append]
 rw [if_pos (show (r.xs.flatMap g).length≤LINE from hl)]
 exact h4
theorem loopF_rel (Q:List Val→Env→Sto→Prop) (R:Fl→Sto→Prop) {r:Src} {t:Tgt} {body:Env→Sto→Out Fl} (h0:∀ e s,Q [] e s→R (.nx e) s):∀ (xs:List Val),(∀ rest e s,Q rest e s→r.ok s=true)→(∀ x rest e s,Q (x :: rest) e s→∃ e1,bindT t x e=some e1∧(body e1 s).post fun fl s2=>match fl with | .nx e=>Q rest e s2 | .ct e=>Q rest e s2 | .bk e=>R (.nx e) s2 | .rt v=>R (.rt v) s2)→∀ e s,Q xs e s→(loopF r t body xs e s).post R
 | [],hk,_,e,s,q=>by
   simp only [loopF,hk _ _ _ q,if_true]
   exact post_ok.mpr (h0 _ _ q)
 | x :: xs,hk,h,e,s,q=>by
   obtain ⟨e1,h2,h3⟩:=h x xs e s q
   simp only [loopF,hk _ _ _ q,if_true,h2,post_bind]
   refine post_mono h3 fun fl s2 q=>?_
   cases fl with
   | nx e=>exact loopF_rel Q R h0 xs hk h e s2 q
   | ct e=>exact loopF_rel Q R h0 xs hk h e s2 q
   | bk e=>exact post_ok.mpr q
   | rt v=>exact post_ok.mpr q
noncomputable def stepQ (Q:Env→Sto→Prop) (R:Fl→Sto→Prop):Fl→Sto→Prop
 | .nx e,s=>Q e s
 | .ct e,s=>Q e s
 | .bk e,s=>R (.nx e) s
 | .rt v,s=>R (.rt v) s
theorem step_nx {Q:Env→Sto→Prop} {R:Fl→Sto→Prop} {e:Env}:stepQ Q R (.nx e) s↔Q e s:=Iff.rfl
theorem step_ct {Q:Env→Sto→Prop} {R:Fl→Sto→Prop} {e:Env}:stepQ Q R (.ct e) s↔Q e s:=Iff.rfl
theorem step_bk {Q:Env→Sto→Prop} {R:Fl→Sto→Prop} {e:Env}:stepQ Q R (.bk e) s↔R (.nx e) s:=Iff.rfl
theorem step_rt {Q:Env→Sto→Prop} {R:Fl→Sto→Prop} {v:Val}:stepQ Q R (.rt v) s↔R (.rt v) s:=Iff.rfl
theorem p_for {t:Tgt} {it:Itb} {b:Sms} {R:Fl→Sto→Prop} (Q:List Val→Env→Sto→Prop)
   (h:(evIt Φ G env it s).post fun r s1=>Q r.xs env s1∧(∀ rest e s,Q rest e s→r.ok s=true)∧(∀ x rest e s,Q (x :: rest) e s→∃ e1,bindT t x e=some e1∧(exSs Φ G e1 b s).post (stepQ (Q rest) R))∧∀ e s,Q [] e s→R (.nx e) s) :
   (exS Φ G env (.forS t it b) s).post R:=by
 obtain ⟨r,s1,ei,h1,h2,h3,h4⟩:=h
 show (Out.bind (evIt Φ G env it s) _).post R
 rw [ei,bind_ok]
 refine loopF_rel Q R h4 r.xs h2 (fun x rest e s q=>?_) _ _ h1
 obtain ⟨e1,k1,k2⟩:=h3 x rest e s q
 refine ⟨e1,k1,post_mono k2 fun fl s2 k=>?_⟩
 cases fl <;> exact k
theorem p_forE {t:Tgt} {it:Itb} {b:Sms} {R:Fl→Sto→Prop} (Q:List Val→Env→Sto→Prop) (xs:List Val) {s1:Sto} (hi:evIt Φ G env it s=.ok ⟨xs,Option.none⟩ s1) (h0:Q xs env s1)
   (h1:∀ x rest e s,Q (x :: rest) e s→∃ e1,bindT t x e=some e1∧(exSs Φ G e1 b s).post (stepQ (Q rest) R)) (h2:∀ e s,Q [] e s→R (.nx e) s) :
   (exS Φ G env (.forS t it b) s).post R:=p_for Q ⟨_,_,hi,h0,fun _ _ _ _=>rfl,h1,h2⟩
theorem p_compE {m:Bool} {N:List Str} {fr:List (Option Nat)} {elt:Ex} {t:Tgt} {it:Itb} {ifs:Cns} {P:Val→Sto→Prop} (I:Env→Prop) (g:Val→List Val) (xs:List Val) {s1:Sto} (hi:evIt Φ G env it s=.ok ⟨xs,Option.none⟩ s1) (h0:I (startC fr env))
   (h1:∀ x∈xs,∀ e,I e→∃ e1,bindT t x e=some e1∧I e1∧(evTs Φ G e1 ifs s1).post fun b s2=>s2=s1∧if b=true then (evE Φ G e1 elt s1).post (fun v s2=>s2=s1∧g x=[v]) else g x=[]) (h2:(newList m (xs.flatMap g) s1).post P) :
   (evE Φ G env (.comp m N fr elt t it ifs) s).post P:=p_comp I g ⟨_,_,hi,rfl,h0,h1,h2⟩
theorem loopW_rel (Q:Nat→Env→Sto→Prop) (R:Fl→Sto→Prop) {c:Env→Sto→Out Bool} {body:Env→Sto→Out Fl}:∀ (n k:Nat),n < k→(∀ n e s,Q n e s→(c e s).post fun b s1=>if b=true then (body e s1).post (stepQ (fun e s=>∃ m,m < n∧Q m e s) R) else R (.nx e) s1)→∀ e s,Q n e s→(loopW c body k e s).post R:=by
 intro n
 induction n using Nat.strongRecOn with
 | ind n ih =>
   intro k hk h e s q
   cases k with
   | zero=>omega
   | succ k =>
     simp only [loopW,post_bind]
     refine post_mono (h n e s q) fun b s1 z=>?_
     cases b with
     | true =>
       rw [if_pos rfl] at z ⊢
       simp only [post_bind]
       refine post_mono z fun fl s2 z=>?_
       cases fl with
       | nx e =>
         obtain ⟨m,h1,h2⟩:=z
         exact ih m h1 k (by omega) h e s2 h2
       | ct e =>
         obtain ⟨m,h1,h2⟩:=z
         exact ih m h1 k (by omega) h e s2 h2
       | bk e=>exact post_ok.mpr z
       | rt v=>exact post_ok.mpr z
     | false =>
       rw [if_neg Bool.false_ne_true] at z ⊢
       exact post_ok.mpr z
theorem p_while {c:Cn} {b:Sms} {R:Fl→Sto→Prop} (n:Nat) (Q:Nat→Env→Sto→Prop) (hn:n < WHILE) (q:Q n env s)
   (h:∀ n e s,Q n e s→(evT Φ G e c s).post fun t s1=>if t=true then (exSs Φ G e b s1).post (stepQ (fun e s=>∃ m,m < n∧Q m e s) R) else R (.nx e) s1) :
   (exS Φ G env (.whileS c b) s).post R:=loopW_rel Q R n WHILE hn h env s q
end
theorem tr_none {s:Sto}:truth s .none=some false:=rfl
theorem tr_bool {s:Sto} {b:Bool}:truth s (.bool b)=some b:=rfl
theorem tr_int {s:Sto} {i:Int}:truth s (.int i)=some (i != 0):=rfl
theorem tr_tup {s:Sto} {vs:List Val}:truth s (.tup vs)=some !vs.isEmpty:=rfl
theorem tr_lst {s:Sto} {vs:List Val}:truth s (.lst vs)=some !vs.isEmpty:=rfl
theorem so_tup {s:Sto} {vs:List Val}:srcOf s (.tup vs)=some ⟨vs,Option.none⟩:=rfl
theorem so_lst {s:Sto} {vs:List Val}:srcOf s (.lst vs)=some ⟨vs,Option.none⟩:=rfl
theorem so_ctup {s:Sto} {ns:List Int}:srcOf s (.ctup ns)=some ⟨ns.map .int,Option.none⟩:=rfl
theorem sok_none {s:Sto} {xs:List Val}:Src.ok ⟨xs,Option.none⟩ s=true:=rfl
theorem bt_nm {i:Nat} {v:Val} {env:Env}:bindT (.nm i) v env=some (env.set i (some v)):=rfl
theorem bt_nms {is:List Nat} {vs:List Val} {env:Env}:bindT (.nms is) (.tup vs) env=if vs.length=is.length then some ((is.zip vs).foldl (fun e p=>e.set p.1 (some p.2)) env) else Option.none:=rfl
mutual
theorem bq_refl:∀ v:Val,v.beq v=true
 | .none=>rfl | .bool b=>by simp [Val.beq] | .int i=>by simp [Val.beq] | .str x=>by simp [Val.beq] | .dct0=>rfl
 | .tup vs=>by simp [Val.beq,bqs_refl vs] | .lst vs=>by simp [Val.beq,bqs_refl vs]
 | .ctup _=>by simp [Val.beq] | .scr _=>by simp [Val.beq] | .ref _=>by simp [Val.beq] | .fn _=>by simp [Val.beq] | .ty _=>by simp [Val.beq]
theorem bqs_refl:∀ vs:List Val,beqs vs vs=true
 | []=>rfl
 | v :: vs=>by simp [beqs,bq_refl v,bqs_refl vs]
end
theorem okOld_app:∀ (s t:Sto),okOld s (s++t)=true
 | [],_=>rfl
 | .lst vs :: r,t=>by simp [okOld,Cel.beq,bqs_refl vs,okOld_app r t]
theorem okOld_refl (s:Sto):okOld s s=true:=by have:=okOld_app s []; rwa [List.append_nil] at this
theorem okOld_set:∀ (s t:Sto) (i:Nat) (vs:List Val),noRefs vs=true→okOld s (s.set i (.lst vs)++t)=true
 | [],_,_,_,_=>by simp [okOld]
 | .lst ws :: r,t,0,vs,h=>by simp [okOld,Cel.noRef,h,okOld_app r t]
 | .lst ws :: r,t,i + 1,vs,h=>by simp [okOld,Cel.beq,bqs_refl ws,okOld_set r t i vs h]
theorem nr_none:Val.none.noRef=true:=by rw [Val.noRef]
theorem nr_bool {b:Bool}:(Val.bool b).noRef=true:=by rw [Val.noRef]
theorem nr_int {b:Int}:(Val.int b).noRef=true:=by rw [Val.noRef]
theorem nr_str {b:Str}:(Val.str b).noRef=true:=by rw [Val.noRef]
theorem nr_tup {vs:List Val}:(Val.tup vs).noRef=noRefs vs:=by rw [Val.noRef]
theorem nr_lst {vs:List Val}:(Val.lst vs).noRef=noRefs vs:=by rw [Val.noRef]
theorem nrs_nil:noRefs []=true:=by rw [noRefs]
theorem nrs_cons {v:Val} {vs:List Val}:noRefs (v :: vs)=(v.noRef && noRefs vs):=by rw [noRefs]
theorem noRefs_ints:∀ ns:List Int,noRefs (ns.map .int)=true
 | []=>rfl
 | _ :: ns=>by simp [noRefs,Val.noRef,noRefs_ints ns]
theorem noRefs_prs:∀ zs:List (Int × Int),noRefs (zs.map prV)=true
 | []=>rfl
 | _ :: zs=>by simp [noRefs,Val.noRef,prV,noRefs_prs zs]
noncomputable def leaveK (k:Bool) (s0:Sto) (v:Val) (s:Sto):Out Val:=
 if k then .ok v s
 else if okOld s0 s then (match freeze s0.length s v with | some v'=>.ok v' (s.take s0.length) | Option.none=>.stuck) else .stuck
theorem leaveK_keep {s0 s:Sto} {v:Val}:leaveK true s0 v s=.ok v s:=rfl
theorem leave_pure {k:Bool} {s:Sto} {v:Val} (h:v.noRef=true):leaveK k s v s=.ok v s:=by
 unfold leaveK
 cases k
 . simp [okOld_refl,freeze,h]
 . rfl
theorem leave_more {s t:Sto} {v:Val} (h:v.noRef=true):leaveK false s v (s++t)=.ok v s:=by
 unfold leaveK
 simp [okOld_app,freeze,h]
theorem leave_setx {s t:Sto} {v:Val} {i:Nat} {vs:List Val} (h:v.noRef=true) (hv:noRefs vs=true):leaveK false s v (s.set i (.lst vs)++t)=.ok v (s.set i (.lst vs)):=by
 unfold leaveK
 have e:s.length=(s.set i (.lst vs)).length:=by rw [List.length_set]
 simp only [okOld_set s t i vs hv,freeze,h,if_true,Bool.false_eq_true,if_false,e,List.take_left']
theorem leave_set {s:Sto} {v:Val} {i:Nat} {vs:List Val} (h:v.noRef=true) (hv:noRefs vs=true):leaveK false s v (s.set i (.lst vs))=.ok v (s.set i (.lst vs)):=by
 have:=leave_setx (s:=s) (t:=[]) (i:=i) h hv
 rwa [List.append_nil] at this
noncomputable def fin (k:Bool) (s:Sto) (P:Val→Sto→Prop):Fl→Sto→Prop
 | .nx _,s1=>(leaveK k s .none s1).post P
 | .rt v,s1=>(leaveK k s v s1).post P
 | _,_=>False
theorem fin_nx {k:Bool} {s s1:Sto} {P:Val→Sto→Prop} {e:Env}:fin k s P (.nx e) s1↔(leaveK k s .none s1).post P:=Iff.rfl
theorem fin_rt {k:Bool} {s s1:Sto} {P:Val→Sto→Prop} {v:Val}:fin k s P (.rt v) s1↔(leaveK k s v s1).post P:=Iff.rfl
theorem p_run {T:Tbl} {Φ:Calls} {N ps:List Str} {k:Bool} {b:Sms} {vs:List Val} {s:Sto} {P:Val→Sto→Prop}:(run T Φ ⟨N,ps,k,b⟩ vs s).post P↔vs.length=ps.length∧(exSs Φ T.gl (startE N vs) b s).post (fin k s P):=by
 unfold run
 by_cases hl:vs.length=ps.length
 . rw [if_pos hl,post_bind]
   refine ⟨fun h=>⟨hl,post_mono h fun fl s1 h=>?_⟩,fun h=>post_mono h.2 fun fl s1 h=>?_⟩
   . cases fl <;> first | exact h | exact (post_stuck.mp h).elim
   . cases fl <;> first | exact h | exact h.elim
 . rw [if_neg hl]
   exact ⟨fun h=>(post_stuck.mp h).elim,fun h=>absurd h.1 hl⟩
theorem callN_up {T:Tbl} {n:Nat} {f:Str} {v:Nat} {F:Fn} (h:T.fn f v=some F) (vs:List Val) (s:Sto):callN T (n + 1) f v vs s=run T (callN T n) F vs s:=by
 show (match T.fn f v with | some F=>run T (callN T n) F vs s | Option.none=>.stuck)=_
 rw [h]
noncomputable def At (T:Tbl) (k:Nat) (C:Calls→Prop):Prop:=∀ n,k≤n→C (callN T n)
noncomputable def EVl:=And.intro @p_lit <| And.intro @p_var <| And.intro @p_gl <| And.intro @p_ty <| And.intro @p_bin <| And.intro @p_neg <| And.intro @p_not <| And.intro @p_cmp <| And.intro @p_chain <| And.intro @p_and <| And.intro @p_and1 <| And.intro @p_and2 <| And.intro @p_or <| And.intro @p_or1 <| And.intro @p_or2 <| And.intro @p_ife <| And.intro @p_tup <| And.intro @p_lst <| And.intro @p_call <| And.intro @p_blt <| And.intro @p_meth <| And.intro @p_lrange <| And.intro @p_ix <| And.intro @p_sl <| And.intro @p_onil <| And.intro @p_oyes <| And.intro @p_nil <| And.intro @p_cons <| And.intro @p_val <| And.intro @p_tnot <| And.intro @p_tand <| And.intro @p_tor <| And.intro @p_tsnil <| And.intro @p_tonil <| And.intro @p_tscons <| And.intro @p_tocons <| And.intro @p_ival <| And.intro @p_range1 <| And.intro @p_range2 <| And.intro @p_enum <| And.intro @p_expr <| And.intro @p_ret <| And.intro @p_retN <| And.intro @p_asg <| And.intro @p_asgT <| And.intro @p_par <| And.intro @p_setIx <| And.intro @p_if <| And.intro @p_pass <| And.intro @p_brk <| And.intro @p_cont <| And.intro @p_snil <| And.intro @p_scons <| And.intro @then_nx <| And.intro @then_rt <| And.intro @then_bk <| And.intro @then_ct <| And.intro @step_nx <| And.intro @step_ct <| And.intro @step_bk <| And.intro @step_rt <| And.intro @post_ok <| And.intro @post_ite <| And.intro @post_stuck <| And.intro @tr_none <| And.intro @tr_bool <| And.intro @tr_int <| And.intro @tr_tup <| And.intro @tr_lst <| And.intro @so_tup <| And.intro @so_lst <| And.intro @so_ctup <| And.intro @sok_none <| And.intro @bt_nm <| And.intro @bt_nms <| And.intro @p_run <| And.intro @fin_nx <| And.intro @fin_rt <| And.intro @leaveK_keep <| And.intro @leave_pure <| And.intro @nr_none <| And.intro @nr_bool <| And.intro @nr_int <| And.intro @nr_str <| And.intro @nr_tup <| And.intro @nr_lst <| And.intro @nrs_nil <| And.intro @nrs_cons <| And.intro @noRefs_ints <| @noRefs_prs
end M
end
section
namespace M
open PySem
noncomputable def wholeV (l m:Int):Val→Bool
 | .int i=>decide (l≤i) && decide (i≤m)
 | _=>false
theorem whole_int {l m i:Int} (h1:l≤i) (h2:i≤m):wholeV l m (.int i)=true:=by simp [wholeV,h1,h2]
noncomputable def CWhole (Φ:Calls):Prop:=∀ (v:Val) (l m:Int) (s:Sto),kindOf v≠none→Φ "is_whole" 0 [v,.int l,.int m] s=.ok (.bool (wholeV l m v)) s
noncomputable def CWholes (Φ:Calls):Prop:=∀ (vs:List Val) (l m:Int) (s:Sto),(∀ v∈vs,kindOf v≠none)→Φ "are_wholes" 0 [.tup vs,.int l,.int m] s=.ok (.bool (vs.all (wholeV l m))) s
theorem l_tup {m:Bool} {vs:List Val} {s:Sto}:blt .len m [.tup vs] s=.ok (.int vs.length) s:=rfl
theorem l_ctup {m:Bool} {ns:List Int} {s:Sto}:blt .len m [.ctup ns] s=.ok (.int ns.length) s:=by simp [blt,seqOf]
theorem l_scr {m:Bool} {ns:List Int} {s:Sto}:blt .len m [.scr ns] s=.ok (.int ns.length) s:=by simp [blt,seqOf]
theorem le_int {a b:Int} {s:Sto}:cmpOp .le (.int a) (.int b) s=.ok (.bool (decide (a≤b))) s:=rfl
theorem lt_int {a b:Int} {s:Sto}:cmpOp .lt (.int a) (.int b) s=.ok (.bool (decide (a < b))) s:=rfl
theorem ge_int {a b:Int} {s:Sto}:cmpOp .ge (.int a) (.int b) s=.ok (.bool (decide (b≤a))) s:=rfl
theorem gt_int {a b:Int} {s:Sto}:cmpOp .gt (.int a) (.int b) s=.ok (.bool (decide (b < a))) s:=rfl
theorem isi_tup {m:Bool} {vs:List Val} {s:Sto}:blt .isi m [.tup vs,.ty "tuple"] s=.ok (.bool true) s:=rfl
theorem boolsOf_map {α:Type} (f:α→Bool):∀ xs:List α,boolsOf (xs.map fun x=>Val.bool (f x))=some (xs.map f)
 | []=>rfl
 | x :: xs=>by simp [boolsOf,boolsOf_map f xs]
theorem flat1 {α β:Type} (f:α→β) (xs:List α):xs.flatMap (fun x=>[f x])=xs.map f:=by
 induction xs with
 | nil=>rfl
 | cons x xs ih=>simp [ih]
theorem badd {m:Bool} {i j:Int} {s:Sto}:binOp m .add (.int i) (.int j) s=.ok (.int (i + j)) s:=by simp only [binOp]
theorem bsub {m:Bool} {i j:Int} {s:Sto}:binOp m .sub (.int i) (.int j) s=.ok (.int (i - j)) s:=by simp only [binOp]
theorem bmulL {m:Bool} {i j:Int} {s:Sto} (h:-1000000≤i∧i≤1000000):binOp m .mul (.int i) (.int j) s=.ok (.int (i * j)) s:=by
 simp only [binOp]
 rw [if_pos (.inl (by omega))]
theorem bmulR {m:Bool} {i j:Int} {s:Sto} (h:-1000000≤j∧j≤1000000):binOp m .mul (.int i) (.int j) s=.ok (.int (i * j)) s:=by
 simp only [binOp]
 rw [if_pos (.inr (by omega))]
section
variable {T:Tbl} {Φ:Calls} {s:Sto}
theorem isi_eq {v:Val} {m:Bool} {n:String} {a c:L2.Kd} {s:Sto} (h:kindOf v=some a) (h':kdOfTy n=some c):blt .isi m [v,.ty n] s=.ok (.bool (a.sub c)) s:=by
 simp only [blt]; rw [h,h']
theorem kd_int {v:Val} {a:L2.Kd} (h:kindOf v=some a):(∃ i,v=.int i) ∨ (∃ b,v=.bool b) ∨ (a.sub .int=false∧∀ l m,wholeV l m v=false):=by
 cases v with
 | int i=>exact .inl ⟨i,rfl⟩
 | bool b=>exact .inr (.inl ⟨b,rfl⟩)
 | _=>cases h <;> exact .inr (.inr ⟨rfl,fun _ _=>rfl⟩)
theorem kd_some {v:Val} (h:kindOf v≠none):∃ a,kindOf v=some a:=Option.ne_none_iff_exists'.mp h
theorem run_whole {v:Val} {l m:Int} (hk:kindOf v≠none):run T Φ F.F_is_whole [v,.int l,.int m] s=.ok (.bool (wholeV l m v)) s:=by
 rw [post_eq]
 obtain ⟨a,ha⟩:=kd_some hk
 rcases kd_int ha with ⟨i,rfl⟩ | ⟨b,rfl⟩ | ⟨h1,h2⟩
 . have e1:blt .isi false [.int i,.ty "int"] s=.ok (.bool true) s:=rfl
   have e2:blt .isi false [.int i,.ty "bool"] s=.ok (.bool false) s:=rfl
   simp [F.F_is_whole,EVl,startE,startC,e1,e2,le_int,wholeV]
   omega
 . have e1:blt .isi false [.bool b,.ty "int"] s=.ok (.bool true) s:=rfl
   have e2:blt .isi false [.bool b,.ty "bool"] s=.ok (.bool true) s:=rfl
   simp [F.F_is_whole,EVl,startE,startC,e1,e2,wholeV]
 . have e1:=isi_eq (m:=false) (s:=s) ha (show kdOfTy "int"=some .int from rfl)
   rw [h1] at e1
   simp [F.F_is_whole,EVl,startE,startC,e1,h2]
theorem run_wholes (c:CWhole Φ) {vs:List Val} {l m:Int} (hk:∀ v∈vs,kindOf v≠none):run T Φ F.F_are_wholes [.tup vs,.int l,.int m] s=.ok (.bool (vs.all (wholeV l m))) s:=by
 rw [post_eq]
 simp [F.F_are_wholes,EVl,startE,startC]
 refine p_comp (fun e=>∃ o,e=[o,some (.int l),some (.int m)]) (fun x=>[.bool (wholeV l m x)]) ?_
 simp [EVl,startE,startC]
 refine ⟨?_,?_⟩
 . intro x hx
   simp [EVl,startE,startC,c x l m s (hk x hx)]
 . simp [newList,EVl,startE,startC,blt,flat1,lstOf,boolsOf_map]
end
end M
end
section
namespace M
open PySem
theorem mem_rng {lo:Int} {n:Nat} {x:Val} (h:x∈rngV lo n):∃ k:Nat,k < n∧x=.int (lo + k):=by
 unfold rngV at h
 obtain ⟨k,h1,rfl⟩:=List.mem_map.mp h
 exact ⟨k,List.mem_range.mp h1,rfl⟩
theorem pickI (ns:List Int) (lo st:Int) (n:Nat):L2.pickV (ns.map Val.int) lo st n=(L2.pickV ns lo st n).map Val.int:=by
 unfold L2.pickV
 rw [List.map_filterMap]
 congr 1
 funext k
 simp [List.getElem?_map]
theorem eqv_int (a b:Int):PyData.eqv (.int a) (.int b)=decide (a=b):=by
 by_cases h:a=b <;> simp [PyData.eqv,h]
theorem eq_int {a b:Int} {s:Sto}:cmpOp .eq (.int a) (.int b) s=.ok (.bool (decide (a=b))) s:=by
 simp [cmpOp,deref,deref0,eqOp,Val.isD,Val.d,PyData.depth,eqv_int]
theorem ne_int {a b:Int} {s:Sto}:cmpOp .ne (.int a) (.int b) s=.ok (.bool !(decide (a=b))) s:=by
 simp [cmpOp,deref,deref0,eqOp,Val.isD,Val.d,PyData.depth,eqv_int]
theorem ix_nat {vs:List Val} {k:Nat} {v:Val} {s:Sto} (h:vs[k]?=some v):ixOp (.tup vs) (.int k) s=.ok v s:=by
 simp [ixOp,seqOf,L2.atI_nat h]
theorem ix_int {ns:List Int} {k:Nat} {i:Int} {s:Sto} (h:ns[k]?=some i):ixOp (.tup (ns.map .int)) (.int k) s=.ok (.int i) s:=ix_nat (by rw [List.getElem?_map,h]; rfl)
theorem flat_ints (ns:List Int):(ns.map Val.int).all flat=true:=by
 rw [List.all_map]; simp [flat]
theorem count_ints (ns:List Int) (y:Int):(ns.map Val.int).countP (fun z=>eqF z (.int y))=ns.count y:=by
 rw [List.countP_map]; rfl
section
variable {T:Tbl} {Φ:Calls} {s:Sto}
end
end M
end
section
namespace M
open PySem
theorem kind_ints {ns:List Int}:∀ v∈ns.map Val.int,kindOf v≠none:=fun v hv=>by
 obtain ⟨i,_,rfl⟩:=List.mem_map.mp hv
 simp [kindOf]
theorem all_wholes {l m:Int} {ns:List Int} (h:∀ x∈ns,l≤x∧x≤m):(ns.map Val.int).all (wholeV l m)=true:=by
 rw [List.all_eq_true]
 intro v hv
 obtain ⟨i,hi,rfl⟩:=List.mem_map.mp hv
 exact whole_int (h i hi).1 (h i hi).2
noncomputable abbrev tpI (ns:List Int):Val:=.tup (ns.map .int)
section
variable {T:Tbl} {Φ:Calls} {s:Sto}
noncomputable def CAreSizes (Φ:Calls):Prop:=∀ (zs:List Int) (s:Sto),Sz zs→Φ "are_sizes" 0 [tpI zs] s=.ok (.bool true) s
noncomputable def CNeedSizes (Φ:Calls):Prop:=∀ (zs:List Int) (s:Sto),Sz zs→Φ "need_sizes" 0 [tpI zs] s=.ok .none s
theorem run_needSizes (c:CAreSizes Φ) {zs:List Int} (h:Sz zs):run T Φ F.F_need_sizes [tpI zs] s=.ok .none s:=by
 rw [post_eq]
 simp [F.F_need_sizes,EVl,startE,startC,c zs s h]
theorem add_tup {m:Bool} {a b:List Val} {s:Sto} (h:a.length + b.length≤LINE):binOp m .add (.tup a) (.tup b) s=.ok (.tup (a++b)) s:=by
 simp only [binOp]; rw [if_pos h]
end
end M
end
section
namespace M
open PySem
theorem flat_if {α β:Type} (f:α→Bool) (g:α→β) (xs:List α):xs.flatMap (fun x=>if f x then [g x] else [])=(xs.filter f).map g:=by
 induction xs with
 | nil=>rfl
 | cons x xs ih =>
   rw [List.flatMap_cons,ih]
   cases h:f x <;> simp [h]
theorem flat_rng {f:Nat→Bool} {F:Val→List Val} {n:Nat} (hF:∀ k < n,F (.int k)=if f k then [.int k] else []):(rngV 0 n).flatMap F=((List.range n).filter f).map fun (k:Nat)=>Val.int k:=by
 unfold rngV
 rw [List.flatMap_map,← flat_if]
 have key:∀ l:List Nat,(∀ k∈l,k < n)→l.flatMap (fun (k:Nat)=>F (.int (0 + (k:Int))))=l.flatMap fun (k:Nat)=>if f k then [Val.int k] else []:=fun l=>by
   induction l with
   | nil=>intro _; rfl
   | cons k l ih =>
     intro h
     rw [List.flatMap_cons,List.flatMap_cons,ih fun j hj=>h j (.tail _ hj),Int.zero_add,hF k (h k (.head _))]
 exact key _ fun k hk=>List.mem_range.mp hk
section
variable {T:Tbl} {Φ:Calls} {s:Sto}
noncomputable def hueT (hs:List Nat):Val:=.tup (hs.map fun (k:Nat)=>Val.int k)
theorem noRefs_nats (hs:List Nat):noRefs (hs.map fun (k:Nat)=>Val.int k)=true:=by
 have:=noRefs_ints (hs.map fun (k:Nat)=>(k:Int))
 rw [List.map_map] at this
 exact this
end
end M
end
section
namespace M
open PySem
noncomputable def penC (a b:Int):Cel:=.lst [.int a,.int b]
noncomputable def PenAt (s:Sto) (p:Nat):Prop:=∃ a b,s[p]?=some (penC a b)∧0≤b∧b < 2147483629
noncomputable def PenTo (s:Sto) (p:Nat) (s':Sto):Prop:=∃ a b,s'=s.set p (penC a b)∧0≤b∧b < 2147483629
theorem PenTo.at_ {s s':Sto} {p:Nat} (h:PenTo s p s') (hp:p < s.length):PenAt s' p:=by
 obtain ⟨a,b,rfl,h1⟩:=h
 exact ⟨a,b,List.getElem?_set_self hp,h1⟩
theorem leave_pen {s s' t:Sto} {p:Nat} {v:Val} (h:PenTo s p s') (hv:v.noRef=true):leaveK false s v (s'++t)=.ok v s':=by
 obtain ⟨a,b,rfl,_⟩:=h
 exact leave_setx hv rfl
theorem leave_pen0 {s s':Sto} {p:Nat} {v:Val} (h:PenTo s p s') (hv:v.noRef=true):leaveK false s v s'=.ok v s':=by
 have:=leave_pen (t:=[]) h hv
 rwa [List.append_nil] at this
theorem bmod {m:Bool} {i j:Int} {s:Sto} (h:0 < j):binOp m .mod (.int i) (.int j) s=.ok (.int (i % j)) s:=by
 simp only [binOp]; rw [if_pos h]
theorem bdiv {m:Bool} {i j:Int} {s:Sto} (h:0 < j∧j < 1073741824):binOp m .fdiv (.int i) (.int j) s=.ok (.int (i / j)) s:=by
 simp only [binOp]; rw [if_pos h]
theorem ix_lst {vs:List Val} {k:Nat} {v:Val} {s:Sto} (h:vs[k]?=some v):ixOp (.lst vs) (.int k) s=.ok v s:=by
 simp [ixOp,seqOf,L2.atI_nat h]
theorem ix_ref {vs:List Val} {i k:Nat} {v:Val} {s:Sto} (hs:s[i]?=some (.lst vs)) (h:vs[k]?=some v):ixOp (.ref i) (.int k) s=.ok v s:=by
 simp [ixOp,seqOf,hs,L2.atI_nat h]
section
variable {T:Tbl} {Φ:Calls} {s:Sto}
noncomputable def CCell (Φ:Calls):Prop:=∀ (ns:List Int) (k:Nat) (s:Sto),∃ c,Φ "_law_cell_at" 0 [.scr ns,.int k] s=.ok (.int c) s
noncomputable def CPen (Φ:Calls):Prop:=∀ (c:Int) (s:Sto),∃ a b,Φ "_law_pen" 1 [.int c] s=.ok (.ref s.length) (s++[penC a b])∧0≤b∧b < 2147483629
noncomputable def CDraw (Φ:Calls):Prop:=∀ (p:Nat) (m:Int) (s:Sto),PenAt s p→0 < m→m < 1000000→(Φ "_law_draw" 0 [.ref p,.int m] s).post fun v s'=>∃ r:Nat,v=.int r∧(r:Int) < m∧PenTo s p s'
theorem run_cell (ns:List Int) (k:Nat):∃ c,run T Φ F.F__law_cell_at [.scr ns,.int k] s=.ok (.int c) s:=by
 by_cases h:k < ns.length
 . refine ⟨ns[k],?_⟩
   rw [post_eq]
   have h':(k:Int) < ns.length:=by omega
   have e:(ns.map Val.int)[k]?=some (.int ns[k]):=by rw [List.getElem?_map,List.getElem?_eq_getElem h]; rfl
   have c1:ixOp (.scr ns) (.int k) s=.ok (.int ns[k]) s:=by simp [ixOp,seqOf,L2.atI_nat e]
   simp [F.F__law_cell_at,EVl,startE,startC,l_scr,lt_int,h',h,c1]
 . refine ⟨0,?_⟩
   rw [post_eq]
   have h':¬ (k:Int) < ns.length:=by omega
   simp [F.F__law_cell_at,EVl,startE,startC,l_scr,lt_int,h',h]
theorem run_pen (c:Int):∃ a b,run T Φ F.F__law_pen_1 [.int c] s=.ok (.ref s.length) (s++[penC a b])∧0≤b∧b < 2147483629:=by
 have key:(run T Φ F.F__law_pen_1 [.int c] s).post fun v s'=>∃ a b,v=.ref s.length∧s'=s++[penC a b]∧0≤b∧b < 2147483629:=by
   have c1:∀ (i:Int) (b:Bool),binOp false .mul (.int i) (.int (if b then 1 else 0)) s=.ok (.int (i * (if b then 1 else 0))) s:=fun i b=>bmulR (by cases b <;> simp)
   have c2:∀ i:Int,binOp false .mod (.int i) (.int 2147483629) s=.ok (.int (i % 2147483629)) s:=fun i=>by simp [binOp]
   have c3:binOp false .pow (.int 10) (.int 18) s=.ok (.int (10 ^ 18)) s:=by simp [binOp]
   simp [F.F__law_pen_1,EVl,startE,startC,bsub,blt]
   simp [EVl,startE,startC,c1,c2,c3,ge_int,blt,LINE,newList,penC]
   rw [bmulR (by split <;> omega)]
   simp only [post_ok]
   rw [bmod (by omega)]
   simp only [post_ok]
   exact ⟨trivial,_,_,⟨trivial,rfl,rfl⟩,Int.emod_nonneg _ (by omega),Int.emod_lt_of_pos _ (by omega)⟩
 obtain ⟨v,s',h,a,b,rfl,rfl,h1⟩:=key
 exact ⟨a,b,h,h1⟩
theorem run_draw {p:Nat} {m:Int} (hp:PenAt s p) (h0:0 < m) (h1:m < 1000000):(run T Φ F.F__law_draw [.ref p,.int m] s).post fun v s'=>∃ r:Nat,v=.int r∧(r:Int) < m∧PenTo s p s':=by
 obtain ⟨a,b,hs,hb,hb1⟩:=hp
 have hlt:=(List.getElem?_eq_some_iff.mp hs).1
 have i0:ixOp (.ref p) (.int 0) s=.ok (.int a) s:=ix_ref (k:=0) hs rfl
 have i1:ixOp (.ref p) (.int 1) s=.ok (.int b) s:=ix_ref (k:=1) hs rfl
 have i1':∀ c d,ixOp (.ref p) (.int 1) (s.set p (penC c d))=.ok (.int d) (s.set p (penC c d)):=fun c d=>ix_ref (k:=1) (List.getElem?_set_self hlt) rfl
 have lv:∀ (i:Int) (c d:Int),leaveK false s (.int i) (s.set p (penC c d))=.ok (.int i) (s.set p (penC c d)):=fun i c d=>leave_set rfl rfl
 simp [F.F__law_draw,EVl,startE,startC,i0,gt_int]
 by_cases ha:0 < a
 . refine .inr ⟨ha,?_⟩
   have c1:blt .divmod false [.int a,.int m] s=.ok (.tup [.int (a / m),.int (a % m)]) s:=by
     simp only [blt]; rw [if_pos ⟨h0,by omega⟩]
   rw [c1]
   simp only [post_ok]
   refine ⟨[some (.ref p),some (.int m),some (.int (a / m)),some (.int (a % m)),none],rfl,_,rfl,_,rfl,p,rfl,_,hs,0,rfl,_,rfl,?_⟩
   have:upd s p ([Val.int a,Val.int b].set 0 (.int (a / m)))=s.set p (penC (a / m) b):=rfl
   rw [this,lv]
   simp only [post_ok]
   have e1:=Int.emod_nonneg a (show m≠0 by omega)
   have e2:=Int.emod_lt_of_pos a h0
   exact ⟨(a % m).toNat,by rw [Int.toNat_of_nonneg e1],by omega,_,_,rfl,hb,hb1⟩
 . refine .inl ⟨by omega,?_⟩
   rw [i1]; simp only [post_ok]
   rw [bmulR (by omega)]; simp only [post_ok,badd]
   rw [bmod (by omega)]; simp only [post_ok]
   generalize hd:(b * 48271 + 30269) % 2147483629=d
   have d0:0≤d:=by rw [←hd]; exact Int.emod_nonneg _ (by omega)
   have d1:d < 2147483629:=by rw [←hd]; exact Int.emod_lt_of_pos _ (by omega)
   refine ⟨_,hs,1,rfl,?_⟩
   have:upd s p ([Val.int a,Val.int b].set 1 (.int d))=s.set p (penC a d):=rfl
   rw [this]
   simp only [i1',post_ok]
   have c2:binOp false .mul (.int d) (.int d) (s.set p (penC a d))=.ok (.int (d * d)) (s.set p (penC a d)):=by
     simp only [binOp]; rw [if_pos (.inl (by omega))]
   rw [c2]; simp only [i1',post_ok]
   rw [bmulL (by omega)]; simp only [post_ok,badd]
   rw [bmod (by omega)]; simp only [post_ok]
   rw [bdiv (by omega)]; simp only [post_ok]
   rw [bmod h0]; simp only [post_ok,lv]
   generalize (d * d + 40692 * d + 7) % 2147483587 / 64=q
   have e1:=Int.emod_nonneg q (show m≠0 by omega)
   have e2:=Int.emod_lt_of_pos q h0
   exact ⟨(q % m).toNat,by rw [Int.toNat_of_nonneg e1],by omega,_,_,rfl,d0,d1⟩
end
end M
end
section
namespace M
open PySem
section
variable {T:Tbl} {Φ:Calls} {s:Sto}
end
end M
end
section
namespace M
open PySem
theorem isDs_ints:∀ ks:List Int,isDs (ks.map .int)=true
 | []=>by rw [List.map_nil,isDs]
 | k :: ks=>by rw [List.map_cons,isDs,isDs_ints ks,Val.isD]; rfl
theorem eq_nil {vs:List Val} {s:Sto} (h:isDs vs=true):cmpOp .eq (.lst vs) (.lst []) s=.ok (.bool vs.isEmpty) s:=by
 have h1:(Val.lst vs).isD=true:=by rw [Val.isD]; exact h
 have h2:(Val.lst []).isD=true:=by rw [Val.isD,isDs]
 have h3:(Val.lst []).d=.list []:=by rw [Val.d,ds]
 have h4:(Val.lst vs).d=.list (ds vs):=by rw [Val.d]
 have h5:PyData.eqv (.list (ds vs)) (.list [])=vs.isEmpty:=by
   cases vs with
   | nil=>rw [ds]; rfl
   | cons v vs=>rw [ds]; rfl
 simp only [cmpOp,deref,deref0,eqOp,h1,h2,h3,h4,h5]
 rfl
noncomputable def filG (bad:Int→Bool):Val→List Val
 | .int x=>if bad x then [.int x] else []
 | _=>[]
theorem filG_eq (bad:Int→Bool) (ks:List Int):(ks.map Val.int).flatMap (filG bad)=(ks.filter bad).map .int:=by
 rw [List.flatMap_map,← flat_if]; rfl
section
variable {T:Tbl} {Φ:Calls} {s:Sto}
end
end M
end
section
namespace M
open PySem
theorem rngV_ints (lo:Int) (n:Nat):rngV lo n=((List.range n).map fun (k:Nat)=>lo + (k:Int)).map .int:=by
 unfold rngV; rw [List.map_map]; rfl
section
variable {T:Tbl} {Φ:Calls} {s:Sto}
end
end M
end
section
namespace M
open PySem
theorem okShow_of {k w:Nat} {d:PyData} (L:L2.Leaf k w d) (hk:k≤50) (hw:w≤300000) (hd:d.hasDict=false):okShow d=true:=by
 have:=L.dp
 have:=L.wt
 unfold okShow
 rw [L.sh,L.lf,hd,decide_eq_true (show d.depth≤50 by omega),decide_eq_true (show d.weight≤300000 by omega)]
 rfl
theorem ds_ints:∀ ks:List Int,ds (ks.map .int)=ks.map PyData.int
 | []=>by rw [List.map_nil,ds]; rfl
 | k :: ks=>by rw [List.map_cons,ds,ds_ints ks,Val.d]; rfl
theorem isRs_ints:∀ ks:List Int,isRs (ks.map .int)=true
 | []=>by rw [List.map_nil,isRs]
 | k :: ks=>by rw [List.map_cons,isRs,isRs_ints ks,Val.isR]; rfl
theorem ne_str {a b:Str} {s:Sto}:cmpOp .ne (.str a) (.str b) s=.ok (.bool !(decide (a=b))) s:=rfl
theorem max2 {m:Bool} {i j:Int} {s:Sto}:blt .max m [.int i,.int j] s=.ok (.int (if j > i then j else i)) s:=rfl
theorem min2 {m:Bool} {i j:Int} {s:Sto}:blt .min m [.int i,.int j] s=.ok (.int (if j < i then j else i)) s:=rfl
theorem ev_cells {Φ:Calls} {G:Str→Option Val} {env:Env} {s:Sto} {ns:List Int} {K:Nat} (h0:env[0]?=some (some (.scr ns))) (hK:K≤100) :
   evIt Φ G env (.range1 (.blt .max false (.cons (.lit (.int 1)) (.cons (.blt .min false (.cons (.blt .len false (.cons (.var 0) .nil)) (.cons (.lit (.int K)) .nil))) .nil)))) s=.ok ⟨rngV 0 (max 1 (min ns.length K)),none⟩ s:=by
 rw [post_eq]
 simp only [EVl,startE,startC]
 refine ⟨_,h0,?_⟩
 rw [l_scr]; simp only [post_ok]
 rw [min2]; simp only [post_ok]
 rw [max2]; simp only [post_ok]
 have e:(if (if (K:Int) < (ns.length:Int) then (K:Int) else (ns.length:Int)) > 1 then (if (K:Int) < (ns.length:Int) then (K:Int) else (ns.length:Int)) else 1)=((max 1 (min ns.length K):Nat):Int):=by
   split <;> split <;> omega
 rw [e]
 refine ⟨_,rfl,⟨by omega,by unfold LINE; omega⟩,?_⟩
 simp
theorem leave_top {v:Val} {s:Sto} (h:v.noRef=true):leaveK false [] v s=.ok v []:=by
 unfold leaveK
 simp [okOld,freeze,h]
end M
end
section
namespace M
open L2
noncomputable def endB (ns:List Int) (z:Nat) (h:Int):Bool:=(List.range (ns.length / (z - 1))).any fun j=>(List.range (z - 1)).all fun k=>decide (ns[ns.length - (k + 1) * (j + 1)]?=some h)
end M
end
section
namespace F
open PySem M
noncomputable def F_followers:Fn:=⟨["sizes","strip"],["sizes","strip"],false,(.cons (.ifS (.val (.cmp .eq (.blt .len false (.cons (.var 1) .nil)) (.gl "MOST_PLACES"))) (.cons (.ret (.tup .nil)) .nil) .nil) (.cons (.ret (.blt .tuple false (.cons (.comp false ["hue","sizes","strip"] [none,some 0,some 1] (.var 0) (.nm 0) (.range1 (.blt .len false (.cons (.var 0) .nil))) (.cons (.val (.call "may_follow" 0 (.cons (.var 1) (.cons (.var 2) (.cons (.var 0) .nil))))) .nil)) .nil))) .nil))⟩
noncomputable def F_leaders:Fn:=⟨["sizes","strip"],["sizes","strip"],false,(.cons (.ret (.call "followers" 0 (.cons (.var 0) (.cons (.sl false (.var 1) .no .no (.yes (.neg (.lit (.int 1))))) .nil)))) .nil)⟩
noncomputable def F_may_follow:Fn:=⟨["sizes","strip","hue","end","others","step"],["sizes","strip","hue"],false,(.cons (.asg 3 (.blt .len false (.cons (.var 1) .nil))) (.cons (.asg 4 (.bin false .sub (.ix (.var 0) (.var 2)) (.lit (.int 1)))) (.cons (.forS (.nm 5) (.range2 (.lit (.int 1)) (.bin false .add (.bin false .fdiv (.var 3) (.var 4)) (.lit (.int 1)))) (.cons (.ifS (.val (.cmp .eq (.meth .count false (.sl false (.var 1) (.yes (.bin false .sub (.var 3) (.bin false .mul (.var 4) (.var 5)))) .no (.yes (.var 5))) (.cons (.var 2) .nil)) (.var 4))) (.cons (.ret (.lit (.bool false))) .nil) .nil) .nil)) (.cons (.ret (.lit (.bool true))) .nil))))⟩
end F
end
section
namespace M
open PySem
structure Gl4 (T:Tbl):Prop where
 mp:T.gl "MOST_PLACES"=some (.int 40)
 ls:T.gl "LEAST_SIZE"=some (.int 2)
 ms:T.gl "MOST_SIZE"=some (.int 8)
 hu:T.gl "HUES"=some (.ctup [0,1,2,3])
section
variable {T:Tbl} {Φ:Calls} {s:Sto}
theorem run_areSizes4 (g:Gl4 T) (c:CWholes Φ) {zs:List Int} (h:Sz zs):run T Φ F.F_are_sizes [tpI zs] s=.ok (.bool true) s:=by
 rw [post_eq]
 have c1:=c (zs.map .int) 2 8 s kind_ints
 rw [all_wholes h.2.2] at c1
 have a1:(1:Int)≤(zs.length:Int):=by have:=h.1; omega
 have a2:(zs.length:Int)≤4:=by have:=h.2.1; omega
 simp [F.F_are_sizes,EVl,startE,startC,isi_tup,l_tup,l_ctup,g.hu,g.ls,g.ms,le_int,c1,a1,a2]
end
end M
end
section
namespace M
open PySem
theorem cut_end {n f d s:Nat} (hd:0 < d) (hs:1≤s) (h:f + d * s=n):L2.cut3 n (some (f:Int)) none (d:Int)=((f:Int),s):=by
 have hm:d * s=d * (s - 1) + d:=by rw [←Nat.mul_succ]; congr 1; omega
 have e:=cut_row (n:=n) (f:=f) hd hs (by omega)
 have e2:Builtin.Slice.sliceAdjust (some (f:Int)) none (d:Int) (n:Int)=Builtin.Slice.sliceAdjust (some (f:Int)) (some ((f:Int) + (d:Int) * (s:Int))) (d:Int) (n:Int):=by
   have e0:(f:Int) + (d:Int) * (s:Int)=(n:Int):=by rw [←h,Int.natCast_add,Int.natCast_mul]
   rw [e0]
   unfold Builtin.Slice.sliceAdjust
   simp only [if_neg (show ¬ (d:Int) < 0 by omega),if_neg (show ¬ (f:Int) < 0 by omega),if_neg (show ¬ (n:Int) < 0 by omega)]
   refine Prod.ext rfl ?_
   show (n:Int)=min (n:Int) (n:Int)
   omega
 unfold L2.cut3 at e ⊢
 rw [e2]; exact e
noncomputable def tB (ns:List Int) (z:Nat) (h:Int) (j:Nat):Bool:=(List.range (z - 1)).all fun k=>decide (ns[ns.length - (k + 1) * (j + 1)]?=some h)
theorem count_end {ns:List Int} {z j:Nat} {h:Int} (hz:2≤z) (hj:(z - 1) * (j + 1)≤ns.length):decide ((((List.range (z - 1)).map fun k=>ns.getD (ns.length - (z - 1) * (j + 1) + k * (j + 1)) 0).count h:Int)=((z - 1:Nat):Int))=tB ns z h j:=by
 have hl:((List.range (z - 1)).map fun k=>ns.getD (ns.length - (z - 1) * (j + 1) + k * (j + 1)) 0).length=z - 1:=by rw [List.length_map,List.length_range]
 have key:∀ k,k < z - 1→ns.length - (z - 1) * (j + 1) + k * (j + 1)=ns.length - ((z - 2 - k) + 1) * (j + 1)∧ns.length - ((z - 2 - k) + 1) * (j + 1) < ns.length:=fun k hk=>by
   have e2:((z - 2 - k) + 1) * (j + 1) + k * (j + 1)=(z - 1) * (j + 1):=by rw [←Nat.add_mul]; congr 1; omega
   have hp:1 * 1≤((z - 2 - k) + 1) * (j + 1):=Nat.mul_le_mul (by omega) (by omega)
   omega
 rw [Bool.eq_iff_iff,decide_eq_true_iff]
 unfold tB
 rw [List.all_eq_true]
 constructor
 . intro e k hk
   have hk:=List.mem_range.mp hk
   have ha:=List.count_eq_length.mp (by rw [hl]; exact Int.ofNat.inj e)
   obtain ⟨e1,e2⟩:=key (z - 2 - k) (by omega)
   rw [show z - 2 - (z - 2 - k)=k by omega] at e1 e2
   have:=ha _ (List.mem_map.mpr ⟨z - 2 - k,List.mem_range.mpr (by omega),rfl⟩)
   rw [e1,List.getD_eq_getElem?_getD,List.getElem?_eq_getElem e2] at this
   rw [decide_eq_true_iff,List.getElem?_eq_getElem e2]
   exact congrArg some this.symm
 . intro H
   have:((List.range (z - 1)).map fun k=>ns.getD (ns.length - (z - 1) * (j + 1) + k * (j + 1)) 0).count h=z - 1:=by
     rw [List.count_eq_length.mpr,hl]
     intro x hx
     obtain ⟨k,hk,rfl⟩:=List.mem_map.mp hx
     have hk:=List.mem_range.mp hk
     obtain ⟨e1,e2⟩:=key k hk
     have:=of_decide_eq_true (H (z - 2 - k) (List.mem_range.mpr (by omega)))
     rw [e1,List.getD_eq_getElem?_getD,this]; rfl
   rw [this]
theorem pick_rev {ns:List Int} (hn:ns.length < 41):L2.pickV ns (L2.cut3 ns.length none none (-1)).1 (-1) (L2.cut3 ns.length none none (-1)).2=ns.reverse:=by
 have hc:∀ n:Nat,n < 41→L2.cut3 n none none (-1)=((n:Int) - 1,n):=by decide +kernel
 rw [hc _ hn]
 unfold L2.pickV
 dsimp only
 rw [fm_map (g:=fun k=>ns.getD (ns.length - 1 - k) 0)]
 . refine List.ext_getElem? fun i=>?_
   by_cases hi:i < ns.length
   . rw [List.getElem?_map,List.getElem?_range hi,List.getElem?_reverse hi,Option.map_some,List.getD_eq_getElem?_getD,List.getElem?_eq_getElem (by omega)]; rfl
   . rw [List.getElem?_eq_none (by simp; omega),List.getElem?_eq_none (by simp; omega)]
 . intro k hk
   have hk:=List.mem_range.mp hk
   have:((ns.length:Int) - 1 + (k:Int) * -1).toNat=ns.length - 1 - k:=by omega
   rw [this,List.getD_eq_getElem?_getD,List.getElem?_eq_getElem (by omega)]; rfl
noncomputable def folL (zs ns:List Int):List Nat:=if ns.length=40 then [] else (List.range zs.length).filter fun h=>!endB ns (sizeN zs h) h
section
variable {T:Tbl} {Φ:Calls} {s:Sto}
noncomputable def CMay (Φ:Calls):Prop:=∀ (zs ns:List Int) (h:Nat) (s:Sto),Sz zs→ns.length≤40→h < zs.length→Φ "may_follow" 0 [tpI zs,tpI ns,.int h] s=.ok (.bool !(endB ns (sizeN zs h) h)) s
theorem run_may {zs ns:List Int} {h:Nat} (hz:Sz zs) (hn:ns.length≤40) (hh:h < zs.length):run T Φ F.F_may_follow [tpI zs,tpI ns,.int h] s=.ok (.bool !(endB ns (sizeN zs h) h)) s:=by
 rw [post_eq]
 obtain ⟨z1,z2,z3⟩:=sizeN_ok hz hh
 generalize hzz:sizeN zs h=z at *
 have c2:=ix_int (s:=s) z1
 have hz1:((z:Int) - 1)=((z - 1:Nat):Int):=by omega
 have hK:ns.length / (z - 1)≤40:=Nat.le_trans (Nat.div_le_self _ _) hn
 simp [F.F_may_follow,EVl,startE,startC,l_tup,c2,bsub,hz1]
 have hKm:∀ j,j < ns.length / (z - 1)→(z - 1) * (j + 1)≤ns.length:=fun j hj=>by
   rw [Nat.lt_iff_add_one_le,Nat.le_div_iff_mul_le (by omega),Nat.mul_comm] at hj; exact hj
 have he:endB ns z h=(List.range (ns.length / (z - 1))).any (tB ns z h):=rfl
 generalize hKK:ns.length / (z - 1)=K at *
 refine p_forE (fun rest e s'=>s'=s∧(∃ o5,e=[some (tpI zs),some (tpI ns),some (.int h),some (.int ns.length),some (.int ((z - 1:Nat):Int)),o5])∧∃ todo:List Nat,rest=todo.map (fun (j:Nat)=>Val.int (1 + (j:Int)))∧(∀ j∈todo,j < K)∧endB ns z h=todo.any (tB ns z h)) (rngV 1 K) (s1:=s) ?_ ⟨rfl,⟨_,rfl⟩,List.range K,rfl,fun j hj=>List.mem_range.mp hj,he⟩ ?_ ?_
 . rw [post_eq]
   simp [EVl,startE,startC]
   rw [bdiv (by omega),← Int.natCast_ediv,hKK]
   simp [EVl,startE,startC,badd]
   unfold LINE; omega
 . rintro x rest e s' ⟨rfl,⟨o5,rfl⟩,todo,hr,hb,hf⟩
   cases todo with
   | nil=>cases hr
   | cons j todo =>
     rw [List.map_cons] at hr
     injection hr with hx hr
     subst hx
     refine ⟨_,rfl,?_⟩
     have hj:=hKm j (hb j (.head _))
     have hc:=count_end (h:=(h:Int)) z2 hj
     obtain ⟨d,hd0⟩:∃ d,d=j + 1:=⟨_,rfl⟩
     have hd:(1 + (j:Int))=(d:Int):=by omega
     rw [←hd0] at hj hc
     have d0:0 < d:=by omega
     obtain ⟨w,hw⟩:∃ w,w=z - 1:=⟨_,rfl⟩
     have w1:1≤w:=by omega
     have w8:w≤8:=by omega
     rw [←hw] at hj hc ⊢
     have m1:binOp false .mul (.int (w:Int)) (.int (d:Int)) s'=.ok (.int ((w * d:Nat):Int)) s':=by
       rw [bmulL (by omega),Int.natCast_mul]
     obtain ⟨f,hf0⟩:∃ f,f=ns.length - w * d:=⟨_,rfl⟩
     rw [←hf0] at hc
     have e4:(ns.length:Int) - ((w * d:Nat):Int)=(f:Int):=by omega
     have hm:d * w=d * (w - 1) + d:=by rw [←Nat.mul_succ,Nat.succ_eq_add_one,Nat.sub_add_cancel w1]
     have hcm:=Nat.mul_comm d w
     have hsl:slOp false (tpI ns) (some (f:Int)) none (some (d:Int)) s'=.ok (tpI ((List.range w).map fun k=>ns.getD (f + k * d) 0)) s':=by
       have e5:L2.cut3 ns.length (some (f:Int)) none (d:Int)=((f:Int),w):=cut_end d0 w1 (by omega)
       have hl:w≤LINE:=by unfold LINE; omega
       have hdI:(d:Int)≠0:=by omega
       simp only [slOp,List.length_map,e5]
       rw [if_pos ⟨hdI,hl⟩]
       simp only [pickI]
       rw [pick_row (by omega)]
     generalize (List.range w).map (fun k=>ns.getD (f + k * d) 0)=xs at *
     rw [hd]
     simp only [tpI] at *
     simp [EVl,startE,startC]
     rw [m1]
     simp only [post_ok,bsub,e4]
     refine ⟨_,rfl,?_⟩
     rw [hsl]
     simp [EVl,startE,startC,meth,flat_ints,count_ints,eq_int,flat]
     rw [List.any_cons,← hc] at hf
     by_cases hq:(xs.count (h:Int):Int)=(w:Int)
     . rw [decide_eq_true hq,Bool.true_or] at hf
       exact .inr ⟨hq,by rw [hf]⟩
     . rw [decide_eq_false hq,Bool.false_or] at hf
       exact .inl ⟨hq,todo,hr,fun j hj=>hb j (.tail _ hj),hf⟩
 . rintro e s' ⟨rfl,⟨o5,rfl⟩,todo,hr,hb,hf⟩
   have ht:todo=[]:=by cases todo with | nil=>rfl | cons _ _=>cases hr
   subst ht
   simp [EVl,startE,startC,hf]
noncomputable def CFoll (Φ:Calls):Prop:=∀ (zs ns:List Int) (s:Sto),Sz zs→ns.length≤40→Φ "followers" 0 [tpI zs,tpI ns] s=.ok (hueT (folL zs ns)) s
theorem run_foll (g:Gl4 T) (c:CMay Φ) {zs ns:List Int} (hz:Sz zs) (hn:ns.length≤40):run T Φ F.F_followers [tpI zs,tpI ns] s=.ok (hueT (folL zs ns)) s:=by
 rw [post_eq]
 have h4:zs.length≤4:=hz.2.1
 simp [F.F_followers,EVl,startE,startC,l_tup,g.mp,eq_int]
 by_cases hc:ns.length=40
 . have:((ns.length:Int)=40):=by omega
   simp [this,folL,hc,hueT,LINE,EVl,startE,startC]
 . have hc':¬ ((ns.length:Int)=40):=by omega
   simp [hc']
   refine p_comp (fun e=>∃ o,e=[o,some (tpI zs),some (tpI ns)]) (fun x=>match x with | .int a=>if !endB ns (sizeN zs a.toNat) a then [.int a] else [] | _=>[]) ?_
   simp [EVl,startE,startC,l_tup]
   refine ⟨by unfold LINE; omega,?_,?_⟩
   . intro x hx
     obtain ⟨a,ha,rfl⟩:=mem_rng hx
     have c1:=c zs ns a s hz hn ha
     simp only [tpI] at c1
     simp [EVl,startE,startC,c1]
   . rw [flat_rng (f:=fun a=>!endB ns (sizeN zs a) a) (fun k _=>by simp)]
     simp [M.newList,EVl,startE,startC,blt,lstOf,noRefs_nats,hueT,folL,hc]
noncomputable def CLead (Φ:Calls):Prop:=∀ (zs ns:List Int) (s:Sto),Sz zs→ns.length≤40→Φ "leaders" 0 [tpI zs,tpI ns] s=.ok (hueT (folL zs ns.reverse)) s
theorem sl_rev {ns:List Int} {s:Sto} (hn:ns.length≤40):slOp false (tpI ns) none none (some (-1)) s=.ok (tpI ns.reverse) s:=by
 have hc:∀ n:Nat,n < 41→(L2.cut3 n none none (-1)).2≤LINE:=by
   have:∀ n:Nat,n < 41→(L2.cut3 n none none (-1)).2≤100:=by decide +kernel
   exact fun n h=>Nat.le_trans (this n h) (by unfold LINE; omega)
 have h0:(-1:Int)≠0:=by omega
 have hp:=pick_rev (ns:=ns) (by omega)
 simp only [slOp,List.length_map]
 rw [if_pos ⟨h0,hc _ (by omega)⟩]
 simp only [pickI]
 rw [hp]
theorem run_lead (c:CFoll Φ) {zs ns:List Int} (hz:Sz zs) (hn:ns.length≤40):run T Φ F.F_leaders [tpI zs,tpI ns] s=.ok (hueT (folL zs ns.reverse)) s:=by
 rw [post_eq]
 have c1:=c zs ns.reverse s hz (by rw [List.length_reverse]; exact hn)
 have c2:=sl_rev (s:=s) hn
 simp only [tpI] at c1 c2
 simp [F.F_leaders,EVl,startE,startC,c2]
 rw [List.map_reverse] at c1
 rw [c1]
 simp [EVl,startE,startC,hueT,noRefs_nats]
end
end M
end
section
namespace M
open PySem
section
variable {T:Tbl} {Φ:Calls} {s:Sto}
noncomputable def CEndT (Φ:Calls):Prop:=∀ (zs fs:List Int) (h:Nat) (s:Sto),Sz zs→h < zs.length→fs.length≤40→Φ "_law_ended" 0 [tpI zs,tpI fs,.int h] s=.ok (.bool (endB fs (sizeN zs h) h)) s
theorem run_endT {zs fs:List Int} {h:Nat} (hz:Sz zs) (hh:h < zs.length) (hf:fs.length≤40):run T Φ F.F__law_ended [tpI zs,tpI fs,.int h] s=.ok (.bool (endB fs (sizeN zs h) h)) s:=by
 rw [post_eq]
 obtain ⟨z1,z2,z3⟩:=sizeN_ok hz hh
 generalize hzz:sizeN zs h=z at *
 have c2:=ix_int (s:=s) z1
 simp [F.F__law_ended,EVl,startE,startC,l_tup,c2]
 have hd:((fs.length:Int)) / ((z:Int) - 1)=((fs.length / (z - 1):Nat):Int):=by
   rw [Int.natCast_ediv]; congr 1; omega
 have hK:fs.length / (z - 1)≤40:=Nat.le_trans (Nat.div_le_self _ _) hf
 have he:endB fs z h=(List.range (fs.length / (z - 1))).any (tB fs z h):=rfl
 generalize hKK:fs.length / (z - 1)=K at *
 refine p_forE (fun rest e s'=>s'=s∧(∃ o5,e=[some (tpI zs),some (tpI fs),some (.int h),some (.int fs.length),some (.int z),o5])∧∃ todo:List Nat,rest=todo.map (fun (j:Nat)=>Val.int (1 + (j:Int)))∧(∀ j∈todo,j < K)∧endB fs z h=todo.any (tB fs z h)) (rngV 1 K) (s1:=s) ?_ ⟨rfl,⟨_,rfl⟩,List.range K,rfl,fun j hj=>List.mem_range.mp hj,he⟩ ?_ ?_
 . rw [post_eq]
   simp [EVl,startE,startC,bsub,badd]
   rw [bdiv (by omega)]
   simp [EVl,startE,startC,hd,badd]
   unfold LINE; omega
 . rintro x rest e s' ⟨rfl,⟨o5,rfl⟩,todo,hr,hb,hfe⟩
   cases todo with
   | nil=>cases hr
   | cons j todo =>
     rw [List.map_cons] at hr
     injection hr with hx hr
     subst hx
     refine ⟨_,rfl,?_⟩
     have hjK:=hb j (.head _)
     have htB:tB fs z h j=(List.range (z - 1)).all fun k=>decide (fs[fs.length - (k + 1) * (j + 1)]?=some (h:Int)):=rfl
     obtain ⟨d,hd0⟩:∃ d,d=j + 1:=⟨_,rfl⟩
     have hdc:(1 + (j:Int))=(d:Int):=by omega
     rw [hdc]
     rw [←hd0] at htB
     have d1:1≤d:=by omega
     have hdz:∀ k:Nat,k≤z - 1→k * d≤fs.length:=fun k hk=>by
       have h1:k * d≤(z - 1) * K:=Nat.mul_le_mul hk (by omega)
       have h2:(z - 1) * K≤fs.length:=by rw [←hKK]; exact Nat.mul_div_le _ _
       omega
     let bad:Int→Bool:=fun k=>!decide (fs[((fs.length:Int) - k * d).toNat]?=some (h:Int))
     simp [EVl,startE,startC]
     refine p_compE (fun e=>∃ o,e=[o,some (.int h),some (tpI fs),some (.int fs.length),some (.int d)]) (filG bad) (rngV 1 (z - 1)) (s1:=s') ?_ ⟨_,rfl⟩ ?_ ?_
     . rw [post_eq]
       simp [EVl,startE,startC]
       unfold LINE; omega
     . rintro x hx e ⟨o,rfl⟩
       obtain ⟨k,hk,rfl⟩:=mem_rng hx
       refine ⟨_,rfl,⟨_,rfl⟩,?_⟩
       have hk1:=hdz (k + 1) (by omega)
       have hpos:1≤(k + 1) * d:=Nat.mul_le_mul (show 1≤k + 1 by omega) d1
       have hcast:(1 + (k:Int)) * (d:Int)=(((k + 1) * d:Nat):Int):=by
         rw [Int.natCast_mul]; congr 1; omega
       have hlt:fs.length - (k + 1) * d < fs.length:=by omega
       have c3:ixOp (tpI fs) (.int ((fs.length - (k + 1) * d:Nat):Int)) s'=.ok (.int fs[fs.length - (k + 1) * d]) s':=ix_int (List.getElem?_eq_getElem hlt)
       have e4:(fs.length:Int) - (((k + 1) * d:Nat):Int)=((fs.length - (k + 1) * d:Nat):Int):=by omega
       simp [EVl,startE,startC]
       rw [bmulL (by omega)]
       simp only [post_ok,bsub,hcast,e4]
       rw [c3]
       simp only [post_ok,ne_int,tr_bool]
       simp only [filG,bad,hcast,e4,Int.toNat_natCast,List.getElem?_eq_getElem hlt]
       by_cases h5:fs[fs.length - (k + 1) * d]=(h:Int) <;> simp [h5]
     . rw [rngV_ints,filG_eq]
       simp only [M.newList,EVl,startE,startC,Bool.false_eq_true,if_false]
       rw [eq_nil (isDs_ints _)]
       simp only [post_ok,tr_bool]
       have key:(List.map Val.int (List.filter bad (List.map (fun (k:Nat)=>1 + (k:Int)) (List.range (z - 1))))).isEmpty=tB fs z h j:=by
         rw [htB,Bool.eq_iff_iff,List.isEmpty_iff,List.map_eq_nil_iff,List.filter_eq_nil_iff,List.all_eq_true]
         have cast:∀ k:Nat,((fs.length:Int) - (1 + (k:Int)) * (d:Int)).toNat=fs.length - (k + 1) * d:=fun k=>by
           have hcast:(1 + (k:Int)) * (d:Int)=(((k + 1) * d:Nat):Int):=by
             rw [Int.natCast_mul]; congr 1; omega
           rw [hcast]; omega
         constructor
         . intro H k hk
           have:=H (1 + (k:Int)) (List.mem_map.mpr ⟨k,hk,rfl⟩)
           simpa [bad,cast] using this
         . intro H x hx
           obtain ⟨k,hk,rfl⟩:=List.mem_map.mp hx
           have:=H k hk
           simpa [bad,cast] using this
       rw [key]
       rw [List.any_cons] at hfe
       cases hq:tB fs z h j with
       | false =>
         rw [hq,Bool.false_or] at hfe
         exact .inl ⟨rfl,trivial,todo,hr,fun j hj=>hb j (.tail _ hj),hfe⟩
       | true =>
         rw [hq,Bool.true_or] at hfe
         exact .inr ⟨rfl,by simp [EVl,startE,startC,hfe]⟩
 . rintro e s' ⟨rfl,⟨o5,rfl⟩,todo,hr,hb,hfe⟩
   have ht:todo=[]:=by cases todo with | nil=>rfl | cons _ _=>cases hr
   subst ht
   simp [EVl,startE,startC,hfe]
end
end M
end
section
namespace M
open PySem
theorem ne_nil {vs:List Val} {s:Sto} (h:isDs vs=true):cmpOp .ne (.lst vs) (.lst []) s=.ok (.bool !vs.isEmpty) s:=by
 have h1:(Val.lst vs).isD=true:=by rw [Val.isD]; exact h
 have h2:(Val.lst []).isD=true:=by rw [Val.isD,isDs]
 have h3:(Val.lst []).d=.list []:=by rw [Val.d,ds]
 have h4:(Val.lst vs).d=.list (ds vs):=by rw [Val.d]
 have h5:PyData.eqv (.list (ds vs)) (.list [])=vs.isEmpty:=by
   cases vs with
   | nil=>rw [ds]; rfl
   | cons v vs=>rw [ds]; rfl
 simp only [cmpOp,deref,deref0,eqOp,h1,h2,h3,h4,h5]
 rfl
section
variable {T:Tbl} {Φ:Calls} {s:Sto}
end
end M
end
section
namespace M
open PySem
end M
end
section
namespace M
open PySem
section
variable {T:Tbl} {Φ:Calls} {s:Sto}
end
end M
end
section
namespace M
open PySem
end M
end
section
namespace F12
open PySem M
noncomputable def F__law_ended:Fn:=⟨["_law_sizes","_law_strip","_law_hue","_law_here","_law_size","_law_step"],["_law_sizes","_law_strip","_law_hue"],false,(.cons (.par [3,4] (.cons (.blt .len false (.cons (.var 1) .nil)) (.cons (.ix (.var 0) (.var 2)) .nil))) (.cons (.forS (.nm 5) (.range2 (.lit (.int 1)) (.bin false .add (.bin false .fdiv (.var 3) (.bin false .sub (.var 4) (.lit (.int 1)))) (.lit (.int 1)))) (.cons (.ifS (.val (.cmp .eq (.comp false ["_law_k","_law_hue","_law_strip","_law_here","_law_step"] [none,some 2,some 1,some 3,some 5] (.var 0) (.nm 0) (.range2 (.lit (.int 1)) (.var 4)) (.cons (.val (.cmp .ne (.ix (.var 2) (.bin false .sub (.var 3) (.bin false .mul (.var 0) (.var 4)))) (.var 1))) .nil)) (.lst false .nil))) (.cons (.ret (.lit (.bool true))) .nil) .nil) .nil)) (.cons (.ret (.lit (.bool false))) .nil)))⟩
noncomputable def F__law_small:Fn:=⟨["_law_pen_here","_law_some"],["_law_pen_here"],false,(.cons (.asg 1 (.lst false (.cons (.tup (.cons (.lit (.int 3)) (.cons (.lit (.int 3)) .nil))) (.cons (.tup (.cons (.lit (.int 3)) (.cons (.lit (.int 4)) .nil))) (.cons (.tup (.cons (.lit (.int 4)) (.cons (.lit (.int 3)) .nil))) (.cons (.tup (.cons (.lit (.int 2)) (.cons (.lit (.int 2)) (.cons (.lit (.int 3)) .nil)))) (.cons (.tup (.cons (.lit (.int 2)) (.cons (.lit (.int 3)) (.cons (.lit (.int 2)) .nil)))) (.cons (.tup (.cons (.lit (.int 3)) (.cons (.lit (.int 2)) (.cons (.lit (.int 2)) .nil)))) (.cons (.tup (.cons (.lit (.int 2)) (.cons (.lit (.int 6)) .nil))) (.cons (.tup (.cons (.lit (.int 5)) (.cons (.lit (.int 2)) .nil))) (.cons (.tup (.cons (.lit (.int 2)) (.cons (.lit (.int 4)) .nil))) (.cons (.tup (.cons (.lit (.int 3)) (.cons (.lit (.int 2)) .nil))) (.cons (.tup (.cons (.lit (.int 2)) (.cons (.lit (.int 2)) .nil))) (.cons (.tup (.cons (.lit (.int 2)) (.cons (.lit (.int 2)) (.cons (.lit (.int 2)) .nil)))) .nil)))))))))))))) (.cons (.ret (.ix (.bin false .add (.var 1) (.lst false (.cons (.tup (.cons (.lit (.int 2)) .nil)) (.cons (.tup (.cons (.lit (.int 3)) .nil)) (.cons (.tup (.cons (.lit (.int 5)) .nil)) (.cons (.tup (.cons (.lit (.int 8)) .nil)) .nil)))))) (.call "_law_draw" 0 (.cons (.var 0) (.cons (.lit (.int 16)) .nil))))) .nil))⟩
noncomputable def F_grown:Fn:=⟨["sizes","strips"],["sizes","strips"],false,(.cons (.ret (.comp2 false ["strip","hue","sizes"] [none,none,some 0] (.bin false .add (.var 0) (.tup (.cons (.var 1) .nil))) (.nm 0) (.val (.var 1)) .nil (.nm 1) (.range1 (.blt .len false (.cons (.var 2) .nil))) (.cons (.val (.call "may_follow" 0 (.cons (.var 2) (.cons (.var 0) (.cons (.var 1) .nil))))) .nil))) .nil)⟩
noncomputable def F_need_small_sizes:Fn:=⟨["thing","product"],["thing"],false,(.cons (.expr (.call "need_sizes" 0 (.cons (.var 0) .nil))) (.cons (.asg 1 (.call "product_of" 0 (.cons (.var 0) .nil))) (.cons (.ifS (.val (.cmp .gt (.var 1) (.gl "MOST_PRODUCT"))) (.cons (.raise (.lit .none)) .nil) .nil) .nil)))⟩
noncomputable def F_product_of:Fn:=⟨["numbers","product","number"],["numbers"],false,(.cons (.asg 1 (.lit (.int 1))) (.cons (.forS (.nm 2) (.val (.var 0)) (.cons (.aug 1 .mul (.var 2)) .nil)) (.cons (.ret (.var 1)) .nil)))⟩
end F12
end
section
namespace M
open L2
noncomputable def okH (zs ns:List Int):List Nat:=(List.range zs.length).filter fun h=>!endB ns (sizeN zs h) h
noncomputable def growL (zs:List Int) (L:List (List Int)):List (List Int):=L.flatMap fun ns=>(okH zs ns).map fun (h:Nat)=>ns++[(h:Int)]
noncomputable def levs (zs:List Int) (L:List (List Int)):Nat→List (List Int)
 | 0=>L
 | n + 1=>growL zs (levs zs L n)
theorem mem_grow {zs:List Int} {L:List (List Int)} {y:List Int}:y∈growL zs L↔∃ x∈L,∃ h:Nat,h < zs.length∧endB x (sizeN zs h) h=false∧y=x++[(h:Int)]:=by
 unfold growL okH
 rw [List.mem_flatMap]
 constructor
 . rintro ⟨x,hx,hy⟩
   obtain ⟨h,hh,rfl⟩:=List.mem_map.mp hy
   rw [List.mem_filter,List.mem_range,Bool.not_eq_true'] at hh
   exact ⟨x,hx,h,hh.1,hh.2,rfl⟩
 . rintro ⟨x,hx,h,h1,h2,rfl⟩
   refine ⟨x,hx,List.mem_map.mpr ⟨h,?_,rfl⟩⟩
   rw [List.mem_filter,List.mem_range,Bool.not_eq_true']
   exact ⟨h1,h2⟩
theorem levs_len {zs:List Int} {L:List (List Int)} {k:Nat} (h:∀ x∈L,x.length=k):∀ n,∀ x∈levs zs L n,x.length=k + n
 | 0,x,hx=>h x hx
 | n + 1,x,hx=>by
   obtain ⟨y,hy,a,_,_,rfl⟩:=mem_grow.mp hx
   rw [List.length_append,levs_len h n y hy]; rfl
noncomputable def Rise (L:List (List Int)):Prop:=L.Pairwise fun a b=>lexN a b=true
theorem lex_irr:∀ a:List Int,lexN a a=false
 | []=>rfl
 | x :: a=>by unfold lexN; rw [if_pos rfl]; exact lex_irr a
theorem lex_app:∀ {a b x y:List Int},lexN a b=true→lexN (a++x) (b++y)=true
 | [],[],_,_,h=>by cases h
 | [],_ :: _,_,_,h=>by cases h
 | _ :: _,[],_,_,h=>by cases h
 | u :: a,v :: b,x,y,h=>by
   rw [List.cons_append,List.cons_append]
   unfold lexN at h ⊢
   by_cases e:u=v
   . rw [if_pos e] at h ⊢; exact lex_app h
   . rw [if_neg e] at h ⊢; exact h
theorem lex_last:∀ {a:List Int} {x y:Int},x < y→lexN (a++[x]) (a++[y])=true
 | [],x,y,h=>by
   show lexN [x] [y]=true
   unfold lexN; rw [if_neg (by omega)]; exact decide_eq_true h
 | u :: a,x,y,h=>by
   rw [List.cons_append,List.cons_append]
   unfold lexN; rw [if_pos rfl]; exact lex_last h
theorem rise_grow {zs:List Int} {L:List (List Int)} (h:Rise L):Rise (growL zs L):=by
 unfold Rise growL
 rw [List.pairwise_flatMap]
 refine ⟨fun a _=>?_,h.imp fun {a b} hab x hx y hy=>?_⟩
 . rw [List.pairwise_map]
   exact (List.pairwise_lt_range.filter _).imp fun {i j} hij=>lex_last (by omega)
 . obtain ⟨i,_,rfl⟩:=List.mem_map.mp hx
   obtain ⟨j,_,rfl⟩:=List.mem_map.mp hy
   exact lex_app hab
theorem rise_levs {zs:List Int} {L:List (List Int)} (h:Rise L):∀ n,Rise (levs zs L n)
 | 0=>h
 | n + 1=>rise_grow (rise_levs h n)
theorem grow_sub {zs:List Int} {L L':List (List Int)} (h:L.Sublist L'):(growL zs L).Sublist (growL zs L'):=by
 unfold growL
 induction h with
 | slnil=>exact .slnil
 | cons a _ ih=>rw [List.flatMap_cons]; exact ih.trans (List.sublist_append_right _ _)
 | cons_cons a _ ih=>rw [List.flatMap_cons,List.flatMap_cons]; exact ih.append_left _
theorem levs_add (zs:List Int) (L:List (List Int)) (m:Nat):∀ n,levs zs (levs zs L m) n=levs zs L (m + n)
 | 0=>rfl
 | n + 1=>congrArg (growL zs) (levs_add zs L m n)
noncomputable def dies (zs:List Int):Nat→List (List Int)→Bool
 | 0,L=>L.isEmpty
 | n + 1,L=>decide (L.length≤100) && dies zs n (growL zs L)
theorem dies_ok {zs:List Int}:∀ {n:Nat} {L:List (List Int)},dies zs n L=true→levs zs L n=[]∧∀ m,m < n→(levs zs L m).length≤100
 | 0,L,h=>⟨List.isEmpty_iff.mp h,fun m hm=>absurd hm (Nat.not_lt_zero _)⟩
 | n + 1,L,h=>by
   unfold dies at h
   rw [Bool.and_eq_true] at h
   have ⟨h1,h2⟩:=dies_ok h.2
   have e:∀ m,levs zs (growL zs L) m=levs zs L (m + 1):=fun m=>by
     have:=levs_add zs L 1 m
     rw [show levs zs L 1=growL zs L from rfl,Nat.add_comm 1 m] at this
     exact this
   rw [e] at h1
   refine ⟨h1,fun m hm=>?_⟩
   cases m with
   | zero=>exact of_decide_eq_true h.1
   | succ m=>rw [←e]; exact h2 m (by omega)
noncomputable def smalls:List (List Int):=[3,3] :: [3,4] :: [4,3] :: [2,2,3] :: [2,3,2] :: [3,2,2] :: [2,6] :: [5,2] :: [2,4] :: [3,2] :: [2,2] :: [2,2,2] :: [2] :: [3] :: [5] :: [8] :: []
theorem smalls_die:(smalls.all fun zs=>dies zs 18 [[]] && decide (zs.foldl (· * ·) 1≤12) && (decide (1≤zs.length) && decide (zs.length≤4) && zs.all fun x=>decide (2≤x) && decide (x≤8)))=true:=by decide +kernel
theorem levs_end {zs:List Int} {L:List (List Int)} {n:Nat} (h:levs zs L n=[]):∀ m,levs zs L (n + m)=[]:=fun m=>by
 rw [←levs_add,h]
 induction m with
 | zero=>rfl
 | succ m ih=>show growL zs (levs zs [] m)=[]; rw [ih]; rfl
structure SmallZ (zs:List Int):Prop where
 sz:Sz zs
 prod:zs.foldl (· * ·) 1≤12
 die:∀ m,18≤m→levs zs [[]] m=[]
 few:∀ m,(levs zs [[]] m).length≤100
theorem small_of {zs:List Int} (h:zs∈smalls):SmallZ zs:=by
 have:=List.all_eq_true.mp smalls_die zs h
 simp only [Bool.and_eq_true,decide_eq_true_eq,List.all_eq_true] at this
 obtain ⟨⟨h1,h2⟩,⟨h3,h4⟩,h5⟩:=this
 have ⟨d1,d2⟩:=dies_ok h1
 have d3:∀ m,18≤m→levs zs [[]] m=[]:=fun m hm=>by
   have:=levs_end d1 (m - 18)
   rwa [show 18 + (m - 18)=m by omega] at this
 refine ⟨⟨h3,h4,fun x hx=>h5 x hx⟩,h2,d3,fun m=>?_⟩
 by_cases hm:m < 18
 . exact d2 m hm
 . rw [d3 m (by omega)]; simp
end M
end
section
namespace M
open PySem
noncomputable abbrev tps (L:List (List Int)):List Val:=L.map tpI
noncomputable def unI:Val→List Int
 | .tup vs=>vs.map fun v=>match v with | .int i=>i | _=>0
 | _=>[]
theorem un_tpI (ns:List Int):unI (tpI ns)=ns:=by
 show (ns.map Val.int).map _=ns
 rw [List.map_map]
 exact List.map_id' ns
theorem noRefs_tps:∀ L:List (List Int),noRefs (tps L)=true
 | []=>rfl
 | ns :: L=>by
   show (Val.noRef (tpI ns) && noRefs (tps L))=true
   rw [noRefs_tps L,Bool.and_true]
   exact noRefs_ints ns
theorem isDs_tps:∀ L:List (List Int),isDs (tps L)=true
 | []=>rfl
 | ns :: L=>by
   show (Val.isD (tpI ns) && isDs (tps L))=true
   rw [isDs_tps L,Bool.and_true]
   exact isDs_ints ns
theorem add_lst {a b:List Val} {s:Sto} (h:a.length + b.length≤LINE):binOp false .add (.lst a) (.lst b) s=.ok (.lst (a++b)) s:=by
 simp only [binOp,lstOf]; rw [if_pos h]; rfl
theorem flat_rngG {f:Nat→Bool} {G:Nat→Val} {F:Val→List Val} {n:Nat} (hF:∀ k < n,F (.int k)=if f k then [G k] else []):(rngV 0 n).flatMap F=((List.range n).filter f).map G:=by
 unfold rngV
 rw [List.flatMap_map]
 have:∀ l:List Nat,(∀ k∈l,k < n)→l.flatMap (fun (k:Nat)=>F (.int (0 + (k:Int))))=(l.filter f).map G:=fun l=>by
   induction l with
   | nil=>intro _; rfl
   | cons k l ih =>
     intro h
     rw [List.flatMap_cons,ih fun j hj=>h j (.tail _ hj),show (0:Int) + (k:Int)=(k:Int) by omega,hF k (h k (.head _)),List.filter_cons]
     cases f k <;> rfl
 exact this _ fun k hk=>List.mem_range.mp hk
noncomputable def rowG (zs ns:List Int):Val→List Val
 | .int a=>if !endB ns (sizeN zs a.toNat) a then [tpI (ns++[a])] else []
 | _=>[]
theorem rowG_eq (zs ns:List Int):(rngV 0 zs.length).flatMap (rowG zs ns)=tps ((okH zs ns).map fun (h:Nat)=>ns++[(h:Int)]):=by
 rw [flat_rngG (f:=fun h=>!endB ns (sizeN zs h) h) (G:=fun h=>tpI (ns++[(h:Int)])) (fun k _=>by simp [rowG])]
 show _=List.map tpI (List.map _ (List.filter _ _))
 rw [List.map_map]; rfl
section
variable {T:Tbl} {Φ:Calls} {s:Sto}
theorem run_endT12 {zs fs:List Int} {h:Nat} (hz:Sz zs) (hh:h < zs.length) (hf:fs.length≤40):run T Φ F12.F__law_ended [tpI zs,tpI fs,.int h] s=.ok (.bool (endB fs (sizeN zs h) h)) s:=run_endT (T:=T) (Φ:=Φ) hz hh hf
noncomputable def CProd (Φ:Calls):Prop:=∀ (zs:List Int) (s:Sto),Sz zs→Φ "product_of" 0 [tpI zs] s=.ok (.int (zs.foldl (· * ·) 1)) s
theorem run_prod {zs:List Int} (hz:Sz zs):run T Φ F12.F_product_of [tpI zs] s=.ok (.int (zs.foldl (· * ·) 1)) s:=by
 rw [post_eq]
 simp [F12.F_product_of,EVl,startE,startC]
 refine p_forE (fun rest e s'=>s'=s∧∃ o2 acc todo,e=[some (tpI zs),some (.int acc),o2]∧rest=todo.map Val.int∧(∀ x∈todo,2≤x∧x≤8)∧todo.foldl (· * ·) acc=zs.foldl (· * ·) 1) (zs.map .int) (s1:=s) ?_ ⟨rfl,_,_,zs,rfl,rfl,hz.2.2,rfl⟩ ?_ ?_
 . rw [post_eq]
   simp [EVl,startE,startC]
 . rintro x rest e s' ⟨rfl,o2,acc,todo,rfl,hr,hb,hf⟩
   cases todo with
   | nil=>cases hr
   | cons y todo =>
     rw [List.map_cons] at hr
     injection hr with h1 h2
     subst h1
     have hy:=hb y (.head _)
     refine ⟨_,rfl,?_⟩
     rw [p_scons]
     show (Out.bind (binOp false .mul (.int acc) (.int y) s') _).post _
     rw [bmulR (by omega),bind_ok]
     simp only [EVl,startE,startC]
     exact ⟨trivial,_,_,todo,rfl,h2,fun x hx=>hb x (.tail _ hx),hf⟩
 . rintro e s' ⟨rfl,o2,acc,todo,rfl,hr,hb,hf⟩
   have ht:todo=[]:=by cases todo with | nil=>rfl | cons _ _=>cases hr
   subst ht
   simp [EVl,startE,startC]
   exact hf
noncomputable def CNeedSmall (Φ:Calls):Prop:=∀ (zs:List Int) (s:Sto),SmallZ zs→Φ "need_small_sizes" 0 [tpI zs] s=.ok .none s
theorem run_needSmall (g:T.gl "MOST_PRODUCT"=some (.int 12)) (c1:CNeedSizes Φ) (c2:CProd Φ) {zs:List Int} (hz:SmallZ zs):run T Φ F12.F_need_small_sizes [tpI zs] s=.ok .none s:=by
 rw [post_eq]
 have h12:¬ (12 < zs.foldl (· * ·) 1):=by have:=hz.prod; omega
 simp [F12.F_need_small_sizes,EVl,startE,startC,c1 zs s hz.sz,c2 zs s hz.sz,g,gt_int,h12]
theorem ev_grown (c:CMay Φ) {G:Str→Option Val} {zs:List Int} {L:List (List Int)} (hz:Sz zs) (hL:∀ x∈L,x.length≤40) (hl:(growL zs L).length≤LINE) {env:M.Env} {m:Bool} {N:List Str} {at_:Option Nat} (hi:evIt Φ G env (.val (.var 1)) s=.ok ⟨tps L,at_⟩ s) (ho:Src.ok ⟨tps L,at_⟩ s=true) (h0:startC [none,none,some 0] env=[none,none,some (tpI zs)])
   {P:Val→Sto→Prop} (hP:(newList m (tps (growL zs L)) s).post P) :
   (evE Φ G env (.comp2 m N [none,none,some 0] (.bin false .add (.var 0) (.tup (.cons (.var 1) .nil))) (.nm 0) (.val (.var 1)) .nil (.nm 1) (.range1 (.blt .len false (.cons (.var 2) .nil))) (.cons (.val (.call "may_follow" 0 (.cons (.var 2) (.cons (.var 0) (.cons (.var 1) .nil))))) .nil)) s).post P:=by
 have key:(tps L).flatMap (fun x=>tps ((okH zs (unI x)).map fun (h:Nat)=>unI x++[(h:Int)]))=tps (growL zs L):=by
   unfold growL
   show _=List.map tpI (List.flatMap _ _)
   rw [List.flatMap_map,List.map_flatMap]
   congr 1
   funext ns
   rw [un_tpI]
 refine p_comp2 (fun e=>∃ a b,e=[a,b,some (tpI zs)]) (fun x=>tps ((okH zs (unI x)).map fun (h:Nat)=>unI x++[(h:Int)])) (fun x e=>∃ b,e=[some x,b,some (tpI zs)]) (fun x=>rowG zs (unI x)) ?_
 refine ⟨_,_,hi,ho,⟨_,_,h0⟩,?_,?_,?_⟩
 . rintro x hx e ⟨a,b,rfl⟩
   obtain ⟨ns,hns,rfl⟩:=List.mem_map.mp hx
   have hn:=hL ns hns
   refine ⟨_,rfl,?_⟩
   simp only [EVl,startE,startC,if_true]
   refine ⟨trivial,_,rfl,?_⟩
   rw [l_tup,List.length_map]
   simp only [post_ok]
   refine ⟨_,rfl,⟨by omega,by have:=hz.2.1; unfold LINE; omega⟩,trivial,trivial,⟨_,rfl⟩,?_,?_,?_⟩
   . rintro e ⟨b,rfl⟩; exact ⟨_,_,rfl⟩
   . rw [un_tpI,Int.toNat_natCast,rowG_eq]
   . rintro y hy e ⟨b,rfl⟩
     obtain ⟨k,hk,rfl⟩:=mem_rng hy
     rw [Int.toNat_natCast] at hk
     rw [show (0:Int) + (k:Int)=(k:Int) by omega]
     refine ⟨_,rfl,⟨_,rfl⟩,?_⟩
     refine ⟨_,rfl,_,rfl,_,rfl,?_⟩
     rw [c zs ns k s hz hn hk]
     simp only [post_ok,tr_bool]
     refine ⟨_,rfl,?_⟩
     rw [un_tpI]
     cases he:endB ns (sizeN zs k) k with
     | true=>simp [rowG,he]
     | false =>
       simp only [Bool.not_false,if_true,post_ok,true_and]
       refine ⟨_,rfl,_,rfl,?_⟩
       rw [if_pos (by simp [LINE]),add_tup (by simp [LINE]; omega)]
       simp [rowG,he,EVl,startE,startC]
 . show Small ((tps L).flatMap _)
   rw [key]
   show (tps (growL zs L)).length≤LINE
   rw [List.length_map]; exact hl
 . show (newList m ((tps L).flatMap _) s).post P
   rw [key]; exact hP
noncomputable def CGrown0 (Φ:Calls):Prop:=∀ (zs:List Int) (L:List (List Int)) (s:Sto),Sz zs→(∀ x∈L,x.length≤40)→(growL zs L).length≤LINE→Φ "grown" 0 [tpI zs,.lst (tps L)] s=.ok (.lst (tps (growL zs L))) s
theorem run_grown0 (c:CMay Φ) {zs:List Int} {L:List (List Int)} (hz:Sz zs) (hL:∀ x∈L,x.length≤40) (hl:(growL zs L).length≤LINE):run T Φ F12.F_grown [tpI zs,.lst (tps L)] s=.ok (.lst (tps (growL zs L))) s:=by
 rw [post_eq,F12.F_grown,p_run]
 refine ⟨rfl,?_⟩
 rw [p_scons,p_ret]
 refine ev_grown c hz hL hl (at_:=none) rfl rfl rfl ?_
 simp only [M.newList,Bool.false_eq_true,if_false,post_ok,then_rt,fin_rt]
 rw [leave_pure (v:=.lst (tps (growL zs L))) (noRefs_tps _)]
 exact post_ok.mpr ⟨rfl,rfl⟩
theorem ev_row (c:CEndT Φ) {G:Str→Option Val} {env:M.Env} {iz is:Nat} {N:List Str} {zs ns:List Int} (hz:Sz zs) (hn:ns.length≤40) (h1:env[iz]?=some (some (tpI zs))) (h2:env[is]?=some (some (tpI ns))) {P:Val→Sto→Prop} (hP:P (.lst (tps ((okH zs ns).map fun (h:Nat)=>ns++[(h:Int)]))) s) :
   (evE Φ G env (.comp false N [none,some iz,some is] (.bin false .add (.var 2) (.tup (.cons (.var 0) .nil))) (.nm 0) (.range1 (.blt .len false (.cons (.var iz) .nil))) (.cons (.not (.val (.call "_law_ended" 0 (.cons (.var 1) (.cons (.var 2) (.cons (.var 0) .nil)))))) .nil)) s).post P:=by
 have h0:startC [none,some iz,some is] env=[none,some (tpI zs),some (tpI ns)]:=by
   simp only [startC,List.map_cons,List.map_nil,h1,h2]; rfl
 refine p_compE (fun e=>∃ o,e=[o,some (tpI zs),some (tpI ns)]) (rowG zs ns) (rngV 0 zs.length) (s1:=s) ?_ ⟨_,h0⟩ ?_ ?_
 . rw [post_eq,p_range1]
   simp only [EVl,startE,startC]
   refine ⟨_,h1,?_⟩
   rw [l_tup,List.length_map]
   simp only [post_ok]
   refine ⟨_,rfl,⟨by omega,by have:=hz.2.1; unfold LINE; omega⟩,by rw [Int.toNat_natCast],trivial⟩
 . rintro x hx e ⟨o,rfl⟩
   obtain ⟨k,hk,rfl⟩:=mem_rng hx
   rw [show (0:Int) + (k:Int)=(k:Int) by omega]
   refine ⟨_,rfl,⟨_,rfl⟩,?_⟩
   simp only [EVl,startE,startC]
   refine ⟨_,rfl,_,rfl,_,rfl,?_⟩
   rw [c zs ns k s hz hk hn]
   simp only [post_ok,tr_bool]
   refine ⟨_,rfl,?_⟩
   cases he:endB ns (sizeN zs k) k with
   | true=>simp [rowG,he]
   | false =>
     simp only [Bool.not_false,if_true,true_and]
     refine ⟨_,rfl,_,rfl,?_⟩
     rw [if_pos (by simp [LINE]),add_tup (by simp [LINE]; omega)]
     simp [rowG,he,EVl,startE,startC]
 . rw [rowG_eq]
   simp only [M.newList,Bool.false_eq_true,if_false,post_ok]
   exact hP
theorem grow_snoc (zs:List Int) (L:List (List Int)) (x:List Int):growL zs (L++[x])=growL zs L++(okH zs x).map fun (h:Nat)=>x++[(h:Int)]:=by
 unfold growL
 rw [List.flatMap_append,List.flatMap_cons,List.flatMap_nil,List.append_nil]
theorem p_later (c:CEndT Φ) {G:Str→Option Val} {env:M.Env} {iz ih il is:Nat} {N:List Str} {zs:List Int} {L:List (List Int)} (hz:Sz zs) (hL:∀ x∈L,x.length≤40) (hl:(growL zs L).length≤LINE) (n1:is≠iz) (n2:il≠iz) (n3:is≠il) (b1:il < env.length) (b2:is < env.length)
   (h1:env[iz]?=some (some (tpI zs))) (h2:env[ih]?=some (some (.lst (tps L)))) (h3:env[il]?=some (some (.lst []))) {R:Fl→Sto→Prop} (hR:∀ o,R (.nx ((env.set is o).set il (some (.lst (tps (growL zs L)))))) s) :
   (exS Φ G env (.forS (.nm is) (.val (.var ih)) (.cons (.asg il (.bin false .add (.var il) (.comp false N [none,some iz,some is] (.bin false .add (.var 2) (.tup (.cons (.var 0) .nil))) (.nm 0) (.range1 (.blt .len false (.cons (.var iz) .nil))) (.cons (.not (.val (.call "_law_ended" 0 (.cons (.var 1) (.cons (.var 2) (.cons (.var 0) .nil)))))) .nil)))) .nil)) s).post R:=by
 refine p_forE (fun rest e s'=>s'=s∧∃ done todo o,done++todo=L∧rest=tps todo∧e=(env.set is o).set il (some (.lst (tps (growL zs done))))) (tps L) (s1:=s) ?_ ⟨rfl,[],L,env[is],rfl,rfl,?_⟩ ?_ ?_
 . rw [post_eq]
   simp only [EVl,startE,startC]
   exact ⟨_,h2,_,rfl,rfl,trivial⟩
 . rw [List.set_getElem_self]
   obtain ⟨q1,q2⟩:=List.getElem?_eq_some_iff.mp h3
   have:env.set il (some (.lst (tps (growL zs []))))=env.set il env[il]:=by rw [q2]; rfl
   rw [this,List.set_getElem_self]
 . rintro x rest e s' ⟨rfl,done,todo,o,hd,hr,rfl⟩
   cases todo with
   | nil=>cases hr
   | cons ns todo =>
     injection hr with hx hr
     subst hx
     refine ⟨_,rfl,?_⟩
     have e1:((env.set is o).set il (some (.lst (tps (growL zs done))))).set is (some (tpI ns))=(env.set is (some (tpI ns))).set il (some (.lst (tps (growL zs done)))):=by
       rw [List.set_comm _ _ (fun e=>n3 e.symm),List.set_set]
     rw [e1]
     have hns:ns∈L:=by rw [←hd]; exact List.mem_append_right _ (.head _)
     have l1:il < (env.set is (some (tpI ns))).length:=by rw [List.length_set]; exact b1
     simp only [p_scons,p_asg,p_bin,p_var]
     refine ⟨_,List.getElem?_set_self l1,?_⟩
     refine ev_row c hz (hL ns hns) (by rw [List.getElem?_set_ne n2,List.getElem?_set_ne n1]; exact h1) (by rw [List.getElem?_set_ne (fun e=>n3 e.symm),List.getElem?_set_self b2]) ?_
     have hb:(growL zs (done++[ns])).length≤LINE:=by
       refine Nat.le_trans (grow_sub (List.Sublist.trans ?_ (List.sublist_append_left (done++[ns]) todo))).length_le (by rw [List.append_assoc]; exact hd ▸ hl)
       exact List.Sublist.refl _
     rw [grow_snoc,List.length_append] at hb
     rw [add_lst (by rw [List.length_map,List.length_map]; exact hb)]
     simp only [post_ok,then_nx,p_snil,step_nx]
     refine ⟨trivial,done++[ns],todo,some (tpI ns),by rw [List.append_assoc]; exact hd,hr,?_⟩
     rw [List.set_set,grow_snoc,tps,tps,tps,List.map_append]
 . rintro e s' ⟨rfl,done,todo,o,hd,hr,rfl⟩
   have ht:todo=[]:=by cases todo with | nil=>rfl | cons _ _=>cases hr
   subst ht
   rw [List.append_nil] at hd
   subst hd
   exact hR o
theorem pairs_tps:∀ {L:List (List Int)} {zs:List (Int × Int)},pairsOf (tps L)=some zs→L=zs.map fun z=>[z.1,z.2]
 | [],zs,h=>by cases h; rfl
 | ns :: L,zs,h=>by
   match ns,h with
   | [a,b],h =>
     have h':(pairsOf (tps L)).map ((a,b) :: ·)=some zs:=h
     rw [Option.map_eq_some_iff] at h'
     obtain ⟨zs',h1,rfl⟩:=h'
     rw [pairs_tps h1]; rfl
   | [],h=>cases (show none=some zs from h)
   | [_],h=>cases (show none=some zs from h)
   | _ :: _ :: _ :: _,h=>cases (show none=some zs from h)
theorem ints_of:∀ ns:List Int,intsOf (ns.map .int)=some ns
 | []=>rfl
 | n :: ns=>by show (intsOf (ns.map .int)).map _=_; rw [ints_of ns]; rfl
theorem tups_tps:∀ L:List (List Int),tupsOf (tps L)=some L
 | []=>rfl
 | ns :: L=>by
   show (match intsOf (ns.map .int),tupsOf (tps L) with | some z,some zs=>some (z :: zs) | _,_=>none)=_
   rw [ints_of,tups_tps L]
noncomputable def sortV (E:List (List Int)):List (List Int):=match pairsOf (tps E) with
 | some zs=>if zs.Nodup∧∀ z∈zs,0≤z.2∧z.2 < 1000 then (sortP zs).map (fun z=>[z.1,z.2]) else L2.sortT E
 | none=>L2.sortT E
theorem sortV_perm (E:List (List Int)):(sortV E).Perm E:=by
 unfold sortV
 cases hp:pairsOf (tps E) with
 | none=>exact L2.sortT_perm E
 | some zs =>
   dsimp only
   by_cases hc:zs.Nodup∧∀ z∈zs,0≤z.2∧z.2 < 1000
   . rw [if_pos hc]
     have e:=pairs_tps hp
     exact ((sortP_perm zs).map _).trans (.of_eq e.symm)
   . rw [if_neg hc]; exact L2.sortT_perm E
theorem sorted_any {m:Bool} {x:Val} {E:List (List Int)} (hx:lstOf s x=some (tps E)) (hn:E.Nodup) (h0:E.length < 2 ∨ ∀ z∈E,z≠[]):blt .sorted m [x] s=newList m (tps (sortV E)) s:=by
 have hs:sortOp m (tps E) s=newList m (tps (L2.sortT E)) s:=by
   unfold sortOp
   rw [tups_tps]
   dsimp only
   rw [if_pos ⟨hn,h0⟩]; rfl
 simp only [blt,hx]
 unfold sortV
 cases hp:pairsOf (tps E) with
 | none=>exact hs
 | some zs =>
   dsimp only
   by_cases hc:zs.Nodup∧∀ z∈zs,0≤z.2∧z.2 < 1000
   . rw [if_pos hc,if_pos hc]
     show newList m ((sortP zs).map prV) s=newList m (tps ((sortP zs).map fun z=>[z.1,z.2])) s
     rw [tps,List.map_map]; rfl
   . rw [if_neg hc,if_neg hc]; exact hs
theorem rise_nodup {L:List (List Int)} (h:Rise L):L.Nodup:=h.imp fun {a b} hab e=>by rw [e,lex_irr] at hab; cases hab
end
end M
end
section
namespace M
open PySem
structure Far (zs:List Int) (N:Nat):Prop where
 end_:levs zs [[]] N=[]
 on:∀ m,m < N→levs zs [[]] m≠[]
 le:N≤18
 pos:0 < N
theorem far_of {zs:List Int} (h:SmallZ zs):∃ N,Far zs N:=by
 have key:∀ n,levs zs [[]] n=[]→∃ N,N≤n∧levs zs [[]] N=[]∧∀ m,m < N→levs zs [[]] m≠[]:=fun n=>by
   induction n with
   | zero=>intro e; cases e
   | succ n ih =>
     intro e
     by_cases hn:levs zs [[]] n=[]
     . obtain ⟨N,h1,h2,h3⟩:=ih hn
       exact ⟨N,by omega,h2,h3⟩
     . refine ⟨n + 1,Nat.le_refl _,e,fun m hm he=>?_⟩
       have:=levs_end he (n - m)
       rw [show m + (n - m)=n by omega] at this
       exact hn this
 obtain ⟨N,h1,h2,h3⟩:=key 18 (h.die 18 (by omega))
 refine ⟨N,h2,h3,h1,?_⟩
 cases N with
 | zero=>cases h2
 | succ N=>omega
theorem levs_le {zs:List Int} (h:SmallZ zs) (n:Nat):∀ x∈levs zs [[]] n,x.length=n∧n < 18:=fun x hx=>by
 have:=levs_len (k:=0) (L:=[[]]) (zs:=zs) (fun x hx=>by rw [List.mem_singleton.mp hx]; rfl) n x hx
 refine ⟨by omega,?_⟩
 by_cases hn:n < 18
 . exact hn
 . rw [h.die n (by omega)] at hx; cases hx
theorem levs_le40 {zs:List Int} (h:SmallZ zs) (n:Nat):∀ x∈levs zs [[]] n,x.length≤40:=fun x hx=>by have:=levs_le h n x hx; omega
theorem few_line {zs:List Int} (h:SmallZ zs) (n:Nat):(levs zs [[]] n).length≤LINE:=Nat.le_trans (h.few n) (by unfold LINE; omega)
section
variable {T:Tbl} {Φ:Calls} {s:Sto}
noncomputable def CSmall (Φ:Calls):Prop:=∀ (p:Nat) (s:Sto),PenAt s p→(Φ "_law_small" 0 [.ref p] s).post fun v s'=>∃ zs,v=tpI zs∧SmallZ zs∧PenTo s p s'
theorem run_small (cD:CDraw Φ) {p:Nat} (hp:PenAt s p):(run T Φ F12.F__law_small [.ref p] s).post fun v s'=>∃ zs,v=tpI zs∧SmallZ zs∧PenTo s p s':=by
 simp [F12.F__law_small,EVl,startE,startC,M.newList,LINE]
 rw [add_lst (by simp [LINE])]
 simp only [post_ok]
 refine post_mono (cD p 16 s hp (by omega) (by omega)) ?_
 rintro v s1 ⟨r,rfl,hr,t1⟩
 have hlt:r < smalls.length:=by show r < 16; omega
 have e:(smalls.map tpI)[r]?=some (tpI smalls[r]):=by rw [List.getElem?_map,List.getElem?_eq_getElem hlt]; rfl
 have hi:ixOp (.lst (smalls.map tpI)) (.int r) s1=.ok (tpI smalls[r]) s1:=ix_lst e
 have hh:=small_of (List.getElem_mem hlt)
 generalize smalls[r]=zs at hi hh
 refine (show (ixOp (.lst (smalls.map tpI)) (.int r) s1).post _→_ from fun h=>h) ?_
 rw [hi]
 simp only [post_ok]
 rw [leave_pen0 (v:=tpI zs) t1 (noRefs_ints _)]
 exact post_ok.mpr ⟨zs,rfl,hh,t1⟩
theorem leaf_small {i:Int} (h1:0≤i) (h2:i < 8):L2.Leaf 0 4 (.int i):=by
 have:=L2.leaf_int (i:=i) (by omega) (by omega)
 refine ⟨this.sh,this.lf,this.dp,?_⟩
 have:i=0 ∨ i=1 ∨ i=2 ∨ i=3 ∨ i=4 ∨ i=5 ∨ i=6 ∨ i=7:=by omega
 rcases this with rfl | rfl | rfl | rfl | rfl | rfl | rfl | rfl <;> decide
noncomputable def tD (ns:List Int):PyData:=.tuple (ns.map PyData.int)
theorem ds_tps:∀ L:List (List Int),ds (tps L)=L.map tD
 | []=>rfl
 | ns :: L=>by
   show (tpI ns).d :: ds (tps L)=tD ns :: L.map tD
   rw [ds_tps L]
   show PyData.tuple (ds (ns.map .int)) :: _=_
   rw [ds_ints]; rfl
theorem isRs_tps:∀ L:List (List Int),isRs (tps L)=true
 | []=>rfl
 | ns :: L=>by
   show ((tpI ns).isR && isRs (tps L))=true
   rw [isRs_tps L,Bool.and_true]
   exact isRs_ints ns
theorem nodict_tD (ns:List Int):(tD ns).hasDict=false:=by
 unfold tD
 rw [PyData.hasDict]
 exact L2.noDictAll fun d hd=>by obtain ⟨i,hi,rfl⟩:=List.mem_map.mp hd; rfl
end
end M
end
section
namespace M
open PySem
theorem bnd {α β:Type} {o:Out α} {a:α} {s:Sto} {f:α→Sto→Out β} {r:Out β} (h:o=.ok a s) (k:f a s=r):o.bind f=r:=by rw [h]; exact k
section
variable {Φ:Calls} {G:Str→Option Val} {env:Env} {s s1 s2 s3 s4:Sto}
theorem x_lit {v:Val}:evE Φ G env (.lit v) s=.ok v s:=rfl
theorem x_var {i:Nat} {v:Val} (h:env[i]?=some (some v)):evE Φ G env (.var i) s=.ok v s:=post_eq.mpr (p_var.mpr ⟨v,h,rfl,rfl⟩)
theorem x_and {a b:Ex} {r:Out Val} (h1:evE Φ G env a s=.ok (.bool true) s1) (h2:evE Φ G env b s1=r):evE Φ G env (.andE a (.cons b .nil)) s=r:=bnd h1 h2
theorem x_neg {a:Ex} {i:Int} (h:evE Φ G env a s=.ok (.int i) s1):evE Φ G env (.neg a) s=.ok (.int (-i)) s1:=bnd h rfl
theorem x_bin {m:Bool} {op:Bop} {a b:Ex} {x y:Val} {r:Out Val} (h1:evE Φ G env a s=.ok x s1) (h2:evE Φ G env b s1=.ok y s2) (h3:binOp m op x y s2=r):evE Φ G env (.bin m op a b) s=r:=bnd h1 (bnd h2 h3)
theorem x_cmp {op:Cop} {a b:Ex} {x y:Val} {r:Out Val} (h1:evE Φ G env a s=.ok x s1) (h2:evE Φ G env b s1=.ok y s2) (h3:cmpOp op x y s2=r):evE Φ G env (.cmp op a b) s=r:=bnd h1 (bnd h2 h3)
theorem o_no:evO Φ G env .no s=.ok none s:=rfl
theorem o_yes {e:Ex} {i:Int} (h:evE Φ G env e s=.ok (.int i) s1):evO Φ G env (.yes e) s=.ok (some i) s1:=bnd h rfl
theorem x_sl {m:Bool} {a:Ex} {lo hi st:OEx} {x:Val} {l h c:Option Int} {r:Out Val} (h0:evE Φ G env a s=.ok x s1) (h1:evO Φ G env lo s1=.ok l s2) (h2:evO Φ G env hi s2=.ok h s3) (h3:evO Φ G env st s3=.ok c s4) (h4:slOp m x l h c s4=r):evE Φ G env (.sl m a lo hi st) s=r:=bnd h0 (bnd h1 (bnd h2 (bnd h3 h4)))
theorem xs_nil:evEs Φ G env .nil s=.ok [] s:=rfl
theorem xs_cons {e:Ex} {es:Exs} {v:Val} {vs:List Val} (h1:evE Φ G env e s=.ok v s1) (h2:evEs Φ G env es s1=.ok vs s2):evEs Φ G env (.cons e es) s=.ok (v :: vs) s2:=bnd h1 (bnd h2 rfl)
theorem p_consX {e:Ex} {es:Exs} {v:Val} {P:List Val→Sto→Prop} (h:evE Φ G env e s=.ok v s1) (k:(evEs Φ G env es s1).post fun vs s2=>P (v :: vs) s2):(evEs Φ G env (.cons e es) s).post P:=p_cons.mpr (by rw [h]; exact post_ok.mpr k)
theorem x_tup {es:Exs} {vs:List Val} (h:evEs Φ G env es s=.ok vs s1) (hl:vs.length≤LINE):evE Φ G env (.tup es) s=.ok (.tup vs) s1:=bnd h (if_pos hl)
theorem x_lst {es:Exs} {vs:List Val} (h:evEs Φ G env es s=.ok vs s1) (hl:vs.length≤LINE):evE Φ G env (.lst false es) s=.ok (.lst vs) s1:=bnd h (if_pos hl)
theorem x_blt {f:Bf} {m:Bool} {es:Exs} {vs:List Val} {r:Out Val} (h:evEs Φ G env es s=.ok vs s1) (k:blt f m vs s1=r):evE Φ G env (.blt f m es) s=r:=bnd h k
theorem x_call {f:Str} {v:Nat} {es:Exs} {vs:List Val} {r:Out Val} (h:evEs Φ G env es s=.ok vs s1) (k:Φ f v vs s1=r):evE Φ G env (.call f v es) s=r:=bnd h k
theorem p_callX {f:Str} {v:Nat} {es:Exs} {vs:List Val} {P:Val→Sto→Prop} (h:evEs Φ G env es s=.ok vs s1) (k:(Φ f v vs s1).post P):(evE Φ G env (.call f v es) s).post P:=by rw [x_call h rfl]; exact k
theorem s_asg {i:Nat} {e:Ex} {cs:Sms} {v:Val} {P:Fl→Sto→Prop} (h:evE Φ G env e s=.ok v s1) (k:(exSs Φ G (env.set i (some v)) cs s1).post P):(exSs Φ G env (.cons (.asg i e) cs) s).post P:=p_scons.mpr (p_asg.mpr (by rw [h]; exact post_ok.mpr k))
theorem s_asgP {i:Nat} {e:Ex} {cs:Sms} {P:Fl→Sto→Prop} (h:(evE Φ G env e s).post fun v s1=>(exSs Φ G (env.set i (some v)) cs s1).post P):(exSs Φ G env (.cons (.asg i e) cs) s).post P:=p_scons.mpr (p_asg.mpr h)
theorem s_ret {e:Ex} {cs:Sms} {v:Val} {P:Fl→Sto→Prop} (h:evE Φ G env e s=.ok v s1) (k:P (.rt v) s1):(exSs Φ G env (.cons (.ret e) cs) s).post P:=p_scons.mpr (p_ret.mpr (by rw [h]; exact post_ok.mpr k))
theorem it_val {e:Ex} {v:Val} {xs:List Val} (h:evE Φ G env e s=.ok v s1) (k:srcOf s1 v=some ⟨xs,none⟩):evIt Φ G env (.val e) s=.ok ⟨xs,none⟩ s1:=post_eq.mpr (p_ival.mpr (by rw [h]; exact post_ok.mpr ⟨_,k,rfl,rfl⟩))
theorem t_val {e:Ex} {v:Val} {b:Bool} (h:evE Φ G env e s=.ok v s1) (k:truth s1 v=some b):evT Φ G env (.val e) s=.ok b s1:=post_eq.mpr (p_val.mpr (by rw [h]; exact post_ok.mpr ⟨_,k,rfl,rfl⟩))
theorem t_not {c:Cn} {b:Bool} (h:evT Φ G env c s=.ok b s1):evT Φ G env (.not c) s=.ok (!b) s1:=bnd h rfl
theorem t_or {c:Cn} {cs:Cns} {b:Bool} (h:evT Φ G env c s=.ok false s1) (k:evTo Φ G env cs s1=.ok b s2):evT Φ G env (.or c cs) s=.ok b s2:=bnd h k
theorem to_nil:evTo Φ G env .nil s=.ok false s:=rfl
theorem to_cons {c:Cn} {cs:Cns} {b:Bool} (h:evT Φ G env c s=.ok false s1) (k:evTo Φ G env cs s1=.ok b s2):evTo Φ G env (.cons c cs) s=.ok b s2:=bnd h k
theorem s_if0 {c:Cn} {a cs:Sms} {P:Fl→Sto→Prop} (h:evT Φ G env c s=.ok false s1) (k:(exSs Φ G env cs s1).post P):(exSs Φ G env (.cons (.ifS c a .nil) cs) s).post P:=p_scons.mpr (p_if.mpr (by rw [h]; refine post_ok.mpr ?_; rw [if_neg Bool.false_ne_true]; exact p_snil.mpr k))
theorem s_nil {P:Fl→Sto→Prop} (k:P (.nx env) s):(exSs Φ G env .nil s).post P:=p_snil.mpr k
theorem par_end {is:List Nat} {vs:List Val} {P:Fl→Sto→Prop} (hl:vs.length=is.length) (k:P (.nx ((is.zip vs).foldl (fun e p=>e.set p.1 (some p.2)) env)) s):(if vs.length=is.length then Out.ok (Fl.nx ((is.zip vs).foldl (fun e p=>e.set p.1 (some p.2)) env)) s else .stuck).post P:=by
 rw [if_pos hl]; exact post_ok.mpr k
end
end M
end
section
namespace M
open PySem
noncomputable def stopB (zs x:List Int):Bool:=(okH zs x).isEmpty
noncomputable def allL (zs:List Int) (m:Nat):List (List Int):=(List.range m).flatMap fun j=>levs zs [[]] j
noncomputable def endsL (zs:List Int) (m:Nat):List (List Int):=(List.range m).flatMap fun j=>(levs zs [[]] j).filter (stopB zs)
theorem all_succ (zs:List Int) (m:Nat):allL zs (m + 1)=allL zs m++levs zs [[]] m:=by
 unfold allL; rw [List.range_succ,List.flatMap_append,List.flatMap_singleton]
theorem ends_succ (zs:List Int) (m:Nat):endsL zs (m + 1)=endsL zs m++(levs zs [[]] m).filter (stopB zs):=by
 unfold endsL; rw [List.range_succ,List.flatMap_append,List.flatMap_singleton]
theorem ends_all (zs:List Int):∀ m,(allL zs m).filter (stopB zs)=endsL zs m
 | 0=>rfl
 | m + 1=>by rw [all_succ,ends_succ,List.filter_append,ends_all zs m]
theorem all_len {zs:List Int} (h:SmallZ zs):∀ m,(allL zs m).length≤m * 100
 | 0=>Nat.le_refl _
 | m + 1=>by
   rw [all_succ,List.length_append,Nat.succ_mul]
   exact Nat.add_le_add (all_len h m) (h.few m)
theorem ends_len {zs:List Int} (h:SmallZ zs) (m:Nat):(endsL zs m).length≤m * 100:=by
 rw [←ends_all]
 exact Nat.le_trans (List.length_filter_le _ _) (all_len h m)
theorem all_mem {zs:List Int} (h:SmallZ zs) {m:Nat} {x:List Int} (hx:x∈allL zs m):x.length < 18∧∃ j < m,x∈levs zs [[]] j:=by
 obtain ⟨j,hj,hm⟩:=List.mem_flatMap.mp hx
 have:=levs_le h j x hm
 exact ⟨by omega,j,List.mem_range.mp hj,hm⟩
theorem ends_mem {zs:List Int} {m:Nat} {x:List Int} (hx:x∈endsL zs m):x∈allL zs m∧stopB zs x=true:=by
 rw [←ends_all] at hx
 exact List.mem_filter.mp hx
theorem all_nodup {zs:List Int} (h:SmallZ zs) (m:Nat):(allL zs m).Nodup:=by
 unfold allL
 rw [List.nodup_iff_pairwise_ne,List.pairwise_flatMap]
 refine ⟨fun j _=>rise_nodup (rise_levs (List.pairwise_singleton _ _) j),List.pairwise_lt_range.imp fun {a b} hab x hx y hy e=>?_⟩
 have h1:=(levs_le h a x hx).1
 have h2:=(levs_le h b y hy).1
 rw [e] at h1
 omega
theorem ends_nodup {zs:List Int} (h:SmallZ zs) (m:Nat):(endsL zs m).Nodup:=by
 rw [←ends_all]; exact (all_nodup h m).filter _
theorem stop_nil {zs:List Int} (h:Sz zs):stopB zs []=false:=by
 have h1:=h.1
 have:0∈okH zs []:=List.mem_filter.mpr ⟨List.mem_range.mpr h1,by
   have:endB [] (sizeN zs 0) ((0:Nat):Int)=false:=by
     unfold endB
     rw [List.length_nil,Nat.zero_div]; rfl
   rw [this]; rfl⟩
 unfold stopB
 cases e:okH zs [] with
 | nil=>rw [e] at this; cases this
 | cons _ _=>rfl
theorem ends_ne {zs:List Int} (h:Sz zs) {m:Nat}:∀ z∈endsL zs m,z≠[]:=fun z hz e=>by
 have:=(ends_mem hz).2
 rw [e,stop_nil h] at this; cases this
theorem fol_stop {zs x:List Int} (h:x.length < 40):((folL zs x).map fun (k:Nat)=>Val.int k).isEmpty=stopB zs x:=by
 unfold folL stopB
 rw [if_neg (by omega)]
 unfold okH
 generalize List.filter (fun (h:Nat)=>!endB x (sizeN zs h) h) (List.range zs.length)=l
 cases l <;> rfl
theorem hues_lev {zs:List Int}:∀ {n:Nat} {x:List Int},x∈levs zs [[]] n→∀ i∈x,0≤i∧i < zs.length
 | 0,x,hx,i,hi=>by rw [List.mem_singleton.mp hx] at hi; cases hi
 | n + 1,x,hx,i,hi=>by
   obtain ⟨y,hy,hx⟩:=List.mem_flatMap.mp hx
   obtain ⟨k,hk,rfl⟩:=List.mem_map.mp hx
   rcases List.mem_append.mp hi with hi | hi
   . exact hues_lev hy i hi
   . rw [List.mem_singleton.mp hi]
     have:=List.mem_range.mp (List.mem_filter.mp hk).1
     omega
section
variable {T:Tbl} {Φ:Calls} {G:Str→Option Val} {env:Env} {s:Sto}
theorem filt_eq {f:List Int→Bool}:∀ L:List (List Int),(tps L).flatMap (fun v=>if f (unI v) then [v] else [])=tps (L.filter f)
 | []=>rfl
 | x :: L=>by
   show (if f (unI (tpI x)) then [tpI x] else [])++(tps L).flatMap _=_
   rw [filt_eq L,un_tpI,List.filter_cons]
   cases f x <;> rfl
theorem p_filt {m:Bool} {N:List Str} {fr:List (Option Nat)} {it:Itb} {ifs:Cns} {L:List (List Int)} {f:List Int→Bool} {e0:Env} {P:Val→Sto→Prop} (hi:evIt Φ G env it s=.ok ⟨tps L,none⟩ s) (h0:startC fr env=none :: e0) (h:∀ x∈L,evTs Φ G (some (tpI x) :: e0) ifs s=.ok (f x) s) (hP:(newList m (tps (L.filter f)) s).post P):(evE Φ G env (.comp m N fr (.var 0) (.nm 0) it ifs) s).post P:=by
 refine p_compE (fun e=>∃ o,e=o :: e0) (fun v=>if f (unI v) then [v] else []) (tps L) (s1:=s) hi ⟨none,h0⟩ ?_ (by rw [filt_eq]; exact hP)
 rintro v hv e ⟨o,rfl⟩
 obtain ⟨x,hx,rfl⟩:=List.mem_map.mp hv
 refine ⟨_,rfl,⟨_,rfl⟩,?_⟩
 show (evTs Φ G (some (tpI x) :: e0) ifs s).post _
 rw [h x hx,un_tpI]
 refine post_ok.mpr ⟨rfl,?_⟩
 cases f x with
 | true =>
   rw [if_pos rfl,if_pos rfl]
   exact p_var.mpr ⟨_,rfl,rfl,rfl⟩
 | false=>rw [if_neg Bool.false_ne_true,if_neg Bool.false_ne_true]
theorem x_filt {N:List Str} {fr:List (Option Nat)} {it:Itb} {ifs:Cns} {L:List (List Int)} {f:List Int→Bool} {e0:Env} (hi:evIt Φ G env it s=.ok ⟨tps L,none⟩ s) (h0:startC fr env=none :: e0) (h:∀ x∈L,evTs Φ G (some (tpI x) :: e0) ifs s=.ok (f x) s):evE Φ G env (.comp false N fr (.var 0) (.nm 0) it ifs) s=.ok (.lst (tps (L.filter f))) s:=post_eq.mpr (p_filt hi h0 h (post_ok.mpr ⟨rfl,rfl⟩))
theorem ts_one {c:Cn} {b:Bool} (h:evT Φ G env c s=.ok b s):evTs Φ G env (.cons c .nil) s=.ok b s:=bnd h (by cases b <;> rfl)
theorem ext_ref {vs ws:List Val} (h:vs.length + ws.length≤LINE):meth .extend (.ref s.length) [.lst ws] (s++[.lst vs])=.ok .none (s++[.lst (vs++ws)]):=by
 have e:(s++[Cel.lst vs])[s.length]?=some (.lst vs):=by simp
 simp only [meth,e,lstOf]
 rw [if_pos h]
 unfold upd
 rw [List.set_append_right _ _ (Nat.le_refl _),Nat.sub_self]; rfl
theorem s_expr {e:Ex} {cs:Sms} {v:Val} {s1:Sto} {P:Fl→Sto→Prop} (h:evE Φ G env e s=.ok v s1) (k:(exSs Φ G env cs s1).post P):(exSs Φ G env (.cons (.expr e) cs) s).post P:=p_scons.mpr (p_expr.mpr (by rw [h]; exact post_ok.mpr k))
theorem x_meth {f:Mf} {m:Bool} {o:Ex} {es:Exs} {x:Val} {vs:List Val} {s1 s2:Sto} {r:Out Val} (h1:evE Φ G env o s=.ok x s1) (h2:evEs Φ G env es s1=.ok vs s2) (h3:meth f x vs s2=r):evE Φ G env (.meth f m o es) s=r:=bnd h1 (bnd h2 h3)
theorem p_ends (c:CGrown0 Φ) (cf:CFoll Φ) {zs:List Int} {N:Nat} (hz:SmallZ zs) (hN:Far zs N) {cs:Sms} {N1:List Str} {P:Fl→Sto→Prop} (hR:(exSs Φ G [some (tpI zs),some (.ref s.length),some (.lst [])] cs (s++[.lst (tps (endsL zs N))])).post P) :
   (exSs Φ G [some (tpI zs),some (.ref s.length),some (.lst [.tup []])] (.cons (.whileS (.val (.var 2)) (.cons (.expr (.meth .extend false (.var 1) (.cons (.comp false N1 [none,some 0] (.var 0) (.nm 0) (.val (.var 2)) (.cons (.not (.val (.call "followers" 0 (.cons (.var 1) (.cons (.var 0) .nil))))) .nil)) .nil))) (.cons (.asg 2 (.call "grown" 0 (.cons (.var 0) (.cons (.var 2) .nil)))) .nil))) cs) (s++[.lst []])).post P:=by
 refine p_scons.mpr (p_while N (fun k e s'=>∃ m,m + k=N∧e=[some (tpI zs),some (.ref s.length),some (.lst (tps (levs zs [[]] m)))]∧s'=s++[.lst (tps (endsL zs m))]) (by have:=hN.le; unfold WHILE; omega) ⟨0,by omega,rfl,rfl⟩ ?_)
 rintro k e s' ⟨m,hm,rfl,rfl⟩
 rw [t_val (x_var rfl) tr_lst]
 refine post_ok.mpr ?_
 cases k with
 | zero =>
   have:m=N:=by omega
   subst this
   rw [hN.end_]
   exact hR
 | succ k =>
   have hne:=hN.on m (by omega)
   have ht:(!(tps (levs zs [[]] m)).isEmpty)=true:=by
     cases hL:levs zs [[]] m with
     | nil=>exact absurd hL hne
     | cons _ _=>rfl
   rw [ht,if_pos rfl]
   have hle:m≤18:=by have:=hN.le; omega
   have l1:=ends_len hz m
   have l2:=hz.few m
   have l3:=List.length_filter_le (stopB zs) (levs zs [[]] m)
   refine s_expr (x_meth (x_var rfl) (xs_cons (x_filt (f:=stopB zs) (e0:=[some (tpI zs)]) (it_val (x_var rfl) rfl) rfl (fun x hx=>ts_one ?_)) xs_nil) (ext_ref (by rw [List.length_map,List.length_map]; unfold LINE; omega))) ?_
   . have hx1:=(levs_le hz m x hx).1
     have:=t_not (t_val (x_call (xs_cons (x_var (env:=[some (tpI x),some (tpI zs)]) (G:=G) (i:=1) rfl) (xs_cons (x_var (i:=0) rfl) xs_nil)) (cf zs x (s++[.lst (tps (endsL zs m))]) hz.sz (by omega))) tr_tup)
     rw [fol_stop (by omega),Bool.not_not] at this
     exact this
   rw [←List.map_append,← ends_succ]
   refine s_asg (x_call (xs_cons (x_var rfl) (xs_cons (x_var rfl) xs_nil)) (c zs (levs zs [[]] m) _ hz.sz (levs_le40 hz m) (few_line hz (m + 1)))) (s_nil ?_)
   exact ⟨k,by omega,m + 1,by omega,rfl,rfl⟩
noncomputable abbrev endS (zs:List Int) (N:Nat):List (List Int):=sortV (endsL zs N)
noncomputable def shutB (zs x:List Int):Bool:=stopB zs x.reverse
noncomputable def CEnds0 (Φ:Calls):Prop:=∀ (zs:List Int) (N:Nat) (s:Sto),SmallZ zs→Far zs N→Φ "ends" 0 [tpI zs] s=.ok (.lst (tps (endS zs N))) s
noncomputable def CEnds1 (Φ:Calls):Prop:=∀ (zs:List Int) (N:Nat) (s:Sto),SmallZ zs→Far zs N→Φ "ends" 1 [tpI zs] s=.ok (.ref (s.length + 1)) (s++[.lst (tps (endsL zs N)),.lst (tps (endS zs N))])
noncomputable def CShut0 (Φ:Calls):Prop:=∀ (zs:List Int) (N:Nat) (s:Sto),SmallZ zs→Far zs N→Φ "shut_ends" 0 [tpI zs] s=.ok (.lst (tps ((endS zs N).filter (shutB zs)))) s
noncomputable def CShut1 (Φ:Calls):Prop:=∀ (zs:List Int) (N:Nat) (s:Sto),SmallZ zs→Far zs N→Φ "shut_ends" 1 [tpI zs] s=.ok (.ref s.length) (s++[.lst (tps ((endS zs N).filter (shutB zs)))])
theorem endS_mem {zs:List Int} (h:SmallZ zs) {N:Nat} {x:List Int} (hx:x∈endS zs N):x.length < 18∧∀ i∈x,0≤i∧i < 4:=by
 have hx:=(ends_mem ((sortV_perm _).mem_iff.mp hx)).1
 obtain ⟨h1,j,_,hj⟩:=all_mem h hx
 refine ⟨h1,fun i hi=>?_⟩
 have:=hues_lev hj i hi
 have:=h.sz.2.1
 omega
theorem lead_t (cl:CLead Φ) {zs:List Int} {N:Nat} (hz:SmallZ zs) {e1:Env}:∀ x∈endS zs N,evTs Φ G (some (tpI x) :: some (tpI zs) :: e1) (.cons (.not (.val (.call "leaders" 0 (.cons (.var 1) (.cons (.var 0) .nil))))) .nil) s=.ok (shutB zs x) s:=fun x hx=>ts_one (by
 have h1:=(endS_mem hz hx).1
 have:=t_not (t_val (x_call (xs_cons (x_var (env:=some (tpI x) :: some (tpI zs) :: e1) (G:=G) (i:=1) rfl) (xs_cons (x_var (i:=0) rfl) xs_nil)) (cl zs x s hz.sz (by omega))) tr_tup)
 rw [fol_stop (by rw [List.length_reverse]; omega),Bool.not_not] at this
 exact this)
end
theorem sort_ends {m:Bool} {x:Val} {s:Sto} {zs:List Int} {N:Nat} (h:SmallZ zs) (hx:lstOf s x=some (tps (endsL zs N))):blt .sorted m [x] s=newList m (tps (endS zs N)) s:=sorted_any hx (ends_nodup h N) (.inr (ends_ne h.sz))
theorem lst_last {s:Sto} {vs:List Val}:lstOf (s++[.lst vs]) (.ref s.length)=some vs:=by simp [lstOf]
end M
end
section
namespace M
open PySem Hd
noncomputable def fragH (h:Heap):KF:=(List.range h.objs.size).filterMap fun a=>(h.get? a).map fun o=>(a,o)
theorem look_fm {g:Addr→Option Obj} {a:Addr}:∀ {l:List Addr},a∈l→(l.filterMap fun b=>(g b).map fun o=>(b,o)).lookup a=g a
 | b :: r,hm=>by
   rw [List.filterMap_cons]
   by_cases e:a=b
   . subst e
     cases hg:g a with
     | none =>
       show (r.filterMap _).lookup a=none
       by_cases m:a∈r
       . rw [look_fm m,hg]
       . exact List.lookup_eq_none_iff.mpr fun p hp=>by
           obtain ⟨c,hc,e⟩:=List.mem_filterMap.mp hp
           obtain ⟨o,_,rfl⟩:=Option.map_eq_some_iff.mp e
           have z:a≠c:=fun z=>m (by rw [z]; exact hc)
           simpa using z
     | some o=>show (List.lookup a ((a,o) :: _))=_; rw [List.lookup_cons,beq_self_eq_true]
   . have m:a∈r:=(List.mem_cons.mp hm).resolve_left e
     cases hg:g b with
     | none=>exact look_fm m
     | some o =>
       show (List.lookup a ((b,o) :: _))=_
       rw [List.lookup_cons,beq_false_of_ne e]
       exact look_fm m
theorem fragH_lookup {h:Heap} {a:Addr} (o:Obj) (e:h.get? a=some o):(fragH h).lookup a=some o:=by
 rw [←e]
 exact look_fm (List.mem_range.mpr (Heap.lt_size e))
theorem fragH_in {h:Heap}:(fragH h).In h:=fun a o e=>by
 obtain ⟨c,_,e⟩:=List.mem_filterMap.mp (mem_lk e)
 obtain ⟨o',e1,e2⟩:=Option.map_eq_some_iff.mp e
 cases e2
 exact e1
theorem nsH_in {h:Heap} {x:Str} {v:Option Value} (e:nsH h x=some v):PySem.W.nsIn (fragH h) mainGlobals x=some v:=by
 unfold nsH at e
 split at e
 . rename_i o ho
   unfold PySem.W.nsIn at e ⊢
   rw [fragH_lookup o ho]
   exact e
 . cases e
theorem codeH_in {h:Heap} {cd:Value} {x:Str} (e:codeH h cd x=true):PySem.W.codeIn (fragH h) cd x=true:=by
 unfold codeH at e
 split at e
 . split at e
   . rename_i c o ho
     unfold PySem.W.codeIn at e ⊢
     dsimp only at e ⊢
     rw [List.lookup_cons,beq_self_eq_true] at e
     rw [fragH_lookup o ho]
     exact e
   . cases e
 . cases e
theorem args_eq (st:Stmt):args st=L2.defArgs st∧body st=L2.defBody st∧scope st=L2.defScope st:=by cases st <;> exact ⟨rfl,rfl,rfl⟩
theorem def_of {h:Heap} {p:Str × Stmt} (e:obsF h p.1=valF p):DefOk (fragH h) p.1 p.2:=by
 obtain ⟨a1,a2,a3⟩:=args_eq p.2
 unfold valF at e
 rw [a1,a2,a3] at e
 unfold obsF at e
 split at e
 . rename_i f hf
   split at e
   . rename_i oc od fd osl ho
     split at e
     . rename_i hc
       have e':=Option.some.inj e
       obtain ⟨n,q,ps,b,sc,g,cl,df,kw,dc,pm,an,cd,ct,bl⟩:=fd
       injection e' with e1 e2 e3 e4 e5 e6 e7 e8 _ _ _ _ _ _ e9
       subst e1 e2 e3 e4 e5 e6 e7 e8 e9
       exact def_mk (nsH_in hf) (fragH_lookup _ ho) (codeH_in hc) (by unfold PySem.W.keepIn; dsimp only; rw [fragH_lookup _ ho])
     . cases e
   . cases e
 . cases e
noncomputable def gv:G→Val
 | .int i=>.int i
 | .str x=>.str x
 | .ctup ns=>.ctup ns
theorem gl_of {h:Heap} {x:Str} {v:G} (e:glB h x v=true):GlOk (fragH h) x (gv v):=by
 cases v with
 | int i =>
   unfold glB at e; dsimp only at e
   split at e
   . rename_i hn; have:=of_decide_eq_true e; subst this; exact int_mk (nsH_in hn)
   . cases e
 | str y =>
   unfold glB at e; dsimp only at e
   split at e
   . rename_i hn; have:=of_decide_eq_true e; subst this; exact str_mk (nsH_in hn)
   . cases e
 | ctup ns =>
   unfold glB at e; dsimp only at e
   split at e
   . rename_i hn
     split at e
     . rename_i n od us k sl ho
       obtain ⟨e1,e3⟩:=Bool.and_eq_true_iff.mp e
       obtain ⟨e1,e2⟩:=Bool.and_eq_true_iff.mp e1
       have:=of_decide_eq_true e1; subst this
       exact ctup_mk (us:=us.toList) (nsH_in hn) (fragH_lookup _ ho) (of_decide_eq_true e2) (of_decide_eq_true e3)
     . cases e
   . cases e
theorem bl_of {h:Heap} {x:Str} (e:blB h x=true):PySem.W.nsIn (fragH h) mainGlobals x=some none:=by
 unfold blB at e
 split at e
 . rename_i hn; exact nsH_in hn
 . cases e
noncomputable def Says (D:List (Str × Stmt)) (glL:List (Str × Val)) (K:KF) (h:Heap):Prop:=K.In h∧(∀ p∈D,DefOk K p.1 p.2)∧(∀ p∈glL,GlOk K p.1 p.2)∧∀ x∈bltNames,PySem.W.nsIn K mainGlobals x=some none
theorem defs_of {h:Heap}:∀ {D:List (Str × Stmt)},(D.map fun p=>obsF h p.1)=D.map valF→∀ p∈D,DefOk (fragH h) p.1 p.2
 | p :: D,e,q,hq=>by
   rw [List.map_cons,List.map_cons] at e
   obtain ⟨e1,e2⟩:=List.cons.inj e
   rcases List.mem_cons.mp hq with rfl | hq
   . exact def_of e1
   . exact defs_of e2 q hq
theorem says_of {D:List (Str × Stmt)} {gl:List (Str × G)} {s:Shared} (e:obsH D gl s=valH D):∃ K,Says D (gl.map fun p=>(p.1,gv p.2)) K s.heap:=by
 obtain ⟨e1,e2⟩:=Prod.mk.inj e
 obtain ⟨e2,e3⟩:=Bool.and_eq_true_iff.mp e2
 exact ⟨fragH s.heap,fragH_in,defs_of e1,fun p hp=>(by obtain ⟨p',h1,rfl⟩:=List.mem_map.mp hp; exact gl_of (List.all_eq_true.mp e2 p' h1)),fun x hx=>bl_of (List.all_eq_true.mp e3 x hx)⟩
theorem close {l:PySem.W.OpenLaw} {q:Program} {d:DefRec} {fnL:List ((Str × Nat) × Fn)} {glL:List (Str × Val)} {gl:List (Str × G)} {D:List (Str × Stmt)} {F:Fn} {n N:Nat} {x:Str}
   (said:l.wellSaid=true) (left:PySem.W.LeftO l.row.prog q [] (fun s=>PySem.W.recOk l.row.records s) (obsH D gl) (fun _=>valH D) N) (hgl:glL=gl.map fun p=>(p.1,gv p.2))
   (hdef:PySem.W.defOf q l.row.name=some (d,[])) (hp:l.row.prog.theDef l.row.name=some (d.params,d.body,d.scope)) (hk:PySem.W.kwWritten? d.params.kwonlyargs d.params.kw_defaults=some [])
   (hwr:(!l.row.writes || l.row.records.isEmpty)=true) (ok:(PySem.W.chainsOk q && PySem.W.opensWell l.row.prog && (PySem.W.frees l.row.toRowW && l.row.within.isEmpty))=true) (hb:l.row.prog.bare) (hw:l.row.toRowW.promised)
   (hn:l.most=some 63) (hdf:d.params.defaults=[]) (hr:L2.Room n callerA) (hF:(tbl fnL glL).fn d.name 0=some F) (hx:F.ps=[x]) (hc:tabCk fnL D=true)
   (HL:∀ ns:List Int,ns.length≤63→∃ s',callN (tbl fnL glL) n d.name 0 [.scr ns] []=.ok (.bool true) s'):l.Holds:=by
 refine PySem.W.holds_law said fun said'=>PySem.W.holds_open (q:=q) (loose:=[]) (Xt:=fun s=>PySem.W.recOk l.row.records s) (XP:=fun _ _=>True) (YP:=fun _ h=>∃ K,Says D glL K h) left (fun w s e=>hgl ▸ says_of e)
   (fun w h h' ⟨K,a,b⟩ k=>⟨K,a.keeps k,b⟩) (fun _ _=>trivial) (fun _ _ _ _ _=>trivial) hdef hp hk (fun s e=>PySem.W.recFacts_of e) hwr said' ok hb hw ?_
 intro w s₀ s₁ mg mb G ⟨K,Y⟩
 exact walk (l:=l) (q:=q) (loose:=[]) (XP:=fun _ _=>True) (YP:=fun _ h=>Says D glL K h) (d:=d) (K:=fun _=>K) (T:=tbl fnL glL) hn hdf hr (fun _ _ y=>y.1) hF hx (fun w mg h X g=>top_of X g Y.2.1 Y.2.2.1 Y.2.2.2 hc) HL w s₀ s₁ mg mb G Y
end M
end
section
namespace P43
open PySem M
noncomputable def F__law_all:Fn:=⟨["_law_sizes","_law_found","_law_here","_law_later","_law_some"],["_law_sizes"],false,(.cons (.asg 1 (.lst false .nil)) (.cons (.asg 2 (.lst false (.cons (.tup .nil) .nil))) (.cons (.whileS (.val (.cmp .ne (.var 2) (.lst false .nil))) (.cons (.asg 1 (.bin false .add (.var 1) (.var 2))) (.cons (.asg 3 (.lst false .nil)) (.cons (.forS (.nm 4) (.val (.var 2)) (.cons (.asg 3 (.bin false .add (.var 3) (.comp false ["_law_hue","_law_sizes","_law_some"] [none,some 0,some 4] (.bin false .add (.var 2) (.tup (.cons (.var 0) .nil))) (.nm 0) (.range1 (.blt .len false (.cons (.var 0) .nil))) (.cons (.not (.val (.call "_law_ended" 0 (.cons (.var 1) (.cons (.var 2) (.cons (.var 0) .nil)))))) .nil)))) .nil)) (.cons (.asg 2 (.var 3)) .nil))))) (.cons (.ret (.var 1)) .nil))))⟩
noncomputable def F__law_cell_at:Fn:=F.F__law_cell_at
noncomputable def F__law_draw:Fn:=F.F__law_draw
noncomputable def F__law_ended:Fn:=F12.F__law_ended
noncomputable def F__law_pen_1:Fn:=F.F__law_pen_1
noncomputable def F__law_small:Fn:=F12.F__law_small
noncomputable def F__law_stopped:Fn:=⟨["_law_sizes","_law_strip"],["_law_sizes","_law_strip"],false,(.cons (.ret (.cmp .eq (.comp false ["_law_hue","_law_sizes","_law_strip"] [none,some 0,some 1] (.var 0) (.nm 0) (.range1 (.blt .len false (.cons (.var 0) .nil))) (.cons (.not (.val (.call "_law_ended" 0 (.cons (.var 1) (.cons (.var 2) (.cons (.var 0) .nil)))))) .nil)) (.lst false .nil))) .nil)⟩
noncomputable def F_are_sizes:Fn:=F.F_are_sizes
noncomputable def F_are_wholes:Fn:=F.F_are_wholes
noncomputable def F_ends:Fn:=⟨["sizes","found","strips"],["sizes"],false,(.cons (.expr (.call "need_small_sizes" 0 (.cons (.var 0) .nil))) (.cons (.asg 1 (.lst true .nil)) (.cons (.asg 2 (.lst false (.cons (.tup .nil) .nil))) (.cons (.whileS (.val (.var 2)) (.cons (.expr (.meth .extend false (.var 1) (.cons (.comp false ["strip","sizes"] [none,some 0] (.var 0) (.nm 0) (.val (.var 2)) (.cons (.not (.val (.call "followers" 0 (.cons (.var 1) (.cons (.var 0) .nil))))) .nil)) .nil))) (.cons (.asg 2 (.call "grown" 0 (.cons (.var 0) (.cons (.var 2) .nil)))) .nil))) (.cons (.ret (.blt .sorted false (.cons (.var 1) .nil))) .nil)))))⟩
noncomputable def F_ends_1:Fn:=⟨["sizes","found","strips"],["sizes"],true,(.cons (.expr (.call "need_small_sizes" 0 (.cons (.var 0) .nil))) (.cons (.asg 1 (.lst true .nil)) (.cons (.asg 2 (.lst false (.cons (.tup .nil) .nil))) (.cons (.whileS (.val (.var 2)) (.cons (.expr (.meth .extend false (.var 1) (.cons (.comp false ["strip","sizes"] [none,some 0] (.var 0) (.nm 0) (.val (.var 2)) (.cons (.not (.val (.call "followers" 0 (.cons (.var 1) (.cons (.var 0) .nil))))) .nil)) .nil))) (.cons (.asg 2 (.call "grown" 0 (.cons (.var 0) (.cons (.var 2) .nil)))) .nil))) (.cons (.ret (.blt .sorted true (.cons (.var 1) .nil))) .nil)))))⟩
noncomputable def F_followers:Fn:=F.F_followers
noncomputable def F_grown:Fn:=F12.F_grown
noncomputable def F_is_whole:Fn:=F.F_is_whole
noncomputable def F_law:Fn:=⟨["_law_script","_law_k","_law_pen_here","_law_sizes","_law_due","_law_shut","_law_turn","_law_found","_law_both"],["_law_script"],false,(.cons (.forS (.nm 1) (.range1 (.blt .max false (.cons (.lit (.int 1)) (.cons (.blt .min false (.cons (.blt .len false (.cons (.var 0) .nil)) (.cons (.lit (.int 3)) .nil))) .nil)))) (.cons (.asg 2 (.call "_law_pen" 1 (.cons (.call "_law_cell_at" 0 (.cons (.var 0) (.cons (.var 1) .nil))) .nil))) (.cons (.asg 3 (.call "_law_small" 0 (.cons (.var 2) .nil))) (.cons (.asg 4 (.blt .sorted false (.cons (.comp false ["_law_strip","_law_sizes"] [none,some 3] (.var 0) (.nm 0) (.val (.call "_law_all" 0 (.cons (.var 3) .nil))) (.cons (.val (.call "_law_stopped" 0 (.cons (.var 1) (.cons (.var 0) .nil)))) .nil)) .nil))) (.cons (.asg 5 (.comp false ["_law_strip","_law_sizes"] [none,some 3] (.var 0) (.nm 0) (.val (.var 4)) (.cons (.val (.call "_law_stopped" 0 (.cons (.var 1) (.cons (.sl false (.var 0) .no .no (.yes (.neg (.lit (.int 1))))) .nil)))) .nil))) (.cons (.forS (.nm 6) (.range1 (.lit (.int 2))) (.cons (.par [7,8] (.cons (.call "ends" 1 (.cons (.var 3) .nil)) (.cons (.call "shut_ends" 1 (.cons (.var 3) .nil)) .nil))) (.cons (.ifS (.or (.val (.cmp .ne (.blt .repr false (.cons (.var 7) .nil)) (.blt .repr false (.cons (.var 4) .nil)))) (.cons (.val (.cmp .ne (.blt .repr false (.cons (.var 8) .nil)) (.blt .repr false (.cons (.var 5) .nil)))) .nil)) (.cons (.ret (.lit (.bool false))) .nil) .nil) (.cons (.expr (.meth .append false (.var 7) (.cons (.tup .nil) .nil))) (.cons (.expr (.meth .append false (.var 8) (.cons (.tup .nil) .nil))) .nil))))) .nil)))))) (.cons (.ret (.andE (.cmp .eq (.call "ends" 0 (.cons (.tup (.cons (.lit (.int 2)) (.cons (.lit (.int 2)) .nil))) .nil)) (.lst false (.cons (.tup (.cons (.lit (.int 0)) (.cons (.lit (.int 1)) .nil))) (.cons (.tup (.cons (.lit (.int 1)) (.cons (.lit (.int 0)) .nil))) .nil)))) (.cons (.cmp .eq (.call "shut_ends" 0 (.cons (.tup (.cons (.lit (.int 3)) .nil)) .nil)) (.lst false (.cons (.tup (.cons (.lit (.int 0)) (.cons (.lit (.int 0)) .nil))) .nil))) .nil))) .nil))⟩
noncomputable def F_leaders:Fn:=F.F_leaders
noncomputable def F_may_follow:Fn:=F.F_may_follow
noncomputable def F_need_sizes:Fn:=F.F_need_sizes
noncomputable def F_need_small_sizes:Fn:=F12.F_need_small_sizes
noncomputable def F_product_of:Fn:=F12.F_product_of
noncomputable def F_shut_ends:Fn:=⟨["sizes"],["sizes"],false,(.cons (.ret (.comp false ["strip","sizes"] [none,some 0] (.var 0) (.nm 0) (.val (.call "ends" 0 (.cons (.var 0) .nil))) (.cons (.not (.val (.call "leaders" 0 (.cons (.var 1) (.cons (.var 0) .nil))))) .nil))) .nil)⟩
noncomputable def F_shut_ends_1:Fn:=⟨["sizes"],["sizes"],true,(.cons (.ret (.comp true ["strip","sizes"] [none,some 0] (.var 0) (.nm 0) (.val (.call "ends" 0 (.cons (.var 0) .nil))) (.cons (.not (.val (.call "leaders" 0 (.cons (.var 1) (.cons (.var 0) .nil))))) .nil))) .nil)⟩
noncomputable def fnL:List ((Str × Nat) × Fn):=((("_law_all":Str),(0:Nat)),F__law_all) :: ((("_law_cell_at":Str),(0:Nat)),F__law_cell_at) :: ((("_law_draw":Str),(0:Nat)),F__law_draw) :: ((("_law_ended":Str),(0:Nat)),F__law_ended) :: ((("_law_pen":Str),(1:Nat)),F__law_pen_1) :: ((("_law_small":Str),(0:Nat)),F__law_small) :: ((("_law_stopped":Str),(0:Nat)),F__law_stopped) :: ((("are_sizes":Str),(0:Nat)),F_are_sizes) :: ((("are_wholes":Str),(0:Nat)),F_are_wholes) :: ((("ends":Str),(0:Nat)),F_ends) :: ((("ends":Str),(1:Nat)),F_ends_1) :: ((("followers":Str),(0:Nat)),F_followers) :: ((("grown":Str),(0:Nat)),F_grown) :: ((("is_whole":Str),(0:Nat)),F_is_whole) :: ((("law":Str),(0:Nat)),F_law) :: ((("leaders":Str),(0:Nat)),F_leaders) :: ((("may_follow":Str),(0:Nat)),F_may_follow) :: ((("need_sizes":Str),(0:Nat)),F_need_sizes) :: ((("need_small_sizes":Str),(0:Nat)),F_need_small_sizes) :: ((("product_of":Str),(0:Nat)),F_product_of) :: ((("shut_ends":Str),(0:Nat)),F_shut_ends) :: ((("shut_ends":Str),(1:Nat)),F_shut_ends_1) :: []
noncomputable def glL:List (Str × Val):=[("MOST_PLACES",.int 40),("LEAST_SIZE",.int 2),("MOST_SIZE",.int 8),("HUES",.ctup [0,1,2,3]),("MOST_PRODUCT",.int 12)]
noncomputable def T:Tbl:=tbl fnL glL
set_option maxHeartbeats 0 in
theorem tab_ok:tabCk fnL D=true:=by decide +kernel
end P43
end
section
namespace P43
open PySem M
section
variable {Φ:Calls} {s:Sto}
theorem run_ends0 (cN:CNeedSmall Φ) (c:CGrown0 Φ) (cf:CFoll Φ) {zs:List Int} {N:Nat} (hz:SmallZ zs) (hN:Far zs N):run T Φ F_ends [tpI zs] s=.ok (.lst (tps (endS zs N))) s:=by
 have L1:∀ n,n < 100→n≤LINE:=fun n h=>by unfold LINE; omega
 rw [post_eq,F_ends,p_run]
 refine ⟨rfl,?_⟩
 show (exSs Φ T.gl [some (tpI zs),none,none] _ s).post _
 refine s_expr (x_call (xs_cons (x_var rfl) xs_nil) (cN zs s hz)) (s_asg (s1:=s++[.lst []]) (v:=.ref s.length) (bnd xs_nil rfl) (s_asg (x_lst (xs_cons (x_tup xs_nil (L1 0 (by omega))) xs_nil) (L1 1 (by omega))) ?_))
 refine p_ends c cf hz hN ?_
 refine s_ret (x_blt (xs_cons (x_var rfl) xs_nil) (sort_ends hz lst_last)) ?_
 show (leaveK false s (.lst (tps (endS zs N))) (s++_)).post _
 rw [leave_more (by rw [nr_lst]; exact noRefs_tps _)]
 exact post_ok.mpr ⟨rfl,rfl⟩
theorem run_ends1 (cN:CNeedSmall Φ) (c:CGrown0 Φ) (cf:CFoll Φ) {zs:List Int} {N:Nat} (hz:SmallZ zs) (hN:Far zs N):run T Φ F_ends_1 [tpI zs] s=.ok (.ref (s.length + 1)) (s++[.lst (tps (endsL zs N)),.lst (tps (endS zs N))]):=by
 have L1:∀ n,n < 100→n≤LINE:=fun n h=>by unfold LINE; omega
 rw [post_eq,F_ends_1,p_run]
 refine ⟨rfl,?_⟩
 show (exSs Φ T.gl [some (tpI zs),none,none] _ s).post _
 refine s_expr (x_call (xs_cons (x_var rfl) xs_nil) (cN zs s hz)) (s_asg (s1:=s++[.lst []]) (v:=.ref s.length) (bnd xs_nil rfl) (s_asg (x_lst (xs_cons (x_tup xs_nil (L1 0 (by omega))) xs_nil) (L1 1 (by omega))) ?_))
 refine p_ends c cf hz hN ?_
 refine s_ret (x_blt (xs_cons (x_var rfl) xs_nil) ((sort_ends (m:=true) hz lst_last).trans rfl)) ?_
 show (leaveK true s _ _).post _
 rw [leaveK_keep]
 exact post_ok.mpr ⟨by rw [List.length_append]; rfl,by rw [List.append_assoc]; rfl⟩
theorem run_shut0 (cE:CEnds0 Φ) (cl:CLead Φ) {zs:List Int} {N:Nat} (hz:SmallZ zs) (hN:Far zs N):run T Φ F_shut_ends [tpI zs] s=.ok (.lst (tps ((endS zs N).filter (shutB zs)))) s:=by
 rw [post_eq,F_shut_ends,p_run]
 refine ⟨rfl,?_⟩
 show (exSs Φ T.gl [some (tpI zs)] _ s).post _
 refine s_ret (x_filt (e0:=[some (tpI zs)]) (it_val (x_call (xs_cons (x_var rfl) xs_nil) (cE zs N s hz hN)) rfl) rfl (lead_t cl hz)) ?_
 show (leaveK false s _ s).post _
 rw [leave_pure (by rw [nr_lst]; exact noRefs_tps _)]
 exact post_ok.mpr ⟨rfl,rfl⟩
theorem run_shut1 (cE:CEnds0 Φ) (cl:CLead Φ) {zs:List Int} {N:Nat} (hz:SmallZ zs) (hN:Far zs N):run T Φ F_shut_ends_1 [tpI zs] s=.ok (.ref s.length) (s++[.lst (tps ((endS zs N).filter (shutB zs)))]):=by
 rw [post_eq,F_shut_ends_1,p_run]
 refine ⟨rfl,?_⟩
 show (exSs Φ T.gl [some (tpI zs)] _ s).post _
 refine p_scons.mpr (p_ret.mpr (p_filt (e0:=[some (tpI zs)]) (it_val (x_call (xs_cons (x_var rfl) xs_nil) (cE zs N s hz hN)) rfl) rfl (lead_t cl hz) (post_ok.mpr ?_)))
 show (leaveK true s _ _).post _
 rw [leaveK_keep]
 exact post_ok.mpr ⟨rfl,rfl⟩
noncomputable def CAll (Φ:Calls):Prop:=∀ (zs:List Int) (N:Nat) (s:Sto),SmallZ zs→Far zs N→Φ "_law_all" 0 [tpI zs] s=.ok (.lst (tps (allL zs N))) s
theorem run_all (cE:CEndT Φ) {zs:List Int} {N:Nat} (hz:SmallZ zs) (hN:Far zs N):run T Φ F__law_all [tpI zs] s=.ok (.lst (tps (allL zs N))) s:=by
 have L1:∀ n,n < 100→n≤LINE:=fun n h=>by unfold LINE; omega
 rw [post_eq,F__law_all,p_run]
 refine ⟨rfl,?_⟩
 show (exSs Φ T.gl [some (tpI zs),none,none,none,none] _ s).post _
 refine s_asg (x_lst xs_nil (L1 0 (by omega))) (s_asg (x_lst (xs_cons (x_tup xs_nil (L1 0 (by omega))) xs_nil) (L1 1 (by omega))) ?_)
 refine p_scons.mpr (p_while N (fun k e s'=>s=s'∧∃ m o3 o4,m + k=N∧e=[some (tpI zs),some (.lst (tps (allL zs m))),some (.lst (tps (levs zs [[]] m))),o3,o4]) (by have:=hN.le; unfold WHILE; omega) ⟨rfl,0,_,_,by omega,rfl⟩ ?_)
 rintro k e s' ⟨rfl,m,o3,o4,hm,rfl⟩
 rw [t_val (x_cmp (x_var rfl) (x_lst xs_nil (L1 0 (by omega))) (ne_nil (isDs_tps _))) tr_bool]
 refine post_ok.mpr ?_
 cases k with
 | zero =>
   have:m=N:=by omega
   subst this
   rw [hN.end_]
   refine s_ret (x_var rfl) ?_
   show (leaveK false s _ s).post _
   rw [leave_pure (by rw [nr_lst]; exact noRefs_tps _)]
   exact post_ok.mpr ⟨rfl,rfl⟩
 | succ k =>
   have hne:=hN.on m (by omega)
   have ht:(!(tps (levs zs [[]] m)).isEmpty)=true:=by
     cases hL:levs zs [[]] m with
     | nil=>exact absurd hL hne
     | cons _ _=>rfl
   rw [ht,if_pos rfl]
   have hle:m≤18:=by have:=hN.le; omega
   have l1:=all_len hz m
   have l2:=hz.few m
   refine s_asg (x_bin (x_var rfl) (x_var rfl) (add_lst (by rw [List.length_map,List.length_map]; unfold LINE; omega))) (s_asg (x_lst xs_nil (L1 0 (by omega))) ?_)
   rw [←List.map_append,← all_succ]
   refine p_scons.mpr (p_later cE (iz:=0) (ih:=2) (il:=3) (is:=4) hz.sz (levs_le40 hz m) (few_line hz (m + 1)) (by decide) (by decide) (by decide) (by simp) (by simp) rfl rfl rfl fun o=>?_)
   refine s_asg (x_var rfl) (s_nil ?_)
   exact ⟨k,by omega,rfl,m + 1,_,_,by omega,rfl⟩
noncomputable def CStopped (Φ:Calls):Prop:=∀ (zs x:List Int) (s:Sto),Sz zs→x.length≤40→Φ "_law_stopped" 0 [tpI zs,tpI x] s=.ok (.bool (stopB zs x)) s
noncomputable def stG (zs x:List Int):Val→List Val
 | .int a=>if !endB x (sizeN zs a.toNat) a then [.int a] else []
 | _=>[]
theorem run_stopped (cE:CEndT Φ) {zs x:List Int} (hz:Sz zs) (hx:x.length≤40):run T Φ F__law_stopped [tpI zs,tpI x] s=.ok (.bool (stopB zs x)) s:=by
 have L1:∀ n,n < 100→n≤LINE:=fun n h=>by unfold LINE; omega
 have hl:blt .len false [tpI zs] s=.ok (.int zs.length) s:=by rw [l_tup,List.length_map]
 have hz4:=hz.2.1
 rw [post_eq,F__law_stopped,p_run]
 refine ⟨rfl,?_⟩
 show (exSs Φ T.gl [some (tpI zs),some (tpI x)] _ s).post _
 have hi:evIt Φ T.gl [some (tpI zs),some (tpI x)] (.range1 (.blt .len false (.cons (.var 0) .nil))) s=.ok ⟨rngV 0 zs.length,none⟩ s:=by
   rw [post_eq]
   refine p_range1.mpr ?_
   rw [x_blt (xs_cons (x_var rfl) xs_nil) hl]
   exact post_ok.mpr ⟨_,rfl,⟨by omega,by unfold LINE; omega⟩,by rw [Int.toNat_natCast],rfl⟩
 have hc:∀ N,evE Φ T.gl [some (tpI zs),some (tpI x)] (.comp false N [none,some 0,some 1] (.var 0) (.nm 0) (.range1 (.blt .len false (.cons (.var 0) .nil))) (.cons (.not (.val (.call "_law_ended" 0 (.cons (.var 1) (.cons (.var 2) (.cons (.var 0) .nil)))))) .nil)) s=.ok (.lst ((okH zs x).map fun (k:Nat)=>Val.int k)) s:=fun N=>by
   rw [post_eq]
   refine p_compE (fun e=>∃ o,e=[o,some (tpI zs),some (tpI x)]) (stG zs x) (rngV 0 zs.length) (s1:=s) hi ⟨none,rfl⟩ ?_ ?_
   . rintro y hy e ⟨o,rfl⟩
     obtain ⟨k,hk,rfl⟩:=mem_rng hy
     rw [show (0:Int) + (k:Int)=(k:Int) by omega]
     refine ⟨_,rfl,⟨_,rfl⟩,?_⟩
     have:=ts_one (t_not (t_val (x_call (xs_cons (x_var (env:=[some (.int (k:Int)),some (tpI zs),some (tpI x)]) (G:=T.gl) (i:=1) rfl) (xs_cons (x_var (i:=2) rfl) (xs_cons (x_var (i:=0) rfl) xs_nil))) (cE zs x k s hz hk hx)) tr_bool))
     show (evTs Φ T.gl [some (.int (k:Int)),some (tpI zs),some (tpI x)] _ s).post _
     rw [this]
     refine post_ok.mpr ⟨rfl,?_⟩
     have eg:stG zs x (.int (k:Int))=if !endB x (sizeN zs k) k then [Val.int (k:Int)] else []:=rfl
     rw [eg]
     cases !endB x (sizeN zs k) k with
     | true =>
       rw [if_pos rfl,if_pos rfl]
       exact p_var.mpr ⟨_,rfl,rfl,rfl⟩
     | false=>rw [if_neg Bool.false_ne_true,if_neg Bool.false_ne_true]
   . rw [flat_rngG (f:=fun h=>!endB x (sizeN zs h) h) (G:=fun (h:Nat)=>Val.int h) (fun k _=>rfl)]
     exact post_ok.mpr ⟨rfl,rfl⟩
 have isD:isDs ((okH zs x).map fun (k:Nat)=>Val.int k)=true:=by
   have:=isDs_ints ((okH zs x).map fun (k:Nat)=>(k:Int))
   rwa [List.map_map] at this
 have eb:((okH zs x).map fun (k:Nat)=>Val.int k).isEmpty=stopB zs x:=by
   unfold stopB
   cases okH zs x <;> rfl
 refine s_ret (x_cmp (hc _) (x_lst xs_nil (L1 0 (by omega))) (eq_nil isD)) ?_
 rw [eb]
 show (leaveK false s _ s).post _
 rw [leave_pure nr_bool]
 exact post_ok.mpr ⟨rfl,rfl⟩
theorem repr_tpN {m:Bool} {x:Val} {L:List (List Int)} (hx:deref s x=.lst (tps L)) (h1:L.length≤1900) (h2:∀ ns∈L,ns.length < 18∧∀ i∈ns,0≤i∧i < 4):blt .repr m [x] s=.ok (.str (PyData.list (L.map tD)).shown) s:=by
 have hd:(Val.lst (tps L)).d=.list (L.map tD):=by rw [Val.d,ds_tps]
 have hr:(Val.lst (tps L)).isR=true:=by rw [Val.isR]; exact isRs_tps L
 have ok:okShow (.list (L.map tD))=true:=okShow_of (L2.leaf_list (n:=1900) (k:=1) (w:=90) (fun d hd=>by
     obtain ⟨ns,hn,rfl⟩:=List.mem_map.mp hd
     have:=h2 ns hn
     exact L2.leaf_tuple (k:=0) (w:=4) (n:=18) (fun d hd=>by
       obtain ⟨i,hi,rfl⟩:=List.mem_map.mp hd
       have:=this.2 i hi
       exact leaf_small this.1 (by omega)) (by rw [List.length_map]; exact Nat.le_of_lt this.1)) (by rw [List.length_map]; exact h1)) (by decide) (by decide) (by
   rw [PyData.hasDict]
   exact L2.noDictAll fun d hd=>by obtain ⟨r,hr,rfl⟩:=List.mem_map.mp hd; exact nodict_tD r)
 simp only [blt]
 rw [hx,hd,hr,ok]
 rfl
theorem app_at {i:Nat} {vs:List Val} {v:Val} (h:s[i]?=some (.lst vs)) (hl:vs.length < LINE):meth .append (.ref i) [v] s=.ok .none (upd s i (vs++[v])):=by
 simp only [meth,h]; rw [if_pos hl]
structure Cs (Φ:Calls):Prop where
 cell:CCell Φ
 pen:CPen Φ
 small:CSmall Φ
 all:CAll Φ
 stopped:CStopped Φ
 ends0:CEnds0 Φ
 ends1:CEnds1 Φ
 shut0:CShut0 Φ
 shut1:CShut1 Φ
theorem law_post (c:Cs Φ) (ns:List Int):(run T Φ F_law [.scr ns] []).post fun v _=>v=.bool true:=by
 have L1:∀ n,n < 100→n≤LINE:=fun n h=>by unfold LINE; omega
 have two:∀ (env:M.Env) (s:Sto),evIt Φ T.gl env (.range1 (.lit (.int 2))) s=.ok ⟨rngV 0 2,none⟩ s:=fun env s=>rfl
 rw [F_law,p_run]
 refine ⟨rfl,?_⟩
 refine p_scons.mpr (p_forE (fun rest e s'=>(∃ o1 o2 o3 o4 o5 o6 o7 o8,e=[some (.scr ns),o1,o2,o3,o4,o5,o6,o7,o8])∧∀ x∈rest,∃ k:Nat,x=.int k) (rngV 0 (max 1 (min ns.length 3))) (s1:=[]) (ev_cells (K:=3) rfl (by omega)) ⟨⟨_,_,_,_,_,_,_,_,rfl⟩,?_⟩ ?_ ?_)
 . intro x hx
   obtain ⟨k,_,rfl⟩:=mem_rng hx
   exact ⟨k,by congr 1; omega⟩
 . rintro x rest e s' ⟨⟨o1,o2,o3,o4,o5,o6,o7,o8,rfl⟩,hr⟩
   obtain ⟨k,rfl⟩:=hr x (.head _)
   have hr':∀ x∈rest,∃ k:Nat,x=.int k:=fun x hx=>hr x (.tail _ hx)
   refine ⟨_,rfl,?_⟩
   obtain ⟨cv,hcell⟩:=c.cell ns k s'
   obtain ⟨a,b,hpen,hb⟩:=c.pen cv s'
   refine s_asg (x_call (xs_cons (x_call (xs_cons (x_var rfl) (xs_cons (x_var rfl) xs_nil)) hcell) xs_nil) hpen) ?_
   have hP:PenAt (s'++[penC a b]) s'.length:=⟨a,b,by simp,hb⟩
   refine s_asgP (p_callX (xs_cons (x_var rfl) xs_nil) (post_mono (c.small s'.length _ hP) ?_))
   rintro v s2 ⟨zs,rfl,hz,t2⟩
   obtain ⟨N,hN⟩:=far_of hz
   have hst:∀ (x:List Int) (s:Sto),x.length < 18→Φ "_law_stopped" 0 [tpI zs,tpI x] s=.ok (.bool (stopB zs x)) s:=fun x s h=>c.stopped zs x s hz.sz (by omega)
   have hle:=ends_len hz N
   have hN18:=hN.le
   have hEl:(endS zs N).length≤1900:=by rw [(sortV_perm _).length_eq]; omega
   refine s_asg (x_blt (xs_cons (x_filt (f:=stopB zs) (e0:=[some (tpI zs)]) (it_val (x_call (xs_cons (x_var rfl) xs_nil) (c.all zs N s2 hz hN)) rfl) rfl (fun x hx=>ts_one (t_val (x_call (xs_cons (x_var rfl) (xs_cons (x_var rfl) xs_nil)) (hst x s2 (all_mem hz hx).1)) tr_bool))) xs_nil) ((sort_ends (m:=false) hz (by rw [ends_all]; rfl)).trans rfl)) ?_
   refine s_asg (x_filt (f:=shutB zs) (e0:=[some (tpI zs)]) (it_val (x_var rfl) rfl) rfl (fun x hx=>ts_one (t_val (x_call (xs_cons (x_var rfl) (xs_cons (x_sl (x_var rfl) o_no o_no (o_yes (x_neg x_lit)) (sl_rev (by have:=(endS_mem hz hx).1; omega))) xs_nil)) (hst x.reverse s2 (by rw [List.length_reverse]; exact (endS_mem hz hx).1))) tr_bool))) ?_
   have hmem:∀ x∈endS zs N,x.length < 18∧∀ i∈x,0≤i∧i < 4:=fun x hx=>endS_mem hz hx
   have hmem2:∀ x∈(endS zs N).filter (shutB zs),x.length < 18∧∀ i∈x,0≤i∧i < 4:=fun x hx=>hmem x (List.mem_filter.mp hx).1
   have hFl:((endS zs N).filter (shutB zs)).length≤1900:=Nat.le_trans (List.length_filter_le _ _) hEl
   have ce1:=fun s=>c.ends1 zs N s hz hN
   have cs1:=fun s=>c.shut1 zs N s hz hN
   generalize hE:endS zs N=E at *
   generalize hF:E.filter (shutB zs)=F at *
   show (exSs Φ T.gl [some (.scr ns),some (.int k),some (.ref s'.length),some (tpI zs),some (.lst (tps E)),some (.lst (tps F)),o6,o7,o8] _ s2).post _
   refine p_scons.mpr (p_forE (fun rest2 e s'=>∃ o1 o2 o6 o7 o8,e=[some (.scr ns),o1,o2,some (tpI zs),some (.lst (tps E)),some (.lst (tps F)),o6,o7,o8]) (rngV 0 2) (s1:=s2) (two _ _) ⟨_,_,_,_,_,rfl⟩ ?_ ?_)
   . rintro y rest2 e s3 ⟨o1,o2,o6,o7,o8,rfl⟩
     refine ⟨_,rfl,?_⟩
     refine p_scons.mpr (p_par.mpr (p_consX (x_call (xs_cons (x_var rfl) xs_nil) (ce1 s3)) (p_consX (x_call (xs_cons (x_var rfl) xs_nil) (cs1 _)) (p_nil.mpr (par_end rfl ?_)))))
     have g1:((s3++[.lst (tps (endsL zs N)),.lst (tps E)])++[.lst (tps F)])[s3.length + 1]?=some (Cel.lst (tps E)):=by
       rw [List.append_assoc,List.getElem?_append_right (by omega),show s3.length + 1 - s3.length=1 by omega]; rfl
     have g2:((s3++[.lst (tps (endsL zs N)),.lst (tps E)])++[.lst (tps F)])[(s3++[Cel.lst (tps (endsL zs N)),.lst (tps E)]).length]?=some (Cel.lst (tps F)):=by
       rw [List.getElem?_append_right (Nat.le_refl _),Nat.sub_self]; rfl
     have g12:(s3++[Cel.lst (tps (endsL zs N)),.lst (tps E)]).length≠s3.length + 1:=by rw [List.length_append]; show s3.length + 2≠_; omega
     generalize (s3++[Cel.lst (tps (endsL zs N)),.lst (tps E)]).length=i2 at *
     generalize (s3++[.lst (tps (endsL zs N)),.lst (tps E)])++[.lst (tps F)]=s4 at *
     generalize s3.length + 1=i1 at *
     show (exSs Φ T.gl [some (.scr ns),o1,o2,some (tpI zs),some (.lst (tps E)),some (.lst (tps F)),some y,some (.ref i1),some (.ref i2)] _ s4).post _
     have q6:∀ S:Str,cmpOp .ne (.str S) (.str S) s4=.ok (.bool false) s4:=fun S=>by rw [ne_str,decide_eq_true rfl]; rfl
     have d1:deref s4 (.ref i1)=.lst (tps E):=by simp [deref,deref0,g1]
     have d2:deref s4 (.ref i2)=.lst (tps F):=by simp [deref,deref0,g2]
     refine s_if0 (t_or (t_val (x_cmp (x_blt (xs_cons (x_var rfl) xs_nil) (repr_tpN d1 hEl hmem)) (x_blt (xs_cons (x_var rfl) xs_nil) (repr_tpN rfl hEl hmem)) (q6 _)) tr_bool) (to_cons (t_val (x_cmp (x_blt (xs_cons (x_var rfl) xs_nil) (repr_tpN d2 hFl hmem2)) (x_blt (xs_cons (x_var rfl) xs_nil) (repr_tpN rfl hFl hmem2)) (q6 _)) tr_bool) to_nil)) ?_
     refine s_expr (x_meth (x_var rfl) (xs_cons (x_tup xs_nil (L1 0 (by omega))) xs_nil) (app_at g1 (by rw [List.length_map]; unfold LINE; omega))) ?_
     have g3:(upd s4 i1 (tps E++[.tup []]))[i2]?=some (.lst (tps F)):=by
       unfold upd; rw [List.getElem?_set_ne (fun e=>g12 e.symm)]; exact g2
     refine s_expr (x_meth (x_var rfl) (xs_cons (x_tup xs_nil (L1 0 (by omega))) xs_nil) (app_at g3 (by rw [List.length_map]; unfold LINE; omega))) (s_nil ?_)
     exact ⟨_,_,_,_,_,rfl⟩
   . rintro e s3 ⟨o1,o2,o6,o7,o8,rfl⟩
     exact s_nil ⟨⟨_,_,_,_,_,_,_,_,rfl⟩,hr'⟩
 . rintro e s' ⟨⟨o1,o2,o3,o4,o5,o6,o7,o8,rfl⟩,hr⟩
   have m22:SmallZ [2,2]:=small_of (by decide)
   have m3:SmallZ [3]:=small_of (by decide)
   have n22:∀ m,m < 3→levs [2,2] [[]] m≠[]:=by decide +kernel
   have n3:∀ m,m < 3→levs [3] [[]] m≠[]:=by decide +kernel
   have f22:Far [2,2] 3:=⟨by decide +kernel,n22,by decide,by decide⟩
   have f3:Far [3] 3:=⟨by decide +kernel,n3,by decide,by decide⟩
   have b1:=c.ends0 [2,2] 3 s' m22 f22
   have b2:=c.shut0 [3] 3 s' m3 f3
   rw [show endS [2,2] 3=[[0,1],[1,0]] by decide +kernel] at b1
   rw [show (endS [3] 3).filter (shutB [3])=[[0,0]] by decide +kernel] at b2
   refine s_ret (v:=.bool true) (x_and (x_cmp (x_call (xs_cons (x_tup (xs_cons x_lit (xs_cons x_lit xs_nil)) (L1 2 (by omega))) xs_nil) b1) (x_lst (xs_cons (x_tup (xs_cons x_lit (xs_cons x_lit xs_nil)) (L1 2 (by omega))) (xs_cons (x_tup (xs_cons x_lit (xs_cons x_lit xs_nil)) (L1 2 (by omega))) xs_nil)) (L1 2 (by omega))) rfl) (x_cmp (x_call (xs_cons (x_tup (xs_cons x_lit xs_nil) (L1 1 (by omega))) xs_nil) b2) (x_lst (xs_cons (x_tup (xs_cons x_lit (xs_cons x_lit xs_nil)) (L1 2 (by omega))) xs_nil) (L1 1 (by omega))) rfl)) ?_
   show (leaveK false [] _ _).post _
   rw [leave_top nr_bool]
   exact post_ok.mpr rfl
end
theorem cs:At T 8 Cs:=fun n hn=>by
 obtain ⟨n,rfl⟩:∃ m,n=m + 8:=⟨n - 8,by omega⟩
 have g:Gl4 T:=⟨rfl,rfl,rfl,rfl⟩
 have whole:∀ m,CWhole (callN T (m + 1)):=fun m v l k s h=>by rw [callN_up (F:=F.F_is_whole) rfl]; exact run_whole h
 have wholes:∀ m,CWholes (callN T (m + 2)):=fun m vs l k s h=>by rw [callN_up (F:=F.F_are_wholes) rfl]; exact run_wholes (whole m) h
 have areSizes:∀ m,CAreSizes (callN T (m + 3)):=fun m zs s h=>by rw [callN_up (F:=F.F_are_sizes) rfl]; exact run_areSizes4 g (wholes m) h
 have needSizes:∀ m,CNeedSizes (callN T (m + 4)):=fun m zs s h=>by rw [callN_up (F:=F.F_need_sizes) rfl]; exact run_needSizes (areSizes m) h
 have prod:∀ m,CProd (callN T (m + 1)):=fun m zs s h=>by rw [callN_up (F:=F12.F_product_of) rfl]; exact run_prod h
 have needSmall:∀ m,CNeedSmall (callN T (m + 5)):=fun m zs s h=>by rw [callN_up (F:=F12.F_need_small_sizes) rfl]; exact run_needSmall rfl (needSizes m) (prod (m + 3)) h
 have may:∀ m,CMay (callN T (m + 1)):=fun m zs ns h s h1 h2 h3=>by rw [callN_up (F:=F.F_may_follow) rfl]; exact run_may h1 h2 h3
 have grown0:∀ m,CGrown0 (callN T (m + 2)):=fun m zs L s h1 h2 h3=>by rw [callN_up (F:=F12.F_grown) rfl]; exact run_grown0 (may m) h1 h2 h3
 have foll:∀ m,CFoll (callN T (m + 2)):=fun m zs ns s h1 h2=>by rw [callN_up (F:=F.F_followers) rfl]; exact run_foll g (may m) h1 h2
 have lead:∀ m,CLead (callN T (m + 3)):=fun m zs ns s h1 h2=>by rw [callN_up (F:=F.F_leaders) rfl]; exact run_lead (foll m) h1 h2
 have ends0:∀ m,CEnds0 (callN T (m + 6)):=fun m zs N s h1 h2=>by rw [callN_up (F:=F_ends) rfl]; exact run_ends0 (needSmall m) (grown0 (m + 3)) (foll (m + 3)) h1 h2
 have ends1:∀ m,CEnds1 (callN T (m + 6)):=fun m zs N s h1 h2=>by rw [callN_up (F:=F_ends_1) rfl]; exact run_ends1 (needSmall m) (grown0 (m + 3)) (foll (m + 3)) h1 h2
 have shut0:∀ m,CShut0 (callN T (m + 7)):=fun m zs N s h1 h2=>by rw [callN_up (F:=F_shut_ends) rfl]; exact run_shut0 (ends0 m) (lead (m + 3)) h1 h2
 have shut1:∀ m,CShut1 (callN T (m + 7)):=fun m zs N s h1 h2=>by rw [callN_up (F:=F_shut_ends_1) rfl]; exact run_shut1 (ends0 m) (lead (m + 3)) h1 h2
 have cell:∀ m,CCell (callN T (m + 1)):=fun m ns k s=>by
   obtain ⟨c,h⟩:=run_cell (T:=T) (Φ:=callN T m) (s:=s) ns k
   exact ⟨c,by rw [callN_up (F:=F.F__law_cell_at) rfl]; exact h⟩
 have pen:∀ m,CPen (callN T (m + 1)):=fun m c s=>by
   obtain ⟨a,b,h,h2⟩:=run_pen (T:=T) (Φ:=callN T m) (s:=s) c
   exact ⟨a,b,by rw [callN_up (F:=F.F__law_pen_1) rfl]; exact h,h2⟩
 have draw:∀ m,CDraw (callN T (m + 1)):=fun m p k s h1 h2 h3=>by rw [callN_up (F:=F.F__law_draw) rfl]; exact run_draw h1 h2 h3
 have small:∀ m,CSmall (callN T (m + 2)):=fun m p s h=>by rw [callN_up (F:=F12.F__law_small) rfl]; exact run_small (draw m) h
 have endT:∀ m,CEndT (callN T (m + 1)):=fun m zs fs h s h1 h2 h3=>by rw [callN_up (F:=F12.F__law_ended) rfl]; exact run_endT12 h1 h2 h3
 have all:∀ m,CAll (callN T (m + 2)):=fun m zs N s h1 h2=>by rw [callN_up (F:=F__law_all) rfl]; exact run_all (endT m) h1 h2
 have stopped:∀ m,CStopped (callN T (m + 2)):=fun m zs x s h1 h2=>by rw [callN_up (F:=F__law_stopped) rfl]; exact run_stopped (endT m) h1 h2
 exact ⟨cell (n + 7),pen (n + 7),small (n + 6),all (n + 6),stopped (n + 6),ends0 (n + 2),ends1 (n + 2),shut0 (n + 1),shut1 (n + 1)⟩
theorem law_ok (ns:List Int):∃ s',callN T 9 "law" 0 [.scr ns] []=.ok (.bool true) s':=by
 obtain ⟨v,s',h,rfl⟩:=law_post (cs 8 (by omega)) ns
 exact ⟨s',by rw [callN_up (F:=F_law) rfl]; exact h⟩
end P43
end
section
open PySem PySem.W PyProof.Rows
theorem P43.hx:P43.F_law.ps=[("_law_script":Str)]:=by kernel_rfl
theorem P43.hF:(M.tbl P43.fnL P43.glL).fn P43.dd.name 0=some P43.F_law:=by kernel_rfl
theorem P43.hgl:P43.glL=P43.gl.map fun p=>(p.1,M.gv p.2):=by kernel_rfl
theorem PySem.Challenge.cw_evenhues_k43_ends_holds : PySem.Challenge.rw_evenhues_k43_ends.Holds := by
 exact M.close (n:=9) P43.said P43.left P43.hgl P43.hdef P43.hp P43.hk P43.hwr P43.ok P43.bare P43.hw (by kernel_rfl) P43.hdf ⟨rfl,by decide,by decide,rfl⟩ P43.hF P43.hx P43.tab_ok (fun ns _=>P43.law_ok ns)
end
