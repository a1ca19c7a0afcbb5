import PyProof.Rows.All
import Wide.All
import OpenK.AllK
import Wide.FinOn
import Lean
import PyProof.EqAt
import PyProof.EqKinds
import PyProof.TupleCall
import PyProof.P3Eq
import PyProof.NeData
import PyProof.P3In
import PyProof.Rows.EnumRows
import PyProof.ZipIter
import PySem.Challenge.RW_evenhues_k55_whole_lots
set_option genSizeOf false
set_option genSizeOfSpec false
set_option bootstrap.genMatcherCode false
set_option Elab.async false
set_option linter.all false
set_option maxRecDepth 100000
set_option maxHeartbeats 4000000
section
namespace Hd
open PySem
inductive G where
 |int (i:Int)|str (x:Str)|ctup (ns:List Int)
noncomputable def args(s:Stmt):Arguments:=match s with
 |.FunctionDef _ a _ _ _ _ _ _ _ _=>a
 |_=>{posonlyargs:=[],args:=[],vararg:=none,kwonlyargs:=[],kw_defaults:=[],kwarg:=none,defaults:=[]}
noncomputable def body(s:Stmt):List Stmt:=match s with
 |.FunctionDef _ _ b _ _ _ _ _ _ _=>b
 |_=>[]
noncomputable def scope(s:Stmt):Scope:=match s with
 |.FunctionDef _ _ _ _ _ _ sc _ _ _=>sc
 |_=>{kind:=.function,names:=[],isGenerator:=false,isCoroutine:=false}
noncomputable def posOf(s:Stmt):Pos:=match s with
 |.FunctionDef _ _ _ _ _ _ _ _ _ p=>p
 |_=>⟨0,0,0,0⟩
noncomputable def Zi(x:Str)(st:Stmt):DefRec:=⟨x,args st,body st,scope st,posOf st⟩
noncomputable def Vy:List Str:=["len","all","any","tuple","list","sorted","repr","max","min","sum","int","isinstance","divmod","str","bool","dict","set","range","enumerate","zip"]
noncomputable def nR:List Value→Option (List Int)
 |[]=>some []
 |.int i _::r=>(nR r).map (i::·)
 |_=>none
noncomputable def nsH(h:Heap)(x:Str):Option (Option Value):=match h.get? mainGlobals with
 |some o=>PySem.W.nsIn [(mainGlobals,o)] mainGlobals x
 |none=>none
noncomputable def X9(fd:FuncData):FuncData:={fd with kwdefaults:=.none,doc:=.none,pyModule:=.none,annotations:=none,code:=.none,closureTuple:=.none}
noncomputable def gY(h:Heap)(cd:Value)(x:Str):Bool:=match cd with
 |.ref c=>(match h.get? c with
  |some o=>PySem.W.codeIn [(c,o)] (.ref c) x
  |none=>false)
 |_=>false
noncomputable def bW(h:Heap)(x:Str):Option FuncData:=match nsH h x with
 |some (some (.ref f))=>(match h.get? f with
  |some ⟨_,_,.func fd,_⟩=>if gY h fd.code x then some (X9 fd) else none
  |_=>none)
 |_=>none
noncomputable def ai(p:Str × Stmt):Option FuncData:=some (PySem.W.fnOf p.1 p.1 (args p.2) (body p.2) (scope p.2) .none .none .none .none none .none .none)
noncomputable def glB(h:Heap)(x:Str):G→Bool
 |.int i=>(match nsH h x with|some (some (.int j _))=>decide (i=j)|_=>false)
 |.str y=>(match nsH h x with|some (some (.str z _))=>decide (y=z)|_=>false)
 |.ctup ns=>(match nsH h x with
  |some (some (.ref a))=>(match h.get? a with
   |some ⟨.type n,_,.seq us _,_⟩=>decide (n="tuple")&&decide (us.toList.length≤1000)&&decide (nR us.toList=some ns)
   |_=>false)
  |_=>false)
noncomputable def blB(h:Heap)(x:Str):Bool:=match nsH h x with|some none=>true|_=>false
noncomputable def Yk(D:List (Str × Stmt))(gl:List (Str × G))(s:Shared):List (Option FuncData) × Bool:=(D.map fun p=>bW s.heap p.1,gl.all (fun p=>glB s.heap p.1 p.2)&&Vy.all fun x=>blB s.heap x)
noncomputable def Xs(D:List (Str × Stmt)):List (Option FuncData) × Bool:=(D.map ai,true)
end Hd
end
section
set_option maxHeartbeats 0
open PySem PySem.W PyProof.Rows
namespace P55
noncomputable def top(i:Nat):Stmt:=PySem.Challenge.pw_evenhues_k55_whole_lots.main.body.getD i (.Pass ⟨0,0,0,0⟩)
noncomputable def D:List (Str × Stmt):=(("is_whole":Str),top 10)::(("are_wholes":Str),top 11)::(("need_whole":Str),top 12)::(("need_size":Str),top 13)::(("need_length":Str),top 14)::(("need_first":Str),top 15)::(("need_step":Str),top 16)::(("places_of":Str),top 18)::(("most_step":Str),top 19)::(("rows_in":Str),top 20)::(("is_rising":Str),top 22)::(("is_lot":Str),top 23)::(("need_lot":Str),top 24)::(("first_full":Str),top 25)::(("is_bare":Str),top 26)::(("hits":Str),top 27)::(("need_early_size":Str),top 30)::(("need_lot_place":Str),top 31)::(("ends_row":Str),top 32)::(("early":Str),top 33)::(("is_early":Str),top 34)::(("need_short_length":Str),top 37)::(("bare_lots":Str),top 38)::(("all_most":Str),top 39)::(("first_most":Str),top 40)::(("most":Str),top 41)::(("places_left":Str),top 42)::(("first_hit":Str),top 43)::(("fewest_hits":Str),top 44)::(("_law_cell_at":Str),top 46)::(("_law_pen":Str),top 47)::(("_law_draw":Str),top 48)::(("_law_lot":Str),top 49)::(("law":Str),top 50)::[]
noncomputable def gl:List (Str × Hd.G):=[("MOST_PLACES",.int 40),("LEAST_SIZE",.int 2),("MOST_SIZE",.int 8),("LEAST_EARLY_SIZE",.int 3),("MOST_LENGTH",.int 12)]
noncomputable def q:Program:={PySem.Challenge.pw_evenhues_k55_whole_lots with main:={PySem.Challenge.pw_evenhues_k55_whole_lots.main with body:=[1,2,3,4,5,7,8,9,10,11,12,13,14,15,16,18,19,20,22,23,24,25,26,27,29,30,31,32,33,34,36,37,38,39,40,41,42,43,44,46,47,48,49,50].map top}}
noncomputable def dd:DefRec:=Hd.Zi "law" (top 50)
theorem left:PySem.W.LeftO PySem.Challenge.rw_evenhues_k55_whole_lots.row.prog q [] (fun s=>PySem.W.recOk PySem.Challenge.rw_evenhues_k55_whole_lots.row.records s) (Hd.Yk D gl) (fun _=>Hd.Xs D) 100000:=by
 intro w
 kernel_rfl
theorem Xa:PySem.Challenge.rw_evenhues_k55_whole_lots.wellSaid=true:=by kernel_rfl
theorem Zs:PySem.W.defOf q PySem.Challenge.rw_evenhues_k55_whole_lots.row.name=some (dd,[]):=by kernel_rfl
theorem hp:PySem.Challenge.rw_evenhues_k55_whole_lots.row.prog.theDef PySem.Challenge.rw_evenhues_k55_whole_lots.row.name=some (dd.params,dd.body,dd.scope):=by kernel_rfl
theorem hk:PySem.W.kwWritten? dd.params.kwonlyargs dd.params.kw_defaults=some []:=by kernel_rfl
theorem hwr:(!PySem.Challenge.rw_evenhues_k55_whole_lots.row.writes||PySem.Challenge.rw_evenhues_k55_whole_lots.row.records.isEmpty)=true:=by kernel_rfl
theorem ok:(PySem.W.chainsOk q&&PySem.W.opensWell PySem.Challenge.rw_evenhues_k55_whole_lots.row.prog&&(PySem.W.frees PySem.Challenge.rw_evenhues_k55_whole_lots.row.toRowW&&PySem.Challenge.rw_evenhues_k55_whole_lots.row.within.isEmpty))=true:=by kernel_rfl
theorem hdf:dd.params.defaults=[]:=by kernel_rfl
theorem bare:PySem.Challenge.rw_evenhues_k55_whole_lots.row.prog.bare:=⟨rfl,rfl,rfl,rfl,rfl,by decide +kernel⟩
theorem hw:PySem.Challenge.rw_evenhues_k55_whole_lots.row.toRowW.promised:=by w_witness2
end P55
end
section
namespace L2
open PySem PySem.Spec PyProof.Rows
noncomputable abbrev Key:=Sum Int Str
noncomputable def pI:Key→Value→Bool
 |.inl k,v=>Value.isInt k v
 |.inr x,v=>Value.isStrOf x v
noncomputable def V3(w:World):Key→Int
 |.inl k=>hashInt k
 |.inr x=>hashStr w x
theorem yU:∀{k:Key} {v:Value},pI k v=true→(∃i t,k=Sum.inl i∧v=Value.int i t)∨(∃x t,k=Sum.inr x∧v=Value.str x t)
 |.inl i,v,h=>by
  obtain⟨t,e⟩:=Value.isInt_shape (k:=i) (v:=v) h
  exact .inl ⟨i,t,rfl,e⟩
 |.inr x,v,h=>by
  obtain⟨t,e⟩:=Value.isStrOf_shape (x:=x) (v:=v) h
  exact .inr ⟨x,t,rfl,e⟩
theorem iM(i:Int)(t:Tok):pI (.inl i) (.int i t)=true:=by simp[pI,Value.isInt]
theorem iN(x:Str)(t:Tok):pI (.inr x) (.str x t)=true:=by simp[pI,Value.isStrOf]
theorem Ya(a b:Int):decide ((Sum.inl a:Key)=Sum.inl b)=(a == b):=by
 by_cases e:a=b
 . subst e;simp
 . have h:¬(Sum.inl a:Key)=Sum.inl b:=fun q=>e (Sum.inl.inj q)
   rw[decide_eq_false h]
   exact(beq_eq_false_iff_ne.mpr e).symm
theorem Yd(a b:Str):decide ((Sum.inr a:Key)=Sum.inr b)=decide (a=b):=by
 by_cases e:a=b
 . subst e;simp
 . have h:¬(Sum.inr a:Key)=Sum.inr b:=fun q=>e (Sum.inr.inj q)
   rw[decide_eq_false h,decide_eq_false e]
theorem Yb(a:Int)(b:Str):decide ((Sum.inl a:Key)=Sum.inr b)=false:=decide_eq_false (fun q=>nomatch q)
theorem Yc(a:Str)(b:Int):decide ((Sum.inr a:Key)=Sum.inl b)=false:=decide_eq_false (fun q=>nomatch q)
noncomputable def yr(prog:Program)(w:World):PySem.KeyKind prog w Key where
 is:=pI
 hash:=V3 w
 inj:=fun v a b ha hb=>by
  rcases yU ha with⟨i,t,rfl,rfl⟩|⟨x,t,rfl,rfl⟩
  . rcases yU hb with⟨j,u,rfl,e⟩|⟨y,u,rfl,e⟩
    . injection e with e1 _;rw[e1]
    . exact nomatch e
  . rcases yU hb with⟨j,u,rfl,e⟩|⟨y,u,rfl,e⟩
    . exact nomatch e
    . injection e with e1 _;rw[e1]
 byValue:=fun k v h=>by
  rcases yU h with⟨i,t,rfl,rfl⟩|⟨x,t,rfl,rfl⟩<;>rfl
 pyHash:=fun hv h=>by
  rcases yU hv with⟨i,t,rfl,rfl⟩|⟨x,t,rfl,rfl⟩
  . exact wpAny_pyHash_int h
  . exact wpAny_pyHash_str h
 eqBool:=fun hu hv h=>by
  rcases yU hu with⟨i,t,rfl,rfl⟩|⟨x,t,rfl,rfl⟩
  . rcases yU hv with⟨j,u,rfl,rfl⟩|⟨y,u,rfl,rfl⟩
    . rw[Ya]at h;exact wpAny_eqBool_int h
    . rw[Yb]at h;exact SeqAt.EqAt.int_str i t y u _ _ _ _ h
  . rcases yU hv with⟨j,u,rfl,rfl⟩|⟨y,u,rfl,rfl⟩
    . rw[Yc]at h;exact SeqAt.EqAt.str_int x t j u _ _ _ _ h
    . rw[Yd]at h;exact wpAny_eqBool_str h
 «strs»:=fun k x t v h=>by
  rcases yU h with⟨i,u,rfl,e⟩|⟨y,u,rfl,e⟩
  . exact nomatch e
  . injection e with e1 _
    subst e1
    cases v<;>rfl
theorem nk(prog:Program)(w:World)(i:Int)(t:Tok):(yr prog w).is (.inl i) (.int i t)=true:=iM i t
theorem nq(prog:Program)(w:World)(x:Str)(t:Tok):(yr prog w).is (.inr x) (.str x t)=true:=iN x t
end L2
namespace L2
open PySem PySem.Spec PyProof.Rows
inductive V where
 |non|bl (b:Bool)|int (i:Int)|str (x:Str)|byt (b:Array UInt8)|flt (b:UInt64)|ref (a:Addr)|ty (n:String)
 deriving DecidableEq
noncomputable def RelV:V→Value→Prop
 |.non,u=>u=Value.none
 |.bl b,u=>u=Value.bool b
 |.int i,u=>∃t,u=Value.int i t
 |.str x,u=>∃t,u=Value.str x t
 |.byt b,u=>∃t,u=Value.bytes b t
 |.flt b,u=>∃t,u=Value.float b t
 |.ref a,u=>u=Value.ref a
 |.ty n,u=>u=Value.type n
noncomputable abbrev Vals:List V→List Value→Prop:=Paired RelV
theorem Vals.length{xs:List V}{us:List Value}(r:Vals xs us):xs.length=us.length:=Paired.length r
theorem Vals.get:∀{xs:List V} {us:List Value} {i:Nat} {x:V},Vals xs us→xs[i]?=some x→∃u,us[i]?=some u∧RelV x u
 |_,_,_,_,.nil,e=>by simp at e
 |_,_,0,_,.cons r _,e=>by simp at e;subst e;exact⟨_,rfl,r⟩
 |_,_,i+1,x,.cons _ t,e=>by
  obtain⟨u,h1,h2⟩:=Vals.get (i:=i) (x:=x) t (by simpa using e)
  exact⟨u,by simpa using h1,h2⟩
theorem Vals.set{x:V}{u:Value}(r:RelV x u):∀{xs:List V} {us:List Value} (i:Nat),Vals xs us→Vals (xs.set i x) (us.set i u)
 |_,_,_,.nil=>.nil
 |_,_,0,.cons _ t=>.cons r t
 |_,_,i+1,.cons q t=>.cons q (Vals.set r i t)
theorem Vals.append:∀{xs ys:List V} {us ws:List Value},Vals xs us→Vals ys ws→Vals (xs++ys) (us++ws)
 |_,_,_,_,.nil,s=>s
 |_,_,_,_,.cons r t,s=>.cons r (Vals.append t s)
theorem Vals.take:∀{xs:List V} {us:List Value} (n:Nat),Vals xs us→Vals (xs.take n) (us.take n)
 |_,_,0,_=>.nil
 |_,_,_+1,.nil=>.nil
 |_,_,n+1,.cons r t=>.cons r (Vals.take n t)
theorem Vals.drop:∀{xs:List V} {us:List Value} (n:Nat),Vals xs us→Vals (xs.drop n) (us.drop n)
 |_,_,0,r=>r
 |_,_,_+1,.nil=>.nil
 |_,_,n+1,.cons _ t=>Vals.drop n t
theorem Vals.none_of:∀{xs:List V} {us:List Value} {i:Nat},Vals xs us→xs[i]?=none→us[i]?=none:=fun{xs us i} r e=>by
 have h1:=r.length
 have h2:xs.length≤i:=List.getElem?_eq_none_iff.mp e
 exact List.getElem?_eq_none_iff.mpr (by omega)
noncomputable def su:Option V→Option Value→Prop
 |some v,some u=>RelV v u
 |none,none=>True
 |_,_=>False
noncomputable def KV{κ:Type}:List (κ × V)→List (κ × Value)→Prop:=Paired fun(p:κ × V) (q:κ × Value)=>p.1=q.1∧RelV p.2 q.2
noncomputable def kV:Key→V
 |.inl i=>.int i
 |.inr x=>.str x
inductive HO where
 /-- a list -/
 |lst (xs:List V)
 /-- a tuple (never changes) -/
 |tup (xs:List V)
 /-- a dict whose keys are ints and texts;one whose keys are tuples of ints and texts (the empty one is both) -/
 |dK (kvs:List (Key × V))|dT (kvs:List (List Key × V))
 /-- a set of ints: its members,its size -/
 |set (S:Int→Bool) (n:Nat)
 /-- an instance of the class at C,its dict at dx,its attributes -/
 |ins (C dx:Addr) (fs:List (Str × V))
 /-- the dict of the instance at x -/
 |own (x:Addr)
 /-- the dict of an exception -/
 |xd (fs:List (Str × V))
 /-- a bound method,f of x -/
 |met (f x:Addr)
 /-- a range object lo,lo+1,.. below hi -/
 |rng (lo hi:Int)
 /-- a thing that is known to the object (the script;a dict while a loop walks it): read,never written while it is so -/
 |frz (o:Obj) (u:HO)
 /-- a code object's table -/
 |tbl (ps:Array Value)
 /-- any other thing,by what is true of its one object (a def of one's own: SetO a S n:=HO.ext fun h=>..) -/
 |ext (φ:Heap→Prop)
noncomputable abbrev Hp:=Addr→Option HO
def uR(h:Heap)(a:Addr)(items:Array Value):Prop:=∃o,h.get? a=some o∧o.cls=.type "tuple"∧∃n,o.data=.seq items n∧o.dict=none
theorem uR.tup{h:Heap}{a:Addr}{items:Array Value}(x:uR h a items):IsTup h a items:=let ⟨o,e,c,n,d,_⟩:=x;⟨o,e,c,n,d⟩
theorem uR.lt{h:Heap}{a:Addr}{items:Array Value}(x:uR h a items):a<h.objs.size:=let ⟨_,e,_⟩:=x;Heap.lt_size e
theorem uR.new(h:Heap)(items:Array Value):uR (h.push {cls:=.type "tuple",data:=.seq items}) h.objs.size items:=⟨_,Heap.get?_push_size _ rfl,rfl,_,rfl,rfl⟩
noncomputable def upd(H:Hp)(a:Addr)(o:HO):Hp:=fun b=>if b=a then some o else H b
theorem zo{H:Hp}{a:Addr}{o:HO}:upd H a o a=some o:=by unfold upd;rw[if_pos rfl]
theorem zQ{H:Hp}{a b:Addr}{o:HO}(h:b≠a):upd H a o b=H b:=by unfold upd;rw[if_neg h]
theorem z8{H:Hp}{a b:Addr}{o u:HO}(h:H a=some o)(h':H b=some u)(d:o≠u):a≠b:=by
 intro e;subst e;rw[h]at h';exact d (Option.some.inj h')
theorem zi{H:Hp}{a b:Addr}{o:HO}(h:H a=some o)(h':H b=none):a≠b:=by
 intro e;subst e;rw[h]at h';cases h'
section
variable (P:Program)(w:World)
noncomputable def zy(H:Hp)(h:Heap)(a:Addr):HO→Prop
 |.lst xs=>xs.length≤sizeLine∧∃(its:List Value) (n:Nat),Vals xs its∧h.get? a=some {cls:=.type "list",data:=.seq its.toArray n}
 |.tup xs=>xs.length≤sizeLine∧∃its:List Value,Vals xs its∧uR h a its.toArray
 |.dK kvs=>kvs.length≤sizeLine∧(a == sysModules)=false∧∃vs,KV kvs vs∧h.DictOf (yr P w) a vs
 |.dT kvs=>kvs.length≤sizeLine∧(a == sysModules)=false∧∃xs:List (List Key × Addr × Value),
  Paired (fun(p:List Key × V) (q:List Key × Addr × Value)=>p.1=q.1∧H q.2.1=some (.tup (p.1.map kV))∧RelV p.2 q.2.2) kvs xs ∧
  ∃o es ep,h.get? a=some o∧o.ExactDict∧o.data=.dict es ep∧es.toList=xs.map (entryOfKey (tupleKind (yr P w)))∧(xs.map (·.1)).Nodup
 |.set S n=>h.SetOf (intKind P w) a S n
 |.ins C dx fs=>H dx=some (.own a)∧fs.length≤1000∧dx≠a∧h.get? a=some (PySem.W.instObj C dx) ∧
  ∃mA,h.Ns1 dx mA∧(∀f,su (fs.lookup f) (mA f))∧PySem.Within mA (fs.map (·.1))
 |.own _=>∃o,h.get? a=some o
 |.xd fs=>∃mA,h.Ns1 a mA∧∀f,su (fs.lookup f) (mA f)
 |.rng lo hi=>∃t u v,h.get? a=some {cls:=.type "range",data:=.fields #[.int lo t,.int hi u,.int 1 v]}
 |.frz o u=>h.get? a=some o∧zy H h a u
 |.tbl ps=>h.get? a=some {cls:=.none,data:=.fields ps}
 |.met f x=>h.get? a=some (PySem.W.methodObj (.ref f) (.ref x))
 |.ext φ=>φ h∧(∃o,h.get? a=some o)∧∀h1 h2:Heap,φ h1→(∀o,h1.get? a=some o→h2.get? a=some o)→φ h2
def HOk(H:Hp)(h:Heap):Prop:=∀a o,H a=some o→zy P w H h a o
end
section
variable {P:Program}{w:World}{H H':Hp}{h h':Heap}{a:Addr}{o:HO}
theorem zy.lt(x:zy P w H h a o):a<h.objs.size:=by
 cases o with
 |lst xs=>obtain⟨_,_,_,_,e⟩:=x;exact Heap.lt_size e
 |tup xs=>obtain⟨_,_,_,p⟩:=x;exact p.lt
 |dK kvs=>obtain⟨_,_,_,_,o,_,_,e,_⟩:=x;exact Heap.lt_size e
 |dT kvs=>obtain⟨_,_,_,_,o,_,_,e,_⟩:=x;exact Heap.lt_size e
 |set S n=>obtain⟨o,_,_,_,e,_⟩:=x;exact Heap.lt_size e
 |ins C dx fs=>obtain⟨_,_,_,e,_⟩:=x;exact Heap.lt_size e
 |own y=>obtain⟨_,e⟩:=x;exact Heap.lt_size e
 |xd fs=>obtain⟨_,⟨_,_,_,e,_⟩,_⟩:=x;exact Heap.lt_size e
 |rng lo hi=>obtain⟨_,_,_,e⟩:=x;exact Heap.lt_size e
 |frz ob u=>obtain⟨e,_⟩:=x;exact Heap.lt_size e
 |tbl ps=>exact Heap.lt_size (show h.get? a=some _ from x)
 |met f y=>exact Heap.lt_size (show h.get? a=some _ from x)
 |ext φ=>obtain⟨_,⟨_,e⟩,_⟩:=x;exact Heap.lt_size e
theorem Paired.Yh{α β:Type}{F G:α→β→Prop}:∀{l₁:List α} {l₂:List β},Paired F l₁ l₂→(∀a b,F a b→G a b)→Paired G l₁ l₂
 |_,_,.nil,_=>.nil
 |_,_,.cons r t,f=>.cons (f _ _ r) (Paired.Yh t f)
theorem zy.mX(x:zy P w H h a o)(k:∀b u,(b=a∨H b=some (.own a))→h.get? b=some u→h'.get? b=some u)
 (ho:∀b,H b=some (.own a)→H' b=some (.own a)) (ht:∀b xs,H b=some (.tup xs)→H' b=some (.tup xs)):zy P w H' h' a o:=by
 induction o with
 |lst xs=>obtain⟨z,its,n,r,e⟩:=x;exact⟨z,its,n,r,k _ _ (.inl rfl) e⟩
 |tup xs=>obtain⟨z,its,r,ob,e,c⟩:=x;exact⟨z,its,r,ob,k _ _ (.inl rfl) e,c⟩
 |dK kvs=>obtain⟨z,y,vs,r,ob,es,ep,e,c⟩:=x;exact⟨z,y,vs,r,ob,es,ep,k _ _ (.inl rfl) e,c⟩
 |dT kvs=>
  obtain⟨z,y,xs,r,ob,es,ep,e,c⟩:=x
  exact⟨z,y,xs,Paired.Yh r fun p q z=>⟨z.1,ht _ _ z.2.1,z.2.2⟩,ob,es,ep,k _ _ (.inl rfl) e,c⟩
 |set S n=>obtain⟨ob,es,ep,t,e,c⟩:=x;exact⟨ob,es,ep,t,k _ _ (.inl rfl) e,c⟩
 |ins C dx fs=>
  obtain⟨d,z,ne,e,mA,⟨od,es,ep,e2,c⟩,r⟩:=x
  exact⟨ho _ d,z,ne,k _ _ (.inl rfl) e,mA,⟨od,es,ep,k _ _ (.inr d) e2,c⟩,r⟩
 |own y=>obtain⟨ob,e⟩:=x;exact⟨ob,k _ _ (.inl rfl) e⟩
 |xd fs=>obtain⟨mA,⟨od,es,ep,e,c⟩,r⟩:=x;exact⟨mA,⟨od,es,ep,k _ _ (.inl rfl) e,c⟩,r⟩
 |rng lo hi=>obtain⟨t,u,v,e⟩:=x;exact⟨t,u,v,k _ _ (.inl rfl) e⟩
 |frz ob u ih=>obtain⟨e,q⟩:=x;exact⟨k _ _ (.inl rfl) e,ih q⟩
 |tbl ps=>
  have e:h.get? a=some {cls:=.none,data:=.fields ps}:=x
  show h'.get? a=some {cls:=.none,data:=.fields ps}
  exact k a _ (.inl rfl) e
 |met f y=>
  have e:h.get? a=some (PySem.W.methodObj (.ref f) (.ref y)):=x
  show h'.get? a=some (PySem.W.methodObj (.ref f) (.ref y))
  exact k a _ (.inl rfl) e
 |ext φ=>obtain⟨p,⟨o,e⟩,st⟩:=x;exact⟨st _ _ p fun o q=>k _ _ (.inl rfl) q,⟨o,k _ _ (.inl rfl) e⟩,st⟩
theorem HOk.lt(x:HOk P w H h)(e:H a=some o):a<h.objs.size:=(x a o e).lt
theorem HOk.fresh(x:HOk P w H h)(e:h.objs.size≤a):H a=none:=by
 cases q:H a with
 |none=>rfl
 |some u=>exact absurd (Nat.lt_of_lt_of_le (x.lt q) e) (Nat.lt_irrefl _)
theorem HOk.kept(x:HOk P w H h)(k:∀b u,h.get? b=some u→h'.get? b=some u):HOk P w H h':=fun a o e=>
 (x a o e).mX (fun b u _ q=>k b u q) (fun _ q=>q) fun _ _ q=>q
theorem HOk.laid(x:HOk P w H h)(k:∀b u,h.get? b=some u→h'.get? b=some u)(hp:h.objs.size≤a)(new:zy P w (upd H a o) h' a o):HOk P w (upd H a o) h':=fun b u e=>by
 have hn:=x.fresh hp
 by_cases hb:b=a
 . subst hb;rw[zo]at e;cases e;exact new
 . rw[zQ hb]at e
   exact(x b u e).mX (fun c v _ q=>k c v q) (fun c q=>by rw[zQ (zi q hn)];exact q) fun c xs q=>by rw[zQ (zi q hn)];exact q
end
def Rd(H:Hp)(a:Addr)(u:HO):Prop:=H a=some u∨∃o,H a=some (.frz o u)
theorem Rd.ok{P:Program}{w:World}{H:Hp}{h:Heap}{a:Addr}{u:HO}(r:Rd H a u)(x:HOk P w H h):zy P w H h a u:=by
 rcases r with r|⟨o,r⟩
 . exact x a u r
 . obtain⟨_,q⟩:=x a _ r
   exact q
noncomputable def Mut:Option HO→Prop
 |some (.lst _)=>True
 |some (.dK _)=>True
 |some (.dT _)=>True
 |some (.set _ _)=>True
 |some (.ins _ _ _)=>True
 |some (.ext _)=>True
 |_=>False
section
variable {P:Program}{w:World}{H:Hp}{h h':Heap}{x e:Addr}{o':HO}
theorem HOk.write(ok:HOk P w H h)(mu:Mut (H x))(he:e=x∨H e=some (.own x))(k:∀b u,b≠e→h.get? b=some u→h'.get? b=some u)(heo:∃u,h'.get? e=some u)
 (new:zy P w (upd H x o') h' x o'):HOk P w (upd H x o') h':=fun b u q=>by
 have nown:∀c y,H c=some (.own y)→c≠x:=fun c y r z=>by subst z;rw[r]at mu;exact mu
 have ntup:∀c xs,H c=some (.tup xs)→c≠x:=fun c xs r z=>by subst z;rw[r]at mu;exact mu
 by_cases hb:b=x
 . subst hb;rw[zo]at q;cases q;exact new
 . rw[zQ hb]at q
   by_cases hbe:b=e
   . have q':H b=some (.own x):=by
      rcases he with z|z
      . exact absurd (hbe.trans z) hb
      . rw[hbe];exact z
     rw[q]at q';cases q'
     obtain⟨v,hv⟩:=heo
     exact⟨v,by rw[hbe];exact hv⟩
   . refine(ok b u q).mX (fun c v hc r=>k c v ?_ r) (fun c r=>by rw[zQ (nown c b r)];exact r) fun c xs r=>by rw[zQ (ntup c xs r)];exact r
     rcases hc with rfl|hc
     . exact hbe
     . rintro rfl
       rcases he with z|z
       . exact nown c b hc z
       . rw[hc]at z;cases z;exact hb rfl
end
structure Un(fs ex:List Addr)(H H':Hp)(h h':Heap):Prop where
 keep:∀b o,h.get? b=some o→H b=none→b ∉ fs→b ∉ ex→h'.get? b=some o
 slot:∀b o,h.get? b=some o→H b=none→b∈fs→b ∉ ex→∃sl,h'.get? b=some {o with slots:=sl}
 free:∀b o,h.get? b=some o→H b=none→b ∉ ex→H' b=none
 there:∀b o,h.get? b=some o→b ∉ ex→∃o',h'.get? b=some o'
 qM:∀b xs,H b=some (.tup xs)→H' b=some (.tup xs)
 frzs:∀b o u,H b=some (.frz o u)→H' b=some (.frz o u)
 tbls:∀b ps,H b=some (.tbl ps)→∃more,H' b=some (.tbl (ps++more))
section
variable {fs fs' ex ex':List Addr}{H H1 H2:Hp}{h h1 h2 h':Heap}{a x e:Addr}{o:HO}
theorem Un.any(u:Un fs ex H H1 h h1){b:Addr}{ob:Obj}(q:h.get? b=some ob)(n:H b=none)(hx:b ∉ ex):∃sl,h1.get? b=some {ob with slots:=sl}:=by
 by_cases hb:b∈fs
 . exact u.slot b ob q n hb hx
 . exact⟨ob.slots,u.keep b ob q n hb hx⟩
theorem Un.kept(k:∀b u,h.get? b=some u→h'.get? b=some u):Un fs ex H H h h':=
 ⟨fun b ob q _ _ _=>k b ob q,fun b ob q _ _ _=>⟨ob.slots,k b ob q⟩,fun _ _ _ n _=>n,fun b ob q _=>⟨ob,k b ob q⟩,fun _ _ q=>q,fun _ _ _ q=>q,fun _ ps q=>⟨#[],by rw[q];simp⟩⟩
theorem Un.refl:Un fs ex H H h h:=Un.kept fun _ _ q=>q
theorem Un.laid(k:∀b u,h.get? b=some u→h'.get? b=some u)(hp:h.objs.size≤a)(hn:H a=none):Un fs ex H (upd H a o) h h' where
 keep:=fun b u q _ _ _=>k b u q
 slot:=fun b u q _ _ _=>⟨u.slots,k b u q⟩
 free:=fun b u q n _=>by rw[zQ (Nat.ne_of_lt (Nat.lt_of_lt_of_le (Heap.lt_size q) hp))];exact n
 there:=fun b u q _=>⟨u,k b u q⟩
 qM:=fun b xs q=>by rw[zQ (zi q hn)];exact q
 frzs:=fun b u xs q=>by rw[zQ (zi q hn)];exact q
 tbls:=fun b ps q=>⟨#[],by rw[zQ (zi q hn),q];simp⟩
theorem Un.write(mu:Mut (H x))(he:e=x∨H e=some (.own x))(k:∀b u,b≠e→h.get? b=some u→h'.get? b=some u)(heo:∃u,h'.get? e=some u):Un fs ex H (upd H x o) h h':=by
 have hx:∀b,H b=none→b≠x:=fun b n z=>by subst z;rw[n]at mu;exact mu
 have hb:∀b,H b=none→b≠e:=fun b n z=>by
  subst z
  rcases he with r|r
  . exact hx b n r
  . rw[n]at r;cases r
 have hm:∀b u,H b=some u→¬Mut (some u)→b≠x:=fun b u q nm z=>by subst z;rw[q]at mu;exact nm mu
 refine⟨fun b u q n _ _=>k b u (hb b n) q,fun b u q n _ _=>⟨u.slots,k b u (hb b n) q⟩,fun b u q n _=>by rw[zQ (hx b n)];exact n,fun b u q _=>?_,
  fun b xs q=>by rw[zQ (hm b _ q fun z=>z)];exact q,fun b u xs q=>by rw[zQ (hm b _ q fun z=>z)];exact q,fun b ps q=>⟨#[],by rw[zQ (hm b _ q fun z=>z),q];simp⟩⟩
 by_cases hbe:b=e
 . subst hbe;exact heo
 . exact⟨u,k b u hbe q⟩
end
noncomputable def trk(h:Heap)(H:Hp):List Addr:=(List.range h.objs.size).filter fun a=>(H a).isSome
noncomputable def oK(h:Heap)(H:Hp):Heap:=PySem.W.hideAll h (trk h H)
theorem iA(h:Heap)(H:Hp):(oK h H).objs.size=h.objs.size:=PySem.W.hideAll_size _ _
theorem g7{h:Heap}{H:Hp}{b:Addr}{o:Obj}(e:h.get? b=some o)(n:H b=none):(oK h H).get? b=some o:=
 PySem.W.hideAll_get _ e fun hm=>by
  have q:(H b).isSome=true:=(List.mem_filter.mp hm).2
  rw[n]at q;simp at q
theorem bX{h:Heap}{H:Hp}{b:Addr}{o:Obj}(e:(oK h H).get? b=some o):h.get? b=some o∧H b=none:=by
 have e':h.get? b=some o:=PySem.W.of_hideAll (trk h H) e
 refine⟨e',?_⟩
 cases q:H b with
 |none=>rfl
 |some x=>
  have hm:b∈trk h H:=List.mem_filter.mpr ⟨List.mem_range.mpr (Heap.lt_size e'),by simp[q]⟩
  have z:(oK h H).get? b=none:=PySem.W.hideAll_none (trk h H) hm
  rw[z]at e;cases e
end L2
namespace L2
open PySem PySem.Spec PyProof.Rows
structure Mod(K:PySem.W.Frag)(mg:Str→Option Value)(base:Heap):Prop where
 kin:K.In base
 glob:base.Ns mainGlobals mg
 blt:∃mb,base.Ns builtinsNs mb∧∀x:Str,x≠"__name__"→mb x=bootBuiltins x
 nolimit:base.NoLimit
structure Cx where
 prog:Program
 w:World
 K:PySem.W.Frag
 mg:Str→Option Value
 base:Heap
 A:Around
 N:List Str
 s₀:Shared
 H₀:Hp
 env:Env
 outer:List Env
 stack:List Env
 ex:List Addr
 fn:Str→Bool
 calm:Bool
 pn:List (Addr × Obj)
 xe:Value→Shared→Prop
noncomputable def frs(l:List Env):List Addr:=l.filterMap (·.frame)
noncomputable abbrev Cx.fs(X:Cx):List Addr:=frs X.outer
def Vis(sc:Scope)(x:Str):Prop:=sc.names.lookup x=some .local∨sc.names.lookup x=some .cell∨sc.names.lookup x=some .free
def Loc(sc:Scope)(x:Str):Prop:=sc.names.lookup x=some .local∨sc.names.lookup x=some .cell
def Look(env:Env)(h:Heap)(m:Str→Option Value)(x:Str)(u:Value):Prop:=
 (env.kindOf x=some .local∧m x=some u)∨((env.kindOf x=some .cell∨env.kindOf x=some .free)∧∃c,env.cells.lookup x=some c∧h.IsCell c (some u))
structure Cx.Ok(X:Cx):Prop where
 mod:Mod X.K X.mg X.base
 kind:X.env.scope.kind=.function
 glob:X.env.globals=mainGlobals
 blt:X.env.builtins=builtinsNs
 above:X.s₀.heap.objs.size≤X.env.locals
 inj:∀x y c,X.env.cells.lookup x=some c→X.env.cells.lookup y=some c→x=y
 has:∀x,(X.env.kindOf x=some .cell∨X.env.kindOf x=some .free)→∃c,X.env.cells.lookup x=some c
 cab:∀x c,X.fn x=true→X.env.cells.lookup x=some c→X.s₀.heap.objs.size≤c
 hd:X.calm=true→X.A.handled=none
 frames:X.A.frames=some X.stack
 stk:X.stack=X.outer∨(X.stack=X.env::X.outer∧X.env.frame=some X.env.locals)
 exf:∀b∈X.ex,b≠X.env.locals∧∀x c,X.env.cells.lookup x=some c→c≠b
 bs:∀b o,X.base.get? b=some o→X.s₀.heap.get? b=some o∧X.H₀ b=none
 bsz:X.base.objs.size≤X.s₀.heap.objs.size
 noex:∀b o,X.base.get? b=some o→b ∉ X.ex
 exfs:∀b∈X.ex,b ∉ X.fs
 rP:X.s₀.heap.FunFrames X.base X.outer
 frf:∀b∈X.fs,X.H₀ b=none
structure Inv(X:Cx)(pins:List (Addr × Obj))(σ:List (Option V))(H:Hp)(s:Shared):Prop where
 ok:X.Ok
 os:s.os=X.s₀.os
 bare:AllBare s.gens
 base:Un X.fs X.ex X.H₀ H X.s₀.heap s.heap
 loc:∃m,s.heap.Ns X.env.locals m∧∀(i:Nat) (x:Str) (v:V),X.N[i]?=some x→σ[i]?=some (some v)→Vis X.env.scope x→∃u,RelV v u∧Look X.env s.heap m x u
 cell:∀x c,X.env.cells.lookup x=some c→∃v,s.heap.IsCell c v
 free:H X.env.locals=none
 freeC:∀x c,X.env.cells.lookup x=some c→H c=none
 pin:∀p∈X.pn++pins,s.heap.get? p.1=some p.2∧H p.1=none∧p.1≠X.env.locals∧p.1 ∉ X.fs∧∀v,p.2.data≠.cell v
 hok:HOk X.prog X.w H s.heap
 len:σ.length=X.N.length
section
variable {X:Cx}{pins:List (Addr × Obj)}{σ:List (Option V)}{H H':Hp}{s:Shared}{h':Heap}
theorem Cx.Ok.V5(ok:X.Ok){b:Addr}{o:Obj}(e:X.base.get? b=some o):b ∉ X.fs:=fun hb=>by
 have:=(ok.rP.mem hb).1
 rw[e]at this;cases this
theorem Inv.bs(I:Inv X pins σ H s):∀b o,X.base.get? b=some o→s.heap.get? b=some o∧H b=none:=fun b o e=>
 ⟨I.base.keep b o (I.ok.bs b o e).1 (I.ok.bs b o e).2 (I.ok.V5 e) (I.ok.noex b o e),I.base.free b o (I.ok.bs b o e).1 (I.ok.bs b o e).2 (I.ok.noex b o e)⟩
theorem Inv.bk(I:Inv X pins σ H s):∀b o,X.base.get? b=some o→s.heap.get? b=some o:=fun b o e=>(I.bs b o e).1
theorem Inv.mod(I:Inv X pins σ H s):Mod X.K X.mg X.base:=I.ok.mod
theorem Inv.kIn(I:Inv X pins σ H s):X.K.In s.heap:=I.ok.mod.kin.keeps I.bk
theorem Inv.lt(I:Inv X pins σ H s):X.env.locals<s.heap.objs.size:=let ⟨_,hn,_⟩:=I.loc;hn.lt
theorem Inv.sz(I:Inv X pins σ H s):X.s₀.heap.objs.size≤s.heap.objs.size:=Nat.le_trans I.ok.above (Nat.le_of_lt I.lt)
theorem Inv.V6(I:Inv X pins σ H s){a:Addr}(h:s.heap.objs.size≤a):a ∉ X.fs:=fun hb=>by
 obtain⟨_,o,ho,_⟩:=I.ok.rP.mem hb
 exact absurd (Nat.lt_of_lt_of_le (Heap.lt_size ho) (Nat.le_trans I.sz h)) (Nat.lt_irrefl _)
theorem Inv.cne(I:Inv X pins σ H s):∀x c,X.env.cells.lookup x=some c→c≠X.env.locals:=fun x c e z=>by
 obtain⟨v,o,ho,hd⟩:=I.cell x c e
 obtain⟨m,⟨o',es,ep,ho',hd',_⟩,_⟩:=I.loc
 rw[z,ho']at ho;cases ho;rw[hd']at hd;cases hd
theorem Inv.rP(I:Inv X pins σ H s):s.heap.FunFrames X.base X.outer:=by
 have all:∀(l:List Env),(∀b∈frs l,b∈X.fs)→X.s₀.heap.FunFrames X.base l→s.heap.FunFrames X.base l:=by
  intro l
  induction l with
  |nil=>intro _ _;trivial
  |cons env r ih=>
   intro hs hl
   obtain⟨hk,⟨L,o,hf,hn,ho,hd⟩,hr⟩:=hl
   have hL:L∈X.fs:=hs L (by unfold frs;rw[List.filterMap_cons,hf];exact List.mem_cons_self)
   obtain⟨sl,e⟩:=I.base.slot L o ho (I.ok.frf L hL) hL fun z=>I.ok.exfs L z hL
   exact⟨hk,⟨L,_,hf,hn,e,hd⟩,ih (fun b hb=>hs b (by unfold frs;rw[List.filterMap_cons,hf];exact List.mem_cons_of_mem _ hb)) hr⟩
 exact all X.outer (fun _ hb=>hb) I.ok.rP
theorem Inv.stack(I:Inv X pins σ H s):s.heap.FunFrames X.base X.stack:=by
 rcases I.ok.stk with e|⟨e,hf⟩
 . rw[e];exact I.rP
 . rw[e]
   obtain⟨m,hn,_⟩:=I.loc
   refine .cons (by rw[I.ok.kind];decide) hf hn ?_ I.rP
   exact Heap.get?_none_of_le (Nat.le_trans I.ok.bsz I.ok.above)
theorem Inv.kA(I:Inv X pins σ H s):∀b∈frs X.stack,b∈X.env.locals::X.fs:=fun b hb=>by
 rcases I.ok.stk with e|⟨e,hf⟩
 . rw[e]at hb;exact List.mem_cons_of_mem _ hb
 . rw[e]at hb
   unfold frs at hb
   rw[List.filterMap_cons,hf]at hb
   exact hb
theorem Inv.jk(I:Inv X pins σ H s):∀b∈frs X.stack,H b=none:=fun b hb=>by
 rcases List.mem_cons.mp (I.kA b hb) with e|hb
 . rw[e];exact I.free
 . obtain⟨_,o,ho,_⟩:=I.ok.rP.mem hb
   exact I.base.free b o ho (I.ok.frf b hb) fun z=>I.ok.exfs b z hb
theorem Inv.step{g':Array GenState}{t':Nat}{d':Drawn}{ch:List Addr}(I:Inv X pins σ H s)
 (hch:∀b∈ch,(b∈X.ex∨X.s₀.heap.objs.size≤b)∧b≠X.env.locals∧(∀x c,X.env.cells.lookup x=some c→c≠b)∧∀p∈X.pn++pins,p.1≠b)
 (keep:∀b o,b≠X.env.locals→b ∉ X.fs→b ∉ ch→s.heap.get? b=some o→H b=none→h'.get? b=some o)
 (slot:∀b o,b≠X.env.locals→b∈X.fs→b ∉ ch→s.heap.get? b=some o→H b=none→∃sl,h'.get? b=some {o with slots:=sl}) (free:∀b o,b ∉ ch→s.heap.get? b=some o→H b=none→H' b=none)
 (there:∀b o,b ∉ ch→s.heap.get? b=some o→∃o',h'.get? b=some o')
 (qM:∀b xs,H b=some (.tup xs)→H' b=some (.tup xs)) (frzs:∀b o u,H b=some (.frz o u)→H' b=some (.frz o u)) (tbls:∀b ps,H b=some (.tbl ps)→∃more,H' b=some (.tbl (ps++more)))
 (ns:∀m,s.heap.Ns X.env.locals m→h'.Ns X.env.locals m) (hok:HOk X.prog X.w H' h') (hg:AllBare g') :
 Inv X pins σ H' {s with heap:=h',gens:=g',drawn:=d',toks:=t'}:=by
 have neL:∀b o,X.s₀.heap.get? b=some o→b≠X.env.locals:=fun b o e=>Nat.ne_of_lt (Nat.lt_of_lt_of_le (Heap.lt_size e) I.ok.above)
 have neC:∀b o,X.s₀.heap.get? b=some o→b ∉ X.ex→b ∉ ch:=fun b o e hx hb=>by
  rcases (hch b hb).1 with z|z
  . exact hx z
  . exact absurd (Nat.lt_of_lt_of_le (Heap.lt_size e) z) (Nat.lt_irrefl _)
 have cellK:∀x c,X.env.cells.lookup x=some c→∀v,s.heap.IsCell c v→h'.IsCell c v:=fun x c e v ⟨o,ho,hd⟩=>by
  have nch:c ∉ ch:=fun z=>(hch c z).2.2.1 x c e rfl
  by_cases hc:c∈X.fs
  . obtain⟨sl,q⟩:=slot c o (I.cne x c e) hc nch ho (I.freeC x c e)
    exact⟨_,q,hd⟩
  . exact⟨o,keep c o (I.cne x c e) hc nch ho (I.freeC x c e),hd⟩
 refine⟨I.ok,I.os,hg,⟨fun b o e n hb hx=>?_,fun b o e n hb hx=>?_,fun b o e n hx=>?_,fun b o e hx=>?_,fun b xs e=>qM b xs (I.base.qM b xs e),fun b o xs e=>frzs b o xs (I.base.frzs b o xs e),fun b ps e=>?_⟩,?_,fun x c e=>?_,?_,fun x c e=>?_,fun p hp=>?_,hok,I.len⟩
 . exact keep b o (neL b o e) hb (neC b o e hx) (I.base.keep b o e n hb hx) (I.base.free b o e n hx)
 . obtain⟨sl,e1⟩:=I.base.slot b o e n hb hx
   obtain⟨sl',e2⟩:=slot b _ (neL b o e) hb (neC b o e hx) e1 (I.base.free b o e n hx)
   exact⟨sl',e2⟩
 . obtain⟨o',e1⟩:=I.base.there b o e hx
   exact free b o' (neC b o e hx) e1 (I.base.free b o e n hx)
 . obtain⟨o',e1⟩:=I.base.there b o e hx
   exact there b o' (neC b o e hx) e1
 . obtain⟨m1,e1⟩:=I.base.tbls b ps e
   obtain⟨m2,e2⟩:=tbls b _ e1
   exact⟨m1++m2,by rw[e2,Array.append_assoc]⟩
 . obtain⟨m,hn,hl⟩:=I.loc
   refine⟨m,ns m hn,fun i x v e1 e2 e3=>?_⟩
   obtain⟨u,r,l⟩:=hl i x v e1 e2 e3
   refine⟨u,r,?_⟩
   rcases l with l|⟨k,c,e,z⟩
   . exact .inl l
   . exact .inr ⟨k,c,e,cellK x c e _ z⟩
 . obtain⟨v,z⟩:=I.cell x c e
   exact⟨v,cellK x c e v z⟩
 . obtain⟨m,⟨o,_,_,ho,_⟩,_⟩:=I.loc
   exact free _ o (fun z=>(hch _ z).2.1 rfl) ho I.free
 . obtain⟨v,o,ho,hd⟩:=I.cell x c e
   exact free c o (fun z=>(hch c z).2.2.1 x c e rfl) ho (I.freeC x c e)
 . obtain⟨e,n,ne,nf,d⟩:=I.pin p hp
   have nch:p.1 ∉ ch:=fun z=>(hch p.1 z).2.2.2 p hp rfl
   exact⟨keep p.1 p.2 ne nf nch e n,free p.1 p.2 nch e n,ne,nf,d⟩
theorem Inv.un{t':Nat}(I:Inv X pins σ H s)(u:Un X.fs [] H H' s.heap h')(hok:HOk X.prog X.w H' h'):Inv X pins σ H' {s with heap:=h',toks:=t'}:=by
 obtain⟨m,⟨o,es,ep,ho,r⟩,_⟩:=id I.loc
 obtain⟨sl,hL⟩:=u.any ho I.free (by simp)
 exact I.step (g':=s.gens) (d':=s.drawn) (ch:=[]) (fun _ z=>nomatch z) (fun b o _ hb _ e n=>u.keep b o e n hb (by simp)) (fun b o _ hb _ e n=>u.slot b o e n hb (by simp)) (fun b o _ e n=>u.free b o e n (by simp)) (fun b o _ e=>u.there b o e (by simp)) u.qM u.frzs u.tbls (fun m' hm=>by
  obtain⟨o',es',ep',ho',r'⟩:=hm
  rw[ho]at ho';cases ho'
  exact⟨_,es',ep',hL,r'⟩) hok I.bare
theorem Inv.call{g':Array GenState}{t':Nat}{d':Drawn}{ch:List Addr}(I:Inv X pins σ H s)(u:Un (frs X.stack) ch H H' s.heap h')(hok:HOk X.prog X.w H' h')(hg:AllBare g')
 (hch:∀b∈ch,(b∈X.ex∨X.s₀.heap.objs.size≤b)∧b≠X.env.locals∧(∀x c,X.env.cells.lookup x=some c→c≠b)∧∀p∈X.pn++pins,p.1≠b) :
 Inv X pins σ H' {s with heap:=h',gens:=g',drawn:=d',toks:=t'}:=by
 obtain⟨m,⟨o,es,ep,ho,r⟩,_⟩:=id I.loc
 obtain⟨sl,hL⟩:=u.any ho I.free fun z=>(hch _ z).2.1 rfl
 exact I.step (ch:=ch) hch (fun b o hL hb hc e n=>u.keep b o e n (fun z=>(List.mem_cons.mp (I.kA b z)).elim hL hb) hc) (fun b o _ _ hc e n=>u.any e n hc) (fun b o hc e n=>u.free b o e n hc) (fun b o hc e=>u.there b o e hc) u.qM u.frzs u.tbls (fun m' hm=>by
  obtain⟨o',es',ep',ho',r'⟩:=hm
  rw[ho]at ho';cases ho'
  exact⟨_,es',ep',hL,r'⟩) hok hg
theorem Inv.turned{t':Nat}{it:Addr}(I:Inv X pins σ H s)(k:∀b o,b≠it→s.heap.get? b=some o→h'.get? b=some o)(hn:H it=none)(hL:it≠X.env.locals)
 (h1:it∈X.ex∨X.s₀.heap.objs.size≤it) (h2:∀x c,X.env.cells.lookup x=some c→c≠it) (h3:∀p∈X.pn++pins,p.1≠it):Inv X pins σ H {s with heap:=h',toks:=t'}:=by
 have nit:∀b u,H b=some u→b≠it:=fun b u e z=>by rw[z,hn]at e;cases e
 refine I.step (g':=s.gens) (d':=s.drawn) (ch:=[it]) (fun b hb=>?_) (fun b o _ _ hc e _=>k b o (fun z=>hc (by simp[z])) e) (fun b o _ _ hc e _=>⟨o.slots,k b o (fun z=>hc (by simp[z])) e⟩) (fun _ _ _ _ n=>n)
  (fun b o hc e=>⟨o,k b o (fun z=>hc (by simp[z])) e⟩) (fun _ _ e=>e) (fun _ _ _ e=>e) (fun b ps e=>⟨#[],by rw[e];simp⟩) (fun m hm=>?_) (fun b u e=>?_) I.bare
 . have e:b=it:=by simpa using hb
   subst e
   exact⟨h1,hL,h2,h3⟩
 . obtain⟨o,es,ep,ho,r⟩:=hm
   exact⟨o,es,ep,k _ o (Ne.symm hL) ho,r⟩
 . refine(I.hok b u e).mX (fun c v hc q=>k c v ?_ q) (fun _ q=>q) fun _ _ q=>q
   rcases hc with z|z
   . rw[z];exact nit b u e
   . exact nit c _ z
theorem Inv.tok(I:Inv X pins σ H s)(t:Nat):Inv X pins σ H {s with toks:=t}:=I.un (h':=s.heap) (t':=t) Un.refl I.hok
theorem Inv.kept{t':Nat}(I:Inv X pins σ H s)(k:∀b u,s.heap.get? b=some u→h'.get? b=some u):Inv X pins σ H {s with heap:=h',toks:=t'}:=I.un (Un.kept k) (I.hok.kept k)
theorem Inv.laid{a:Addr}{o:HO}{t':Nat}(I:Inv X pins σ H s)(k:∀b u,s.heap.get? b=some u→h'.get? b=some u)(hp:s.heap.objs.size≤a)(new:zy X.prog X.w (upd H a o) h' a o) :
 Inv X pins σ (upd H a o) {s with heap:=h',toks:=t'}:=I.un (Un.laid k hp (I.hok.fresh hp)) (I.hok.laid k hp new)
theorem Inv.write{x e:Addr}{o:HO}{t':Nat}(I:Inv X pins σ H s)(mu:Mut (H x))(he:e=x∨H e=some (.own x))(k:∀b u,b≠e→s.heap.get? b=some u→h'.get? b=some u)(heo:∃u,h'.get? e=some u)
 (new:zy X.prog X.w (upd H x o) h' x o):Inv X pins σ (upd H x o) {s with heap:=h',toks:=t'}:=I.un (Un.write mu he k heo) (I.hok.write mu he k heo new)
theorem Inv.jd{pins':List (Addr × Obj)}(I:Inv X pins σ H s)(h:∀p∈pins',s.heap.get? p.1=some p.2∧H p.1=none∧p.1≠X.env.locals∧p.1 ∉ X.fs∧∀v,p.2.data≠.cell v):Inv X pins' σ H s:=
 ⟨I.ok,I.os,I.bare,I.base,I.loc,I.cell,I.free,I.freeC,fun p hp=>(List.mem_append.mp hp).elim (fun z=>I.pin p (List.mem_append_left _ z)) (h p),I.hok,I.len⟩
theorem nu{N:List Str}(hN:N.Nodup){i j:Nat}{x:Str}(a:N[i]?=some x)(b:N[j]?=some x):i=j:=by
 obtain⟨h1,e1⟩:=List.getElem?_eq_some_iff.mp a
 obtain⟨h2,e2⟩:=List.getElem?_eq_some_iff.mp b
 exact(List.getElem_inj hN).mp (e1.trans e2.symm)
theorem pj{M:Model}{A:Around}{E:Value→Shared→Prop}{i:Nat}{x:Str}{v:V}{u:Value}{Q:Unit→Shared→Prop}(I:Inv X pins σ H s)(hN:X.N.Nodup)(hi:X.N[i]?=some x)(hx:Loc X.env.scope x)(r:RelV v u)
 (h:∀s',Inv X pins (σ.set i (some v)) H s'→(∃a,Heap.SameBut a s.heap s'.heap∧(a=X.env.locals∨X.env.cells.lookup x=some a))→Q () s') (hf:X.fn x=true∨X.env.scope.names.lookup x=some .local:=by first|exact .inl rfl|exact .inr rfl|assumption):wpAny M A (storeName X.env x u) Q E s:=by
 obtain⟨m,hn,hl⟩:=id I.loc
 have hcls:(X.env.scope.kind == .class||(X.env.scope.kind == .module&&X.env.locals != X.env.globals))=false:=by rw[I.ok.kind];rfl
 have hiσ:i<σ.length:=by rw[I.len];exact(List.getElem?_eq_some_iff.mp hi).1
 have cne:=I.cne
 have tracked:∀{a:Addr} {h':Heap},(∃o,s.heap.get? a=some o∧H a=none)→Heap.SameBut a s.heap h'→HOk X.prog X.w H h':=fun{a h'} ha hs b ob e=>by
  obtain⟨_,_,hfree⟩:=ha
  refine(I.hok b ob e).mX (fun c w' hc q=>(hs.2 c ?_).trans q) (fun _ q=>q) fun _ _ q=>q
  rintro rfl
  rcases hc with rfl|hc
  . rw[hfree]at e;cases e
  . rw[hfree]at hc;cases hc
 rcases hx with hk|hk
 . refine wpAny_storeName_local hk hn (fun h' hn' hs=>?_) hcls
   obtain⟨oL,_,_,hoL,_⟩:=id hn
   refine h _ ⟨I.ok,I.os,I.bare,⟨fun b o e n hb hx=>?_,fun b o e n hb hx=>?_,I.base.free,fun b o e hx=>?_,I.base.qM,I.base.frzs,I.base.tbls⟩,⟨_,hn',fun j y v' e1 e2 e3=>?_⟩,fun y c e=>?_,I.free,I.freeC,fun p hp=>?_,tracked ⟨oL,hoL,I.free⟩ hs,by simpa using I.len⟩ ⟨_,hs,.inl rfl⟩
   . exact(hs.2 b (Nat.ne_of_lt (Nat.lt_of_lt_of_le (Heap.lt_size e) I.ok.above))).trans (I.base.keep b o e n hb hx)
   . obtain⟨sl,e1⟩:=I.base.slot b o e n hb hx
     exact⟨sl,(hs.2 b (Nat.ne_of_lt (Nat.lt_of_lt_of_le (Heap.lt_size e) I.ok.above))).trans e1⟩
   . obtain⟨o',e1⟩:=I.base.there b o e hx
     exact⟨o',(hs.2 b (Nat.ne_of_lt (Nat.lt_of_lt_of_le (Heap.lt_size e) I.ok.above))).trans e1⟩
   . by_cases hj:j=i
     . subst hj
       rw[hi]at e1;cases e1
       rw[List.getElem?_set_self hiσ]at e2
       cases e2
       exact⟨u,r,.inl ⟨hk,by simp⟩⟩
     . rw[List.getElem?_set_ne (Ne.symm hj)]at e2
       obtain⟨u',r',q⟩:=hl j y v' e1 e2 e3
       refine⟨u',r',?_⟩
       rcases q with⟨k,e⟩|⟨k,c,e,z⟩
       . refine .inl ⟨k,?_⟩
         have:y≠x:=fun e=>hj (nu hN e1 (e▸hi))
         simp[this,e]
       . exact .inr ⟨k,c,e,z.sameBut hs (cne y c e)⟩
   . obtain⟨w',z⟩:=I.cell y c e
     exact⟨w',z.sameBut hs (cne y c e)⟩
   . obtain⟨e,n,ne,nf,d⟩:=I.pin p hp
     exact⟨(hs.2 p.1 ne).trans e,n,ne,nf,d⟩
 . have hfn:X.fn x=true:=by
    rcases hf with z|z
    . exact z
    . rw[z]at hk;cases hk
   obtain⟨c,hc⟩:=I.ok.has x (.inl hk)
   obtain⟨w',z⟩:=I.cell x c hc
   refine wpAny_storeName_cell I.ok.kind hk hc z (fun h' hc' hs=>?_)
   obtain⟨oc,hoc,hocd⟩:=id z
   refine h {s with heap:=h'} ⟨I.ok,I.os,I.bare,⟨fun b o e n hb hx=>?_,fun b o e n hb hx=>?_,I.base.free,fun b o e hx=>?_,I.base.qM,I.base.frzs,I.base.tbls⟩,⟨m,hn.sameBut hs (Ne.symm (cne x c hc)),fun j y v' e1 e2 e3=>?_⟩,fun y c' e=>?_,I.free,I.freeC,fun p hp=>?_,tracked ⟨oc,hoc,I.freeC x c hc⟩ hs,by simpa using I.len⟩ ⟨c,hs,.inr hc⟩
   . exact(hs.2 b (Nat.ne_of_lt (Nat.lt_of_lt_of_le (Heap.lt_size e) (I.ok.cab x c hfn hc)))).trans (I.base.keep b o e n hb hx)
   . obtain⟨sl,e1⟩:=I.base.slot b o e n hb hx
     exact⟨sl,(hs.2 b (Nat.ne_of_lt (Nat.lt_of_lt_of_le (Heap.lt_size e) (I.ok.cab x c hfn hc)))).trans e1⟩
   . obtain⟨o',e1⟩:=I.base.there b o e hx
     exact⟨o',(hs.2 b (Nat.ne_of_lt (Nat.lt_of_lt_of_le (Heap.lt_size e) (I.ok.cab x c hfn hc)))).trans e1⟩
   . by_cases hj:j=i
     . subst hj
       rw[hi]at e1;cases e1
       rw[List.getElem?_set_self hiσ]at e2
       cases e2
       exact⟨u,r,.inr ⟨.inl hk,c,hc,hc'⟩⟩
     . rw[List.getElem?_set_ne (Ne.symm hj)]at e2
       obtain⟨u',r',q⟩:=hl j y v' e1 e2 e3
       refine⟨u',r',?_⟩
       rcases q with q|⟨k,c',e,z'⟩
       . exact .inl q
       . refine .inr ⟨k,c',e,z'.sameBut hs ?_⟩
         rintro rfl
         exact hj (nu hN e1 (I.ok.inj _ _ _ e hc▸hi))
   . by_cases hcc:c'=c
     . subst hcc;exact⟨_,hc'⟩
     . obtain⟨w2,z2⟩:=I.cell y c' e
       exact⟨w2,z2.sameBut hs hcc⟩
   . obtain⟨e,n,ne,nf,d⟩:=I.pin p hp
     refine⟨(hs.2 p.1 ?_).trans e,n,ne,nf,d⟩
     intro q
     rw[q,hoc]at e
     have q':oc=p.2:=Option.some.inj e
     exact d w' (by rw[←q'];exact hocd)
theorem xu{M:Model}{A:Around}{E:Value→Shared→Prop}{i:Nat}{x:Str}{v:V}{u:Value}{Q:Unit→Shared→Prop}(I:Inv X pins σ H s)(hN:X.N.Nodup)(hi:X.N[i]?=some x)(hx:Loc X.env.scope x)(r:RelV v u)
 (h:∀s',Inv X pins (σ.set i (some v)) H s'→Q () s') (hf:X.fn x=true∨X.env.scope.names.lookup x=some .local:=by first|exact .inl rfl|exact .inr rfl|assumption):wpAny M A (storeName X.env x u) Q E s:=
 pj I hN hi hx r (fun s' I' _=>h s' I') hf
theorem Inv.WE{s':Shared}{ch:List Addr}(I:Inv X pins σ H s)(ho:s'.os=s.os)(u:Un (frs X.stack) ch H H' s.heap s'.heap)(hok:HOk X.prog X.w H' s'.heap)(hg:AllBare s'.gens)
 (hch:∀b∈ch,(b∈X.ex∨X.s₀.heap.objs.size≤b)∧b≠X.env.locals∧(∀x c,X.env.cells.lookup x=some c→c≠b)∧∀p∈X.pn++pins,p.1≠b):Inv X pins σ H' s':=by
 obtain⟨h',g',d',t',o'⟩:=s'
 have e:o'=s.os:=ho
 subst e
 exact I.call (g':=g') (t':=t') (d':=d') u hok hg hch
end
noncomputable abbrev XK:=Value→Option Addr→Hp→Prop
noncomputable abbrev St:=List (Option V)
noncomputable abbrev VK:=V→Hp→Prop
noncomputable abbrev TE:=St→Hp→VK→Prop
noncomputable abbrev TT:=St→Hp→(Bool→Hp→Prop)→Prop
noncomputable abbrev TA:=St→Hp→(List V→Hp→Prop)→Prop
structure Ends where
 nx:St→Hp→Prop
 rt:VK
 bk:St→Hp→Prop:=fun _ _=>False
 ct:St→Hp→Prop:=fun _ _=>False
noncomputable abbrev TS:=Ends→St→Hp→Prop
def EP(X:Cx)(pins:List (Addr × Obj))(σ:St)(Q:VK)(u:Value)(s':Shared):Prop:=∃v H',Inv X pins σ H' s'∧RelV v u∧Q v H'
def TP(X:Cx)(pins:List (Addr × Obj))(σ:St)(Q:Bool→Hp→Prop)(b:Bool)(s':Shared):Prop:=∃H',Inv X pins σ H' s'∧Q b H'
def AP(X:Cx)(pins:List (Addr × Obj))(σ:St)(Q:List V→Hp→Prop)(us:List Value)(s':Shared):Prop:=∃vs H',Inv X pins σ H' s'∧Vals vs us∧Q vs H'
def SP(X:Cx)(pins:List (Addr × Obj))(D:Ends)(f:Flow)(s':Shared):Prop:=
 match f with
 |.next=>∃σ' H',Inv X pins σ' H' s'∧D.nx σ' H'
 |.brk=>∃σ' H',Inv X pins σ' H' s'∧D.bk σ' H'
 |.cont=>∃σ' H',Inv X pins σ' H' s'∧D.ct σ' H'
 |.ret u=>∃v σ' H',Inv X pins σ' H' s'∧RelV v u∧D.rt v H'
def PE(X:Cx)(e:Expr)(t:TE):Prop:=
 ∀(pins:List (Addr × Obj)) (s:Shared) (σ:St) (H:Hp) (Q:VK),Inv X pins σ H s→t σ H Q→wpAny (model X.prog X.w) X.A (eval e X.env) (EP X pins σ Q) X.xe s
def PT(X:Cx)(e:Expr)(t:TT):Prop:=
 ∀(pins:List (Addr × Obj)) (s:Shared) (σ:St) (H:Hp) (Q:Bool→Hp→Prop),Inv X pins σ H s→t σ H Q→wpAny (model X.prog X.w) X.A (isTrue e X.env (eval e X.env)) (TP X pins σ Q) X.xe s
def PW(X:Cx)(e:Expr)(t:TT):Prop:=
 ∀(whole:Sem Value) (pins:List (Addr × Obj)) (s:Shared) (σ:St) (H:Hp) (Q:Bool→Hp→Prop),Inv X pins σ H s→t σ H Q→wpAny (model X.prog X.w) X.A (isTrue e X.env whole) (TP X pins σ Q) X.xe s
theorem PW.pt{X:Cx}{e:Expr}{t:TT}(h:PW X e t):PT X e t:=h _
def PA(X:Cx)(es:List Expr)(t:TA):Prop:=
 ∀(pos:Pos) (pins:List (Addr × Obj)) (s:Shared) (σ:St) (H:Hp) (Q:List V→Hp→Prop),Inv X pins σ H s→t σ H Q→wpAny (model X.prog X.w) X.A (spliced (backTo pos (starEach es X.env))) (AP X pins σ Q) X.xe s
def PS(X:Cx)(st:Stmt)(t:TS):Prop:=
 ∀(pins:List (Addr × Obj)) (s:Shared) (σ:St) (H:Hp) (D:Ends),Inv X pins σ H s→t D σ H→wpAny (model X.prog X.w) X.A (exec st X.env) (SP X pins D) X.xe s
def PSs(X:Cx)(st:List Stmt)(t:TS):Prop:=
 ∀(pins:List (Addr × Obj)) (s:Shared) (σ:St) (H:Hp) (D:Ends),Inv X pins σ H s→t D σ H→wpAny (model X.prog X.w) X.A (execs st X.env) (SP X pins D) X.xe s
theorem thn{α:Type}{t:Sem α}{Q Q':α→Shared→Prop}{M:Model}{A:Around}{E:Value→Shared→Prop}{s:Shared}(h:wpAny M A t Q E s)(hQ:∀a s,Q a s→Q' a s):wpAny M A t Q' E s:=wpAny_mono h hQ fun _ _ x=>x
end L2
namespace L2
open PySem PySem.Spec PyProof.Rows
section
variable {X:Cx}
theorem bin{a b:Expr}{ta tb:TE}(ha:PE X a ta)(hb:PE X b tb){pins:List (Addr × Obj)}{s:Shared}{σ:St}{H:Hp}{R:V→V→Hp→Prop}(I:Inv X pins σ H s)(h:ta σ H fun x H1=>tb σ H1 fun y H2=>R x y H2)
 {α:Type} {Q:α→Shared→Prop} {f:Value→Value→Sem α}
 (hf:∀v u s2 x y H2,Inv X pins σ H2 s2→RelV x v→RelV y u→R x y H2→wpAny (model X.prog X.w) X.A (f v u) Q X.xe s2) :
 wpAny (model X.prog X.w) X.A (eval a X.env) (fun v s₁=>wpAny (model X.prog X.w) X.A (eval b X.env) (fun u s₂=>wpAny (model X.prog X.w) X.A (f v u) Q X.xe s₂) X.xe s₁) X.xe s:=by
 refine thn (ha pins s σ H _ I h) fun v s1 ⟨x,H1,I1,r1,q1⟩=>?_
 refine thn (hb pins s1 σ H1 _ I1 q1) fun u s2 ⟨y,H2,I2,r2,q2⟩=>?_
 exact hf v u s2 x y H2 I2 r1 r2 q2
noncomputable def UT(i:Nat):TE:=fun σ H Q=>∃v,σ[i]?=some (some v)∧Q v H
noncomputable def tC(v:V):TE:=fun _ H Q=>Q v H
theorem XH{i:Nat}{x:Str}{pos:Pos}(hN:X.N[i]?=some x)(hv:Vis X.env.scope x)(hd:(x == ("__debug__":Str))=false:=by decide)(hcd:(x == ("__classdict__":Str))=false:=by decide):PE X (.Name x pos) (UT i):=by
 intro pins s σ H Q I h
 obtain⟨v,e,h⟩:=h
 obtain⟨m,hn,hl⟩:=I.loc
 obtain⟨u,r,l⟩:=hl i x v hN e hv
 have fin:EP X pins σ Q u s:=⟨v,H,I,r,h⟩
 rcases l with⟨hk,hm⟩|⟨hk,c,hc,hcell⟩
 . exact wpAny_Name (wpAny_loadName_local I.ok.kind hk hn hm fin) hd
 . rcases hk with hk|hk
   . exact wpAny_Name (wpAny_loadName_cell I.ok.kind hk hc hcell fin) hd
   . exact wpAny_Name (wpAny_loadName_free I.ok.kind hk hc hcell fin hcd) hd
theorem XA{i j pos}:PE X (.Constant (.int i) j pos) (tC (.int i)):=fun _ _ _ H _ I h=>wpAny_Constant_int ⟨.int i,H,I.tok _,⟨_,rfl⟩,h⟩
theorem VC{b j pos}:PE X (.Constant (.bool b) j pos) (tC (.bl b)):=fun _ _ _ H _ I h=>Constant_bool ⟨.bl b,H,I,rfl,h⟩
theorem XC{j pos}:PE X (.Constant .none j pos) (tC .non):=fun _ _ _ H _ I h=>Constant_none ⟨.non,H,I,rfl,h⟩
theorem XF{x j pos}:PE X (.Constant (.str x) j pos) (tC (.str x)):=fun _ _ _ H _ I h=>Calls.Constant_str ⟨.str x,H,I.tok _,⟨_,rfl⟩,h⟩
def Gl(X:Cx)(x:Str):Prop:=X.env.kindOf x=some .globalImplicit
theorem oR{E:Value→Shared→Prop}{pins:List (Addr × Obj)}{s:Shared}{σ:St}{H:Hp}{x:Str}{u:Value}{pos:Pos}{Q:Value→Shared→Prop}(I:Inv X pins σ H s)(hg:Gl X x)(hm:X.mg x=some u)(h:Q u s)
 (hd:(x == ("__debug__":Str))=false:=by decide):wpAny (model X.prog X.w) X.A (eval (.Name x pos) X.env) Q E s:=
 Calls.Name_function_global I.ok.kind hg (Calls.loadGlobal_global (by rw[I.ok.glob];exact I.mod.glob.keeps I.bk) hm h) hd
theorem tQ{E:Value→Shared→Prop}{pins:List (Addr × Obj)}{s:Shared}{σ:St}{H:Hp}{x:Str}{u:Value}{pos:Pos}{Q:Value→Shared→Prop}(I:Inv X pins σ H s)(hg:Gl X x)(hm:X.mg x=none)(hv:bootBuiltins x=some u)(h:Q u s)
 (hn:x≠"__name__":=by decide) (hd:(x == ("__debug__":Str))=false:=by decide):wpAny (model X.prog X.w) X.A (eval (.Name x pos) X.env) Q E s:=by
 obtain⟨mb,h1,h2⟩:=I.mod.blt
 exact Calls.Name_function_global I.ok.kind hg (Calls.loadGlobal_builtin (by rw[I.ok.glob];exact I.mod.glob.keeps I.bk) hm (by rw[I.ok.blt];exact h1.keeps I.bk) ((h2 x hn).trans hv) h) hd
theorem b5{x:Str}{v:V}{u:Value}{pos:Pos}(hg:Gl X x)(hm:X.mg x=some u)(r:RelV v u)(hd:(x == ("__debug__":Str))=false:=by decide):PE X (.Name x pos) (tC v):=
 fun _ _ _ H _ I h=>oR I hg hm ⟨v,H,I,r,h⟩ hd
theorem bw{x:Str}{v:V}{u:Value}{pos:Pos}(hg:Gl X x)(hm:X.mg x=none)(hv:bootBuiltins x=some u)(r:RelV v u)(hn:x≠"__name__":=by decide)(hd:(x == ("__debug__":Str))=false:=by decide):PE X (.Name x pos) (tC v):=
 fun _ _ _ H _ I h=>tQ I hg hm hv ⟨v,H,I,r,h⟩ hn hd
variable {a b:Expr}{ta tb:TE}{pos:Pos}
variable {tA tB':TT}{rest:List Expr}
noncomputable def UO(t:TT):TT:=fun σ H Q=>t σ H fun c H1=>Q (!c) H1
theorem XT(ha:PT X a tA):PT X (.UnaryOp .Not a pos) (UO tA):=by
 intro pins s σ H Q I h
 exact isTrue_not (ha pins s σ H (fun c H1=>Q (!c) H1) I h)
noncomputable def Vd(ta tb:TE):TE:=fun σ H Q=>ta σ H fun x H1=>∃c,x=.bl c∧if c=true then tb σ H1 Q else Q (.bl false) H1
noncomputable def Vi(ta:TE):TE:=fun σ H Q=>ta σ H fun x H1=>∃c,x=.bl c∧Q (.bl (!c)) H1
theorem lZ{op}{t:TE}(h:PE X a t):PE X (.BoolOp op [a] pos) t:=fun pins s σ H Q I hw=>BoolOp_one (h pins s σ H Q I hw)
theorem Y9(ha:PE X a ta)(hb:PE X (.BoolOp .And (b::rest) pos) tb):PE X (.BoolOp .And (a::b::rest) pos) (Vd ta tb):=by
 intro pins s σ H Q I h
 refine BoolOp_and (thn (ha pins s σ H _ I h) fun v s1 ⟨x,H1,I1,r1,q1⟩=>?_)
 obtain⟨c,rfl,q1⟩:=q1
 cases r1
 refine wpAny_truthy_bool ?_
 cases c with
 |true=>exact hb pins s1 σ H1 Q I1 q1
 |false=>exact⟨.bl false,H1,I1,rfl,q1⟩
theorem XD(ha:PE X a ta):PE X (.UnaryOp .Not a pos) (Vi ta):=by
 intro pins s σ H Q I h
 refine UnaryOp_ (thn (ha pins s σ H _ I h) fun v s1 ⟨x,H1,I1,r1,q1⟩=>?_)
 obtain⟨c,rfl,q1⟩:=q1
 cases r1
 exact not_of (wpAny_truthy_bool ⟨.bl (!c),H1,I1,rfl,q1⟩)
noncomputable def tIf(t:TT)(ta tb:TE):TE:=fun σ H Q=>t σ H fun c H1=>if c=true then ta σ H1 Q else tb σ H1 Q
theorem eO{c:Expr}(hc:PT X c tA)(ha:PE X a ta)(hb:PE X b tb):PE X (.IfExp c a b pos) (tIf tA ta tb):=by
 intro pins s σ H Q I h
 refine wpAny_IfExp (thn (hc pins s σ H _ I h) fun d s1 ⟨H1,I1,q1⟩=>?_)
 cases d with
 |true=>exact ha pins s1 σ H1 Q I1 q1
 |false=>exact hb pins s1 σ H1 Q I1 q1
end
end L2
namespace L2
open PySem PySem.Spec PyProof.Rows
def SqL(K:PySem.W.Frag)(H:Hp)(a:Addr)(xs:List V):Prop:=
 Rd H a (.lst xs) ∨
  ∃(o:Obj) (its:Array Value) (n:Nat),K.lookup a=some o∧o.cls=.type "list"∧o.dict=none∧o.data=.seq its n∧its.size≤sizeLine∧Vals xs its.toList
def SqT(K:PySem.W.Frag)(H:Hp)(a:Addr)(xs:List V):Prop:=
 Rd H a (.tup xs) ∨
  ∃(o:Obj) (its:Array Value) (n:Nat),K.lookup a=some o∧o.cls=.type "tuple"∧o.data=.seq its n∧its.size≤sizeLine∧Vals xs its.toList
noncomputable def Vx:Value→Option V
 |.none=>some .non
 |.bool b=>some (.bl b)
 |.int i _=>some (.int i)
 |.str x _=>some (.str x)
 |.bytes b _=>some (.byt b)
 |.float b _=>some (.flt b)
 |.ref a=>some (.ref a)
 |.type n=>some (.ty n)
 |_=>none
theorem RelV.abs{x:V}{u:Value}(r:RelV x u):Vx u=some x:=by
 cases x with
 |non=>cases r;rfl
 |bl _=>cases r;rfl
 |int _=>obtain⟨t,rfl⟩:=r;rfl
 |str _=>obtain⟨t,rfl⟩:=r;rfl
 |byt _=>obtain⟨t,rfl⟩:=r;rfl
 |flt _=>obtain⟨t,rfl⟩:=r;rfl
 |ref _=>cases r;rfl
 |ty _=>cases r;rfl
theorem RelV.inj{x y:V}{u:Value}(r:RelV x u)(q:RelV y u):x=y:=Option.some.inj (r.abs.symm.trans q.abs)
theorem Vals.inj:∀{xs ys:List V} {us:List Value},Vals xs us→Vals ys us→xs=ys
 |_,_,_,.nil,.nil=>rfl
 |_,_,_,.cons r t,.cons r' t'=>by rw[r.inj r',Vals.inj t t']
section
variable {X:Cx}{pins:List (Addr × Obj)}{σ:St}{H:Hp}{s:Shared}{a:Addr}{xs ys:List V}
theorem SqL.of{K:PySem.W.Frag}(h:H a=some (.lst xs)):SqL K H a xs:=.inl (.inl h)
theorem SqT.of{K:PySem.W.Frag}(h:H a=some (.tup xs)):SqT K H a xs:=.inl (.inl h)
theorem Inv.list(I:Inv X pins σ H s)(h:SqL X.K H a xs):∃its:List Value,Vals xs its∧PlainL s.heap a its.toArray∧xs.length≤sizeLine:=by
 rcases h with h|⟨o,its,n,hk,hc,hd,hs,hz,r⟩
 . obtain⟨z,its,n,r,e⟩:=h.ok I.hok
   exact⟨its,r,⟨_,n,e,rfl,rfl,rfl⟩,z⟩
 . refine⟨its.toList,r,⟨o,n,I.kIn a o hk,hc,hd,by simpa using hs⟩,?_⟩
   have e:=r.length
   simp only[Array.length_toList]at e
   omega
theorem Inv.tuple(I:Inv X pins σ H s)(h:SqT X.K H a xs):∃its:List Value,Vals xs its∧IsTup s.heap a its.toArray∧xs.length≤sizeLine:=by
 rcases h with h|⟨o,its,n,hk,hc,hs,hz,r⟩
 . obtain⟨z,its,r,p⟩:=h.ok I.hok
   exact⟨its,r,p.tup,z⟩
 . refine⟨its.toList,r,⟨o,I.kIn a o hk,hc,n,by simpa using hs⟩,?_⟩
   have e:=r.length
   simp only[Array.length_toList]at e
   omega
theorem Inv.fi(I:Inv X pins σ H s)(h:SqL X.K H a xs)(h':SqL X.K H a ys):xs=ys:=by
 obtain⟨its,r,⟨o,n,e,_,_,d⟩,_⟩:=I.list h
 obtain⟨its',r',⟨o',n',e',_,_,d'⟩,_⟩:=I.list h'
 rw[e]at e';cases e'
 rw[d]at d'
 injection d' with d1 _
 have:its=its':=by simpa using congrArg Array.toList d1
 subst this
 exact r.inj r'
theorem Inv.tq(I:Inv X pins σ H s)(h:SqT X.K H a xs)(h':SqT X.K H a ys):xs=ys:=by
 obtain⟨its,r,⟨o,e,_,n,d⟩,_⟩:=I.tuple h
 obtain⟨its',r',⟨o',e',_,n',d'⟩,_⟩:=I.tuple h'
 rw[e]at e';cases e'
 rw[d]at d'
 injection d' with d1 _
 have:its=its':=by simpa using congrArg Array.toList d1
 subst this
 exact r.inj r'
end
noncomputable abbrev Cx.qj(X:Cx)(E:Value→Shared→Prop):Cx:={X with xe:=E}
noncomputable abbrev Cx.nox(X:Cx):Cx:=X.qj fun _ _=>False
theorem Cx.Ok.qj{X:Cx}(ok:X.Ok)(E:Value→Shared→Prop):(X.qj E).Ok:=
 ⟨ok.mod,ok.kind,ok.glob,ok.blt,ok.above,ok.inj,ok.has,ok.cab,ok.hd,ok.frames,ok.stk,ok.exf,ok.bs,ok.bsz,ok.noex,ok.exfs,ok.rP,ok.frf⟩
theorem Cx.Ok.vh{X:Cx}{E:Value→Shared→Prop}(ok:(X.qj E).Ok):X.Ok:=
 ⟨ok.mod,ok.kind,ok.glob,ok.blt,ok.above,ok.inj,ok.has,ok.cab,ok.hd,ok.frames,ok.stk,ok.exf,ok.bs,ok.bsz,ok.noex,ok.exfs,ok.rP,ok.frf⟩
section
variable {X:Cx}{pins:List (Addr × Obj)}{σ:St}{H:Hp}{s:Shared}{E:Value→Shared→Prop}
theorem Inv.qj(I:Inv X pins σ H s)(E:Value→Shared→Prop):Inv (X.qj E) pins σ H s:=⟨I.ok.qj E,I.os,I.bare,I.base,I.loc,I.cell,I.free,I.freeC,I.pin,I.hok,I.len⟩
theorem Inv.vh(I:Inv (X.qj E) pins σ H s):Inv X pins σ H s:=⟨I.ok.vh,I.os,I.bare,I.base,I.loc,I.cell,I.free,I.freeC,I.pin,I.hok,I.len⟩
theorem SP.vh{D:Ends}{f:Flow}{s':Shared}(h:SP (X.qj E) pins D f s'):SP X pins D f s':=by
 cases f with
 |next=>obtain⟨σ',H',I,q⟩:=h;exact⟨σ',H',I.vh,q⟩
 |brk=>obtain⟨σ',H',I,q⟩:=h;exact⟨σ',H',I.vh,q⟩
 |cont=>obtain⟨σ',H',I,q⟩:=h;exact⟨σ',H',I.vh,q⟩
 |ret u=>obtain⟨v,σ',H',I,r,q⟩:=h;exact⟨v,σ',H',I.vh,r,q⟩
theorem PSs.nox{st:List Stmt}{t:TS}(h:PSs X.nox st t):PSs X st t:=fun pins s σ H D I hw=>
 wpAny_mono (h pins s σ H D (I.qj _) hw) (fun _ _ q=>q.vh) fun _ _ z=>False.elim z
end
section
variable {X:Cx}{st:Stmt}{rest:List Stmt}{t u:TS}{e:Expr}{te:TE}{pos:Pos}
noncomputable def Vg:TS:=fun D σ H=>D.nx σ H
noncomputable def UR(t u:TS):TS:=fun D σ H=>t {D with nx:=u D} σ H
theorem aG:PSs X [] Vg:=fun _ _ σ H _ I h=>wpAny_execs_nil ⟨σ,H,I,h⟩
theorem ek(h1:PS X st t)(h2:PSs X rest u):PSs X (st::rest) (UR t u):=by
 intro pins s σ H D I h
 refine wpAny_execs_cons (thn (h1 pins s σ H {D with nx:=u D} I h) fun f s1 q=>?_)
 cases f with
 |next=>
  obtain⟨σ',H',I',q⟩:=q
  exact h2 pins s1 σ' H' D I' q
 |ret v=>exact q
 |brk=>exact q
 |cont=>exact q
theorem Inv.quiet{pins:List (Addr × Obj)}{σ:St}{H:Hp}{s:Shared}(I:Inv X pins σ H s):interactive X.env=false:=by simp[interactive,I.ok.kind]
noncomputable def Vf(te:TE):TS:=fun D σ H=>te σ H fun _ H1=>D.nx σ H1
theorem aE(he:PE X e te)(hs:swapsWith e none pos.line X.env=pure false:=by rfl):PS X (.Expr e pos) (Vf te):=by
 intro pins s σ H D I h
 exact wpAny_Expr_any (thn (he pins s σ H _ I h) fun v s1 ⟨x,H1,I1,r1,q1⟩=>⟨σ,H1,I1,q1⟩) I.quiet hs
noncomputable def UQ(te:TE):TS:=fun D σ H=>te σ H D.rt
theorem XS(he:PE X e te):PS X (.Return (some e) pos) (UQ te):=by
 intro pins s σ H D I h
 exact wpAny_Return_some (thn (he pins s σ H _ I h) fun v s1 ⟨x,H1,I1,r1,q1⟩=>⟨x,σ,H1,I1,r1,q1⟩)
noncomputable def UM(c:TT)(t u:TS):TS:=fun D σ H=>c σ H fun b H1=>if b=true then t D σ H1 else u D σ H1
theorem VL{c:Expr}{a b:List Stmt}{tc:TT}(hc:PT X c tc)(ha:PSs X a t)(hb:PSs X b u):PS X (.If c a b pos) (UM tc t u):=by
 intro pins s σ H D I h
 refine wpAny_If (thn (hc pins s σ H _ I h) fun d s1 ⟨H1,I1,q1⟩=>?_)
 cases d with
 |true=>exact ha pins s1 σ H1 D I1 q1
 |false=>exact hb pins s1 σ H1 D I1 q1
end
noncomputable abbrev TG:=V→St→Hp→(St→Hp→Prop)→Prop
noncomputable abbrev TGs:=List V→St→Hp→(St→Hp→Prop)→Prop
def PG(X:Cx)(target:Expr)(t:TG):Prop:=
 ∀(pins:List (Addr × Obj)) (s:Shared) (σ:St) (H:Hp) (v:V) (u:Value) (Q:St→Hp→Prop),Inv X pins σ H s→RelV v u→t v σ H Q →
  wpAny (model X.prog X.w) X.A (assign target X.env u) (fun _ s'=>∃σ' H',Inv X pins σ' H' s'∧Q σ' H') X.xe s
def PGs(X:Cx)(ts:List Expr)(t:TGs):Prop:=
 ∀(pins:List (Addr × Obj)) (s:Shared) (σ:St) (H:Hp) (vs:List V) (us:List Value) (Q:St→Hp→Prop),Inv X pins σ H s→Vals vs us→t vs σ H Q →
  wpAny (model X.prog X.w) X.A (assignInOrder ((assignEach ts X.env).map (·.2)) us) (fun _ s'=>∃σ' H',Inv X pins σ' H' s'∧Q σ' H') X.xe s
noncomputable abbrev Zb:=V→V→V→Hp→(Hp→Prop)→Prop
def X5(X:Cx)(t:Zb):Prop:=
 ∀(pins:List (Addr × Obj)) (s:Shared) (σ:St) (H:Hp) (o i v:V) (ov iv u:Value) (Q:Hp→Prop),Inv X pins σ H s→RelV o ov→RelV i iv→RelV v u→t o i v H Q →
  wpAny (model X.prog X.w) X.A (setItem ov iv u) (fun _ s'=>∃H',Inv X pins σ H' s'∧Q H') X.xe s
noncomputable abbrev TIp:=V→V→Hp→VK→Prop
def PIp(X:Cx)(op:Operator)(t:TIp):Prop:=
 ∀(pins:List (Addr × Obj)) (s:Shared) (σ:St) (H:Hp) (x y:V) (v u:Value) (Q:VK),Inv X pins σ H s→RelV x v→RelV y u→t x y H Q →
  wpAny (model X.prog X.w) X.A (inplaceOp op v u) (EP X pins σ Q) X.xe s
section
variable {X:Cx}{pos:Pos}
noncomputable def vT(i:Nat):TG:=fun v σ H Q=>Q (σ.set i (some v)) H
theorem b7{i:Nat}{x:Str}(hN:X.N.Nodup)(hi:X.N[i]?=some x)(hx:Loc X.env.scope x)(hf:X.fn x=true∨X.env.scope.names.lookup x=some .local:=by first|exact .inl rfl|exact .inr rfl|assumption):PG X (.Name x pos) (vT i):=by
 intro pins s σ H v u Q I r h
 exact wpAny_assign_Name (xu I hN hi hx r (fun s' I'=>⟨_,H,I',h⟩) hf)
noncomputable def WL:TGs:=fun vs σ H Q=>vs=[]∧Q σ H
noncomputable def ZC(t:TG)(u:TGs):TGs:=fun vs σ H Q=>∃v r,vs=v::r∧t v σ H fun σ' H'=>u r σ' H' Q
theorem b8:PGs X [] WL:=by
 intro pins s σ H vs us Q I r h
 obtain⟨e,h⟩:=h
 subst e
 cases r
 exact assignInOrder_nil ⟨σ,H,I,h⟩
theorem eQ{e:Expr}{es:List Expr}{t:TG}{u:TGs}(h1:PG X e t)(h2:PGs X es u)
 (hs:(assignEach (e::es) X.env).map (·.2)=assign e X.env::(assignEach es X.env).map (·.2):=by rfl):PGs X (e::es) (ZC t u):=by
 intro pins s σ H vs us Q I r h
 obtain⟨v,vr,e1,h⟩:=h
 subst e1
 cases r with
 |cons r rr=>
  rw[hs]
  refine assignInOrder_cons (thn (h1 pins s σ H _ _ _ I r h) fun _ s1 ⟨σ1,H1,I1,q1⟩=>?_)
  exact h2 pins s1 σ1 H1 _ _ Q I1 rr q1
noncomputable def WN(K:PySem.W.Frag)(n:Nat)(t:TGs):TG:=fun v σ H Q=>∃a xs,v=.ref a∧SqT K H a xs∧xs.length=n∧t xs σ H Q
theorem tY{es:List Expr}{k:Nat}{t:TGs}{n:Nat}(hc:X.calm=true)(h:PGs X es t)
 (hn:(assignEach es X.env).length=n:=by rfl) (hst:(assignEach es X.env).findIdx? (·.1)=none:=by rfl):PG X (.Tuple es k pos) (WN X.K n t):=by
 intro pins s σ H v u Q I r hw
 obtain⟨a,xs,e1,hq,hl,hw⟩:=hw
 subst e1
 cases r
 obtain⟨its,rv,ht,hz⟩:=I.tuple hq
 refine assign_Tuple_tuple (I.ok.hd hc) ht (by simp[hn,←hl,rv.length]) hst fun h' hx=>?_
 have I1:Inv X pins σ H {s with heap:=h'}:=I.kept (t':=s.toks) fun b o e=>hx b o (Nat.ne_of_lt (Heap.lt_size e)) e
 exact h pins _ σ H xs _ Q I1 (by simpa using rv) hw
noncomputable def WM(to ti:TE)(t:Zb):TG:=fun v σ H Q=>to σ H fun o H1=>ti σ H1 fun i H2=>t o i v H2 fun H3=>Q σ H3
theorem XI{o i:Expr}{to ti:TE}{t:Zb}(ho:PE X o to)(hi:PE X i ti)(hs:X5 X t)
 (ha:∀v,assign (.Subscript o i pos) X.env v=(do
  let ov ←holding [v] (eval o X.env)
  let iv ←holding [v,ov] (eval i X.env)
  standAt pos
  holding [v,ov,iv] (setItem ov iv v)
  release [v,ov,iv] []):=by intro _;rfl):PG X (.Subscript o i pos) (WM to ti t):=by
 intro pins s σ H v u Q I r h
 rw[ha]
 refine wpAny_bind (wpAny_holding (thn (ho pins s σ H _ I h) fun ov s1 ⟨x,H1,I1,r1,q1⟩=>?_))
 refine wpAny_bind (wpAny_holding (thn (hi pins s1 σ H1 _ I1 q1) fun iv s2 ⟨y,H2,I2,r2,q2⟩=>?_))
 refine wpAny_bind (wpAny_standAt (wpAny_bind (wpAny_holding (thn (hs pins s2 σ H2 x y v ov iv u _ I2 r1 r2 r q2) fun _ s3 ⟨H3,I3,q3⟩=>?_))))
 exact wpAny_release ⟨σ,H3,I3,q3⟩
noncomputable def qi(te:TE)(g:TG):TS:=fun D σ H=>te σ H fun x H1=>g x σ H1 D.nx
theorem eX{tg e:Expr}{te:TE}{g:TG}(he:PE X e te)(hg:PG X tg g)(hs:swapsWithSole [tg] e pos.line X.env=pure false:=by rfl)(hw:swappedStores [tg] e X.env=pure none:=by rfl)
 (h1:(assignEach [tg] X.env).map (·.2)=[assign tg X.env]:=by rfl):PS X (.Assign [tg] e pos) (qi te g):=by
 intro pins s σ H D I h
 refine wpAny_Assign_stores (thn (he pins s σ H _ I h) fun v s1 ⟨x,H1,I1,r1,q1⟩=>?_) hs hw
 rw[h1]
 exact thn (hg pins s1 σ H1 x v _ I1 r1 q1) fun _ s2 q=>q
theorem lr{i:Nat}{x:Str}{e:Expr}{te:TE}{pos':Pos}(hN:X.N.Nodup)(hi:X.N[i]?=some x)(hx:Loc X.env.scope x)(he:PE X e te)(hs:swapsWith e (some (.Name x pos')) pos.line X.env=pure false:=by rfl)(hf:X.fn x=true∨X.env.scope.names.lookup x=some .local:=by first|exact .inl rfl|exact .inr rfl|assumption) :
 PS X (.Assign [.Name x pos'] e pos) (qi te (vT i)):=by
 intro pins s σ H D I h
 refine wpAny_Assign_Name (thn (he pins s σ H _ I h) fun v s1 ⟨y,H1,I1,r1,q1⟩=>?_) hs
 exact xu I1 hN hi hx r1 (fun s2 I2=>⟨_,H1,I2,q1⟩) hf
noncomputable def Vk(i j:Nat)(ta:TA):TS:=fun D σ H=>ta σ H fun vs H1=>∃v w,vs=[v,w]∧D.nx ((σ.set i (some v)).set j (some w)) H1
theorem XR{i j:Nat}{x y:Str}{a b:Expr}{ta:TA}{px py pt:Pos}{kt k2 pt2}(hc:X.calm=true)(hN:X.N.Nodup)(hi:X.N[i]?=some x)(hj:X.N[j]?=some y)(hij:i≠j)
 (hx:X.env.scope.names.lookup x=some .local) (hy:X.env.scope.names.lookup y=some .local) (ha:PA X [a,b] ta)
 (hw:swappedStores [.Tuple [.Name x px,.Name y py] kt pt] (.Tuple [a,b] k2 pt2) X.env=pure (some [x,y]))
 (hs:swapsWithSole [.Tuple [.Name x px,.Name y py] kt pt] (.Tuple [a,b] k2 pt2) pos.line X.env=pure false:=by rfl) :
 PS X (.Assign [.Tuple [.Name x px,.Name y py] kt pt] (.Tuple [a,b] k2 pt2) pos) (Vk i j ta):=by
 intro pins s σ H D I h
 rw[exec_Assign_arm]
 refine wpAny_bind (wpAny_standAt ?_)
 rw[hs]
 refine wpAny_bind (wpAny_pure ?_)
 rw[if_neg (by decide)]
 refine wpAny_bind (Tuple_ (thn (ha _ pins s σ H _ I h) fun us s1 ⟨vs,H1,I1,r1,q1⟩=>?_))
 obtain⟨v,w,e1,q1⟩:=q1
 subst e1
 obtain⟨u1,u2,rfl,rv,rw'⟩:∃u1 u2,us=[u1,u2]∧RelV v u1∧RelV w u2:=by
  cases r1 with
  |cons p q=>
   cases q with
   |cons p' q'=>
    cases q'
    exact⟨_,_,rfl,p,p'⟩
 refine wpAny_newObj_type ?_ (by show 2≤sizeLine;decide)
 have I2:Inv X pins σ H1 {s1 with heap:=s1.heap.push {cls:=.type "tuple",data:=.seq [u1,u2].toArray}}:=I1.kept (t':=s1.toks) fun b o e=>Heap.get?_push_of_some _ e
 rw[hw]
 refine wpAny_bind (wpAny_pure ?_)
 show wpAny (model X.prog X.w) X.A (do rule "assign.swapped-stores";let items ←unpackItems (.ref s1.heap.objs.size) 2 none;assignInOrder [fun v=>bindName X.env y v,fun v=>bindName X.env x v] items.reverse;pure Flow.next) _ _ _
 refine wpAny_bind (wpAny_rule (wpAny_bind (unpackItems_tuple (items:=#[u1,u2]) (I.ok.hd hc) (IsTup.new s1.heap _) fun h' hx'=>?_)))
 have I3:=I2.kept (h':=h') (t':=s1.toks) fun b o e=>hx' b o (Nat.ne_of_lt (Heap.lt_size e)) e
 show wpAny _ _ (assignInOrder [fun v=>bindName X.env y v,fun v=>bindName X.env x v] [u2,u1] >>= fun _=>pure Flow.next) _ _ _
 refine wpAny_bind (assignInOrder_cons (wpAny_bindName (xu I3 hN hj (.inl hy) rw' (fun s2 I4=>?_) (.inr hy))))
 refine assignInOrder_cons (wpAny_bindName (xu I4 hN hi (.inl hx) rv (fun s3 I5=>assignInOrder_nil (wpAny_pure ?_)) (.inr hx)))
 rw[List.set_comm _ _ (Ne.symm hij)]at I5
 exact⟨_,H1,I5,q1⟩
noncomputable def UK(i:Nat)(te:TE)(ti:TIp):TS:=fun D σ H=>∃x,σ[i]?=some (some x)∧te σ H fun y H1=>ti x y H1 fun z H2=>D.nx (σ.set i (some z)) H2
theorem eY{i:Nat}{x:Str}{e:Expr}{te:TE}{op:Operator}{ti:TIp}{pos':Pos}(hN:X.N.Nodup)(hi:X.N[i]?=some x)(hx:Loc X.env.scope x)(he:PE X e te)(ho:PIp X op ti)(hf:X.fn x=true∨X.env.scope.names.lookup x=some .local:=by first|exact .inl rfl|exact .inr rfl|assumption) :
 PS X (.AugAssign (.Name x pos') op e pos) (UK i te ti):=by
 intro pins s σ H D I h
 obtain⟨v,e1,h⟩:=h
 obtain⟨m,hn,hl⟩:=I.loc
 have vis:Vis X.env.scope x:=by rcases hx with k|k;exact .inl k;exact .inr (.inl k)
 obtain⟨u,r,l⟩:=hl i x v hi e1 vis
 refine wpAny_AugAssign_Name ?_
 have go:wpAny (model X.prog X.w) X.A (eval e X.env) (fun w s₂=>wpAny (model X.prog X.w) X.A (inplaceOp op u w) (fun r s₃=>wpAny (model X.prog X.w) X.A (storeName X.env x r) (fun _=>SP X pins D .next) X.xe s₃) X.xe s₂) X.xe s:=by
  refine thn (he pins s σ H _ I h) fun w s1 ⟨y,H1,I1,r1,q1⟩=>?_
  refine thn (ho pins s1 σ H1 v y u w _ I1 r r1 q1) fun z s2 ⟨zv,H2,I2,r2,q2⟩=>?_
  exact xu I2 hN hi hx r2 (fun s3 I3=>⟨_,H2,I3,q2⟩) hf
 rcases l with⟨hk,hm⟩|⟨hk,c,hc,hcell⟩
 . exact wpAny_loadName_local I.ok.kind hk hn hm go
 . rcases hk with hk|hk
   . exact wpAny_loadName_cell I.ok.kind hk hc hcell go
   . rcases hx with k|k
     . have:X.env.scope.names.lookup x=some .free:=hk
       rw[k]at this;cases this
     . have:X.env.scope.names.lookup x=some .free:=hk
       rw[k]at this;cases this
end
structure It where
 go:Nat→Hp→Prop
 yld:Nat→Hp→V→Hp→Prop
 stop:Nat→Hp→Prop
def uB(X:Cx)(pins:List (Addr × Obj))(H:Hp)(b:Addr):Prop:=
 H b=none∧b≠X.env.locals∧b ∉ X.fs∧(b∈X.ex∨X.s₀.heap.objs.size≤b)∧(∀x c,X.env.cells.lookup x=some c→c≠b)∧∀p∈X.pn++pins,p.1≠b
theorem Inv.cV{X:Cx}{pins:List (Addr × Obj)}{σ:St}{H H':Hp}{s:Shared}{b:Addr}(I:Inv X pins σ H s)(hb:s.heap.objs.size≤b)(hn:H' b=none):uB X pins H' b:=by
 refine⟨hn,Nat.ne_of_gt (Nat.lt_of_lt_of_le I.lt hb),I.V6 hb,.inr (Nat.le_trans I.sz hb),fun x c e z=>?_,fun p hp z=>?_⟩
 . obtain⟨v,q⟩:=I.cell x c e
   exact absurd (Nat.lt_of_lt_of_le q.lt (by rw[z];exact hb)) (Nat.lt_irrefl _)
 . exact absurd (Nat.lt_of_lt_of_le (Heap.lt_size (I.pin p hp).1) (by rw[z];exact hb)) (Nat.lt_irrefl _)
structure Turn(P:Program)(w:World)(K:PySem.W.Frag)(tg:Expr)(J:It)(fp:List Addr)(it:Addr)(tn:Nat→Heap→Prop):Prop where
 mem:it∈fp
 obj:∀i h,tn i h→∀b∈fp,∃o,h.get? b=some o∧∀v,o.data≠.cell v
 keep:∀i h h',tn i h→(∀b∈fp,∀o,h.get? b=some o→h'.get? b=some o)→tn i h'
 item:∀(X:Cx),X.prog=P→X.w=w→X.K=K→X.calm=true→∀(i:Nat) (pins:List (Addr × Obj)) (s:Shared) (σ:St) (H:Hp) (E:Value→Shared→Prop),Inv X pins σ H s→(∀b∈fp,uB X pins H b)→tn i s.heap→J.go i H →
  wpAny (model P w) X.A (pyNext (.ref it)) (fun r s1=>∃u,r=some u ∧
   wpAny (model P w) X.A (letOwnedTupleGo tg (.ref it) u) (fun _ s2=>∃x H',Inv X pins σ H' s2∧RelV x u∧J.yld i H x H'∧tn (i+1) s2.heap∧∀b∈fp,H' b=none) E s1) E s
 done:∀(X:Cx),X.prog=P→X.w=w→X.K=K→X.calm=true→∀(i:Nat) (pins:List (Addr × Obj)) (s:Shared) (σ:St) (H:Hp) (E:Value→Shared→Prop),Inv X pins σ H s→(∀b∈fp,uB X pins H b)→tn i s.heap→J.stop i H →
  wpAny (model P w) X.A (pyNext (.ref it)) (fun r s1=>r=none∧Inv X pins σ H s1) E s
 self:∀(A:Around) (i:Nat) (s:Shared) (Q:Value→Shared→Prop) (E:Value→Shared→Prop),tn i s.heap→Q (.ref it) s→wpAny (model P w) A (pyIter (.ref it)) Q E s
noncomputable abbrev TI:=St→Hp→(It→Hp→Prop)→Prop
def PIE(X:Cx)(pins:List (Addr × Obj))(σ:St)(tg:Expr)(R:It→Hp→Prop)(itv:Value)(s2:Shared):Prop:=
 ∃(it:Addr) (fp:List Addr) (tn:Nat→Heap→Prop) (J:It) (H':Hp),itv=.ref it∧Inv X pins σ H' s2∧Turn X.prog X.w X.K tg J fp it tn∧tn 0 s2.heap∧(∀b∈fp,uB X pins H' b)∧R J H'
def PI(X:Cx)(tg iter:Expr)(wi:TI):Prop:=
 ∀(pins:List (Addr × Obj)) (s:Shared) (σ:St) (H:Hp) (R:It→Hp→Prop),Inv X pins σ H s→wi σ H R →
  wpAny (model X.prog X.w) X.A (eval iter X.env) (fun v s1=>wpAny (model X.prog X.w) X.A (pyIter v) (PIE X pins σ tg R) X.xe s1) X.xe s
theorem gw{M:Model}{A:Around}{E:Value→Shared→Prop}{s:Shared}{tg:Expr}{it:Addr}{u:Value}{o:Obj}{n:String}{vs:Array Value}{Q:Unit→Shared→Prop}(ho:s.heap.get? it=some o)(hc:o.cls=.type n)(hd:o.data=.fields vs)
 (hn:["enumerate","zip","dict_itemiterator","dict_reverseitemiterator","odict_iterator","itertools.zip_longest","itertools.pairwise"].contains n=false) (hQ:Q () s):wpAny M A (letOwnedTupleGo tg (.ref it) u) Q E s:=by
 unfold letOwnedTupleGo
 cases tg<;>first
  |exact wpAny_pure hQ
  |(cases u<;>first
   |exact wpAny_pure hQ
   |(refine wpAny_bind (wpAny_load ho ?_)
     rw[hc,hd]
     show wpAny M A (if (["enumerate","zip","dict_itemiterator","dict_reverseitemiterator","odict_iterator","itertools.zip_longest","itertools.pairwise"].contains n&&vs[0]? == some (rawInt _))=true then _ else _) Q E s
     rw[if_neg (by intro h;rw[hn,Bool.false_and]at h;cases h)]
     exact wpAny_pure hQ))
noncomputable def Itl(K:PySem.W.Frag)(a:Addr):It:=
 ⟨fun i H=>∃xs x,SqL K H a xs∧xs[i]?=some x,fun i H x H'=>H'=H∧∀xs,SqL K H a xs→xs[i]?=some x,fun i H=>∃xs,SqL K H a xs∧xs.length≤i⟩
noncomputable def Itt(K:PySem.W.Frag)(a:Addr):It:=
 ⟨fun i H=>∃xs x,SqT K H a xs∧xs[i]?=some x,fun i H x H'=>H'=H∧∀xs,SqT K H a xs→xs[i]?=some x,fun i H=>∃xs,SqT K H a xs∧xs.length≤i⟩
noncomputable def Itr(lo:Int)(n:Nat):It:=⟨fun i _=>i<n,fun i H x H'=>H'=H∧x=.int (lo+i),fun i _=>n≤i⟩
theorem hX{P:Program}{w:World}{K:PySem.W.Frag}{tg:Expr}(a it:Addr):Turn P w K tg (Itl K a) [it] it (fun i h=>h.IsListIter it a i) where
 mem:=by simp
 obj:=fun i h st b hb=>by
  have e:b=it:=by simpa using hb
  subst e
  obtain⟨o,e,c,d⟩:=st
  exact⟨o,e,fun v z=>by rw[d]at z;cases z⟩
 keep:=fun i h h' st k=>st.at fun o e=>k it (by simp) o e
 item:=by
  intro X hP hw hK hc i pins s σ H E I hf st hg
  subst hP hw hK
  obtain⟨xs,x,hq,hx⟩:=hg
  obtain⟨its,rv,p,hz⟩:=I.list hq
  obtain⟨u,hu,ru⟩:=rv.get hx
  obtain⟨f0,f1,f2,f3,f4,f5⟩:=hf it (by simp)
  refine wpAny_pyNext_list_item st p.isList (x:=u) (by simpa using hu) fun h' st' sb=>?_
  have I1:Inv X pins σ H {s with heap:=h'}:=I.turned (t':=s.toks) (fun b o hb e=>(sb.2 b hb).trans e) f0 f1 f3 f4 f5
  obtain⟨o,e,c,d⟩:=id st'
  exact⟨u,rfl,gw (s:={s with heap:=h'}) e c d (by decide) ⟨x,H,I1,ru,⟨rfl,fun ys hy=>by rw[I.fi hy hq];exact hx⟩,st',fun b hb=>(hf b hb).1⟩⟩
 done:=by
  intro X hP hw hK hc i pins s σ H E I hf st hg
  subst hP hw hK
  obtain⟨xs,hq,hx⟩:=hg
  obtain⟨its,rv,p,hz⟩:=I.list hq
  obtain⟨f0,f1,f2,f3,f4,f5⟩:=hf it (by simp)
  have hl:=rv.length
  exact wpAny_pyNext_list_end (I.ok.hd hc) st p.isList (by simp;omega) fun h' eb=>⟨rfl,I.turned (t':=s.toks) (fun b o hb e=>eb b o hb e) f0 f1 f3 f4 f5⟩
 self:=fun _ _ _ _ _ st h=>wpAny_pyIter_listiter st h
theorem kJ{P:Program}{w:World}{K:PySem.W.Frag}{tg:Expr}(a it:Addr):Turn P w K tg (Itt K a) [it] it (fun i h=>h.IsTupleIter it a i) where
 mem:=by simp
 obj:=fun i h st b hb=>by
  have e:b=it:=by simpa using hb
  subst e
  obtain⟨o,e,c,d⟩:=st
  exact⟨o,e,fun v z=>by rw[d]at z;cases z⟩
 keep:=fun i h h' st k=>st.at fun o e=>k it (by simp) o e
 item:=by
  intro X hP hw hK hc i pins s σ H E I hf st hg
  subst hP hw hK
  obtain⟨xs,x,hq,hx⟩:=hg
  obtain⟨its,rv,p,hz⟩:=I.tuple hq
  obtain⟨u,hu,ru⟩:=rv.get hx
  obtain⟨f0,f1,f2,f3,f4,f5⟩:=hf it (by simp)
  refine wpAny_pyNext_tuple_item st (show s.heap.IsTuple a its.toArray from p) (x:=u) (by simpa using hu) fun h' st' sb=>?_
  have I1:Inv X pins σ H {s with heap:=h'}:=I.turned (t':=s.toks) (fun b o hb e=>(sb.2 b hb).trans e) f0 f1 f3 f4 f5
  obtain⟨o,e,c,d⟩:=id st'
  exact⟨u,rfl,gw (s:={s with heap:=h'}) e c d (by decide) ⟨x,H,I1,ru,⟨rfl,fun ys hy=>by rw[I.tq hy hq];exact hx⟩,st',fun b hb=>(hf b hb).1⟩⟩
 done:=by
  intro X hP hw hK hc i pins s σ H E I hf st hg
  subst hP hw hK
  obtain⟨xs,hq,hx⟩:=hg
  obtain⟨its,rv,p,hz⟩:=I.tuple hq
  obtain⟨f0,f1,f2,f3,f4,f5⟩:=hf it (by simp)
  have hl:=rv.length
  exact wpAny_pyNext_tuple_end (I.ok.hd hc) st (show s.heap.IsTuple a its.toArray from p) (by simp;omega) fun h' eb=>⟨rfl,I.turned (t':=s.toks) (fun b o hb e=>eb b o hb e) f0 f1 f3 f4 f5⟩
 self:=fun _ _ _ _ _ st h=>wpAny_pyIter_tupleiter st h
theorem kI{P:Program}{w:World}{K:PySem.W.Frag}{tg:Expr}(it:Addr)(lo:Int)(n:Nat):Turn P w K tg (Itr lo n) [it] it (fun i h=>IsRangeIter h it (lo+(i:Nat)*1) ((n:Int)-(i:Nat)) 1) where
 mem:=by simp
 obj:=fun i h st b hb=>by
  have e:b=it:=by simpa using hb
  subst e
  exact⟨_,st,fun v z=>by
   have z':Data.fields _=Data.cell v:=z
   cases z'⟩
 keep:=fun i h h' st k=>k it (by simp) _ st
 item:=by
  intro X hP hw hK hc i pins s σ H E I hf st hg
  subst hP hw hK
  obtain⟨f0,f1,f2,f3,f4,f5⟩:=hf it (by simp)
  have W:=Walks.range (prog:=X.prog) (w:=X.w) (I.ok.hd hc) it lo 1 n
  refine W.item i s _ _ hg st fun v h' tk hv st' kk=>?_
  obtain⟨t,rfl⟩:=hv
  have I1:Inv X pins σ H {s with heap:=h',toks:=tk}:=I.turned (fun b o hb e=>kk b o (by simpa using hb) e) f0 f1 f3 f4 f5
  refine⟨_,rfl,gw (s:={s with heap:=h',toks:=tk}) (n:="range_iterator") st' rfl rfl (by decide) ⟨.int (lo+i),H,I1,⟨t,?_⟩,⟨rfl,rfl⟩,st',fun b hb=>(hf b hb).1⟩⟩
  rw[Int.mul_one]
 done:=by
  intro X hP hw hK hc i pins s σ H E I hf st hg
  subst hP hw hK
  obtain⟨f0,f1,f2,f3,f4,f5⟩:=hf it (by simp)
  exact wpAny_pyNext_range_end (I.ok.hd hc) st (by have:n≤i:=hg;omega) fun h' eb=>⟨rfl,I.turned (t':=s.toks) (fun b o hb e=>eb b o hb e) f0 f1 f3 f4 f5⟩
 self:=fun _ _ _ _ _ st h=>wpAny_pyIter_rangeiter st h
end L2
namespace L2
open PySem PySem.Spec PyProof.Rows
section
variable {X:Cx}{tg:Expr}
noncomputable def WR(K:PySem.W.Frag)(tl:TE):TI:=fun σ H R=>tl σ H fun x H1=>∃a,x=.ref a∧(∃xs,SqL K H1 a xs)∧R (Itl K a) H1
noncomputable def V1(K:PySem.W.Frag)(tl:TE):TI:=fun σ H R=>tl σ H fun x H1=>∃a,x=.ref a∧(∃xs,SqT K H1 a xs)∧R (Itt K a) H1
theorem jZ{l:Expr}{tl:TE}(hl:PE X l tl):PI X tg l (WR X.K tl):=by
 intro pins s σ H R I h
 refine thn (hl pins s σ H _ I h) fun v s1 ⟨x,H1,I1,r1,q1⟩=>?_
 obtain⟨a,e,⟨xs,hq⟩,q⟩:=q1
 subst e
 cases r1
 obtain⟨its,rv,p,hz⟩:=I1.list hq
 refine wpAny_pyIter_list p.isList ?_
 refine⟨s1.heap.objs.size,[s1.heap.objs.size],_,_,H1,rfl,I1.kept (t':=s1.toks) fun b o e=>Heap.get?_push_of_some _ e,hX a _,⟨_,Heap.get?_push_size _ rfl,rfl,rfl⟩,fun b hb=>?_,q⟩
 have e:b=s1.heap.objs.size:=by simpa using hb
 subst e
 exact I1.cV (Nat.le_refl _) (I1.hok.fresh (Nat.le_refl _))
theorem eR{l:Expr}{tl:TE}(hl:PE X l tl):PI X tg l (V1 X.K tl):=by
 intro pins s σ H R I h
 refine thn (hl pins s σ H _ I h) fun v s1 ⟨x,H1,I1,r1,q1⟩=>?_
 obtain⟨a,e,⟨xs,hq⟩,q⟩:=q1
 subst e
 cases r1
 obtain⟨its,rv,p,hz⟩:=I1.tuple hq
 refine wpAny_pyIter_tuple (show s1.heap.IsTuple a its.toArray from p) ?_
 refine⟨s1.heap.objs.size,[s1.heap.objs.size],_,_,H1,rfl,I1.kept (t':=s1.toks) fun b o e=>Heap.get?_push_of_some _ e,kJ a _,⟨_,Heap.get?_push_size _ rfl,rfl,rfl⟩,fun b hb=>?_,q⟩
 have e:b=s1.heap.objs.size:=by simpa using hb
 subst e
 exact I1.cV (Nat.le_refl _) (I1.hok.fresh (Nat.le_refl _))
theorem mM{pins:List (Addr × Obj)}{σ:St}{H:Hp}{s:Shared}{R:It→Hp→Prop}{E:Value→Shared→Prop}{lo hi:Int}{t u v:Tok}{tk:Nat}(I:Inv X pins σ H s)(h1:-(2 ^ 62)≤lo)(h2:lo<2 ^ 62)(h3:-(2 ^ 62)≤hi)(h4:hi<2 ^ 62)
 (q:R (Itr lo (hi-lo).toNat) H):wpAny (model X.prog X.w) X.A (pyIter (.ref s.heap.objs.size)) (PIE X pins σ tg R) E {s with heap:=s.heap.push {cls:=.type "range",data:=.fields #[.int lo t,.int hi u,.int 1 v]},toks:=tk}:=by
 refine wpAny_pyIter_range (IsRange.new ..) (small_one h1 h2 h3 h4) ?_
 have I1:Inv X pins σ H {s with heap:=s.heap.push {cls:=.type "range",data:=.fields #[.int lo t,.int hi u,.int 1 v]},toks:=tk}:=I.kept fun b o e=>Heap.get?_push_of_some _ e
 refine⟨(s.heap.push {cls:=.type "range",data:=.fields #[.int lo t,.int hi u,.int 1 v]}).objs.size,[(s.heap.push {cls:=.type "range",data:=.fields #[.int lo t,.int hi u,.int 1 v]}).objs.size],_,_,H,rfl,
  I1.kept (t':=tk) fun b o e=>Heap.get?_push_of_some _ e,kI _ lo (hi-lo).toNat,?_,fun b hb=>?_,q⟩
 . have e1:lo+((0:Nat):Int)*1=lo:=by simp
   have e2:(((hi-lo).toNat:Nat):Int)-((0:Nat):Int)=Builtin.Range.rangeSize lo hi 1:=by rw[rangeSize_one];split<;>omega
   show IsRangeIter _ _ (lo+((0:Nat):Int)*1) ((((hi-lo).toNat:Nat):Int)-((0:Nat):Int)) 1
   rw[e1,e2]
   exact Heap.get?_push_size _ rfl
 . have e:b=(s.heap.push {cls:=.type "range",data:=.fields #[.int lo t,.int hi u,.int 1 v]}).objs.size:=by simpa using hb
   subst e
   exact I1.cV (Nat.le_refl _) (I1.hok.fresh (Nat.le_refl _))
noncomputable def WS(ta:TA):TI:=fun σ H R=>ta σ H fun vs H1=>∃j:Int,vs=[.int j]∧-(2 ^ 62)≤j∧j<2 ^ 62∧R (Itr 0 j.toNat) H1
noncomputable def WT(ta:TA):TI:=fun σ H R=>ta σ H fun vs H1=>∃i j:Int,vs=[.int i,.int j]∧(-(2 ^ 62)≤i∧i<2 ^ 62∧-(2 ^ 62)≤j∧j<2 ^ 62)∧R (Itr i (j-i).toNat) H1
theorem iw{a:Expr}{ta:TA}{p pos:Pos}(hg:Gl X "range")(hm:X.mg "range"=none)(ha:PA X [a] ta)(hs:starEach [a] X.env=[(false,eval a X.env)]:=by rfl):PI X tg (.Call (.Name "range" p) [a] [] pos) (WS ta):=by
 intro pins s σ H R I h
 refine Call_ (tQ I hg hm boot_range (PyProof.Rows.callWith_type1 (thn (ha pos pins s σ H _ I h) fun us s1 ⟨vs,H1,I1,r1,q1⟩=>?_) hs rfl))
 obtain⟨j,e,q1,q2,q⟩:=q1
 subst e
 cases r1 with
 |cons r rr=>
  cases rr
  obtain⟨t,rfl⟩:=r
  exact call_range_1 (mM I1 (by omega) (by omega) q1 q2 (by simpa using q))
theorem iy{a b:Expr}{ta:TA}{p pos:Pos}(hg:Gl X "range")(hm:X.mg "range"=none)(ha:PA X [a,b] ta)(hs:starEach [a,b] X.env=[(false,eval a X.env),(false,eval b X.env)]:=by rfl)(hs2:starEach [b] X.env=[(false,eval b X.env)]:=by rfl) :
 PI X tg (.Call (.Name "range" p) [a,b] [] pos) (WT ta):=by
 intro pins s σ H R I h
 refine Call_ (tQ I hg hm boot_range (PyProof.Rows.callWith_type1 (thn (ha pos pins s σ H _ I h) fun us s1 ⟨vs,H1,I1,r1,q1⟩=>?_) (by rw[hs,hs2]) (by rw[hs2];rfl)))
 obtain⟨i,j,e,⟨q1,q2,q3,q4⟩,q⟩:=q1
 subst e
 cases r1 with
 |cons r rr=>
  cases rr with
  |cons r' rr=>
   cases rr
   obtain⟨t,rfl⟩:=r
   obtain⟨t',rfl⟩:=r'
   exact call_range_2 (mM I1 q1 q2 q3 q4 q)
noncomputable def UL(wi:TI)(g:TG)(tb:TS):TS:=fun D σ H=>wi σ H fun J H1=>∃W:Nat→Nat→St→Hp→Prop,(∃m,W 0 m σ H1)∧∀i m σ H,W i m σ H →
 (J.stop i H∧D.nx σ H)∨(J.go i H∧∃N:St→Hp→Prop,(∀σ' H',N σ' H'→∃m',m'<m∧W (i+1) m' σ' H')∧∀x H',J.yld i H x H'→g x σ H' fun σ2 H2=>tb {D with nx:=N,ct:=N,bk:=D.nx} σ2 H2)
noncomputable def r8(fp:List Addr)(h:Heap):List (Addr × Obj):=fp.filterMap fun b=>(h.get? b).map fun o=>(b,o)
theorem vI{fp:List Addr}{h:Heap}{b:Addr}{o:Obj}(hb:b∈fp)(e:h.get? b=some o):(b,o)∈r8 fp h:=List.mem_filterMap.mpr ⟨b,hb,by rw[e];rfl⟩
theorem iV{fp:List Addr}{h:Heap}{p:Addr × Obj}(hp:p∈r8 fp h):p.1∈fp∧h.get? p.1=some p.2:=by
 obtain⟨b,hb,e⟩:=List.mem_filterMap.mp hp
 cases q:h.get? b with
 |none=>rw[q]at e;cases e
 |some o=>
  rw[q]at e
  have e':(b,o)=p:=Option.some.inj e
  subst e'
  exact⟨hb,q⟩
theorem Inv.pinned{pins:List (Addr × Obj)}{σ:St}{H:Hp}{s:Shared}{fp:List Addr}(I:Inv X pins σ H s)(hf:∀b∈fp,uB X pins H b)(ho:∀b∈fp,∃o,s.heap.get? b=some o∧∀v,o.data≠.cell v):Inv X (pins++r8 fp s.heap) σ H s:=
 I.jd fun p hp=>(List.mem_append.mp hp).elim (fun z=>I.pin p (List.mem_append_right _ z)) fun z=>by
   obtain⟨hb,e⟩:=iV z
   obtain⟨f0,f1,f2,_⟩:=hf p.1 hb
   obtain⟨o,e',d⟩:=ho p.1 hb
   rw[e]at e';cases e'
   exact⟨e,f0,f1,f2,d⟩
theorem Inv.u6{pins pl:List (Addr × Obj)}{σ:St}{H:Hp}{s:Shared}(I:Inv X (pins++pl) σ H s):Inv X pins σ H s:=I.jd fun p hp=>I.pin p (List.mem_append_right _ (List.mem_append_left _ hp))
theorem XQ{iter:Expr}{body:List Stmt}{wi:TI}{g:TG}{tb:TS}{pos:Pos}(hp:PassesOwn (model X.prog X.w) X.A X.env X.xe)(hc:X.calm=true)(hi:PI X tg iter wi)(hg:PG X tg g)(hb:PSs X body tb)
 (hs:∀x,foldedSetIterable iter X.env x=pure x:=by intro _;rfl):PS X (.For tg iter body [] pos) (UL wi g tb):=by
 intro pins s σ H D I h
 refine wpAny_For (thn (hi pins s σ H _ I h) fun v s1 h1=>thn h1 fun itv s2 h2=>?_) hs
 obtain⟨it,fp,tn,J,H2,e,I2,T,st2,f2,W,⟨m0,w0⟩,turn⟩:=h2
 subst e
 -- what stays true of the iterator's objects through the loop
 have stat:∀{H':Hp},(∀b∈fp,H' b=none)→∀b∈fp,uB X pins H' b:=fun hn b hb=>⟨hn b hb,(f2 b hb).2⟩
 refine codeAny_forLoop_any (fun n s'=>∃i σ' H',Inv X pins σ' H' s'∧tn i s'.heap∧(∀b∈fp,H' b=none)∧W i n σ' H') ?_ m0 ⟨0,σ,H2,I2,st2,fun b hb=>(f2 b hb).1,w0⟩
 rintro n s3 ⟨i,σ3,H3,I3,st3,fr3,w3⟩
 rcases turn i n σ3 H3 w3 with⟨stop,qn⟩|⟨go,N,hN,step⟩
 . refine wpAny_passesOwn hp (thn (T.done X rfl rfl rfl hc i pins s3 σ3 H3 X.xe I3 (stat fr3) st3 stop) fun r s4 ⟨hr,I4⟩=>?_)
   subst hr
   exact wpAny_execs_nil ⟨σ3,H3,I4,qn⟩
 . refine wpAny_passesOwn hp (thn (T.item X rfl rfl rfl hc i pins s3 σ3 H3 X.xe I3 (stat fr3) st3 go) fun r s4 ⟨u,hr,h4⟩=>?_)
   subst hr
   refine wpAny_passesOwn hp (thn h4 fun _ s5 ⟨x,H5,I5,r5,y5,st5,fr5⟩=>?_)
   have I5':=I5.pinned (stat fr5) (T.obj _ _ st5)
   refine wpAny_passesOwn hp (thn (hg _ s5 σ3 H5 x u _ I5' r5 (step x H5 y5)) fun _ s6 ⟨σ6,H6,I6,q6⟩=>?_)
   refine wpAny_passesOwn hp (thn (hb _ s6 σ6 H6 _ I6 q6) fun f s7 q7=>?_)
   have again:∀{σ7:St} {H7:Hp},Inv X (pins++r8 fp s5.heap) σ7 H7 s7→N σ7 H7→∃m,m<n∧∃i σ' H',Inv X pins σ' H' s7∧tn i s7.heap∧(∀b∈fp,H' b=none)∧W i m σ' H':=fun{σ7 H7} I7 n7=>by
    obtain⟨m',hm,w7⟩:=hN σ7 H7 n7
    refine⟨m',hm,i+1,σ7,H7,I7.u6,T.keep _ _ _ st5 fun b hb o e=>(I7.pin (b,o) (List.mem_append_right _ (List.mem_append_right _ (vI hb e)))).1,fun b hb=>?_,w7⟩
    obtain⟨o,e,d⟩:=T.obj _ _ st5 b hb
    exact(I7.pin (b,o) (List.mem_append_right _ (List.mem_append_right _ (vI hb e)))).2.1
   cases f with
   |next=>obtain⟨σ7,H7,I7,n7⟩:=q7;exact again I7 n7
   |cont=>obtain⟨σ7,H7,I7,n7⟩:=q7;exact again I7 n7
   |brk=>obtain⟨σ7,H7,I7,q7⟩:=q7;exact⟨σ7,H7,I7.u6,q7⟩
   |ret v=>obtain⟨x7,σ7,H7,I7,r7,q7⟩:=q7;exact⟨x7,σ7,H7,I7.u6,r7,q7⟩
end
end L2
namespace L2
open PySem PySem.Spec PyProof.Rows
noncomputable abbrev R2:=V→V→Hp→VK→Prop
def OpR(X:Cx)(f:Value→Value→Sem Value)(r:R2):Prop:=
 ∀(pins:List (Addr × Obj)) (s:Shared) (σ:St) (H:Hp) (x y:V) (v u:Value) (Q:VK),Inv X pins σ H s→RelV x v→RelV y u→r x y H Q →
  wpAny (model X.prog X.w) X.A (f v u) (EP X pins σ Q) X.xe s
def yQ(X:Cx)(f:Value)(r:List V→Hp→VK→Prop):Prop:=
 ∀(pins:List (Addr × Obj)) (s:Shared) (σ:St) (H:Hp) (xs:List V) (us:List Value) (Q:VK),Inv X pins σ H s→Vals xs us→r xs H Q →
  wpAny (model X.prog X.w) X.A (call f us) (EP X pins σ Q) X.xe s
def Vw(X:Cx)(r:V→Hp→(Bool→Hp→Prop)→Prop):Prop:=
 ∀(pins:List (Addr × Obj)) (s:Shared) (σ:St) (H:Hp) (x:V) (v:Value) (Q:Bool→Hp→Prop),Inv X pins σ H s→RelV x v→r x H Q →
  wpAny (model X.prog X.w) X.A (truthy v) (TP X pins σ Q) X.xe s
noncomputable def tOp(r:R2)(ta tb:TE):TE:=fun σ H Q=>ta σ H fun x H1=>tb σ H1 fun y H2=>r x y H2 Q
noncomputable def tUn(r:V→Hp→VK→Prop)(ta:TE):TE:=fun σ H Q=>ta σ H fun x H1=>r x H1 Q
noncomputable def rI(C:Int→Int→Prop)(g:Int→Int→V):R2:=fun x y H Q=>∃i j,x=.int i∧y=.int j∧C i j∧Q (g i j) H
noncomputable def rI0(g:Int→Int→V):R2:=fun x y H Q=>∃i j,x=.int i∧y=.int j∧Q (g i j) H
section
variable {X:Cx}{a b c:Expr}{ta tb tc:TE}{pos:Pos}
theorem Ze(ha:PE X a ta)(hb:PE X b tb){pins:List (Addr × Obj)}{s:Shared}{σ:St}{H:Hp}{R:V→V→Hp→Prop}(I:Inv X pins σ H s)
 (h:ta σ H fun x H1=>tb σ H1 fun y H2=>R x y H2) {Q:Value→Shared→Prop} {f:Value→Value→Sem Value}
 (hf:∀v u s2 x y H2,Inv X pins σ H2 s2→RelV x v→RelV y u→R x y H2→wpAny (model X.prog X.w) X.A (f v u) Q X.xe s2) :
 wpAny (model X.prog X.w) X.A (eval a X.env) (fun v s₁=>wpAny (model X.prog X.w) X.A (eval b X.env) (fun u s₂=>wpAny (model X.prog X.w) X.A (f v u) Q X.xe s₂) X.xe s₁) X.xe s:=by
 refine thn (ha pins s σ H _ I h) fun v s1 ⟨x,H1,I1,r1,q1⟩=>?_
 refine thn (hb pins s1 σ H1 _ I1 q1) fun u s2 ⟨y,H2,I2,r2,q2⟩=>?_
 exact hf v u s2 x y H2 I2 r1 r2 q2
theorem VF{op:Operator}{r:R2}(ho:OpR X (binaryOp op) r)(ha:PE X a ta)(hb:PE X b tb):PE X (.BinOp a op b pos) (tOp r ta tb):=by
 intro pins s σ H Q I h
 exact wpAny_BinOp (Ze ha hb I h fun v u s2 x y H2 I2 rx ry q=>ho pins s2 σ H2 x y v u Q I2 rx ry q)
theorem opI{f:Value→Value→Sem Value}{C:Int→Int→Prop}{g:Int→Int→Int}
 (rule:∀(i j:Int) (t u:Tok) (s:Shared) (Q:Value→Shared→Prop) (E:Value→Shared→Prop),C i j→Q (.int (g i j) s.toks) {s with toks:=s.toks+1}→wpAny (model X.prog X.w) X.A (f (.int i t) (.int j u)) Q E s) :
 OpR X f (rI C fun i j=>.int (g i j)):=by
 intro pins s σ H x y v u Q I rx ry h
 obtain⟨i,j,rfl,rfl,hc,q⟩:=h
 obtain⟨t,rfl⟩:=rx
 obtain⟨t',rfl⟩:=ry
 exact rule i j t t' s _ _ hc ⟨.int (g i j),H,I.tok _,⟨_,rfl⟩,q⟩
theorem bZ{f:Value→Value→Sem Value}{g:Int→Int→Int}
 (rule:∀(i j:Int) (t u:Tok) (s:Shared) (Q:Value→Shared→Prop) (E:Value→Shared→Prop),Q (.int (g i j) s.toks) {s with toks:=s.toks+1}→wpAny (model X.prog X.w) X.A (f (.int i t) (.int j u)) Q E s) :
 OpR X f (rI0 fun i j=>.int (g i j)):=by
 intro pins s σ H x y v u Q I rx ry h
 obtain⟨i,j,rfl,rfl,q⟩:=h
 obtain⟨t,rfl⟩:=rx
 obtain⟨t',rfl⟩:=ry
 exact rule i j t t' s _ _ ⟨.int (g i j),H,I.tok _,⟨_,rfl⟩,q⟩
theorem bY{f:Value→Value→Sem Value}{g:Int→Int→Bool}
 (rule:∀(i j:Int) (t u:Tok) (s:Shared) (Q:Value→Shared→Prop) (E:Value→Shared→Prop),Q (.bool (g i j)) s→wpAny (model X.prog X.w) X.A (f (.int i t) (.int j u)) Q E s) :
 OpR X f (rI0 fun i j=>.bl (g i j)):=by
 intro pins s σ H x y v u Q I rx ry h
 obtain⟨i,j,rfl,rfl,q⟩:=h
 obtain⟨t,rfl⟩:=rx
 obtain⟨t',rfl⟩:=ry
 exact rule i j t t' s _ _ ⟨.bl (g i j),H,I,rfl,q⟩
def X2(i j:Int):Prop:=0<j∧j<1073741824
def Vu(i j:Int):Prop:=0≤j∧j≤1000000∧i.natAbs<2 ^ 64
def cC(i j:Int):Prop:=(-(2 ^ 64)<i∧i<2 ^ 64)∨(-(2 ^ 64)<j∧j<2 ^ 64)
theorem cC.ok{i j:Int}(h:cC i j):IntMulOk i j:=by
 rcases h with⟨h1,h2⟩|⟨h1,h2⟩
 . exact .of_left (intBits_le_64 h1 h2)
 . exact .of_right (intBits_le_64 h1 h2)
theorem Yl:OpR X (binaryOp .Add) (rI0 fun i j=>.int (i+j)):=bZ fun _ _ _ _ _ _ _ q=>add_int q
theorem Yt:OpR X (binaryOp .Sub) (rI0 fun i j=>.int (i-j)):=bZ fun _ _ _ _ _ _ _ q=>sub_int q
theorem Yq:OpR X (binaryOp .Mult) (rI cC fun i j=>.int (i*j)):=opI fun _ _ _ _ _ _ _ hc q=>mul_int q hc.ok
theorem bb:OpR X (binaryOp .FloorDiv) (rI X2 fun i j=>.int (i/j)):=opI fun i j _ _ _ _ _ hc q=>by
 have h1:(0:Int)<j:=hc.1
 have h2:j<1073741824:=hc.2
 exact floordiv_int (by omega) (by rw[Int.fdiv_eq_ediv_of_nonneg i (by omega)];exact q) (.inl (PyProof.noPylong_small (by omega)))
theorem Yp:OpR X (binaryOp .Mod) (rI (fun _ j=>0<j) fun i j=>.int (i%j)):=opI fun i j _ _ _ _ _ hc q=>by
 have h1:(0:Int)<j:=hc
 exact mod_int' (by omega) (by rw[Int.fmod_eq_emod_of_nonneg i (by omega)];exact q)
theorem Yr:OpR X (binaryOp .Pow) (rI Vu fun i j=>.int (i ^ j.toNat)):=opI fun _ _ _ _ _ _ _ hc q=>pow_int_small hc.1 hc.2.1 hc.2.2 q
theorem cZ:OpR X (inplaceOp .Add) (rI0 fun i j=>.int (i+j)):=bZ fun _ _ _ _ _ _ _ q=>iadd_int q
theorem cm:OpR X (inplaceOp .Sub) (rI0 fun i j=>.int (i-j)):=bZ fun _ _ _ _ _ _ _ q=>isub_int q
theorem cj:OpR X (inplaceOp .Mult) (rI cC fun i j=>.int (i*j)):=opI fun _ _ _ _ _ _ _ hc q=>imul_int q hc.ok
theorem fA:OpR X (inplaceOp .FloorDiv) (rI X2 fun i j=>.int (i/j)):=opI fun i j _ _ _ _ _ hc q=>by
 have h1:(0:Int)<j:=hc.1
 have h2:j<1073741824:=hc.2
 exact ifloordiv_int (by omega) (by rw[Int.fdiv_eq_ediv_of_nonneg i (by omega)];exact q) (.inl (PyProof.noPylong_small (by omega)))
theorem cg:OpR X (inplaceOp .Mod) (rI (fun _ j=>0<j) fun i j=>.int (i%j)):=opI fun i j _ _ _ _ _ hc q=>by
 have h1:(0:Int)<j:=hc
 exact imod_int (by omega) (by rw[Int.fmod_eq_emod_of_nonneg i (by omega)];exact q)
end
noncomputable def VY:V→V→Bool
 |.non,.non=>true|.non,.int _=>true|.int _,.non=>true|.non,.bl _=>true|.bl _,.non=>true|.non,.str _=>true|.str _,.non=>true
 |.int _,.int _=>true|.bl _,.bl _=>true|.str _,.str _=>true|.byt _,.byt _=>true
 |.int _,.str _=>true|.str _,.int _=>true|.bl _,.str _=>true|.str _,.bl _=>true
 |_,_=>false
noncomputable def rEq:R2:=fun x y H Q=>VY x y=true∧Q (.bl (decide (x=y))) H
noncomputable def rNe:R2:=fun x y H Q=>VY x y=true∧Q (.bl (!decide (x=y))) H
theorem kj{i j:Int}:decide (V.int i=V.int j)=(i == j):=by
 rw[Bool.eq_iff_iff]
 simp
theorem gg{i j:Bool}:decide (V.bl i=V.bl j)=(i == j):=by
 rw[Bool.eq_iff_iff]
 simp
theorem km{i j:Str}:decide (V.str i=V.str j)=(i == j):=by
 rw[Bool.eq_iff_iff]
 simp
theorem kh{i j:Array UInt8}:decide (V.byt i=V.byt j)=(i.toList == j.toList):=by
 rw[Bool.eq_iff_iff]
 cases i
 cases j
 simp
section
variable {X:Cx}{a b c:Expr}{ta tb tc:TE}{pos:Pos}
theorem zp{pins:List (Addr × Obj)}{σ:St}{H:Hp}{s:Shared}{Q:VK}{k k':Bool}(I:Inv X pins σ H s)(q:Q (.bl k) H)(e:k=k'):EP X pins σ Q (.bool k') s:=by
 subst e
 exact⟨.bl k,H,I,rfl,q⟩
theorem Wr:OpR X (compareOp .Eq) rEq:=by
 intro pins s σ H x y v u Q I rx ry h
 obtain⟨hs,q⟩:=h
 cases x with
 |non=>
  cases rx
  cases y with
  |non=>cases ry;exact PySem.EqNone.eq_none_none (zp I q (by simp))
  |bl j=>cases ry;exact PySem.EqNone.eq_none_bool (zp I q (by simp))
  |int j=>obtain⟨t',rfl⟩:=ry;exact PySem.EqNone.eq_none_int (zp I q (by simp))
  |str j=>obtain⟨t',rfl⟩:=ry;exact PySem.EqNone.eq_none_str (zp I q (by simp))
  |_=>exact absurd (show false=true from hs) Bool.false_ne_true
 |bl i=>
  cases rx
  cases y with
  |non=>cases ry;exact PySem.EqNone.eq_bool_none (zp I q (by simp))
  |bl j=>cases ry;exact eq_bool (zp I q gg)
  |str j=>obtain⟨t',rfl⟩:=ry;exact PySem.EqMixed.eq_bool_str (zp I q (by simp))
  |_=>exact absurd (show false=true from hs) Bool.false_ne_true
 |int i=>
  obtain⟨t,rfl⟩:=rx
  cases y with
  |non=>cases ry;exact PySem.EqNone.eq_int_none (zp I q (by simp))
  |int j=>obtain⟨t',rfl⟩:=ry;exact eq_int (zp I q kj)
  |str j=>obtain⟨t',rfl⟩:=ry;exact PySem.EqMixed.eq_int_str (zp I q (by simp))
  |_=>exact absurd (show false=true from hs) Bool.false_ne_true
 |str i=>
  obtain⟨t,rfl⟩:=rx
  cases y with
  |non=>cases ry;exact PySem.EqNone.eq_str_none (zp I q (by simp))
  |bl j=>cases ry;exact PySem.EqMixed.eq_str_bool (zp I q (by simp))
  |int j=>obtain⟨t',rfl⟩:=ry;exact PySem.EqMixed.eq_str_int (zp I q (by simp))
  |str j=>obtain⟨t',rfl⟩:=ry;exact eq_str (zp I q km)
  |_=>exact absurd (show false=true from hs) Bool.false_ne_true
 |byt i=>
  obtain⟨t,rfl⟩:=rx
  cases y with
  |byt j=>obtain⟨t',rfl⟩:=ry;exact PySem.W.eq_bytes (zp I q kh)
  |_=>exact absurd (show false=true from hs) Bool.false_ne_true
 |_=>cases y<;>exact absurd (show false=true from hs) Bool.false_ne_true
theorem Ww:OpR X (compareOp .NotEq) rNe:=by
 intro pins s σ H x y v u Q I rx ry h
 obtain⟨hs,q⟩:=h
 cases x with
 |non=>
  cases rx
  cases y with
  |non=>cases ry;exact PySem.EqNone.ne_none_none (zp I q (by simp))
  |bl j=>cases ry;exact PySem.EqNone.ne_none_bool (zp I q (by simp))
  |int j=>obtain⟨t',rfl⟩:=ry;exact PySem.EqNone.ne_none_int (zp I q (by simp))
  |str j=>obtain⟨t',rfl⟩:=ry;exact PySem.EqNone.ne_none_str (zp I q (by simp))
  |_=>exact absurd (show false=true from hs) Bool.false_ne_true
 |bl i=>
  cases rx
  cases y with
  |non=>cases ry;exact PySem.EqNone.ne_bool_none (zp I q (by simp))
  |bl j=>cases ry;exact ne_bool (zp I q (congrArg not gg))
  |str j=>obtain⟨t',rfl⟩:=ry;exact PySem.EqMixed.ne_bool_str (zp I q (by simp))
  |_=>exact absurd (show false=true from hs) Bool.false_ne_true
 |int i=>
  obtain⟨t,rfl⟩:=rx
  cases y with
  |non=>cases ry;exact PySem.EqNone.ne_int_none (zp I q (by simp))
  |int j=>obtain⟨t',rfl⟩:=ry;exact ne_int (zp I q (congrArg not kj))
  |str j=>obtain⟨t',rfl⟩:=ry;exact PySem.EqMixed.ne_int_str (zp I q (by simp))
  |_=>exact absurd (show false=true from hs) Bool.false_ne_true
 |str i=>
  obtain⟨t,rfl⟩:=rx
  cases y with
  |non=>cases ry;exact PySem.EqNone.ne_str_none (zp I q (by simp))
  |bl j=>cases ry;exact PySem.EqMixed.ne_str_bool (zp I q (by simp))
  |int j=>obtain⟨t',rfl⟩:=ry;exact PySem.EqMixed.ne_str_int (zp I q (by simp))
  |str j=>obtain⟨t',rfl⟩:=ry;exact ne_str (zp I q (congrArg not km))
  |_=>exact absurd (show false=true from hs) Bool.false_ne_true
 |byt i=>
  obtain⟨t,rfl⟩:=rx
  cases y with
  |byt j=>obtain⟨t',rfl⟩:=ry;exact PySem.W.ne_bytes (zp I q (congrArg not kh))
  |_=>exact absurd (show false=true from hs) Bool.false_ne_true
 |_=>cases y<;>exact absurd (show false=true from hs) Bool.false_ne_true
theorem Wv:OpR X (compareOp .Lt) (rI0 fun i j=>.bl (decide (i<j))):=bY fun _ _ _ _ _ _ _ q=>lt_int q
theorem Wu:OpR X (compareOp .LtE) (rI0 fun i j=>.bl (decide (i≤j))):=bY fun _ _ _ _ _ _ _ q=>le_int q
theorem Wt:OpR X (compareOp .Gt) (rI0 fun i j=>.bl (decide (j<i))):=bY fun _ _ _ _ _ _ _ q=>gt_int q
theorem Ws:OpR X (compareOp .GtE) (rI0 fun i j=>.bl (decide (j≤i))):=bY fun _ _ _ _ _ _ _ q=>ge_int q
theorem Yo:OpR X (compareOp .Is) (fun x y H Q=>y=.non∧Q (.bl (decide (x=.non))) H):=by
 intro pins s σ H x y v u Q I rx ry h
 obtain⟨rfl,q⟩:=h
 cases ry
 refine is_none_gen (zp I q ?_)
 cases x<;>first
  |(cases rx;rfl)
  |(obtain⟨t,rfl⟩:=rx;rfl)
theorem bz{op:CmpOp}{r:R2}(ho:OpR X (compareOp op) r)(ha:PE X a ta)(hb:PE X b tb)(hm:behindInMarks op b=false):PE X (.Compare a [op] [b] pos) (tOp r ta tb):=by
 intro pins s σ H Q I h
 exact wpAny_Compare1 (Ze ha hb I h fun v u s2 x y H2 I2 rx ry q=>ho pins s2 σ H2 x y v u Q I2 rx ry q) hm
noncomputable def ZT(t:TE):TT:=fun σ H Q=>t σ H fun x H'=>∃k,x=.bl k∧Q k H'
theorem aH{op:CmpOp}{r:R2}(ho:OpR X (compareOp op) r)(ha:PE X a ta)(hb:PE X b tb)(hm:behindInMarks op b=false):PT X (.Compare a [op] [b] pos) (ZT (tOp r ta tb)):=by
 intro pins s σ H Q I h
 refine wpAny_isTrue_Compare1 (thn (ha pins s σ H _ I h) fun v s1 ⟨x,H1,I1,r1,q1⟩=>thn (hb pins s1 σ H1 _ I1 q1) fun u s2 ⟨y,H2,I2,r2,q2⟩=>
  thn (ho pins s2 σ H2 x y v u _ I2 r1 r2 q2) fun c s3 ⟨z,H3,I3,r3,k,e,q3⟩=>?_) hm
 subst e
 cases r3
 exact wpAny_truthy_bool ⟨H3,I3,q3⟩
noncomputable def dk(r r':R2)(ta tb tc:TE):TE:=fun σ H Q=>ta σ H fun x H1=>tb σ H1 fun y H2=>r x y H2 fun z H3=>∃k,z=.bl k ∧
 (if k=true then tc σ H3 fun w' H4=>r' y w' H4 Q else Q (.bl false) H3)
theorem eK{op op':CmpOp}{r r':R2}(ho:OpR X (compareOp op) r)(ho':OpR X (compareOp op') r')(ha:PE X a ta)(hb:PE X b tb)(hc:PE X c tc)
 (hm:lastMarks [op,op'] [b,c]=false:=by with_unfolding_all rfl):PE X (.Compare a [op,op'] [b,c] pos) (dk r r' ta tb tc):=by
 intro pins s σ H Q I h
 refine Compare_chain (thn (ha pins s σ H _ I h) fun v s1 ⟨x,H1,I1,r1,q1⟩=>chain_link (thn (hb pins s1 σ H1 _ I1 q1) fun u s2 ⟨y,H2,I2,r2,q2⟩=>
  thn (ho pins s2 σ H2 x y v u _ I2 r1 r2 q2) fun d s3 ⟨z,H3,I3,r3,k,e,q3⟩=>?_)) hm
 subst e
 cases r3
 refine wpAny_truthy_bool ?_
 cases k with
 |false=>exact ite_ff ⟨.bl false,H3,I3,rfl,q3⟩
 |true=>exact ite_tt (chain_last (thn (hc pins s3 σ H3 _ I3 q3) fun w' s4 ⟨z',H4,I4,r4,q4⟩=>ho' pins s4 σ H4 y z' u w' Q I4 r2 r4 q4))
theorem eo{op op':CmpOp}{r r':R2}(ho:OpR X (compareOp op) r)(ho':OpR X (compareOp op') r')(ha:PE X a ta)(hb:PE X b tb)(hc:PE X c tc)
 (hm:lastMarks [op,op'] [b,c]=false:=by with_unfolding_all rfl):PT X (.Compare a [op,op'] [b,c] pos) (ZT (dk r r' ta tb tc)):=by
 intro pins s σ H Q I h
 refine isTrue_chain (thn (ha pins s σ H _ I h) fun v s1 ⟨x,H1,I1,r1,q1⟩=>test_link (thn (hb pins s1 σ H1 _ I1 q1) fun u s2 ⟨y,H2,I2,r2,q2⟩=>
  thn (ho pins s2 σ H2 x y v u _ I2 r1 r2 q2) fun d s3 ⟨z,H3,I3,r3,k,e,q3⟩=>?_)) hm
 subst e
 cases r3
 refine wpAny_truthy_bool ?_
 cases k with
 |false=>
  obtain⟨k',e',q'⟩:=q3
  cases e'
  exact ite_ff ⟨H3,I3,q'⟩
 |true=>
  refine ite_tt (test_last (thn (hc pins s3 σ H3 _ I3 q3) fun w' s4 ⟨z',H4,I4,r4,q4⟩=>thn (ho' pins s4 σ H4 y z' u w' _ I4 r2 r4 q4) fun d' s5 ⟨z2,H5,I5,r5,k2,e2,q5⟩=>?_))
  subst e2
  cases r5
  exact wpAny_truthy_bool ⟨H5,I5,q5⟩
def cG(K:PySem.W.Frag)(x:V)(H:Hp)(k:Bool):Prop:=
 match x with
 |.non=>k=false
 |.bl b=>k=b
 |.int i=>k=(i != 0)
 |.str y=>y.length≤sizeLine∧k=((y.length:Int) != 0)
 |.byt y=>y.size≤sizeLine∧k=((y.size:Int) != 0)
 |.ref p=>(∃xs,SqL K H p xs∧k=!xs.isEmpty)∨(∃xs,SqT K H p xs∧k=!xs.isEmpty)∨∃kvs,H p=some (.dK kvs)∧k=!kvs.isEmpty
 |_=>False
theorem lF{κ:Type}{kvs:List (κ × V)}{vs:List (κ × Value)}(r:KV kvs vs):(!vs.isEmpty)=!kvs.isEmpty:=by
 cases r<;>rfl
theorem rS{xs:List V}{its:List Value}(r:Vals xs its):(!its.toArray.isEmpty)=!xs.isEmpty:=by
 cases r<;>simp
theorem uK:(sizeLine:Nat)<2 ^ 63:=by rw[sizeLine_eq];decide
theorem dq:Vw X (fun x H Q=>∃k,cG X.K x H k∧Q k H):=by
 intro pins s σ H x v Q I rx h
 obtain⟨k,e,q⟩:=h
 have hl:=uK
 have hs:sizeLine=16777216:=sizeLine_eq
 cases x with
 |non=>
  cases rx
  have e':k=false:=e
  subst e'
  exact truthy_none ⟨H,I,q⟩
 |bl b=>
  cases rx
  have e':k=b:=e
  subst e'
  exact wpAny_truthy_bool ⟨H,I,q⟩
 |int i=>
  obtain⟨t,rfl⟩:=rx
  have e':k=(i != 0):=e
  subst e'
  exact PySem.P.truthy_int ⟨H,I,q⟩
 |str y=>
  obtain⟨t,rfl⟩:=rx
  obtain⟨hy,e'⟩:y.length≤sizeLine∧k=((y.length:Int) != 0):=e
  subst e'
  exact PySem.P.truthy_str (by omega) ⟨H,I.tok _,q⟩
 |byt y=>
  obtain⟨t,rfl⟩:=rx
  obtain⟨hy,e'⟩:y.size≤sizeLine∧k=((y.size:Int) != 0):=e
  subst e'
  exact PySem.W.truthy_bytes (by omega) ⟨H,I.tok _,q⟩
 |ref p=>
  cases rx
  have e':(∃xs,SqL X.K H p xs∧k=!xs.isEmpty)∨(∃xs,SqT X.K H p xs∧k=!xs.isEmpty)∨∃kvs,H p=some (.dK kvs)∧k=!kvs.isEmpty:=e
  rcases e' with⟨xs,hx,e'⟩|⟨xs,hx,e'⟩|⟨kvs,hx,e'⟩
  . subst e'
    obtain⟨its,r,pl,hz⟩:=I.list hx
    have hlen:=r.length
    exact wpAny_truthy_list pl.isList (by simp only[List.size_toArray];omega) ⟨H,I.tok _,by rw[rS r];exact q⟩
  . subst e'
    obtain⟨its,r,pl,hz⟩:=I.tuple hx
    have hlen:=r.length
    exact truthy_tuple pl (by simp only[List.size_toArray];omega) ⟨H,I.tok _,by rw[rS r];exact q⟩
  . subst e'
    obtain⟨hz,hS,vs,r,m⟩:kvs.length≤sizeLine∧(p == sysModules)=false∧∃vs,KV kvs vs∧s.heap.DictOf (yr X.prog X.w) p vs:=I.hok p _ hx
    have hlen:kvs.length=vs.length:=Paired.length r
    exact wpAny_truthy_dict hS m (by omega) ⟨H,I.tok _,by rw[lF r];exact q⟩
 |_=>exact(show False from e).elim
theorem eu(ha:PE X a ta)(he:∀whole,isTrue a X.env whole=(do let v ←whole;standAt a.pos;holding [v] (truthy v))) :
 PT X a (fun σ H Q=>ta σ H fun x H'=>∃k,cG X.K x H' k∧Q k H'):=by
 intro pins s σ H Q I h
 exact isTrue_plain (thn (ha pins s σ H _ I h) fun v s1 ⟨x,H1,I1,r1,q1⟩=>dq pins s1 σ H1 x v Q I1 r1 q1) (he _)
theorem lR:OpR X (binaryOp .Add) (fun x y H Q=>∃i j,x=.str i∧y=.str j∧i.length+j.length≤sizeLine∧Q (.str (i++j)) H):=by
 intro pins s σ H x y v u Q I rx ry h
 obtain⟨i,j,rfl,rfl,hz,q⟩:=h
 obtain⟨t,rfl⟩:=rx
 obtain⟨t',rfl⟩:=ry
 exact add_str (fun t' tk=>⟨.str (i++j),H,I.tok _,⟨_,rfl⟩,q⟩) hz
theorem vals1{x:V}{us:List Value}(r:Vals [x] us):∃u,us=[u]∧RelV x u:=by
 cases r with
 |cons r1 r2=>cases r2;exact⟨_,rfl,r1⟩
theorem vals2{x y:V}{us:List Value}(r:Vals [x,y] us):∃u w',us=[u,w']∧RelV x u∧RelV y w':=by
 cases r with
 |cons r1 r2=>
  cases r2 with
  |cons r3 r4=>cases r4;exact⟨_,_,rfl,r1,r3⟩
theorem ju(hc:X.calm=true):yQ X (.builtin "max") (fun xs H Q=>∃i j,xs=[.int i,.int j]∧Q (.int (if j > i then j else i)) H):=by
 intro pins s σ H xs us Q I r h
 obtain⟨i,j,rfl,q⟩:=h
 obtain⟨u,w',rfl,⟨t,rfl⟩,⟨t',rfl⟩⟩:=vals2 r
 refine max_two_ints (I.ok.hd hc) fun h' tk k=>⟨_,H,I.kept k,?_,q⟩
 by_cases hj:j > i
 . rw[if_pos hj,if_pos hj];exact⟨_,rfl⟩
 . rw[if_neg hj,if_neg hj];exact⟨_,rfl⟩
theorem jx(hc:X.calm=true):yQ X (.builtin "min") (fun xs H Q=>∃i j,xs=[.int i,.int j]∧Q (.int (if j<i then j else i)) H):=by
 intro pins s σ H xs us Q I r h
 obtain⟨i,j,rfl,q⟩:=h
 obtain⟨u,w',rfl,⟨t,rfl⟩,⟨t',rfl⟩⟩:=vals2 r
 refine min_two_ints (I.ok.hd hc) fun h' tk k=>⟨_,H,I.kept k,?_,q⟩
 by_cases hj:j<i
 . rw[if_pos hj,if_pos hj];exact⟨_,rfl⟩
 . rw[if_neg hj,if_neg hj];exact⟨_,rfl⟩
theorem pA:yQ X (.type "int") (fun xs H Q=>(∃i,xs=[.int i]∧Q (.int i) H)∨∃k,xs=[.bl k]∧Q (.int (if k then 1 else 0)) H):=by
 intro pins s σ H xs us Q I r h
 rcases h with⟨i,rfl,q⟩|⟨k,rfl,q⟩
 . obtain⟨u,rfl,t,rfl⟩:=vals1 r
   exact call_int_int ⟨.int i,H,I,⟨_,rfl⟩,q⟩
 . obtain⟨u,rfl,r1⟩:=vals1 r
   cases r1
   exact call_int_bool ⟨.int (if k then 1 else 0),H,I.tok _,⟨_,rfl⟩,q⟩
end
end L2
namespace L2
open PySem PySem.Spec PyProof.Rows
structure ZY(h:Heap)(x dx C:Addr)(mA:Str→Option Value):Prop where
 obj:h.get? x=some (PySem.W.instObj C dx)
 ns:h.Ns1 dx mA
 ne:dx≠x
theorem iQ{h:Heap}{dx:Addr}{mA:Str→Option Value}(n:h.Ns1 dx mA):∃od,h.get? dx=some od∧∀name,PySem.W.lookIn name od=some (mA name):=by
 obtain⟨o,es,ep,ho,hd,hk,_,hm⟩:=n
 refine⟨o,ho,fun name=>?_⟩
 have e:=hm name
 unfold nsFind findBy at e
 rw[←Array.find?_toList]at e
 unfold PySem.W.lookIn
 rw[hd]
 dsimp only
 split
 . rename_i y q
   rw[q]at e
   exact congrArg some e
 . rename_i q
   rw[q]at e
   have a:es.toList.any (·.refKey)=false:=by
    rw[List.any_eq_false]
    intro y hy
    obtain⟨z,t,hkey⟩:=hk y (Array.mem_toList_iff.mp hy)
    simp[DictEntry.refKey,hkey]
   have a':¬es.toList.any (·.refKey)=true:=by rw[a];exact Bool.false_ne_true
   rw[if_neg a']
   exact congrArg some e
theorem ZY.look{h:Heap}{x dx C:Addr}{mA:Str→Option Value}(I:ZY h x dx C mA):∃od,PySem.W.InstAt h x (PySem.W.instObj C dx) C (some od)∧∀name,PySem.W.lookIn name od=some (mA name):=
 let ⟨od,ho,hl⟩:=iQ I.ns
 ⟨od,⟨I.obj,rfl,rfl,ho⟩,hl⟩
theorem su.some_of{v:V}{o:Option Value}(r:su (some v) o):∃u,o=some u∧RelV v u:=by
 cases o with
 |none=>exact(show False from r).elim
 |some u=>exact⟨u,rfl,r⟩
section
variable {P:Program}{w:World}{H H':Hp}{h h':Heap}{a C dx:Addr}{fs fs':List (Str × V)}
theorem cY(hok:HOk P w H h)(e:H a=some (.ins C dx fs)):∃mA,ZY h a dx C mA∧(∀f,su (fs.lookup f) (mA f))∧PySem.Within mA (fs.map (·.1))∧fs.length≤1000∧H dx=some (.own a):=by
 obtain⟨d,z,ne,ob,mA,n,r,q⟩:=(show zy P w H h a (.ins C dx fs) from hok a _ e)
 exact⟨mA,⟨ob,n,ne⟩,r,q,z,d⟩
end
structure Cls(K:PySem.W.Frag)(C:Addr):Prop where
 pg:PySem.W.plainGet K C Str.empty=true
 hd:PySem.W.hasDictIn K C=true
 po:PySem.W.plainOver K C=true
 sa:PySem.W.findIn K (.ref C) "__setattr__"=some (some (.builtin "object.__setattr__"))
theorem Cls.get{K:PySem.W.Frag}{C:Addr}(c:Cls K C)(f:Str):PySem.W.plainGet K C f=true:=c.pg
section
variable {X:Cx}{pins:List (Addr × Obj)}{σ:St}{H:Hp}{s:Shared}{A:Around}{E:Value→Shared→Prop}{Q:Value→Shared→Prop}{c:Value}{b:Bool}
inductive uS(K:PySem.W.Frag)(H:Hp):V→Value→Prop where
 |non:uS K H .non (.type "NoneType")
 |bl (x:Bool):uS K H (.bl x) (.type "bool")
 |int (i:Int):uS K H (.int i) (.type "int")
 |str (x:Str):uS K H (.str x) (.type "str")
 |flt (x:UInt64):uS K H (.flt x) (.type "float")
 |lst {a:Addr} {xs:List V} (e:H a=some (.lst xs)):uS K H (.ref a) (.type "list")
 |frz {a:Addr} {o:Obj} {xs:List V} (e:H a=some (.frz o (.lst xs))):uS K H (.ref a) (.type "list")
 |tup {a:Addr} {xs:List V} (e:H a=some (.tup xs)):uS K H (.ref a) (.type "tuple")
 |dK {a:Addr} {kvs:List (Key × V)} (e:H a=some (.dK kvs)):uS K H (.ref a) (.type "dict")
 |dT {a:Addr} {kvs:List (List Key × V)} (e:H a=some (.dT kvs)):uS K H (.ref a) (.type "dict")
 |ins {a C dx:Addr} {fs:List (Str × V)} (e:H a=some (.ins C dx fs)) (cl:Cls K C) (ha:PySem.W.findIn K (.ref C) "__class__"=some (some (.builtin "object.__class__")))
  (hn:PySem.W.specialIn K (.builtin "object.__class__") "__get__"=some (some (.builtin "getset_descriptor.__get__"))) (htk:PySem.W.takesIn K (.builtin "object.__class__")=some true)
  (hm:PySem.W.mroIn K C (.type "object")=some true):uS K H (.ref a) (.ref C)
theorem iG{x:V}{u t:Value}(I:Inv X pins σ H s)(rx:RelV x u)(ty:uS X.K H x t)(e:PySem.W.kitOne X.K t c=some b)(h:∀tk,Q (.bool b) {s with toks:=tk}) :
 wpAny (model X.prog X.w) A (call (.builtin "isinstance") [u,c]) Q E s:=by
 cases ty with
 |non=>cases (show u=Value.none from rx);exact PySem.W.kia_one PySem.W.kitx_none I.kIn True.intro e (fun z=>nomatch z) h
 |bl y=>cases (show u=Value.bool y from rx);exact PySem.W.kia_one PySem.W.kitx_bool I.kIn True.intro e (fun z=>nomatch z) h
 |int i=>obtain⟨t,q⟩:=(show ∃t,u=Value.int i t from rx);cases q;exact PySem.W.kia_one PySem.W.kitx_int I.kIn True.intro e (fun z=>nomatch z) h
 |str y=>obtain⟨t,q⟩:=(show ∃t,u=Value.str y t from rx);cases q;exact PySem.W.kia_one PySem.W.kitx_str I.kIn True.intro e (fun z=>nomatch z) h
 |flt y=>obtain⟨t,q⟩:=(show ∃t,u=Value.float y t from rx);cases q;exact PySem.W.kia_one PySem.W.kitx_float I.kIn True.intro e (fun z=>nomatch z) h
 |@lst a xs ea=>
  cases (show u=Value.ref a from rx)
  obtain⟨_,_,n,_,h1⟩:=(show zy X.prog X.w H s.heap a (.lst xs) from I.hok a _ ea)
  exact PySem.W.kia_one PySem.W.kitx_list I.kIn ⟨_,h1,rfl⟩ e (fun z=>nomatch z) h
 |@frz a ob xs ea=>
  cases (show u=Value.ref a from rx)
  obtain⟨_,_,_,n,_,h1⟩:=(show zy X.prog X.w H s.heap a (.frz ob (.lst xs)) from I.hok a _ ea)
  exact PySem.W.kia_one PySem.W.kitx_list I.kIn ⟨_,h1,rfl⟩ e (fun z=>nomatch z) h
 |@tup a xs ea=>
  cases (show u=Value.ref a from rx)
  obtain⟨_,_,_,p⟩:=(show zy X.prog X.w H s.heap a (.tup xs) from I.hok a _ ea)
  obtain⟨o,h1,h2,_⟩:=p
  exact PySem.W.kia_one PySem.W.kitx_tuple I.kIn ⟨o,h1,h2⟩ e (fun z=>nomatch z) h
 |@dK a kvs ea=>
  cases (show u=Value.ref a from rx)
  obtain⟨_,_,vs,_,p⟩:=(show zy X.prog X.w H s.heap a (.dK kvs) from I.hok a _ ea)
  obtain⟨o,es,ep,h1,h2,_⟩:=p
  exact PySem.W.kia_one PySem.W.kitx_dict I.kIn ⟨o,h1,h2.1⟩ e (fun z=>nomatch z) h
 |@dT a kvs ea=>
  cases (show u=Value.ref a from rx)
  obtain⟨_,_,xs,_,o,es,ep,h1,h2,_⟩:=(show zy X.prog X.w H s.heap a (.dT kvs) from I.hok a _ ea)
  exact PySem.W.kia_one PySem.W.kitx_dict I.kIn ⟨o,h1,h2.1⟩ e (fun z=>nomatch z) h
 |@ins a C dx fs ea cl ha hn htk hm=>
  cases (show u=Value.ref a from rx)
  obtain⟨mA,O,_⟩:=cY I.hok ea
  obtain⟨od,J,_⟩:=O.look
  exact PySem.W.kia_one (PySem.W.kitx_own (cl.get _) cl.hd ha hn htk hm) I.kIn J e (fun z=>nomatch z) h
end
end L2
namespace L2
open PySem PySem.Spec PyProof.Rows
structure y1(k:Nat)(A:Around):Prop where
 hd:A.handled=none
 dp:A.depth+3*k+5<recursionLimit
 un:A.units+16*k+200<cLine
 gd:A.guards=some []
theorem y1.deeper{k:Nat}{A:Around}(r:y1 (k+1) A)(env:Env):y1 k (A.deeper env):=
 ⟨r.hd,by have:=r.dp;show A.depth+1+3*k+5<_;omega,by have:=r.un;show A.units+3+16*k+200<_;omega,r.gd⟩
theorem y1.depth{k:Nat}{A:Around}(r:y1 k A):A.depth<recursionLimit:=by have:=r.dp;omega
noncomputable def Vh:TA:=fun _ H Q=>Q [] H
noncomputable def ZQ(ta:TE)(tr:TA):TA:=fun σ H Q=>ta σ H fun x H1=>tr σ H1 fun xs H2=>Q (x::xs) H2
section
variable {X:Cx}{e:Expr}{es:List Expr}{te:TE}{t:TA}{pos:Pos}
theorem oX:PA X [] Vh:=fun _ _ _ _ H Q I h=>Calls.spliced_nil ⟨[],H,I,.nil,h⟩
theorem bu(ha:PE X e te)(hr:PA X es t)(hs:starEach (e::es) X.env=(false,eval e X.env)::starEach es X.env:=by rfl):PA X (e::es) (ZQ te t):=by
 intro pos pins s σ H Q I h
 rw[hs]
 show wpAny _ _ (spliced ((false,eval e X.env)::backTo pos (starEach es X.env))) _ _ s
 refine Calls.spliced_cons (thn (ha pins s σ H _ I h) fun u s1 ⟨x,H1,I1,r1,q1⟩=>?_)
 exact thn (hr pos pins s1 σ H1 _ I1 q1) fun us s2 ⟨xs,H2,I2,r2,q2⟩=>⟨x::xs,H2,I2,.cons r1 r2,q2⟩
noncomputable def US(t:TA):TE:=fun σ H Q=>t σ H fun xs H1=>xs.length≤sizeLine∧∀p,H1 p=none→Q (.ref p) (upd H1 p (.tup xs))
noncomputable def UN(t:TA):TE:=fun σ H Q=>t σ H fun xs H1=>xs.length≤sizeLine∧∀p,H1 p=none→Q (.ref p) (upd H1 p (.lst xs))
theorem XG{x1}(h:PA X es t):PE X (.Tuple es x1 pos) (US t):=by
 intro pins s σ H Q I hq
 refine wpAny_Tuple_spliced (thn (h pos pins s σ H _ I hq) fun us s1 ⟨xs,H1,I1,r,z,q⟩=>⟨by rw[←r.length];exact z,?_⟩)
 have hf:H1 s1.heap.objs.size=none:=I1.hok.fresh (Nat.le_refl _)
 refine⟨.ref s1.heap.objs.size,upd H1 s1.heap.objs.size (.tup xs),I1.laid (t':=s1.toks) (fun b u e=>Heap.get?_push_of_some _ e) (Nat.le_refl _) ?_,rfl,q _ hf⟩
 exact⟨z,us,r,⟨_,Heap.get?_push_size _ rfl,rfl,_,rfl,rfl⟩⟩
theorem XB(h:PA X es t):PE X (.List es pos) (UN t):=by
 intro pins s σ H Q I hq
 refine wpAny_List_spliced (thn (h pos pins s σ H _ I hq) fun us s1 ⟨xs,H1,I1,r,z,q⟩=>⟨by rw[←r.length];exact z,?_⟩)
 have hf:H1 s1.heap.objs.size=none:=I1.hok.fresh (Nat.le_refl _)
 refine⟨.ref s1.heap.objs.size,upd H1 s1.heap.objs.size (.lst xs),I1.laid (t':=s1.toks) (fun b u e=>Heap.get?_push_of_some _ e) (Nat.le_refl _) ?_,rfl,q _ hf⟩
 exact⟨z,us,0,r,Heap.get?_push_size _ rfl⟩
end
noncomputable abbrev Sp:=List V→Hp→VK→XK→Prop
noncomputable abbrev CXT:=List Env→Hp→Shared→XK→Value→Shared→Prop
structure cF(P:Program)(w:World)(K:PySem.W.Frag)(mg:Str→Option Value)(base:Heap)(A:Around)(outer:List Env)(s:Shared)(H:Hp):Prop where
 frames:A.frames=some outer
 mod:Mod K mg base
 bs:∀b o,base.get? b=some o→s.heap.get? b=some o∧H b=none
 bsz:base.objs.size≤s.heap.objs.size
 rP:s.heap.FunFrames base outer
 frf:∀b∈frs outer,H b=none
 hok:HOk P w H s.heap
 bare:AllBare s.gens
def CE(outer:List Env)(P:Program)(w:World)(H:Hp)(s:Shared)(Q:VK)(u:Value)(s':Shared):Prop:=
 ∃v H',s'.os=s.os∧AllBare s'.gens∧Un (frs outer) [] H H' s.heap s'.heap∧HOk P w H' s'.heap∧RelV v u∧Q v H'
def CR(CX:CXT)(outer:List Env)(P:Program)(w:World)(H:Hp)(s:Shared)(Q:VK)(E:XK)(r:Result)(s':Shared):Prop:=
 match r with
 |.ok (.ret u)=>CE outer P w H s Q u s'
 |.ok _=>False
 |.error e=>CX outer H s E e s'
structure sI(P:Program)(w:World)(K:PySem.W.Frag)(mg:Str→Option Value)(base:Heap)(CX:CXT)(k:Nat)(f:Addr)(fd:FuncData)(ps:List Str)(sp:Sp):Prop where
 len:∀vs H Q E,sp vs H Q E→vs.length=ps.length
 run:∀(A:Around) (outer:List Env) (s:Shared) (H:Hp) (args:Args) (us:List Value) (vs:List V) (Q:VK) (E:XK),y1 k A→cF P w K mg base A outer s H→BindsTo s fd args (ps.zip us)→Vals vs us→sp vs H Q E →
  codeAny (model P w) A (.call (.ref f) args) (CR CX outer P w H s Q E) s
theorem sI.imp{P:Program}{w:World}{K:PySem.W.Frag}{mg:Str→Option Value}{base:Heap}{CX:CXT}{k:Nat}{f:Addr}{fd:FuncData}{ps:List Str}{sp sp':Sp}(F:sI P w K mg base CX k f fd ps sp)
 (h:∀vs H Q E,sp' vs H Q E→sp vs H Q E):sI P w K mg base CX k f fd ps sp':=
 ⟨fun vs H Q E q=>F.len vs H Q E (h _ _ _ _ q),fun A outer s H args us vs Q E hr he hb hv hs=>F.run A outer s H args us vs Q E hr he hb hv (h _ _ _ _ hs)⟩
section
variable {X:Cx}{pins:List (Addr × Obj)}{σ:St}{H:Hp}{s s':Shared}
theorem Inv.V0(I:Inv X pins σ H s):cF X.prog X.w X.K X.mg X.base X.A X.stack s H:=
 ⟨I.ok.frames,I.ok.mod,I.bs,Nat.le_trans I.ok.bsz I.sz,I.stack,I.jk,I.hok,I.bare⟩
theorem Inv.after{Q:VK}{u:Value}(I:Inv X pins σ H s)(h:CE X.stack X.prog X.w H s Q u s'):EP X pins σ Q u s':=by
 obtain⟨v,H',os,bare,un,hok,r,q⟩:=h
 obtain⟨hh,g,d,t,os'⟩:=s'
 obtain rfl:os'=s.os:=os
 exact⟨v,H',I.call (h':=hh) (g':=g) (d':=d) (t':=t) (ch:=[]) un hok bare (fun b z=>absurd z (by simp)),r,q⟩
end
noncomputable def ZP(sp:Sp)(dvs:List V)(E:XK)(t:TA):TE:=fun σ H Q=>t σ H fun vs H1=>sp (vs++dvs) H1 Q E
def Binds(K:PySem.W.Frag)(fd:FuncData)(ps:List Str)(ds:List Value):Prop:=
 ∀(s:Shared) (us:List Value),K.In s.heap→(us++ds).length=ps.length→BindsTo s fd ⟨us,[]⟩ (ps.zip (us++ds))
theorem Binds.all{K:PySem.W.Frag}{fd:FuncData}{ps:List Str}(h:∀us:List Value,us.length=ps.length→bindArgs fd ⟨us,[]⟩=pure (ps.zip us)):Binds K fd ps []:=fun s us _ hl=>by
 rw[List.append_nil]at hl ⊢
 exact .of_eq (h us hl)
def Passes(CX:CXT)(X:Cx)(E:XK):Prop:=∀(pins:List (Addr × Obj)) (σ:St) (H:Hp) (s:Shared) (e:Value) (s':Shared),Inv X pins σ H s→CX X.stack H s E e s'→X.xe e s'
section
variable {X:Cx}{CX:CXT}{k:Nat}{f C:Addr}{fd:FuncData}{ps:List Str}{sp:Sp}{dvs:List V}{ds:List Value}{E:XK}{x m:Str}{p pos apos:Pos}{e o:Expr}{es:List Expr}{ta:TE}{t:TA}
theorem dM{pins:List (Addr × Obj)}{σ:St}{H:Hp}{s:Shared}{Q:VK}{us:List Value}{vs:List V}(F:sI X.prog X.w X.K X.mg X.base CX k f fd ps sp)(hr:y1 k X.A)(hb:Binds X.K fd ps ds)(hd:Vals dvs ds)(hx:Passes CX X E)
 (I:Inv X pins σ H s) (r:Vals vs us) (h:sp (vs++dvs) H Q E):wpAny (model X.prog X.w) X.A (call (.ref f) us) (EP X pins σ Q) X.xe s:=by
 have r2:Vals (vs++dvs) (us++ds):=r.append hd
 have hl:(us++ds).length=ps.length:=by rw[←r2.length];exact F.len _ _ _ _ h
 refine wpAny_call (codeAny_mono (F.run X.A X.stack s H ⟨us,[]⟩ (us++ds) (vs++dvs) Q E hr I.V0 (hb s us I.kIn hl) r2 h) fun r s' hq=>?_)
 cases r with
 |error e=>exact hx pins σ H s e s' I hq
 |ok fl=>
  cases fl with
  |ret u=>exact I.after hq
  |next=>exact False.elim hq
  |brk=>exact False.elim hq
  |cont=>exact False.elim hq
theorem bx(F:sI X.prog X.w X.K X.mg X.base CX k f fd ps sp)(hr:y1 k X.A)(hg:Gl X x)(hm:X.mg x=some (.ref f))(hk:PySem.W.keepIn X.K (.ref f)=true)(hb:Binds X.K fd ps ds)(hd:Vals dvs ds)(hx:Passes CX X E)
 (ha:PA X (e::es) t) (hdb:(x == ("__debug__":Str))=false:=by decide) (he:starEach (e::es) X.env=(false,eval e X.env)::starEach es X.env:=by rfl) (hpl:(backTo pos (starEach es X.env)).any (·.1)=false:=by rfl) :
 PE X (.Call (.Name x p) (e::es) [] pos) (ZP sp dvs E t):=by
 intro pins s σ H Q I h
 refine wpAny_Call_Name_kw (oR I hg hm ?_ hdb)
 refine PySem.W.callWith_K (h₀:=X.base) I.ok.mod.kin hk (thn (ha pos pins s σ H _ I h) fun us s1 ⟨vs,H1,I1,r,q⟩=>⟨I1.kIn,?_⟩) he hpl
 exact dM F hr hb hd hx I1 r q
theorem eI(F:sI X.prog X.w X.K X.mg X.base CX k f fd ps sp)(hr:y1 k X.A)(hg:Gl X x)(hm:X.mg x=some (.ref f))(hk:PySem.W.keepIn X.K (.ref f)=true)(hb:Binds X.K fd ps ds)(hd:Vals dvs ds)(hx:Passes CX X E)
 (hdb:(x == ("__debug__":Str))=false:=by decide):PE X (.Call (.Name x p) [] [] pos) (ZP sp dvs E Vh):=by
 intro pins s σ H Q I h
 refine wpAny_Call_Name_kw (oR I hg hm ?_ hdb)
 exact PySem.W.callWith_K0 I.kIn hk (dM (us:=[]) F hr hb hd hx I .nil h)
end
structure sR(N P:List Str)(sc:Scope):Prop where
 kind:sc.kind=.function
 co:sc.isCoroutine=false
 gen:sc.isGenerator=false
 nd:N.Nodup
 pre:N.take P.length=P
 par:∀x∈P,sc.names.lookup x=some .local∨sc.names.lookup x=some .cell
 nofree:∀y∈sc.names,y.2≠.free
theorem qy{kindOf:Str→Option NameKind}{x:Str}:∀{binds:List (Str × Value)} {m:Str→Option Value},(∀v,(x,v) ∉ binds)→bindL kindOf binds m x=m x
 |[],_,_=>rfl
 |(n,v)::r,m,h=>by
  unfold bindL
  rw[qy fun w hw=>h w (List.mem_cons_of_mem _ hw)]
  split
  . have:x≠n:=by rintro rfl;exact h v List.mem_cons_self
    simp[this]
  . rfl
theorem qw{kindOf:Str→Option NameKind}{x:Str}:∀{binds:List (Str × Value)} {m:Str→Option Value},(∀v,(x,v) ∉ binds)→bindC kindOf binds m x=m x
 |[],_,_=>rfl
 |(n,v)::r,m,h=>by
  unfold bindC
  rw[qw fun w hw=>h w (List.mem_cons_of_mem _ hw)]
  split
  . rfl
  . have:x≠n:=by rintro rfl;exact h v List.mem_cons_self
    simp[this]
theorem qx{kindOf:Str→Option NameKind}{x:Str}{v:Value}:∀{P:List Str} {vs:List Value} {i:Nat} {m:Str→Option Value},P.Nodup→P[i]?=some x→vs[i]?=some v→kindOf x=some .local →
 bindL kindOf (P.zip vs) m x=some v
 |[],_,_,_,_,h,_,_=>by simp at h
 |_::_,[],_,_,_,_,h,_=>by simp at h
 |p::P,w::vs,0,m,nd,h1,h2,hk=>by
  simp at h1 h2;subst h1;subst h2
  show bindL kindOf ((p,w)::P.zip vs) m p=_
  unfold bindL
  rw[qy fun v hv=>(List.nodup_cons.mp nd).1 (List.of_mem_zip hv).1,if_pos hk]
  simp
 |p::P,w::vs,i+1,m,nd,h1,h2,hk=>by
  show bindL kindOf ((p,w)::P.zip vs) m x=_
  unfold bindL
  exact qx (i:=i) (List.nodup_cons.mp nd).2 (by simpa using h1) (by simpa using h2) hk
theorem qv{kindOf:Str→Option NameKind}{x:Str}{v:Value}:∀{P:List Str} {vs:List Value} {i:Nat} {m:Str→Option Value},P.Nodup→P[i]?=some x→vs[i]?=some v→kindOf x≠some .local →
 bindC kindOf (P.zip vs) m x=some v
 |[],_,_,_,_,h,_,_=>by simp at h
 |_::_,[],_,_,_,_,h,_=>by simp at h
 |p::P,w::vs,0,m,nd,h1,h2,hk=>by
  simp at h1 h2;subst h1;subst h2
  show bindC kindOf ((p,w)::P.zip vs) m p=_
  unfold bindC
  rw[qw fun v hv=>(List.nodup_cons.mp nd).1 (List.of_mem_zip hv).1,if_neg hk]
  simp
 |p::P,w::vs,i+1,m,nd,h1,h2,hk=>by
  show bindC kindOf ((p,w)::P.zip vs) m x=_
  unfold bindC
  exact qv (i:=i) (List.nodup_cons.mp nd).2 (by simpa using h1) (by simpa using h2) hk
noncomputable def start(N:List Str)(vs:List V):St:=vs.map some++List.replicate (N.length-vs.length) none
noncomputable def m8(CX:CXT)(P:Program)(w:World)(K:PySem.W.Frag)(mg:Str→Option Value)(base:Heap)(N:List Str)(qual:Str)(scope:Scope)(f:Addr)(cd:Value)(A:Around)(outer:List Env)(s:Shared)(H:Hp)(E:XK):Cx where
 prog:=P
 w:=w
 K:=K
 mg:=mg
 base:=base
 A:=A.deeper (envOfC qual scope s.heap.objs.size f cd)
 N:=N
 s₀:=s
 H₀:=H
 env:=envOfC qual scope s.heap.objs.size f cd
 outer:=outer
 stack:=envOfC qual scope s.heap.objs.size f cd::outer
 ex:=[]
 calm:=true
 fn:=fun _=>true
 pn:=[]
 xe:=fun e s'=>wpAny (model P w) (A.deeper (envOfC qual scope s.heap.objs.size f cd)) (leaving (envOfC qual scope s.heap.objs.size f cd) e) (fun _ s''=>CX outer H s E e s'') (fun e' s''=>CX outer H s E e' s'') s'
theorem nF{sc:Scope}{n:Nat}{x:Str}(h:sc.names.lookup x=some .cell):∃c,(cellsFrom n sc.names []).lookup x=some c:=by
 have q:=PySem.W.cellsFrom_some sc.names n [] (.inl h)
 exact Option.isSome_iff_exists.mp q
theorem iE{CX:CXT}{P:Program}{w:World}{K:PySem.W.Frag}{mg:Str→Option Value}{base:Heap}{N ps:List Str}{qual:Str}{scope:Scope}{f:Addr}{cd:Value}{A:Around}{outer:List Env}{s s1:Shared}{H:Hp}{E:XK}{us:List Value}{vs:List V}
 (S:sR N ps scope) (hd:A.handled=none) (e0:cF P w K mg base A outer s H) (hl:vs.length=ps.length) (r:Vals vs us)
 (x:InCallC s s.heap.objs.size (bindL (envOfC qual scope s.heap.objs.size f cd).kindOf (ps.zip us) fun _=>none) (cellsFrom (s.heap.objs.size+1) scope.names []) (bindC (envOfC qual scope s.heap.objs.size f cd).kindOf (ps.zip us) fun _=>none) s1) :
 Inv (m8 CX P w K mg base N qual scope f cd A outer s H E) [] (start N vs) H s1:=by
 have hpl:ps.length≤N.length:=by have:=congrArg List.length S.pre;rw[List.length_take]at this;omega
 obtain⟨h1,tk,rfl,hk⟩:=x.done
 have noA:∀b:Addr,b ∉ (m8 CX P w K mg base N qual scope f cd A outer s H E).ex:=fun b z=>absurd (show b∈([]:List Addr) from z) (by simp)
 refine⟨⟨e0.mod,S.kind,rfl,rfl,Nat.le_refl _,fun y z c h1 h2=>?_,fun y hy=>?_,fun y c _ h=>?_,fun _=>hd,Around.frames_deeper e0.frames,.inr ⟨rfl,rfl⟩,fun b z=>absurd z (noA b),e0.bs,e0.bsz,fun b _ _=>noA b,fun b z=>absurd z (noA b),e0.rP,e0.frf⟩,
  rfl,e0.bare,Un.kept hk,⟨_,x.toInCall.ns,fun i y v h1 h2 h3=>?_⟩,fun y c h=>⟨_,x.cell y c h⟩,e0.hok.fresh (Nat.le_refl _),fun y c h=>?_,fun p hp=>absurd (show p∈([]:List (Addr × Obj)) from hp) (by simp),e0.hok.kept hk,?_⟩
 . exact name_of_addr x.apart (PySem.mem_of_lookup h1) (PySem.mem_of_lookup h2)
 . have hy:scope.names.lookup y=some .cell∨scope.names.lookup y=some .free:=hy
   rcases hy with hy|hy
   . exact nF hy
   . exact absurd rfl (S.nofree _ (PySem.mem_of_lookup hy))
 . exact Nat.le_of_lt (x.above y c (PySem.mem_of_lookup h))
 . have hi:i<vs.length:=by
    unfold start at h2
    by_cases hi:i<vs.length
    . exact hi
    . rw[List.getElem?_append_right (by simpa using hi)]at h2
      rw[List.getElem?_replicate]at h2
      split at h2<;>cases h2
   have ha:vs[i]?=some v:=by
    unfold start at h2
    rw[List.getElem?_append_left (by simpa using hi),List.getElem?_map]at h2
    cases e:vs[i]? with
    |none=>rw[e]at h2;cases h2
    |some a=>rw[e]at h2;cases h2;rfl
   obtain⟨u,hu,rv⟩:=r.get ha
   have hp:ps[i]?=some y:=by
    rw[←S.pre,List.getElem?_take_of_lt (by omega)];exact h1
   have ndP:ps.Nodup:=by rw[←S.pre];exact S.nd.sublist (List.take_sublist _ _)
   refine⟨u,rv,?_⟩
   rcases S.par y (List.mem_of_getElem? hp) with k|k
   . exact .inl ⟨k,qx ndP hp hu k⟩
   . obtain⟨c,e⟩:=nF (n:=s.heap.objs.size+1) k
     refine .inr ⟨.inl k,c,e,?_⟩
     have q:=x.cell y c e
     rw[qv ndP hp hu (by show scope.names.lookup y≠_;rw[k];decide)]at q
     exact q
 . exact e0.hok.fresh (Nat.le_of_lt (x.above y c (PySem.mem_of_lookup h)))
 . unfold start
   show _=N.length
   rw[List.length_append,List.length_map,List.length_replicate]
   omega
theorem WK{CX:CXT}{P:Program}{w:World}{K:PySem.W.Frag}{mg:Str→Option Value}{base:Heap}{k:Nat}{f:Addr}{name qual:Str}{params:Arguments}{body:List Stmt}{scope:Scope}{dV kV doc pm cdv ct oc:Value}{an od:Option Addr}
 {osl:Array (Option Value)} {N ps:List Str} {sp:Sp} (lk:K.lookup f=some ⟨oc,od,.func (PySem.W.fnOf name qual params body scope dV kV doc pm an cdv ct),osl⟩) (hcd:PySem.W.codeIn K cdv qual=true) (S:sR N ps scope)
 (len:∀vs H Q E,sp vs H Q E→vs.length=ps.length)
 (hbody:∀(A:Around) (outer:List Env) (s:Shared) (H:Hp) (vs:List V) (Q:VK) (E:XK),y1 k (A.deeper (envOfC qual scope s.heap.objs.size f cdv))→sp vs H Q E →
  ∃t,PSs (m8 CX P w K mg base N qual scope f cdv A outer s H E) body t∧t {nx:=fun _ H'=>Q .non H',rt:=Q} (start N vs) H) :
 sI P w K mg base CX (k+1) f (PySem.W.fnOf name qual params body scope dV kV doc pm an cdv ct) ps sp:=by
 refine⟨len,fun A outer s H args us vs Q E hr e0 hb r hsp=>?_⟩
 have hl:=len _ _ _ _ hsp
 have KX:K.In s.heap:=e0.mod.kin.keeps fun b o e=>(e0.bs b o e).1
 have lim:s.heap.NoLimit:=e0.mod.nolimit.keeps fun b o e=>(e0.bs b o e).1
 have hkind:∀y∈ps.zip us,scope.names.lookup y.1=some .local∨(scope.names.lookup y.1=some .cell∧((cellsFrom (s.heap.objs.size+1) scope.names []).lookup y.1).isSome=true):=fun⟨n,v⟩ hy=>by
  rcases S.par n (List.of_mem_zip hy).1 with q|q
  . exact .inl q
  . exact .inr ⟨q,PySem.W.cellsFrom_some _ _ _ (.inl q)⟩
 refine codeAny_call_function hr.depth (KX _ _ lk) rfl S.co S.gen rfl (PySem.W.codeRec_of KX hcd) (hb _ _ _ _ ?_)
 refine wpAny_newFunctionEnv_cells S.kind hkind fun env he s1 x=>?_
 subst he
 refine⟨lim.keeps x.toInCall.keep,codeAny_func ?_⟩
 obtain⟨t,ht,hq⟩:=hbody A outer s H vs Q E (hr.deeper _) hsp
 have I:Inv (m8 CX P w K mg base N qual scope f cdv A outer s H E) [] (start N vs) H s1:=iE S hr.hd e0 hl r x
 refine wpAny_mono (ht [] s1 (start N vs) H _ I hq) (fun fl s' hs=>?_) fun e s' hs=>hs
 have fin:∀{σ':St} {H':Hp} {v:V} {u:Value},Inv (m8 CX P w K mg base N qual scope f cdv A outer s H E) [] σ' H' s'→RelV v u→Q v H'→CE outer P w H s Q u s':=
  fun{σ' H' v u} J rv q=>⟨v,H',J.os,J.bare,J.base,J.hok,rv,q⟩
 cases fl with
 |ret u=>
  obtain⟨v,σ',H',J,rv,q⟩:=hs
  exact fin J rv q
 |next=>
  obtain⟨σ',H',J,q⟩:=hs
  exact fin (v:=V.non) (u:=Value.none) J rfl q
 |brk=>
  obtain⟨_,_,_,q⟩:=hs
  exact False.elim q
 |cont=>
  obtain⟨_,_,_,q⟩:=hs
  exact False.elim q
end L2
namespace L2
open PySem PySem.Spec PyProof.Rows
section
variable {X:Cx}{x:Str}{p pos:Pos}{e:Expr}{es:List Expr}{t:TA}{id T:String}{r:List V→Hp→VK→Prop}
noncomputable def tCB(r:List V→Hp→VK→Prop)(t:TA):TE:=fun σ H Q=>t σ H fun vs H1=>r vs H1 Q
theorem eJ(hc:yQ X (.builtin id) r)(hg:Gl X x)(hm:X.mg x=none)(hv:bootBuiltins x=some (.builtin id))(ha:PA X (e::es) t)(hn:x≠"__name__":=by decide)(hdb:(x == ("__debug__":Str))=false:=by decide)
 (he:starEach (e::es) X.env=(false,eval e X.env)::starEach es X.env:=by rfl) (hpl:(backTo pos (starEach es X.env)).any (·.1)=false:=by rfl):PE X (.Call (.Name x p) (e::es) [] pos) (tCB r t):=by
 intro pins s σ H Q I h
 refine wpAny_Call_Name_kw (tQ I hg hm hv ?_ hn hdb)
 exact PyProof.Rows.callWith_builtin1 (thn (ha pos pins s σ H _ I h) fun us s1 ⟨vs,H1,I1,r1,q1⟩=>hc pins s1 σ H1 vs us Q I1 r1 q1) he hpl
theorem vv(hc:yQ X (.type T) r)(hg:Gl X x)(hm:X.mg x=none)(hv:bootBuiltins x=some (.type T))(ha:PA X (e::es) t)(hn:x≠"__name__":=by decide)(hdb:(x == ("__debug__":Str))=false:=by decide)
 (he:starEach (e::es) X.env=(false,eval e X.env)::starEach es X.env:=by rfl) (hpl:(backTo pos (starEach es X.env)).any (·.1)=false:=by rfl):PE X (.Call (.Name x p) (e::es) [] pos) (tCB r t):=by
 intro pins s σ H Q I h
 refine wpAny_Call_Name_kw (tQ I hg hm hv ?_ hn hdb)
 exact PyProof.Rows.callWith_type1 (thn (ha pos pins s σ H _ I h) fun us s1 ⟨vs,H1,I1,r1,q1⟩=>hc pins s1 σ H1 vs us Q I1 r1 q1) he hpl
end
end L2
namespace HT
open PySem PyProof.Rows
section
variable {prog:Program}{w:World}{A:Around}{E:Value→Shared→Prop}{s:Shared}
theorem cN{t b:Addr}{vs ws:List Value}{Q:Value→Shared→Prop}(ht:IsTup s.heap t vs.toArray)(hb:IsTup s.heap b ws.toArray)(hv:vs≠[])
 (h1:ws=[]→Q (.ref t) s) (h2:ws≠[]→Q (.ref s.heap.objs.size) {s with heap:=s.heap.push {cls:=.type "tuple",data:=.seq (vs++ws).toArray}})
 (hsz:vs.length+ws.length≤sizeLine):wpAny (model prog w) A (binaryOp .Add (.ref t) (.ref b)) Q E s:=by
 obtain⟨⟨cls,dd,data,sl⟩,ho,hc,n,hd⟩:=id ht
 obtain⟨⟨cls2,dd2,data2,sl2⟩,ho2,hc2,n2,hd2⟩:=id hb
 simp only at hc hd hc2 hd2
 subst hc hd hc2 hd2
 have e:vs.toArray++ws.toArray=(vs++ws).toArray:=by simp
 by_cases hw:ws=[]
 . exact concat_meets ⟨_,ho,rfl⟩ ⟨_,ho2,rfl⟩ noFill_tuple_add seq_tuple_add PySem.F.slot_tuple_add PySem.F.entry_tuple_add (PySem.F.args_tuple_add_2 _ _)
    (tuple_addW1 t b vs.toArray ws.toArray n n2 dd dd2 sl sl2 (by simpa using hv) (by simp[hw])) ⟨ho,ho2,h1 hw⟩
 . refine concat_meets ⟨_,ho,rfl⟩ ⟨_,ho2,rfl⟩ noFill_tuple_add seq_tuple_add PySem.F.slot_tuple_add PySem.F.entry_tuple_add (PySem.F.args_tuple_add_2 _ _)
    (tuple_addW2 t b vs.toArray ws.toArray n n2 dd dd2 sl sl2 (by simpa using hv) (by simpa using hw) (by rw[List.size_toArray,List.size_toArray];exact hsz)) ⟨ho,ho2,?_⟩
   rw[e]
   exact h2 hw
noncomputable def sIx(n d:Nat):Option Int→Nat
 |none=>d
 |some v=>if v<0 then (v+(n:Int)).toNat else min v.toNat n
theorem aP(n d k:Nat):sIx n d (some (k:Int))=min k n:=by
 show (if (k:Int)<0 then ((k:Int)+(n:Int)).toNat else min (k:Int).toNat n)=min k n
 rw[if_neg (by omega),Int.toNat_natCast]
theorem XY(n d:Nat)(hd:d≤n)(o:Option Int):sIx n d o≤n:=by
 cases o with
 |none=>exact hd
 |some v=>
  show (if v<0 then (v+(n:Int)).toNat else min v.toNat n)≤n
  by_cases hv:v<0
  . rw[if_pos hv];omega
  . rw[if_neg hv];exact Nat.min_le_right _ _
theorem kY(v:Int)(n d:Nat):(if v<0 then max (v+(n:Int)) 0 else min v (n:Int))=((sIx n d (some v):Nat):Int):=by
 show (if v<0 then max (v+(n:Int)) 0 else min v (n:Int))=(((if v<0 then (v+(n:Int)).toNat else min v.toNat n):Nat):Int)
 by_cases hv:v<0
 . simp only[if_pos hv];omega
 . simp only[if_neg hv];omega
theorem mm(lo hi:Option Int)(n:Nat):Builtin.Slice.sliceAdjust lo hi 1 (n:Int)=(((sIx n 0 lo:Nat):Int),((sIx n n hi:Nat):Int)):=by
 have h1:¬((1:Int)<0):=by omega
 unfold Builtin.Slice.sliceAdjust
 simp only[h1,if_false]
 refine Prod.ext ?_ ?_
 . cases lo with
   |none=>rfl
   |some v=>exact kY v n 0
 . cases hi with
   |none=>rfl
   |some v=>exact kY v n n
theorem ll(i j:Nat):Builtin.Slice.slicePlaces (i:Int) (j:Int) 1=j-i:=by
 unfold Builtin.Slice.slicePlaces
 have h1:(1:Int) > 0:=by omega
 simp only[h1,if_true,Int.ediv_one]
 split<;>omega
theorem wO{v:Value}{o:Option Int}{Q:Option Int→Shared→Prop}(p:IsPart v o)(h:Q o s):wpAny (model prog w) A (Builtin.Slice.slicePartIndex v) Q E s:=by
 cases p with
 |none=>exact slicePart_none h
 |int i t=>exact slicePart_int h
theorem w8{sl:Addr}{vl vu:Value}{lo hi:Option Int}{n:Nat}{Q:Int × Int × Nat→Shared→Prop}(hs:s.heap.IsSliceOf sl vl vu .none)(pl:IsPart vl lo)(pu:IsPart vu hi)
 (h:Q (((sIx n 0 lo:Nat):Int),1,sIx n n hi-sIx n 0 lo) s):wpAny (model prog w) A (Builtin.Slice.sliceApplied (.ref sl) (pure (n:Int))) Q E s:=by
 obtain⟨os,hos,hcs,hds⟩:=id hs
 unfold Builtin.Slice.sliceApplied Builtin.Slice.sliceFields
 refine wpAny_bind (wpAny_bind (wpAny_field hos hds (x:=vl) rfl (wpAny_bind (wpAny_field hos hds (x:=vu) rfl (wpAny_bind (wpAny_field hos hds (x:=.none) rfl (wpAny_pure ?_)))))))
 refine wpAny_bind (slicePart_none ?_)
 show wpAny _ _ (if ((1:Int) == 0)=true then _ else _) _ _ s
 rw[if_neg (by decide)]
 refine wpAny_bind (wO pl (wpAny_bind (wO pu (wpAny_bind (wpAny_pure ?_)))))
 show wpAny _ _ (match Builtin.Slice.sliceAdjust lo hi 1 (n:Int) with|(lo,hi)=>pure (lo,(1:Int),Builtin.Slice.slicePlaces lo hi 1)) _ _ s
 rw[mm lo hi n]
 show wpAny _ _ (pure (((sIx n 0 lo:Nat):Int),(1:Int),Builtin.Slice.slicePlaces ((sIx n 0 lo:Nat):Int) ((sIx n n hi:Nat):Int) 1)) _ _ s
 rw[ll]
 exact wpAny_pure h
theorem eS(xs:Array Value)(i k:Nat):((List.range k).filterMap fun(m:Nat)=>xs[((i:Int)+(m:Int)*1).toNat]?).toArray=((xs.toList.drop i).take k).toArray:=by
 have e:(fun(m:Nat)=>xs[((i:Int)+(m:Int)*1).toNat]?)=fun m=>xs[i+m]?:=by
  funext m
  have:((i:Int)+(m:Int)*1).toNat=i+m:=by omega
  rw[this]
 rw[e]
 have:=pick_run xs i k
 rw[List.filterMap_map]at this
 have e2:((fun x=>xs[x]?)∘fun x=>i+x)=fun m=>xs[i+m]?:=rfl
 rw[e2]at this
 rw[this]
theorem uh{t sl:Addr}{items:Array Value}{vl vu:Value}{lo hi:Option Int}{Q:Value→Shared→Prop}(ht:IsTup s.heap t items)(hs:s.heap.IsSliceOf sl vl vu .none)(pl:IsPart vl lo)(pu:IsPart vu hi)
 (hw:¬(sIx items.size 0 lo=0∧sIx items.size items.size hi=items.size))
 (h:Q (.ref s.heap.objs.size) {s with heap:=s.heap.push {cls:=.type "tuple",data:=.seq ((items.toList.drop (sIx items.size 0 lo)).take (sIx items.size items.size hi-sIx items.size 0 lo)).toArray}})
 (hsz:items.size≤sizeLine):wpAny (model prog w) A (getItem (.ref t) (.ref sl)) Q E s:=by
 have htake:sizeOk (.seq ((items.toList.drop (sIx items.size 0 lo)).take (sIx items.size items.size hi-sIx items.size 0 lo)).toArray):=by
  show ((items.toList.drop (sIx items.size 0 lo)).take (sIx items.size items.size hi-sIx items.size 0 lo)).toArray.size≤sizeLine
  rw[List.size_toArray,List.length_take,List.length_drop,Array.length_toList]
  omega
 have hj:sIx items.size items.size hi≤items.size:=XY _ _ (Nat.le_refl _) hi
 obtain⟨os,hos,hcs,hds⟩:=id hs
 have hTs:s.TypeIs (.ref sl) "slice":=⟨os,hos,hcs⟩
 unfold getItem
 try with_reducible refine wpAny_holding ?_
 first|refine wpAny_bind (wpAny_pure ?_)|skip
 refine wpAny_bind (wpAny_sequenceKey ht.typeIs (by decide) ?_)
 refine wpAny_bind (wpAny_callSpecial?_slot (name:=Str.ofString "__getitem__") ht.typeIs PyProof.Rows.slot_tuple_getitem
  (wpAny_call_entry PyProof.Rows.slot_tuple_getitem ht.typeIs entry_tuple_getitem ?_ (args_tuple_getitem _ _)))
 show wpAny _ _ (Builtin.Tuple.tupleItemsOf (.ref t) >>= _) _ _ s
 refine wpAny_bind (tupleItemsOf_ ht ?_)
 refine wpAny_bind (wpAny_typeOf hTs ?_)
 rw[if_pos (by decide)]
 refine wpAny_bind (w8 hs pl pu ?_)
 have hno:¬((((sIx items.size 0 lo:Nat):Int) == 0&&(1:Int) == 1&&(sIx items.size items.size hi-sIx items.size 0 lo) == items.size)=true):=by
  intro q
  rw[Bool.and_eq_true,Bool.and_eq_true]at q
  have q1:((sIx items.size 0 lo:Nat):Int)=0:=eq_of_beq q.1.1
  have q2:sIx items.size items.size hi-sIx items.size 0 lo=items.size:=eq_of_beq q.2
  exact hw ⟨by omega,by omega⟩
 show wpAny _ _ (if (((sIx items.size 0 lo:Nat):Int) == 0&&(1:Int) == 1&&(sIx items.size items.size hi-sIx items.size 0 lo) == items.size)=true then _ else _) _ _ s
 rw[if_neg hno,eS]
 first
  |exact wpAny_bind (m:=Builtin.Tuple.tupleExact _) (wpAny_newObj_type (wpAny_pure ⟨_,rfl,wpAny_pure h⟩) htake)
  |exact wpAny_bind (m:=Builtin.Tuple.tupleExact _) (wpAny_newObj_type (wpAny_bind (wpAny_pure (wpAny_pure ⟨_,rfl,wpAny_pure h⟩))) htake)
  |exact wpAny_bind (wpAny_bind (m:=Builtin.Tuple.tupleExact _) (wpAny_newObj_type (wpAny_pure (wpAny_pure ⟨_,rfl,wpAny_pure h⟩)) htake))
  |exact wpAny_bind (wpAny_bind (m:=Builtin.Tuple.tupleExact _) (wpAny_newObj_type (wpAny_pure ⟨_,rfl,wpAny_pure h⟩) htake))
end
end HT
namespace L2
open PySem PySem.Spec PyProof.Rows
noncomputable abbrev TO:=St→Hp→(Option Int→Hp→Prop)→Prop
def PO(X:Cx)(e:Option Expr)(t:TO):Prop:=
 ∀(pins:List (Addr × Obj)) (s:Shared) (σ:St) (H:Hp) (Q:Option Int→Hp→Prop),Inv X pins σ H s→t σ H Q →
  wpAny (model X.prog X.w) X.A (evalPart e X.env) (fun u s'=>∃o H',Inv X pins σ H' s'∧IsPart u o∧Q o H') X.xe s
noncomputable def aa:TO:=fun _ H Q=>Q none H
noncomputable def Vl(t:TE):TO:=fun σ H Q=>t σ H fun x H1=>∃i,x=.int i∧Q (some i) H1
section
variable {X:Cx}{e:Expr}{te:TE}{lo hi:Option Expr}{tl th:TO}{pos p2:Pos}
theorem aA:PO X none aa:=by
 intro pins s σ H Q I h
 rw[evalPart_none]
 exact wpAny_pure ⟨none,H,I,.none,h⟩
theorem aB(h:PE X e te):PO X (some e) (Vl te):=by
 intro pins s σ H Q I hw
 rw[evalPart_some]
 refine thn (h pins s σ H _ I hw) fun u s1 ⟨x,H1,I1,r1,q1⟩=>?_
 obtain⟨i,rfl,q⟩:=q1
 obtain⟨t,rfl⟩:=r1
 exact⟨some i,H1,I1,.int i t,q⟩
def SlR(X:Cx)(r:V→Option Int→Option Int→Hp→VK→Prop):Prop:=
 ∀(pins:List (Addr × Obj)) (s:Shared) (σ:St) (H:Hp) (x:V) (v vl vu:Value) (lo hi:Option Int) (sl:Addr) (Q:VK),Inv X pins σ H s→RelV x v→s.heap.IsSliceOf sl vl vu .none→IsPart vl lo→IsPart vu hi→r x lo hi H Q →
  ∃T id,typeLookup (.type T) "__getitem__"=pure (some (.builtin id))∧s.TypeIs v T∧wpAny (model X.prog X.w) X.A (getItem v (.ref sl)) (EP X pins σ Q) X.xe s
noncomputable def tSl(r:V→Option Int→Option Int→Hp→VK→Prop)(te:TE)(tl th:TO):TE:=fun σ H Q=>te σ H fun x H1=>tl σ H1 fun l H2=>th σ H2 fun u H3=>r x l u H3 Q
theorem eP{r:V→Option Int→Option Int→Hp→VK→Prop}(hr:SlR X r)(he:PE X e te)(hl:PO X lo tl)(hu:PO X hi th):PE X (.Subscript e (.Slice lo hi none p2) pos) (tSl r te tl th):=by
 intro pins s σ H Q I h
 refine Subscript_ (thn (he pins s σ H _ I h) fun v s1 ⟨x,H1,I1,r1,q1⟩=>?_)
 refine wpAny_Slice (thn (hl pins s1 σ H1 _ I1 q1) fun vl s2 ⟨l,H2,I2,pl,q2⟩=>thn (hu pins s2 σ H2 _ I2 q2) fun vu s3 ⟨u,H3,I3,pu,q3⟩=>?_)
 rw[evalPart_none]
 refine wpAny_pure ?_
 have I4:Inv X pins σ H3 {s3 with heap:=s3.heap.push {cls:=.type "slice",data:=.fields #[vl,vu,.none]}}:=I3.kept (t':=s3.toks) fun b ob q=>Heap.get?_push_of_some _ q
 obtain⟨T,id,hT,ht,hg⟩:=hr pins {s3 with heap:=s3.heap.push {cls:=.type "slice",data:=.fields #[vl,vu,.none]}} σ H3 x v vl vu l u s3.heap.objs.size Q I4 r1 (Heap.IsSliceOf.new ..) pl pu q3
 show wpAny (model X.prog X.w) X.A (subscriptTail e (.Slice lo hi none p2) v (.ref s3.heap.objs.size)) (EP X pins σ Q) X.xe {s3 with heap:=s3.heap.push {cls:=.type "slice",data:=.fields #[vl,vu,.none]}}
 exact tail_any (ops:=[.ref s3.heap.objs.size,v]) ht hT hg (by with_unfolding_all rfl)
noncomputable def qT(xs:List V)(lo hi:Option Int):List V:=(xs.drop (HT.sIx xs.length 0 lo)).take (HT.sIx xs.length xs.length hi-HT.sIx xs.length 0 lo)
theorem t9(xs:List V)(lo hi:Option Int):(qT xs lo hi).length≤xs.length:=by
 unfold qT
 rw[List.length_take,List.length_drop]
 omega
noncomputable def UH(K:PySem.W.Frag):V→Option Int→Option Int→Hp→VK→Prop:=fun x lo hi H Q=>∃a xs,x=.ref a∧SqT K H a xs ∧
 ¬(HT.sIx xs.length 0 lo=0∧HT.sIx xs.length xs.length hi=xs.length)∧∀p,H p=none→Q (.ref p) (upd H p (.tup (qT xs lo hi)))
theorem Xb:SlR X (UH X.K):=by
 intro pins s σ H x v vl vu lo hi sl Q I rx hs pl pu h
 obtain⟨a,xs,rfl,hx,hw,q⟩:=h
 cases rx
 obtain⟨its,r,ht,hz⟩:=I.tuple hx
 have hlen:its.toArray.size=xs.length:=by rw[List.size_toArray];exact r.length.symm
 refine⟨"tuple",_,PyProof.Rows.slot_tuple_getitem.lookup,ht.typeIs,?_⟩
 refine HT.uh ht hs pl pu (by rw[hlen];exact hw) ?_ (by rw[hlen];exact hz)
 rw[hlen]
 refine⟨.ref s.heap.objs.size,_,I.laid (t':=s.toks) (o:=.tup (qT xs lo hi)) (fun b ob q=>Heap.get?_push_of_some _ q) (Nat.le_refl _) ?_,rfl,q _ (I.hok.fresh (Nat.le_refl _))⟩
 exact⟨Nat.le_trans (t9 xs lo hi) hz,_,(r.drop (HT.sIx xs.length 0 lo)).take (HT.sIx xs.length xs.length hi-HT.sIx xs.length 0 lo),uR.new _ _⟩
noncomputable def VQ(K:PySem.W.Frag):R2:=fun x y H Q=>∃a b xs ys,x=.ref a∧y=.ref b∧SqT K H a xs∧SqT K H b ys∧xs≠[]∧xs.length+ys.length≤sizeLine ∧
 (ys=[]→Q (.ref a) H)∧(ys≠[]→∀p,H p=none→Q (.ref p) (upd H p (.tup (xs++ys))))
theorem Vals.wV{xs:List V}{us:List Value}(r:Vals xs us):us=[]↔xs=[]:=by
 cases r with
 |nil=>simp
 |cons _ _=>simp
theorem ba:OpR X (binaryOp .Add) (VQ X.K):=by
 intro pins s σ H x y v u Q I rx ry h
 obtain⟨a,b,xs,ys,rfl,rfl,ha,hb,hx,hz,q1,q2⟩:=h
 cases rx
 cases ry
 obtain⟨its,r1,p1,_⟩:=I.tuple ha
 obtain⟨its2,r2,p2,_⟩:=I.tuple hb
 refine HT.cN p1 p2 (fun z=>hx (r1.wV.mp z)) (fun z=>⟨.ref a,H,I,rfl,q1 (r2.wV.mp z)⟩) (fun z=>?_) (by rw[←r1.length,←r2.length];exact hz)
 refine⟨.ref s.heap.objs.size,_,I.laid (t':=s.toks) (o:=.tup (xs++ys)) (fun b ob q=>Heap.get?_push_of_some _ q) (Nat.le_refl _) ?_,rfl,q2 (fun w=>z (r2.wV.mpr w)) _ (I.hok.fresh (Nat.le_refl _))⟩
 exact⟨by rw[List.length_append];exact hz,_,r1.append r2,uR.new _ _⟩
end
end L2
namespace L2
open PySem PySem.Spec PyProof.Rows
noncomputable def ixN(n:Nat)(i:Int):Option Nat:=if 0≤i then (if i<n then some i.toNat else none) else if -(n:Int)≤i then some (i+n).toNat else none
noncomputable def atI{α:Type}(xs:List α)(i:Int):Option α:=(ixN xs.length i).bind fun j=>xs[j]?
theorem jK{n:Nat}{i:Int}{j:Nat}(h:ixN n i=some j):seqIndex? i n=some j∧j<n∧-(n:Int)≤i∧i<n:=by
 unfold ixN at h
 by_cases h0:0≤i
 . rw[if_pos h0]at h
   by_cases h1:i<n
   . rw[if_pos h1]at h
     have e:i.toNat=j:=Option.some.inj h
     exact⟨by rw[seqIndex_of h0 h1,e],by omega,by omega,h1⟩
   . rw[if_neg h1]at h;cases h
 . rw[if_neg h0]at h
   by_cases h1:-(n:Int)≤i
   . rw[if_pos h1]at h
     have e:(i+n).toNat=j:=Option.some.inj h
     exact⟨by rw[seqIndex_neg (by omega) h1,e],by omega,h1,by omega⟩
   . rw[if_neg h1]at h;cases h
theorem p8{α:Type}{xs:List α}{i:Int}{v:α}(h:atI xs i=some v):∃j,seqIndex? i xs.length=some j∧xs[j]?=some v∧j<xs.length∧-(xs.length:Int)≤i∧i<xs.length:=by
 unfold atI at h
 cases e:ixN xs.length i with
 |none=>rw[e]at h;cases h
 |some j=>
  rw[e]at h
  obtain⟨h1,h2,h3,h4⟩:=jK e
  exact⟨j,h1,h,h2,h3,h4⟩
theorem sS{α:Type}{xs:List α}{j:Nat}{v:α}(h:xs[j]?=some v):atI xs (j:Int)=some v:=by
 have hj:j<xs.length:=(List.getElem?_eq_some_iff.mp h).1
 have e:ixN xs.length (j:Int)=some j:=by
  unfold ixN
  rw[if_pos (by omega),if_pos (by omega)];simp
 unfold atI;rw[e];exact h
def kR(b:Expr):Prop:=∀o i,subscripted b false o i=operate [o,i] (getItem o i)
def IxR(X:Cx)(r:R2):Prop:=
 ∀(value slice:Expr) (pins:List (Addr × Obj)) (s:Shared) (σ:St) (H:Hp) (x y:V) (v u:Value) (Q:VK),Inv X pins σ H s→RelV x v→RelV y u→r x y H Q →
  subscripted slice false v u=operate [v,u] (getItem v u)→wpAny (model X.prog X.w) X.A (subscriptTail value slice v u) (EP X pins σ Q) X.xe s
section
variable {X:Cx}{a b:Expr}{ta tb:TE}{pos:Pos}
theorem IxR.or{r r':R2}(h:IxR X r)(h':IxR X r'):IxR X (fun x y H Q=>r x y H Q∨r' x y H Q):=by
 intro value slice pins s σ H x y v u Q I rx ry q hs
 rcases q with q|q
 . exact h value slice pins s σ H x y v u Q I rx ry q hs
 . exact h' value slice pins s σ H x y v u Q I rx ry q hs
theorem VD{r:R2}(hr:IxR X r)(ha:PE X a ta)(hb:PE X b tb)(hs:kR b):PE X (.Subscript a b pos) (tOp r ta tb):=by
 intro pins s σ H Q I h
 exact Subscript_ (Ze ha hb I h fun v u s2 x y H2 I2 rx ry q=>hr a b pins s2 σ H2 x y v u Q I2 rx ry q (hs _ _))
noncomputable def VR(K:PySem.W.Frag):R2:=fun x y H Q=>∃p xs i v,x=.ref p∧y=.int i∧SqL K H p xs∧atI xs i=some v∧Q v H
noncomputable def VT(K:PySem.W.Frag):R2:=fun x y H Q=>∃p xs i v,x=.ref p∧y=.int i∧SqT K H p xs∧atI xs i=some v∧Q v H
noncomputable def VS:R2:=fun x y H Q=>∃z i c,x=.str z∧y=.int i∧z.length≤sizeLine∧atI z.cps.toList i=some c∧Q (.str ⟨#[c]⟩) H
theorem cu:IxR X (VR X.K):=by
 intro value slice pins s σ H x y v u Q I rx ry h hs
 obtain⟨p,xs,i,z,rfl,rfl,hq,he,q⟩:=h
 cases rx
 obtain⟨t,rfl⟩:=ry
 obtain⟨its,r,pl,hz⟩:=I.list hq
 obtain⟨j,h1,h2,h3,h4,h5⟩:=p8 he
 obtain⟨w,ew,rw'⟩:=r.get h2
 have hl:=r.length
 have hn:=uK
 have fin:EP X pins σ Q w s:=⟨z,H,I,rw',q⟩
 by_cases h0:0≤i
 . have hj:i.toNat=j:=by
    rw[seqIndex_of h0 h5]at h1
    exact Option.some.inj h1
   exact item_listR pl.isList h0 (by omega) (by rw[hj];simpa using ew) fin hs
 . have hj:(i+(its.toArray.size:Int)).toNat=j:=by
    rw[seqIndex_neg (by omega) h4]at h1
    rw[List.size_toArray,←hl]
    exact Option.some.inj h1
   exact subscriptTail_builtinR (x:=w) pl.isList.typeIs slot_list_getitem.lookup
    (wpAny_getItem_list_neg (Q:=fun r s'=>r=w∧EP X pins σ Q r s') pl.isList (by omega) (by rw[List.size_toArray]<;>omega) (by omega) (by rw[hj];simpa using ew) ⟨rfl,fin⟩) hs
theorem Zy:IxR X (VT X.K):=by
 intro value slice pins s σ H x y v u Q I rx ry h hs
 obtain⟨p,xs,i,z,rfl,rfl,hq,he,q⟩:=h
 cases rx
 obtain⟨t,rfl⟩:=ry
 obtain⟨its,r,pl,hz⟩:=I.tuple hq
 obtain⟨j,h1,h2,h3,h4,h5⟩:=p8 he
 obtain⟨w,ew,rw'⟩:=r.get h2
 have hl:=r.length
 have hn:=uK
 have fin:EP X pins σ Q w s:=⟨z,H,I,rw',q⟩
 exact subscriptTail_builtinR (x:=w) pl.typeIs slot_tuple_getitem.lookup
  (getItem_tuple (j:=j) (Q:=fun r s'=>r=w∧EP X pins σ Q r s') pl (by omega) (by omega) (by rw[List.size_toArray,←hl];exact h1) (by simpa using ew) ⟨rfl,fin⟩) hs
theorem Zx:IxR X VS:=by
 intro value slice pins s σ H x y v u Q I rx ry h hs
 obtain⟨z,i,c,rfl,rfl,hz,he,q⟩:=h
 obtain⟨t,rfl⟩:=rx
 obtain⟨t',rfl⟩:=ry
 obtain⟨j,h1,h2,h3,h4,h5⟩:=p8 he
 have hl:z.cps.toList.length=z.length:=by simp[Str.length]
 rw[hl]at h1 h4 h5
 have hn:=uK
 exact tail_any (typeIs_str s z t) slot_str_getitem.lookup (getItem_str (c:=c) (by
  have e1:decide (i < -(2 ^ 63:Int))=false:=decide_eq_false (by omega)
  have e2:decide (i ≥ 2 ^ 63)=false:=decide_eq_false (by omega)
  rw[e1,e2,Bool.or_false]) (by rw[h1];simpa using h2) ⟨.str ⟨#[c]⟩,H,I.tok _,⟨_,rfl⟩,q⟩) hs
noncomputable def rIx(K:PySem.W.Frag):R2:=fun x y H Q=>VR K x y H Q∨VT K x y H Q∨VS x y H Q
theorem Zw:IxR X (rIx X.K):=cu.or (Zy.or Zx)
theorem lL(its:List Value)(n j:Nat)(u:Value):Obj.mapSeq (·.setIfInBounds j u) {cls:=.type "list",data:=.seq its.toArray n}={cls:=.type "list",data:=.seq (its.set j u).toArray n}:=by
 simp[Obj.mapSeq]
theorem Inv.lst{pins:List (Addr × Obj)}{σ:St}{H:Hp}{s:Shared}{p:Addr}{xs:List V}(I:Inv X pins σ H s)(h:H p=some (.lst xs)) :
 ∃(its:List Value) (n:Nat),Vals xs its∧s.heap.get? p=some {cls:=.type "list",data:=.seq its.toArray n}∧xs.length≤sizeLine:=by
 obtain⟨z,its,n,r,e⟩:=I.hok p _ h
 exact⟨its,n,r,e,z⟩
theorem Inv.Yg{pins:List (Addr × Obj)}{σ:St}{H:Hp}{s:Shared}{p:Addr}{xs ys:List V}{its its':List Value}{n n':Nat}{f:Obj→Obj}(I:Inv X pins σ H s)(h:H p=some (.lst xs))
 (ho:s.heap.get? p=some {cls:=.type "list",data:=.seq its.toArray n}) (hf:f {cls:=.type "list",data:=.seq its.toArray n}={cls:=.type "list",data:=.seq its'.toArray n'}) (r:Vals ys its') (hz:ys.length≤sizeLine) (t:Nat) :
 Inv X pins σ (upd H p (.lst ys)) {s with heap:=s.heap.update p f,toks:=t}:=by
 have e:(s.heap.update p f).get? p=some {cls:=.type "list",data:=.seq its'.toArray n'}:=by
  rw[Heap.get?_update_self f ho (by rw[hf]<;>rfl),hf]
 refine I.write (x:=p) (e:=p) (by rw[h];trivial) (.inl rfl) (fun b u hb q=>(Heap.get?_update_other _ _ (Ne.symm hb)).trans q) ⟨_,e⟩ ?_
 exact⟨hz,its',n',r,e⟩
noncomputable def ZM:V→V→V→Hp→(Hp→Prop)→Prop:=fun o i v H Q=>∃p xs k j,o=.ref p∧i=.int k∧H p=some (.lst xs)∧ixN xs.length k=some j∧Q (upd H p (.lst (xs.set j v)))
theorem set_list:X5 X ZM:=by
 intro pins s σ H o i v ov iv u Q I ro ri rv h
 obtain⟨p,xs,k,j,rfl,rfl,hp,hj,q⟩:=h
 cases ro
 obtain⟨t,rfl⟩:=ri
 obtain⟨its,n,r,ho,hz⟩:=I.lst hp
 obtain⟨h1,h2,h3,h4⟩:=jK hj
 have hl:=r.length
 have hn:=uK
 have I':Inv X pins σ (upd H p (.lst (xs.set j v))) {s with heap:=s.heap.update p (Obj.mapSeq (·.setIfInBounds j u))}:=
  I.Yg hp ho (lL its n j u) (r.set rv j) (by rw[List.length_set];exact hz) s.toks
 by_cases h0:0≤k
 . have hk:k.toNat=j:=by
    rw[seqIndex_of h0 h4]at h1
    exact Option.some.inj h1
   exact PySem.W.ki_setAt ho h0 (by omega) (by rw[List.size_toArray,←hl];exact h4) (by rw[hk];exact⟨_,I',q⟩)
 . have hk:(k+(its.toArray.size:Int)).toNat=j:=by
    rw[seqIndex_neg (by omega) h3]at h1
    rw[List.size_toArray,←hl]
    exact Option.some.inj h1
   exact PySem.W.ki_setBack ho (by omega) (by rw[List.size_toArray,←hl];exact h3) (by omega) (by rw[hk];exact⟨_,I',q⟩)
theorem om(lo hi:Option Int)(n:Nat):(sliceBounds lo hi none n).1=((HT.sIx n 0 lo:Nat):Int)∧(sliceBounds lo hi none n).2.1=((HT.sIx n n hi:Nat):Int)∧(sliceBounds lo hi none n).2.2=1:=by
 refine⟨?_,?_,rfl⟩
 . cases lo with
   |none=>simp[sliceBounds,HT.sIx]
   |some i=>
    simp only[sliceBounds,HT.sIx,Option.getD_none,show (1:Int) > 0 by decide,if_true]
    by_cases h:i<0
    . simp only[h,if_true]<;>omega
    . simp only[h,if_false]<;>omega
 . cases hi with
   |none=>simp[sliceBounds,HT.sIx]
   |some i=>
    simp only[sliceBounds,HT.sIx,Option.getD_none,show (1:Int) > 0 by decide,if_true]
    by_cases h:i<0
    . simp only[h,if_true]<;>omega
    . simp only[h,if_false]<;>omega
theorem qg(its:List Value)(lo hi:Option Int):slicePick its.toArray lo hi none=((its.drop (HT.sIx its.length 0 lo)).take (HT.sIx its.length its.length hi-HT.sIx its.length 0 lo)).toArray:=by
 obtain⟨h1,h2,h3⟩:=om lo hi its.toArray.size
 unfold slicePick
 rw[h1,h2,h3]
 simp only[sliceRange_one,pick_run,List.size_toArray]<;>rfl
noncomputable def UG(K:PySem.W.Frag):V→Option Int→Option Int→Hp→VK→Prop:=fun x lo hi H Q=>∃a xs,x=.ref a∧SqL K H a xs∧∀p,H p=none→Q (.ref p) (upd H p (.lst (qT xs lo hi)))
theorem aR:SlR X (UG X.K):=by
 intro pins s σ H x v vl vu lo hi sl Q I rx hs pl pu h
 obtain⟨a,xs,rfl,hx,q⟩:=h
 cases rx
 obtain⟨its,r,ht,hz⟩:=I.list hx
 have hlen:=r.length
 refine⟨"list",_,slot_list_getitem.lookup,ht.isList.typeIs,?_⟩
 refine wpAny_getItem_list_slice ht.isList hs pl pu .none (by simp) ?_ (by rw[List.size_toArray]<;>omega)
 rw[qg,←hlen]
 refine⟨.ref s.heap.objs.size,_,I.laid (t':=s.toks) (o:=.lst (qT xs lo hi)) (fun b ob q=>Heap.get?_push_of_some _ q) (Nat.le_refl _) ?_,rfl,q _ (I.hok.fresh (Nat.le_refl _))⟩
 exact⟨Nat.le_trans (t9 xs lo hi) hz,_,0,(r.drop (HT.sIx xs.length 0 lo)).take (HT.sIx xs.length xs.length hi-HT.sIx xs.length 0 lo),Heap.get?_push_size _ rfl⟩
noncomputable def v5:V→Bool
 |.non=>true
 |.bl _=>true
 |.int _=>true
 |.str _=>true
 |_=>false
noncomputable def eqV:V→V→Bool
 |.non,.non=>true
 |.bl a,.bl b=>a == b
 |.bl a,.int b=>(if a then 1 else 0) == b
 |.int a,.bl b=>a == (if b then 1 else 0)
 |.int a,.int b=>a == b
 |.str a,.str b=>a == b
 |_,_=>false
theorem Zm{A:Around}{s:Shared}{y x:V}{u v:Value}(ry:RelV y u)(rx:RelV x v)(fy:v5 y=true)(fx:v5 x=true):SeqAt.EqAt A s u v (eqV y x):=by
 cases y with
 |non=>
  cases ry
  cases x with
  |non=>cases rx;exact SeqAt.EqAt.same _
  |bl b=>cases rx;exact SeqAt.EqAt.none_bool b
  |int b=>obtain⟨t,rfl⟩:=rx;exact SeqAt.EqAt.none_int b t
  |str b=>obtain⟨t,rfl⟩:=rx;exact SeqAt.EqAt.none_str b t
  |_=>exact absurd (show false=true from fx) Bool.false_ne_true
 |bl a=>
  cases ry
  cases x with
  |non=>cases rx;exact SeqAt.EqAt.bool_none a
  |bl b=>cases rx;exact SeqAt.EqAt.bool_bool a b
  |int b=>obtain⟨t,rfl⟩:=rx;exact SeqAt.EqAt.bool_int a b t
  |str b=>obtain⟨t,rfl⟩:=rx;exact SeqAt.EqAt.bool_str a b t
  |_=>exact absurd (show false=true from fx) Bool.false_ne_true
 |int a=>
  obtain⟨t',rfl⟩:=ry
  cases x with
  |non=>cases rx;exact SeqAt.EqAt.int_none a t'
  |bl b=>cases rx;exact SeqAt.EqAt.int_bool a t' b
  |int b=>obtain⟨t,rfl⟩:=rx;exact SeqAt.EqAt.int_int a t' b t
  |str b=>obtain⟨t,rfl⟩:=rx;exact SeqAt.EqAt.int_str a t' b t
  |_=>exact absurd (show false=true from fx) Bool.false_ne_true
 |str a=>
  obtain⟨t',rfl⟩:=ry
  cases x with
  |non=>cases rx;exact SeqAt.EqAt.str_none a t'
  |bl b=>cases rx;exact SeqAt.EqAt.str_bool a t' b
  |int b=>obtain⟨t,rfl⟩:=rx;exact SeqAt.EqAt.str_int a t' b t
  |str b=>obtain⟨t,rfl⟩:=rx;exact SeqAt.EqAt.str_str a t' b t
  |_=>exact absurd (show false=true from fx) Bool.false_ne_true
 |_=>exact absurd (show false=true from fy) Bool.false_ne_true
noncomputable def eqU(x:V)(u:Value):Bool:=match u with
 |.none=>eqV .non x
 |.bool b=>eqV (.bl b) x
 |.int i _=>eqV (.int i) x
 |.str z _=>eqV (.str z) x
 |_=>false
theorem gm{x y:V}{u:Value}(r:RelV y u)(f:v5 y=true):eqU x u=eqV y x:=by
 cases y with
 |non=>cases r;rfl
 |bl b=>cases r;rfl
 |int i=>obtain⟨t,rfl⟩:=r;rfl
 |str z=>obtain⟨t,rfl⟩:=r;rfl
 |_=>exact absurd (show false=true from f) Bool.false_ne_true
theorem uV{x:V}:∀{xs:List V} {us:List Value},Vals xs us→xs.all v5=true→us.any (eqU x)=xs.any fun y=>eqV y x
 |_,_,.nil,_=>rfl
 |y::xs,u::us,.cons r t,f=>by
  rw[List.all_cons,Bool.and_eq_true]at f
  rw[List.any_cons,List.any_cons,gm r f.1,uV t f.2]
theorem vX{A:Around}{s:Shared}{x:V}{v:Value}(rx:RelV x v)(fx:v5 x=true):∀{xs:List V} {us:List Value},Vals xs us→xs.all v5=true→∀u∈us,SeqAt.EqAt A s u v (eqU x u)
 |_,_,.nil,_=>fun u hu=>by cases hu
 |y::xs,u::us,.cons r t,f=>fun u' hu=>by
  rw[List.all_cons,Bool.and_eq_true]at f
  rcases List.mem_cons.mp hu with rfl|hu
  . rw[gm r f.1];exact Zm r rx f.1 fx
  . exact vX rx fx t f.2 u' hu
noncomputable def inV(x:V)(xs:List V):Bool:=xs.any fun y=>eqV y x
noncomputable def rIn(K:PySem.W.Frag)(neg:Bool):R2:=fun x y H Q=>∃p xs,y=.ref p∧(SqL K H p xs∨SqT K H p xs)∧v5 x=true∧xs.all v5=true∧Q (.bl (if neg then !inV x xs else inV x xs)) H
theorem ir:OpR X (compareOp .In) (rIn X.K false):=by
 intro pins s σ H x y v u Q I rx ry h
 obtain⟨p,xs,rfl,hq,fx,fs,q⟩:=h
 cases ry
 rcases hq with hq|hq
 . obtain⟨its,r,pl,hz⟩:=I.list hq
   refine SeqAt.in_listAt (eqU x) pl.isList (fun w hw=>vX rx fx r fs w (by simpa using hw)) ⟨.bl _,H,I,rfl,?_⟩
   rw[show its.toArray.any (eqU x)=its.any (eqU x) by simp,uV r fs]
   exact q
 . obtain⟨its,r,pl,hz⟩:=I.tuple hq
   refine SeqAt.in_tupleAt (eqU x) pl (fun w hw=>vX rx fx r fs w (by simpa using hw)) ⟨.bl _,H,I,rfl,?_⟩
   rw[show its.toArray.any (eqU x)=its.any (eqU x) by simp,uV r fs]
   exact q
theorem oW:OpR X (compareOp .NotIn) (rIn X.K true):=by
 intro pins s σ H x y v u Q I rx ry h
 obtain⟨p,xs,rfl,hq,fx,fs,q⟩:=h
 cases ry
 rcases hq with hq|hq
 . obtain⟨its,r,pl,hz⟩:=I.list hq
   refine SeqAt.notIn_listAt (eqU x) pl.isList (fun w hw=>vX rx fx r fs w (by simpa using hw)) ⟨.bl _,H,I,rfl,?_⟩
   rw[show its.toArray.any (eqU x)=its.any (eqU x) by simp,uV r fs]
   exact q
 . obtain⟨its,r,pl,hz⟩:=I.tuple hq
   refine SeqAt.notIn_tupleAt (eqU x) pl (fun w hw=>vX rx fx r fs w (by simpa using hw)) ⟨.bl _,H,I,rfl,?_⟩
   rw[show its.toArray.any (eqU x)=its.any (eqU x) by simp,uV r fs]
   exact q
theorem oA:yQ X (.builtin "len") (fun xs H Q=>∃p ys,xs=[.ref p]∧(SqL X.K H p ys∨SqT X.K H p ys)∧Q (.int ys.length) H):=by
 intro pins s σ H xs us Q I r h
 obtain⟨p,ys,rfl,hq,q⟩:=h
 obtain⟨u,rfl,rx⟩:=vals1 r
 cases rx
 have hn:=uK
 rcases hq with hq|hq
 . obtain⟨its,r',pl,hz⟩:=I.list hq
   have hlen:=r'.length
   exact Calls.call_len_list pl.isList (by simp only[List.size_toArray]<;>omega) ⟨.int ys.length,H,I.tok _,⟨s.toks+1,by rw[List.size_toArray,hlen]⟩,q⟩
 . obtain⟨its,r',pl,hz⟩:=I.tuple hq
   have hlen:=r'.length
   exact len_tuple pl (by simp only[List.size_toArray]<;>omega) ⟨.int ys.length,H,I.tok _,⟨s.toks+1,by rw[List.size_toArray,hlen]⟩,q⟩
theorem oB:yQ X (.builtin "len") (fun xs H Q=>∃z,xs=[.str z]∧z.length≤sizeLine∧Q (.int z.length) H):=by
 intro pins s σ H xs us Q I r h
 obtain⟨z,rfl,hz,q⟩:=h
 obtain⟨u,rfl,t,rfl⟩:=vals1 r
 have hn:=uK
 exact len_str (by omega) ⟨.int z.length,H,I.tok _,⟨_,rfl⟩,q⟩
theorem vz:yQ X (.type "tuple") (fun xs H Q=>∃p ys,xs=[.ref p]∧((SqL X.K H p ys∧∀l,H l=none→Q (.ref l) (upd H l (.tup ys)))∨(SqT X.K H p ys∧Q (.ref p) H))):=by
 intro pins s σ H xs us Q I r h
 obtain⟨p,ys,rfl,h⟩:=h
 obtain⟨u,rfl,rx⟩:=vals1 r
 cases rx
 rcases h with⟨hq,q⟩|⟨hq,q⟩
 . obtain⟨its,r',pl,hz⟩:=I.list hq
   have hlen:=r'.length
   refine call_tuple_list pl.isList (fun h' kp=>?_) (by simp only[List.size_toArray]<;>omega)
   have I1:Inv X pins σ H {s with heap:=h'}:=I.kept (t':=s.toks) kp
   have I2:Inv X pins σ (upd H h'.objs.size (.tup ys)) {s with heap:=h'.push {cls:=.type "tuple",data:=.seq its.toArray}}:=
    I1.laid (t':=s.toks) (fun b o e=>Heap.get?_push_of_some _ e) (Nat.le_refl _) (show zy X.prog X.w _ _ _ (.tup ys) from ⟨hz,its,r',uR.new _ _⟩)
   exact⟨.ref h'.objs.size,_,I2,rfl,q _ (I1.hok.fresh (Nat.le_refl _))⟩
 . obtain⟨its,r',pl,hz⟩:=I.tuple hq
   exact call_tuple_same pl ⟨.ref p,H,I,rfl,q⟩
variable {o e:Expr}{es:List Expr}{to:TE}{t:TA}{name:Str}{apos cpos:Pos}{T id:String}{r:V→List V→Hp→VK→Prop}
/- xs.append(e),list.index on a module's tuple .. are MtR facts of 06m -/
end
end L2
namespace L2
open PySem PySem.Spec PyProof.Rows
def MtM(X:Cx)(id:String)(r:V→List V→Hp→VK→Prop):Prop:=
 ∀(pins:List (Addr × Obj)) (s:Shared) (σ:St) (H:Hp) (x:V) (xs:List V) (v:Value) (us:List Value) (Q:VK),Inv X pins σ H s→RelV x v→Vals xs us→r x xs H Q →
  wpAny (model X.prog X.w) X.A (call (.builtin id) (v::us)) (EP X pins σ Q) X.xe s
theorem Vals.one:∀{x:V} {us:List Value},Vals [x] us→∃u,us=[u]∧RelV x u
 |_,_,.cons r .nil=>⟨_,rfl,r⟩
theorem Vals.rep{xs:List V}{us:List Value}(h:Vals xs us):∀k:Nat,Vals (List.replicate k xs).flatten (List.replicate k us).flatten
 |0=>.nil
 |k+1=>by
  rw[List.replicate_succ,List.replicate_succ,List.flatten_cons,List.flatten_cons]
  exact Vals.append h (Vals.rep h k)
theorem foldl_rep(its:List Value):∀(k:Nat) (acc:List Value),
 List.foldl (fun x1 x2=>x1++x2) acc.toArray (List.replicate k its.toArray)=(acc++(List.replicate k its).flatten).toArray
 |0,acc=>by simp
 |k+1,acc=>by
  have e:acc.toArray++its.toArray=(acc++its).toArray:=by simp
  have e2:(acc++its)++(List.replicate k its).flatten=acc++(List.replicate (k+1) its).flatten:=by
   rw[List.replicate_succ,List.flatten_cons,List.append_assoc]
  rw[←e2,←foldl_rep its k (acc++its),←e,List.replicate_succ,List.foldl_cons]
section
variable {X:Cx}{pins:List (Addr × Obj)}{σ:St}{H:Hp}{s:Shared}{l b:Addr}{xs ys zs:List V}
theorem Inv.V4{its its':List Value}{n:Nat}{f:Array Value→Array Value}{t':Nat}(I:Inv X pins σ H s)(hH:H l=some (.lst xs))
 (e:s.heap.get? l=some {cls:=.type "list",data:=.seq its.toArray n}) (hf:f its.toArray=its'.toArray) (hv:Vals ys its') (hz:ys.length≤sizeLine) :
 Inv X pins σ (upd H l (.lst ys)) {s with heap:=s.heap.update l (Obj.mapSeq f),toks:=t'}:=by
 have q:=PySem.IsL.update e f
 rw[hf]at q
 refine I.write (x:=l) (e:=l) (by rw[hH];exact trivial) (.inl rfl) (fun b' u hb hu=>(Heap.get?_update_other s.heap (Obj.mapSeq f) (Ne.symm hb)).trans hu) ⟨_,q⟩ ?_
 exact⟨hz,its',_,hv,q⟩
theorem Inv.Wk{its:List Value}{t':Nat}(I:Inv X pins σ H s)(hv:Vals ys its)(hz:ys.length≤sizeLine) :
 Inv X pins σ (upd H s.heap.objs.size (.lst ys)) {s with heap:=s.heap.push {cls:=.type "list",data:=.seq its.toArray},toks:=t'}:=
 I.laid (fun _ _ q=>Heap.get?_push_of_some _ q) (Nat.le_refl _) ⟨hz,its,0,hv,Heap.get?_push_size _ rfl⟩
theorem Inv.fresh(I:Inv X pins σ H s):H s.heap.objs.size=none:=I.hok.fresh (Nat.le_refl _)
theorem Inv.bP(I:Inv X pins σ H s)(hH:H l=some (.lst xs)):xs.length≤sizeLine∧∃(its:List Value) (n:Nat),Vals xs its∧xs.length=its.length∧s.heap.get? l=some {cls:=.type "list",data:=.seq its.toArray n}:=by
 obtain⟨z,its,n,r,e⟩:=I.hok l _ hH
 exact⟨z,its,n,r,r.length,e⟩
theorem fw{n:Nat}(h:n≤sizeLine):Builtin.List.listTooLong n=false:=by
 unfold Builtin.List.listTooLong
 exact decide_eq_false (by omega)
end
section
variable {X:Cx}
noncomputable def aK:V→List V→Hp→VK→Prop:=fun x vs H Q=>∃l xs y,x=.ref l∧vs=[y]∧H l=some (.lst xs)∧xs.length<sizeLine∧Q .non (upd H l (.lst (xs++[y])))
theorem iT:MtM X "list.append" aK:=by
 intro pins s σ H x vs v us Q I rx rv h
 obtain⟨l,xs,y,rfl,rfl,hH,hz,q⟩:=h
 cases rx
 obtain⟨u,rfl,ru⟩:=rv.one
 obtain⟨z,its,n,r,hl,e⟩:=I.bP hH
 refine call_meets F.slot_list_append ⟨_,e,rfl⟩ F.entry_list_append (F.args_list_append_2 _ _) (PySem.list_append l its.toArray n u (by rw[List.size_toArray];omega)) ⟨e,?_⟩
 refine⟨.non,_,I.V4 (its':=its++[u]) hH e (by simp) (r.append (.cons ru .nil)) ?_,rfl,q⟩
 rw[List.length_append,List.length_singleton]
 omega
noncomputable def UB:R2:=fun x y H Q=>∃l b xs zs,x=.ref l∧y=.ref b∧H l=some (.lst xs)∧H b=some (.lst zs)∧xs.length+zs.length≤sizeLine∧∀p,H p=none→Q (.ref p) (upd H p (.lst (xs++zs)))
theorem Yn:OpR X (binaryOp .Add) UB:=by
 intro pins s σ H x y v u Q I rx ry h
 obtain⟨l,b,xs,zs,rfl,rfl,hH,hB,hz,q⟩:=h
 cases rx
 cases ry
 obtain⟨z,its,n,r,hl,e⟩:=I.bP hH
 obtain⟨z2,its2,n2,r2,hl2,e2⟩:=I.bP hB
 refine PySem.P.add_list e e2 ?_ (by rw[List.size_toArray,List.size_toArray];omega)
 have ea:its.toArray++its2.toArray=(its++its2).toArray:=by simp
 rw[ea]
 exact⟨.ref _,_,I.Wk (t':=s.toks) (r.append r2) (by rw[List.length_append];omega),rfl,q _ I.fresh⟩
noncomputable def UC:R2:=fun x y H Q=>∃l k xs,x=.ref l∧y=.int k∧H l=some (.lst xs)∧-(2 ^ 63)≤k∧k<2 ^ 63∧xs.length*k.toNat≤sizeLine ∧
 ∀p,H p=none→Q (.ref p) (upd H p (.lst (List.replicate k.toNat xs).flatten))
theorem len_rep{α:Type}(xs:List α)(k:Nat):(List.replicate k xs).flatten.length=k*xs.length:=by
 induction k with
 |zero=>simp
 |succ k ih=>rw[List.replicate_succ,List.flatten_cons,List.length_append,ih,Nat.succ_mul,Nat.add_comm]
theorem Ys:OpR X (binaryOp .Mult) UC:=by
 intro pins s σ H x y v u Q I rx ry h
 obtain⟨l,k,xs,rfl,rfl,hH,h1,h2,hz,q⟩:=h
 cases rx
 obtain⟨t,rfl⟩:=ry
 obtain⟨z,its,n,r,hl,e⟩:=I.bP hH
 have hlen:its.toArray.size*k.toNat≤sizeLine:=by rw[List.size_toArray,←hl];exact hz
 have hcap:¬its.toArray.size*k.toNat > (2 ^ 63-1)/8:=by
  have:(sizeLine:Nat)≤(2 ^ 63-1)/8:=by decide
  omega
 have hfit:¬(!Builtin.List.listFitsIndex k)=true:=by
  rw[fitsIndex_both h1 h2]
  exact Bool.false_ne_true
 have hlong:¬Builtin.List.listTooLong (its.toArray.size*k.toNat)=true:=by
  rw[fw hlen]
  exact Bool.false_ne_true
 have hnew:List.foldl (fun x1 x2=>x1++x2) #[] (List.replicate (if its.toArray.isEmpty=true then 0 else k.toNat) its.toArray)=(List.replicate k.toNat its).flatten.toArray:=by
  have f0:∀m:Nat,List.foldl (fun x1 x2=>x1++x2) #[] (List.replicate m its.toArray)=(List.replicate m its).flatten.toArray:=fun m=>by
   have:=foldl_rep its m []
   rw[List.nil_append]at this
   exact this
  rw[f0]
  cases its with
  |nil=>simp
  |cons a r'=>rw[if_neg (by simp)]
 refine wpAny_binaryOp_repeat_ref (T:="list") (U:="int") (by decide) ⟨_,e,rfl⟩ (fun s'=>typeIs_int s' k t) noFill_list_mul F.fills_int_mul F.slot_int_rmul repeat_list F.slot_int_index.lookup
  (call_meets F.slot_int_rmul (typeIs_int s k t) F.entry_int_rmul (F.args_int_rmul_2 _ _) (int___rmul___int_list k t l its.toArray n)
   ⟨e,rfl,⟨_,e,rfl⟩,call_meets F.slot_list_mul ⟨_,e,rfl⟩ F.entry_list_mul (F.args_list_mul_2 _ _) (AutoListH.list___mul___list_int_3 l its.toArray n k t hfit hcap hlong) ⟨e,?_⟩⟩)
 rw[hnew]
 exact⟨.ref _,_,I.Wk (t':=s.toks) (r.rep k.toNat) (by rw[len_rep,Nat.mul_comm];exact hz),rfl,q _ I.fresh⟩
end
end L2
namespace Att
open PySem PySem.W PySem.Calls PyProof.Rows
theorem sL{P:Params}{h:Heap}:∀(ns:List Int) (vs:List Value),WellAll P h vs (ns.map WData.int)→IntsAre vs ns:=by
 intro ns
 induction ns with
 |nil=>
  intro vs w
  rw[List.map_nil]at w
  cases w
  exact .nil
 |cons n ns ih=>
  intro vs w
  rw[List.map_cons]at w
  cases w with
  |cons a b=>
   cases a
   exact .cons _ _ (ih _ b)
theorem hU{l:OpenLaw}{n:Nat}(hn:l.most=some n){P:Params}{h:Heap}{args:List WData}{vals:List Value}
 (hpre:l.row.toRowW.claim.pre args=true) (hwl:WellAll P h vals args) :
 ∃a vs ns,vals=[Value.ref a]∧args=[WData.list (ns.map WData.int)]∧h.get? a=some {cls:=.type "list",data:=.seq vs.toArray}∧IntsAre vs ns∧ns.length≤n:=by
 have hsh:WShape.hasAll [] args [.list .int]=true:=(pre_splitW hpre).1
 have hc:l.pre.holds [] {args:=args}=true:=(pre_splitW hpre).2
 obtain⟨d,r,rfl,h1,h2⟩:=hasAllW_cons hsh
 obtain rfl:=hasAllW_nil h2
 obtain⟨xs,rfl,h3⟩:=hasW_list h1
 obtain⟨ns,rfl⟩:=items_int h3
 have hlen:ns.length≤n:=by
  unfold OpenLaw.pre at hc
  have h4:(WTm.not (.lt (.lit (.int (n:Int))) (.len (.arg 0)))).holds [] {args:=[.list (ns.map .int)]}=true:=by
   have h4:=(holds_andW hc).1
   rw[hn]at h4
   exact h4
  have h5:=condW_of h4 (w_not (w_lt w_lit (w_len_list (w_arg rfl))))
  rw[List.length_map]at h5
  refine Nat.le_of_not_lt fun q=>?_
  have q':(n:Int)<((ns.length:Nat):Int):=by omega
  first
   |(rw[decide_eq_true q']at h5;exact absurd h5 (by decide))
   |(simp at h5;omega)
 cases hwl with
 |cons w1 w2=>
  cases w2
  cases w1 with
  |list ho hall=>exact⟨_,_,ns,rfl,rfl,ho,sL ns _ hall,hlen⟩
theorem i4(l:OpenLaw)(args:List WData):l.row.toRowW.claim.post args (.bool true) args=true:=
 postW_of (r:=l.row.toRowW) (X:=(true == true))
  (show WShape.has [] (.bool true) .bool=true by first|rfl|decide|simp[WShape.has,WShape.arms,WShape.armsAll])
  (show (WTm.eq .res (.lit (.bool true))).value [] {args:=args,res:=some (.bool true),after:=args}=some (.bool (true == true)) from w_eq_bool (w_res rfl) w_lit) rfl
theorem nB{l:OpenLaw}{n:Nat}{q:Program}{loose:List Str}{XP:(Str→Option Value)→Heap→Prop}{YP:World→Heap→Prop}{d:DefRec}
 (hn:l.most=some n) (hdf:d.params.defaults=[])
 (call:∀(w:World) (s₀ s₁:Shared) (mg mb:Str→Option Value) (fa:Addr) (o:Obj) (pm cd doc:Value) (a:Addr) (vs:List Value) (ns:List Int),
  Ground q loose [] XP w s₀ mg mb s₁.heap→YP w s₁.heap →
  s₁.heap.get? fa=some o→o.data=.func (docDef d.name d.params d.body d.scope pm cd doc)→s₁.heap.CodeRec cd d.name→mg d.name=some (.ref fa) →
  s₁.heap.get? a=some {cls:=.type "list",data:=.seq vs.toArray}→IntsAre vs ns→ns.length≤n→s₁.gens=#[] →
  codeAny (model l.prog w) callerA (.call (.ref fa) ⟨[.ref a],[]⟩) (fun r s'=>r=.ok (.ret (.bool true))∧OldK s₁.heap s'.heap∧s'.os=s₁.os∧AllBare s'.gens) s₁) :
 WalkO q loose XP YP l.row.toRowW d [] (fun f vs=>PySem.call f vs):=by
 intro w s₀ s₁ mg mb G Y fa o pm cd doc dV kV ho hd hcd hD hmg hg args vals as hpre hlay hrd hwl hlo
 obtain rfl:dV=.none:=Dflts.none hD hdf
 obtain rfl:kV=.none:=Dflts.noKw hD
 obtain⟨a,vs,ns,rfl,rfl,hobj,hints,hlen⟩:=hU hn hpre hwl
 refine enter_call (codeAny_mono (call w s₀ s₁ mg mb fa o pm cd doc a vs ns G Y ho (fd_plain hd) hcd hmg hobj hints hlen hg) fun r s' hq=>?_)
 obtain⟨rfl,h2,h3,h4⟩:=hq
 exact⟨.inl ⟨.bool true,.bool true,[],rfl,fun _=>rfl,.bool true,i4 l _,fun _=>⟨List.Pairwise.nil,fun _ hm=>(nomatch hm)⟩⟩,h2,h3,h4⟩
end Att
namespace L2
open PySem PySem.Spec PyProof.Rows
theorem pq:∀{vs:List Value} {ns:List Int},IntsAre vs ns→Vals (ns.map V.int) vs
 |_,_,.nil=>.nil
 |_,_,.cons n t h=>.cons ⟨t,rfl⟩ (pq h)
def ZZ(H:Hp):Prop:=∀b,H b=none∨∃o xs,H b=some (.frz o (.lst xs))
theorem fb{P:Program}{w:World}{K:PySem.W.Frag}{mg mb:Str→Option Value}{CX:CXT}{k:Nat}{fa a:Addr}{fd:FuncData}{x:Str}{sp:Sp}{s₁:Shared}{vs:List Value}{ns:List Int}
 (KX:K.In s₁.heap) (hns:s₁.heap.Ns mainGlobals mg) (hb:s₁.heap.Ns builtinsNs mb) (hbb:∀x:Str,x≠"__name__"→mb x=bootBuiltins x) (hlim:s₁.heap.NoLimit) (hg:s₁.gens=#[])
 (ha:s₁.heap.get? a=some {cls:=.type "list",data:=.seq vs.toArray}) (hi:IntsAre vs ns) (hl:ns.length≤sizeLine) (hr:y1 k callerA)
 (F:∀base:Heap,K.In base→base.Ns mainGlobals mg→sI P w K mg base CX k fa fd [x] sp) (hbind:∀(s:Shared) (u:Value),BindsTo s fd ⟨[u],[]⟩ [(x,u)])
 (hsp:∀H:Hp,ZZ H→SqL K H a (ns.map V.int)→sp [.ref a] H (fun v _=>v=.bl true) fun _ _ _=>False)
 (hCX:∀H e s',CX [] H s₁ (fun _ _ _=>False) e s'→False) :
 codeAny (model P w) callerA (.call (.ref fa) ⟨[.ref a],[]⟩) (fun r s'=>r=.ok (.ret (.bool true))∧OldK s₁.heap s'.heap∧s'.os=s₁.os∧AllBare s'.gens) s₁:=by
 have rv:=pq hi
 have lenV:=hi.length
 -- from an abstract heap in which nothing but the script may be tracked
 have core:∀H:Hp,ZZ H→SqL K H a (ns.map V.int)→HOk P w H s₁.heap→(∀b,H b≠none→b=a)→(H a≠none→K.lookup a=none) →
  codeAny (model P w) callerA (.call (.ref fa) ⟨[.ref a],[]⟩) (fun r s'=>r=.ok (.ret (.bool true))∧OldK s₁.heap s'.heap∧s'.os=s₁.os∧AllBare s'.gens) s₁:=by
  intro H hO hS hok hA hK
  have base_of:∀{b:Addr} {o:Obj},s₁.heap.get? b=some o→H b=none→(oK s₁.heap H).get? b=some o:=fun e n=>g7 e n
  have noA:∀{b:Addr} {o:Obj} {es:Array DictEntry} {ep:Nat},s₁.heap.get? b=some o→o.data=.dict es ep→H b=none:=fun{b o es ep} e d=>by
   cases q:H b with
   |none=>rfl
   |some u=>
    have e':b=a:=hA b (by rw[q];simp)
    subst e'
    rw[ha]at e;cases e
    have d':Data.seq vs.toArray _=Data.dict es ep:=d
    cases d'
  have nsK:∀{b:Addr} {m:Str→Option Value},s₁.heap.Ns b m→(oK s₁.heap H).Ns b m:=fun{b m} ⟨o,es,ep,e,d,r⟩=>⟨o,es,ep,base_of e (noA e d),d,r⟩
  have hKb:K.In (oK s₁.heap H):=fun b o e=>base_of (KX b o e) (by
   cases q:H b with
   |none=>rfl
   |some u=>
    have e':b=a:=hA b (by rw[q];simp)
    subst e'
    rw[hK (by rw[q];simp)]at e;cases e)
  have hM:Mod K mg (oK s₁.heap H):=⟨hKb,nsK hns,⟨mb,nsK hb,hbb⟩,let ⟨mc,h1,h2⟩:=hlim;⟨mc,nsK h1,h2⟩⟩
  have e0:cF P w K mg (oK s₁.heap H) callerA [] s₁ H:=⟨rfl,hM,fun b o e=>bX e,Nat.le_of_eq (iA _ _),trivial,fun b hb=>absurd (show b∈([]:List Addr) from hb) (by simp),hok,.of_eq hg⟩
  refine codeAny_mono ((F _ hKb (nsK hns)).run callerA [] s₁ H ⟨[.ref a],[]⟩ [.ref a] [.ref a] _ _ hr e0 (hbind s₁ (.ref a)) (.cons rfl .nil) (hsp H hO hS)) fun r s' h=>?_
  cases r with
  |error e=>exact(hCX H e s' h).elim
  |ok fl=>
   cases fl with
   |next=>exact False.elim h
   |brk=>exact False.elim h
   |cont=>exact False.elim h
   |ret u=>
    obtain⟨v,H',os,bare,un,hok',r',q⟩:=h
    have q':v=.bl true:=q
    subst q'
    obtain rfl:u=Value.bool true:=r'
    refine⟨rfl,OldK.of_keep fun b o e=>?_,os,bare⟩
    cases q:H b with
    |none=>exact un.keep b o e q (by intro z;exact absurd (show b∈([]:List Addr) from z) (by simp)) (by simp)
    |some u=>
     rcases hO b with z|⟨ob,xs,z⟩
     . rw[q]at z;cases z
     . have z2:=un.frzs b ob _ z
       obtain⟨e1,_⟩:=hok b _ z
       obtain⟨e2,_⟩:=hok' b _ z2
       rw[e]at e1;cases e1
       exact e2
 cases hk:K.lookup a with
 |some o=>
  -- the script is one of the module's own objects
  have e:=KX a o hk
  rw[ha]at e
  cases e
  refine core (fun _=>none) (fun _=>.inl rfl) (.inr ⟨_,vs.toArray,_,hk,rfl,rfl,rfl,by rw[List.size_toArray,lenV];exact hl,by simpa using rv⟩) (fun b u z=>by have z':(none:Option HO)=some u:=z;cases z') (fun b z=>absurd rfl z) fun z=>absurd rfl z
 |none=>
  refine core (fun b=>if b=a then some (.frz {cls:=.type "list",data:=.seq vs.toArray} (.lst (ns.map V.int))) else none) (fun b=>?_) (.inl (.inr ⟨{cls:=.type "list",data:=.seq vs.toArray},if_pos rfl⟩)) (fun b u z=>?_) (fun b z=>?_) fun _=>hk
  . by_cases hb:b=a
    . exact .inr ⟨_,_,if_pos hb⟩
    . exact .inl (if_neg hb)
  . by_cases hb:b=a
    . have z':=(if_pos hb).symm.trans z
      cases z'
      subst hb
      exact⟨ha,by rw[List.length_map];exact hl,vs,_,rv,ha⟩
    . have z':=(if_neg hb).symm.trans z
      cases z'
  . by_cases hb:b=a
    . exact hb
    . exact absurd (if_neg hb) z
end L2
namespace L2
open PySem PySem.Spec PyProof.Rows
theorem aj{l:PySem.W.OpenLaw}{n k:Nat}{q:Program}{loose:List Str}{XP:(Str→Option Value)→Heap→Prop}{YP:World→Heap→Prop}{d:DefRec}{K:Params→PySem.W.Frag}{CX:World→CXT}{sp:World→Sp}{x:Str}
 (hn:l.most=some n) (hn2:n≤sizeLine) (hdf:d.params.defaults=[]) (hr:y1 k callerA)
 (hY:∀(w:World) (h:Heap),YP w h→(K w.params).In h)
 (F:∀(w:World) (mg:Str→Option Value) (fa:Addr) (h:Heap),(K w.params).In h→h.Ns mainGlobals mg→mg d.name=some (.ref fa) →
  ∃fd:FuncData,(∀(s:Shared) (u:Value),BindsTo s fd ⟨[u],[]⟩ [(x,u)]) ∧
   ∀base:Heap,(K w.params).In base→base.Ns mainGlobals mg→sI l.prog w (K w.params) mg base (CX w) k fa fd [x] (sp w))
 (hsp:∀(w:World) (H:Hp) (a:Addr) (ns:List Int),ns.length≤n→ZZ H→SqL (K w.params) H a (ns.map V.int)→sp w [.ref a] H (fun v _=>v=.bl true) fun _ _ _=>False)
 (hCX:∀(w:World) (H:Hp) (s:Shared) (e:Value) (s':Shared),CX w [] H s (fun _ _ _=>False) e s'→False) :
 PySem.W.WalkO q loose XP YP l.row.toRowW d [] (fun f vs=>PySem.call f vs):=by
 refine Att.nB hn hdf fun w s₀ s₁ mg mb fa o pm cd doc a vs ns G Y ho hd hcd hmg hobj hints hlen hg=>?_
 have KX:=hY w _ Y
 obtain⟨fd,hb,hF⟩:=F w mg fa _ KX G.T.g hmg
 exact fb KX G.T.g G.T.b G.T.builtins G.T.nolimit hg hobj hints (Nat.le_trans hlen hn2) hr hF hb (fun H hO hS=>hsp w H a ns hlen hO hS) fun H e s'=>hCX w H s₁ e s'
end L2
/- THE LAST THEOREM (shape;LID,My.* are yours):
   My.Adr: a structure of the addresses that your layer names (classes,functions);My.Txt K t: a structure (Prop) of the equations over K;
   My.txt_mk:{K} {implicit addresses ..} (e1:nsIn K mainGlobals "law"=some (some (.ref f))) (e2:K.lookup f=some ⟨oc,od,.func (fnOf "law" "law" params body scope dV kV doc pm an cdv ct),sl⟩) (e3:codeIn K cdv "law"=true) ..:∃t,My.Txt K t
(the tactic k_is has no namespace: write k_is) -/
namespace L2
open PySem PySem.Spec PyProof.Rows
noncomputable def vB(s:Stmt):Arguments:=match s with
 |.FunctionDef _ a _ _ _ _ _ _ _ _=>a
 |_=>{posonlyargs:=[],args:=[],vararg:=none,kwonlyargs:=[],kw_defaults:=[],kwarg:=none,defaults:=[]}
noncomputable def xh(s:Stmt):List Stmt:=match s with
 |.FunctionDef _ _ b _ _ _ _ _ _ _=>b
 |_=>[]
noncomputable def yB(s:Stmt):Scope:=match s with
 |.FunctionDef _ _ _ _ _ _ sc _ _ _=>sc
 |_=>{kind:=.function,names:=[],isGenerator:=false,isCoroutine:=false}
noncomputable abbrev CX0:CXT:=fun _ _ _ _ _ _=>False
noncomputable abbrev E0:XK:=fun _ _ _=>False
theorem ZJ{X:Cx}:Passes CX0 X E0:=fun _ _ _ _ _ _ _ h=>h.elim
structure Fun(K:PySem.W.Frag)(x qual:Str)(st:Stmt)(f:Addr)(fd:FuncData):Prop where
 ex:∃(oc:Value) (od:Option Addr) (kV doc pm:Value) (an:Option Addr) (cdv ct:Value) (osl:Array (Option Value)),
  fd=PySem.W.fnOf x qual (vB st) (xh st) (yB st) .none kV doc pm an cdv ct∧K.lookup f=some ⟨oc,od,.func fd,osl⟩∧PySem.W.codeIn K cdv qual=true
 kp:PySem.W.keepIn K (.ref f)=true
section
variable {P:Program}{w:World}{K:PySem.W.Frag}{mg:Str→Option Value}{base:Heap}
theorem Fun.ok{x qual:Str}{st:Stmt}{f:Addr}{fd:FuncData}{N ps:List Str}{k:Nat}{sp:Sp}(F:Fun K x qual st f fd)(S:sR N ps (yB st))(len:∀vs H Q E,sp vs H Q E→vs.length=ps.length)
 (hbody:∀(cdv:Value) (A:Around) (outer:List Env) (s:Shared) (H:Hp) (vs:List V) (Q:VK) (E:XK),y1 k (A.deeper (envOfC qual (yB st) s.heap.objs.size f cdv))→sp vs H Q E →
  ∃t,PSs (m8 CX0 P w K mg base N qual (yB st) f cdv A outer s H E).nox (xh st) t∧t {nx:=fun _ H'=>Q .non H',rt:=Q} (start N vs) H):sI P w K mg base CX0 (k+1) f fd ps sp:=by
 obtain⟨oc,od,kV,doc,pm,an,cdv,ct,osl,rfl,lk,hcd⟩:=F.ex
 refine WK lk hcd S len fun A outer s H vs Q E hr hsp=>?_
 obtain⟨t,h,q⟩:=hbody cdv A outer s H vs Q E hr hsp
 exact⟨t,h.nox,q⟩
theorem Fun.binds{x qual:Str}{st:Stmt}{f:Addr}{fd:FuncData}{ps:List Str}(F:Fun K x qual st f fd)
 (h:∀(kV doc pm:Value) (an:Option Addr) (cdv ct:Value) (us:List Value),us.length=ps.length→bindArgs (PySem.W.fnOf x qual (vB st) (xh st) (yB st) .none kV doc pm an cdv ct) ⟨us,[]⟩=pure (ps.zip us)):Binds K fd ps []:=by
 obtain⟨oc,od,kV,doc,pm,an,cdv,ct,osl,rfl,lk,hcd⟩:=F.ex
 exact .all (h kV doc pm an cdv ct)
theorem Zp{x qual:Str}{st:Stmt}{f:Addr}{oc:Value}{od an:Option Addr}{osl:Array (Option Value)}{kV doc pm cdv ct:Value}(l:K.lookup f=some ⟨oc,od,.func (PySem.W.fnOf x qual (vB st) (xh st) (yB st) .none kV doc pm an cdv ct),osl⟩)
 (c:PySem.W.codeIn K cdv qual=true) (k:PySem.W.keepIn K (.ref f)=true):Fun K x qual st f (PySem.W.fnOf x qual (vB st) (xh st) (yB st) .none kV doc pm an cdv ct):=⟨⟨oc,od,kV,doc,pm,an,cdv,ct,osl,rfl,l,c⟩,k⟩
end
theorem oO{A B:Prop}(h:B):if false=true then A else B:=by
 rw[if_neg Bool.false_ne_true]
 exact h
theorem oP{A B:Prop}(h:A):if true=true then A else B:=by
 rw[if_pos rfl]
 exact h
def tJ(H H':Hp):Prop:=∀b o,H b=some o→H' b=some o
theorem tJ.refl(H:Hp):tJ H H:=fun _ _ h=>h
end L2
end
section
namespace L2
open PySem PySem.Spec PyProof.Rows
noncomputable def uF(cells:List (Str × Addr)):List (Str × NameKind)→List (Str × Addr)→List (Str × Addr)
 |[],acc=>acc
 |(n,k)::r,acc=>if k == .free then (match cells.lookup n with|some c=>uF cells r ((n,c)::acc)|none=>uF cells r acc) else uF cells r acc
theorem uG{env:Env}:∀(names:List (Str × NameKind)) (acc:List (Str × Addr)),(∀x∈names,x.2=.free→∃c,env.cells.lookup x.1=some c) →
 (forIn names acc fun(x:Str × NameKind) (cs:List (Str × Addr))=>(if x.2 == .free then do let a ←cellOf env x.1;pure (ForInStep.yield ((x.1,a)::cs)) else pure (ForInStep.yield cs):Sem (ForInStep (List (Str × Addr)))))=pure (uF env.cells names acc)
 |[],acc,_=>rfl
 |(n,k)::r,acc,h=>by
  rw[List.forIn_cons]
  dsimp only
  unfold uF
  by_cases hk:(k == NameKind.free)=true
  . have hk':k=.free:=by simpa using hk
    obtain⟨c,hc⟩:=h (n,k) List.mem_cons_self hk'
    have hc':env.cells.lookup n=some c:=hc
    have hcell:cellOf env n=pure c:=by unfold cellOf;rw[hc']
    rw[if_pos hk,if_pos hk,hcell,hc',pure_bind,pure_bind]
    exact uG r _ fun x hx=>h x (List.mem_cons_of_mem _ hx)
  . rw[if_neg hk,if_neg hk,pure_bind]
    exact uG r _ fun x hx=>h x (List.mem_cons_of_mem _ hx)
theorem v3{scope:Scope}{env:Env}(h:∀x∈scope.names,x.2=.free→∃c,env.cells.lookup x.1=some c):closureFor scope env=pure (uF env.cells scope.names []):=by
 have e:=uG (env:=env) scope.names [] h
 show (do let cs ←forIn scope.names [] _;pure cs)=_
 refine Eq.trans ?_ e
 refine Eq.trans (bind_pure _) ?_
 congr 1
theorem vQ{cells:List (Str × Addr)}:∀(names:List (Str × NameKind)) (acc:List (Str × Addr)),(∀x c,acc.lookup x=some c→cells.lookup x=some c)→∀x c,(uF cells names acc).lookup x=some c→cells.lookup x=some c
 |[],acc,h,x,c,e=>h x c e
 |(n,k)::r,acc,h,x,c,e=>by
  unfold uF at e
  by_cases hk:(k == NameKind.free)=true
  . rw[if_pos hk]at e
    cases hc:cells.lookup n with
    |none=>rw[hc]at e;exact vQ r acc h x c e
    |some d=>
     rw[hc]at e
     refine vQ r _ (fun y z q=>?_) x c e
     rw[List.lookup_cons]at q
     cases hy:(y == n) with
     |true=>rw[hy]at q;have hy':y=n:=by simpa using hy
            cases q;rw[hy'];exact hc
     |false=>rw[hy]at q;exact h y z q
  . rw[if_neg hk]at e;exact vQ r acc h x c e
theorem wj{cells:List (Str × Addr)}:∀(names:List (Str × NameKind)) (acc:List (Str × Addr)) (x:Str) (c:Addr),cells.lookup x=some c→(acc.lookup x=some c∨(x,NameKind.free)∈names)→(∀y d,acc.lookup y=some d→cells.lookup y=some d)→(uF cells names acc).lookup x=some c
 |[],acc,x,c,_,h,_=>by
  rcases h with h|h
  . exact h
  . cases h
 |(n,k)::r,acc,x,c,hc,h,ha=>by
  unfold uF
  by_cases hk:(k == NameKind.free)=true
  . rw[if_pos hk]
    cases hn:cells.lookup n with
    |none=>
     refine wj r acc x c hc ?_ ha
     rcases h with h|h
     . exact .inl h
     . rcases List.mem_cons.mp h with e|e
       . cases e;rw[hn]at hc;cases hc
       . exact .inr e
    |some d=>
     have ha':∀y z,((n,d)::acc).lookup y=some z→cells.lookup y=some z:=fun y z q=>by
      rw[List.lookup_cons]at q
      cases hy:(y == n) with
      |true=>rw[hy]at q;have hy':y=n:=by simpa using hy
             cases q;rw[hy'];exact hn
      |false=>rw[hy]at q;exact ha y z q
     by_cases hx:x=n
     . subst hx
       refine wj r _ x c hc (.inl ?_) ha'
       rw[hn]at hc;cases hc
       simp[List.lookup_cons]
     . refine wj r _ x c hc ?_ ha'
       rcases h with h|h
       . refine .inl ?_
         have:(x == n)=false:=by simpa using hx
         rw[List.lookup_cons,this];exact h
       . rcases List.mem_cons.mp h with e|e
         . cases e;exact absurd rfl hx
         . exact .inr e
  . rw[if_neg hk]
    refine wj r acc x c hc ?_ ha
    rcases h with h|h
    . exact .inl h
    . rcases List.mem_cons.mp h with e|e
      . cases e;exact absurd (by decide) hk
      . exact .inr e
noncomputable abbrev Cx.comp(X:Cx)(N:List Str)(sc:Scope)(C:Addr)(s:Shared)(H:Hp)(ex:List Addr):Cx:=
 {X with N:=N,s₀:=s,H₀:=H,env:=compEnvC sc (uF X.env.cells sc.names []) C X.env,outer:=X.stack,ex:=ex,fn:=fun _=>false,pn:=[],xe:=fun _ _=>False}
structure yD(X:Cx)(N:List Str)(sc:Scope)(fr:List (Option Nat)):Prop where
 kind:sc.kind=.function
 nocell:∀x∈sc.names,x.2≠.cell
 locals:∀x∈sc.names,x.2=.local→sc.names.lookup x.1=some .local
 free:∀x∈sc.names,x.2=.free→X.env.kindOf x.1=some .cell∨X.env.kindOf x.1=some .free
 len:fr.length=N.length
 from_:∀(i j:Nat) (x:Str),N[i]?=some x→fr[i]?=some (some j)→X.N[j]?=some x∧(x,NameKind.free)∈sc.names
 one:∀x,sc.names.lookup x=some .local→(x,NameKind.free)∈sc.names→False
noncomputable def zk(fr:List (Option Nat))(σ:St):St:=fr.map fun o=>match o with|some j=>(σ[j]?).join|none=>none
theorem og{sc:Scope}{env:Env}{x:Str}(hn:∀y∈sc.names,y.2≠.cell)(h:(relabel sc env).names.lookup x=some .cell∨(relabel sc env).names.lookup x=some .free):(x,NameKind.free)∈sc.names:=by
 have key:∀(names:List (Str × NameKind)),(∀y∈names,y.2≠.cell)→((names.map fun(n,k)=>if (k == NameKind.free&&env.scope.kind == .function&&env.kindOf n == some .cell) then (n,NameKind.cell) else (n,k)).lookup x=some .cell ∨
  (names.map fun(n,k)=>if (k == NameKind.free&&env.scope.kind == .function&&env.kindOf n == some .cell) then (n,NameKind.cell) else (n,k)).lookup x=some .free)→(x,NameKind.free)∈names:=by
  intro names
  induction names with
  |nil=>intro _ h;simp at h
  |cons p r ih=>
   obtain⟨n,k⟩:=p
   intro hn h
   have hr:=fun y hy=>hn y (List.mem_cons_of_mem _ hy)
   have hk:=hn (n,k) List.mem_cons_self
   rw[List.map_cons]at h
   dsimp only at h
   by_cases hx:x=n
   . subst hx
     by_cases hf:k=.free
     . subst hf;exact List.mem_cons_self
     . have hf':(k == NameKind.free)=false:=by simpa using hf
       rw[hf']at h
       simp only[Bool.false_and,Bool.false_eq_true,if_false,List.lookup_cons,beq_self_eq_true]at h
       rcases h with h|h
       . cases h;exact absurd rfl hk
       . cases h;exact absurd rfl hf
   . refine List.mem_cons_of_mem _ (ih hr ?_)
     have hx':(x == n)=false:=by simpa using hx
     split at h<;>simpa only[List.lookup_cons,hx'] using h
 exact key sc.names hn h
theorem uu{sc:Scope}{env:Env}{x:Str}(hl:∀y∈sc.names,y.2=.local→sc.names.lookup y.1=some .local)(h:sc.names.lookup x=some .free) :
 (relabel sc env).names.lookup x=some .cell∨(relabel sc env).names.lookup x=some .free:=by
 have key:∀(names:List (Str × NameKind)),names.lookup x=some .free→((names.map fun(n,k)=>if (k == NameKind.free&&env.scope.kind == .function&&env.kindOf n == some .cell) then (n,NameKind.cell) else (n,k)).lookup x=some .cell ∨
  (names.map fun(n,k)=>if (k == NameKind.free&&env.scope.kind == .function&&env.kindOf n == some .cell) then (n,NameKind.cell) else (n,k)).lookup x=some .free):=by
  intro names
  induction names with
  |nil=>intro h;simp at h
  |cons p r ih=>
   obtain⟨n,k⟩:=p
   intro h
   rw[List.map_cons]
   dsimp only
   cases hx:(x == n) with
   |true=>
    rw[List.lookup_cons,hx]at h
    cases h
    split
    . left;simp only[List.lookup_cons,hx]
    . right;simp only[List.lookup_cons,hx]
   |false=>
    rw[List.lookup_cons,hx]at h
    have:=ih h
    split<;>simpa only[List.lookup_cons,hx] using this
 exact key sc.names h
section
variable {X:Cx}{pins:List (Addr × Obj)}{σ:St}{H:Hp}{s:Shared}{N:List Str}{sc:Scope}{fr:List (Option Nat)}{fp:List Addr}
theorem yD.cells(S:yD X N sc fr)(ok:X.Ok):∀x∈sc.names,x.2=.free→∃c,X.env.cells.lookup x.1=some c:=fun x hx hk=>ok.has x.1 (S.free x hx hk)
theorem cO(I:Inv X pins σ H s)(S:yD X N sc fr)(hf:∀b∈fp,uB X pins H b)(hlt:∀b∈fp,b<s.heap.objs.size):(X.comp N sc s.heap.objs.size s H fp).Ok:=by
 have sub:∀x c,(uF X.env.cells sc.names []).lookup x=some c→X.env.cells.lookup x=some c:=vQ sc.names [] (fun x c e=>by simp at e)
 refine⟨I.ok.mod,S.kind,I.ok.glob,I.ok.blt,Nat.le_refl _,fun x y c e1 e2=>I.ok.inj x y c (sub x c e1) (sub y c e2),fun x h=>?_,fun x c h=>(nomatch h),I.ok.hd,I.ok.frames,.inl rfl,fun b hb=>?_,fun b o e=>I.bs b o e,?_,fun b o e hb=>?_,fun b hb z=>?_,I.stack,I.jk⟩
 . have m:(x,NameKind.free)∈sc.names:=og S.nocell h
   obtain⟨c,hc⟩:=S.cells I.ok (x,.free) m rfl
   exact⟨c,wj sc.names [] x c hc (.inr m) (fun y d e=>by simp at e)⟩
 . obtain⟨f0,f1,f2,f3,f4,f5⟩:=hf b hb
   exact⟨Nat.ne_of_lt (hlt b hb),fun x c e=>f4 x c (sub x c e)⟩
 . exact Nat.le_trans I.ok.bsz I.sz
 . obtain⟨f0,f1,f2,f3,f4,f5⟩:=hf b hb
   rcases f3 with f3|f3
   . exact I.ok.noex b o e f3
   . exact absurd (Nat.lt_of_lt_of_le (Heap.lt_size e) (Nat.le_trans I.ok.bsz f3)) (Nat.lt_irrefl _)
 . obtain⟨f0,f1,f2,f3,f4,f5⟩:=hf b hb
   rcases List.mem_cons.mp (I.kA b z) with e|e
   . exact f1 e
   . exact f2 e
theorem m6{h':Heap}{tk:Nat}(I:Inv X pins σ H s)(S:yD X N sc fr)(hf:∀b∈fp,uB X pins H b)(hlt:∀b∈fp,b<s.heap.objs.size)
 (hns:h'.Ns s.heap.objs.size (fun _=>none)) (k:∀b o,s.heap.get? b=some o→h'.get? b=some o):Inv (X.comp N sc s.heap.objs.size s H fp) [] (zk fr σ) H {s with heap:=h',toks:=tk}:=by
 have sub:∀x c,(uF X.env.cells sc.names []).lookup x=some c→X.env.cells.lookup x=some c:=vQ sc.names [] (fun x c e=>by simp at e)
 refine⟨cO I S hf hlt,rfl,I.bare,Un.kept k,⟨_,hns,fun i x v e1 e2 e3=>?_⟩,fun x c e=>?_,I.hok.fresh (Nat.le_refl _),fun x c e=>I.freeC x c (sub x c e),fun p hp=>(by simp at hp),I.hok.kept k,?_⟩
 . have e2':(fr.map fun o=>match o with|some j=>(σ[j]?).join|none=>none)[i]?=some (some v):=e2
   rw[List.getElem?_map]at e2'
   cases hfi:fr[i]? with
   |none=>rw[hfi]at e2';cases e2'
   |some o=>
    rw[hfi]at e2'
    cases o with
    |none=>cases e2'
    |some j=>
     obtain⟨n1,n2⟩:=S.from_ i j x e1 hfi
     have e3':σ[j]?=some (some v):=by
      have q:(σ[j]?).join=some v:=Option.some.inj e2'
      cases hσ:σ[j]? with
      |none=>rw[hσ]at q;cases q
      |some w=>rw[hσ]at q;cases w with
       |none=>cases q
       |some w'=>have:w'=v:=Option.some.inj q
                 rw[this]
     have hk:=S.free (x,.free) n2 rfl
     obtain⟨m,hn,hl⟩:=I.loc
     obtain⟨u,r,l⟩:=hl j x v n1 e3' (hk.elim (fun z=>.inr (.inl z)) fun z=>.inr (.inr z))
     refine⟨u,r,?_⟩
     rcases l with⟨hk',_⟩|⟨_,c,hc,z⟩
     . rcases hk with hk|hk<;>(rw[hk]at hk';cases hk')
     . refine .inr ⟨?_,c,wj sc.names [] x c hc (.inr n2) (fun y d e=>by simp at e),?_⟩
       . rcases e3 with e3|e3|e3
         . -- a local of that name: cannot be,the name is free in the block
           exfalso
           have hloc:sc.names.lookup x=some .local:=by
            have key:∀(names:List (Str × NameKind)),(names.map fun(n,k)=>if (k == NameKind.free&&X.env.scope.kind == .function&&X.env.kindOf n == some .cell) then (n,NameKind.cell) else (n,k)).lookup x=some .local→names.lookup x=some .local:=by
             intro names
             induction names with
             |nil=>intro h;simp at h
             |cons p r ih=>
              obtain⟨n,kk⟩:=p
              intro h
              rw[List.map_cons]at h
              dsimp only at h
              cases hx:(x == n) with
              |true=>
               split at h
               . simp only[List.lookup_cons,hx]at h;cases h
               . simp only[List.lookup_cons,hx]at h ⊢;exact h
              |false=>
               rw[List.lookup_cons,hx]
               refine ih ?_
               split at h<;>simpa only[List.lookup_cons,hx] using h
            exact key sc.names e3
           exact S.one x hloc n2
         . exact .inl e3
         . exact .inr e3
       . obtain⟨o,ho,hd⟩:=z
         exact⟨o,k _ _ ho,hd⟩
 . obtain⟨v,o,ho,hd⟩:=I.cell x c (sub x c e)
   exact⟨v,o,k _ _ ho,hd⟩
 . show (fr.map _).length=N.length
   rw[List.length_map];exact S.len
end
end L2
end
section
namespace L2
open PySem PySem.Spec PyProof.Rows
noncomputable def ow:List TT→TT
 |[]=>fun _ H Q=>Q true H
 |t::ts=>fun σ H Q=>t σ H fun c H1=>if c=true then ow ts σ H1 Q else Q false H1
inductive PTs(X:Cx):List Expr→List TT→Prop
 |nil:PTs X [] []
 |cons {c:Expr} {cs:List Expr} {t:TT} {ts:List TT}:PT X c t→PTs X cs ts→PTs X (c::cs) (t::ts)
theorem sG{X:Cx}{Q:Bool→Shared→Prop}{E:Value→Shared→Prop}{s:Shared}(h:Q false s):∀cs:List Expr,
 wpAny (model X.prog X.w) X.A (forIn cs false fun c r=>if r=true then do let ok ←isTrue c X.env (eval c X.env);pure (ForInStep.yield ok) else pure (ForInStep.yield r)) Q E s
 |[]=>wpAny_pure h
 |c::cs=>by
  rw[List.forIn_cons]
  exact wpAny_bind (wpAny_pure (sG h cs))
theorem PTs.run{X:Cx}:∀{cs:List Expr} {ts:List TT},PTs X cs ts→∀{pins:List (Addr × Obj)} {s:Shared} {σ:St} {H:Hp} {Q:Bool→Hp→Prop},Inv X pins σ H s→ow ts σ H Q →
 wpAny (model X.prog X.w) X.A (forIn cs true fun c r=>if r=true then do let ok ←isTrue c X.env (eval c X.env);pure (ForInStep.yield ok) else pure (ForInStep.yield r)) (TP X pins σ Q) X.xe s
 |_,_,.nil,pins,s,σ,H,Q,I,h=>wpAny_pure ⟨H,I,h⟩
 |_,_,.cons hc hs,pins,s,σ,H,Q,I,h=>by
  rw[List.forIn_cons]
  refine wpAny_bind (wpAny_bind (thn (hc pins s σ H _ I h) fun c s1 ⟨H1,I1,q1⟩=>wpAny_pure ?_))
  cases c with
  |true=>exact hs.run I1 q1
  |false=>exact sG ⟨H1,I1,q1⟩ _
noncomputable abbrev TB:=(St→Hp→Prop)→St→Hp→Prop
def PB(X:Cx)(B:Sem PUnit)(tb:TB):Prop:=
 ∀(pins:List (Addr × Obj)) (s:Shared) (σ:St) (H:Hp) (Nx:St→Hp→Prop),Inv X pins σ H s→tb Nx σ H→wpAny (model X.prog X.w) X.A B (fun _ s'=>∃σ' H',Inv X pins σ' H' s'∧Nx σ' H') X.xe s
noncomputable def tTB(ts:List TT)(tb:TB):TS:=fun D σ H=>ow ts σ H fun c H1=>if c=true then tb D.nx σ H1 else D.nx σ H1
def pW(J:It)(g:TG)(tb:TS)(D:Ends)(σ:St)(H:Hp):Prop:=∃W:Nat→Nat→St→Hp→Prop,(∃m,W 0 m σ H)∧∀i m σ H,W i m σ H →
 (J.stop i H∧D.nx σ H)∨(J.go i H∧∃N:St→Hp→Prop,(∀σ' H',N σ' H'→∃m',m'<m∧W (i+1) m' σ' H')∧∀x H',J.yld i H x H'→g x σ H' fun σ2 H2=>tb {D with nx:=N,ct:=N,bk:=D.nx} σ2 H2)
theorem wk{X:Cx}{elt:Expr}{gens:List Comprehension}{csc:Scope}{cpos:Pos}{d:Nat}{tg:Expr}{p:Pos}{ifs:List Expr}{B:Sem PUnit}{acc:Value}{it:Addr}{fp:List Addr}{tn:Nat→Heap→Prop}{J:It}{g:TG}{ts:List TT}{tb:TB}{D:Ends}
 {pins:List (Addr × Obj)} {σ:St} {H:Hp} {s:Shared} {R:Result→Shared→Prop}
 (heq:compTurn (.ListComp elt gens csc cpos) d (.ref it) acc X.env=(do
  standAt p
  match ←pyNext (.ref it) with
  |none=>pure (.done .next)
  |some v=>
   letOwnedTupleGo tg (.ref it) v
   assign tg X.env v
   let mut ok:=true
   for c in ifs do
    if ok then ok ←isTrue c X.env (eval c X.env)
   if ok then B
   again (.compLoop (.ListComp elt gens csc cpos) d (.ref it) acc X.env)))
 (hx:X.xe=fun _ _=>False) (hc:X.calm=true) (T:Turn X.prog X.w X.K tg J fp it tn) (hg:PG X tg g) (ht:PTs X ifs ts) (hb:PB X B tb)
 (I:Inv X pins σ H s) (st:tn 0 s.heap) (f:∀b∈fp,uB X pins H b) (h:pW J g (tTB ts tb) D σ H)
 (hR:∀σ' H' s',Inv X pins σ' H' s'→D.nx σ' H'→(∀b∈fp,H' b=none)→R (.ok .next) s') :
 codeAny (model X.prog X.w) X.A (.compLoop (.ListComp elt gens csc cpos) d (.ref it) acc X.env) R s:=by
 obtain⟨W,⟨m0,w0⟩,turn⟩:=h
 have stat:∀{H':Hp},(∀b∈fp,H' b=none)→∀b∈fp,uB X pins H' b:=fun hn b hb=>⟨hn b hb,(f b hb).2⟩
 have no:∀{α:Type} {t:Sem α} {Q:α→Shared→Prop} {E':Value→Shared→Prop} {s:Shared},wpAny (model X.prog X.w) X.A t Q X.xe s→wpAny (model X.prog X.w) X.A t Q E' s:=fun h=>wpAny_mono h (fun _ _ q=>q) fun _ _ z=>by rw[hx]at z;exact z.elim
 refine codeAny_loop rfl (fun n s'=>∃i σ' H',Inv X pins σ' H' s'∧tn i s'.heap∧(∀b∈fp,H' b=none)∧W i n σ' H') (fun n s3 hI=>?_) m0 ⟨0,σ,H,I,st,fun b hb=>(f b hb).1,w0⟩
 obtain⟨i,σ3,H3,I3,st3,fr3,w3⟩:=hI
 show wpAny _ _ ((compTurn (.ListComp elt gens csc cpos) d (.ref it) acc X.env).onRaise (fun x=>do noteFrame x X.env;theTreesLotGoes x)) _ _ s3
 refine wpAny_noted ?_
 rw[heq]
 refine wpAny_bind (wpAny_standAt (wpAny_bind ?_))
 rcases turn i n σ3 H3 w3 with⟨stop,qn⟩|⟨go,N,hN,step⟩
 . refine no (thn (T.done X rfl rfl rfl hc i pins s3 σ3 H3 X.xe I3 (stat fr3) st3 stop) fun r s4 ⟨hr,I4⟩=>?_)
   subst hr
   exact wpAny_pure (hR σ3 H3 s4 I4 qn fr3)
 . refine no (thn (T.item X rfl rfl rfl hc i pins s3 σ3 H3 X.xe I3 (stat fr3) st3 go) fun r s4 ⟨u,hr,h4⟩=>?_)
   subst hr
   refine wpAny_bind (no (thn h4 fun _ s5 ⟨x,H5,I5,r5,y5,st5,fr5⟩=>?_))
   have I5':=I5.pinned (stat fr5) (T.obj _ _ st5)
   refine wpAny_bind (no (thn (hg _ s5 σ3 H5 x u _ I5' r5 (step x H5 y5)) fun _ s6 ⟨σ6,H6,I6,q6⟩=>?_))
   refine wpAny_bind (no (thn (ht.run I6 q6) fun ok s7 ⟨H7,I7,q7⟩=>?_))
   have again':∀{σ7:St} {H7:Hp} {s7:Shared},Inv X (pins++r8 fp s5.heap) σ7 H7 s7→N σ7 H7→∃m,m<n∧∃i σ' H',Inv X pins σ' H' s7∧tn i s7.heap∧(∀b∈fp,H' b=none)∧W i m σ' H':=fun{σ7 H7 s7} I7 n7=>by
    obtain⟨m',hm,w7⟩:=hN σ7 H7 n7
    refine⟨m',hm,i+1,σ7,H7,I7.u6,T.keep _ _ _ st5 fun b hb o e=>(I7.pin (b,o) (List.mem_append_right _ (List.mem_append_right _ (vI hb e)))).1,fun b hb=>?_,w7⟩
    obtain⟨o,e,d⟩:=T.obj _ _ st5 b hb
    exact(I7.pin (b,o) (List.mem_append_right _ (List.mem_append_right _ (vI hb e)))).2.1
   cases ok with
   |false=>exact wpAny_pure ⟨rfl,again' I7 q7⟩
   |true=>exact wpAny_bind (no (thn (hb _ s7 σ6 H7 N I7 q7) fun _ s8 ⟨σ8,H8,I8,n8⟩=>wpAny_pure ⟨rfl,again' I8 n8⟩))
noncomputable def v8(acc:Addr)(te:TE):TB:=fun Nx σ H=>te σ H fun y H1=>∃ys,H1 acc=some (.lst ys)∧ys.length<sizeLine∧Nx σ (upd H1 acc (.lst (ys++[y])))
theorem sY{X:Cx}{acc:Addr}{elt:Expr}{te:TE}(he:PE X elt te):PB X (do let _ ←call (.builtin "list.append") [.ref acc,←eval elt X.env]) (v8 acc te):=by
 intro pins s σ H Nx I h
 refine wpAny_bind (thn (he pins s σ H _ I h) fun u s1 ⟨y,H1,I1,r1,ys,hl,hz,q⟩=>?_)
 refine wpAny_bind (thn (iT pins s1 σ H1 (.ref acc) [y] (.ref acc) [u] (fun _ H'=>Nx σ H') I1 rfl (.cons r1 .nil) ⟨acc,ys,y,rfl,rfl,hl,hz,q⟩) fun _ s2 ⟨_,H2,I2,_,q2⟩=>?_)
 exact wpAny_pure ⟨σ,H2,I2,q2⟩
end L2
end
section
namespace L2
open PySem PySem.Spec PyProof.Rows
def ve(fr:List (Option Nat))(wi:TI)(g:TG)(ts:List TT)(tb:Addr→TB)(σ:St)(H:Hp)(Q:VK):Prop:=
 wi σ H fun J H1=>∀acc,H1 acc=none→pW J g (tTB ts (tb acc)) ⟨fun _ H'=>Q (.ref acc) H',fun _ _=>False,fun _ _=>False,fun _ _=>False⟩ (zk fr σ) (upd H1 acc (.lst []))
section
variable {X:Cx}{pins:List (Addr × Obj)}{σ:St}{H:Hp}{s:Shared}{N:List Str}{csc:Scope}{fr:List (Option Nat)}{elt tg iter:Expr}{ifs:List Expr}{rest:List Comprehension}{cpos:Pos}{wi:TI}{g:TG}{ts:List TT}{tb:Addr→TB}
theorem pD{use:Option (Value→Sem Unit)}{QQ:Value→Shared→Prop}{Qv:VK}{B:Value→Env→Sem PUnit}{E:Value→Shared→Prop}(hE:E=X.xe)(hc:X.calm=true)(S:yD X N csc fr)(hi:PI X tg iter wi)
 (hturn:∀(it:Addr) (acc:Value) (env:Env),compTurn (.ListComp elt (⟨tg,iter,ifs,0⟩::rest) csc cpos) 0 (.ref it) acc env=(do
  standAt iter.pos
  match ←pyNext (.ref it) with
  |none=>pure (.done .next)
  |some v=>
   letOwnedTupleGo tg (.ref it) v
   assign tg env v
   let mut ok:=true
   for c in ifs do
    if ok then ok ←isTrue c env (eval c env)
   if ok then B acc env
   again (.compLoop (.ListComp elt (⟨tg,iter,ifs,0⟩::rest) csc cpos) 0 (.ref it) acc env)))
 (hg:∀C s0 H0 ex,PG (X.comp N csc C s0 H0 ex) tg g) (ht:∀C s0 H0 ex,PTs (X.comp N csc C s0 H0 ex) ifs ts)
 (hb:∀C s0 H0 ex acc,PB (X.comp N csc C s0 H0 ex) (B (.ref acc) (X.comp N csc C s0 H0 ex).env) (tb acc))
 (I:Inv X pins σ H s) (h:ve fr wi g ts tb σ H Qv)
 (hfin:∀acc C H' s',Inv X pins σ H' s'→Qv (.ref acc) H'→(∃m,s'.heap.Ns C m)→H' C=none→C≠X.env.locals→X.s₀.heap.objs.size≤C→(∀x c,X.env.cells.lookup x=some c→c≠C)→(∀p∈X.pn++pins,p.1≠C) →
  compPost (model X.prog X.w) X.A X.xe use QQ (.ref acc) C (.ok .next) s') :
 wpAny (model X.prog X.w) X.A (eval iter X.env) (fun x s₁=>wpAny (model X.prog X.w) X.A (pyIter x) (fun it s₂=>wpAny (model X.prog X.w) X.A (newList []) (fun acc s₃=>
  wpAny (model X.prog X.w) X.A (newFunctionEnv csc X.env.globals (uF X.env.cells csc.names []) [] X.env.qual none .none (some X.env)) (fun cenv s₄=>
   codeAny (model X.prog X.w) X.A (.compStart (.ListComp elt (⟨tg,iter,ifs,0⟩::rest) csc cpos) 0 it acc {cenv with scope:=relabel csc X.env}) (compPost (model X.prog X.w) X.A E use QQ acc cenv.locals) s₄) E s₃) E s₂) E s₁) E s:=by
 subst hE
 refine thn (hi pins s σ H _ I h) fun v s1 h1=>thn h1 fun itv s2 h2=>?_
 obtain⟨it,fp,tn,J,H2,e,I2,T,st2,f2,q2⟩:=h2
 subst e
 refine wpAny_newObj_type ?_
 have hfr:H2 s2.heap.objs.size=none:=I2.hok.fresh (Nat.le_refl _)
 have q3:=q2 s2.heap.objs.size hfr
 generalize hs3:({s2 with heap:=s2.heap.push {cls:=.type "list",dict:=none,data:=.seq ([]:List Value).toArray}}:Shared)=s3
 have k23:∀b u,s2.heap.get? b=some u→s3.heap.get? b=some u:=fun b u e=>by rw[←hs3];exact Heap.get?_push_of_some _ e
 have new3:s3.heap.get? s2.heap.objs.size=some {cls:=.type "list",dict:=none,data:=.seq ([]:List Value).toArray}:=by rw[←hs3];exact Heap.get?_push_size _ rfl
 have I3:Inv X pins σ (upd H2 s2.heap.objs.size (.lst [])) s3:=by
  rw[←hs3]
  exact I2.laid (t':=s2.toks) (fun b u e=>Heap.get?_push_of_some _ e) (Nat.le_refl _) ⟨Nat.zero_le _,[],0,.nil,Heap.get?_push_size _ rfl⟩
 have lt2:∀b∈fp,b<s2.heap.objs.size:=fun b hb=>by obtain⟨o,e,_⟩:=T.obj _ _ st2 b hb;exact Heap.lt_size e
 have hsz:s3.heap.objs.size=s2.heap.objs.size+1:=by rw[←hs3];exact Heap.size_push ..
 have f3:∀b∈fp,uB X pins (upd H2 s2.heap.objs.size (.lst [])) b:=fun b hb=>⟨by rw[zQ (Nat.ne_of_lt (lt2 b hb))];exact(f2 b hb).1,(f2 b hb).2⟩
 have lt3:∀b∈fp,b<s3.heap.objs.size:=fun b hb=>by rw[hsz];exact Nat.lt_succ_of_lt (lt2 b hb)
 refine wpAny_newFunctionEnv S.nocell (by intro y hy;simp at hy) (fun h4 hns4 hsb4=>?_) S.kind
 have k34:∀b o,s3.heap.get? b=some o→h4.get? b=some o:=fun b o e=>hsb4.extBut b o (Nat.ne_of_lt (Heap.lt_size e)) (Heap.get?_push_of_some _ e)
 have hns4':h4.Ns s3.heap.objs.size (fun _=>none):=by simpa using hns4
 have I4:=m6 (tk:=s3.toks+([]:List (Str × Value)).length) I3 S f3 lt3 hns4' k34
 have st4:tn 0 h4:=T.keep _ _ _ st2 fun b hb o e=>k34 b o (k23 b o e)
 have f4:∀b∈fp,uB (X.comp N csc s3.heap.objs.size s3 (upd H2 s2.heap.objs.size (.lst [])) fp) [] (upd H2 s2.heap.objs.size (.lst [])) b:=fun b hb=>by
  have ok:=I4.ok
  obtain⟨g1,g2⟩:=ok.exf b hb
  exact⟨(f3 b hb).1,g1,ok.exfs b hb,.inl hb,g2,fun p hp=>by simp at hp⟩
 have fin:∀σ' H' s',Inv (X.comp N csc s3.heap.objs.size s3 (upd H2 s2.heap.objs.size (.lst [])) fp) [] σ' H' s'→Qv (.ref s2.heap.objs.size) H'→(∀b∈fp,H' b=none) →
  compPost (model X.prog X.w) X.A X.xe use QQ (.ref s2.heap.objs.size) s3.heap.objs.size (.ok .next) s':=fun σ' H' s' I' q' _=>by
  have IX:Inv X pins σ H' s':=I3.WE I'.os I'.base I'.hok I'.bare fun b hb=>by
   obtain⟨g0,g1,g2,g3,g4,g5⟩:=f3 b hb
   exact⟨g3,g1,g4,g5⟩
  obtain⟨m,hn,_⟩:=I'.loc
  refine hfin _ _ H' s' IX q' ⟨m,hn⟩ I'.free (Nat.ne_of_gt I3.lt) I3.sz (fun x c e=>?_) fun p hp=>?_
  . obtain⟨w',z⟩:=I3.cell x c e
    exact Nat.ne_of_lt z.lt
  . exact Nat.ne_of_lt (Heap.lt_size (I3.pin p hp).1)
 have loop:codeAny (model X.prog X.w) X.A (.compLoop (.ListComp elt (⟨tg,iter,ifs,0⟩::rest) csc cpos) 0 (.ref it) (.ref s2.heap.objs.size) (compEnvC csc (uF X.env.cells csc.names []) s3.heap.objs.size X.env))
  (compPost (model X.prog X.w) X.A X.xe use QQ (.ref s2.heap.objs.size) s3.heap.objs.size) {s3 with heap:=h4,toks:=s3.toks+([]:List (Str × Value)).length}:=
  wk (X:=X.comp N csc s3.heap.objs.size s3 (upd H2 s2.heap.objs.size (.lst [])) fp) (hturn it _ _) rfl hc T (hg _ _ _ _) (ht _ _ _ _) (hb _ _ _ _ _) I4 st4 f4 q3 fin
 exact codeAny_compStart_list loop (T.self X.A 0 _ _ _ st4 loop)
theorem mE{B:Value→Env→Sem PUnit}(hc:X.calm=true)(S:yD X N csc fr)(hi:PI X tg iter wi)
 (hturn:∀(it:Addr) (acc:Value) (env:Env),compTurn (.ListComp elt (⟨tg,iter,ifs,0⟩::rest) csc cpos) 0 (.ref it) acc env=(do
  standAt iter.pos
  match ←pyNext (.ref it) with
  |none=>pure (.done .next)
  |some v=>
   letOwnedTupleGo tg (.ref it) v
   assign tg env v
   let mut ok:=true
   for c in ifs do
    if ok then ok ←isTrue c env (eval c env)
   if ok then B acc env
   again (.compLoop (.ListComp elt (⟨tg,iter,ifs,0⟩::rest) csc cpos) 0 (.ref it) acc env)))
 (hg:∀C s0 H0 ex,PG (X.comp N csc C s0 H0 ex) tg g) (ht:∀C s0 H0 ex,PTs (X.comp N csc C s0 H0 ex) ifs ts)
 (hb:∀C s0 H0 ex acc,PB (X.comp N csc C s0 H0 ex) (B (.ref acc) (X.comp N csc C s0 H0 ex).env) (tb acc))
 (hs:∀x,foldedSetIterable iter X.env x=pure x:=by intro _;rfl) :
 PE X (.ListComp elt (⟨tg,iter,ifs,0⟩::rest) csc cpos) (ve fr wi g ts tb):=by
 intro pins s σ H Q I h
 rw[eval_ListComp]
 refine wpAny_comprehension_free (use:=none) rfl hs (v3 (S.cells I.ok)) S.kind S.locals ?_
 refine pD (use:=none) rfl hc S hi hturn hg ht hb I h fun acc C H' s' I' q' hn hC hL h0 hcl hpn=>?_
 obtain⟨m,hn⟩:=hn
 refine⟨m,hn,fun h' sb=>⟨.ref acc,H',?_,rfl,q'⟩⟩
 exact I'.turned (t':=s'.toks) (fun b o hb e=>(sb.2 b hb).trans e) hC (Ne.symm (Ne.symm hL)) (.inr h0) hcl hpn
theorem mJ{B:Value→Env→Sem PUnit}{y:Str}{py spos:Pos}{i:Nat}(hc:X.calm=true)(S:yD X N csc fr)(hi:PI X tg iter wi)
 (hturn:∀(it:Addr) (acc:Value) (env:Env),compTurn (.ListComp elt (⟨tg,iter,ifs,0⟩::rest) csc cpos) 0 (.ref it) acc env=(do
  standAt iter.pos
  match ←pyNext (.ref it) with
  |none=>pure (.done .next)
  |some v=>
   letOwnedTupleGo tg (.ref it) v
   assign tg env v
   let mut ok:=true
   for c in ifs do
    if ok then ok ←isTrue c env (eval c env)
   if ok then B acc env
   again (.compLoop (.ListComp elt (⟨tg,iter,ifs,0⟩::rest) csc cpos) 0 (.ref it) acc env)))
 (hg:∀C s0 H0 ex,PG (X.comp N csc C s0 H0 ex) tg g) (ht:∀C s0 H0 ex,PTs (X.comp N csc C s0 H0 ex) ifs ts)
 (hb:∀C s0 H0 ex acc,PB (X.comp N csc C s0 H0 ex) (B (.ref acc) (X.comp N csc C s0 H0 ex).env) (tb acc))
 (hN:X.N.Nodup) (hy:X.N[i]?=some y) (hx:Loc X.env.scope y)
 (hsw:swapsWith (.ListComp elt (⟨tg,iter,ifs,0⟩::rest) csc cpos) (some (.Name y py)) spos.line X.env=pure true:=by rfl)
 (hf:X.fn y=true∨X.env.scope.names.lookup y=some .local:=by first|exact .inl rfl|exact .inr rfl|assumption)
 (hs:∀x,foldedSetIterable iter X.env x=pure x:=by intro _;rfl) :
 PS X (.Assign [.Name y py] (.ListComp elt (⟨tg,iter,ifs,0⟩::rest) csc cpos) spos) (qi (ve fr wi g ts tb) (vT i)):=by
 intro pins s σ H D I h
 rw[exec_Assign_Name_used _ _ _ _ hsw]
 refine wpAny_bind (wpAny_standAt (wpAny_bind ?_))
 show wpAny _ X.A (do let _ ←comprehension (.ListComp elt (⟨tg,iter,ifs,0⟩::rest) csc cpos) csc X.env _ (newList []) false (eval iter X.env) (some (assign (.Name y py) X.env))) _ _ s
 refine wpAny_bind (wpAny_mono (wpAny_comprehension_free (use:=some (assign (.Name y py) X.env)) (Q:=fun _ s'=>SP X pins D .next s') rfl hs (v3 (S.cells I.ok)) S.kind S.locals ?_) (fun _ s' hq=>wpAny_pure (wpAny_pure hq)) fun _ _ e=>e)
 refine pD (use:=some (assign (.Name y py) X.env)) rfl hc S hi hturn hg ht hb I h fun acc C H' s' I' q' hn hC hL h0 hcl hpn=>?_
 obtain⟨m,hn⟩:=hn
 show wpAny _ X.A (assign (.Name y py) X.env (.ref acc)) _ _ _
 refine wpAny_assign_Name (pj I' hN hy hx (show RelV (.ref acc) (.ref acc) from rfl) (fun s2 I2 ⟨a,sb,ha⟩=>?_) hf)
 have haC:C≠a:=by
  rcases ha with ha|ha
  . rw[ha];exact hL
  . exact Ne.symm (hcl y a ha)
 refine⟨m,hn.sameBut sb haC,fun h' sb'=>⟨_,H',?_,q'⟩⟩
 exact I2.turned (t':=s2.toks) (fun b o hb e=>(sb'.2 b hb).trans e) hC hL (.inr h0) hcl hpn
theorem ZU(elt tg iter:Expr)(ifs:List Expr)(csc:Scope)(cpos:Pos)(it:Addr)(acc:Value)(env:Env) :
 compTurn (.ListComp elt [⟨tg,iter,ifs,0⟩] csc cpos) 0 (.ref it) acc env=(do
  standAt iter.pos
  match ←pyNext (.ref it) with
  |none=>pure (.done .next)
  |some v=>
   letOwnedTupleGo tg (.ref it) v
   assign tg env v
   let mut ok:=true
   for c in ifs do
    if ok then ok ←isTrue c env (eval c env)
   if ok then (do let _ ←call (.builtin "list.append") [acc,←eval elt env])
   again (.compLoop (.ListComp elt [⟨tg,iter,ifs,0⟩] csc cpos) 0 (.ref it) acc env)):=by rfl
theorem ZV(elt tg iter:Expr)(ifs:List Expr)(tg2 iter2:Expr)(ifs2:List Expr)(csc:Scope)(cpos:Pos)(it:Addr)(acc:Value)(env:Env) :
 compTurn (.ListComp elt [⟨tg,iter,ifs,0⟩,⟨tg2,iter2,ifs2,0⟩] csc cpos) 0 (.ref it) acc env=(do
  standAt iter.pos
  match ←pyNext (.ref it) with
  |none=>pure (.done .next)
  |some v=>
   letOwnedTupleGo tg (.ref it) v
   assign tg env v
   let mut ok:=true
   for c in ifs do
    if ok then ok ←isTrue c env (eval c env)
   if ok then (do
    let x ←eval iter2 env
    standAt iter2.pos
    let x ←foldedSetIterable iter2 env x
    let _ ←runOwn (.compStart (.ListComp elt [⟨tg,iter,ifs,0⟩,⟨tg2,iter2,ifs2,0⟩] csc cpos) 1 (←holding [x] (pyIter x)) acc env) env)
   again (.compLoop (.ListComp elt [⟨tg,iter,ifs,0⟩,⟨tg2,iter2,ifs2,0⟩] csc cpos) 0 (.ref it) acc env)):=by
 have e:compTurn (.ListComp elt [⟨tg,iter,ifs,0⟩,⟨tg2,iter2,ifs2,0⟩] csc cpos) 0 (.ref it) acc env=(do
  standAt iter.pos
  match ←pyNext (.ref it) with
  |none=>pure (.done .next)
  |some v=>
   letOwnedTupleGo tg (.ref it) v
   assign tg env v
   let mut ok:=true
   for c in ifs do
    if ok then ok ←isTrue c env (eval c env)
   if ok then
    let x ←eval iter2 env
    standAt iter2.pos
    let x ←foldedSetIterable iter2 env x
    let _ ←runOwn (.compStart (.ListComp elt [⟨tg,iter,ifs,0⟩,⟨tg2,iter2,ifs2,0⟩] csc cpos) 1 (←holding [x] (pyIter x)) acc env) env
   again (.compLoop (.ListComp elt [⟨tg,iter,ifs,0⟩,⟨tg2,iter2,ifs2,0⟩] csc cpos) 0 (.ref it) acc env)):=by rfl
 rw[e]
 simp only[bind_assoc,pure_bind]
theorem Xr(elt tg iter:Expr)(ifs:List Expr)(tg2 iter2:Expr)(ifs2:List Expr)(csc:Scope)(cpos:Pos)(it:Addr)(acc:Value)(env:Env) :
 compTurn (.ListComp elt [⟨tg,iter,ifs,0⟩,⟨tg2,iter2,ifs2,0⟩] csc cpos) 1 (.ref it) acc env=(do
  standAt iter2.pos
  match ←pyNext (.ref it) with
  |none=>pure (.done .next)
  |some v=>
   letOwnedTupleGo tg2 (.ref it) v
   assign tg2 env v
   let mut ok:=true
   for c in ifs2 do
    if ok then ok ←isTrue c env (eval c env)
   if ok then (do let _ ←call (.builtin "list.append") [acc,←eval elt env])
   again (.compLoop (.ListComp elt [⟨tg,iter,ifs,0⟩,⟨tg2,iter2,ifs2,0⟩] csc cpos) 1 (.ref it) acc env)):=by rfl
end
end L2
end
section
namespace L2
open PySem PySem.Spec PyProof.Rows
theorem m5{prog:Program}{w:World}{A:Around}{R:Result→Shared→Prop}{s:Shared}{elt tg iter tg2 iter2:Expr}{ifs ifs2:List Expr}{csc:Scope}{cpos:Pos}{it acc:Value}{env:Env}
 (h0:codeAny (model prog w) A (.compLoop (.ListComp elt [⟨tg,iter,ifs,0⟩,⟨tg2,iter2,ifs2,0⟩] csc cpos) 1 it acc env) R s)
 (h:wpAny (model prog w) A (pyIter it) (fun it' s'=>codeAny (model prog w) A (.compLoop (.ListComp elt [⟨tg,iter,ifs,0⟩,⟨tg2,iter2,ifs2,0⟩] csc cpos) 1 it' acc env) R s')
  (notedBy (model prog w) A env fun x s'=>R (.error x) s') s) :
 codeAny (model prog w) A (.compStart (.ListComp elt [⟨tg,iter,ifs,0⟩,⟨tg2,iter2,ifs2,0⟩] csc cpos) 1 it acc env) R s:=by
 refine codeAny_of_tree ?_
 show wpAny _ _ ((compStart (.ListComp elt [⟨tg,iter,ifs,0⟩,⟨tg2,iter2,ifs2,0⟩] csc cpos) 1 it acc env).onRaise (fun x=>do noteFrame x env;standAt theWindowsPlace)) _ _ s
 refine wpAny_notedAt ?_
 unfold compStart
 show wpAny _ _ (ask >>= _) _ _ s
 refine wpAny_bind (wpAny_askSetting (wpAny_ite ?_))
 split
 . first
    |exact wpAny_bind (wpAny_pure (wpAny_pure (And.intro rfl h0)))
    |exact wpAny_pure (And.intro rfl h0)
 . first
    |exact wpAny_bind (wpAny_rule (wpAny_bind (wpAny_standAt (wpAny_bind (wpAny_mono h (fun it' s' h'=>wpAny_pure (And.intro rfl h')) fun _ _ x=>x)))))
    |(refine wpAny_bind (wpAny_rule ?_);show wpAny _ _ (standAt iter2.pos >>= _) _ _ s;exact wpAny_bind (wpAny_standAt (wpAny_bind (wpAny_mono h (fun it' s' h'=>wpAny_pure (And.intro rfl h')) fun _ _ x=>x))))
noncomputable def qH(wi:TI)(g:TG)(ts:List TT)(tb:TB):TB:=fun Nx σ H=>wi σ H fun J H1=>pW J g (tTB ts tb) ⟨Nx,fun _ _=>False,fun _ _=>False,fun _ _=>False⟩ σ H1
theorem mC{X:Cx}{acc:Addr}{elt tg iter tg2 iter2:Expr}{ifs ifs2:List Expr}{csc:Scope}{cpos:Pos}{wi:TI}{g:TG}{ts:List TT}{tb:TB}
 (hx:X.xe=fun _ _=>False) (hc:X.calm=true) (hi:PI X tg2 iter2 wi) (hg:PG X tg2 g) (ht:PTs X ifs2 ts) (hb:PB X (do let _ ←call (.builtin "list.append") [.ref acc,←eval elt X.env]) tb)
 (hs:∀x,foldedSetIterable iter2 X.env x=pure x:=by intro _;rfl) :
 PB X (do
       let x ←eval iter2 X.env
       standAt iter2.pos
       let x ←foldedSetIterable iter2 X.env x
       let _ ←runOwn (.compStart (.ListComp elt [⟨tg,iter,ifs,0⟩,⟨tg2,iter2,ifs2,0⟩] csc cpos) 1 (←holding [x] (pyIter x)) (.ref acc) X.env) X.env) (qH wi g ts tb):=by
 intro pins s σ H Nx I h
 refine wpAny_bind (thn (hi pins s σ H _ I h) fun v s1 h1=>wpAny_bind (wpAny_standAt (wpAny_bind (wpAny_of_eq (hs v) (wpAny_bind (wpAny_holding (thn h1 fun itv s2 h2=>?_)))))))
 obtain⟨it,fp,tn,J,H2,e,I2,T,st2,f2,q2⟩:=h2
 subst e
 refine wpAny_bind (wpAny_runOwn ?_)
 have loop:codeAny (model X.prog X.w) X.A (.compLoop (.ListComp elt [⟨tg,iter,ifs,0⟩,⟨tg2,iter2,ifs2,0⟩] csc cpos) 1 (.ref it) (.ref acc) X.env)
  (fun r s'=>match r with|.ok f=>wpAny (model X.prog X.w) X.A (pure PUnit.unit:Sem PUnit) (fun _ s'=>∃σ' H',Inv X pins σ' H' s'∧Nx σ' H') X.xe s'|.error e=>cameBackBy (model X.prog X.w) X.A X.env X.xe e s') s2:=
  wk (Xr ..) hx hc T hg ht hb I2 st2 f2 q2 fun σ' H' s' I' n' _=>wpAny_pure ⟨σ',H',I',n'⟩
 exact m5 loop (T.self X.A 0 _ _ _ st2 loop)
section
variable {X:Cx}{N:List Str}{csc:Scope}{fr:List (Option Nat)}{elt tg iter tg2 iter2:Expr}{ifs ifs2:List Expr}{cpos:Pos}{wi wi2:TI}{g g2:TG}{ts ts2:List TT}{te:TE}
theorem jY(hc:X.calm=true)(S:yD X N csc fr)(hi:PI X tg iter wi)(hg:∀C s0 H0 ex,PG (X.comp N csc C s0 H0 ex) tg g)(ht:∀C s0 H0 ex,PTs (X.comp N csc C s0 H0 ex) ifs ts)
 (he:∀C s0 H0 ex,PE (X.comp N csc C s0 H0 ex) elt te) (hs:∀x,foldedSetIterable iter X.env x=pure x:=by intro _;rfl) :
 PE X (.ListComp elt [⟨tg,iter,ifs,0⟩] csc cpos) (ve fr wi g ts fun acc=>v8 acc te):=
 mE hc S hi (B:=fun acc env=>(do let _ ←call (.builtin "list.append") [acc,←eval elt env])) (ZU elt tg iter ifs csc cpos) hg ht (fun C s0 H0 ex acc=>sY (he C s0 H0 ex)) hs
theorem aC{y:Str}{py spos:Pos}{i:Nat}(hc:X.calm=true)(S:yD X N csc fr)(hi:PI X tg iter wi)(hg:∀C s0 H0 ex,PG (X.comp N csc C s0 H0 ex) tg g)(ht:∀C s0 H0 ex,PTs (X.comp N csc C s0 H0 ex) ifs ts)
 (he:∀C s0 H0 ex,PE (X.comp N csc C s0 H0 ex) elt te) (hN:X.N.Nodup) (hy:X.N[i]?=some y) (hx:Loc X.env.scope y)
 (hsw:swapsWith (.ListComp elt [⟨tg,iter,ifs,0⟩] csc cpos) (some (.Name y py)) spos.line X.env=pure true:=by rfl)
 (hf:X.fn y=true∨X.env.scope.names.lookup y=some .local:=by first|exact .inl rfl|exact .inr rfl|assumption)
 (hs:∀x,foldedSetIterable iter X.env x=pure x:=by intro _;rfl) :
 PS X (.Assign [.Name y py] (.ListComp elt [⟨tg,iter,ifs,0⟩] csc cpos) spos) (qi (ve fr wi g ts fun acc=>v8 acc te) (vT i)):=
 mJ hc S hi (B:=fun acc env=>(do let _ ←call (.builtin "list.append") [acc,←eval elt env])) (ZU elt tg iter ifs csc cpos) hg ht (fun C s0 H0 ex acc=>sY (he C s0 H0 ex)) hN hy hx hsw hf hs
theorem mD(hc:X.calm=true)(S:yD X N csc fr)(hi:PI X tg iter wi)(hg:∀C s0 H0 ex,PG (X.comp N csc C s0 H0 ex) tg g)(ht:∀C s0 H0 ex,PTs (X.comp N csc C s0 H0 ex) ifs ts)
 (hi2:∀C s0 H0 ex,PI (X.comp N csc C s0 H0 ex) tg2 iter2 wi2) (hg2:∀C s0 H0 ex,PG (X.comp N csc C s0 H0 ex) tg2 g2) (ht2:∀C s0 H0 ex,PTs (X.comp N csc C s0 H0 ex) ifs2 ts2)
 (he:∀C s0 H0 ex,PE (X.comp N csc C s0 H0 ex) elt te) (hs:∀x,foldedSetIterable iter X.env x=pure x:=by intro _;rfl)
 (hs2:∀env x,foldedSetIterable iter2 env x=pure x:=by intro _ _;rfl) :
 PE X (.ListComp elt [⟨tg,iter,ifs,0⟩,⟨tg2,iter2,ifs2,0⟩] csc cpos) (ve fr wi g ts fun acc=>qH wi2 g2 ts2 (v8 acc te)):=
 mE hc S hi (B:=fun acc env=>(do
         let x ←eval iter2 env
         standAt iter2.pos
         let x ←foldedSetIterable iter2 env x
         let _ ←runOwn (.compStart (.ListComp elt [⟨tg,iter,ifs,0⟩,⟨tg2,iter2,ifs2,0⟩] csc cpos) 1 (←holding [x] (pyIter x)) acc env) env)) (ZV elt tg iter ifs tg2 iter2 ifs2 csc cpos) hg ht
  (fun C s0 H0 ex acc=>mC rfl hc (hi2 C s0 H0 ex) (hg2 C s0 H0 ex) (ht2 C s0 H0 ex) (sY (he C s0 H0 ex)) (hs2 _)) hs
end
end L2
end
section
namespace L2
open PySem PySem.Spec PyProof.Rows
section
variable {X:Cx}
theorem rE:yQ X (.builtin "isinstance") (fun xs H Q=>∃x c t b,xs=[x,.ty c]∧uS X.K H x (.type t)∧PySem.W.kitOne X.K (.type t) (.type c)=some b∧Q (.bl b) H):=by
 intro pins s σ H xs us Q I r h
 obtain⟨x,c,t,b,rfl,ty,e,q⟩:=h
 obtain⟨u,w',rfl,rx,rc⟩:=vals2 r
 cases (show w'=Value.type c from rc)
 exact iG I rx ty e fun tk=>⟨.bl b,H,I.tok _,rfl,q⟩
end
inductive Kd where
 |non|bl|int|str|lst|tup|dct
 deriving DecidableEq
noncomputable def Kd.nm:Kd→String
 |.non=>"NoneType"|.bl=>"bool"|.int=>"int"|.str=>"str"|.lst=>"list"|.tup=>"tuple"|.dct=>"dict"
noncomputable def Kd.sub(a c:Kd):Bool:=decide (a=c)||(decide (a=.bl)&&decide (c=.int))
theorem Ye(K:PySem.W.Frag)(a c:Kd)(hc:c≠.non):PySem.W.kitOne K (.type a.nm) (.type c.nm)=some (a.sub c):=by
 cases c with
 |non=>exact absurd rfl hc
 |bl=>cases a<;>rfl
 |int=>cases a<;>rfl
 |str=>cases a<;>rfl
 |lst=>cases a<;>rfl
 |tup=>cases a<;>rfl
 |dct=>cases a<;>rfl
section
variable {X:Cx}
theorem all_range:∀(bs:List Bool),((List.range bs.length).all fun i=>bs.getD i false)=bs.all id:=by
 intro bs
 induction bs with
 |nil=>rfl
 |cons b bs ih=>
  rw[List.length_cons,List.range_succ_eq_map,List.all_cons,List.all_cons,List.all_map]
  exact congrArg (b&&·) (Eq.trans (by congr 1) ih)
theorem Vals.bools:∀{bs:List Bool} {us:List Value},Vals (bs.map V.bl) us→us=bs.map Value.bool
 |[],us,r=>by cases r;rfl
 |b::bs,us,r=>by
  rw[List.map_cons]at r
  cases r with
  |cons r1 r2=>
   cases (show _=Value.bool b from r1)
   rw[Vals.bools r2,List.map_cons]
theorem rC(hc:X.calm=true):yQ X (.builtin "all") (fun xs H Q=>∃(a:Addr) (bs:List Bool),xs=[.ref a]∧SqL X.K H a (bs.map V.bl)∧Q (.bl (bs.all id)) H):=by
 intro pins s σ H xs us Q I r h
 obtain⟨a,bs,rfl,ha,q⟩:=h
 obtain⟨u,rfl,ru⟩:=vals1 r
 cases ru
 obtain⟨its,rv,pl,hz⟩:=I.list ha
 have hits:=rv.bools
 have alt:a<s.heap.objs.size:=by obtain⟨o,ho,_⟩:=pl.isList;exact Heap.lt_size ho
 refine call_all_walk (wpAny_pyIter_list pl.isList ?_)
 refine⟨s.heap.objs.size,_,_,_,_,_,fun i=>bs.getD i false,rfl,Walks.list (A:=X.A.in1) (I.ok.hd hc) s.heap.objs.size a (Nat.ne_of_lt alt) its.toArray,⟨⟨_,Heap.get?_push_size _ rfl,rfl,rfl⟩,?_⟩,?_,fun h' tk hk=>?_⟩
 . obtain⟨o,ho,hc',n,hd⟩:=pl.isList
   exact⟨o,Heap.get?_push_of_some _ ho,hc',n,hd⟩
 . intro i v s' Q' E' hv hq
   have hv':(bs.map Value.bool)[i]?=some v:=by rw[←hits];simpa using hv
   rw[List.getElem?_map]at hv'
   cases hb:bs[i]? with
   |none=>rw[hb]at hv';cases hv'
   |some b=>
    rw[hb]at hv'
    have:v=Value.bool b:=(Option.some.inj hv').symm
    subst this
    have e:bs.getD i false=b:=by rw[List.getD_eq_getElem?_getD,hb];rfl
    have hq':Q' (bs.getD i false) s':=hq
    rw[e]at hq'
    exact wpAny_truthy_bool hq'
 . have e:(List.range its.toArray.size).all (fun i=>bs.getD i false)=bs.all id:=by
    rw[List.size_toArray,hits,List.length_map];exact all_range bs
   rw[e]
   refine⟨.bl (bs.all id),H,I.kept fun b o ho=>hk b o ?_ (Heap.get?_push_of_some _ ho),rfl,q⟩
   simpa using Nat.ne_of_lt (Heap.lt_size ho)
end
end L2
end
section
namespace L2
open PySem PySem.Spec PyProof.Rows
theorem dX{H:Hp}{p:Addr}(h:H p=none)(o:HO):tJ H (upd H p o):=fun b u q=>by rw[zQ (zi q h)];exact q
def t8(H:Hp)(ys:List V)(Q:VK):Prop:=∀p H',tJ H H'→H' p=some (.tup ys)→Q (.ref p) H'
theorem t8.new{H:Hp}{ys:List V}{Q:VK}(g:t8 H ys Q):∀p,H p=none→Q (.ref p) (upd H p (.tup ys)):=fun p hp=>g p _ (dX hp _) zo
noncomputable def UD:V→Option Int→Option Int→Hp→VK→Prop:=fun x lo hi H Q=>∃a xs,x=.ref a∧H a=some (.tup xs)∧t8 H (qT xs lo hi) Q
noncomputable def ZL:R2:=fun x y H Q=>∃a b xs ys,x=.ref a∧y=.ref b∧H a=some (.tup xs)∧H b=some (.tup ys)∧xs.length+ys.length≤sizeLine∧t8 H (xs++ys) Q
noncomputable def VU:R2:=fun x y H Q=>∃a k xs,x=.ref a∧y=.int k∧H a=some (.tup xs)∧2≤k∧k≤1000∧xs≠[]∧xs.length≤1000∧t8 H (List.replicate k.toNat xs).flatten Q
section
variable {X:Cx}
theorem j5{t sl:Addr}{items:Array Value}{vl vu:Value}{lo hi:Option Int}{Q:Value→Shared→Prop}{A:Around}{E:Value→Shared→Prop}{s:Shared}{prog:Program}{w:World}(ht:IsTup s.heap t items)(hs:s.heap.IsSliceOf sl vl vu .none)(pl:IsPart vl lo)(pu:IsPart vu hi)
 (h0:HT.sIx items.size 0 lo=0) (h1:HT.sIx items.size items.size hi=items.size) (h:Q (.ref t) s):wpAny (model prog w) A (getItem (.ref t) (.ref sl)) Q E s:=by
 obtain⟨os,hos,hcs,hds⟩:=id hs
 have hTs:s.TypeIs (.ref sl) "slice":=⟨os,hos,hcs⟩
 unfold getItem
 try with_reducible refine wpAny_holding ?_
 first|refine wpAny_bind (wpAny_pure ?_)|skip
 refine wpAny_bind (wpAny_sequenceKey ht.typeIs (by decide) ?_)
 refine wpAny_bind (wpAny_callSpecial?_slot (name:=Str.ofString "__getitem__") ht.typeIs PyProof.Rows.slot_tuple_getitem
  (wpAny_call_entry PyProof.Rows.slot_tuple_getitem ht.typeIs entry_tuple_getitem ?_ (args_tuple_getitem _ _)))
 show wpAny _ _ (Builtin.Tuple.tupleItemsOf (.ref t) >>= _) _ _ s
 refine wpAny_bind (tupleItemsOf_ ht ?_)
 refine wpAny_bind (wpAny_typeOf hTs ?_)
 rw[if_pos (by decide)]
 refine wpAny_bind (HT.w8 hs pl pu ?_)
 have hyes:(((HT.sIx items.size 0 lo:Nat):Int) == 0&&(1:Int) == 1&&(HT.sIx items.size items.size hi-HT.sIx items.size 0 lo) == items.size)=true:=by
  rw[h0,h1];simp
 show wpAny _ _ (if (((HT.sIx items.size 0 lo:Nat):Int) == 0&&(1:Int) == 1&&(HT.sIx items.size items.size hi-HT.sIx items.size 0 lo) == items.size)=true then _ else _) _ _ s
 rw[if_pos hyes]
 unfold Builtin.Tuple.tupleIsExact
 refine wpAny_bind (wpAny_bind (wpAny_typeOf ht.typeIs (wpAny_pure ?_)))
 rw[if_pos (by decide)]
 exact wpAny_bind (wpAny_rule (wpAny_pure ⟨_,rfl,wpAny_pure h⟩))
theorem aT:SlR X UD:=by
 intro pins s σ H x v vl vu lo hi sl Q I rx hs pl pu h
 obtain⟨a,xs,rfl,hx,g⟩:=h
 by_cases hw:HT.sIx xs.length 0 lo=0∧HT.sIx xs.length xs.length hi=xs.length
 . cases rx
   obtain⟨its,r,ht,hz⟩:=I.tuple (.inl (.inl hx))
   have hlen:its.toArray.size=xs.length:=by rw[List.size_toArray];exact r.length.symm
   refine⟨"tuple",_,PyProof.Rows.slot_tuple_getitem.lookup,ht.typeIs,?_⟩
   refine j5 ht hs pl pu (by rw[hlen];exact hw.1) (by rw[hlen];exact hw.2) ⟨.ref a,H,I,rfl,g a H (tJ.refl H) ?_⟩
   rw[hx]
   unfold qT
   rw[hw.1,hw.2,List.drop_zero,Nat.sub_zero,List.take_length]
 . exact Xb pins s σ H (.ref a) v vl vu lo hi sl Q I rx hs pl pu ⟨a,xs,rfl,.inl (.inl hx),hw,g.new⟩
theorem f6:OpR X (binaryOp .Add) ZL:=by
 intro pins s σ H x y v u Q I rx ry h
 obtain⟨a,b,xs,ys,rfl,rfl,ha,hb,hz,g⟩:=h
 by_cases hx:xs=[]
 . cases rx
   cases ry
   subst hx
   obtain⟨its,r1,p1,_⟩:=I.tuple (.inl (.inl ha))
   obtain⟨its2,r2,p2,_⟩:=I.tuple (.inl (.inl hb))
   cases r1
   obtain⟨⟨cls,dd,data,sl⟩,ho,hc,n,hd⟩:=id p1
   obtain⟨⟨cls2,dd2,data2,sl2⟩,ho2,hc2,n2,hd2⟩:=id p2
   simp only at hc hd hc2 hd2
   subst hc hd hc2 hd2
   exact concat_meets ⟨_,ho,rfl⟩ ⟨_,ho2,rfl⟩ noFill_tuple_add seq_tuple_add PySem.F.slot_tuple_add PySem.F.entry_tuple_add (PySem.F.args_tuple_add_2 _ _)
    (tuple_addW0 a b #[] its2.toArray n n2 dd dd2 sl sl2 rfl) ⟨ho,ho2,⟨.ref b,H,I,rfl,g b H (tJ.refl H) hb⟩⟩
 . refine ba pins s σ H (.ref a) (.ref b) v u Q I rx ry ⟨a,b,xs,ys,rfl,rfl,.inl (.inl ha),.inl (.inl hb),hx,hz,fun e=>?_,fun _=>g.new⟩
   subst e
   rw[List.append_nil]at g
   exact g a H (tJ.refl H) ha
theorem xc:fillsNumberSlot (.type "tuple") "mul"=pure false:=
 PySem.fillsNumberSlot_seq (id:="tuple.__mul__") (r:=some (.builtin "tuple.__rmul__")) F.slot_tuple_mul.lookup (by decide +kernel) F.slot_tuple_rmul.lookup (by decide +kernel)
theorem vL:seqRepeat? (.type "tuple")=pure (some (.builtin "tuple.__mul__")):=by
 unfold seqRepeat?
 rw[PySem.seqSlot_of (T:="tuple") (name:="__mul__") (id:="tuple.__mul__") F.slot_tuple_mul.lookup (by decide +kernel),PySem.seqSlot_of (T:="tuple") (name:="__rmul__") (id:="tuple.__rmul__") F.slot_tuple_rmul.lookup (by decide +kernel)]
 rfl
theorem wK(a:Int)(t:Tok)(l:Addr)(items:Array Value)(n:Nat)(dd:Option Addr)(sl:Array (Option Value)) :
 Meets (Builtin.«int.__rmul__» ⟨[.int a t,.ref l],[]⟩) (fun _ R s=>s.heap.get? l=some {cls:=.type "tuple",dict:=dd,data:=.seq items n,slots:=sl}∧R (.ok (.ret Value.notImplemented)) s):=
 .of_wp fun prog w A R s h=>by obtain⟨hp,g,d,tk,os⟩:=s;obtain⟨hl,h⟩:=h;wp_walk;exact⟨_,rfl,h⟩
theorem kH(l:Addr)(items:Array Value)(n:Nat)(x:Int)(u:Tok)(dd:Option Addr)(sl:Array (Option Value))(h1:2≤x)(h2:x≤1000)(h3:¬items.isEmpty=true)(h4:items.size≤1000) :
 Meets (Builtin.«tuple.__mul__» ⟨[.ref l,.int x u],[]⟩) (fun _ R s=>s.heap.get? l=some {cls:=.type "tuple",dict:=dd,data:=.seq items n,slots:=sl} ∧
  R (.ok (.ret (Value.ref s.heap.objs.size))) {s with heap:=s.heap.push {cls:=Value.type "tuple",data:=Data.seq (List.foldl (fun x1 x2=>x1++x2) #[] (List.replicate x.toNat items))},toks:=s.toks}):=
 .of_wp fun prog w A R s h=>by
  obtain⟨hp,g,d,tk,os⟩:=s;obtain⟨hl,h⟩:=h
  have f1:=AutoSeq1.idx_int
  have c1:¬((decide (x < -(2 ^ 63))||decide (x ≥ 2 ^ 63))=true):=by simp;omega
  have c2:¬((items.isEmpty||x == 1)=true):=by simp at h3 ⊢;exact⟨h3,by omega⟩
  have c3:¬((decide (x≤0)||items.isEmpty)=true):=by simp at h3 ⊢;exact⟨by omega,h3⟩
  have hprod:(items.size:Int)*x≤1000*1000:=Int.mul_le_mul (by omega) h2 (by omega) (by omega)
  have c4:¬((items.size:Int)*x > (2 ^ 63-1)/8):=by omega
  have hL:sizeLine=16777216:=sizeLine_eq
  have c5:¬(Builtin.Tuple.tupleTooMany ((items.size:Int)*x)=true):=by
   unfold Builtin.Tuple.tupleTooMany
   rw[hL]
   simp only[decide_eq_true_eq]
   omega
  have hn:(List.foldl (fun x1 x2=>x1++x2) #[] (List.replicate x.toNat items)).size=x.toNat*items.size:=by
   have e:=foldl_rep items.toList x.toNat []
   simp only[Array.toArray_toList,List.nil_append]at e
   rw[e,List.size_toArray,len_rep,Array.length_toList]
  have htake:sizeOk (.seq (List.foldl (fun x1 x2=>x1++x2) #[] (List.replicate x.toNat items))):=by
   show (List.foldl (fun x1 x2=>x1++x2) #[] (List.replicate x.toNat items)).size≤sizeLine
   rw[hn,hL]
   have:x.toNat*items.size≤1000*1000:=Nat.mul_le_mul (by omega) h4
   omega
  wp_walk using wpAny_loadPart' hl
  rw[if_neg c1]
  refine wpAny_bind (tupleItemsOf_ (items:=items) ⟨_,hl,rfl,n,rfl⟩ ?_)
  rw[if_neg c2]
  show wpAny _ _ (if (decide (x≤0)||items.isEmpty)=true then _ else _) _ _ _
  rw[if_neg c3]
  show wpAny _ _ (if (items.size:Int)*x > (2 ^ 63-1)/8 then _ else _) _ _ _
  rw[if_neg c4]
  show wpAny _ _ (if Builtin.Tuple.tupleTooMany ((items.size:Int)*x)=true then _ else _) _ _ _
  rw[if_neg c5]
  exact wpAny_bind (m:=Builtin.Tuple.tupleExact _) (wpAny_newObj_type (wpAny_pure ⟨_,rfl,h⟩) htake)
theorem bg:OpR X (binaryOp .Mult) VU:=by
 intro pins s σ H x y v u Q I rx ry h
 obtain⟨a,k,xs,rfl,rfl,ha,h1,h2,h3,h4,g⟩:=h
 cases rx
 obtain⟨t,rfl⟩:=ry
 obtain⟨its,r,p1,_⟩:=I.tuple (.inl (.inl ha))
 obtain⟨⟨cls,dd,data,sl⟩,ho,hc,n,hd⟩:=id p1
 simp only at hc hd
 subst hc hd
 have hl:=r.length
 have hne:¬its.toArray.isEmpty=true:=by
  simp
  intro e
  exact h3 (r.wV.mp e)
 refine wpAny_binaryOp_repeat_ref (T:="tuple") (U:="int") (by decide) ⟨_,ho,rfl⟩ (fun s'=>typeIs_int s' k t) xc F.fills_int_mul F.slot_int_rmul vL F.slot_int_index.lookup
  (call_meets F.slot_int_rmul (typeIs_int s k t) F.entry_int_rmul (F.args_int_rmul_2 _ _) (wK k t a its.toArray n dd sl)
   ⟨ho,rfl,⟨_,ho,rfl⟩,call_meets F.slot_tuple_mul ⟨_,ho,rfl⟩ F.entry_tuple_mul (F.args_tuple_mul_2 _ _) (kH a its.toArray n k t dd sl h1 h2 hne (by rw[List.size_toArray,←hl];exact h4)) ⟨ho,?_⟩⟩)
 have e:=foldl_rep its k.toNat []
 rw[List.nil_append]at e
 have hz:(List.replicate k.toNat xs).flatten.length≤sizeLine:=by
  rw[len_rep,sizeLine_eq]
  have:k.toNat*xs.length≤1000*1000:=Nat.mul_le_mul (by omega) h4
  omega
 refine⟨.ref s.heap.objs.size,_,I.laid (t':=s.toks) (o:=.tup (List.replicate k.toNat xs).flatten) (fun b ob q=>Heap.get?_push_of_some _ q) (Nat.le_refl _) ⟨hz,(List.replicate k.toNat its).flatten,r.rep k.toNat,?_⟩,rfl,g.new _ (I.hok.fresh (Nat.le_refl _))⟩
 rw[show (#[]:Array Value)=([]:List Value).toArray from rfl,e]
 exact uR.new _ _
end
end L2
end
section
namespace L2
open PySem PySem.Spec PyProof.Rows
section
variable {X:Cx}{pos:Pos}
noncomputable def ZR(i j k:Nat)(ta:TA):TS:=fun D σ H=>ta σ H fun vs H1=>∃v w z,vs=[v,w,z]∧D.nx (((σ.set i (some v)).set j (some w)).set k (some z)) H1
theorem vals3{x y z:V}{us:List Value}(r:Vals [x,y,z] us):∃u1 u2 u3,us=[u1,u2,u3]∧RelV x u1∧RelV y u2∧RelV z u3:=by
 cases r with
 |cons r1 r2=>
  cases r2 with
  |cons r3 r4=>
   cases r4 with
   |cons r5 r6=>cases r6;exact⟨_,_,_,rfl,r1,r3,r5⟩
theorem aF{i j k:Nat}{x y z:Str}{a b c:Expr}{ta:TA}{px py pz pt:Pos}{kt k2 pt2}(hc:X.calm=true)(hN:X.N.Nodup)(hi:X.N[i]?=some x)(hj:X.N[j]?=some y)(hk:X.N[k]?=some z)(hij:i≠j)(hik:i≠k)(hjk:j≠k)
 (hx:X.env.scope.names.lookup x=some .local) (hy:X.env.scope.names.lookup y=some .local) (hz:X.env.scope.names.lookup z=some .local) (ha:PA X [a,b,c] ta)
 (hw:swappedStores [.Tuple [.Name x px,.Name y py,.Name z pz] kt pt] (.Tuple [a,b,c] k2 pt2) X.env=pure (some [x,y,z]))
 (hs:swapsWithSole [.Tuple [.Name x px,.Name y py,.Name z pz] kt pt] (.Tuple [a,b,c] k2 pt2) pos.line X.env=pure false:=by rfl) :
 PS X (.Assign [.Tuple [.Name x px,.Name y py,.Name z pz] kt pt] (.Tuple [a,b,c] k2 pt2) pos) (ZR i j k ta):=by
 intro pins s σ H D I h
 rw[exec_Assign_arm]
 refine wpAny_bind (wpAny_standAt ?_)
 rw[hs]
 refine wpAny_bind (wpAny_pure ?_)
 rw[if_neg (by decide)]
 refine wpAny_bind (Tuple_ (thn (ha _ pins s σ H _ I h) fun us s1 ⟨vs,H1,I1,r1,q1⟩=>?_))
 obtain⟨v,w,zz,e1,q1⟩:=q1
 subst e1
 obtain⟨u1,u2,u3,rfl,rv,rw',rz⟩:=vals3 r1
 refine wpAny_newObj_type ?_ (by show 3≤sizeLine;decide)
 have I2:Inv X pins σ H1 {s1 with heap:=s1.heap.push {cls:=.type "tuple",data:=.seq [u1,u2,u3].toArray}}:=I1.kept (t':=s1.toks) fun b o e=>Heap.get?_push_of_some _ e
 rw[hw]
 refine wpAny_bind (wpAny_pure ?_)
 show wpAny (model X.prog X.w) X.A (do rule "assign.swapped-stores";let items ←unpackItems (.ref s1.heap.objs.size) 3 none;assignInOrder [fun v=>bindName X.env z v,fun v=>bindName X.env y v,fun v=>bindName X.env x v] items.reverse;pure Flow.next) _ _ _
 refine wpAny_bind (wpAny_rule (wpAny_bind (unpackItems_tuple (items:=#[u1,u2,u3]) (I.ok.hd hc) (IsTup.new s1.heap _) fun h' hx'=>?_)))
 have I3:=I2.kept (h':=h') (t':=s1.toks) fun b o e=>hx' b o (Nat.ne_of_lt (Heap.lt_size e)) e
 show wpAny _ _ (assignInOrder [fun v=>bindName X.env z v,fun v=>bindName X.env y v,fun v=>bindName X.env x v] [u3,u2,u1] >>= fun _=>pure Flow.next) _ _ _
 refine wpAny_bind (assignInOrder_cons (wpAny_bindName (xu I3 hN hk (.inl hz) rz (fun s2 I4=>?_) (.inr hz))))
 refine assignInOrder_cons (wpAny_bindName (xu I4 hN hj (.inl hy) rw' (fun s3 I5=>?_) (.inr hy)))
 refine assignInOrder_cons (wpAny_bindName (xu I5 hN hi (.inl hx) rv (fun s4 I6=>assignInOrder_nil (wpAny_pure ?_)) (.inr hx)))
 refine⟨_,H1,?_,q1⟩
 have e:((σ.set k (some zz)).set j (some w)).set i (some v)=((σ.set i (some v)).set j (some w)).set k (some zz):=by
  rw[List.set_comm _ _ (Ne.symm hij),List.set_comm _ _ (Ne.symm hik),List.set_comm _ _ (Ne.symm hjk)]
 rw[←e]
 exact I6
end
end L2
namespace L2
open PySem PySem.Spec PyProof.Rows
mutual
inductive DD(H:Hp)(p:Addr):V→PyData→Prop
 |non:DD H p .non .none
 |bl (b:Bool):DD H p (.bl b) (.bool b)
 |int (i:Int):DD H p (.int i) (.int i)
 |str (x:Str):DD H p (.str x) (.str x)
 |lst {a:Addr} {xs:List V} {ds:List PyData}:H a=some (.lst xs)→a≠p→DDs H p xs ds→DD H p (.ref a) (.list ds)
 |tup {a:Addr} {xs:List V} {ds:List PyData}:H a=some (.tup xs)→a≠p→DDs H p xs ds→DD H p (.ref a) (.tuple ds)
 |dct {a:Addr}:H a=some (.dK [])→a≠p→DD H p (.ref a) (.dict [])
inductive DDs(H:Hp)(p:Addr):List V→List PyData→Prop
 |nil:DDs H p [] []
 |cons {x:V} {xs:List V} {d:PyData} {ds:List PyData}:DD H p x d→DDs H p xs ds→DDs H p (x::xs) (d::ds)
end
theorem DDs.length{H:Hp}{p:Addr}:∀{vs:List V} {ds:List PyData},DDs H p vs ds→vs.length=ds.length
 |_,_,.nil=>rfl
 |_,_,.cons _ rs=>by rw[List.length_cons,List.length_cons,rs.length]
theorem DDs.append{H:Hp}{p:Addr}:∀{vs ws:List V} {ds es:List PyData},DDs H p vs ds→DDs H p ws es→DDs H p (vs++ws) (ds++es)
 |_,_,_,_,.nil,r=>r
 |_,_,_,_,.cons r rs,q=>.cons r (rs.append q)
mutual
noncomputable def xM:PyData→Bool
 |.none|.bool _|.int _|.str _=>false
 |.list _=>true
 |.tuple xs=>xY xs
 |.dict _=>false
noncomputable def xY:List PyData→Bool
 |[]=>false
 |x::xs=>xM x||xY xs
end
structure a9(d:PyData):Prop where
 sh:d.showable=true
 mix:d.hasDict=true→xM d=false
 dp:d.depth≤50
 ln:d.shown.length≤sizeLine
end L2
end
section
namespace L2
open PySem PySem.Spec PyProof.Rows
structure mj(k w:Nat)(d:PyData):Prop where
 sh:d.showable=true
 lf:d.leavesShort 40=true
 dp:d.depth≤k
 wt:d.weight≤w
theorem ff{i:Int}(h1:-(10 ^ 30)<i)(h2:i<10 ^ 30):mj 0 100 (.int i):=by
 have hn:i.natAbs<10 ^ 30:=by omega
 have h100:i.natAbs<2 ^ 100:=Nat.lt_trans hn (by decide)
 have hlog:i.natAbs≠0→i.natAbs.log2<100:=fun z=>(Nat.log2_lt z).mpr h100
 refine⟨?_,?_,Nat.zero_le _,?_⟩
 . show decide (i.natAbs.log2<1920)=true
   by_cases z:i.natAbs=0
   . rw[z];decide
   . exact decide_eq_true (Nat.lt_trans (hlog z) (by decide))
 . show decide ((PyData.shown (.int i)).length≤40)=true
   refine decide_eq_true ?_
   show (Str.ofString (toString i)).length≤40
   by_cases z:0≤i
   . exact Nat.le_trans (toString_length_le z (k:=30) (by decide) h2) (by decide)
   . have e:=len_text_negI (n:=i) (by omega)
     have e2:=toString_length_le (v:=0-i) (k:=30) (by omega) (by decide) (by omega)
     omega
 . show (if i == 0 then 0 else i.natAbs.log2+1)≤100
   split
   . exact Nat.zero_le _
   . rename_i z
     have z':i≠0:=by simpa using z
     exact hlog (by omega)
theorem uU:∀{ds:List PyData},(∀d∈ds,d.showable=true)→PyData.showableAll ds=true
 |[],_=>rfl
 |d::ds,h=>by rw[PyData.showableAll,h d List.mem_cons_self,uU fun x hx=>h x (List.mem_cons_of_mem _ hx)];rfl
theorem qq:∀{ds:List PyData},(∀d∈ds,d.leavesShort 40=true)→PyData.leavesShortAll 40 ds=true
 |[],_=>rfl
 |d::ds,h=>by rw[PyData.leavesShortAll,h d List.mem_cons_self,qq fun x hx=>h x (List.mem_cons_of_mem _ hx)];rfl
theorem qp{k:Nat}:∀{ds:List PyData},(∀d∈ds,d.depth≤k)→PyData.depthAll ds≤k
 |[],_=>Nat.zero_le _
 |d::ds,h=>by rw[PyData.depthAll];exact Nat.max_le.mpr ⟨h d List.mem_cons_self,qp fun x hx=>h x (List.mem_cons_of_mem _ hx)⟩
theorem s9{w:Nat}:∀{ds:List PyData},(∀d∈ds,d.weight≤w)→PyData.weightAll ds≤ds.length*(w+1)
 |[],_=>by simp[PyData.weightAll]
 |d::ds,h=>by
  rw[PyData.weightAll,List.length_cons,Nat.succ_mul]
  have h1:=h d List.mem_cons_self
  have h2:=s9 fun x hx=>h x (List.mem_cons_of_mem _ hx)
  omega
theorem lI{k w n:Nat}{ds:List PyData}(h:∀d∈ds,mj k w d)(hn:ds.length≤n):mj (k+1) (n*(w+1)) (.tuple ds):=by
 refine⟨uU fun d hd=>(h d hd).sh,qq fun d hd=>(h d hd).lf,Nat.succ_le_succ (qp fun d hd=>(h d hd).dp),?_⟩
 exact Nat.le_trans (s9 fun d hd=>(h d hd).wt) (Nat.mul_le_mul_right _ hn)
theorem mj.VZ{k w:Nat}{d:PyData}(h:mj k w d)(hk:k≤50)(hw:w≤300000)(mix:d.hasDict=true→xM d=false):a9 d:=by
 refine⟨h.sh,mix,Nat.le_trans h.dp hk,?_⟩
 have e:=PyData.shown_le 40 (by decide) d h.lf
 have e2:=h.wt
 rw[sizeLine_eq]
 have:(40+2)*d.weight≤42*300000:=Nat.mul_le_mul_left _ (Nat.le_trans e2 hw)
 omega
theorem pQ:∀{ds:List PyData},(∀d∈ds,d.hasDict=false)→PyData.hasDictAll ds=false
 |[],_=>rfl
 |d::ds,h=>by rw[PyData.hasDictAll,h d List.mem_cons_self,pQ fun x hx=>h x (List.mem_cons_of_mem _ hx)];rfl
end L2
end
section
namespace L2
open PySem PySem.Spec PyProof.Rows
section
variable {X:Cx}{pos:Pos}
theorem VG{x:Str}{n:String}(hg:Gl X x)(hm:X.mg x=none)(hv:bootBuiltins x=some (.type n))(hn:x≠"__name__":=by decide)(hd:(x == ("__debug__":Str))=false:=by decide):PE X (.Name x pos) (tC (.ty n)):=
 bw hg hm hv (show RelV (.ty n) (.type n) from rfl) hn hd
noncomputable def noStar:Expr→Bool
 |.Starred ..=>false
 |_=>true
theorem y3{e:Expr}{es:List Expr}{env:Env}(h:noStar e=true):starEach (e::es) env=(false,eval e env)::starEach es env:=by
 cases e<;>first|rfl|cases h
theorem pac{X:Cx}{e:Expr}{es:List Expr}{te:TE}{t:TA}(ha:PE X e te)(hr:PA X es t)(hs:noStar e=true:=by rfl):PA X (e::es) (ZQ te t):=bu ha hr (y3 hs)
noncomputable def oE(sc0:Scope)(N0 N:List Str)(csc:Scope)(fr:List (Option Nat)):Bool:=
 decide (csc.kind=.function)&&csc.names.all (fun x=>decide (x.2≠.cell))&&csc.names.all (fun x=>decide (x.2≠.local)||decide (csc.names.lookup x.1=some .local)) &&
 csc.names.all (fun x=>decide (x.2≠.free)||(decide (sc0.names.lookup x.1=some .cell)||decide (sc0.names.lookup x.1=some .free)))&&decide (fr.length=N.length) &&
 (List.range N.length).all (fun i=>match fr[i]?,N[i]? with|some (some j),some x=>decide (N0[j]?=some x)&&csc.names.any (fun y=>decide (y.1=x)&&decide (y.2=.free))|_,_=>true) &&
 csc.names.all (fun x=>decide (x.2≠.free)||decide (csc.names.lookup x.1≠some .local))
end
end L2
end
section
namespace L2
open PySem PySem.Spec PyProof.Rows
noncomputable def yR{α:Type}(xs:List α)(lo st:Int)(n:Nat):List α:=(List.range n).filterMap fun(k:Nat)=>xs[(lo+(k:Int)*st).toNat]?
theorem Vals.pick{xs:List V}{us:List Value}(r:Vals xs us):∀(is:List Nat),Vals (is.filterMap fun i=>xs[i]?) (is.filterMap fun i=>us[i]?)
 |[]=>.nil
 |i::is=>by
  rw[List.filterMap_cons,List.filterMap_cons]
  cases hx:xs[i]? with
  |none=>rw[r.none_of hx];exact Vals.pick r is
  |some x=>
   obtain⟨u,hu,ru⟩:=r.get hx
   rw[hu]
   exact .cons ru (Vals.pick r is)
theorem Vals.yR{xs:List V}{us:List Value}(r:Vals xs us)(lo st:Int)(n:Nat):Vals (yR xs lo st n) (L2.yR us lo st n):=by
 have h:=r.pick ((List.range n).map fun(k:Nat)=>(lo+(k:Int)*st).toNat)
 rw[List.filterMap_map,List.filterMap_map]at h
 exact h
theorem mF{α:Type}(xs:List α)(lo st:Int)(n:Nat):(yR xs lo st n).length≤n:=by
 have:=List.length_filterMap_le (fun(k:Nat)=>xs[(lo+(k:Int)*st).toNat]?) (List.range n)
 rw[List.length_range]at this
 exact this
noncomputable def y6(n:Nat)(lo hi:Option Int)(st:Int):Int × Nat:=((Builtin.Slice.sliceAdjust lo hi st (n:Int)).1,Builtin.Slice.slicePlaces (Builtin.Slice.sliceAdjust lo hi st (n:Int)).1 (Builtin.Slice.sliceAdjust lo hi st (n:Int)).2 st)
section
variable {prog:Program}{w:World}{A:Around}{E:Value→Shared→Prop}{s:Shared}
theorem qf{sl:Addr}{vl vu vc:Value}{lo hi:Option Int}{st:Int}{n:Nat}{Q:Int × Int × Nat→Shared→Prop}(hs:s.heap.IsSliceOf sl vl vu vc)(pl:IsPart vl lo)(pu:IsPart vu hi)(pc:IsPart vc (some st))(h0:st≠0)
 (h:Q ((y6 n lo hi st).1,st,(y6 n lo hi st).2) s):wpAny (model prog w) A (Builtin.Slice.sliceApplied (.ref sl) (pure (n:Int))) Q E s:=by
 obtain⟨os,hos,hcs,hds⟩:=id hs
 unfold Builtin.Slice.sliceApplied Builtin.Slice.sliceFields
 refine wpAny_bind (wpAny_bind (wpAny_field hos hds (x:=vl) rfl (wpAny_bind (wpAny_field hos hds (x:=vu) rfl (wpAny_bind (wpAny_field hos hds (x:=vc) rfl (wpAny_pure ?_)))))))
 refine wpAny_bind (HT.wO pc ?_)
 show wpAny _ _ (if (st == 0)=true then _ else _) _ _ s
 rw[if_neg (by simpa using h0)]
 exact wpAny_bind (HT.wO pl (wpAny_bind (HT.wO pu (wpAny_bind (wpAny_pure (wpAny_pure h))))))
theorem dr{t sl:Addr}{items:Array Value}{vl vu vc:Value}{lo hi:Option Int}{st:Int}{Q:Value→Shared→Prop}(ht:IsTup s.heap t items)(hs:s.heap.IsSliceOf sl vl vu vc)(pl:IsPart vl lo)(pu:IsPart vu hi)(pc:IsPart vc (some st))(h0:st≠0)
 (hq1:(y6 items.size lo hi st).1=0→st=1→(y6 items.size lo hi st).2=items.size→Q (.ref t) s)
 (hq2:Q (.ref s.heap.objs.size) {s with heap:=s.heap.push {cls:=.type "tuple",data:=.seq (yR items.toList (y6 items.size lo hi st).1 st (y6 items.size lo hi st).2).toArray}})
 (hsz:(y6 items.size lo hi st).2≤sizeLine):wpAny (model prog w) A (getItem (.ref t) (.ref sl)) Q E s:=by
 obtain⟨os,hos,hcs,hds⟩:=id hs
 have hTs:s.TypeIs (.ref sl) "slice":=⟨os,hos,hcs⟩
 have htake:sizeOk (.seq (yR items.toList (y6 items.size lo hi st).1 st (y6 items.size lo hi st).2).toArray):=by
  show (yR items.toList (y6 items.size lo hi st).1 st (y6 items.size lo hi st).2).toArray.size≤sizeLine
  rw[List.size_toArray]
  exact Nat.le_trans (mF _ _ _ _) hsz
 have epick:((List.range (y6 items.size lo hi st).2).filterMap fun(k:Nat)=>items[((y6 items.size lo hi st).1+(k:Int)*st).toNat]?).toArray=(yR items.toList (y6 items.size lo hi st).1 st (y6 items.size lo hi st).2).toArray:=by
  unfold yR
  simp only[Array.getElem?_toList]
 unfold getItem
 try with_reducible refine wpAny_holding ?_
 first|refine wpAny_bind (wpAny_pure ?_)|skip
 refine wpAny_bind (wpAny_sequenceKey ht.typeIs (by decide) ?_)
 refine wpAny_bind (wpAny_callSpecial?_slot (name:=Str.ofString "__getitem__") ht.typeIs PyProof.Rows.slot_tuple_getitem
  (wpAny_call_entry PyProof.Rows.slot_tuple_getitem ht.typeIs entry_tuple_getitem ?_ (args_tuple_getitem _ _)))
 show wpAny _ _ (Builtin.Tuple.tupleItemsOf (.ref t) >>= _) _ _ s
 refine wpAny_bind (tupleItemsOf_ ht ?_)
 refine wpAny_bind (wpAny_typeOf hTs ?_)
 rw[if_pos (by decide)]
 refine wpAny_bind (qf (n:=items.size) hs pl pu pc h0 ?_)
 by_cases hw:((y6 items.size lo hi st).1 == 0&&st == 1&&(y6 items.size lo hi st).2 == items.size)=true
 . show wpAny _ _ (if ((y6 items.size lo hi st).1 == 0&&st == 1&&(y6 items.size lo hi st).2 == items.size)=true then _ else _) _ _ s
   rw[if_pos hw]
   simp only[Bool.and_eq_true,beq_iff_eq]at hw
   unfold Builtin.Tuple.tupleIsExact
   refine wpAny_bind (wpAny_bind (wpAny_typeOf ht.typeIs (wpAny_pure ?_)))
   rw[if_pos (by decide)]
   exact wpAny_bind (wpAny_rule (wpAny_pure ⟨_,rfl,wpAny_pure (hq1 hw.1.1 hw.1.2 hw.2)⟩))
 . show wpAny _ _ (if ((y6 items.size lo hi st).1 == 0&&st == 1&&(y6 items.size lo hi st).2 == items.size)=true then _ else _) _ _ s
   rw[if_neg hw,epick]
   first
    |exact wpAny_bind (m:=Builtin.Tuple.tupleExact _) (wpAny_newObj_type (wpAny_pure ⟨_,rfl,wpAny_pure hq2⟩) htake)
    |exact wpAny_bind (wpAny_bind (m:=Builtin.Tuple.tupleExact _) (wpAny_newObj_type (wpAny_pure ⟨_,rfl,wpAny_pure hq2⟩) htake))
end
theorem mG{α:Type}:∀xs:List α,(List.range xs.length).filterMap (fun k=>xs[k]?)=xs
 |[]=>rfl
 |x::xs=>by
  rw[List.length_cons,List.range_succ_eq_map,List.filterMap_cons,List.filterMap_map]
  show x::_=_
  refine congrArg (x::·) (Eq.trans ?_ (mG xs))
  congr 1
theorem lj{α:Type}(xs:List α):yR xs 0 1 xs.length=xs:=by
 unfold yR
 have e:(fun(k:Nat)=>xs[(0+(k:Int)*1).toNat]?)=fun k=>xs[k]?:=by
  funext k
  rw[show (0+(k:Int)*1).toNat=k by omega]
 rw[e]
 exact mG xs
noncomputable def UE:V→Option Int→Option Int→Option Int→Hp→VK→Prop:=fun x lo hi st H Q=>∃a xs c,x=.ref a∧H a=some (.tup xs)∧st=some c∧c≠0∧(y6 xs.length lo hi c).2≤sizeLine∧t8 H (yR xs (y6 xs.length lo hi c).1 c (y6 xs.length lo hi c).2) Q
noncomputable def Vm(r:V→Option Int→Option Int→Option Int→Hp→VK→Prop)(te:TE)(tl th tc:TO):TE:=fun σ H Q=>te σ H fun x H1=>tl σ H1 fun l H2=>th σ H2 fun u H3=>tc σ H3 fun c H4=>r x l u c H4 Q
theorem iu{X:Cx}{e:Expr}{te:TE}{lo hi:Option Expr}{st:Expr}{tl th tc:TO}{pos p2:Pos}(he:PE X e te)(hl:PO X lo tl)(hu:PO X hi th)(hc:PO X (some st) tc):PE X (.Subscript e (.Slice lo hi (some st) p2) pos) (Vm UE te tl th tc):=by
 intro pins s σ H Q I h
 refine Subscript_ (thn (he pins s σ H _ I h) fun v s1 ⟨x,H1,I1,r1,q1⟩=>?_)
 refine wpAny_Slice (thn (hl pins s1 σ H1 _ I1 q1) fun vl s2 ⟨l,H2,I2,pl,q2⟩=>thn (hu pins s2 σ H2 _ I2 q2) fun vu s3 ⟨u,H3,I3,pu,q3⟩=>thn (hc pins s3 σ H3 _ I3 q3) fun vc s4 ⟨c,H4,I4,pc,q4⟩=>?_)
 obtain⟨a,xs,cc,rfl,hx,ec,h0,hsz,g⟩:=q4
 subst ec
 cases r1
 have I5:Inv X pins σ H4 {s4 with heap:=s4.heap.push {cls:=.type "slice",data:=.fields #[vl,vu,vc]}}:=I4.kept (t':=s4.toks) fun b ob q=>Heap.get?_push_of_some _ q
 obtain⟨its,r,ht,hz⟩:=I5.tuple (.inl (.inl hx))
 have hlen:its.toArray.size=xs.length:=by rw[List.size_toArray];exact r.length.symm
 show wpAny (model X.prog X.w) X.A (subscriptTail e (.Slice lo hi (some st) p2) (.ref a) (.ref s4.heap.objs.size)) (EP X pins σ Q) X.xe {s4 with heap:=s4.heap.push {cls:=.type "slice",data:=.fields #[vl,vu,vc]}}
 refine tail_any (ops:=[.ref a,.ref s4.heap.objs.size]) ht.typeIs PyProof.Rows.slot_tuple_getitem.lookup (dr ht (Heap.IsSliceOf.new ..) pl pu pc h0 (fun z1 z2 z3=>?_) ?_ (by rw[hlen];exact hsz)) (by with_unfolding_all rfl)
 . refine⟨.ref a,H4,I5,rfl,g a H4 (tJ.refl H4) ?_⟩
   rw[hlen]at z1 z3
   rw[hx,z1,z3,z2,lj]
 . rw[hlen]
   refine⟨.ref _,_,I5.laid (t':=s4.toks) (o:=.tup (yR xs (y6 xs.length l u cc).1 cc (y6 xs.length l u cc).2)) (fun b ob q=>Heap.get?_push_of_some _ q) (Nat.le_refl _) ?_,rfl,g.new _ (I5.hok.fresh (Nat.le_refl _))⟩
   refine⟨Nat.le_trans (mF _ _ _ _) hsz,_,r.yR _ _ _,?_⟩
   exact uR.new _ _
end L2
end
section
namespace L2
open PySem PyProof.Rows
section
variable {X:Cx}
noncomputable def wL(d:Int):List Int→Int
 |[]=>d
 |n::ns=>ns.foldl (fun a b=>if b > a then b else a) n
theorem rL:∀(ns:List Int) (a:Int),a≤ns.foldl (fun a b=>if b > a then b else a) a∧(∀x∈ns,x≤ns.foldl (fun a b=>if b > a then b else a) a)∧(ns.foldl (fun a b=>if b > a then b else a) a=a∨ns.foldl (fun a b=>if b > a then b else a) a∈ns)
 |[],a=>⟨Int.le_refl _,fun _ h=>(nomatch h),.inl rfl⟩
 |n::ns,a=>by
  obtain⟨h1,h2,h3⟩:=rL ns (if n > a then n else a)
  show a≤ns.foldl _ (if n > a then n else a)∧_
  have hc:a≤(if n > a then n else a)∧n≤(if n > a then n else a):=by split<;>omega
  refine⟨Int.le_trans hc.1 h1,fun x hx=>?_,?_⟩
  . rcases List.mem_cons.mp hx with e|hx
    . rw[e];exact Int.le_trans hc.2 h1
    . exact h2 x hx
  . rcases h3 with h3|h3
    . show ns.foldl _ (if n > a then n else a)=a∨ns.foldl _ (if n > a then n else a)∈n::ns
      rw[h3]
      split
      . exact .inr (List.mem_cons_self ..)
      . exact .inl rfl
    . exact .inr (List.mem_cons_of_mem _ h3)
theorem rY{d:Int}{ns:List Int}(h:ns≠[]):wL d ns∈ns∧∀x∈ns,x≤wL d ns:=by
 cases ns with
 |nil=>exact absurd rfl h
 |cons n ns=>
  obtain⟨h1,h2,h3⟩:=rL ns n
  refine⟨?_,fun x hx=>?_⟩
  . rcases h3 with h3|h3
    . show ns.foldl _ n∈_;rw[h3];exact List.mem_cons_self ..
    . exact List.mem_cons_of_mem _ h3
  . rcases List.mem_cons.mp hx with e|hx
    . rw[e];exact h1
    . exact h2 x hx
theorem ng{d M:Int}{ns:List Int}(h1:M∈ns)(h2:∀x∈ns,x≤M):wL d ns=M:=by
 have hne:ns≠[]:=fun e=>by rw[e]at h1;exact nomatch h1
 obtain⟨a,b⟩:=rY (d:=d) hne
 exact Int.le_antisymm (h2 _ a) (b _ h1)
theorem Vals.ints:∀{ns:List Int} {us:List Value},Vals (ns.map V.int) us→∀{i:Nat} {v:Value},us[i]?=some v→∃t,v=.int (ns.getD i 0) t
 |[],_,.nil,_,_,h=>by cases h
 |n::ns,_,.cons r rs,0,v,h=>by
  obtain⟨t,e⟩:=r
  have:v=.int n t:=(Option.some.inj h).symm.trans e
  exact⟨t,this⟩
 |n::ns,_,.cons r rs,i+1,v,h=>by
  have:=Vals.ints rs (i:=i) (v:=v) h
  exact this
end
end L2
end
section
namespace L2
open PySem PyProof PyProof.Rows
section
variable {X:Cx}
theorem kG(l:Addr)(items:Array Value)(n:Nat)(u:Tok)(dd:Option Addr)(sl:Array (Option Value)) :
 Meets (Builtin.«tuple.__mul__» ⟨[.ref l,.int 1 u],[]⟩) (fun _ R s=>s.heap.get? l=some {cls:=.type "tuple",dict:=dd,data:=.seq items n,slots:=sl}∧R (.ok (.ret (Value.ref l))) s):=
 .of_wp fun prog w A R s h=>by
  obtain⟨hp,g,d,tk,os⟩:=s;obtain⟨hl,h⟩:=h
  have f1:=AutoSeq1.idx_int
  have c1:¬((decide ((1:Int) < -(2 ^ 63))||decide ((1:Int) ≥ 2 ^ 63))=true):=by decide
  have c2:((items.isEmpty||((1:Int) == 1))=true):=by simp
  wp_walk using wpAny_loadPart' hl
  exact⟨_,rfl,h⟩
theorem kF(l:Addr)(items:Array Value)(n:Nat)(x:Int)(u:Tok)(dd:Option Addr)(sl:Array (Option Value))(h1:x≤0)(h2:-1000≤x)(h3:¬items.isEmpty=true) :
 Meets (Builtin.«tuple.__mul__» ⟨[.ref l,.int x u],[]⟩) (fun _ R s=>s.heap.get? l=some {cls:=.type "tuple",dict:=dd,data:=.seq items n,slots:=sl} ∧
  R (.ok (.ret (Value.ref s.heap.objs.size))) {s with heap:=s.heap.push {cls:=Value.type "tuple",data:=Data.seq #[]},toks:=s.toks}):=
 .of_wp fun prog w A R s h=>by
  obtain⟨hp,g,d,tk,os⟩:=s;obtain⟨hl,h⟩:=h
  have f1:=AutoSeq1.idx_int
  have c1:¬((decide (x < -(2 ^ 63))||decide (x ≥ 2 ^ 63))=true):=by simp;omega
  have c2:¬((items.isEmpty||x == 1)=true):=by simp at h3 ⊢;exact⟨h3,by omega⟩
  have c3:((decide (x≤0)||items.isEmpty)=true):=by simp;exact .inl h1
  wp_walk using wpAny_loadPart' hl
  rw[if_neg c1]
  refine wpAny_bind (tupleItemsOf_ (items:=items) ⟨_,hl,rfl,n,rfl⟩ ?_)
  rw[if_neg c2]
  show wpAny _ _ (if (decide (x≤0)||items.isEmpty)=true then _ else _) _ _ _
  rw[if_pos c3]
  exact wpAny_bind (m:=Builtin.Tuple.tupleExact _) (wpAny_newObj_type (wpAny_pure ⟨_,rfl,h⟩))
noncomputable def VV:R2:=fun x y H Q=>∃a k xs,x=.ref a∧y=.int k∧H a=some (.tup xs)∧-1000≤k∧k≤1000∧xs≠[]∧xs.length≤1000∧t8 H (List.replicate k.toNat xs).flatten Q
theorem bf:OpR X (binaryOp .Mult) VV:=by
 intro pins s σ H x y v u Q I rx ry h
 obtain⟨a,k,xs,rfl,rfl,ha,h1,h2,h3,h4,g⟩:=h
 by_cases hk2:2≤k
 . exact bg pins s σ H _ _ v u Q I rx ry ⟨a,k,xs,rfl,rfl,ha,hk2,h2,h3,h4,g⟩
 cases rx
 obtain⟨t,rfl⟩:=ry
 obtain⟨its,r,p1,_⟩:=I.tuple (.inl (.inl ha))
 obtain⟨⟨cls,dd,data,sl⟩,ho,hc,n,hd⟩:=id p1
 simp only at hc hd
 subst hc hd
 by_cases hk1:k=1
 . subst hk1
   refine wpAny_binaryOp_repeat_ref (T:="tuple") (U:="int") (by decide) ⟨_,ho,rfl⟩ (fun s'=>typeIs_int s' 1 t) xc F.fills_int_mul F.slot_int_rmul vL F.slot_int_index.lookup
    (call_meets F.slot_int_rmul (typeIs_int s 1 t) F.entry_int_rmul (F.args_int_rmul_2 _ _) (wK 1 t a its.toArray n dd sl)
     ⟨ho,rfl,⟨_,ho,rfl⟩,call_meets F.slot_tuple_mul ⟨_,ho,rfl⟩ F.entry_tuple_mul (F.args_tuple_mul_2 _ _) (kG a its.toArray n t dd sl) ⟨ho,?_⟩⟩)
   refine⟨.ref a,H,I,rfl,g a H (tJ.refl H) ?_⟩
   rw[ha];simp
 . have hne:¬its.toArray.isEmpty=true:=by
    simp
    intro e
    exact h3 (r.wV.mp e)
   have e0:k.toNat=0:=by omega
   refine wpAny_binaryOp_repeat_ref (T:="tuple") (U:="int") (by decide) ⟨_,ho,rfl⟩ (fun s'=>typeIs_int s' k t) xc F.fills_int_mul F.slot_int_rmul vL F.slot_int_index.lookup
    (call_meets F.slot_int_rmul (typeIs_int s k t) F.entry_int_rmul (F.args_int_rmul_2 _ _) (wK k t a its.toArray n dd sl)
     ⟨ho,rfl,⟨_,ho,rfl⟩,call_meets F.slot_tuple_mul ⟨_,ho,rfl⟩ F.entry_tuple_mul (F.args_tuple_mul_2 _ _) (kF a its.toArray n k t dd sl (by omega) h1 hne) ⟨ho,?_⟩⟩)
   rw[e0]at g
   refine⟨.ref s.heap.objs.size,_,I.laid (t':=s.toks) (o:=.tup []) (fun b ob q=>Heap.get?_push_of_some _ q) (Nat.le_refl _) ⟨Nat.zero_le _,[],.nil,uR.new _ _⟩,rfl,g.new _ (I.hok.fresh (Nat.le_refl _))⟩
noncomputable def lu(a b c:Int):List Int:=(List.range (Builtin.Range.rangeSize a b c).toNat).map fun(i:Nat)=>a+(i:Int)*c
end
end L2
end
section
namespace L2
open PySem PyProof PyProof.Rows
section
variable {X:Cx}
noncomputable def rh(d:Int):List Int→Int
 |[]=>d
 |n::ns=>ns.foldl (fun a b=>if b<a then b else a) n
theorem rM:∀(ns:List Int) (a:Int),ns.foldl (fun a b=>if b<a then b else a) a≤a∧(∀x∈ns,ns.foldl (fun a b=>if b<a then b else a) a≤x)∧(ns.foldl (fun a b=>if b<a then b else a) a=a∨ns.foldl (fun a b=>if b<a then b else a) a∈ns)
 |[],a=>⟨Int.le_refl _,fun _ h=>(nomatch h),.inl rfl⟩
 |n::ns,a=>by
  obtain⟨h1,h2,h3⟩:=rM ns (if n<a then n else a)
  show ns.foldl _ (if n<a then n else a)≤a∧_
  have hc:(if n<a then n else a)≤a∧(if n<a then n else a)≤n:=by split<;>omega
  refine⟨Int.le_trans h1 hc.1,fun x hx=>?_,?_⟩
  . rcases List.mem_cons.mp hx with e|hx
    . rw[e];exact Int.le_trans h1 hc.2
    . exact h2 x hx
  . rcases h3 with h3|h3
    . show ns.foldl _ (if n<a then n else a)=a∨ns.foldl _ (if n<a then n else a)∈n::ns
      rw[h3]
      split
      . exact .inr (List.mem_cons_self ..)
      . exact .inl rfl
    . exact .inr (List.mem_cons_of_mem _ h3)
theorem lO{d:Int}{ns:List Int}(h:ns≠[]):rh d ns∈ns∧∀x∈ns,rh d ns≤x:=by
 cases ns with
 |nil=>exact absurd rfl h
 |cons n ns=>
  obtain⟨h1,h2,h3⟩:=rM ns n
  refine⟨?_,fun x hx=>?_⟩
  . rcases h3 with h3|h3
    . show ns.foldl _ n∈_;rw[h3];exact List.mem_cons_self ..
    . exact List.mem_cons_of_mem _ h3
  . rcases List.mem_cons.mp hx with e|hx
    . rw[e];exact h1
    . exact h2 x hx
theorem fo{d M:Int}{ns:List Int}(h1:M∈ns)(h2:∀x∈ns,M≤x):rh d ns=M:=by
 have hne:ns≠[]:=fun e=>by rw[e]at h1;exact nomatch h1
 obtain⟨a,b⟩:=lO (d:=d) hne
 exact Int.le_antisymm (b _ h1) (h2 _ a)
noncomputable def ZK(K:PySem.W.Frag)(g:List Int→Int):List V→Hp→VK→Prop:=fun xs H Q=>∃(a:Addr) (ns:List Int),xs=[.ref a]∧SqL K H a (ns.map V.int)∧ns≠[]∧Q (.int (g ns)) H
theorem jv(hc:X.calm=true):yQ X (.builtin "max") (ZK X.K (wL 0)):=by
 intro pins s σ H xs us Q I r h
 obtain⟨a,ns,rfl,ha,hne,q⟩:=h
 obtain⟨u,rfl,ru⟩:=vals1 r
 cases ru
 obtain⟨its,rv,pl,hz⟩:=I.list ha
 have hlen:=rv.length
 have alt:a<s.heap.objs.size:=by obtain⟨o,ho,_⟩:=pl.isList;exact Heap.lt_size ho
 have hl:its.toArray.size=ns.length:=by rw[List.size_toArray,←hlen,List.length_map]
 have hpos:0<ns.length:=List.length_pos_iff.mpr hne
 have hat:∀(i:Nat) (v:Value),its.toArray[i]?=some v→∃t,v=.int (ns.getD i 0) t:=fun i v hv=>rv.ints (by simpa using hv)
 refine call_max_walk (wpAny_pyIter_list pl.isList ?_)
 refine⟨s.heap.objs.size,_,_,_,_,_,_,rfl,Walks.list (A:=X.A.in1) (I.ok.hd hc) s.heap.objs.size a (Nat.ne_of_lt alt) its.toArray,⟨⟨_,Heap.get?_push_size _ rfl,rfl,rfl⟩,?_⟩,fun b hb=>?_,by omega,CmpOf.ints_gt (fun i=>ns.getD i 0) hat,fun v h' tk hP hk=>?_⟩
 . obtain⟨o,ho,hc',n,hd⟩:=pl.isList
   exact⟨o,Heap.get?_push_of_some _ ho,hc',n,hd⟩
 . rw[Heap.size_push]
   simp only[List.mem_cons,List.not_mem_nil,or_false]at hb
   rcases hb with e|e
   . rw[e];exact Nat.lt_succ_self _
   . rw[e];exact Nat.lt_succ_of_lt alt
 . obtain⟨t,rfl⟩:=hat _ _ hP
   obtain⟨b1,b2⟩:=argBest_gt (fun i=>ns.getD i 0) (its.toArray.size-1)
   have e:wL 0 ns=ns.getD (argBest (fun i j=>decide (ns.getD i 0 > ns.getD j 0)) (its.toArray.size-1)) 0:=by
    refine ng ?_ fun x hx=>?_
    . have:argBest (fun i j=>decide (ns.getD i 0 > ns.getD j 0)) (its.toArray.size-1)<ns.length:=by omega
      rw[List.getD_eq_getElem?_getD,List.getElem?_eq_getElem this];exact List.getElem_mem this
    . obtain⟨i,hi,rfl⟩:=List.getElem_of_mem hx
      have:=b2 i (by omega)
      simpa [List.getD_eq_getElem?_getD,List.getElem?_eq_getElem hi] using this
   refine⟨.int (wL 0 ns),H,I.kept fun b o ho=>hk b o ?_ (Heap.get?_push_of_some _ ho),⟨t,by rw[e]⟩,q⟩
   simpa using Nat.ne_of_lt (Heap.lt_size ho)
theorem jy(hc:X.calm=true):yQ X (.builtin "min") (ZK X.K (rh 0)):=by
 intro pins s σ H xs us Q I r h
 obtain⟨a,ns,rfl,ha,hne,q⟩:=h
 obtain⟨u,rfl,ru⟩:=vals1 r
 cases ru
 obtain⟨its,rv,pl,hz⟩:=I.list ha
 have hlen:=rv.length
 have alt:a<s.heap.objs.size:=by obtain⟨o,ho,_⟩:=pl.isList;exact Heap.lt_size ho
 have hl:its.toArray.size=ns.length:=by rw[List.size_toArray,←hlen,List.length_map]
 have hpos:0<ns.length:=List.length_pos_iff.mpr hne
 have hat:∀(i:Nat) (v:Value),its.toArray[i]?=some v→∃t,v=.int (ns.getD i 0) t:=fun i v hv=>rv.ints (by simpa using hv)
 refine call_min_walk (wpAny_pyIter_list pl.isList ?_)
 refine⟨s.heap.objs.size,_,_,_,_,_,_,rfl,Walks.list (A:=X.A.in1) (I.ok.hd hc) s.heap.objs.size a (Nat.ne_of_lt alt) its.toArray,⟨⟨_,Heap.get?_push_size _ rfl,rfl,rfl⟩,?_⟩,fun b hb=>?_,by omega,CmpOf.ints_lt (fun i=>ns.getD i 0) hat,fun v h' tk hP hk=>?_⟩
 . obtain⟨o,ho,hc',n,hd⟩:=pl.isList
   exact⟨o,Heap.get?_push_of_some _ ho,hc',n,hd⟩
 . rw[Heap.size_push]
   simp only[List.mem_cons,List.not_mem_nil,or_false]at hb
   rcases hb with e|e
   . rw[e];exact Nat.lt_succ_self _
   . rw[e];exact Nat.lt_succ_of_lt alt
 . obtain⟨t,rfl⟩:=hat _ _ hP
   obtain⟨b1,b2⟩:=argBest_lt (fun i=>ns.getD i 0) (its.toArray.size-1)
   have e:rh 0 ns=ns.getD (argBest (fun i j=>decide (ns.getD i 0<ns.getD j 0)) (its.toArray.size-1)) 0:=by
    refine fo ?_ fun x hx=>?_
    . have:argBest (fun i j=>decide (ns.getD i 0<ns.getD j 0)) (its.toArray.size-1)<ns.length:=by omega
      rw[List.getD_eq_getElem?_getD,List.getElem?_eq_getElem this];exact List.getElem_mem this
    . obtain⟨i,hi,rfl⟩:=List.getElem_of_mem hx
      have:=b2 i (by omega)
      simpa [List.getD_eq_getElem?_getD,List.getElem?_eq_getElem hi] using this
   refine⟨.int (rh 0 ns),H,I.kept fun b o ho=>hk b o ?_ (Heap.get?_push_of_some _ ho),⟨t,by rw[e]⟩,q⟩
   simpa using Nat.ne_of_lt (Heap.lt_size ho)
end
end L2
namespace L2
open PySem
end L2
namespace L2
open PySem
end L2
end
section
namespace L2
open PySem PySem.W PySem.Calls PyProof PyProof.Rows
def Vv(K:PySem.W.Frag)(H:Hp)(ys:List V)(zs:List (Int × Int)):Prop:=ys.length=zs.length∧∀(i:Nat) (z:Int × Int),zs[i]?=some z→∃b,ys[i]?=some (V.ref b)∧SqT K H b [.int z.1,.int z.2]
noncomputable def z6(z:Int × Int):Int:=z.1*1000+z.2
theorem gX{a b:Int × Int}(ha:0≤a.2∧a.2<1000)(hb:0≤b.2∧b.2<1000):z6 a<z6 b↔a.1<b.1∨a.1=b.1∧a.2<b.2:=by
 unfold z6;omega
theorem pC{a b:Int × Int}(ha:0≤a.2∧a.2<1000)(hb:0≤b.2∧b.2<1000)(e:z6 a=z6 b):a=b:=by
 unfold z6 at e
 have h1:a.1=b.1:=by omega
 have h2:a.2=b.2:=by omega
 exact Prod.ext h1 h2
end L2
end
section
namespace L2
open PySem PySem.W PySem.Calls PyProof PyProof.Rows
section
variable {prog:Program}{w:World}{A:Around}{E:Value→Shared→Prop}{s:Shared}
theorem oq{l:Addr}{vs:List Value}{Q:Value→Shared→Prop}(hl:s.heap.IsList l vs.toArray)(h2:vs.length<2)
 (h:∀(h':Heap) (c:Nat),(∀b o,s.heap.get? b=some o→h'.get? b=some o)→h'.get? (s.heap.objs.size+1)=some (seqObj "list" vs.toArray c)→Q (.ref (s.heap.objs.size+1)) {s with heap:=h'}) :
 wpAny (model prog w) A (call (.builtin "sorted") [.ref l]) Q E s:=by
 refine Calls.call_function_entry kind_sorted plain_sorted entry_sorted (args_sorted1 _) ?_
 unfold Builtin.«sorted»
 refine wpAny_bind (m:=checkCount "sorted" 1 1 _) (wpAny_pure ?_)
 refine wpAny_bind (collect_list hl ?_ (by rw[sizeLine_eq];omega))
 refine wpAny_bind (wpAny_newList ?_ (by rw[sizeLine_eq];omega))
 have hsz:((s.heap.push (seqObj "list" #[] 0)).update s.heap.objs.size (Obj.mapSeq (·++vs.toArray))).objs.size=s.heap.objs.size+1:=by
  rw[Heap.size_update,size_push']
 have hoL:(((s.heap.push (seqObj "list" #[] 0)).update s.heap.objs.size (Obj.mapSeq (·++vs.toArray))).push (seqObj "list" vs.toArray 0)).get? (s.heap.objs.size+1)=some (seqObj "list" vs.toArray 0):=by
  rw[←hsz];exact Heap.get?_push_size _ rfl
 have keep:∀b o,s.heap.get? b=some o→(((s.heap.push (seqObj "list" #[] 0)).update s.heap.objs.size (Obj.mapSeq (·++vs.toArray))).push (seqObj "list" vs.toArray 0)).get? b=some o:=fun b o q=>by
  have hlt:b<s.heap.objs.size:=Heap.lt_size q
  rw[Heap.get?_push_ne _ _ _ (by rw[hsz];exact Nat.ne_of_lt (Nat.lt_succ_of_lt hlt)),Heap.get?_update_ne _ _ _ _ (Nat.ne_of_lt hlt),Heap.get?_push_ne _ _ _ (Nat.ne_of_lt hlt)]
  exact q
 show wpAny _ _ _ _ _ {s with heap:=((s.heap.push (seqObj "list" #[] 0)).update s.heap.objs.size (Obj.mapSeq (·++vs.toArray))).push (seqObj "list" vs.toArray 0)}
 rw[hsz]
 generalize hg:((s.heap.push (seqObj "list" #[] 0)).update s.heap.objs.size (Obj.mapSeq (·++vs.toArray))).push (seqObj "list" vs.toArray 0)=g at hoL keep ⊢
 refine wpAny_bind (wpAny_holding (wpAny_call_entry slot_list_sort ⟨_,hoL,rfl⟩ entry_list_sort ?body (args_list_sort _)))
 case body=>
  have ha:s.heap.objs.size+1<g.objs.size:=Heap.lt_size hoL
  rw[list_sort_plain]
  refine wpAny_bind (listItems_at hoL rfl ?_)
  refine wpAny_bind (listUpdate_at hoL rfl ?_ (by rw[List.size_toArray,sizeLine_eq];omega) (Nat.zero_le _))
  obtain⟨e1,ho1⟩:∃e1,(g.update (s.heap.objs.size+1) (Obj.mapSeq fun _=>(#[]:Array Value))).get? (s.heap.objs.size+1)=some (seqObj "list" #[] e1):=⟨_,get?_update_seq hoL fun _=>#[]⟩
  refine wpAny_bind (seqEpoch_at ho1 rfl ?_)
  refine wpAny_bind (wpAny_newTuple ?_ (by show vs.length≤_;rw[sizeLine_eq];omega))
  refine wpAny_bind (wpAny_newList ?_ (Nat.zero_le _))
  refine wpAny_holding ?_
  have ho6:(((g.update (s.heap.objs.size+1) (Obj.mapSeq fun _=>(#[]:Array Value))).push (seqObj "tuple" vs.toArray 0)).push (seqObj "list" #[] 0)).get? (s.heap.objs.size+1)=some (seqObj "list" #[] e1):=
   Heap.get?_push_of_some _ (Heap.get?_push_of_some _ ho1)
  show wpAny (model prog w) _ _ _ _ {s with heap:=((g.update (s.heap.objs.size+1) (Obj.mapSeq fun _=>(#[]:Array Value))).push (seqObj "tuple" vs.toArray 0)).push (seqObj "list" #[] 0)}
  dsimp only
  have h2':vs.toArray.size<2:=by rw[List.size_toArray];exact h2
  rw[if_pos h2',if_pos h2']
  refine wpAny_bind (wpAny_pure ?_)
  rw[StateT.run_pure]
  refine wpAny_bind (wpAny_pure ?_)
  dsimp only
  refine wpAny_bind (seqEpoch_at ho6 rfl ?_)
  have hout:(arrOf (SortSt.mk' general' (vs.toArray.zip vs.toArray) #[] 7 none)).map (·.2)=vs.toArray:=by
   show (vs.toArray.zip vs.toArray).map (·.2)=vs.toArray
   apply Array.toList_inj.mp
   simp[List.map_snd_zip]
  rw[hout]
  refine wpAny_bind (listUpdate_at ho6 rfl ?_ (Nat.zero_le _) (by rw[List.size_toArray,sizeLine_eq];omega))
  simp only[bne_self_eq_false,Bool.false_eq_true,if_false]
  refine wpAny_pure ⟨_,rfl,wpAny_pure ⟨_,rfl,?_⟩⟩
  have hc:=get?_update_seq ho6 fun _=>vs.toArray
  refine h _ _ (fun b o e=>?_) hc
  have hlt:b<s.heap.objs.size:=Heap.lt_size e
  have hb:b≠s.heap.objs.size+1:=Nat.ne_of_lt (Nat.lt_succ_of_lt hlt)
  rw[Heap.get?_update_ne _ _ _ _ hb]
  refine Heap.get?_push_of_some _ (Heap.get?_push_of_some _ ?_)
  rw[Heap.get?_update_ne _ _ _ _ hb]
  exact keep b o e
end
section
variable {P:Program}{w:World}{H:Hp}{h:Heap}{a:Addr}{o:HO}
theorem zy.got(x:zy P w H h a o):∃u,h.get? a=some u:=by
 cases o with
 |lst xs=>obtain⟨_,_,_,_,e⟩:=x;exact⟨_,e⟩
 |tup xs=>obtain⟨_,_,_,_,e,_⟩:=x;exact⟨_,e⟩
 |dK kvs=>obtain⟨_,_,_,_,o,_,_,e,_⟩:=x;exact⟨_,e⟩
 |dT kvs=>obtain⟨_,_,_,_,o,_,_,e,_⟩:=x;exact⟨_,e⟩
 |set S n=>obtain⟨o,_,_,_,e,_⟩:=x;exact⟨_,e⟩
 |ins C dx fs=>obtain⟨_,_,_,e,_⟩:=x;exact⟨_,e⟩
 |own y=>exact x
 |xd fs=>obtain⟨_,⟨_,_,_,e,_⟩,_⟩:=x;exact⟨_,e⟩
 |rng lo hi=>obtain⟨_,_,_,e⟩:=x;exact⟨_,e⟩
 |frz ob u=>obtain⟨e,_⟩:=x;exact⟨_,e⟩
 |tbl ps=>exact⟨_,x⟩
 |met f y=>exact⟨_,x⟩
 |ext φ=>exact x.2.1
end
end L2
end
section
namespace L2
open PySem PySem.W PySem.Calls PyProof PyProof.Rows
theorem pv{ys:List V}{its:List Value}(r:Vals ys its):∀(l:List Nat),(∀i∈l,i<ys.length)→Vals (l.map fun i=>ys.getD i .non) (l.map fun i=>its.getD i Value.none)
 |[],_=>.nil
 |i::l,h=>by
  have hi:i<ys.length:=h i (.head _)
  obtain⟨u,e,ru⟩:=r.get (i:=i) (x:=ys[i]) (by simp[hi])
  refine .cons ?_ (pv r l fun j hj=>h j (.tail _ hj))
  show RelV (ys.getD i .non) (its.getD i Value.none)
  rw[List.getD_eq_getElem?_getD,List.getD_eq_getElem?_getD,e]
  simp only[List.getElem?_eq_getElem hi,Option.getD_some]
  exact ru
section
variable {X:Cx}{pins:List (Addr × Obj)}{σ:St}{H:Hp}{s:Shared}
theorem iz{α:Type}(d:α){zs:List α}{l:List Nat}(h:l.Perm (List.range zs.length)):(l.map fun i=>zs.getD i d).Perm zs:=by
 have e:(List.range zs.length).map (fun i=>zs.getD i d)=zs:=by
  apply List.ext_getElem
  . simp
  . intro i h1 h2
    simp[List.getElem?_eq_getElem h2]
 exact(h.map _).trans (.of_eq e)
theorem Inv.mq{D:Addr}{ys:List V}{its:List Value}{c:Nat}{h':Heap}(I:Inv X pins σ H s)(hz:ys.length≤sizeLine)(r:Vals ys its)(hD:s.heap.get? D=none)(keep:∀b o,b≠X.env.locals→s.heap.get? b=some o→h'.get? b=some o)
 (ns:∀m,s.heap.Ns X.env.locals m→h'.Ns X.env.locals m) (e:h'.get? D=some {cls:=.type "list",data:=.seq its.toArray c}):H D=none∧Inv X pins σ (upd H D (.lst ys)) {s with heap:=h'}:=by
 have hn:H D=none:=by
  cases q:H D with
  |none=>rfl
  |some o=>
   obtain⟨u,hu⟩:=zy.got (I.hok D o q)
   rw[hD]at hu;cases hu
 have ne:∀b o,H b=some o→b≠D:=fun b o q z=>by rw[z,hn]at q;cases q
 have neo:∀b o,s.heap.get? b=some o→b≠D:=fun b o q z=>by rw[z,hD]at q;cases q
 refine⟨hn,I.step (g':=s.gens) (d':=s.drawn) (t':=s.toks) (ch:=[]) (fun _ z=>nomatch z) (fun b o hL _ _ q _=>keep b o hL q) (fun b o hL _ _ q _=>⟨o.slots,keep b o hL q⟩) (fun b o _ q n=>?_) (fun b o _ q=>?_) (fun b xs q=>?_) (fun b o u q=>?_) (fun b ps q=>?_) ns (fun b o q=>?_) I.bare⟩
 . rw[zQ (neo b o q)];exact n
 . by_cases hb:b=X.env.locals
   . subst hb
     obtain⟨m,hm,_⟩:=I.loc
     obtain⟨o',_,_,ho',_⟩:=ns m hm
     exact⟨o',ho'⟩
   . exact⟨o,keep b o hb q⟩
 . rw[zQ (ne b _ q)];exact q
 . rw[zQ (ne b _ q)];exact q
 . exact⟨#[],by rw[zQ (ne b _ q),q];simp⟩
 . by_cases hb:b=D
   . subst hb
     rw[zo]at q
     cases q
     exact⟨hz,its,c,r,e⟩
   . rw[zQ hb]at q
     refine(I.hok b o q).mX (fun x u hx hu=>keep x u ?_ hu) (fun x hx=>by rw[zQ (ne x _ hx)];exact hx) (fun x xs hx=>by rw[zQ (ne x _ hx)];exact hx)
     rcases hx with rfl|hx
     . intro z;rw[z,I.free]at q;cases q
     . intro z;rw[z,I.free]at hx;cases hx
end
end L2
end
section
namespace L2
open PySem PySem.W PySem.Calls PyProof PyProof.Rows Att
theorem pU{α:Type}{zs:List α}(d:α):(List.range zs.length).map (fun i=>zs.getD i d)=zs:=by
 apply List.ext_getElem
 . simp
 . intro i h1 h2
   simp[List.getElem?_eq_getElem h2]
theorem r9:∀{l l':List (Int × Int)},l.Pairwise (fun a b=>z6 a<z6 b)→l'.Pairwise (fun a b=>z6 a<z6 b)→(∀x,x∈l↔x∈l')→l=l'
 |[],[],_,_,_=>rfl
 |[],y::t',_,_,h=>by have:=(h y).mpr (.head _);cases this
 |x::t,[],_,_,h=>by have:=(h x).mp (.head _);cases this
 |x::t,y::t',h1,h2,h=>by
  rw[List.pairwise_cons]at h1 h2
  have exy:x=y:=by
   rcases List.mem_cons.mp ((h x).mp (.head _)) with e|m
   . exact e
   . rcases List.mem_cons.mp ((h y).mpr (.head _)) with e|m'
     . exact e.symm
     . have a:=h2.1 x m
       have b:=h1.1 y m'
       omega
  subst exy
  congr 1
  refine r9 h1.2 h2.2 fun a=>⟨fun m=>?_,fun m=>?_⟩
  . rcases List.mem_cons.mp ((h a).mp (.tail _ m)) with e|m'
    . have:=h1.1 a m
      rw[e]at this;omega
    . exact m'
  . rcases List.mem_cons.mp ((h a).mpr (.tail _ m)) with e|m'
    . have:=h2.1 a m
      rw[e]at this;omega
    . exact m'
end L2
end
section
namespace L2
open PySem PySem.W PySem.Calls PyProof PyProof.Rows
inductive vO:List Value→List Int→Prop
 |nil:vO [] []
 |cons {i:Int} {t:Tok} {us:List Value} {ns:List Int}:vO us ns→vO (.int i t::us) (i::ns)
theorem ZD:∀{ns:List Int} {us:List Value},Vals (ns.map V.int) us→vO us ns
 |[],_,.nil=>.nil
 |n::ns,_,.cons r rs=>by
  obtain⟨t,rfl⟩:=(show ∃t,_=Value.int n t from r)
  exact .cons (ZD rs)
def gK(K:PySem.W.Frag)(H:Hp)(ys:List V)(zs:List (List Int)):Prop:=ys.length=zs.length∧∀(i:Nat) (z:List Int),zs[i]?=some z→∃b,ys[i]?=some (V.ref b)∧SqT K H b (z.map V.int)
def TV(h:Heap)(its:List Value)(zs:List (List Int)):Prop:=
 its.length=zs.length∧∀(i:Nat) (z:List Int),zs[i]?=some z→∃b o n us,its[i]?=some (Value.ref b)∧h.get? b=some o∧o.cls=.type "tuple"∧o.data=.seq (List.toArray us) n∧vO us z
theorem gK.tv{X:Cx}{pins:List (Addr × Obj)}{σ:St}{H:Hp}{s:Shared}(I:Inv X pins σ H s){ys:List V}{its:List Value}{zs:List (List Int)}(h:gK X.K H ys zs)(r:Vals ys its):TV s.heap its zs:=by
 refine⟨by rw[←r.length];exact h.1,fun i z e=>?_⟩
 obtain⟨b,e1,e2⟩:=h.2 i z e
 obtain⟨u,e3,ru⟩:=r.get e1
 obtain⟨us,rt,⟨o,ho,hc,n,hd⟩,_⟩:=I.tuple e2
 have ru':u=Value.ref b:=ru
 subst ru'
 exact⟨b,o,n,us,e3,ho,hc,hd,ZD rt⟩
theorem TV.qM{h:Heap}:∀{its:List Value} {zs:List (List Int)},TV h its zs→(∀z∈zs,z≠[])→∃fs,KatTups h its fs∧fs.length=its.length∧∀v∈fs,∃i t,v=Value.int i t
 |[],[],_,_=>⟨[],KatTups.nil,rfl,fun _ x=>nomatch x⟩
 |[],_::_,⟨l,_⟩,_=>by cases l
 |_::_,[],⟨l,_⟩,_=>by cases l
 |v::its,z::zs,⟨l,f⟩,hn=>by
  obtain⟨b,o,n,us,e,ho,hc,hd,iv⟩:=f 0 z rfl
  have e':v=Value.ref b:=by simpa using e
  subst e'
  obtain⟨fs,k,kl,ki⟩:=TV.qM (h:=h) (its:=its) (zs:=zs) ⟨by simpa using l,fun i z' e=>by simpa using f (i+1) z' (by simpa using e)⟩ fun z' hz=>hn z' (.tail _ hz)
  cases iv with
  |nil=>exact absurd rfl (hn [] (.head _))
  |@cons i t us ns r=>
   refine⟨Value.int i t::fs,KatTups.cons ho hc hd (by simp) k,by simp[kl],fun v hv=>?_⟩
   rcases List.mem_cons.mp hv with rfl|hv
   . exact⟨_,_,rfl⟩
   . exact ki v hv
theorem pE{us:List Value}{ns:List Int}(h:vO us ns):us.length=ns.length:=by
 induction h with
 |nil=>rfl
 |cons _ ih=>simp[ih]
end L2
end
section
namespace L2.Tim
open PySem PySem.W PySem.Calls PyProof PyProof.Rows
section
variable {prog:Program}{w:World}{A:Around}{E:Value→Shared→Prop}{s:Shared}{κ:SortKind}{a₀:Array Keyed}{key:Keyed→Int}
noncomputable def kk(key:Keyed→Int)(a:Array Keyed)(i:Nat):Int:=key (a.getD i (Value.none,Value.none))
def SIn(key:Keyed→Int)(a:Array Keyed)(lo n:Nat):Prop:=∀i j,i≤j→j<n→kk key a (lo+i)≤kk key a (lo+j)
def NIn(key:Keyed→Int)(a:Array Keyed)(lo n:Nat):Prop:=∀i j,i≤j→j<n→kk key a (lo+j)≤kk key a (lo+i)
def Pre(lo:Nat)(a b:Array Keyed):Prop:=∀i,i<lo→b[i]?=a[i]?
theorem Pre.refl{lo:Nat}{a:Array Keyed}:Pre lo a a:=fun _ _=>rfl
theorem Pre.trans{lo:Nat}{a b c:Array Keyed}(h:Pre lo a b)(k:Pre lo b c):Pre lo a c:=fun i hi=>(k i hi).trans (h i hi)
structure Bs(κ:SortKind)(a₀:Array Keyed)(st:SortSt):Prop where
 kind:kindOf st=κ
 perm:(arrOf st).Perm a₀
 fail:failedOf st=none
theorem Bs.size{st:SortSt}(h:Bs κ a₀ st):(arrOf st).size=a₀.size:=h.perm.size_eq
theorem Bs.set{st:SortSt}{xs:Array Keyed}(h:Bs κ a₀ st)(hp:xs.Perm (arrOf st)):Bs κ a₀ (setArr st xs):=⟨h.kind,hp.trans h.perm,h.fail⟩
def sr(prog:Program)(w:World)(A:Around)(E:Value→Shared→Prop)(s:Shared)(κ:SortKind)(a₀:Array Keyed)(key:Keyed→Int):Prop:=
 ∀(x y:Keyed) (st:SortSt) (Q:Option Bool→SortSt→Prop),x∈a₀.toList→y∈a₀.toList→kindOf st=κ→Q (some (decide (key x<key y))) st→wpS (model prog w) A E s (lt' x y) Q st
theorem xN{a b:Array Keyed}{i j:Nat}(h:a[i]?=b[j]?):kk key a i=kk key b j:=by
 unfold kk;rw[Array.getD_eq_getD_getElem?,Array.getD_eq_getD_getElem?,h]
theorem Bs.at{st:SortSt}(h:Bs κ a₀ st){i:Nat}(hi:i<a₀.size):∃x,(arrOf st)[i]?=some x∧x∈a₀.toList∧kk key (arrOf st) i=key x:=by
 have hi':i<(arrOf st).size:=by rw[h.size];exact hi
 refine⟨(arrOf st)[i],by simp[hi'],?_,?_⟩
 . exact(Array.perm_iff_toList_perm.mp h.perm).mem_iff.mp (by simp)
 . unfold kk;simp[Array.getD,hi']
theorem zu{arr:Array Keyed}{i:Nat}{x:Keyed}{st:SortSt}{Q:Keyed→SortSt→Prop}(h:arr[i]?=some x)(q:Q x st):wpS (model prog w) A E s (elem' arr i) Q st:=by
 rw[elem'_eq,h];exact wpS_pure q
theorem me(L:sr prog w A E s κ a₀ key){st:SortSt}{i j:Nat}{Q:Option Bool→SortSt→Prop}(hB:Bs κ a₀ st)(hi:i<a₀.size)(hj:j<a₀.size)
 (h:Q (some (decide (kk key (arrOf st) i<kk key (arrOf st) j))) st):wpS (model prog w) A E s (ltAt' i j) Q st:=by
 obtain⟨x,e1,m1,k1⟩:=hB.at (key:=key) hi
 obtain⟨y,e2,m2,k2⟩:=hB.at (key:=key) hj
 rw[ltAt'_eq]
 refine wpS_bind (wpS_get ?_)
 refine wpS_bind (zu e1 (wpS_bind (zu e2 ?_)))
 rw[k1,k2]at h
 exact L x y st Q m1 m2 hB.kind h
theorem pK{xs:Array Keyed}{i j:Nat}(hj:j≤xs.size)(k:Nat):kk key (mirror xs i j ((j-i)/2)) k=if i≤k∧k<j then kk key xs (i+j-1-k) else kk key xs k:=by
 have e:=getElem?_mirror_all (i:=i) hj k
 by_cases h1:i≤k∧k<j
 . rw[if_pos h1]at e ⊢;exact xN e
 . rw[if_neg h1]at e ⊢;exact xN e
theorem lq{xs:Array Keyed}{lo i j:Nat}(hj:j≤xs.size)(hi:lo≤i):Pre lo xs (mirror xs i j ((j-i)/2)):=fun k hk=>by
 rw[getElem?_mirror_all (i:=i) hj k,if_neg (by omega)]
theorem pJ{xs:Array Keyed}{src d:Nat}(hs:src<xs.size)(hd:d≤src)(k:Nat):kk key (bubble xs src d) k=if k=src-d then kk key xs src else if src-d<k∧k≤src then kk key xs (k-1) else kk key xs k:=by
 have e:=getElem?_bubble hs d hd k
 by_cases h1:k=src-d
 . rw[if_pos h1]at e ⊢;exact xN e
 . rw[if_neg h1]at e ⊢
   by_cases h2:src-d<k∧k≤src
   . rw[if_pos h2]at e ⊢;exact xN e
   . rw[if_neg h2]at e ⊢;exact xN e
theorem Xv{st:SortSt}{i j:Nat}{Q:Unit→SortSt→Prop}(h:Q () (setArr st (mirror (arrOf st) i j ((j-i)/2)))):wpS (model prog w) A E s (reverseSlice' i j) Q st:=by
 rw[reverseSlice'_eq];exact wpS_modify h
theorem Xu(L:sr prog w A E s κ a₀ key){st:SortSt}{lo n ok:Nat}{Q:Bool→SortSt→Prop}(hn:lo+n≤a₀.size)(hok:ok≤n)(hB:Bs κ a₀ st)(hs:SIn key (arrOf st) lo ok)
 (h:∀st',Bs κ a₀ st'→Pre lo (arrOf st) (arrOf st')→pendingOf st'=pendingOf st→SIn key (arrOf st') lo n→Q true st'):wpS (model prog w) A E s (binarySort' lo n ok) Q st:=by
 rw[binarySort'_eq]
 refine wpS_bind (wpS_mono (wpS_forRange (I:=fun k c st'=>c=(none,())∧Bs κ a₀ st'∧Pre lo (arrOf st) (arrOf st')∧pendingOf st'=pendingOf st∧SIn key (arrOf st') lo (min k n))
  (Q:=fun c st'=>c=(none,())∧Bs κ a₀ st'∧Pre lo (arrOf st) (arrOf st')∧pendingOf st'=pendingOf st∧SIn key (arrOf st') lo n) ?step ?fin ?init) ?post)
 case post=>
  rintro c st' ⟨rfl,hB',hp,hpe,hs'⟩
  exact wpS_pure (h st' hB' hp hpe hs')
 case init=>
  refine⟨rfl,hB,.refl,rfl,fun i j hij hj=>?_⟩
  by_cases h1:ok=0
  . have:i=j:=by omega
    subst this;exact Int.le_refl _
  . exact hs i j hij (by omega)
 case fin=>
  rintro c st' ⟨hc,hB',hp,hpe,hs'⟩
  refine⟨hc,hB',hp,hpe,?_⟩
  rwa [show min (max (max ok 1) n) n=n by omega]at hs'
 case step=>
  rintro k c st' hak hkn ⟨rfl,hB',hp,hpe,hs'⟩
  rw[show min k n=k by omega]at hs'
  have hk:lo+k<a₀.size:=by omega
  refine wpS_bind (wpS_mono (wpS_forRange (I:=fun x c st''=>st''=st'∧∃l r,c=(none,l,r)∧l≤r∧r≤k∧r-l≤k-x ∧
   (∀i,i<l→kk key (arrOf st') (lo+i)≤kk key (arrOf st') (lo+k))∧(∀i,r≤i→i<k→kk key (arrOf st') (lo+k)<kk key (arrOf st') (lo+i)))
   (Q:=fun c st''=>st''=st'∧∃l r,c=(none,l,r)∧l≤k ∧
    (∀i,i<l→kk key (arrOf st') (lo+i)≤kk key (arrOf st') (lo+k))∧(∀i,l≤i→i<k→kk key (arrOf st') (lo+k)<kk key (arrOf st') (lo+i))) ?istep ?ifin ?iinit) ?ipost)
  case iinit=>exact⟨rfl,0,k,rfl,by omega,by omega,by omega,fun i hi=>by omega,fun i h1 h2=>by omega⟩
  case ifin=>
   rintro c st'' ⟨rfl,l,r,rfl,hlr,hrk,hm,hlo,hhi⟩
   have:l=r:=by omega
   subst this
   exact⟨rfl,l,l,rfl,hrk,hlo,hhi⟩
  case istep=>
   rintro x c st'' _ hxk ⟨rfl,l,r,rfl,hlr,hrk,hm,hlo,hhi⟩
   dsimp only
   by_cases hge:l ≥ r
   . rw[if_pos hge]
     have:l=r:=by omega
     subst this
     exact wpS_pure ⟨rfl,l,l,rfl,hrk,hlo,hhi⟩
   . rw[if_neg hge]
     refine wpS_bind (me L hB' hk (by omega) ?_)
     by_cases hless:kk key (arrOf st'') (lo+k)<kk key (arrOf st'') (lo+(l+r)/2)
     . simp only[hless,decide_true,if_true]
       refine wpS_pure ⟨rfl,l,(l+r)/2,rfl,by omega,by omega,by omega,hlo,fun i h1 h2=>?_⟩
       exact Int.lt_of_lt_of_le hless (hs' _ _ h1 h2)
     . simp only[hless,decide_false,Bool.false_eq_true,if_false]
       refine wpS_pure ⟨rfl,(l+r)/2+1,r,rfl,by omega,by omega,by omega,fun i h1=>?_,hhi⟩
       exact Int.le_trans (hs' i ((l+r)/2) (by omega) (by omega)) (Int.not_lt.mp hless)
  case ipost=>
   rintro c st'' ⟨rfl,l,r,rfl,hlk,hlo,hhi⟩
   show wpS _ _ _ _ (do moveDown' (lo+k) (lo+l);pure (ForInStep.yield (none,()))) _ _
   rw[moveDown'_eq]
   have hks:lo+k<(arrOf st'').size:=by rw[hB'.size];exact hk
   refine wpS_bind (wpS_modify (wpS_pure ⟨rfl,hB'.set (bubble_perm _ _ _),hp.trans fun i hi=>?_,hpe,?_⟩))
   . show (bubble (arrOf st'') (lo+k) (lo+k-(lo+l)))[i]?=_
     rw[getElem?_bubble hks _ (by omega),if_neg (by omega),if_neg (by omega)]
   rw[show min (k+1) n=k+1 by omega]
   intro i j hij hj
   show kk key (bubble (arrOf st'') (lo+k) (lo+k-(lo+l))) (lo+i)≤kk key (bubble (arrOf st'') (lo+k) (lo+k-(lo+l))) (lo+j)
   rw[pJ hks (by omega),pJ hks (by omega),show lo+k-(lo+k-(lo+l))=lo+l by omega]
   have e1:lo+i-1=lo+(i-1)∨i=0:=by omega
   have e2:lo+j-1=lo+(j-1)∨j=0:=by omega
   repeat' split
   all_goals first
    |(exfalso;omega)
    |exact Int.le_refl _
    |(rcases e1 with e1|e1<;>rcases e2 with e2|e2<;>first|(exfalso;omega)|(simp only[e1,e2];first|exact Int.le_refl _|exact hlo _ (by omega)|exact Int.le_of_lt (hhi _ (by omega) (by omega))|exact hs' _ _ (by omega) (by omega)))
    |exact hlo _ (by omega)
    |exact Int.le_of_lt (hhi _ (by omega) (by omega))
    |exact hs' _ _ (by omega) (by omega)
end
end L2.Tim
end
section
namespace L2.Tim
open PySem PySem.W PySem.Calls PyProof PyProof.Rows
section
variable {prog:Program}{w:World}{A:Around}{E:Value→Shared→Prop}{s:Shared}{κ:SortKind}{a₀:Array Keyed}{key:Keyed→Int}
def Dis(key:Keyed→Int)(a₀:Array Keyed):Prop:=∀a:Array Keyed,a.Perm a₀→∀i j,i<a₀.size→j<a₀.size→i≠j→kk key a i≠kk key a j
theorem d0(L:sr prog w A E s κ a₀ key)(D:Dis key a₀){st:SortSt}{lo nrem:Nat}{Q:Option Nat→SortSt→Prop}(hn:lo+nrem≤a₀.size)(h1:1≤nrem)(hB:Bs κ a₀ st)
 (h:∀m st',Bs κ a₀ st'→Pre lo (arrOf st) (arrOf st')→pendingOf st'=pendingOf st→1≤m→m≤nrem→SIn key (arrOf st') lo m→Q (some m) st') :
 wpS (model prog w) A E s (countRun' lo nrem) Q st:=by
 rw[countRun'_eq]
 have asc:∀(a:Nat) (st1:SortSt) (Q':Option (Option Nat) × Nat→SortSt→Prop) (body:Nat→Option (Option Nat) × Nat→StateT SortSt Sem (ForInStep (Option (Option Nat) × Nat))),1≤a→a≤nrem→Bs κ a₀ st1→SIn key (arrOf st1) lo a →
  (∀i c,body i c=(do
   let __x ←ltAt' (lo+c.snd) (lo+c.snd-1)
   match __x with
   |some smaller=>if smaller=true then pure (ForInStep.done (none,c.snd)) else pure (ForInStep.yield (none,c.snd+1))
   |_=>pure (ForInStep.done (some none,c.snd)))) →
  (∀n,a≤n→n≤nrem→SIn key (arrOf st1) lo n→(n=nrem∨kk key (arrOf st1) (lo+n)<kk key (arrOf st1) (lo+n-1))→Q' (none,n) st1) →
  wpS (model prog w) A E s (forIn [a:nrem] ((none,a):Option (Option Nat) × Nat) body) Q' st1:=by
  intro a st1 Q' body ha han hB1 hs1 hb hq
  refine wpS_forRange (I:=fun x c st'=>st'=st1∧c=(none,x)∧SIn key (arrOf st1) lo x) ?step ?fin ⟨rfl,rfl,hs1⟩
  case fin=>
   rintro c st' ⟨rfl,rfl,hs'⟩
   rw[show max a nrem=nrem by omega]at hs' ⊢
   exact hq nrem han (Nat.le_refl _) hs' (.inl rfl)
  case step=>
   rintro x c st' hax hxn ⟨rfl,rfl,hs'⟩
   rw[hb]
   dsimp only
   refine wpS_bind (me L hB1 (by omega) (by omega) ?_)
   by_cases hless:kk key (arrOf st') (lo+x)<kk key (arrOf st') (lo+x-1)
   . simp only[hless,decide_true,if_true]
     exact wpS_pure (hq x hax (by omega) hs' (.inr hless))
   . simp only[hless,decide_false,Bool.false_eq_true,if_false]
     refine wpS_pure ⟨rfl,rfl,fun i j hij hj=>?_⟩
     by_cases hjx:j<x
     . exact hs' i j hij hjx
     . have hj':j=x:=by omega
       subst hj'
       by_cases hi':i=j
       . subst hi';exact Int.le_refl _
       . rw[show lo+j-1=lo+(j-1) by omega]at hless
         exact Int.le_trans (hs' i (j-1) (by omega) (by omega)) (Int.not_lt.mp hless)
 refine wpS_bind (asc 1 st _ _ (Nat.le_refl _) h1 hB (fun i j hij hj=>by cases (show i=j by omega);exact Int.le_refl _) (fun i c=>rfl) fun n hn1 hn2 hsn hor=>?_)
 dsimp only
 by_cases hnn:n=nrem
 . rw[if_pos (by simpa using hnn)]
   exact wpS_pure (h n st hB .refl rfl hn1 hn2 hsn)
 . rw[if_neg (by simpa using hnn)]
   have hlt:kk key (arrOf st) (lo+n)<kk key (arrOf st) (lo+n-1):=hor.resolve_left hnn
   by_cases hgt:n > 1
   . rw[if_pos hgt]
     refine wpS_bind (me L hB (by omega) (by omega) ?_)
     have hrose:kk key (arrOf st) lo<kk key (arrOf st) (lo+n-1):=by
      have a1:=hsn 0 (n-1) (by omega) (by omega)
      rw[Nat.add_zero,show lo+(n-1)=lo+n-1 by omega]at a1
      have a2:=D _ hB.perm lo (lo+n-1) (by omega) (by omega) (by omega)
      omega
     simp only[hrose,decide_true,if_true]
     exact wpS_pure (h n st hB .refl rfl hn1 hn2 hsn)
   . rw[if_neg hgt]
     have hn1':n=1:=by omega
     subst hn1'
     refine wpS_bind (wpS_lift (wpAny_rule ⟨rfl,?_⟩))
     refine wpS_bind (wpS_mono (wpS_forRange (I:=fun x c st'=>st'=st∧c=(none,x,0)∧NIn key (arrOf st) lo x) (Q:=fun c st'=>st'=st∧∃m,2≤m∧m≤nrem∧c=(none,m,0)∧NIn key (arrOf st) lo m) ?step ?fin ⟨rfl,rfl,?_⟩) ?post)
     case fin=>
      rintro c st' ⟨rfl,rfl,hs'⟩
      exact⟨rfl,max (1+1) nrem,by omega,by omega,rfl,hs'⟩
     case step=>
      rintro x c st' hax hxn ⟨rfl,rfl,hs'⟩
      dsimp only
      refine wpS_bind (me L hB (by omega) (by omega) ?_)
      by_cases hless:kk key (arrOf st') (lo+x)<kk key (arrOf st') (lo+x-1)
      . simp only[hless,decide_true,if_true]
        rw[if_neg (by omega)]
        refine wpS_pure ⟨rfl,rfl,fun i j hij hj=>?_⟩
        by_cases hjx:j<x
        . exact hs' i j hij hjx
        . have hj':j=x:=by omega
          subst hj'
          by_cases hi':i=j
          . subst hi';exact Int.le_refl _
          . rw[show lo+j-1=lo+(j-1) by omega]at hless
            exact Int.le_trans (Int.le_of_lt hless) (hs' i (j-1) (by omega) (by omega))
      . simp only[hless,decide_false,Bool.false_eq_true,if_false]
        refine wpS_bind (me L hB (by omega) (by omega) ?_)
        have hl:kk key (arrOf st') (lo+x-1)<kk key (arrOf st') (lo+x):=by
         have:=D _ hB.perm (lo+x) (lo+x-1) (by omega) (by omega) (by omega)
         omega
        simp only[hl,decide_true,if_true]
        exact wpS_pure ⟨rfl,x,by omega,by omega,rfl,hs'⟩
     . intro i j hij hj
       by_cases hi':i=j
       . subst hi';exact Int.le_refl _
       . have hi0:i=0:=by omega
         have hj1:j=1:=by omega
         subst hi0;subst hj1
         rw[show lo+1-1=lo+0 by omega]at hlt
         exact Int.le_of_lt hlt
     case post=>
      rintro c st' ⟨rfl,m,hm2,hmn,rfl,hs'⟩
      dsimp only
      rw[if_neg (by omega)]
      refine wpS_bind (Xv ?_)
      have hsz:lo+m≤(arrOf st').size:=by rw[hB.size];omega
      have hB':=hB.set (mirror_perm (arrOf st') lo (lo+m) ((lo+m-lo)/2))
      refine wpS_bind (asc m _ _ _ (by omega) hmn hB' ?_ (fun i c=>rfl) fun k hk1 hk2 hsk _=>?_)
      . intro i j hij hj
        show kk key (mirror (arrOf st') lo (lo+m) ((lo+m-lo)/2)) (lo+i)≤kk key (mirror (arrOf st') lo (lo+m) ((lo+m-lo)/2)) (lo+j)
        rw[pK hsz,pK hsz,if_pos (by omega),if_pos (by omega)]
        have:=hs' (m-1-j) (m-1-i) (by omega) (by omega)
        rwa [show lo+(m-1-j)=lo+(lo+m)-1-(lo+j) by omega,show lo+(m-1-i)=lo+(lo+m)-1-(lo+i) by omega]at this
      . exact wpS_pure (h k _ hB' (lq hsz (Nat.le_refl _)) rfl (by omega) hk2 hsk)
end
end L2.Tim
end
section
namespace L2.Tim
open PySem PySem.W PySem.Calls PyProof PyProof.Rows
section
variable {prog:Program}{w:World}{A:Around}{E:Value→Shared→Prop}{s:Shared}{κ:SortKind}{a₀:Array Keyed}{key:Keyed→Int}
noncomputable def kz:Bool→Keyed→Array Keyed→Nat→Nat→Nat→StateT SortSt Sem (Option Nat):=sortPriv% PySem.Builtin.gallop
def Cut(a₀:Array Keyed)(key:Keyed→Int)(left:Bool)(x:Keyed)(arr:Array Keyed)(base n k0:Nat):Prop:=
 ∀i,i<n→∃y,arr[base+i]?=some y∧y∈a₀.toList∧(if left=true then decide (key y<key x) else !decide (key x<key y))=decide (i<k0)
theorem vA(L:sr prog w A E s κ a₀ key){left:Bool}{x:Keyed}{arr:Array Keyed}{base n k0 i:Nat}(hc:Cut a₀ key left x arr base n k0)(hx:x∈a₀.toList){st:SortSt}(hk:kindOf st=κ)(hi:i<n){Q:Option Bool→SortSt→Prop}(h:Q (some (decide (i<k0))) st)
 {m:StateT SortSt Sem (Option Bool)} (hm:m=(elem' arr (base+i) >>= fun y=>if left=true then lt' y x else lt' x y >>= fun r=>pure (r.map (!·)))):wpS (model prog w) A E s m Q st:=by
 obtain⟨y,e1,e2,e3⟩:=hc i hi
 rw[hm]
 refine wpS_bind (zu e1 ?_)
 cases left with
 |true=>
  rw[if_pos rfl]at e3 ⊢
  refine L y x st _ e2 hx hk ?_
  rw[e3];exact h
 |false=>
  rw[if_neg Bool.false_ne_true]at e3 ⊢
  refine wpS_bind (L x y st _ hx e2 hk (wpS_pure ?_))
  show Q (some (!decide (key x<key y))) st
  rw[e3];exact h
theorem p0{n k0:Nat}{st:SortSt}{body:Nat→Option (Option Nat) × Nat × Nat→StateT SortSt Sem (ForInStep (Option (Option Nat) × Nat × Nat))}
 (h1:∀i lo hi (Q':ForInStep (Option (Option Nat) × Nat × Nat)→SortSt→Prop),lo ≥ hi→Q' (.done (none,lo,hi)) st→wpS (model prog w) A E s (body i (none,lo,hi)) Q' st)
 (h2:∀i lo hi (Q':ForInStep (Option (Option Nat) × Nat × Nat)→SortSt→Prop),lo<hi→hi≤n→Q' (if lo+(hi-lo)/2<k0 then .yield (none,lo+(hi-lo)/2+1,hi) else .yield (none,lo,lo+(hi-lo)/2)) st→wpS (model prog w) A E s (body i (none,lo,hi)) Q' st)
 {lo hi:Nat} (a1:lo≤k0) (a2:k0≤hi) (a3:hi≤n) {Q:Option (Option Nat) × Nat × Nat→SortSt→Prop} (q:∀l,Q (none,l,k0) st):wpS (model prog w) A E s (forIn [:n] ((none,lo,hi):Option (Option Nat) × Nat × Nat) body) Q st:=by
 refine wpS_forRange (I:=fun x c st'=>st'=st∧∃lo hi,c=(none,lo,hi)∧lo≤k0∧k0≤hi∧hi≤n∧hi-lo≤n-x) ?step ?fin ⟨rfl,lo,hi,rfl,a1,a2,a3,by omega⟩
 case fin=>
  rintro c st' ⟨rfl,lo,hi,rfl,b1,b2,b3,b4⟩
  have:hi=k0:=by omega
  subst this;exact q lo
 case step=>
  rintro x c st' _ hx ⟨rfl,lo,hi,rfl,b1,b2,b3,b4⟩
  by_cases hge:lo ≥ hi
  . refine h1 x lo hi _ hge ?_
    have:hi=k0:=by omega
    subst this;exact q lo
  . refine h2 x lo hi _ (by omega) b3 ?_
    by_cases hm:lo+(hi-lo)/2<k0
    . rw[if_pos hm]
      exact⟨rfl,_,_,rfl,by omega,by omega,by omega,by omega⟩
    . rw[if_neg hm]
      exact⟨rfl,_,_,rfl,by omega,by omega,by omega,by omega⟩
theorem wI(L:sr prog w A E s κ a₀ key){left:Bool}{x:Keyed}{arr:Array Keyed}{base n hint k0:Nat}(hh:hint<n)(h0:k0≤n)(hc:Cut a₀ key left x arr base n k0)(hx:x∈a₀.toList){st:SortSt}(hk:kindOf st=κ){Q:Option Nat→SortSt→Prop}(h:Q (some k0) st) :
 wpS (model prog w) A E s (kz left x arr base n hint) Q st:=by
 unfold kz
 refine wpS_bind (vA L hc hx hk hh ?_ rfl)
 by_cases hr:hint<k0
 . rw[decide_eq_true hr]
   dsimp only
   rw[if_pos rfl]
   refine wpS_bind (wpS_mono (wpS_forRange (I:=fun y c st'=>st'=st∧∃la o,c=(none,la,o)∧la<o∧hint+la<k0∧y<o) (Q:=fun c st'=>st'=st∧∃la o,c=(none,la,o)∧hint+la<k0∧k0≤hint+min o (n-hint)) ?step ?fin ⟨rfl,0,1,rfl,by omega,by omega,by omega⟩) ?post)
   case fin=>
    rintro c st' ⟨rfl,la,o,rfl,b1,b2,b3⟩
    exact⟨rfl,la,o,rfl,b2,by omega⟩
   case step=>
    rintro y c st' _ hy ⟨rfl,la,o,rfl,b1,b2,b3⟩
    dsimp only
    by_cases hge:o ≥ n-hint
    . rw[if_pos hge]
      exact wpS_pure ⟨rfl,la,o,rfl,b2,by omega⟩
    . rw[if_neg hge]
      refine wpS_bind (vA L hc hx hk (show hint+o<n by omega) ?_ rfl)
      by_cases hm:hint+o<k0
      . rw[decide_eq_true hm]
        dsimp only
        rw[if_neg (by simp)]
        exact wpS_pure ⟨rfl,o,2*o+1,rfl,by omega,hm,by omega⟩
      . rw[decide_eq_false hm]
        dsimp only
        rw[if_pos (by simp)]
        exact wpS_pure ⟨rfl,la,o,rfl,b2,by omega⟩
   case post=>
    rintro c st' ⟨rfl,la,o,rfl,b1,b2⟩
    dsimp only
    refine wpS_bind (p0 (n:=n) (k0:=k0) (fun i lo hi Q' hge q=>?_) (fun i lo hi Q' hl hn q=>?_) (by omega) b2 (by omega) fun l=>wpS_pure h)
    . dsimp only
      rw[if_pos hge]
      exact wpS_pure q
    . dsimp only
      rw[if_neg (by omega)]
      refine wpS_bind (vA L hc hx hk (show lo+(hi-lo)/2<n by omega) ?_ rfl)
      by_cases hm:lo+(hi-lo)/2<k0
      . rw[decide_eq_true hm];rw[if_pos hm]at q
        dsimp only
        rw[if_pos rfl];exact wpS_pure q
      . rw[decide_eq_false hm];rw[if_neg hm]at q
        dsimp only
        rw[if_neg Bool.false_ne_true];exact wpS_pure q
 . rw[decide_eq_false hr]
   dsimp only
   rw[if_neg Bool.false_ne_true]
   refine wpS_bind (wpS_mono (wpS_forRange (I:=fun y c st'=>st'=st∧∃la o,c=(none,la,o)∧la<o∧k0≤hint-la∧y<o∧la≤hint) (Q:=fun c st'=>st'=st∧∃la o,c=(none,la,o)∧k0≤hint-la∧hint+1-min o (hint+1)≤k0) ?step ?fin ⟨rfl,0,1,rfl,by omega,by omega,by omega,by omega⟩) ?post)
   case fin=>
    rintro c st' ⟨rfl,la,o,rfl,b1,b2,b3,b4⟩
    exact⟨rfl,la,o,rfl,b2,by omega⟩
   case step=>
    rintro y c st' _ hy ⟨rfl,la,o,rfl,b1,b2,b3,b4⟩
    dsimp only
    by_cases hge:o ≥ hint+1
    . rw[if_pos hge]
      exact wpS_pure ⟨rfl,la,o,rfl,b2,by omega⟩
    . rw[if_neg hge]
      refine wpS_bind (vA L hc hx hk (show hint-o<n by omega) ?_ rfl)
      by_cases hm:hint-o<k0
      . rw[decide_eq_true hm]
        dsimp only
        rw[if_pos rfl]
        exact wpS_pure ⟨rfl,la,o,rfl,b2,by omega⟩
      . rw[decide_eq_false hm]
        dsimp only
        rw[if_neg Bool.false_ne_true]
        exact wpS_pure ⟨rfl,o,2*o+1,rfl,by omega,by omega,by omega,by omega⟩
   case post=>
    rintro c st' ⟨rfl,la,o,rfl,b1,b2⟩
    dsimp only
    refine wpS_bind (p0 (n:=n) (k0:=k0) (fun i lo hi Q' hge q=>?_) (fun i lo hi Q' hl hn q=>?_) b2 b1 (by omega) fun l=>wpS_pure h)
    . dsimp only
      rw[if_pos hge]
      exact wpS_pure q
    . dsimp only
      rw[if_neg (by omega)]
      refine wpS_bind (vA L hc hx hk (show lo+(hi-lo)/2<n by omega) ?_ rfl)
      by_cases hm:lo+(hi-lo)/2<k0
      . rw[decide_eq_true hm];rw[if_pos hm]at q
        dsimp only
        rw[if_pos rfl];exact wpS_pure q
      . rw[decide_eq_false hm];rw[if_neg hm]at q
        dsimp only
        rw[if_neg Bool.false_ne_true];exact wpS_pure q
end
end L2.Tim
end
section
namespace L2.Tim
open PySem PySem.W PySem.Calls PyProof PyProof.Rows
section
variable {prog:Program}{w:World}{A:Around}{E:Value→Shared→Prop}{s:Shared}{κ:SortKind}{a₀:Array Keyed}{key:Keyed→Int}
def Srt(key:Keyed→Int)(l:List Keyed):Prop:=l.Pairwise fun x y=>key x≤key y
theorem ou{o p q r:List Keyed}(h1:Srt key (o++(p++q)))(h2:Srt key (o++r))(h:∀u∈p,∀v∈r,key u≤key v):Srt key ((o++p)++r):=by
 unfold Srt at *
 rw[List.pairwise_append]at h1 h2 ⊢
 have h3:=List.pairwise_append.mp h1.2.1
 refine⟨List.pairwise_append.mpr ⟨h1.1,h3.1,fun a ha b hb=>h1.2.2 a ha b (List.mem_append_left _ hb)⟩,h2.2.1,fun a ha b hb=>?_⟩
 rcases List.mem_append.mp ha with ha|ha
 . exact h2.2.2 a ha b hb
 . exact h a ha b hb
structure Mg(key:Keyed→Int)(X Y:List Keyed)(out:Array Keyed)(ia ib:Nat):Prop where
 sx:Srt key (out.toList++X.drop ia)
 sy:Srt key (out.toList++Y.drop ib)
 pm:out.toList.Perm (X.take ia++Y.take ib)
theorem Mg.pV{X Y:List Keyed}{out:Array Keyed}{ia ib:Nat}{y:Keyed}(h:Mg key X Y out ia ib)(hy:Y[ib]?=some y)(hx:∀u∈X.drop ia,key y≤key u):Mg key X Y (out.push y) ia (ib+1):=by
 obtain⟨hlt,e⟩:=List.getElem?_eq_some_iff.mp hy
 have ed:Y.drop ib=[y]++Y.drop (ib+1):=by rw[List.drop_eq_getElem_cons hlt,e];rfl
 have et:Y.take (ib+1)=Y.take ib++[y]:=by rw[List.take_succ,hy];rfl
 have sy:=h.sy
 rw[ed]at sy
 refine⟨?_,?_,?_⟩
 . rw[Array.toList_push]
   exact ou sy h.sx fun u hu v hv=>by rw[List.mem_singleton.mp hu];exact hx v hv
 . rw[Array.toList_push,List.append_assoc];exact sy
 . rw[Array.toList_push,et,←List.append_assoc]
   exact h.pm.append_right _
theorem Mg.pN{X Y:List Keyed}{out:Array Keyed}{ia ib k:Nat}{mid:List Keyed}(h:Mg key X Y out ia ib)(hm:X.drop ia=mid++X.drop (ia+k))(ht:X.take (ia+k)=X.take ia++mid)(hle:∀u∈mid,∀v∈Y.drop ib,key u≤key v){out':Array Keyed}(ho:out'.toList=out.toList++mid):Mg key X Y out' (ia+k) ib:=by
 have sx:=h.sx
 rw[hm]at sx
 refine⟨?_,?_,?_⟩
 . rw[ho,List.append_assoc];exact sx
 . rw[ho];exact ou sx h.sy hle
 . rw[ho,ht]
   refine(h.pm.append_right mid).trans ?_
   rw[List.append_assoc,List.append_assoc]
   exact(List.perm_append_comm).append_left _
theorem Mg.nr{X Y:List Keyed}{out:Array Keyed}{ia ib k:Nat}{mid:List Keyed}(h:Mg key X Y out ia ib)(hm:Y.drop ib=mid++Y.drop (ib+k))(ht:Y.take (ib+k)=Y.take ib++mid)(hle:∀u∈mid,∀v∈X.drop ia,key u≤key v){out':Array Keyed}(ho:out'.toList=out.toList++mid):Mg key X Y out' ia (ib+k):=by
 have sy:=h.sy
 rw[hm]at sy
 refine⟨?_,?_,?_⟩
 . rw[ho];exact ou sy h.sx hle
 . rw[ho,List.append_assoc];exact sy
 . rw[ho,ht,←List.append_assoc]
   exact h.pm.append_right mid
theorem Mg.pushX{X Y:List Keyed}{out:Array Keyed}{ia ib:Nat}{x:Keyed}(h:Mg key X Y out ia ib)(hx:X[ia]?=some x)(hy:∀u∈Y.drop ib,key x≤key u):Mg key X Y (out.push x) (ia+1) ib:=by
 obtain⟨hlt,e⟩:=List.getElem?_eq_some_iff.mp hx
 refine h.pN (mid:=[x]) (by rw[List.drop_eq_getElem_cons hlt,e];rfl) (by rw[List.take_succ,hx];rfl) (fun u hu v hv=>by rw[List.mem_singleton.mp hu];exact hy v hv) (Array.toList_push)
structure Res(key:Keyed→Int)(X Y:List Keyed)(r:Array Keyed):Prop where
 srt:Srt key r.toList
 perm:r.toList.Perm (X++Y)
theorem Mg.sJ{X Y:List Keyed}{out r:Array Keyed}{ia ib:Nat}(h:Mg key X Y out ia ib)(hb:Y.length≤ib)(hr:r.toList=out.toList++X.drop ia):Res key X Y r:=by
 refine⟨by rw[hr];exact h.sx,?_⟩
 have:=h.pm
 rw[List.take_of_length_le hb]at this
 rw[hr]
 refine(this.append_right _).trans ?_
 rw[List.append_assoc]
 refine(List.perm_append_comm.append_left _).trans ?_
 rw[←List.append_assoc,List.take_append_drop]
theorem Mg.qU{X Y:List Keyed}{out r:Array Keyed}{ia ib:Nat}(h:Mg key X Y out ia ib)(hl:∀u∈Y,∀v∈X.drop ia,key u≤key v)(hr:r.toList=out.toList++Y.drop ib++X.drop ia):Res key X Y r:=by
 have m:=h.nr (k:=Y.length) (mid:=Y.drop ib) (by rw[List.drop_of_length_le (show Y.length≤ib+Y.length by omega),List.append_nil]) (by rw[List.take_of_length_le (by omega),List.take_append_drop]) (fun u hu v hv=>hl u (List.mem_of_mem_drop hu) v hv) (out':=(out.toList++Y.drop ib).toArray) rfl
 exact m.sJ (by omega) hr
theorem xr{l:List Keyed}(h:Srt key l){i:Nat}{x:Keyed}(hx:l[i]?=some x):∀u∈l.drop i,key x≤key u:=fun u hu=>by
 obtain⟨hlt,e⟩:=List.getElem?_eq_some_iff.mp hx
 rw[List.drop_eq_getElem_cons hlt,e]at hu
 rcases List.mem_cons.mp hu with rfl|hu
 . exact Int.le_refl _
 . obtain⟨j,hj,rfl⟩:=List.getElem_of_mem hu
   rw[List.getElem_drop]
   rw[←e]
   rw[List.length_drop]at hj
   exact List.pairwise_iff_getElem.mp h i (i+1+j) hlt (by omega) (by omega)
theorem zl{α:Type}{c:Prop} [Decidable c] {m1 m2:StateT SortSt Sem α}{Q:α→SortSt→Prop}{st:SortSt}(h1:c→wpS (model prog w) A E s m1 Q st)(h2:¬c→wpS (model prog w) A E s m2 Q st):wpS (model prog w) A E s (if c then m1 else m2) Q st:=by
 by_cases h:c
 . rw[if_pos h];exact h1 h
 . rw[if_neg h];exact h2 h
structure Sm(st st':SortSt):Prop where
 kind:kindOf st'=kindOf st
 arr:arrOf st'=arrOf st
 pend:pendingOf st'=pendingOf st
 fail:failedOf st'=failedOf st
theorem Sm.refl{st:SortSt}:Sm st st:=⟨rfl,rfl,rfl,rfl⟩
theorem Sm.trans{a b c:SortSt}(h:Sm a b)(k:Sm b c):Sm a c:=⟨k.kind.trans h.kind,k.arr.trans h.arr,k.pend.trans h.pend,k.fail.trans h.fail⟩
theorem Mg.WI{X Y:List Keyed}{out r:Array Keyed}{ia ib:Nat}(h:Mg key X Y out ia ib)(hb:X.length≤ia)(hr:r.toList=out.toList++Y.drop ib):Res key X Y r:=by
 refine⟨by rw[hr];exact h.sy,?_⟩
 have:=h.pm
 rw[List.take_of_length_le hb]at this
 rw[hr]
 refine(this.append_right _).trans ?_
 rw[List.append_assoc,List.take_append_drop]
theorem vp{a:Array Keyed}{i:Nat}:(a.extract i).toList=a.toList.drop i:=by
 rw[Array.toList_extract,List.extract_eq_drop_take]
 exact List.take_of_length_le (by rw[List.length_drop,Array.length_toList];exact Nat.le_refl _)
theorem oI{a:Array Keyed}{i k:Nat}:(a.extract i (i+k)).toList=(a.toList.drop i).take k:=by
 rw[Array.toList_extract,List.extract_eq_drop_take,Nat.add_sub_cancel_left]
theorem uH{l:List Keyed}{i k:Nat}:l.drop i=(l.drop i).take k++l.drop (i+k):=by
 rw[←List.drop_drop,List.take_append_drop]
theorem Mg.Zq{a b out:Array Keyed}{ia ib k:Nat}(h:Mg key a.toList b.toList out ia ib)(hle:∀u∈(a.toList.drop ia).take k,∀v∈b.toList.drop ib,key u≤key v):Mg key a.toList b.toList (out++a.extract ia (ia+k)) (ia+k) ib:=
 h.pN uH List.take_add hle (by rw[Array.toList_append,oI])
theorem Mg.Zr{a b out:Array Keyed}{ia ib k:Nat}(h:Mg key a.toList b.toList out ia ib)(hle:∀u∈(b.toList.drop ib).take k,∀v∈a.toList.drop ia,key u≤key v):Mg key a.toList b.toList (out++b.extract ib (ib+k)) ia (ib+k):=
 h.nr uH List.take_add hle (by rw[Array.toList_append,oI])
theorem nI(left:Bool)(x:Keyed):∀{l:List Keyed},Srt key l→∃k0,k0≤l.length∧∀i (hi:i<l.length),(if left=true then decide (key l[i]<key x) else !decide (key x<key l[i]))=decide (i<k0)
 |[],_=>⟨0,Nat.le_refl _,fun i hi=>absurd hi (Nat.not_lt_zero _)⟩
 |y::t,h=>by
  unfold Srt at h
  rw[List.pairwise_cons]at h
  by_cases hp:(if left=true then decide (key y<key x) else !decide (key x<key y))=true
  . obtain⟨k0,h1,h2⟩:=nI left x (l:=t) h.2
    refine⟨k0+1,by rw[List.length_cons];omega,fun i hi=>?_⟩
    cases i with
    |zero=>rw[show decide (0<k0+1)=true from decide_eq_true (by omega)];exact hp
    |succ i=>
     rw[List.length_cons]at hi
     have:=h2 i (by omega)
     rw[List.getElem_cons_succ,this]
     exact decide_eq_decide.mpr (by omega)
  . refine⟨0,Nat.zero_le _,fun i hi=>?_⟩
    rw[decide_eq_false (Nat.not_lt_zero _)]
    have hle:key y≤key (y::t)[i]:=by
     cases i with
     |zero=>exact Int.le_refl _
     |succ i=>
      rw[List.length_cons]at hi
      exact h.1 _ (List.getElem_mem _)
    cases left with
    |true=>
     simp only[if_true,decide_eq_true_eq]at hp ⊢
     exact decide_eq_false (by omega)
    |false=>
     simp only[Bool.false_eq_true,if_false,Bool.not_eq_true',decide_eq_false_iff_not]at hp ⊢
     rw[Bool.not_eq_false',decide_eq_true_eq]
     omega
theorem uZ{left:Bool}{x:Keyed}{arr:Array Keyed}{base n:Nat}(hn:base+n≤arr.size)(hs:Srt key ((arr.toList.drop base).take n))(hm:∀u∈(arr.toList.drop base).take n,u∈a₀.toList) :
 ∃k0,k0≤n∧Cut a₀ key left x arr base n k0∧(∀u∈(arr.toList.drop base).take k0,key u≤key x)∧∀u∈((arr.toList.drop base).take n).drop k0,key x≤key u:=by
 have hl:((arr.toList.drop base).take n).length=n:=by rw[List.length_take,List.length_drop,Array.length_toList];omega
 obtain⟨k0,h1,h2⟩:=nI (key:=key) left x hs
 rw[hl]at h1
 have g:∀i (hi:i<((arr.toList.drop base).take n).length),arr[base+i]?=some ((arr.toList.drop base).take n)[i]:=fun i hi=>by
  rw[List.getElem_take,List.getElem_drop,←Array.getElem?_toList,List.getElem?_eq_getElem]
 refine⟨k0,h1,fun i hi=>⟨((arr.toList.drop base).take n)[i]'(by omega),g i (by omega),hm _ (List.getElem_mem _),h2 i (by omega)⟩,fun u hu=>?_,fun u hu=>?_⟩
 . have e:(arr.toList.drop base).take k0=((arr.toList.drop base).take n).take k0:=by rw[List.take_take,Nat.min_eq_left h1]
   rw[e]at hu
   obtain⟨i,hi,rfl⟩:=List.getElem_of_mem hu
   rw[List.length_take]at hi
   rw[List.getElem_take]
   have:=h2 i (by omega)
   rw[decide_eq_true (show i<k0 by omega)]at this
   cases left with
   |true=>simp only[if_true,decide_eq_true_eq]at this;omega
   |false=>simp only[Bool.false_eq_true,if_false,Bool.not_eq_true',decide_eq_false_iff_not]at this;omega
 . obtain⟨i,hi,rfl⟩:=List.getElem_of_mem hu
   rw[List.length_drop]at hi
   rw[List.getElem_drop]
   have:=h2 (k0+i) (by omega)
   rw[decide_eq_false (show ¬k0+i<k0 by omega)]at this
   cases left with
   |true=>simp only[if_true,decide_eq_false_iff_not]at this;omega
   |false=>simp only[Bool.false_eq_true,if_false,Bool.not_eq_false',decide_eq_true_eq]at this;omega
theorem nH{left:Bool}{x:Keyed}{arr:Array Keyed}{base:Nat}(hn:base≤arr.size)(hs:Srt key arr.toList)(hm:∀u∈arr.toList,u∈a₀.toList) :
 ∃k0,k0≤arr.size-base∧Cut a₀ key left x arr base (arr.size-base) k0∧(∀u∈(arr.toList.drop base).take k0,key u≤key x)∧∀u∈arr.toList.drop (base+k0),key x≤key u:=by
 have e:(arr.toList.drop base).take (arr.size-base)=arr.toList.drop base:=List.take_of_length_le (by rw[List.length_drop,Array.length_toList];exact Nat.le_refl _)
 obtain⟨k0,h1,h2,h3,h4⟩:=uZ (a₀:=a₀) (key:=key) (left:=left) (x:=x) (arr:=arr) (base:=base) (n:=arr.size-base) (by omega) (by rw[e];exact hs.sublist (List.drop_sublist _ _)) (by rw[e];exact fun u hu=>hm u (List.mem_of_mem_drop hu))
 rw[e,List.drop_drop]at h4
 exact⟨k0,h1,h2,h3,h4⟩
theorem ya{a:Array Keyed}{i:Nat}(h:i<a.size):a[i]?=some (a.getD i (Value.none,Value.none))∧a.toList[i]?=some (a.getD i (Value.none,Value.none))∧a.getD i (Value.none,Value.none)∈a.toList:=by
 have e:a.getD i (Value.none,Value.none)=a[i]:=by simp[Array.getD,h]
 rw[e]
 exact⟨by simp[h],by simp[h],by simp⟩
noncomputable def v7:Nat→StateT SortSt Sem Unit:=sortPriv% PySem.Builtin.setMinGallop
theorem jq{g:Nat}{st:SortSt}{Q:Unit→SortSt→Prop}(h:∀st2,Sm st st2→Q () st2):wpS (model prog w) A E s (v7 g) Q st:=by
 unfold v7
 exact wpS_modify (h _ ⟨rfl,rfl,rfl,rfl⟩)
noncomputable def nj:Array Keyed→Array Keyed→StateT SortSt Sem (Array Keyed):=sortPriv% PySem.Builtin.mergeLo
structure LoI(key:Keyed→Int)(a b:Array Keyed)(c:Option (Array Keyed))(out:Array Keyed)(ia ib x:Nat):Prop where
 no:c=none
 mg:Mg key a.toList b.toList out ia ib
 la:ia+1<a.size
 lb:ib<b.size
 lt:x≤ia+ib
theorem LoI.mono{a b out:Array Keyed}{c:Option (Array Keyed)}{ia ib x x':Nat}(h:LoI key a b c out ia ib x)(k:x'≤x):LoI key a b c out ia ib x':=⟨h.no,h.mg,h.la,h.lb,Nat.le_trans k h.lt⟩
inductive LoQ(key:Keyed→Int)(a b:Array Keyed)(c:Option (Array Keyed))(out:Array Keyed)(ia ib x:Nat):Prop where
 |res (r:Array Keyed) (h:c=some r) (hr:Res key a.toList b.toList r):LoQ key a b c out ia ib x
 |go (h:LoI key a b c out ia ib x):LoQ key a b c out ia ib x
theorem yG{i j:Nat}(h:(i == j)=true):i=j:=eq_of_beq h
theorem z8{i j:Nat}(h:¬(i == j)=true):i≠j:=fun e=>h (beq_iff_eq.mpr e)
theorem lt2{i k n:Nat}(h:k≤n-i)(h':i+1<n)(e:i+k+1≠n)(e':i+k≠n):i+k+1<n:=by omega
theorem lt3{i k n:Nat}(h:k≤n-i)(h':i<n)(e:i+k≠n):i+k<n:=by omega
theorem Vr(L:sr prog w A E s κ a₀ key){a b:Array Keyed}(ha:0<a.size)(hb:0<b.size)(ma:∀x∈a.toList,x∈a₀.toList)(mb:∀x∈b.toList,x∈a₀.toList)(sa:Srt key a.toList)(sb:Srt key b.toList)
 (h1:∀u∈a.toList,key (b.getD 0 (Value.none,Value.none))≤key u) (h2:∀u∈b.toList,key u≤key (a.getD (a.size-1) (Value.none,Value.none))) {st:SortSt} (hk:kindOf st=κ) {Q:Array Keyed→SortSt→Prop} (q:∀r st',Sm st st'→Res key a.toList b.toList r→Q r st') :
 wpS (model prog w) A E s (nj a b) Q st:=by
 have lastA:∀{i:Nat},i+1=a.size→∀u∈b.toList,∀v∈a.toList.drop i,key u≤key v:=fun{i} hi u hu v hv=>by
  have gl:=ya (show i<a.size by omega)
  have:a.toList.drop i=[a.getD i (Value.none,Value.none)]:=by
   obtain⟨hlt,e⟩:=List.getElem?_eq_some_iff.mp gl.2.1
   rw[List.drop_eq_getElem_cons hlt,e,List.drop_of_length_le (by rw[Array.length_toList];omega)]
  rw[this,List.mem_singleton]at hv
  rw[hv,show i=a.size-1 by omega]
  exact h2 u hu
 have endB:∀{out:Array Keyed} {i j:Nat},b.size≤j→(out++a.extract i++b.extract j).toList=out.toList++a.toList.drop i:=fun{out i j} hj=>by
  rw[Array.toList_append,Array.toList_append,vp,vp,List.drop_of_length_le (show b.toList.length≤j by rw[Array.length_toList];exact hj),List.append_nil]
 have endA:∀{out:Array Keyed} {i j:Nat},(out++b.extract j++a.extract i).toList=out.toList++b.toList.drop j++a.toList.drop i:=fun{out i j}=>by
  rw[Array.toList_append,Array.toList_append,vp,vp]
 have sJ:∀{out:Array Keyed} {i j:Nat},Mg key a.toList b.toList out i j→j=b.size→Res key a.toList b.toList (out++a.extract i++b.extract j):=fun{out i j} h e=>h.sJ (by rw[Array.length_toList,e];exact Nat.le_refl _) (endB (Nat.le_of_eq e.symm))
 have endA0:∀{out:Array Keyed} {i j:Nat},i=a.size→(out++a.extract i++b.extract j).toList=out.toList++b.toList.drop j:=fun{out i j} hj=>by
  rw[Array.toList_append,Array.toList_append,vp,vp,List.drop_of_length_le (show a.toList.length≤i by rw[Array.length_toList,hj];exact Nat.le_refl _),List.append_nil]
 have gb0:=ya hb
 have J0:Mg key a.toList b.toList #[b.getD 0 (Value.none,Value.none)] 0 1:=by
  have:Mg key a.toList b.toList #[] 0 0:=⟨sa,sb,.refl _⟩
  exact this.pV gb0.2.1 h1
 unfold nj
 refine wpS_bind (wpS_lift (wpAny_rule ⟨rfl,?_⟩))
 refine wpS_bind (zu gb0.1 ?_)
 refine zl (fun e1=>wpS_pure (q _ _ .refl (sJ J0 (yG e1)))) fun e1=>?_
 refine zl (fun e2=>wpS_pure (q _ _ .refl (J0.qU (lastA (yG e2)) endA))) fun e2=>?_
 refine wpS_bind (wpS_get ?_)
 refine wpS_bind (wpS_mono (wpS_forRange (I:=fun x c st'=>Sm st st'∧LoI key a b c.1 c.2.1 c.2.2.1 c.2.2.2.1 (x+1)) (Q:=fun c st'=>Sm st st'∧∃r,c.1=some r∧Res key a.toList b.toList r) ?step ?fin ⟨.refl,⟨rfl,J0,Nat.lt_of_le_of_ne ha (z8 e2),Nat.lt_of_le_of_ne hb (z8 e1),Nat.le_refl _⟩⟩) ?post)
 case fin=>
  intro c st' h
  have h1:=h.2.la
  have h2:=h.2.lb
  have h3:=h.2.lt
  omega
 case post=>
  rintro ⟨c1,c⟩ st' ⟨hS,r,hr,hR⟩
  cases hr
  exact wpS_pure (q r _ hS hR)
 case step=>
  intro x c st' _ hx ⟨hS,I⟩
  refine wpS_bind (wpS_mono (wpS_forRange (I:=fun y c' st''=>Sm st st''∧LoI key a b c'.1 c'.2.1 c'.2.2.1 c'.2.2.2.1 (c.2.2.1+c.2.2.2.1+y)) (Q:=fun c' st''=>Sm st st''∧LoQ key a b c'.1 c'.2.1 c'.2.2.1 c'.2.2.2.1 (c.2.2.1+c.2.2.2.1+1)) ?istep ?ifin ⟨hS,⟨rfl,I.mg,I.la,I.lb,Nat.le_refl _⟩⟩) ?ipost)
  case ifin=>exact fun c st'' h=>⟨h.1,.go (h.2.mono (Nat.add_le_add_left (Nat.le_trans ha (Nat.le_trans (Nat.le_add_right _ _) (Nat.le_max_right _ _))) _))⟩
  case istep=>
   intro y c' st'' _ hy ⟨hS2,I'⟩
   have gx:=ya (Nat.lt_of_succ_lt I'.la)
   have gy:=ya I'.lb
   refine wpS_bind (zu gy.1 (wpS_bind (zu gx.1 (wpS_bind (L _ _ _ _ (mb _ gy.2.2) (ma _ gx.2.2) (hS2.kind.trans hk) ?_)))))
   refine zl (fun hlt=>wpS_bind (zu gy.1 ?_)) (fun hlt=>wpS_bind (zu gx.1 ?_))
   . have J2:=I'.mg.pV gy.2.1 fun u hu=>Int.le_trans (Int.le_of_lt (of_decide_eq_true hlt)) (xr sa gx.2.1 u hu)
     refine zl (fun e3=>wpS_pure ⟨hS2,.res _ rfl (sJ J2 (yG e3))⟩) fun e3=>?_
     have I2:LoI key a b none _ _ _ (c.2.2.1+c.2.2.2.1+(y+1)):=⟨rfl,J2,I'.la,Nat.lt_of_le_of_ne I'.lb (z8 e3),Nat.succ_le_succ I'.lt⟩
     exact zl (fun _=>wpS_pure ⟨hS2,.go (I2.mono (Nat.add_le_add_left (Nat.le_add_left 1 y) _))⟩) fun _=>wpS_pure ⟨hS2,I2⟩
   . have J2:=I'.mg.pushX gx.2.1 fun u hu=>Int.le_trans (Int.not_lt.mp (of_decide_eq_false (Bool.eq_false_iff.mpr hlt))) (xr sb gy.2.1 u hu)
     refine zl (fun e3=>wpS_pure ⟨hS2,.res _ rfl (J2.qU (lastA (yG e3)) endA)⟩) fun e3=>?_
     have I2:LoI key a b none _ _ _ (c.2.2.1+c.2.2.2.1+(y+1)):=⟨rfl,J2,Nat.lt_of_le_of_ne I'.la (z8 e3),I'.lb,Nat.le_trans (Nat.succ_le_succ I'.lt) (Nat.le_of_eq (Nat.add_right_comm _ _ 1))⟩
     exact zl (fun _=>wpS_pure ⟨hS2,.go (I2.mono (Nat.add_le_add_left (Nat.le_add_left 1 y) _))⟩) fun _=>wpS_pure ⟨hS2,I2⟩
  case ipost=>
   rintro ⟨c1,c'⟩ st'' ⟨hS2,hQ⟩
   cases hQ with
   |res r hr hR=>cases hr;exact wpS_pure ⟨hS2,r,rfl,hR⟩
   |go I'=>
    have hc:=I'.no
    cases hc
    refine wpS_bind (wpS_lift (wpAny_rule ⟨rfl,?_⟩))
    refine wpS_bind (wpS_mono (wpS_forRange (I:=fun y c1 st3=>Sm st st3∧LoI key a b c1.1 c1.2.1 c1.2.2.1 c1.2.2.2.1 (c.2.2.1+c.2.2.2.1+1)) (Q:=fun c1 st3=>Sm st st3∧LoQ key a b c1.1 c1.2.1 c1.2.2.1 c1.2.2.2.1 (c.2.2.1+c.2.2.2.1+1)) ?gstep (fun c st3 h=>⟨h.1,.go h.2⟩) ⟨hS2,⟨rfl,I'.mg,I'.la,I'.lb,I'.lt⟩⟩) ?gpost)
    case gpost=>
     rintro ⟨c2,c3⟩ st3 ⟨hS3,hQ⟩
     cases hQ with
     |res r hr hR=>cases hr;exact wpS_pure ⟨hS3,r,rfl,hR⟩
     |go I3=>
      have hc:=I3.no
      cases hc
      exact wpS_bind (wpS_modify (wpS_pure ⟨hS3.trans ⟨rfl,rfl,rfl,rfl⟩,⟨rfl,I3.mg,I3.la,I3.lb,Nat.le_trans (Nat.succ_le_succ I.lt) I3.lt⟩⟩))
    case gstep=>
     intro y c1 st1 _ hy ⟨Sm1,I1⟩
     have gy:=ya I1.lb
     have la:=I1.la
     extract_lets s1 out s2 ia s3 ib s4 mg s5 ac bc ib1 jp mg1
     refine have hjp:∀g st2,Sm st st2→wpS (model prog w) A E s (jp () g) _ st2:=?_;zl (fun _=>hjp _ _ Sm1) fun _=>hjp _ _ Sm1
     intro g st0 Sm0
     refine wpS_bind (jq fun st2 Sm2=>?_)
     have Sm':=Sm0.trans Sm2
     obtain⟨k,d1,d2,d3,d4⟩:=nH (a₀:=a₀) (key:=key) (left:=false) (x:=b.getD ib (Value.none,Value.none)) (arr:=a) (base:=ia) (Nat.le_of_lt (Nat.lt_of_succ_lt la)) sa ma
     refine wpS_bind (zu gy.1 (wpS_bind (wI L (Nat.sub_pos_of_lt (Nat.lt_of_succ_lt la)) d1 d2 (mb _ gy.2.2) (Sm'.kind.trans hk) ?_)))
     clear_value jp
     dsimp -zeta only
     extract_lets ak jp2 out1 ia1
     have J1:=I1.mg.Zq (k:=k) fun u hu v hv=>Int.le_trans (d3 u hu) (xr sb gy.2.1 v hv)
     have gl:c.2.2.1+c.2.2.2.1+1≤ia+ib:=I1.lt
     refine have h2:∀out ia,Mg key a.toList b.toList out ia ib→ia+1<a.size→(∀u∈a.toList.drop ia,key (b.getD ib (Value.none,Value.none))≤key u)→c.2.2.1+c.2.2.2.1+1≤ia+ib→wpS (model prog w) A E s (jp2 () out ia) _ st2:=?_
      zl (fun _=>zl (fun e=>wpS_pure ⟨Sm',.res _ rfl (J1.qU (lastA (yG e)) endA)⟩) fun e=>zl (fun e'=>wpS_pure ⟨Sm',.res _ rfl (J1.WI (by rw[Array.length_toList];exact Nat.le_of_eq (yG e').symm) (endA0 (yG e')))⟩) fun e'=>h2 _ _ J1 (lt2 d1 la (z8 e) (z8 e')) d4 (Nat.le_trans gl (Nat.add_le_add_right (Nat.le_add_right _ _) _)))
       fun hk=>h2 _ _ I1.mg la (by rw[Nat.eq_zero_of_not_pos hk]at d4;exact d4) gl
     intro out0 ia0 J la0 d5 gl0
     have J2:=J.pV gy.2.1 d5
     have gx:=ya (Nat.lt_of_succ_lt la0)
     refine wpS_bind (zu gy.1 (zl (fun e=>wpS_pure ⟨Sm',.res _ rfl (sJ J2 (yG e))⟩) fun e=>wpS_bind (zu gx.1 ?_)))
     have lb1:ib+1<b.size:=Nat.lt_of_le_of_ne I1.lb (z8 e)
     obtain⟨k1,c1,c2,c3,c4⟩:=nH (a₀:=a₀) (key:=key) (left:=true) (x:=a.getD ia0 (Value.none,Value.none)) (arr:=b) (base:=ib+1) (Nat.le_of_lt lb1) sb mb
     refine wpS_bind (wI L (Nat.sub_pos_of_lt lb1) c1 c2 (ma _ gx.2.2) (Sm'.kind.trans hk) ?_)
     clear_value jp2
     dsimp -zeta only
     extract_lets bk ia3 jp3 out3 ib3
     have J3:=J2.Zr (k:=k1) fun u hu v hv=>Int.le_trans (c3 u hu) (xr sa gx.2.1 v hv)
     refine have h3:∀out ib',Mg key a.toList b.toList out ia0 ib'→ib'<b.size→(∀u∈b.toList.drop ib',key (a.getD ia0 (Value.none,Value.none))≤key u)→ib≤ib'→wpS (model prog w) A E s (jp3 () out ib') _ st2:=?_
      zl (fun _=>zl (fun e=>wpS_pure ⟨Sm',.res _ rfl (sJ J3 (yG e))⟩) fun e=>h3 _ _ J3 (lt3 c1 lb1 (z8 e)) c4 (Nat.le_trans (Nat.le_succ _) (Nat.le_add_right _ _)))
       fun hk=>h3 _ _ J2 lb1 (by rw[Nat.eq_zero_of_not_pos hk]at c4;exact c4) (Nat.le_succ _)
     intro out4 ib4 J' lb4 d6 g4
     have J4:=J'.pushX gx.2.1 d6
     refine wpS_bind (zu gx.1 (zl (fun e=>wpS_pure ⟨Sm',.res _ rfl (J4.qU (lastA (yG e)) endA)⟩) fun e=>?_))
     have I4:LoI key a b none _ _ _ (c.2.2.1+c.2.2.2.1+1):=⟨rfl,J4,Nat.lt_of_le_of_ne la0 (z8 e),lb4,Nat.le_trans gl0 (Nat.add_le_add (Nat.le_succ _) g4)⟩
     exact zl (fun _=>wpS_pure ⟨Sm',.go I4⟩) fun _=>wpS_pure ⟨Sm',I4⟩
end
end L2.Tim
end
section
namespace L2.Tim
open PySem PySem.W PySem.Calls PyProof PyProof.Rows
section
variable {prog:Program}{w:World}{A:Around}{E:Value→Shared→Prop}{s:Shared}{κ:SortKind}{a₀:Array Keyed}{key:Keyed→Int}
structure Mh(key:Keyed→Int)(X Y:List Keyed)(out:Array Keyed)(na nb:Nat):Prop where
 sx:Srt key (X.take na++out.toList.reverse)
 sy:Srt key (Y.take nb++out.toList.reverse)
 pm:out.toList.reverse.Perm (X.drop na++Y.drop nb)
theorem mW{o p q r:List Keyed}(h1:Srt key ((p++q)++o))(h2:Srt key (r++o))(h:∀u∈r,∀v∈q,key u≤key v):Srt key (r++(q++o)):=by
 unfold Srt at *
 rw[List.append_assoc]at h1
 rw[List.pairwise_append]at h1 h2 ⊢
 refine⟨h2.1,h1.2.1,fun a ha b hb=>?_⟩
 rcases List.mem_append.mp hb with hb|hb
 . exact h a ha b hb
 . exact h2.2.2 a ha b hb
theorem Mh.pN{X Y:List Keyed}{out out':Array Keyed}{na nb na':Nat}{mid:List Keyed}(h:Mh key X Y out na nb)(hm:X.take na=X.take na'++mid)(hd:X.drop na'=mid++X.drop na)(hle:∀u∈Y.take nb,∀v∈mid,key u≤key v)(ho:out'.toList.reverse=mid++out.toList.reverse):Mh key X Y out' na' nb:=by
 have sx:=h.sx
 rw[hm]at sx
 refine⟨?_,?_,?_⟩
 . rw[ho,←List.append_assoc];exact sx
 . rw[ho];exact mW sx h.sy hle
 . rw[ho,hd,List.append_assoc];exact h.pm.append_left _
theorem Mh.nr{X Y:List Keyed}{out out':Array Keyed}{na nb nb':Nat}{mid:List Keyed}(h:Mh key X Y out na nb)(hm:Y.take nb=Y.take nb'++mid)(hd:Y.drop nb'=mid++Y.drop nb)(hle:∀u∈X.take na,∀v∈mid,key u≤key v)(ho:out'.toList.reverse=mid++out.toList.reverse):Mh key X Y out' na nb':=by
 have sy:=h.sy
 rw[hm]at sy
 refine⟨?_,?_,?_⟩
 . rw[ho];exact mW sy h.sx hle
 . rw[ho,←List.append_assoc];exact sy
 . rw[ho,hd]
   refine(h.pm.append_left mid).trans ?_
   rw[←List.append_assoc,←List.append_assoc]
   exact List.perm_append_comm.append_right _
theorem mK{out:Array Keyed}{x:Keyed}:(out.push x).toList.reverse=[x]++out.toList.reverse:=by
 rw[Array.toList_push,List.reverse_append];rfl
theorem vw{X:List Keyed}{na:Nat}{x:Keyed}(h0:0<na)(hx:X[na-1]?=some x):X.take na=X.take (na-1)++[x]∧X.drop (na-1)=[x]++X.drop na:=by
 obtain⟨hlt,e⟩:=List.getElem?_eq_some_iff.mp hx
 refine⟨?_,?_⟩
 . have:=List.take_succ (l:=X) (i:=na-1)
   rw[show na-1+1=na by omega,hx]at this
   exact this
 . rw[List.drop_eq_getElem_cons hlt,e,show na-1+1=na by omega];rfl
theorem Mh.pushX{X Y:List Keyed}{out:Array Keyed}{na nb:Nat}{x:Keyed}(h:Mh key X Y out na nb)(h0:0<na)(hx:X[na-1]?=some x)(hle:∀u∈Y.take nb,key u≤key x):Mh key X Y (out.push x) (na-1) nb:=
 h.pN (vw h0 hx).1 (vw h0 hx).2 (fun u hu v hv=>by rw[List.mem_singleton.mp hv];exact hle u hu) mK
theorem Mh.pV{X Y:List Keyed}{out:Array Keyed}{na nb:Nat}{y:Keyed}(h:Mh key X Y out na nb)(h0:0<nb)(hy:Y[nb-1]?=some y)(hle:∀u∈X.take na,key u≤key y):Mh key X Y (out.push y) na (nb-1):=
 h.nr (vw h0 hy).1 (vw h0 hy).2 (fun u hu v hv=>by rw[List.mem_singleton.mp hv];exact hle u hu) mK
theorem kW{out a:Array Keyed}{i n:Nat}:(out++(a.extract i n).reverse).toList.reverse=(a.toList.take n).drop i++out.toList.reverse:=by
 rw[Array.toList_append,Array.toList_reverse,List.reverse_append,List.reverse_reverse,Array.toList_extract,List.extract_eq_drop_take,←List.drop_take]
theorem wQ{X:List Keyed}{i n:Nat}(h:i≤n):X.take n=X.take i++(X.take n).drop i∧X.drop i=(X.take n).drop i++X.drop n:=by
 refine⟨?_,?_⟩
 . have:=(List.take_append_drop i (X.take n)).symm
   rwa [List.take_take,Nat.min_eq_left h]at this
 . have:X.drop n=(X.drop i).drop (n-i):=by rw[List.drop_drop];congr 1;omega
   rw[List.drop_take,this,List.take_append_drop]
theorem Mh.Zq{a b out:Array Keyed}{na nb k:Nat}(h:Mh key a.toList b.toList out na nb)(hk:k≤na)(hle:∀u∈b.toList.take nb,∀v∈(a.toList.take na).drop k,key u≤key v):Mh key a.toList b.toList (out++(a.extract k na).reverse) k nb:=
 h.pN (wQ hk).1 (wQ hk).2 hle kW
theorem Mh.Zr{a b out:Array Keyed}{na nb k:Nat}(h:Mh key a.toList b.toList out na nb)(hk:k≤nb)(hle:∀u∈a.toList.take na,∀v∈(b.toList.take nb).drop k,key u≤key v):Mh key a.toList b.toList (out++(b.extract k nb).reverse) na k:=
 h.nr (wQ hk).1 (wQ hk).2 hle kW
theorem Mh.qU{X Y:List Keyed}{out r:Array Keyed}{na nb:Nat}(h:Mh key X Y out na nb)(h0:na=0)(hr:r.toList=Y.take nb++out.toList.reverse):Res key X Y r:=by
 subst h0
 refine⟨by rw[hr];exact h.sy,?_⟩
 rw[hr]
 refine(h.pm.append_left _).trans ?_
 rw[List.drop_zero,←List.append_assoc]
 refine(List.perm_append_comm.append_right _).trans ?_
 rw[List.append_assoc,List.take_append_drop]
theorem Mh.WJ{X Y:List Keyed}{out r:Array Keyed}{na nb:Nat}(h:Mh key X Y out na nb)(h0:nb=0)(hr:r.toList=X.take na++out.toList.reverse):Res key X Y r:=by
 subst h0
 refine⟨by rw[hr];exact h.sx,?_⟩
 rw[hr]
 refine(h.pm.append_left _).trans ?_
 rw[List.drop_zero,←List.append_assoc,List.take_append_drop]
theorem Mh.sJ{X Y:List Keyed}{out r:Array Keyed}{na nb:Nat}(h:Mh key X Y out na nb)(hl:∀u∈Y.take nb,∀v∈X,key u≤key v)(hr:r.toList=Y.take nb++X.take na++out.toList.reverse):Res key X Y r:=by
 have m:=h.pN (na':=0) (mid:=X.take na) (by simp) (by rw[List.drop_zero,List.take_append_drop]) (fun u hu v hv=>hl u hu v (List.mem_of_mem_take hv)) (out':=(X.take na++out.toList.reverse).reverse.toArray) (by simp)
 refine m.qU rfl ?_
 rw[hr];simp
theorem xt{l:List Keyed}(h:Srt key l){i:Nat}{x:Keyed}(hx:l[i]?=some x):∀u∈l.take (i+1),key u≤key x:=fun u hu=>by
 obtain⟨hlt,e⟩:=List.getElem?_eq_some_iff.mp hx
 obtain⟨j,hj,rfl⟩:=List.getElem_of_mem hu
 rw[List.length_take]at hj
 rw[List.getElem_take,←e]
 by_cases hji:j=i
 . subst hji;exact Int.le_refl _
 . exact List.pairwise_iff_getElem.mp h j i (by omega) hlt (by omega)
theorem wq{a:Array Keyed}{n:Nat}:(a.extract 0 n).toList=a.toList.take n:=by
 rw[Array.toList_extract,List.extract_eq_drop_take,List.drop_zero,Nat.sub_zero]
noncomputable def ni:Array Keyed→Array Keyed→StateT SortSt Sem (Array Keyed):=sortPriv% PySem.Builtin.mergeHi
theorem le0{m n:Nat}(h:0<m):m-1+n+(0+1)≤m+n:=by omega
theorem le1{m n y t:Nat}(h:0<m)(h':m+n+y≤t):m-1+n+(y+1)≤t:=by omega
theorem le2{m n y t:Nat}(h:1<n)(h':m+n+y≤t):m+(n-1)+(y+1)≤t:=by omega
theorem le3{m t x u:Nat}(h:m+1≤t)(h':t+(x+1)≤u):m+(x+1+1)≤u:=by omega
theorem le4{m n m' n' t:Nat}(h:m'≤m)(h':n'≤n-1)(g:m+n+1≤t):m'-1+n'+1≤t:=by omega
theorem gt1{n:Nat}(h:1<n)(h':n-1≠1):1<n-1:=by omega
theorem jf{l:List Keyed}{n:Nat}{u:Keyed}(h:0<n)(hu:u∈l.take n):u∈l.take (n-1+1):=by rwa [Nat.sub_add_cancel h]
structure HiI(key:Keyed→Int)(a b:Array Keyed)(c:Option (Array Keyed))(na nb:Nat)(out:Array Keyed)(x t:Nat):Prop where
 no:c=none
 mg:Mh key a.toList b.toList out na nb
 la:0<na
 lb:1<nb
 ua:na≤a.size
 ub:nb≤b.size
 lt:na+nb+x≤t
theorem HiI.mono{a b out:Array Keyed}{c:Option (Array Keyed)}{na nb x x' t:Nat}(h:HiI key a b c na nb out x t)(k:x'≤x):HiI key a b c na nb out x' t:=⟨h.no,h.mg,h.la,h.lb,h.ua,h.ub,Nat.le_trans (Nat.add_le_add_left k _) h.lt⟩
inductive HiQ(key:Keyed→Int)(a b:Array Keyed)(c:Option (Array Keyed))(na nb:Nat)(out:Array Keyed)(x t:Nat):Prop where
 |res (r:Array Keyed) (h:c=some r) (hr:Res key a.toList b.toList r):HiQ key a b c na nb out x t
 |go (h:HiI key a b c na nb out x t):HiQ key a b c na nb out x t
theorem Vq(L:sr prog w A E s κ a₀ key){a b:Array Keyed}(ha:0<a.size)(hb:0<b.size)(ma:∀x∈a.toList,x∈a₀.toList)(mb:∀x∈b.toList,x∈a₀.toList)(sa:Srt key a.toList)(sb:Srt key b.toList)
 (h1:∀u∈a.toList,key (b.getD 0 (Value.none,Value.none))≤key u) (h2:∀u∈b.toList,key u≤key (a.getD (a.size-1) (Value.none,Value.none))) {st:SortSt} (hk:kindOf st=κ) {Q:Array Keyed→SortSt→Prop} (q:∀r st',Sm st st'→Res key a.toList b.toList r→Q r st') :
 wpS (model prog w) A E s (ni a b) Q st:=by
 have gb0:=ya hb
 have firstB:∀{n:Nat},n≤1→∀u∈b.toList.take n,∀v∈a.toList,key u≤key v:=fun{n} hn u hu v hv=>by
  have hu:u∈b.toList.take 1:=List.mem_of_mem_take (i:=n) (by rwa [List.take_take,Nat.min_eq_left hn])
  have e:b.toList.take 1=[b.getD 0 (Value.none,Value.none)]:=by
   have:=List.take_succ (l:=b.toList) (i:=0)
   rw[gb0.2.1]at this
   exact this
  rw[e,List.mem_singleton]at hu
  rw[hu];exact h1 v hv
 have endA:∀{out:Array Keyed} {n m:Nat},n=0→(a.extract 0 n++b.extract 0 m++out.reverse).toList=b.toList.take m++out.toList.reverse:=fun{out n m} hn=>by
  subst hn
  rw[Array.toList_append,Array.toList_append,wq,wq,Array.toList_reverse,List.take_zero,List.nil_append]
 have endZ:∀{out:Array Keyed} {n m:Nat},m=0→(a.extract 0 n++b.extract 0 m++out.reverse).toList=a.toList.take n++out.toList.reverse:=fun{out n m} hn=>by
  subst hn
  rw[Array.toList_append,Array.toList_append,wq,wq,Array.toList_reverse,List.take_zero,List.append_nil]
 have endF:∀{out:Array Keyed} {n m:Nat},(b.extract 0 m++a.extract 0 n++out.reverse).toList=b.toList.take m++a.toList.take n++out.toList.reverse:=fun{out n m}=>by
  rw[Array.toList_append,Array.toList_append,wq,wq,Array.toList_reverse]
 have ga0:=ya (show a.size-1<a.size by omega)
 have J0:Mh key a.toList b.toList #[a.getD (a.size-1) (Value.none,Value.none)] (a.size-1) b.size:=by
  have:Mh key a.toList b.toList #[] a.size b.size:=by
   have ea:a.toList.take a.size=a.toList:=List.take_of_length_le (by rw[Array.length_toList];exact Nat.le_refl _)
   have eb:b.toList.take b.size=b.toList:=List.take_of_length_le (by rw[Array.length_toList];exact Nat.le_refl _)
   refine⟨?_,?_,?_⟩
   . rw[ea];simpa using sa
   . rw[eb];simpa using sb
   . rw[List.drop_of_length_le (by rw[Array.length_toList];exact Nat.le_refl _),List.drop_of_length_le (by rw[Array.length_toList];exact Nat.le_refl _)];exact .refl _
  exact this.pushX ha ga0.2.1 fun u hu=>h2 u (List.mem_of_mem_take hu)
 unfold ni
 refine wpS_bind (wpS_lift (wpAny_rule ⟨rfl,?_⟩))
 refine wpS_bind (zu ga0.1 ?_)
 refine zl (fun e1=>wpS_pure (q _ _ .refl (J0.qU (yG e1) (endA (yG e1))))) fun e1=>?_
 refine zl (fun e2=>wpS_pure (q _ _ .refl (J0.sJ (firstB (Nat.le_of_eq (yG e2))) endF))) fun e2=>?_
 refine wpS_bind (wpS_get ?_)
 refine wpS_bind (wpS_mono (wpS_forRange (I:=fun x c st'=>Sm st st'∧HiI key a b c.1 c.2.1 c.2.2.1 c.2.2.2.1 (x+1) (a.size+b.size)) (Q:=fun c st'=>Sm st st'∧∃r,c.1=some r∧Res key a.toList b.toList r) ?step ?fin ⟨.refl,⟨rfl,J0,Nat.pos_of_ne_zero (z8 e1),Nat.lt_of_le_of_ne hb (z8 e2).symm,Nat.sub_le _ _,Nat.le_refl _,le0 ha⟩⟩) ?post)
 case fin=>
  intro c st' h
  have h3:=h.2.lt
  omega
 case post=>
  rintro ⟨c1,c⟩ st' ⟨hS,r,hr,hR⟩
  cases hr
  exact wpS_pure (q r _ hS hR)
 case step=>
  intro x c st' _ hx ⟨hS,I⟩
  refine wpS_bind (wpS_mono (wpS_forRange (I:=fun y c' st''=>Sm st st''∧HiI key a b c'.1 c'.2.1 c'.2.2.1 c'.2.2.2.1 y (c.2.1+c.2.2.1)) (Q:=fun c' st''=>Sm st st''∧HiQ key a b c'.1 c'.2.1 c'.2.2.1 c'.2.2.2.1 1 (c.2.1+c.2.2.1)) ?istep ?ifin ⟨hS,⟨rfl,I.mg,I.la,I.lb,I.ua,I.ub,Nat.le_refl _⟩⟩) ?ipost)
  case ifin=>exact fun c st'' h=>⟨h.1,.go (h.2.mono (Nat.le_trans ha (Nat.le_trans (Nat.le_add_right _ _) (Nat.le_max_right _ _))))⟩
  case istep=>
   intro y c' st'' _ hy ⟨hS2,I'⟩
   have gx:=ya (Nat.lt_of_lt_of_le (Nat.sub_lt I'.la Nat.one_pos) I'.ua)
   have gy:=ya (Nat.lt_of_lt_of_le (Nat.sub_lt (Nat.lt_of_succ_lt I'.lb) Nat.one_pos) I'.ub)
   refine wpS_bind (zu gy.1 (wpS_bind (zu gx.1 (wpS_bind (L _ _ _ _ (mb _ gy.2.2) (ma _ gx.2.2) (hS2.kind.trans hk) ?_)))))
   refine zl (fun hlt=>wpS_bind (zu gx.1 ?_)) (fun hlt=>wpS_bind (zu gy.1 ?_))
   . have J2:=I'.mg.pushX I'.la gx.2.1 fun u hu=>Int.le_trans (xt sb gy.2.1 u (jf (Nat.lt_of_succ_lt I'.lb) hu)) (Int.le_of_lt (of_decide_eq_true hlt))
     refine zl (fun e3=>wpS_pure ⟨hS2,.res _ rfl (J2.qU (yG e3) (endA (yG e3)))⟩) fun e3=>?_
     have I2:HiI key a b none _ _ _ (y+1) (c.2.1+c.2.2.1):=⟨rfl,J2,Nat.pos_of_ne_zero (z8 e3),I'.lb,Nat.le_trans (Nat.sub_le _ _) I'.ua,I'.ub,le1 I'.la I'.lt⟩
     exact zl (fun _=>wpS_pure ⟨hS2,.go (I2.mono (Nat.le_add_left 1 y))⟩) fun _=>wpS_pure ⟨hS2,I2⟩
   . have J2:=I'.mg.pV (Nat.lt_of_succ_lt I'.lb) gy.2.1 fun u hu=>Int.le_trans (xt sa gx.2.1 u (jf I'.la hu)) (Int.not_lt.mp (of_decide_eq_false (Bool.eq_false_iff.mpr hlt)))
     refine zl (fun e3=>wpS_pure ⟨hS2,.res _ rfl (J2.sJ (firstB (Nat.le_of_eq (yG e3))) endF)⟩) fun e3=>?_
     have I2:HiI key a b none _ _ _ (y+1) (c.2.1+c.2.2.1):=⟨rfl,J2,I'.la,gt1 I'.lb (z8 e3),I'.ua,Nat.le_trans (Nat.sub_le _ _) I'.ub,le2 I'.lb I'.lt⟩
     exact zl (fun _=>wpS_pure ⟨hS2,.go (I2.mono (Nat.le_add_left 1 y))⟩) fun _=>wpS_pure ⟨hS2,I2⟩
  case ipost=>
   rintro ⟨c1,c'⟩ st'' ⟨hS2,hQ⟩
   cases hQ with
   |res r hr hR=>cases hr;exact wpS_pure ⟨hS2,r,rfl,hR⟩
   |go I'=>
    have hc:=I'.no
    cases hc
    refine wpS_bind (wpS_lift (wpAny_rule ⟨rfl,?_⟩))
    refine wpS_bind (wpS_mono (wpS_forRange (I:=fun y c1 st3=>Sm st st3∧HiI key a b c1.1 c1.2.1 c1.2.2.1 c1.2.2.2.1 1 (c.2.1+c.2.2.1)) (Q:=fun c1 st3=>Sm st st3∧HiQ key a b c1.1 c1.2.1 c1.2.2.1 c1.2.2.2.1 1 (c.2.1+c.2.2.1)) ?gstep (fun c st3 h=>⟨h.1,.go h.2⟩) ⟨hS2,⟨rfl,I'.mg,I'.la,I'.lb,I'.ua,I'.ub,I'.lt⟩⟩) ?gpost)
    case gpost=>
     rintro ⟨c2,c3⟩ st3 ⟨hS3,hQ⟩
     cases hQ with
     |res r hr hR=>cases hr;exact wpS_pure ⟨hS3,r,rfl,hR⟩
     |go I3=>
      have hc:=I3.no
      cases hc
      exact wpS_bind (wpS_modify (wpS_pure ⟨hS3.trans ⟨rfl,rfl,rfl,rfl⟩,⟨rfl,I3.mg,I3.la,I3.lb,I3.ua,I3.ub,le3 I3.lt I.lt⟩⟩))
    case gstep=>
     intro y c1 st1 _ hy ⟨Sm1,I1⟩
     have gy:=ya (Nat.lt_of_lt_of_le (Nat.sub_lt (Nat.lt_of_succ_lt I1.lb) Nat.one_pos) I1.ub)
     extract_lets s1 na s2 nb s3 out s4 mg s5 ac bc nb1 jp mg1
     have gl:na+nb+1≤c.2.1+c.2.2.1:=I1.lt
     have la:0<na:=I1.la
     have lb:0<nb:=Nat.lt_of_succ_lt I1.lb
     have ua:na≤a.size:=I1.ua
     refine have hjp:∀g st2,Sm st st2→wpS (model prog w) A E s (jp () g) _ st2:=?_;zl (fun _=>hjp _ _ Sm1) fun _=>hjp _ _ Sm1
     intro g st0 Sm0
     refine wpS_bind (jq fun st2 Sm2=>?_)
     have Sm':=Sm0.trans Sm2
     obtain⟨k,d1,d2,d3,d4⟩:=uZ (a₀:=a₀) (key:=key) (left:=false) (x:=b.getD (nb-1) (Value.none,Value.none)) (arr:=a) (base:=0) (n:=na) (Nat.le_trans (Nat.le_of_eq (Nat.zero_add _)) ua) (sa.sublist (List.take_sublist _ _)) (fun u hu=>ma u (List.mem_of_mem_take hu))
     refine wpS_bind (zu gy.1 (wpS_bind (wI L (Nat.sub_lt la Nat.one_pos) d1 d2 (mb _ gy.2.2) (Sm'.kind.trans hk) ?_)))
     clear_value jp
     dsimp -zeta only
     extract_lets kk ak jp2 out1 na1
     have J1:=I1.mg.Zq d1 fun u hu v hv=>Int.le_trans (xt sb gy.2.1 u (jf lb hu)) (d4 v hv)
     refine have h2:∀na' out,Mh key a.toList b.toList out na' nb→0<na'→(∀u∈a.toList.take na',key u≤key (b.getD (nb-1) (Value.none,Value.none)))→na'≤na→wpS (model prog w) A E s (jp2 () na' out) _ st2:=?_
      zl (fun _=>zl (fun e=>wpS_pure ⟨Sm',.res _ rfl (J1.qU (yG e) (endA (yG e)))⟩) fun e=>h2 _ _ J1 (Nat.pos_of_ne_zero (z8 e)) d3 d1)
       fun hk=>h2 _ _ I1.mg la (Nat.le_antisymm d1 (Nat.le_of_sub_eq_zero (Nat.eq_zero_of_not_pos hk))▸d3) (Nat.le_refl _)
     intro na0 out0 J la0 d5 g0
     have J2:=J.pV lb gy.2.1 d5
     have gx:=ya (Nat.lt_of_lt_of_le (Nat.sub_lt la0 Nat.one_pos) (Nat.le_trans g0 ua))
     refine wpS_bind (zu gy.1 (zl (fun e=>wpS_pure ⟨Sm',.res _ rfl (J2.sJ (firstB (Nat.le_of_eq (yG e))) endF)⟩) fun e=>wpS_bind (zu gx.1 ?_)))
     have lb1:1<nb-1:=gt1 I1.lb (z8 e)
     have ub1:nb-1≤b.size:=Nat.le_trans (Nat.sub_le _ _) I1.ub
     obtain⟨k1,c1,c2,c3,c4⟩:=uZ (a₀:=a₀) (key:=key) (left:=true) (x:=a.getD (na0-1) (Value.none,Value.none)) (arr:=b) (base:=0) (n:=nb-1) (Nat.le_trans (Nat.le_of_eq (Nat.zero_add _)) ub1) (sb.sublist (List.take_sublist _ _)) (fun u hu=>mb u (List.mem_of_mem_take hu))
     refine wpS_bind (wI L (Nat.sub_lt (Nat.lt_of_succ_lt lb1) Nat.one_pos) c1 c2 (ma _ gx.2.2) (Sm'.kind.trans hk) ?_)
     clear_value jp2
     dsimp -zeta only
     extract_lets kk1 bk na3 jp3 out3 nb3
     have J3:=J2.Zr c1 fun u hu v hv=>Int.le_trans (xt sa gx.2.1 u (jf la0 hu)) (c4 v hv)
     refine have h3:∀nb' out,Mh key a.toList b.toList out na0 nb'→1<nb'→(∀u∈b.toList.take nb',key u≤key (a.getD (na0-1) (Value.none,Value.none)))→nb'≤nb-1→wpS (model prog w) A E s (jp3 () nb' out) _ st2:=?_
      zl (fun _=>zl (fun e=>wpS_pure ⟨Sm',.res _ rfl (J3.sJ (firstB (Nat.le_of_eq (yG e))) endF)⟩) fun e=>zl (fun e'=>wpS_pure ⟨Sm',.res _ rfl (J3.WJ (yG e') (endZ (yG e')))⟩) fun e'=>h3 _ _ J3 (Nat.lt_of_le_of_ne (Nat.pos_of_ne_zero (z8 e')) (z8 e).symm) c3 c1)
       fun hk=>h3 _ _ J2 lb1 ((congrArg (fun n=>∀u∈b.toList.take n,key u≤key (a.getD (na0-1) (Value.none,Value.none))) (Nat.le_antisymm c1 (Nat.le_of_sub_eq_zero (Nat.eq_zero_of_not_pos hk)))).mp c3) (Nat.le_refl _)
     intro nb4 out4 J' lb4 d6 g4
     have J4:=J'.pushX la0 gx.2.1 d6
     refine wpS_bind (zu gx.1 (zl (fun e=>wpS_pure ⟨Sm',.res _ rfl (J4.qU (yG e) (endA (yG e)))⟩) fun e=>?_))
     have I4:HiI key a b none _ _ _ 1 (c.2.1+c.2.2.1):=⟨rfl,J4,Nat.pos_of_ne_zero (z8 e),lb4,Nat.le_trans (Nat.sub_le _ _) (Nat.le_trans g0 ua),Nat.le_trans g4 ub1,le4 g0 g4 gl⟩
     exact zl (fun _=>wpS_pure ⟨Sm',.go I4⟩) fun _=>wpS_pure ⟨Sm',I4⟩
end
end L2.Tim
end
section
namespace L2.Tim
open PySem PySem.W PySem.Calls PyProof PyProof.Rows
section
variable {prog:Program}{w:World}{A:Around}{E:Value→Shared→Prop}{s:Shared}{κ:SortKind}{a₀:Array Keyed}{key:Keyed→Int}
theorem ao{σ:Type}{M:Model}{x:σ}{Q:PUnit→σ→Prop}{st:σ}(h:Q ⟨⟩ x):wpS M A E s (set x:StateT σ Sem PUnit) Q st:=by
 unfold wpS;rw[StateT.run_set];exact wpAny_pure ⟨rfl,h⟩
theorem oQ{a:Array Keyed}{i:Nat}(h:i<a.size):kk key a i=key (a.toList[i]'(by rw[Array.length_toList];exact h)):=by
 unfold kk
 congr 1
 simp[Array.getD,h]
theorem wH{a:Array Keyed}{lo n:Nat}(h:lo+n≤a.size):((a.toList.drop lo).take n).length=n:=by rw[List.length_take,List.length_drop,Array.length_toList];omega
theorem dh{a:Array Keyed}{lo n:Nat}(h:lo+n≤a.size)(hs:SIn key a lo n):Srt key ((a.toList.drop lo).take n):=by
 unfold Srt
 rw[List.pairwise_iff_getElem]
 intro i j hi hj hij
 rw[wH h]at hi hj
 have e1:=oQ (key:=key) (a:=a) (i:=lo+i) (by omega)
 have e2:=oQ (key:=key) (a:=a) (i:=lo+j) (by omega)
 rw[List.getElem_take,List.getElem_drop,List.getElem_take,List.getElem_drop,←e1,←e2]
 exact hs i j (by omega) hj
theorem fz{a:Array Keyed}{lo n:Nat}(h:lo+n≤a.size)(hs:Srt key ((a.toList.drop lo).take n)):SIn key a lo n:=fun i j hij hj=>by
 by_cases e:i=j
 . subst e;exact Int.le_refl _
 . have:=List.pairwise_iff_getElem.mp hs i j (by rw[wH h];omega) (by rw[wH h];omega) (by omega)
   have e1:=oQ (key:=key) (a:=a) (i:=lo+i) (by omega)
   have e2:=oQ (key:=key) (a:=a) (i:=lo+j) (by omega)
   rw[List.getElem_take,List.getElem_drop,List.getElem_take,List.getElem_drop,←e1,←e2]at this
   exact this
theorem mL(o:Nat):∀(m:List Keyed) (j:Nat) (a:Array Keyed),o+j+m.length≤a.size→((m.zipIdx j).foldl (fun a p=>a.setIfInBounds (o+p.2) p.1) a).toList=a.toList.take (o+j)++m++a.toList.drop (o+j+m.length)
 |[],j,a,_=>by simp
 |x::t,j,a,h=>by
  rw[List.length_cons]at h
  rw[List.zipIdx_cons,List.foldl_cons,mL o t (j+1) _ (by rw[Array.size_setIfInBounds];omega)]
  have hl:o+j<a.toList.length:=by rw[Array.length_toList];omega
  show ((a.setIfInBounds (o+j) x).toList.take (o+(j+1))++t)++_=_
  rw[Array.toList_setIfInBounds]
  have e1:(a.toList.set (o+j) x).take (o+(j+1))=a.toList.take (o+j)++[x]:=by
   rw[show o+(j+1)=(o+j)+1 by omega,List.take_succ,List.take_set_of_le (Nat.le_refl _),List.getElem?_set_self hl];rfl
  have e2:(a.toList.set (o+j) x).drop (o+(j+1)+t.length)=a.toList.drop (o+j+(x::t).length):=by
   rw[List.drop_set_of_lt (by omega),List.length_cons];congr 1;omega
  rw[e1,e2,List.append_assoc,List.append_assoc,List.append_assoc];rfl
theorem dj{a a':Array Keyed}{sa n:Nat}{M:List Keyed}(hz:sa+n≤a.size)(hM:M.Perm ((a.toList.drop sa).take n))(e:a'.toList=a.toList.take sa++M++a.toList.drop (sa+n)):a'.Perm a∧(a'.toList.drop sa).take n=M∧∀j,j<sa∨sa+n≤j→a'[j]?=a[j]?:=by
 have hl:M.length=n:=by rw[hM.length_eq,wH hz]
 have ht:(a.toList.take sa).length=sa:=by rw[List.length_take,Array.length_toList];omega
 refine⟨?_,?_,fun j hj=>?_⟩
 . rw[Array.perm_iff_toList_perm,e]
   have e2:a.toList=a.toList.take sa++(a.toList.drop sa).take n++a.toList.drop (sa+n):=by
    rw[List.append_assoc,←uH,List.take_append_drop]
   refine List.Perm.trans ?_ (.of_eq e2.symm)
   exact(hM.append_left _).append_right _
 . rw[e,List.append_assoc,List.drop_append_of_le_length (by omega),List.drop_of_length_le (by omega),List.nil_append,List.take_append_of_le_length (by omega),List.take_of_length_le (by omega)]
 . rw[←Array.getElem?_toList,←Array.getElem?_toList,e,List.append_assoc]
   rcases hj with hj|hj
   . rw[List.getElem?_append_left (by omega),List.getElem?_take_of_lt hj]
   . rw[List.getElem?_append_right (by omega),List.getElem?_append_right (by omega),List.getElem?_drop]
     congr 1;omega
theorem ot{l m:List Keyed}(h1:Srt key l)(h2:Srt key m)(h:∀u∈l,∀v∈m,key u≤key v):Srt key (l++m):=List.pairwise_append.mpr ⟨h1,h2,h⟩
theorem lN(L:sr prog w A E s κ a₀ key){st:SortSt}{i sa na sb nb p1 p2:Nat}{Q:Bool→SortSt→Prop}(hB:Bs κ a₀ st)(h1:(pendingOf st)[i]?=some (sa,na,p1))(h2:(pendingOf st)[i+1]?=some (sb,nb,p2))(hs:sb=sa+na)(ha:0<na)(hb:0<nb)(hz:sb+nb≤a₀.size)(sA:SIn key (arrOf st) sa na)(sB:SIn key (arrOf st) sb nb)
 (h:∀st',Bs κ a₀ st'→pendingOf st'=((pendingOf st).setIfInBounds i (sa,na+nb,p1)).eraseIdxIfInBounds (i+1)→SIn key (arrOf st') sa (na+nb)→(∀j,j<sa∨sa+(na+nb)≤j→(arrOf st')[j]?=(arrOf st)[j]?)→Q true st') :
 wpS (model prog w) A E s (mergeAt' i) Q st:=by
 subst hs
 have hsz:=hB.size
 have mem:∀x∈(arrOf st).toList,x∈a₀.toList:=fun x hx=>(Array.perm_iff_toList_perm.mp hB.perm).mem_iff.mp hx
 have hkd:=hB.kind
 have hfl:=hB.fail
 have hpm:=hB.perm
 cases st with
 |mk kd a pd mg fl=>
 dsimp only[arrOf,pendingOf,PyProof.Rows.kindOf,failedOf]at *
 have srA:=dh (by omega) sA
 have srB:=dh (by omega) sB
 have gb:=ya (a:=a) (i:=sa+na) (by omega)
 have gl:=ya (a:=a) (i:=sa+na-1) (by omega)
 obtain⟨k,d1,d2,d3,d4⟩:=uZ (a₀:=a₀) (key:=key) (left:=false) (x:=a.getD (sa+na) (Value.none,Value.none)) (arr:=a) (base:=sa) (n:=na) (by omega) srA (fun u hu=>mem u (List.mem_of_mem_drop (List.mem_of_mem_take hu)))
 obtain⟨k1,c1,c2,c3,c4⟩:=uZ (a₀:=a₀) (key:=key) (left:=true) (x:=a.getD (sa+na-1) (Value.none,Value.none)) (arr:=a) (base:=sa+na) (n:=nb) (by omega) srB (fun u hu=>mem u (List.mem_of_mem_drop (List.mem_of_mem_take hu)))
 -- the two runs as lists
 have hAB:(a.toList.drop sa).take (na+nb)=(a.toList.drop sa).take na++(a.toList.drop (sa+na)).take nb:=by rw[List.take_add,List.drop_drop]
 have fst:∀u∈(a.toList.drop (sa+na)).take nb,key (a.getD (sa+na) (Value.none,Value.none))≤key u:=fun u hu=>by
  have e0:((a.toList.drop (sa+na)).take nb)[0]?=some (a.getD (sa+na) (Value.none,Value.none)):=by rw[List.getElem?_take_of_lt hb,List.getElem?_drop,Nat.add_zero];exact gb.2.1
  exact xr srB e0 u hu
 have lst:∀u∈(a.toList.drop sa).take na,key u≤key (a.getD (sa+na-1) (Value.none,Value.none)):=fun u hu=>by
  have e0:((a.toList.drop sa).take na)[na-1]?=some (a.getD (sa+na-1) (Value.none,Value.none)):=by rw[List.getElem?_take_of_lt (by omega),List.getElem?_drop,show sa+(na-1)=sa+na-1 by omega];exact gl.2.1
  exact xt srA e0 u (by rw[show na-1+1=na by omega,List.take_take,Nat.min_self];exact hu)
 have whole:(∀u∈(a.toList.drop sa).take na,∀v∈(a.toList.drop (sa+na)).take nb,key u≤key v)→SIn key a sa (na+nb):=fun hh=>fz (by omega) (by rw[hAB];exact ot srA srB hh)
 unfold mergeAt'
 refine wpS_bind (wpS_get ?_)
 dsimp only
 rw[h1,h2]
 dsimp only
 refine wpS_bind (ao ?_)
 refine wpS_bind (zu gb.1 (wpS_bind (wI L ha d1 d2 (mem _ gb.2.2) hkd ?_)))
 dsimp only
 by_cases e1:na-k=0
 . rw[if_pos (by simpa using e1)]
   refine wpS_pure (h _ ⟨hkd,hpm,hfl⟩ rfl (whole fun u hu v hv=>?_) fun j _=>rfl)
   rw[show na=k by omega]at hu
   exact Int.le_trans (d3 u hu) (fst v hv)
 . rw[if_neg (by simpa using e1)]
   rw[show sa+k+(na-k)-1=sa+na-1 by omega]
   refine wpS_bind (zu gl.1 (wpS_bind (wI L (show nb-1<nb by omega) c1 c2 (mem _ gl.2.2) hkd ?_)))
   dsimp only
   by_cases e2:k1=0
   . rw[if_pos (by simpa using e2)]
     refine wpS_pure (h _ ⟨hkd,hpm,hfl⟩ rfl (whole fun u hu v hv=>?_) fun j _=>rfl)
     rw[e2,List.drop_zero]at c4
     exact Int.le_trans (lst u hu) (c4 v hv)
   . rw[if_neg (by simpa using e2)]
     have ex:(a.extract (sa+k) (sa+na)).toList=((a.toList.drop sa).take na).drop k:=by
      rw[Array.toList_extract,List.extract_eq_drop_take,List.drop_take,List.drop_drop,show sa+na-(sa+k)=na-k by omega]
     have ey:(a.extract (sa+na) (sa+na+k1)).toList=(a.toList.drop (sa+na)).take k1:=oI
     have eyy:(a.toList.drop (sa+na)).take k1=((a.toList.drop (sa+na)).take nb).take k1:=by rw[List.take_take,Nat.min_eq_left c1]
     have lx:(a.extract (sa+k) (sa+na)).size=na-k:=by rw[←Array.length_toList,ex,List.length_drop,wH (by omega)]
     have ly:(a.extract (sa+na) (sa+na+k1)).size=k1:=by rw[←Array.length_toList,ey,wH (by omega)]
     have y0:(a.extract (sa+na) (sa+na+k1)).getD 0 (Value.none,Value.none)=a.getD (sa+na) (Value.none,Value.none):=by
      have:=(ya (a:=a.extract (sa+na) (sa+na+k1)) (i:=0) (by omega)).2.1
      rw[ey,List.getElem?_take_of_lt (by omega),List.getElem?_drop,Nat.add_zero,gb.2.1]at this
      exact(Option.some.inj this).symm
     have xl:(a.extract (sa+k) (sa+na)).getD ((a.extract (sa+k) (sa+na)).size-1) (Value.none,Value.none)=a.getD (sa+na-1) (Value.none,Value.none):=by
      have:=(ya (a:=a.extract (sa+k) (sa+na)) (i:=(a.extract (sa+k) (sa+na)).size-1) (by omega)).2.1
      rw[lx]at this ⊢
      rw[ex,List.getElem?_drop,List.getElem?_take_of_lt (by omega),List.getElem?_drop,show sa+(k+(na-k-1))=sa+na-1 by omega,gl.2.1]at this
      exact(Option.some.inj this).symm
     have fin:∀(r:Array Keyed) (st2:SortSt),Sm (SortSt.mk' kd a ((pd.setIfInBounds i (sa,na+nb,p1)).eraseIdxIfInBounds (i+1)) mg fl) st2→Res key (a.extract (sa+k) (sa+na)).toList (a.extract (sa+na) (sa+na+k1)).toList r →
      Q (failedOf st2).isNone (SortSt.mk' (PyProof.Rows.kindOf st2) (r.toList.zipIdx.foldl (fun a p=>a.setIfInBounds (sa+k+p.2) p.1) (arrOf st2)) (pendingOf st2) (gallopOf st2) (failedOf st2)):=fun r st2 S R=>by
      have f1:=S.fail
      have f2:=S.arr
      have f3:=S.pend
      have f4:=S.kind
      dsimp only[arrOf,pendingOf,PyProof.Rows.kindOf,failedOf]at f1 f2 f3 f4
      have hrl:r.toList.length=na-k+k1:=by rw[R.perm.length_eq,List.length_append,Array.length_toList,Array.length_toList,lx,ly]
      have pl:=mL (sa+k) r.toList 0 a (by omega)
      rw[Nat.add_zero,hrl,show sa+k+(na-k+k1)=sa+na+k1 by omega]at pl
      have sp:a.toList.take (sa+k)=a.toList.take sa++(a.toList.drop sa).take k:=List.take_add
      have sq:a.toList.drop (sa+na+k1)=((a.toList.drop (sa+na)).take nb).drop k1++a.toList.drop (sa+(na+nb)):=by
       have:=(wQ (X:=a.toList.drop (sa+na)) c1).2
       rw[List.drop_drop,List.drop_drop]at this
       rw[this];congr 2;omega
      rw[sp,sq]at pl
      have pl2:(r.toList.zipIdx.foldl (fun a p=>a.setIfInBounds (sa+k+p.2) p.1) a).toList=a.toList.take sa++((a.toList.drop sa).take k++r.toList++((a.toList.drop (sa+na)).take nb).drop k1)++a.toList.drop (sa+(na+nb)):=by
       rw[pl];simp only[List.append_assoc]
      have rp:=R.perm
      rw[ex,ey,eyy]at rp
      have ekk:(a.toList.drop sa).take k=((a.toList.drop sa).take na).take k:=by rw[List.take_take,Nat.min_eq_left d1]
      have hMp:((a.toList.drop sa).take k++r.toList++((a.toList.drop (sa+na)).take nb).drop k1).Perm ((a.toList.drop sa).take (na+nb)):=by
       rw[hAB]
       refine((rp.append_left _).append_right _).trans ?_
       rw[ekk,←List.append_assoc,List.take_append_drop,List.append_assoc,List.take_append_drop]
      obtain⟨w1,w2,w3⟩:=dj (n:=na+nb) (by omega) hMp pl2
      have hsrt:Srt key ((a.toList.drop sa).take k++r.toList++((a.toList.drop (sa+na)).take nb).drop k1):=by
       have inr:∀u∈r.toList,u∈((a.toList.drop sa).take na).drop k∨u∈((a.toList.drop (sa+na)).take nb).take k1:=fun u hu=>List.mem_append.mp (rp.mem_iff.mp hu)
       refine ot (ot (by rw[ekk];exact srA.sublist (List.take_sublist _ _)) R.srt fun u hu v hv=>?_) (srB.sublist (List.drop_sublist _ _)) fun u hu v hv=>?_
       . rcases inr v hv with hv|hv
         . exact Int.le_trans (d3 u hu) (d4 v hv)
         . exact Int.le_trans (d3 u hu) (fst v (List.mem_of_mem_take hv))
       . rcases List.mem_append.mp hu with hu|hu
         . exact Int.le_trans (d3 u hu) (fst v (List.mem_of_mem_drop hv))
         . rcases inr u hu with hu|hu
           . exact Int.le_trans (lst u (List.mem_of_mem_drop hu)) (c4 v hv)
           . rw[←eyy]at hu
             exact Int.le_trans (c3 u hu) (c4 v hv)
      have f0:failedOf st2=none:=f1.trans hfl
      have q0:(failedOf st2).isNone=true:=by rw[f0];rfl
      rw[q0]
      refine h _ ⟨f4.trans hkd,?_,f0⟩ f3 ?_ ?_
      . show (r.toList.zipIdx.foldl _ (arrOf st2)).Perm a₀
        rw[show arrOf st2=a from f2]
        exact w1.trans hpm
      . show SIn key (r.toList.zipIdx.foldl _ (arrOf st2)) sa (na+nb)
        rw[show arrOf st2=a from f2]
        exact fz (by rw[w1.size_eq];omega) (by rw[w2];exact hsrt)
      . show ∀j,_→(r.toList.zipIdx.foldl _ (arrOf st2))[j]?=_
        rw[show arrOf st2=a from f2]
        exact w3
     have mx:∀x∈(a.extract (sa+k) (sa+na)).toList,x∈a₀.toList:=fun x hx=>mem x (by rw[ex]at hx;exact List.mem_of_mem_drop (List.mem_of_mem_take (List.mem_of_mem_drop hx)))
     have my:∀x∈(a.extract (sa+na) (sa+na+k1)).toList,x∈a₀.toList:=fun x hx=>mem x (by rw[ey]at hx;exact List.mem_of_mem_drop (List.mem_of_mem_take hx))
     have sx:Srt key (a.extract (sa+k) (sa+na)).toList:=by rw[ex];exact srA.sublist (List.drop_sublist _ _)
     have sy:Srt key (a.extract (sa+na) (sa+na+k1)).toList:=by rw[ey,eyy];exact srB.sublist (List.take_sublist _ _)
     have hx1:∀u∈(a.extract (sa+k) (sa+na)).toList,key ((a.extract (sa+na) (sa+na+k1)).getD 0 (Value.none,Value.none))≤key u:=by
      rw[y0,ex];exact d4
     have hy1:∀u∈(a.extract (sa+na) (sa+na+k1)).toList,key u≤key ((a.extract (sa+k) (sa+na)).getD ((a.extract (sa+k) (sa+na)).size-1) (Value.none,Value.none)):=by
      rw[xl,ey];exact c3
     refine zl (fun _=>?_) fun _=>?_
     . exact wpS_bind (Vr L (by omega) (by omega) mx my sx sy hx1 hy1 hkd fun r st2 S R=>wpS_bind (wpS_modify (wpS_bind (wpS_get (wpS_pure (fin r st2 S R))))))
     . exact wpS_bind (Vq L (by omega) (by omega) mx my sx sy hx1 hy1 hkd fun r st2 S R=>wpS_bind (wpS_modify (wpS_bind (wpS_get (wpS_pure (fin r st2 S R))))))
end
end L2.Tim
end
section
namespace L2.Tim
open PySem PySem.W PySem.Calls PyProof PyProof.Rows
section
variable {prog:Program}{w:World}{A:Around}{E:Value→Shared→Prop}{s:Shared}{κ:SortKind}{a₀:Array Keyed}{key:Keyed→Int}
noncomputable def Runs(key:Keyed→Int)(a:Array Keyed):Nat→List (Nat × Nat × Nat)→Nat→Prop
 |st,[],fin=>st=fin
 |st,(x,n,_)::r,fin=>x=st∧0<n∧SIn key a x n∧Runs key a (st+n) r fin
theorem uw{a:Array Keyed}:∀{l r:List (Nat × Nat × Nat)} {st fin:Nat},Runs key a st (l++r) fin↔∃m,Runs key a st l m∧Runs key a m r fin
 |[],r,st,fin=>⟨fun h=>⟨st,rfl,h⟩,fun⟨m,h1,h2⟩=>by cases h1;exact h2⟩
 |(x,n,p)::l,r,st,fin=>by
  show (x=st∧0<n∧SIn key a x n∧Runs key a (st+n) (l++r) fin)↔_
  rw[uw (l:=l)]
  exact⟨fun⟨h1,h2,h3,m,h4,h5⟩=>⟨m,⟨h1,h2,h3,h4⟩,h5⟩,fun⟨m,⟨h1,h2,h3,h4⟩,h5⟩=>⟨h1,h2,h3,m,h4,h5⟩⟩
theorem ux{a:Array Keyed}:∀{l:List (Nat × Nat × Nat)} {st fin:Nat},Runs key a st l fin→st+l.length≤fin
 |[],st,fin,h=>by cases h;exact Nat.le_refl _
 |(x,n,p)::l,st,fin,h=>by
  have:=ux h.2.2.2
  have:=h.2.1
  rw[List.length_cons];omega
theorem wN{a b:Array Keyed}:∀{l:List (Nat × Nat × Nat)} {st fin:Nat},(∀j,st≤j→j<fin→b[j]?=a[j]?)→Runs key a st l fin→Runs key b st l fin
 |[],st,fin,_,h=>h
 |(x,n,p)::l,st,fin,hc,h=>by
  have hl:=ux h.2.2.2
  refine⟨h.1,h.2.1,fun i j hij hj=>?_,wN (fun j h1 h2=>hc j (by omega) h2) h.2.2.2⟩
  have hx:=h.1
  rw[xN (hc (x+i) (by omega) (by omega)),xN (hc (x+j) (by omega) (by omega))]
  exact h.2.2.1 i j hij hj
structure Rn(κ:SortKind)(a₀:Array Keyed)(key:Keyed→Int)(lo:Nat)(st:SortSt):Prop where
 bs:Bs κ a₀ st
 runs:Runs key (arrOf st) 0 (pendingOf st).toList lo
theorem pZ{a b:Array Keyed}{lo n:Nat}(h:∀j,lo≤j→b[j]?=a[j]?)(hs:SIn key a lo n):SIn key b lo n:=fun i j hij hj=>by
 rw[xN (h (lo+i) (by omega)),xN (h (lo+j) (by omega))];exact hs i j hij hj
theorem pY{a:Array Keyed}:∀{l l':List (Nat × Nat × Nat)} {st fin:Nat},l.map (fun x=>(x.1,x.2.1))=l'.map (fun x=>(x.1,x.2.1))→Runs key a st l fin→Runs key a st l' fin
 |[],[],st,fin,_,h=>h
 |[],_::_,st,fin,e,h=>by cases e
 |_::_,[],st,fin,e,h=>by cases e
 |(x,n,p)::l,(x',n',p')::l',st,fin,e,h=>by
  rw[List.map_cons,List.map_cons]at e
  injection e with e1 e2
  injection e1 with e3 e4
  dsimp only at e3 e4
  subst e3 e4
  exact⟨h.1,h.2.1,h.2.2.1,pY e2 h.2.2.2⟩
theorem se{st:SortSt}{lo n:Nat}(h:Rn κ a₀ key lo st)(hs:SIn key (arrOf st) lo n)(hn:0<n):Rn κ a₀ key (lo+n) (setPending st ((pendingOf st).push (lo,n,0))):=by
 refine⟨⟨h.bs.kind,h.bs.perm,h.bs.fail⟩,?_⟩
 show Runs key (arrOf st) 0 ((pendingOf st).push (lo,n,0)).toList (lo+n)
 rw[Array.toList_push,uw]
 exact⟨lo,h.runs,rfl,hn,hs,rfl⟩
theorem eV{st:SortSt}{lo k pw:Nat}(h:Rn κ a₀ key lo st):Rn κ a₀ key lo (setPending st ((pendingOf st).modify k fun x=>(x.1,x.2.1,pw))):=by
 refine⟨⟨h.bs.kind,h.bs.perm,h.bs.fail⟩,?_⟩
 show Runs key (arrOf st) 0 ((pendingOf st).modify k fun x=>(x.1,x.2.1,pw)).toList lo
 refine pY ?_ h.runs
 rw[Array.toList_modify]
 refine List.ext_getElem? fun i=>?_
 rw[List.getElem?_map,List.getElem?_map,List.getElem?_modify]
 cases (pendingOf st).toList[i]? with
 |none=>rfl
 |some v=>
  show some (v.1,v.2.1)=some ((if k=i then (v.1,v.2.1,pw) else v).1,(if k=i then (v.1,v.2.1,pw) else v).2.1)
  split<;>rfl
theorem fD{c:Prop} [Decidable c] {a b n:Nat}(ha:a+1<n)(hb:b+1<n):(if c then a else b)+1<n:=by
 by_cases h:c
 . rw[if_pos h];exact ha
 . rw[if_neg h];exact hb
theorem Xe{α:Type}{l:List α}{i:Nat}(h:i+1<l.length):∃l1 x y l2,l=l1++x::y::l2∧l1.length=i:=by
 refine⟨l.take i,l[i],l[i+1],l.drop (i+2),?_,by rw[List.length_take];omega⟩
 rw[←List.drop_eq_getElem_cons,←List.drop_eq_getElem_cons,List.take_append_drop]
theorem rg(L:sr prog w A E s κ a₀ key){st:SortSt}{i lo:Nat}{Q:Bool→SortSt→Prop}(h:Rn κ a₀ key lo st)(hlo:lo≤a₀.size)(hi:i+1<(pendingOf st).size)
 (q:∀st',Rn κ a₀ key lo st'→(pendingOf st').size+1=(pendingOf st).size→(∀j,lo≤j→(arrOf st')[j]?=(arrOf st)[j]?)→Q true st'):wpS (model prog w) A E s (mergeAt' i) Q st:=by
 obtain⟨l1,⟨xa,na,pa⟩,⟨xb,nb,pb⟩,l2,el,hl1⟩:=Xe (l:=(pendingOf st).toList) (i:=i) (by rw[Array.length_toList];exact hi)
 have hr:=h.runs
 rw[el,uw]at hr
 obtain⟨m,r1,ea,ha,sA,eb,hb,sB,r2⟩:=hr
 subst ea
 subst eb
 have hr2:=ux r2
 have hr1:=ux r1
 have g1:(pendingOf st)[i]?=some (xa,na,pa):=by rw[←Array.getElem?_toList,el,List.getElem?_append_right (by omega),hl1,Nat.sub_self];rfl
 have g2:(pendingOf st)[i+1]?=some (xa+na,nb,pb):=by rw[←Array.getElem?_toList,el,List.getElem?_append_right (by omega),hl1,Nat.add_sub_cancel_left];rfl
 refine lN L h.bs g1 g2 rfl ha hb (by omega) sA sB fun st' hB' hp hs hk=>q st' ⟨hB',?_⟩ ?_ fun j hj=>hk j (.inr (by omega))
 . have ep:(pendingOf st').toList=l1++(xa,na+nb,pa)::l2:=by
    rw[hp,Array.eraseIdxIfInBounds,dif_pos (by rw[Array.size_setIfInBounds];exact hi),Array.toList_eraseIdx,Array.toList_setIfInBounds,el]
    rw[List.set_append_right _ _ (by omega),hl1,Nat.sub_self,List.set_cons_zero,List.eraseIdx_append_of_length_le (by omega),hl1,Nat.add_sub_cancel_left]
    rfl
   rw[ep,uw]
   refine⟨xa,wN (fun j _ hj=>hk j (.inl hj)) r1,rfl,by omega,hs,?_⟩
   rw[←Nat.add_assoc]
   exact wN (fun j hj _=>hk j (.inr (by omega))) r2
 . rw[hp,Array.eraseIdxIfInBounds,dif_pos (by rw[Array.size_setIfInBounds];exact hi),Array.size_eraseIdx,Array.size_setIfInBounds]
   omega
theorem aO(L:sr prog w A E s κ a₀ key)(D:Dis key a₀){st:SortSt}{Q:Unit→SortSt→Prop}(hB:Bs κ a₀ st)(hp:pendingOf st=#[])(h2:2≤a₀.size)
 (q:∀st',Bs κ a₀ st'→SIn key (arrOf st') 0 a₀.size→Q () st'):wpS (model prog w) A E s sortRuns' Q st:=by
 rw[sortRuns'_eq]
 refine wpS_bind (wpS_get ?_)
 dsimp only
 rw[hB.size]
 generalize minRun' a₀.size a₀.size 0=mr
 refine wpS_bind (wpS_mono (wpS_forRange (I:=fun x c st'=>∃lo,c=(none,lo)∧x≤lo∧lo≤a₀.size∧Rn κ a₀ key lo st') (Q:=fun c st'=>c=(none,a₀.size)∧Rn κ a₀ key a₀.size st') ?step ?fin ⟨0,rfl,Nat.le_refl _,Nat.zero_le _,hB,by rw[hp];rfl⟩) ?post)
 case fin=>
  rintro c st' ⟨lo,rfl,h1,h2,hR⟩
  have:lo=a₀.size:=by omega
  subst this
  exact⟨rfl,hR⟩
 case step=>
  rintro x c st' _ hx ⟨lo,rfl,h1,hlo,hR⟩
  dsimp only
  by_cases hge:lo ≥ a₀.size
  . rw[if_pos hge]
    have:lo=a₀.size:=by omega
    subst this
    exact wpS_pure ⟨rfl,hR⟩
  . rw[if_neg hge]
    refine wpS_bind (d0 L D (by omega) (by omega) hR.bs fun m st2 hB2 pre2 pe2 m1 m2 s2=>?_)
    dsimp only
    have hR2:Rn κ a₀ key lo st2:=⟨hB2,by rw[pe2];exact wN (fun j _ hj=>pre2 j hj) hR.runs⟩
    by_cases hm:m<mr
    . rw[if_pos hm]
      refine wpS_bind (wpS_lift (wpAny_rule ⟨rfl,?_⟩))
      refine wpS_bind (Xu L (show lo+min (a₀.size-lo) mr≤a₀.size by omega) (by omega) hB2 s2 fun st3 hB3 pre3 pe3 s3=>?_)
      rw[if_neg (by simp)]
      have hR3:Rn κ a₀ key lo st3:=⟨hB3,by rw[pe3];exact wN (fun j _ hj=>pre3 j hj) hR2.runs⟩
      refine wpS_bind (wpS_get ?_)
      cases hbk:(pendingOf st3).back? with
      |none=>
       dsimp only
       exact wpS_bind (wpS_modify (wpS_pure ⟨lo+min (a₀.size-lo) mr,rfl,by omega,by omega,se hR3 s3 (by omega)⟩))
      |some v=>
       obtain⟨s1,n1,p1⟩:=v
       dsimp only
       refine wpS_bind (wpS_mono (wpS_forRange (I:=fun y c st4=>c=(none,())∧Rn κ a₀ key lo st4∧SIn key (arrOf st4) lo (min (a₀.size-lo) mr)) (Q:=fun c st4=>c=(none,())∧Rn κ a₀ key lo st4∧SIn key (arrOf st4) lo (min (a₀.size-lo) mr)) (fun y c st4 _ _ hI=>?_) (fun c st4 hI=>hI) ⟨rfl,hR3,s3⟩) ?_)
       . obtain⟨rfl,hR4,hs4⟩:=hI
         refine wpS_bind (wpS_get ?_)
         by_cases hp1:(pendingOf st4).size > 1
         . rw[if_pos hp1,getElem?_pos (pendingOf st4) ((pendingOf st4).size-2) (by omega)]
           dsimp only
           refine zl (fun _=>wpS_pure ⟨rfl,hR4,hs4⟩) fun _=>wpS_bind (rg L hR4 (by omega) (by omega) fun st5 hR5 _ hk5=>?_)
           rw[if_neg (by simp)]
           exact wpS_pure ⟨rfl,hR5,pZ (fun j hj=>hk5 j hj) hs4⟩
         . rw[if_neg hp1]
           exact wpS_pure ⟨rfl,hR4,hs4⟩
       . rintro c st4 ⟨rfl,hR4,hs4⟩
         dsimp only
         exact wpS_bind (wpS_modify (wpS_bind (wpS_modify (wpS_pure ⟨lo+min (a₀.size-lo) mr,rfl,by omega,by omega,se (eV hR4) hs4 (by omega)⟩))))
    . rw[if_neg hm]
      refine wpS_bind (wpS_get ?_)
      cases hbk:(pendingOf st2).back? with
      |none=>
       dsimp only
       exact wpS_bind (wpS_modify (wpS_pure ⟨lo+m,rfl,by omega,by omega,se hR2 s2 (by omega)⟩))
      |some v=>
       obtain⟨s1,n1,p1⟩:=v
       dsimp only
       refine wpS_bind (wpS_mono (wpS_forRange (I:=fun y c st4=>c=(none,())∧Rn κ a₀ key lo st4∧SIn key (arrOf st4) lo (m)) (Q:=fun c st4=>c=(none,())∧Rn κ a₀ key lo st4∧SIn key (arrOf st4) lo (m)) (fun y c st4 _ _ hI=>?_) (fun c st4 hI=>hI) ⟨rfl,hR2,s2⟩) ?_)
       . obtain⟨rfl,hR4,hs4⟩:=hI
         refine wpS_bind (wpS_get ?_)
         by_cases hp1:(pendingOf st4).size > 1
         . rw[if_pos hp1,getElem?_pos (pendingOf st4) ((pendingOf st4).size-2) (by omega)]
           dsimp only
           refine zl (fun _=>wpS_pure ⟨rfl,hR4,hs4⟩) fun _=>wpS_bind (rg L hR4 (by omega) (by omega) fun st5 hR5 _ hk5=>?_)
           rw[if_neg (by simp)]
           exact wpS_pure ⟨rfl,hR5,pZ (fun j hj=>hk5 j hj) hs4⟩
         . rw[if_neg hp1]
           exact wpS_pure ⟨rfl,hR4,hs4⟩
       . rintro c st4 ⟨rfl,hR4,hs4⟩
         dsimp only
         exact wpS_bind (wpS_modify (wpS_bind (wpS_modify (wpS_pure ⟨lo+m,rfl,by omega,by omega,se (eV hR4) hs4 (by omega)⟩))))
 case post=>
  rintro c st' ⟨rfl,hR⟩
  dsimp only
  have hle:=ux hR.runs
  rw[Array.length_toList]at hle
  refine wpS_bind (wpS_mono (wpS_forRange (I:=fun x c st4=>c=(none,())∧Rn κ a₀ key a₀.size st4∧((pendingOf st4).size≤1∨(pendingOf st4).size+x≤a₀.size)) (Q:=fun c st4=>c=(none,())∧Rn κ a₀ key a₀.size st4∧(pendingOf st4).size≤1) (fun y c st4 _ _ hI=>?_) (fun c st4 hI=>⟨hI.1,hI.2.1,by have:=hI.2.2;omega⟩) ⟨rfl,hR,.inr (by omega)⟩) ?_)
  . obtain⟨rfl,hR4,hs4⟩:=hI
    refine wpS_bind (wpS_get ?_)
    refine zl (fun h1=>wpS_pure ⟨rfl,hR4,h1⟩) fun h1=>wpS_bind (rg L hR4 (Nat.le_refl _) (fD (by omega) (by omega)) fun st5 hR5 hz5 _=>?_)
    rw[if_neg (by simp)]
    exact wpS_pure ⟨rfl,hR5,.inr (by omega)⟩
  . rintro c st4 ⟨rfl,hR4,h1⟩
    refine wpS_pure (q st4 hR4.bs ?_)
    have hr:=hR4.runs
    rw[←Array.length_toList]at h1
    match hl:(pendingOf st4).toList,hr,h1 with
    |[],hr,_=>exact absurd (show 0=a₀.size from hr) (by omega)
    |[(x,n,p)],hr,_=>
     obtain⟨rfl,_,hs,he⟩:=hr
     have he':0+n=a₀.size:=he
     rw[←he',Nat.zero_add];exact hs
    |_::_::_,_,h1=>rw[List.length_cons,List.length_cons]at h1;omega
end
end L2.Tim
end
section
namespace L2
open PySem PySem.W PySem.Calls PyProof PyProof.Rows
noncomputable def xQ:List Int→List Int→Bool
 |x::xs,y::ys=>if x=y then xQ xs ys else decide (x<y)
 |[],_::_=>true
 |_,[]=>false
noncomputable def fh(d:Bool):List Int→List Int→Bool
 |x::xs,y::ys=>if x=y then fh d xs ys else decide (x<y)
 |_,_=>d
theorem jP:∀xs ys:List Int,fh (decide (xs.length<ys.length)) xs ys=xQ xs ys
 |[],[]=>rfl
 |[],_::_=>decide_eq_true (Nat.succ_pos _)
 |_::_,[]=>rfl
 |x::xs,y::ys=>by
  have:=jP xs ys
  have e:decide ((x::xs).length<(y::ys).length)=decide (xs.length<ys.length):=decide_eq_decide.mpr Nat.add_lt_add_iff_right
  unfold fh xQ
  rw[e,this]
theorem r0{α β:Type}{f:α→β}:∀{l:List α} {l':List β},l'.Perm (l.map f)→∃m:List α,m.Perm l∧m.map f=l'
 |[],l',h=>⟨[],.refl _,(List.perm_nil.mp h).symm⟩
 |a::t,l',h=>by
  obtain⟨s,r,rfl⟩:=List.append_of_mem (h.mem_iff.mpr (.head _))
  obtain⟨m,h1,h2⟩:=r0 (l:=t) (List.perm_cons (f a) |>.mp ((List.perm_middle.symm).trans h))
  obtain⟨m1,m2,rfl,rfl,rfl⟩:=List.map_eq_append_iff.mp h2
  exact⟨m1++a::m2,List.perm_middle.trans (h1.cons a),by rw[List.map_append,List.map_cons]⟩
section
variable {prog:Program}{w:World}{A:Around}{E:Value→Shared→Prop}{κ:SortKind}{s:Shared}
theorem nZ{d:Bool}{Q:Bool→Shared→Prop}:∀{us vs:List Value} {xs ys:List Int} (i:Nat),vO us xs→vO vs ys→Q (fh d xs ys) s→KatLex prog w A true d Q (us.zip vs) i s
 |_,_,_,_,i,.nil,.nil,h=>h
 |_,_,_,_,i,.nil,.cons _,h=>h
 |_,_,_,_,i,.cons _,.nil,h=>h
 |_,_,_,_,i,.cons (i:=a) (t:=t) (us:=us) (ns:=xs) r,.cons (i:=b) (t:=u) (us:=vs) (ns:=ys) r',h=>by
  show KatLex prog w A true d Q ((Value.int a t,Value.int b u)::us.zip vs) i s
  unfold fh at h
  refine kat_cons (wpAny_eqBool_int (kat_go (fun e=>?_) fun e=>?_))
  . rw[if_pos (of_decide_eq_true e)]at h
    exact kat_yes (nZ (i+1) r r' h)
  . rw[if_neg (of_decide_eq_false e)]at h
    refine kat_no ?_
    cases i with
    |zero=>exact oneLt_int h
    |succ i=>exact kat_one _ _ (lt_int h)
noncomputable def itm(vs:List Value)(i:Nat):Keyed:=(vs.getD i Value.none,vs.getD i Value.none)
theorem jJ(vs:List Value):(vs.toArray.zip vs.toArray).toList=(List.range vs.length).map (itm vs):=by
 rw[Array.toList_zip]
 apply List.ext_getElem
 . simp
 . intro i h1 h2
   have hi:i<vs.length:=by simpa using h2
   simp[itm,List.getD_eq_getElem?_getD,List.getElem?_eq_getElem hi]
theorem dg{l:Addr}{vs:List Value}{key:Keyed→Int}{Q:Value→Shared→Prop}(hl:s.heap.IsList l vs.toArray)(h2:2≤vs.length)(hz:vs.length≤16777216)
 (kind:∀h' (Q':SortKind→Shared→Prop),(∀b o,s.heap.get? b=some o→h'.get? b=some o)→Q' κ {s with heap:=h'}→wpAny (model prog w) A.in1.in1 (keyKind' vs.toArray) Q' (fun _ _=>False) {s with heap:=h'})
 (ask:∀h' i j C,(∀b o,s.heap.get? b=some o→h'.get? b=some o)→i<vs.length→j<vs.length→C (decide (key (itm vs i)<key (itm vs j))) {s with heap:=h'}→wpAny (model prog w) A.in1.in1 (keyLt' κ (vs.getD i Value.none) (vs.getD j Value.none)) C (fun _ _=>False) {s with heap:=h'})
 (dis:∀i j,i<vs.length→j<vs.length→key (itm vs i)=key (itm vs j)→i=j)
 (h:∀(h':Heap) (c:Nat) (ix:List Nat),(∀b o,s.heap.get? b=some o→h'.get? b=some o)→ix.Perm (List.range vs.length)→ix.Pairwise (fun i j=>key (itm vs i)<key (itm vs j)) →
  h'.get? (s.heap.objs.size+1)=some (seqObj "list" (ix.map fun i=>vs.getD i Value.none).toArray c)→Q (.ref (s.heap.objs.size+1)) {s with heap:=h'}) :
 wpAny (model prog w) A (call (.builtin "sorted") [.ref l]) Q E s:=by
 have hs0:(vs.toArray.zip vs.toArray).size=vs.length:=by simp
 have un:∀{a:Array Keyed},a.Perm (vs.toArray.zip vs.toArray)→∃ix:List Nat,ix.Perm (List.range vs.length)∧ix.map (itm vs)=a.toList:=fun{a} hp=>r0 (by rw[←jJ];exact Array.perm_iff_toList_perm.mp hp)
 have kk_at:∀{a:Array Keyed} {ix:List Nat} (i:Nat) (hi:i<ix.length),ix.map (itm vs)=a.toList→Tim.kk key a i=key (itm vs ix[i]):=fun{a ix} i hi e=>by
  unfold Tim.kk
  rw[Array.getD_eq_getD_getElem?,←Array.getElem?_toList,←e,List.getElem?_map,List.getElem?_eq_getElem hi]
  rfl
 have ixl:∀{ix:List Nat},ix.Perm (List.range vs.length)→ix.length=vs.length:=fun hp=>by rw[hp.length_eq,List.length_range]
 have ixm:∀{ix:List Nat},ix.Perm (List.range vs.length)→∀i (hi:i<ix.length),ix[i]<vs.length:=fun hp i hi=>List.mem_range.mp (hp.mem_iff.mp (List.getElem_mem hi))
 have hD:Tim.Dis key (vs.toArray.zip vs.toArray):=fun a hp i j hi hj hij e=>by
  obtain⟨ix,p1,p2⟩:=un hp
  rw[hs0,←ixl p1]at hi hj
  rw[kk_at i hi p2,kk_at j hj p2]at e
  exact hij ((List.getElem_inj (p1.nodup_iff.mpr List.nodup_range)).mp (dis _ _ (ixm p1 i hi) (ixm p1 j hj) e))
 refine Calls.call_function_entry kind_sorted plain_sorted entry_sorted (args_sorted1 _) ?_
 unfold Builtin.«sorted»
 refine wpAny_bind (m:=checkCount "sorted" 1 1 _) (wpAny_pure ?_)
 refine wpAny_bind (collect_list hl ?_ (by rw[sizeLine_eq];omega))
 refine wpAny_bind (wpAny_newList ?_ (by rw[sizeLine_eq];omega))
 have hsz:((s.heap.push (seqObj "list" #[] 0)).update s.heap.objs.size (Obj.mapSeq (·++vs.toArray))).objs.size=s.heap.objs.size+1:=by
  rw[Heap.size_update,size_push']
 have hoL:(((s.heap.push (seqObj "list" #[] 0)).update s.heap.objs.size (Obj.mapSeq (·++vs.toArray))).push (seqObj "list" vs.toArray 0)).get? (s.heap.objs.size+1)=some (seqObj "list" vs.toArray 0):=by
  rw[←hsz];exact Heap.get?_push_size _ rfl
 have keep:∀b o,s.heap.get? b=some o→(((s.heap.push (seqObj "list" #[] 0)).update s.heap.objs.size (Obj.mapSeq (·++vs.toArray))).push (seqObj "list" vs.toArray 0)).get? b=some o:=fun b o q=>by
  have hlt:b<s.heap.objs.size:=Heap.lt_size q
  rw[Heap.get?_push_ne _ _ _ (by rw[hsz];exact Nat.ne_of_lt (Nat.lt_succ_of_lt hlt)),Heap.get?_update_ne _ _ _ _ (Nat.ne_of_lt hlt),Heap.get?_push_ne _ _ _ (Nat.ne_of_lt hlt)]
  exact q
 show wpAny _ _ _ _ _ {s with heap:=((s.heap.push (seqObj "list" #[] 0)).update s.heap.objs.size (Obj.mapSeq (·++vs.toArray))).push (seqObj "list" vs.toArray 0)}
 rw[hsz]
 generalize hg:((s.heap.push (seqObj "list" #[] 0)).update s.heap.objs.size (Obj.mapSeq (·++vs.toArray))).push (seqObj "list" vs.toArray 0)=g at hoL keep ⊢
 refine wpAny_bind (wpAny_holding (wpAny_call_entry slot_list_sort ⟨_,hoL,rfl⟩ entry_list_sort ?body (args_list_sort _)))
 case body=>
  rw[list_sort_plain]
  refine wpAny_bind (listItems_at hoL rfl ?_)
  refine wpAny_bind (listUpdate_at hoL rfl ?_ (by rw[List.size_toArray,sizeLine_eq];omega) (Nat.zero_le _))
  obtain⟨e1,ho1⟩:∃e1,(g.update (s.heap.objs.size+1) (Obj.mapSeq fun _=>(#[]:Array Value))).get? (s.heap.objs.size+1)=some (seqObj "list" #[] e1):=⟨_,get?_update_seq hoL fun _=>#[]⟩
  refine wpAny_bind (seqEpoch_at ho1 rfl ?_)
  refine wpAny_bind (wpAny_newTuple ?_ (by show vs.length≤_;rw[sizeLine_eq];omega))
  refine wpAny_bind (wpAny_newList ?_ (Nat.zero_le _))
  refine wpAny_holding ?_
  have keep6:∀b o,s.heap.get? b=some o→(((g.update (s.heap.objs.size+1) (Obj.mapSeq fun _=>(#[]:Array Value))).push (seqObj "tuple" vs.toArray 0)).push (seqObj "list" #[] 0)).get? b=some o:=fun b o e=>by
   have hlt:b<s.heap.objs.size:=Heap.lt_size e
   refine Heap.get?_push_of_some _ (Heap.get?_push_of_some _ ?_)
   rw[Heap.get?_update_ne _ _ _ _ (Nat.ne_of_lt (Nat.lt_succ_of_lt hlt))]
   exact keep b o e
  have ho6:(((g.update (s.heap.objs.size+1) (Obj.mapSeq fun _=>(#[]:Array Value))).push (seqObj "tuple" vs.toArray 0)).push (seqObj "list" #[] 0)).get? (s.heap.objs.size+1)=some (seqObj "list" #[] e1):=
   Heap.get?_push_of_some _ (Heap.get?_push_of_some _ ho1)
  show wpAny (model prog w) _ _ _ _ {s with heap:=((g.update (s.heap.objs.size+1) (Obj.mapSeq fun _=>(#[]:Array Value))).push (seqObj "tuple" vs.toArray 0)).push (seqObj "list" #[] 0)}
  generalize ((g.update (s.heap.objs.size+1) (Obj.mapSeq fun _=>(#[]:Array Value))).push (seqObj "tuple" vs.toArray 0)).push (seqObj "list" #[] 0)=g6 at ho6 keep6 ⊢
  dsimp only
  have h2':¬vs.toArray.size<2:=by rw[List.size_toArray];omega
  rw[if_neg h2',if_neg h2']
  refine wpAny_bind (wpAny_mono (kind g6 (fun κ' s'=>κ'=κ∧s'={s with heap:=g6}) keep6 ⟨rfl,rfl⟩) (fun κ' s' hk=>?_) fun _ _ x=>x.elim)
  obtain⟨rfl,rfl⟩:=hk
  have L:Tim.sr prog w A.in1.in1 (fun _ _=>False) {s with heap:=g6} κ' (vs.toArray.zip vs.toArray) key:=fun x y st Q' hx hy hk hq=>by
   rw[jJ]at hx hy
   obtain⟨i,hi,rfl⟩:=List.mem_map.mp hx
   obtain⟨j,hj,rfl⟩:=List.mem_map.mp hy
   rw[lt'_eq]
   refine wpS_bind (wpS_get ?_)
   rw[hk]
   refine wpS_bind (wpS_lift (wpAny_attempt (wpAny_mono (ask g6 i j (fun c s'=>s'={s with heap:=g6}∧c=decide (key (itm vs i)<key (itm vs j))) keep6 (List.mem_range.mp hi) (List.mem_range.mp hj) ⟨rfl,rfl⟩) (fun c s' hc=>?_) fun _ _ hF=>hF.elim)))
   obtain⟨rfl,rfl⟩:=hc
   exact⟨rfl,wpS_pure hq⟩
  refine wpAny_bind (wpAny_mono (Tim.aO L hD (st:=SortSt.mk' κ' (vs.toArray.zip vs.toArray) #[] 7 none) (Q:=fun _ st'=>Tim.Bs κ' (vs.toArray.zip vs.toArray) st'∧Tim.SIn key (arrOf st') 0 (vs.toArray.zip vs.toArray).size) ⟨rfl,.refl _,rfl⟩ rfl (by rw[hs0];exact h2) fun st' a b=>⟨a,b⟩) ?_ fun _ _ x=>x.elim)
  rintro ⟨⟨⟩,st'⟩ s' ⟨rfl,hB,hS⟩
  dsimp only at hB hS ⊢
  obtain⟨ix,p1,p2⟩:=un hB.perm
  have hout:(arrOf st').map (·.2)=(ix.map fun i=>vs.getD i Value.none).toArray:=by
   apply Array.toList_inj.mp
   rw[Array.toList_map,←p2,List.map_map]
   rfl
  have hixl:(ix.map fun i=>vs.getD i Value.none).toArray.size≤sizeLine:=by rw[List.size_toArray,List.length_map,ixl p1,sizeLine_eq];omega
  rw[show (arrOf st').map (·.2)=_ from hout]
  refine wpAny_bind (seqEpoch_at ho6 rfl ?_)
  refine wpAny_bind (listUpdate_at ho6 rfl ?_ (Nat.zero_le _) (Nat.le_succ_of_le hixl))
  rw[hB.fail]
  simp only[bne_self_eq_false,Bool.false_eq_true,if_false]
  refine wpAny_pure ⟨_,rfl,wpAny_pure ⟨_,rfl,?_⟩⟩
  refine h _ _ ix (fun b o e=>?_) p1 (List.pairwise_iff_getElem.mpr fun i j hi hj hij=>?_) (get?_update_seq ho6 fun _=>(ix.map fun i=>vs.getD i Value.none).toArray)
  . have hlt:b<s.heap.objs.size:=Heap.lt_size e
    rw[Heap.get?_update_ne _ _ _ _ (Nat.ne_of_lt (Nat.lt_succ_of_lt hlt))]
    exact keep6 b o e
  . have:=hS i j (Nat.le_of_lt hij) (by rw[hs0,←ixl p1];exact hj)
    rw[Nat.zero_add,Nat.zero_add,kk_at i hi p2,kk_at j hj p2]at this
    rcases Int.lt_or_eq_of_le this with z|z
    . exact z
    . have:=(List.getElem_inj (p1.nodup_iff.mpr List.nodup_range)).mp (dis _ _ (ixm p1 i hi) (ixm p1 j hj) z)
      exact absurd this (Nat.ne_of_lt hij)
end
theorem iD{us:List Value}:∀{a b:List Int},vO us a→vO us b→a=b:=by
 induction us with
 |nil=>intro a b h k;cases h;cases k;rfl
 |cons u us ih=>
  intro a b h k
  cases h with
  |cons h=>
   cases k with
   |cons k=>rw[ih h k]
noncomputable def keyOf(its:List Value)(zs:List (List Int))(K:List Int→Int)(x:Keyed):Int:=
 open Classical in K (zs.getD (its.findIdx fun v=>decide (v=x.1)) [])
theorem wz{h:Heap}{its:List Value}{zs:List (List Int)}{K:List Int→Int}(tv:TV h its zs){i:Nat}{z:List Int}(hz:zs[i]?=some z):keyOf its zs K (itm its i)=K z:=by
 classical
 obtain⟨b,o,n,us,f1,f2,f3,f4,f5⟩:=tv.2 i z hz
 have e1:its.getD i Value.none=.ref b:=by rw[List.getD_eq_getElem?_getD,f1];rfl
 have hlt:its.findIdx (fun v=>decide (v=its.getD i Value.none))<its.length:=List.findIdx_lt_length_of_exists ⟨.ref b,List.mem_of_getElem? f1,by rw[e1];exact decide_eq_true rfl⟩
 have hp:=List.findIdx_getElem (w:=hlt)
 have hj:=of_decide_eq_true hp
 have hlt':its.findIdx (fun v=>decide (v=its.getD i Value.none))<zs.length:=by rw[←tv.1];exact hlt
 obtain⟨b',o',n',us',g1,g2,g3,g4,g5⟩:=tv.2 _ _ (List.getElem?_eq_getElem hlt')
 have e2:Value.ref b'=.ref b:=by
  rw[List.getElem?_eq_getElem hlt]at g1
  rw[←e1,←hj];exact(Option.some.inj g1).symm
 cases e2
 rw[f2]at g2
 cases g2
 rw[f4]at g4
 injection g4 with g4
 have g4:=Array.toList_inj.mpr g4
 have g4:us=us':=g4
 subst g4
 unfold keyOf
 show K (zs.getD (its.findIdx fun v=>decide (v=its.getD i Value.none)) [])=K z
 rw[List.getD_eq_getElem?_getD,List.getElem?_eq_getElem hlt',Option.getD_some,iD g5 f5]
theorem TV.up{h h':Heap}{its:List Value}{zs:List (List Int)}(tv:TV h its zs)(keep:∀b o,h.get? b=some o→h'.get? b=some o):TV h' its zs:=⟨tv.1,fun i z e=>by
 obtain⟨b,o,n,us,f1,f2,f3⟩:=tv.2 i z e
 exact⟨b,o,n,us,f1,keep _ _ f2,f3⟩⟩
theorem rF{X:Cx}:yQ X (.builtin "sorted") (fun xs H Q=>∃p ys zs,∃K:List Int→Int,xs=[.ref p]∧SqL X.K H p ys∧gK X.K H ys zs∧(zs.length<2∨∀z∈zs,z≠[])∧zs.Nodup∧(∀a∈zs,∀b∈zs,xQ a b=decide (K a<K b))∧(∀a∈zs,∀b∈zs,K a=K b→a=b) ∧
 ∀(l:Addr) (ix:List Nat),H l=none→ix.Perm (List.range zs.length)→(ix.map fun i=>zs.getD i []).Pairwise (fun a b=>K a<K b)→Q (.ref l) (upd H l (.lst (ix.map fun i=>ys.getD i .non)))):=by
 intro pins s σ H xs us Q I r h
 obtain⟨p,ys,zs,K,rfl,hq,hP,hne,hnd,hK,hKi,q⟩:=h
 obtain⟨u,rfl,rx⟩:=vals1 r
 cases rx
 obtain⟨its,rv,pl,hz⟩:=I.list hq
 have hlen:=rv.length
 have hl:s.heap.IsList p its.toArray:=pl.isList
 have tv:=hP.tv I rv
 have hn:its.length=zs.length:=tv.1
 have hD:s.heap.get? (s.heap.objs.size+1)=none:=Heap.get?_none_of_le (Nat.le_succ _)
 by_cases h2:its.length<2
 . refine oq hl h2 fun h' c keep e=>?_
   obtain⟨hn',I'⟩:=I.mq (h':=h') hz rv hD (fun b o _ e=>keep b o e) (fun m ⟨o,es,ep,ho,r⟩=>⟨o,es,ep,keep _ o ho,r⟩) e
   have ey:(List.range zs.length).map (fun i=>ys.getD i .non)=ys:=by rw[←hn,←hlen];exact pU _
   have:=q _ (List.range zs.length) hn' (.refl _) (by
    rw[pU]
    match zs,show zs.length<2 by omega with
    |[],_=>exact .nil
    |[_],_=>exact List.pairwise_singleton _ _)
   rw[ey]at this
   exact⟨V.ref _,_,I',rfl,this⟩
 . have hne:∀z∈zs,z≠[]:=hne.resolve_left (by omega)
   have hzl:its.length≤16777216:=by rw[sizeLine_eq]at hz;omega
   have gz:∀{i:Nat},i<its.length→∃z,zs[i]?=some z∧zs.getD i []=z∧z∈zs:=fun{i} hi=>by
    rw[hn]at hi
    exact⟨zs[i],List.getElem?_eq_getElem hi,by rw[List.getD_eq_getElem?_getD,List.getElem?_eq_getElem hi];rfl,List.getElem_mem hi⟩
   refine dg (κ:=tuples' true) (key:=keyOf its zs K) hl (by omega) hzl (fun h' Q' keep hq'=>?_) (fun h' i j C keep hi hj hc=>?_) (fun i j hi hj e=>?_) fun h' c ix keep hp hw e=>?_
   . obtain⟨fs,kt,kl,ki⟩:=(tv.up keep).qM hne
     refine kat_kind (s:={s with heap:=h'}) (T:=.type "int") kt (by omega) (fun v hv=>?_) rfl hq'
     obtain⟨i,t,rfl⟩:=ki v hv
     exact Looks.of_pure rfl
   . obtain⟨z,a1,a2,a3⟩:=gz hi
     obtain⟨z',b1,b2,b3⟩:=gz hj
     rw[wz tv a1,wz tv b1,←hK z a3 z' b3,←jP]at hc
     obtain⟨b,o,n,us,f1,f2,f3,f4,f5⟩:=(tv.up keep).2 i z a1
     obtain⟨b',o',n',us',f1',f2',f3',f4',f5'⟩:=(tv.up keep).2 j z' b1
     rw[List.getD_eq_getElem?_getD,List.getD_eq_getElem?_getD,f1,f1']
     refine kat_lt (s:={s with heap:=h'}) f2 f4 f2' f4' ?_
     rw[List.size_toArray,List.size_toArray,pE f5,pE f5']
     exact nZ (s:={s with heap:=h'}) 0 f5 f5' hc
   . obtain⟨z,a1,a2,a3⟩:=gz hi
     obtain⟨z',b1,b2,b3⟩:=gz hj
     rw[wz tv a1,wz tv b1]at e
     have ez:=hKi z a3 z' b3 e
     subst ez
     exact(List.getElem?_inj (by omega) hnd).mp (a1.trans b1.symm)
   . have hlt:∀i∈ix,i<its.length:=fun i hi=>List.mem_range.mp (hp.mem_iff.mp hi)
     obtain⟨hn',I'⟩:=I.mq (h':=h') (ys:=ix.map fun i=>ys.getD i .non) (by rw[List.length_map,hp.length_eq,List.length_range];omega) (pv rv ix fun i hi=>by have:=hlt i hi;omega) hD (fun b o _ e=>keep b o e) (fun m ⟨o,es,ep,ho,r⟩=>⟨o,es,ep,keep _ o ho,r⟩) e
     refine⟨V.ref _,_,I',rfl,q _ ix hn' (by rw[←hn];exact hp) ?_⟩
     rw[List.pairwise_map]
     refine hw.imp_of_mem fun{i j} hi hj w=>?_
     obtain⟨z,a1,a2,a3⟩:=gz (hlt i hi)
     obtain⟨z',b1,b2,b3⟩:=gz (hlt j hj)
     rw[wz tv a1,wz tv b1]at w
     rw[a2,b2]
     exact w
theorem rX:∀a:List Int,xQ a a=false
 |[]=>rfl
 |x::xs=>by unfold xQ;rw[if_pos rfl];exact rX xs
theorem nY:∀{a b:List Int},xQ a b=false→a≠b→xQ b a=true
 |[],[],_,h=>absurd rfl h
 |[],_::_,h,_=>by cases h
 |_::_,[],_,_=>rfl
 |x::xs,y::ys,h,n=>by
  unfold xQ at h ⊢
  by_cases e:x=y
  . subst e
    rw[if_pos rfl]at h ⊢
    exact nY h fun e=>n (by rw[e])
  . rw[if_neg e]at h
    rw[if_neg (fun z=>e z.symm)]
    have:=of_decide_eq_false h
    exact decide_eq_true (by omega)
theorem oS:∀{a b c:List Int},xQ a b=true→xQ b c=true→xQ a c=true
 |[],[],_,h,_=>by cases h
 |_::_,[],_,h,_=>by cases h
 |_,_::_,[],_,h=>by cases h
 |[],_::_,_::_,_,_=>rfl
 |x::xs,y::ys,z::zs,h,k=>by
  unfold xQ at h k ⊢
  by_cases e:x=y
  . subst e
    rw[if_pos rfl]at h
    by_cases e':x=z
    . rw[if_pos e']at k ⊢;exact oS h k
    . rw[if_neg e']at k ⊢;exact k
  . rw[if_neg e]at h
    have h:=of_decide_eq_true h
    by_cases e':y=z
    . subst e'
      rw[if_neg e];exact decide_eq_true h
    . rw[if_neg e']at k
      have k:=of_decide_eq_true k
      rw[if_neg (by omega)]
      exact decide_eq_true (by omega)
noncomputable def iB(z:List Int):List (List Int)→List (List Int)
 |[]=>[z]
 |y::ys=>if xQ y z then y::iB z ys else z::y::ys
noncomputable def xq:List (List Int)→List (List Int)
 |[]=>[]
 |z::zs=>iB z (xq zs)
theorem tN(z:List Int):∀l,(iB z l).Perm (z::l)
 |[]=>.refl _
 |y::ys=>by
  unfold iB
  by_cases h:xQ y z=true
  . rw[if_pos h];exact((tN z ys).cons y).trans (.swap z y ys)
  . rw[if_neg h]
theorem yg:∀l,(xq l).Perm l
 |[]=>.refl _
 |z::zs=>(tN z _).trans ((yg zs).cons z)
theorem jH(z:List Int):∀l,z ∉ l→l.Pairwise (fun a b=>xQ a b=true)→(iB z l).Pairwise (fun a b=>xQ a b=true)
 |[],_,_=>List.pairwise_singleton _ _
 |y::ys,hz,h=>by
  rw[List.pairwise_cons]at h
  rw[List.mem_cons,not_or]at hz
  unfold iB
  by_cases e:xQ y z=true
  . rw[if_pos e]
    refine List.pairwise_cons.mpr ⟨fun a ha=>?_,jH z ys hz.2 h.2⟩
    rcases List.mem_cons.mp ((tN z ys).mem_iff.mp ha) with q|q
    . rw[q];exact e
    . exact h.1 a q
  . rw[if_neg e]
    have e:=nY (Bool.eq_false_iff.mpr e) fun q=>hz.1 q.symm
    refine List.pairwise_cons.mpr ⟨fun a ha=>?_,List.pairwise_cons.mpr h⟩
    rcases List.mem_cons.mp ha with q|q
    . rw[q];exact e
    . exact oS e (h.1 a q)
theorem qD:∀{l:List (List Int)},l.Nodup→(xq l).Pairwise (fun a b=>xQ a b=true)
 |[],_=>.nil
 |z::zs,h=>by
  rw[List.nodup_cons]at h
  exact jH z _ (fun q=>h.1 ((yg zs).mem_iff.mp q)) (qD h.2)
theorem pL{a b:List Int}(h:xQ a b=true):xQ b a=false:=by
 cases e:xQ b a with
 |false=>rfl
 |true=>rw[←rX a];exact(oS h e).symm
theorem mV{zs:List (List Int)}(hn:zs.Nodup){a b:List Int}(ha:a∈zs)(hb:b∈zs):xQ a b=decide (((xq zs).idxOf a:Int)<(xq zs).idxOf b):=by
 have hs:=qD hn
 have i1:=List.idxOf_lt_length_of_mem ((yg zs).mem_iff.mpr ha)
 have i2:=List.idxOf_lt_length_of_mem ((yg zs).mem_iff.mpr hb)
 have e1:=List.getElem_idxOf i1
 have e2:=List.getElem_idxOf i2
 rcases Nat.lt_trichotomy ((xq zs).idxOf a) ((xq zs).idxOf b) with h|h|h
 . have:=List.pairwise_iff_getElem.mp hs _ _ i1 i2 h
   rw[e1,e2]at this
   rw[this];exact(decide_eq_true (by omega)).symm
 . have:a=b:=by rw[←e1,←e2];exact getElem_congr_idx h
   rw[this,rX];exact(decide_eq_false (by omega)).symm
 . have:=List.pairwise_iff_getElem.mp hs _ _ i2 i1 h
   rw[e1,e2]at this
   rw[pL this];exact(decide_eq_false (by omega)).symm
theorem de{zs:List (List Int)}{a b:List Int}(ha:a∈zs)(hb:b∈zs)(h:((xq zs).idxOf a:Int)=(xq zs).idxOf b):a=b:=by
 have i1:=List.idxOf_lt_length_of_mem ((yg zs).mem_iff.mpr ha)
 have i2:=List.idxOf_lt_length_of_mem ((yg zs).mem_iff.mpr hb)
 rw[←List.getElem_idxOf i1,←List.getElem_idxOf i2]
 exact getElem_congr_idx (by omega)
theorem da{zs l:List (List Int)}(hn:zs.Nodup)(hp:l.Perm zs)(h:l.Pairwise fun a b=>((xq zs).idxOf a:Int)<(xq zs).idxOf b):l=xq zs:=by
 refine List.Perm.eq_of_pairwise (le:=fun a b=>xQ a b=true) (fun a b _ _ h k=>?_) (h.imp_of_mem fun{a b} ha hb w=>?_) (qD hn) (hp.trans (yg zs).symm)
 . rw[pL h]at k;cases k
 . rw[mV hn (hp.mem_iff.mp ha) (hp.mem_iff.mp hb)];exact decide_eq_true w
noncomputable def plI(z:Int × Int):List Int:=[z.1,z.2]
noncomputable def fY:List Int→Int
 |[a,b]=>z6 (a,b)
 |_=>0
theorem bO{a b:Int × Int}(ha:0≤a.2∧a.2<1000)(hb:0≤b.2∧b.2<1000):xQ (plI a) (plI b)=decide (fY (plI a)<fY (plI b)):=by
 rw[show fY (plI a)=z6 a from rfl,show fY (plI b)=z6 b from rfl,decide_eq_decide.mpr (gX ha hb)]
 unfold plI xQ xQ xQ
 by_cases h1:a.1=b.1
 . rw[if_pos h1]
   by_cases h2:a.2=b.2
   . rw[if_pos h2];exact(decide_eq_false (by omega)).symm
   . rw[if_neg h2];exact decide_eq_decide.mpr (by omega)
 . rw[if_neg h1];exact decide_eq_decide.mpr (by omega)
theorem b9{a b:Int × Int}(h:plI a=plI b):a=b:=by
 unfold plI at h
 injection h with h1 h2
 injection h2 with h2 _
 exact Prod.ext h1 h2
end L2
end
section
namespace L2
open PySem PyProof.Rows
section
variable {X:Cx}{N:List Str}{csc:Scope}{fr:List (Option Nat)}{elt tg iter tg2 iter2:Expr}{ifs ifs2:List Expr}{cpos:Pos}{wi wi2:TI}{g g2:TG}{ts ts2:List TT}{te:TE}
theorem eZ{y:Str}{py spos:Pos}{i:Nat}(hc:X.calm=true)(S:yD X N csc fr)(hi:PI X tg iter wi)(hg:∀C s0 H0 ex,PG (X.comp N csc C s0 H0 ex) tg g)(ht:∀C s0 H0 ex,PTs (X.comp N csc C s0 H0 ex) ifs ts)
 (hi2:∀C s0 H0 ex,PI (X.comp N csc C s0 H0 ex) tg2 iter2 wi2) (hg2:∀C s0 H0 ex,PG (X.comp N csc C s0 H0 ex) tg2 g2) (ht2:∀C s0 H0 ex,PTs (X.comp N csc C s0 H0 ex) ifs2 ts2)
 (he:∀C s0 H0 ex,PE (X.comp N csc C s0 H0 ex) elt te) (hN:X.N.Nodup) (hy:X.N[i]?=some y) (hx:Loc X.env.scope y)
 (hsw:swapsWith (.ListComp elt [⟨tg,iter,ifs,0⟩,⟨tg2,iter2,ifs2,0⟩] csc cpos) (some (.Name y py)) spos.line X.env=pure true:=by rfl)
 (hf:X.fn y=true∨X.env.scope.names.lookup y=some .local:=by first|exact .inl rfl|exact .inr rfl|assumption)
 (hs:∀x,foldedSetIterable iter X.env x=pure x:=by intro _;rfl)
 (hs2:∀env x,foldedSetIterable iter2 env x=pure x:=by intro _ _;rfl) :
 PS X (.Assign [.Name y py] (.ListComp elt [⟨tg,iter,ifs,0⟩,⟨tg2,iter2,ifs2,0⟩] csc cpos) spos) (qi (ve fr wi g ts fun acc=>qH wi2 g2 ts2 (v8 acc te)) (vT i)):=
 mJ hc S hi (B:=fun acc env=>(do
         let x ←eval iter2 env
         standAt iter2.pos
         let x ←foldedSetIterable iter2 env x
         let _ ←runOwn (.compStart (.ListComp elt [⟨tg,iter,ifs,0⟩,⟨tg2,iter2,ifs2,0⟩] csc cpos) 1 (←holding [x] (pyIter x)) acc env) env)) (ZV elt tg iter ifs tg2 iter2 ifs2 csc cpos) hg ht
  (fun C s0 H0 ex acc=>mC rfl hc (hi2 C s0 H0 ex) (hg2 C s0 H0 ex) (ht2 C s0 H0 ex) (sY (he C s0 H0 ex)) (hs2 _)) hN hy hx hsw hf hs
end
end L2
end
section
namespace L2
open PySem PySem.Calls PyProof PyProof.Rows
open AutoSeq1 (wpAny_loadPart')
section
variable {prog:Program}{w:World}{A:Around}{E:Value→Shared→Prop}{s:Shared}
theorem sP{it t:Addr}{i:Nat}{items:Array Value}{x:Value}{Q:Value→Shared→Prop}(hit:s.heap.IsTupleIter it t i)(ht:s.heap.IsTuple t items)(hx:items[i]?=some x)
 (hQ:∀h',h'.IsTupleIter it t (i+1)→Heap.SameBut it s.heap h'→Q x {s with heap:=h'}):wpAny (model prog w) A (Builtin.SmallTypes.nextOf (.ref it)) Q E s:=by
 obtain⟨o,ho,hc,hd⟩:=id hit
 obtain⟨ol,hol,_,nl,hdl⟩:=ht
 unfold Builtin.SmallTypes.nextOf
 refine wpAny_bind (wpAny_callSpecial?_slot (name:=Str.ofString "__next__") hit.typeIs F.slot_tuple_iterator_next
  (wpAny_call_entry F.slot_tuple_iterator_next hit.typeIs F.entry_tuple_iterator_next ?_ (F.args_tuple_iterator_next_1 _)))
 show wpAny _ _ (field (.ref it) 0 >>= _) _ _ s
 refine wpAny_bind (wpAny_field ho hd (x:=.ref t) rfl ?_)
 show wpAny _ _ (if (Value.ref t == Value.none)=true then _ else _) _ _ s
 rw[if_neg (show ¬((Value.ref t == Value.none)=true) from Bool.false_ne_true)]
 show wpAny _ _ (field (.ref it) 1 >>= _) _ _ s
 refine wpAny_bind (wpAny_field ho hd (x:=.int i 0) rfl ?_)
 show wpAny _ _ (seqItems? (.ref t) >>= _) _ _ s
 refine wpAny_bind (wpAny_seqItems hol hdl ?_)
 simp only[Int.toNat_natCast,hx]
 refine wpAny_bind (wpAny_setField ho hd (by simp) (wpAny_pure ⟨x,rfl,wpAny_pure (hQ _ ?_ (Heap.SameBut.update ..))⟩))
 exact⟨_,Heap.get?_update_self _ ho (Obj.isFreed_of_fields (Obj.data_mapFields hd _)),(Obj.cls_mapFields ..).trans hc,by
  rw[Obj.data_mapFields hd];simp[rawInt]⟩
theorem rk{it t:Addr}{i:Nat}{items:Array Value}{Q:Value→Shared→Prop}(hh:A.handled=none)(hit:s.heap.IsTupleIter it t i)(ht:s.heap.IsTuple t items)(hx:items[i]?=none)
 (hE:∀h' e,Heap.ExtBut it s.heap h'→(∃o,h'.get? e=some o∧o.cls=.type "StopIteration")→E (.ref e) {s with heap:=h'}):wpAny (model prog w) A (Builtin.SmallTypes.nextOf (.ref it)) Q E s:=by
 obtain⟨o,ho,hc,hd⟩:=id hit
 obtain⟨ol,hol,_,nl,hdl⟩:=ht
 unfold Builtin.SmallTypes.nextOf
 refine wpAny_bind (wpAny_callSpecial?_slot (name:=Str.ofString "__next__") hit.typeIs F.slot_tuple_iterator_next
  (wpAny_call_entry F.slot_tuple_iterator_next hit.typeIs F.entry_tuple_iterator_next ?_ (F.args_tuple_iterator_next_1 _)))
 show wpAny _ _ (field (.ref it) 0 >>= _) _ _ s
 refine wpAny_bind (wpAny_field ho hd (x:=.ref t) rfl ?_)
 show wpAny _ _ (if (Value.ref t == Value.none)=true then _ else _) _ _ s
 rw[if_neg (show ¬((Value.ref t == Value.none)=true) from Bool.false_ne_true)]
 show wpAny _ _ (field (.ref it) 1 >>= _) _ _ s
 refine wpAny_bind (wpAny_field ho hd (x:=.int i 0) rfl ?_)
 show wpAny _ _ (seqItems? (.ref t) >>= _) _ _ s
 refine wpAny_bind (wpAny_seqItems hol hdl ?_)
 simp only[Int.toNat_natCast,hx]
 first
  |refine wpAny_bind (wpAny_rule (wpAny_bind (wpAny_setField ho hd (by simp) ?_)))
  |refine wpAny_bind (wpAny_setField ho hd (by simp) ?_)
 first
  |show wpAny _ _ (newExc (.type "StopIteration") [] >>= _) _ _ _
  |(refine wpAny_bind (wpAny_letGo ?_);show wpAny _ _ (newExc (.type "StopIteration") [] >>= _) _ _ _)
 refine wpAny_bind ?_
 simp only[newExc,newTuple]
 refine wpAny_bind (wpAny_newObj_type ?_ (by size_fits))
 refine wpAny_bind (m:=firstArgMember _ _) (wpAny_of_eq (a:=Value.none) (by first|rfl|(simp only[firstArgMember];rfl)) ?_)
 refine wpAny_newObj_type ?_ (by size_fits)
 simp only[raiseNew]
 refine wpAny_bind (wpAny_handled ?_)
 first|rw[show A.in1.handled=none from hh]|rw[hh]
 refine wpAny_bind (wpAny_pure (wpAny_throw ?_))
 exact hE _ _ (((Heap.SameBut.update ..).extBut.push _).push _) ⟨_,Heap.get?_push_size _ rfl,rfl⟩
end
theorem wm{prog:Program}{w:World}{A:Around}(hh:A.handled=none)(it t:Addr)(hne:t≠it)(items:Array Value) :
 Draws prog w A it [it,t] items.size (fun i v=>items[i]?=some v) (fun i h=>h.IsTupleIter it t i∧h.IsTuple t items) where
 live:=fun _ _ st=>let ⟨o,ho,_⟩:=st.1;⟨o,ho⟩
 frame:=fun _ _ _ st hk=>⟨st.1.at fun o e=>hk it (by simp) o e,let ⟨o,ho,r⟩:=st.2;⟨o,hk t (by simp) o ho,r⟩⟩
 item:=fun i s Q E hi st hQ=>by
  refine sP st.1 st.2 (x:=items[i]) (by simp[hi]) fun h' hit' hs'=>?_
  exact hQ _ h' s.toks (by simp[hi]) ⟨hit',let ⟨o,ho,r⟩:=st.2;⟨o,hs'.extBut t o hne ho,r⟩⟩ hs'
 done:=fun s Q E st hE=>rk hh st.1 st.2 (by simp) hE
end L2
end
section
namespace L2
open PySem PySem.Calls PyProof PyProof.Rows
structure Ap(z TI TO i1 i2:Addr)(fp1 fp2:List Addr):Prop where
 zI:z≠TI
 zO:z≠TO
 z1:z≠i1
 z2:z≠i2
 IO:TI≠TO
 I1:TI≠i1
 I2:TI≠i2
 O1:TO≠i1
 O2:TO≠i2
 ii:i1≠i2
 zf:z ∉ fp1
 zg:z ∉ fp2
 Of:TO ∉ fp1
 Og:TO ∉ fp2
 if_:i2 ∉ fp1
 ig:i1 ∉ fp2
section
variable {prog:Program}{w:World}{A:Around}{E:Value→Shared→Prop}{s:Shared}
variable {z TI TO i1 i2:Addr}{fp1 fp2:List Addr}{n1 n2:Nat}{P1 P2:Nat→Value→Prop}{S1 S2:Nat→Heap→Prop}
theorem cB{k1 k2:Nat}{a b:Value}{Q:Value→Shared→Prop}(D:Ap z TI TO i1 i2 fp1 fp2)(D1:Draws prog w A i1 fp1 n1 P1 S1)(D2:Draws prog w A i2 fp2 n2 P2 S2)
 (hz:IsZip s.heap z TI TO .none) (hI:IsPair s.heap TI (.ref i1) (.ref i2)) (hO:IsPair s.heap TO a b) (s1:S1 k1 s.heap) (s2:S2 k2 s.heap) (l1:k1<n1) (l2:k2<n2)
 (hQ:∀x y h' tk,P1 k1 x→P2 k2 y→IsZip h' z TI TO (rawInt s.heap.objs.size)→IsPair h' TI (.ref i1) (.ref i2)→IsPair h' TO x y→S1 (k1+1) h'→S2 (k2+1) h'→IsPair h' s.heap.objs.size x y→(∀c o,c≠z→c≠TO→c≠i1→c≠i2→s.heap.get? c=some o→h'.get? c=some o) →
  Q (.ref s.heap.objs.size) {s with heap:=h',toks:=tk}):wpAny (model prog w) A (Builtin.«zip.__next__» ⟨[.ref z],[]⟩) (fun fin s'=>∃v,fin=.done (.ret v)∧Q v s') E s:=by
 show wpAny _ _ (field (.ref z) 2 >>= _) _ _ _
 refine wpAny_bind (wpAny_field hz rfl (x:=.bool false) rfl ?_)
 show wpAny _ _ (field (.ref z) 3 >>= _) _ _ _
 refine wpAny_bind (wpAny_field hz rfl (x:=.ref TI) rfl (wpAny_bind (wpAny_seqItems hI rfl ?_)))
 show wpAny _ _ (Builtin.SmallTypes.ownedTupleIsFree (.ref z) >>= _) _ _ _
 unfold Builtin.SmallTypes.ownedTupleIsFree
 refine wpAny_bind (wpAny_bind (wpAny_field hz rfl (x:=.none) rfl (wpAny_pure ?_)))
 simp only[if_true]
 refine wpAny_bind (wpAny_rule (wpAny_bind (wpAny_field hz rfl (x:=.ref TO) rfl (wpAny_bind (wpAny_setField_rec hz (by simp) fun ha za ea=>?_)))))
 have za:IsZip ha z TI TO .ellipsis:=za
 have ka:∀c o,c≠z→s.heap.get? c=some o→ha.get? c=some o:=fun c o n e=>ea.extBut _ _ n e
 have z8:∀{p q:Addr} {l:List Addr},p∈l→q ∉ l→p≠q:=fun hp hq e=>hq (e▸hp)
 refine wpAny_bind ?_
 simp only[List.zipIdx_cons,List.zipIdx_nil,List.forIn_cons,List.forIn_nil]
 refine wpAny_bind (wpAny_bind (wpAny_onRaise ?_))
 show wpAny _ _ (Builtin.SmallTypes.nextOf (.ref i1) >>= _) _ _ _
 refine wpAny_bind (D1.item k1 _ _ _ l1 (D1.frame k1 _ _ s1 fun c hc o e=>ka c o (z8 hc D.zf) e) fun x hb tb px sb eb=>wpAny_pure ?_)
 have kb:∀c o,c≠i1→ha.get? c=some o→hb.get? c=some o:=fun c o n e=>eb.extBut _ _ n e
 have ob:IsPair hb TO a b:=kb _ _ D.O1 (ka _ _ D.zO.symm hO)
 refine wpAny_bind (wpAny_seqItems ob rfl (wpAny_bind (wpAny_updateSeq_pair ob fun hc oc ec=>?_)))
 have oc:IsPair hc TO x b:=oc
 have kc:∀c o,c≠TO→hb.get? c=some o→hc.get? c=some o:=fun c o n e=>ec.extBut _ _ n e
 refine wpAny_bind (wpAny_letGo (wpAny_pure ?_))
 refine wpAny_bind (wpAny_bind (wpAny_onRaise ?_))
 show wpAny _ _ (Builtin.SmallTypes.nextOf (.ref i2) >>= _) _ _ _
 refine wpAny_bind (D2.item k2 _ _ _ l2 (D2.frame k2 _ _ s2 fun c hc' o e=>kc c o (z8 hc' D.Og) (kb c o (z8 hc' D.ig) (ka c o (z8 hc' D.zg) e))) fun y hd td py sd ed=>wpAny_pure ?_)
 have kd:∀c o,c≠i2→hc.get? c=some o→hd.get? c=some o:=fun c o n e=>ed.extBut _ _ n e
 have od:IsPair hd TO x b:=kd _ _ D.O2 oc
 refine wpAny_bind (wpAny_seqItems od rfl (wpAny_bind (wpAny_updateSeq_pair od fun he oe ee=>?_)))
 have oe:IsPair he TO x y:=oe
 have ke:∀c o,c≠TO→hd.get? c=some o→he.get? c=some o:=fun c o n e=>ee.extBut _ _ n e
 refine wpAny_bind (wpAny_letGo (wpAny_pure (wpAny_pure (wpAny_bind (wpAny_seqItems oe rfl (wpAny_bind (wpAny_newTuple ?_)))))))
 have sz:he.objs.size=s.heap.objs.size:=by rw[ee.1,ed.1,ec.1,eb.1,ea.1]
 have ze:IsZip he z TI TO .ellipsis:=ke _ _ D.zO (kd _ _ D.z2 (kc _ _ D.zO (kb _ _ D.z1 za)))
 have up0:∀c o,c≠z→c≠TO→c≠i1→c≠i2→s.heap.get? c=some o→he.get? c=some o:=fun c o n1 n2 n3 n4 e=>ke c o n2 (kd c o n4 (kc c o n2 (kb c o n3 (ka c o n1 e))))
 show wpAny _ _ (Builtin.SmallTypes.ownedTupleHandOut (.ref z) (.ref he.objs.size) >>= _) _ _ _
 unfold Builtin.SmallTypes.ownedTupleHandOut
 have zf:IsZip (he.push {cls:=.type "tuple",data:=.seq #[x,y]}) z TI TO .ellipsis:=Heap.get?_push_of_some _ ze
 refine wpAny_bind (wpAny_bind (wpAny_setField_rec zf (by simp) fun hg zg eg=>?_))
 have zg:IsZip hg z TI TO (rawInt he.objs.size):=zg
 refine wpAny_setField_rec zg (by simp) fun hh zh eh=>?_
 have zh:IsZip hh z TI TO (rawInt he.objs.size):=zh
 have up:∀c o,c≠z→he.get? c=some o→hh.get? c=some o:=fun c o n e=>eh.extBut _ _ n (eg.extBut _ _ n (Heap.get?_push_of_some _ e))
 have zlt:z<he.objs.size:=Heap.lt_size ze
 have th:IsPair hh he.objs.size x y:=eh.extBut _ _ (Nat.ne_of_gt zlt) (eg.extBut _ _ (Nat.ne_of_gt zlt) (Heap.get?_push_size _ rfl))
 have s1h:S1 (k1+1) hh:=D1.frame _ _ _ sb fun c hc' o e=>up c o (z8 hc' D.zf) (ke c o (z8 hc' D.Of) (kd c o (z8 hc' D.if_) (kc c o (z8 hc' D.Of) e)))
 have s2h:S2 (k2+1) hh:=D2.frame _ _ _ sd fun c hc' o e=>up c o (z8 hc' D.zg) (ke c o (z8 hc' D.Og) e)
 rw[sz]at zh th
 refine wpAny_pure ⟨_,rfl,?_⟩
 show Q (.ref he.objs.size) _
 rw[sz]
 exact hQ x y hh _ px py zh (up _ _ D.zI.symm (up0 _ _ D.zI.symm D.IO D.I1 D.I2 hI)) (up _ _ D.zO.symm oe) s1h s2h th fun c o n1 n2 n3 n4 e=>up c o n1 (up0 c o n1 n2 n3 n4 e)
theorem cA{k1:Nat}{a b:Value}{Q:Fin→Shared→Prop}(D:Ap z TI TO i1 i2 fp1 fp2)(D1:Draws prog w A i1 fp1 n1 P1 S1)(D2:Draws prog w A i2 fp2 n2 P2 S2)
 (hz:IsZip s.heap z TI TO .none) (hI:IsPair s.heap TI (.ref i1) (.ref i2)) (hO:IsPair s.heap TO a b) (s1:S1 k1 s.heap) (s2:S2 n2 s.heap) (l1:k1<n1)
 (hE:∀h' tk e,(∀c o,c≠z→c≠TO→c≠i1→c≠i2→s.heap.get? c=some o→h'.get? c=some o)→(∃o,h'.get? e=some o∧o.cls=.type "StopIteration")→E (.ref e) {s with heap:=h',toks:=tk}):wpAny (model prog w) A (Builtin.«zip.__next__» ⟨[.ref z],[]⟩) Q E s:=by
 show wpAny _ _ (field (.ref z) 2 >>= _) _ _ _
 refine wpAny_bind (wpAny_field hz rfl (x:=.bool false) rfl ?_)
 show wpAny _ _ (field (.ref z) 3 >>= _) _ _ _
 refine wpAny_bind (wpAny_field hz rfl (x:=.ref TI) rfl (wpAny_bind (wpAny_seqItems hI rfl ?_)))
 show wpAny _ _ (Builtin.SmallTypes.ownedTupleIsFree (.ref z) >>= _) _ _ _
 unfold Builtin.SmallTypes.ownedTupleIsFree
 refine wpAny_bind (wpAny_bind (wpAny_field hz rfl (x:=.none) rfl (wpAny_pure ?_)))
 simp only[if_true]
 refine wpAny_bind (wpAny_rule (wpAny_bind (wpAny_field hz rfl (x:=.ref TO) rfl (wpAny_bind (wpAny_setField_rec hz (by simp) fun ha za ea=>?_)))))
 have za:IsZip ha z TI TO .ellipsis:=za
 have ka:∀c o,c≠z→s.heap.get? c=some o→ha.get? c=some o:=fun c o n e=>ea.extBut _ _ n e
 have z8:∀{p q:Addr} {l:List Addr},p∈l→q ∉ l→p≠q:=fun hp hq e=>hq (e▸hp)
 refine wpAny_bind ?_
 simp only[List.zipIdx_cons,List.zipIdx_nil,List.forIn_cons,List.forIn_nil]
 refine wpAny_bind (wpAny_bind (wpAny_onRaise ?_))
 show wpAny _ _ (Builtin.SmallTypes.nextOf (.ref i1) >>= _) _ _ _
 refine wpAny_bind (D1.item k1 _ _ _ l1 (D1.frame k1 _ _ s1 fun c hc o e=>ka c o (z8 hc D.zf) e) fun x hb tb px sb eb=>wpAny_pure ?_)
 have kb:∀c o,c≠i1→ha.get? c=some o→hb.get? c=some o:=fun c o n e=>eb.extBut _ _ n e
 have ob:IsPair hb TO a b:=kb _ _ D.O1 (ka _ _ D.zO.symm hO)
 refine wpAny_bind (wpAny_seqItems ob rfl (wpAny_bind (wpAny_updateSeq_pair ob fun hc oc ec=>?_)))
 have oc:IsPair hc TO x b:=oc
 have kc:∀c o,c≠TO→hb.get? c=some o→hc.get? c=some o:=fun c o n e=>ec.extBut _ _ n e
 refine wpAny_bind (wpAny_letGo (wpAny_pure ?_))
 refine wpAny_bind (wpAny_bind (wpAny_onRaise ?_))
 show wpAny _ _ (Builtin.SmallTypes.nextOf (.ref i2) >>= _) _ _ _
 refine wpAny_bind (D2.done _ _ _ (D2.frame n2 _ _ s2 fun c hc' o e=>kc c o (z8 hc' D.Og) (kb c o (z8 hc' D.ig) (ka c o (z8 hc' D.zg) e))) fun hd e ed he=>?_)
 obtain⟨oe,h1,h2⟩:=he
 have zd:IsZip hd z TI TO .ellipsis:=ed _ _ D.z2 (kc _ _ D.zO (kb _ _ D.z1 za))
 have ez:e≠z:=fun q=>by rw[q,zd]at h1;cases h1;simp at h2
 exact wpAny_setField_rec zd (by simp) fun hf _ ef=>hE hf _ e (fun c o c1 c2 c3 c4 q=>ef.extBut _ _ c1 (ed _ _ c4 (kc _ _ c2 (kb _ _ c3 (ka _ _ c1 q))))) ⟨oe,ef.extBut _ _ ez h1,h2⟩
theorem au{a b:Value}{Q:Fin→Shared→Prop}(D:Ap z TI TO i1 i2 fp1 fp2)(D1:Draws prog w A i1 fp1 n1 P1 S1)
 (hz:IsZip s.heap z TI TO .none) (hI:IsPair s.heap TI (.ref i1) (.ref i2)) (hO:IsPair s.heap TO a b) (s1:S1 n1 s.heap)
 (hE:∀h' e,(∀c o,c≠z→c≠TO→c≠i1→c≠i2→s.heap.get? c=some o→h'.get? c=some o)→(∃o,h'.get? e=some o∧o.cls=.type "StopIteration")→E (.ref e) {s with heap:=h'}):wpAny (model prog w) A (Builtin.«zip.__next__» ⟨[.ref z],[]⟩) Q E s:=by
 show wpAny _ _ (field (.ref z) 2 >>= _) _ _ _
 refine wpAny_bind (wpAny_field hz rfl (x:=.bool false) rfl ?_)
 show wpAny _ _ (field (.ref z) 3 >>= _) _ _ _
 refine wpAny_bind (wpAny_field hz rfl (x:=.ref TI) rfl (wpAny_bind (wpAny_seqItems hI rfl ?_)))
 show wpAny _ _ (Builtin.SmallTypes.ownedTupleIsFree (.ref z) >>= _) _ _ _
 unfold Builtin.SmallTypes.ownedTupleIsFree
 refine wpAny_bind (wpAny_bind (wpAny_field hz rfl (x:=.none) rfl (wpAny_pure ?_)))
 simp only[if_true]
 refine wpAny_bind (wpAny_rule (wpAny_bind (wpAny_field hz rfl (x:=.ref TO) rfl (wpAny_bind (wpAny_setField_rec hz (by simp) fun ha za ea=>?_)))))
 have za:IsZip ha z TI TO .ellipsis:=za
 have ka:∀c o,c≠z→s.heap.get? c=some o→ha.get? c=some o:=fun c o n e=>ea.extBut _ _ n e
 refine wpAny_bind ?_
 simp only[List.zipIdx_cons,List.zipIdx_nil,List.forIn_cons,List.forIn_nil]
 refine wpAny_bind (wpAny_bind (wpAny_onRaise ?_))
 show wpAny _ _ (Builtin.SmallTypes.nextOf (.ref i1) >>= _) _ _ _
 refine wpAny_bind (D1.done _ _ _ (D1.frame n1 _ _ s1 fun c hc o e=>ka c o (fun q=>D.zf (q▸hc)) e) fun hb e eb he=>?_)
 obtain⟨oe,h1,h2⟩:=he
 have zb:IsZip hb z TI TO .ellipsis:=eb _ _ D.z1 za
 have ez:e≠z:=fun q=>by rw[q,zb]at h1;cases h1;simp at h2
 exact wpAny_setField_rec zb (by simp) fun hc _ ec=>hE hc e (fun c o c1 _ c3 _ q=>ec.extBut _ _ c1 (eb _ _ c3 (ka _ _ c1 q))) ⟨oe,ec.extBut _ _ ez h1,h2⟩
theorem next_item{k1 k2:Nat}{a b:Value}{Q:Option Value→Shared→Prop}(D:Ap z TI TO i1 i2 fp1 fp2)(D1:Draws prog w A.in1 i1 fp1 n1 P1 S1)(D2:Draws prog w A.in1 i2 fp2 n2 P2 S2)
 (hz:IsZip s.heap z TI TO .none) (hI:IsPair s.heap TI (.ref i1) (.ref i2)) (hO:IsPair s.heap TO a b) (s1:S1 k1 s.heap) (s2:S2 k2 s.heap) (l1:k1<n1) (l2:k2<n2)
 (hQ:∀x y h' tk,P1 k1 x→P2 k2 y→IsZip h' z TI TO (rawInt s.heap.objs.size)→IsPair h' TI (.ref i1) (.ref i2)→IsPair h' TO x y→S1 (k1+1) h'→S2 (k2+1) h'→IsPair h' s.heap.objs.size x y→(∀c o,c≠z→c≠TO→c≠i1→c≠i2→s.heap.get? c=some o→h'.get? c=some o) →
  Q (some (.ref s.heap.objs.size)) {s with heap:=h',toks:=tk}):wpAny (model prog w) A (pyNext (.ref z)) Q E s:=by
 have hT:s.TypeIs (.ref z) "zip":=⟨_,hz,rfl⟩
 unfold pyNext
 exact wpAny_bind (wpAny_attempt (wpAny_callSpecial?_slot (name:=Str.ofString "__next__") hT F.slot_zip_next (wpAny_call_entry F.slot_zip_next hT F.entry_zip_next
  (cB D D1 D2 hz hI hO s1 s2 l1 l2 fun x y h' tk q1 q2 q3 q4 q5 q6 q7 q8 q9=>wpAny_pure (hQ x y h' tk q1 q2 q3 q4 q5 q6 q7 q8 q9)) (F.args_zip_next_1 _))))
theorem next_end{a b:Value}{Q:Option Value→Shared→Prop}(D:Ap z TI TO i1 i2 fp1 fp2)(D1:Draws prog w A.in1 i1 fp1 n1 P1 S1)
 (hz:IsZip s.heap z TI TO .none) (hI:IsPair s.heap TI (.ref i1) (.ref i2)) (hO:IsPair s.heap TO a b) (s1:S1 n1 s.heap)
 (hQ:∀h',(∀c o,c≠z→c≠TO→c≠i1→c≠i2→s.heap.get? c=some o→h'.get? c=some o)→Q none {s with heap:=h'}):wpAny (model prog w) A (pyNext (.ref z)) Q E s:=by
 have hT:s.TypeIs (.ref z) "zip":=⟨_,hz,rfl⟩
 unfold pyNext
 refine wpAny_bind (wpAny_attempt (wpAny_callSpecial?_slot (name:=Str.ofString "__next__") hT F.slot_zip_next (wpAny_call_entry F.slot_zip_next hT F.entry_zip_next
  (au D D1 hz hI hO s1 fun h' e hk he=>?_) (F.args_zip_next_1 _))))
 obtain⟨o,ho,hc⟩:=he
 exact wpAny_bind (wpAny_isInstance (T:="StopIteration") (b:=true) ⟨o,ho,hc⟩ isSubtype_stop (wpAny_pure (hQ _ hk)))
theorem iU{k1:Nat}{a b:Value}{Q:Option Value→Shared→Prop}(D:Ap z TI TO i1 i2 fp1 fp2)(D1:Draws prog w A.in1 i1 fp1 n1 P1 S1)(D2:Draws prog w A.in1 i2 fp2 n2 P2 S2)
 (hz:IsZip s.heap z TI TO .none) (hI:IsPair s.heap TI (.ref i1) (.ref i2)) (hO:IsPair s.heap TO a b) (s1:S1 k1 s.heap) (s2:S2 n2 s.heap) (l1:k1<n1)
 (hQ:∀h' tk,(∀c o,c≠z→c≠TO→c≠i1→c≠i2→s.heap.get? c=some o→h'.get? c=some o)→Q none {s with heap:=h',toks:=tk}):wpAny (model prog w) A (pyNext (.ref z)) Q E s:=by
 have hT:s.TypeIs (.ref z) "zip":=⟨_,hz,rfl⟩
 unfold pyNext
 refine wpAny_bind (wpAny_attempt (wpAny_callSpecial?_slot (name:=Str.ofString "__next__") hT F.slot_zip_next (wpAny_call_entry F.slot_zip_next hT F.entry_zip_next
  (cA D D1 D2 hz hI hO s1 s2 l1 fun h' tk e hk he=>?_) (F.args_zip_next_1 _))))
 obtain⟨o,ho,hc⟩:=he
 exact wpAny_bind (wpAny_isInstance (T:="StopIteration") (b:=true) ⟨o,ho,hc⟩ isSubtype_stop (wpAny_pure (hQ _ _ hk)))
end
noncomputable abbrev zT1(h:Heap)(a:Addr):Heap:=h.push {cls:=.type "tuple_iterator",data:=.fields #[.ref a,.int 0 0]}
noncomputable abbrev zT2(h:Heap)(a b:Addr):Heap:=zT1 (zT1 h a) b
noncomputable abbrev zT3(h:Heap)(a b:Addr):Heap:=(zT2 h a b).push {cls:=.type "tuple",data:=.seq #[.ref h.objs.size,.ref (zT1 h a).objs.size]}
noncomputable abbrev zT4(h:Heap)(a b:Addr):Heap:=(zT3 h a b).push {cls:=.type "tuple",data:=.seq #[.none,.none]}
noncomputable abbrev zT5(h:Heap)(a b:Addr):Heap:=(zT4 h a b).push {cls:=.type "zip",data:=.fields #[.none,.bool false,.bool false,.ref (zT2 h a b).objs.size,.ref (zT3 h a b).objs.size]}
theorem lM(a b:Addr)(xs ys:Array Value):Meets (Builtin.«zip.__new__» ⟨[.type "zip",.ref a,.ref b],[]⟩) (fun _ R s=>s.heap.IsTuple a xs∧s.heap.IsTuple b ys∧R (.ok (.ret (.ref (zT4 s.heap a b).objs.size))) {s with heap:=zT5 s.heap a b}):=
 .of_wp fun prog w A R s h=>by
  obtain⟨hp,g,d,tk,os⟩:=s;obtain⟨ha,hb,h⟩:=h
  have hsub:=sub_zip
  have hA:Heap.IsTuple (Shared.heap ⟨hp,g,d,tk,os⟩) a xs:=ha
  have hB:Heap.IsTuple (Shared.heap ⟨zT1 hp a,g,d,tk,os⟩) b ys:=let ⟨o,e,r⟩:=hb;⟨o,Heap.get?_push_of_some _ e,r⟩
  wp_walk using wpAny_pyIter_tuple hA,wpAny_pyIter_tuple hB
  exact⟨_,rfl,h⟩
section
variable {prog:Program}{w:World}{A:Around}{E:Value→Shared→Prop}{s:Shared}
theorem j0{a b:Addr}{xs ys:Array Value}{Q:Value→Shared→Prop}(ha:s.heap.IsTuple a xs)(hb:s.heap.IsTuple b ys)
 (h:∀h',IsZip h' (s.heap.objs.size+4) (s.heap.objs.size+2) (s.heap.objs.size+3) .none→IsPair h' (s.heap.objs.size+2) (.ref s.heap.objs.size) (.ref (s.heap.objs.size+1))→IsPair h' (s.heap.objs.size+3) .none .none→h'.IsTupleIter s.heap.objs.size a 0→h'.IsTupleIter (s.heap.objs.size+1) b 0 →
  (∀c o,s.heap.get? c=some o→h'.get? c=some o)→Q (.ref (s.heap.objs.size+4)) {s with heap:=h'}):wpAny (model prog w) A (call (.type "zip") [.ref a,.ref b]) Q E s:=by
 refine callType_new F.called_zip (by decide) (F.typeCall_zip_2 _ _) (F.newCall_zip_2 _ _) (fun obj=>F.args_object_init_3 obj _ _) F.entry_zip_new (lM a b xs ys) ⟨ha,hb,?_⟩
 have z1:(zT1 s.heap a).objs.size=s.heap.objs.size+1:=Heap.size_push ..
 have z2:(zT2 s.heap a b).objs.size=s.heap.objs.size+2:=by rw[Heap.size_push,z1]
 have z3:(zT3 s.heap a b).objs.size=s.heap.objs.size+3:=by rw[Heap.size_push,z2]
 have z4:(zT4 s.heap a b).objs.size=s.heap.objs.size+4:=by rw[Heap.size_push,z3]
 have p:∀{h:Heap} {o:Obj} {c:Addr} {u:Obj},h.get? c=some u→(h.push o).get? c=some u:=fun e=>Heap.get?_push_of_some _ e
 have g5:(zT5 s.heap a b).get? (zT4 s.heap a b).objs.size=some _:=Heap.get?_push_size _ rfl
 have g4:(zT5 s.heap a b).get? (zT3 s.heap a b).objs.size=some _:=p (Heap.get?_push_size _ rfl)
 have g3:(zT5 s.heap a b).get? (zT2 s.heap a b).objs.size=some _:=p (p (Heap.get?_push_size _ rfl))
 have g2:(zT5 s.heap a b).get? (zT1 s.heap a).objs.size=some _:=p (p (p (Heap.get?_push_size _ rfl)))
 have g1:(zT5 s.heap a b).get? s.heap.objs.size=some _:=p (p (p (p (Heap.get?_push_size _ rfl))))
 show _∧_
 rw[z2,z3,z4]at g5
 rw[z1,z2]at g3
 rw[z3]at g4
 rw[z1]at g2
 rw[z4]
 exact⟨⟨_,g5,rfl⟩,h _ g5 g3 g4 ⟨_,g1,rfl,rfl⟩ ⟨_,g2,rfl,rfl⟩ fun c o e=>p (p (p (p (p e))))⟩
end
end L2
end
section
namespace L2
open PySem PySem.Calls PyProof PyProof.Rows
noncomputable def Itz(K:PySem.W.Frag)(a b:Addr):It:=
 ⟨fun i H=>∃xs x ys y,SqT K H a xs∧xs[i]?=some x∧SqT K H b ys∧ys[i]?=some y,fun i H v H'=>∃t x y,H t=none∧v=.ref t∧(∀xs,SqT K H a xs→xs[i]?=some x)∧(∀ys,SqT K H b ys→ys[i]?=some y)∧H'=upd H t (.tup [x,y]),fun i H=>(∃xs,SqT K H a xs∧xs.length=i)∨∃xs x ys,SqT K H a xs∧xs[i]?=some x∧SqT K H b ys∧ys.length=i⟩
theorem Inv.ah{X:Cx}{pins:List (Addr × Obj)}{σ:St}{H:Hp}{s:Shared}{h':Heap}{t':Nat}{ch:List Addr}{T:Addr}{ys:List V}{its:List Value}{n:Nat}(I:Inv X pins σ H s)(fc:∀b∈ch,uB X pins H b)
 (k:∀b o,b ∉ ch→s.heap.get? b=some o→h'.get? b=some o) (hT:s.heap.objs.size≤T) (hz:ys.length≤sizeLine) (r:Vals ys its) (ho:h'.get? T=some {cls:=.type "tuple",data:=.seq its.toArray n}) :
 Inv X pins σ (upd H T (.tup ys)) {s with heap:=h',toks:=t'}:=by
 have hn:H T=none:=I.hok.fresh hT
 have neT:∀b u,H b=some u→b≠T:=fun b u q z=>by rw[z,hn]at q;cases q
 have nec:∀b u,H b=some u→b ∉ ch:=fun b u q z=>by rw[(fc b z).1]at q;cases q
 have neoT:∀b o,s.heap.get? b=some o→b≠T:=fun b o q z=>absurd (Nat.lt_of_lt_of_le (Heap.lt_size q) hT) (by rw[z];exact Nat.lt_irrefl _)
 refine I.step (g':=s.gens) (d':=s.drawn) (ch:=ch) (fun b hb=>?_) (fun b o _ _ hc q _=>k b o hc q) (fun b o _ _ hc q _=>⟨o.slots,k b o hc q⟩)
  (fun b o _ q m=>by rw[zQ (neoT b o q)];exact m) (fun b o hc q=>⟨o,k b o hc q⟩) (fun b xs q=>by rw[zQ (neT b _ q)];exact q) (fun b o u q=>by rw[zQ (neT b _ q)];exact q)
  (fun b ps q=>⟨#[],by rw[zQ (neT b _ q),q];simp⟩) (fun m hm=>?_) (fun b u q=>?_) I.bare
 . obtain⟨e0,e1,e2,e3,e4,e5⟩:=fc b hb
   exact⟨e3,e1,e4,e5⟩
 . obtain⟨o,es,ep,ho,r⟩:=hm
   exact⟨o,es,ep,k _ o (fun z=>(fc _ z).2.1 rfl) ho,r⟩
 . by_cases hb:b=T
   . subst hb
     rw[zo]at q
     cases q
     exact⟨hz,its,r,_,ho,rfl,n,rfl,rfl⟩
   . rw[zQ hb]at q
     refine(I.hok b u q).mX (fun c v hc w=>k c v ?_ w) (fun c hc=>by rw[zQ (neT c _ hc)];exact hc) fun c xs hc=>by rw[zQ (neT c _ hc)];exact hc
     rcases hc with z|z
     . rw[z];exact nec b u q
     . exact nec c _ z
theorem Inv.jo{X:Cx}{pins:List (Addr × Obj)}{σ:St}{H:Hp}{s:Shared}{h':Heap}{t':Nat}{ch:List Addr}(I:Inv X pins σ H s)(fc:∀b∈ch,uB X pins H b)
 (k:∀b o,b ∉ ch→s.heap.get? b=some o→h'.get? b=some o):Inv X pins σ H {s with heap:=h',toks:=t'}:=by
 have nec:∀b u,H b=some u→b ∉ ch:=fun b u q z=>by rw[(fc b z).1]at q;cases q
 refine I.step (g':=s.gens) (d':=s.drawn) (ch:=ch) (fun b hb=>?_) (fun b o _ _ hc q _=>k b o hc q) (fun b o _ _ hc q _=>⟨o.slots,k b o hc q⟩)
  (fun b o _ q m=>m) (fun b o hc q=>⟨o,k b o hc q⟩) (fun b xs q=>q) (fun b o u q=>q)
  (fun b ps q=>⟨#[],by rw[q];simp⟩) (fun m hm=>?_) (fun b u q=>?_) I.bare
 . obtain⟨e0,e1,e2,e3,e4,e5⟩:=fc b hb
   exact⟨e3,e1,e4,e5⟩
 . obtain⟨o,es,ep,ho,r⟩:=hm
   exact⟨o,es,ep,k _ o (fun z=>(fc _ z).2.1 rfl) ho,r⟩
 . refine(I.hok b u q).mX (fun c v hc w=>k c v ?_ w) (fun c hc=>hc) fun c xs hc=>hc
   rcases hc with z|z
   . rw[z];exact nec b u q
   . exact nec c _ z
theorem dt{P:Program}{w:World}{K:PySem.W.Frag}{elts:List Expr}{x1:Nat}{pos:Pos}{a b z TI TO i1 i2:Addr}(D:Ap z TI TO i1 i2 [i1,a] [i2,b])(hai:a≠i1)(hbi:b≠i2) :
 Turn P w K (.Tuple elts x1 pos) (Itz K a b) [z,TI,TO,i1,i2] z (fun i h=>IsZip h z TI TO .none∧IsPair h TI (.ref i1) (.ref i2)∧(∃u v,IsPair h TO u v)∧h.IsTupleIter i1 a i∧h.IsTupleIter i2 b i) where
 mem:=.head _
 obj:=fun i h st c hc=>by
  obtain⟨s1,s2,⟨u,v,s3⟩,⟨o4,q4,c4,d4⟩,⟨o5,q5,c5,d5⟩⟩:=st
  simp only[List.mem_cons,List.not_mem_nil,or_false]at hc
  rcases hc with rfl|rfl|rfl|rfl|rfl
  . exact⟨_,s1,fun v z=>by cases (show Data.fields _=Data.cell v from z)⟩
  . exact⟨_,s2,fun v z=>by cases (show Data.seq _ _=Data.cell v from z)⟩
  . exact⟨_,s3,fun v z=>by cases (show Data.seq _ _=Data.cell v from z)⟩
  . exact⟨_,q4,fun v z=>by rw[d4]at z;cases z⟩
  . exact⟨_,q5,fun v z=>by rw[d5]at z;cases z⟩
 keep:=fun i h h' ⟨s1,s2,⟨u,v,s3⟩,s4,s5⟩ k=>⟨k z (by simp) _ s1,k TI (by simp) _ s2,⟨u,v,k TO (by simp) _ s3⟩,s4.at fun o q=>k i1 (by simp) o q,s5.at fun o q=>k i2 (by simp) o q⟩
 item:=by
  intro X hP hw hK hc i pins s σ H E I hf st hg
  subst hP hw hK
  obtain⟨xs,x,ys,y,hq,hx,hq2,hy⟩:=hg
  obtain⟨s1,s2,⟨u0,v0,s3⟩,s4,s5⟩:=st
  obtain⟨its,rv,p,hz⟩:=I.tuple hq
  obtain⟨its2,rv2,p2,hz2⟩:=I.tuple hq2
  obtain⟨u,hu,ru⟩:=rv.get hx
  obtain⟨u2,hu2,ru2⟩:=rv2.get hy
  have hi:i<its.length:=(List.getElem?_eq_some_iff.mp hu).1
  have hi2:i<its2.length:=(List.getElem?_eq_some_iff.mp hu2).1
  have D1:=wm (prog:=X.prog) (w:=X.w) (A:=X.A.in1) (I.ok.hd hc) i1 a hai its.toArray
  have D2:=wm (prog:=X.prog) (w:=X.w) (A:=X.A.in1) (I.ok.hd hc) i2 b hbi its2.toArray
  refine next_item D D1 D2 s1 s2 s3 ⟨s4,p⟩ ⟨s5,p2⟩ (by rw[List.size_toArray];exact hi) (by rw[List.size_toArray];exact hi2) fun v v2 h1 tk hP hP2 z1 z2 z3 t1 t2 zT hk=>?_
  have ev:v=u:=by
   have hP:its.toArray[i]?=some v:=hP
   rw[List.getElem?_toArray,hu]at hP
   exact(Option.some.inj hP).symm
  have ev2:v2=u2:=by
   have hP:its2.toArray[i]?=some v2:=hP2
   rw[List.getElem?_toArray,hu2]at hP
   exact(Option.some.inj hP).symm
  subst ev ev2
  refine⟨_,rfl,wpAny_letOwnedTupleGo_zip (s:={s with heap:=h1,toks:=tk}) z1 fun h2 zz sb=>?_⟩
  have sz:s.heap.objs.size≠z:=Nat.ne_of_gt (Heap.lt_size s1)
  have up:∀c o,c≠z→h1.get? c=some o→h2.get? c=some o:=fun c o n e=>(sb.2 c n).trans e
  refine⟨.ref s.heap.objs.size,_,Inv.ah (s:=s) (h':=h2) (t':=tk) (ch:=[z,TI,TO,i1,i2]) (T:=s.heap.objs.size) (ys:=[x,y]) (its:=[v,v2]) (n:=0) I hf (fun c o hc q=>?_) (Nat.le_refl _) (by rw[sizeLine_eq];show 2≤_;omega) (.cons ru (.cons ru2 .nil)) (up _ _ sz zT),rfl,
   ⟨s.heap.objs.size,x,y,I.hok.fresh (Nat.le_refl _),rfl,fun ys' hy'=>by rw[I.tq hy' hq];exact hx,fun ys' hy'=>by rw[I.tq hy' hq2];exact hy,rfl⟩,
   ⟨zz,up _ _ D.zI.symm z2,⟨_,_,up _ _ D.zO.symm z3⟩,t1.1.at fun o q=>up _ _ D.z1.symm q,t2.1.at fun o q=>up _ _ D.z2.symm q⟩,fun c hc=>?_⟩
  . simp only[List.mem_cons,List.not_mem_nil,or_false,not_or]at hc
    exact up c o hc.1 (hk c o hc.1 hc.2.2.1 hc.2.2.2.1 hc.2.2.2.2 q)
  . have lt:c<s.heap.objs.size:=by
     simp only[List.mem_cons,List.not_mem_nil,or_false]at hc
     rcases hc with rfl|rfl|rfl|rfl|rfl
     . exact Heap.lt_size s1
     . exact Heap.lt_size s2
     . exact Heap.lt_size s3
     . obtain⟨o,q,_⟩:=s4;exact Heap.lt_size q
     . obtain⟨o,q,_⟩:=s5;exact Heap.lt_size q
    rw[zQ (Nat.ne_of_lt lt)]
    exact(hf c hc).1
 done:=by
  intro X hP hw hK hc i pins s σ H E I hf st hg
  subst hP hw hK
  obtain⟨s1,s2,⟨u0,v0,s3⟩,s4,s5⟩:=st
  rcases hg with⟨xs,hq,hx⟩|⟨xs,x,ys,hq,hx,hq2,hy⟩
  case inr=>
   obtain⟨its,rv,p,hz⟩:=I.tuple hq
   obtain⟨its2,rv2,p2,hz2⟩:=I.tuple hq2
   obtain⟨u,hu,ru⟩:=rv.get hx
   have hi:i<its.length:=(List.getElem?_eq_some_iff.mp hu).1
   have hlen2:=rv2.length
   have D1:=wm (prog:=X.prog) (w:=X.w) (A:=X.A.in1) (I.ok.hd hc) i1 a hai its.toArray
   have D2:=wm (prog:=X.prog) (w:=X.w) (A:=X.A.in1) (I.ok.hd hc) i2 b hbi its2.toArray
   have en:its2.toArray.size=i:=by rw[List.size_toArray];omega
   refine iU D D1 D2 s1 s2 s3 ⟨s4,p⟩ ⟨by rw[en];exact s5,p2⟩ (by rw[List.size_toArray];exact hi) fun h' tk hk=>⟨rfl,I.jo (t':=tk) (ch:=[z,TI,TO,i1,i2]) hf fun c o hc q=>?_⟩
   simp only[List.mem_cons,List.not_mem_nil,or_false,not_or]at hc
   exact hk c o hc.1 hc.2.2.1 hc.2.2.2.1 hc.2.2.2.2 q
  obtain⟨its,rv,p,hz⟩:=I.tuple hq
  have hlen:=rv.length
  have D1:=wm (prog:=X.prog) (w:=X.w) (A:=X.A.in1) (I.ok.hd hc) i1 a hai its.toArray
  have en:its.toArray.size=i:=by rw[List.size_toArray];omega
  refine next_end D D1 s1 s2 s3 ⟨by rw[en];exact s4,p⟩ fun h' hk=>⟨rfl,I.jo (t':=s.toks) (ch:=[z,TI,TO,i1,i2]) hf fun c o hc q=>?_⟩
  simp only[List.mem_cons,List.not_mem_nil,or_false,not_or]at hc
  exact hk c o hc.1 hc.2.2.1 hc.2.2.2.1 hc.2.2.2.2 q
 self:=fun _ _ _ _ _ st h=>wpAny_pyIter_zip st.1 h
noncomputable def V2(K:PySem.W.Frag)(ta:TA):TI:=fun σ H R=>ta σ H fun vs H1=>∃a b,vs=[.ref a,.ref b]∧(∃xs,SqT K H1 a xs)∧(∃ys,SqT K H1 b ys)∧R (Itz K a b) H1
theorem X8{n a b:Nat}(ha:a<n)(hb:b<n):Ap (n+4) (n+2) (n+3) n (n+1) [n,a] [n+1,b]:=by
 have f:∀{c x y:Nat},c≠x→c≠y→¬(c∈([x,y]:List Nat)):=fun h k m=>by
  rcases List.mem_cons.mp m with e|m
  . exact h e
  . exact k (List.mem_singleton.mp m)
 exact⟨show n+4≠n+2 by omega,show n+4≠n+3 by omega,show n+4≠n by omega,show n+4≠n+1 by omega,show n+2≠n+3 by omega,show n+2≠n by omega,show n+2≠n+1 by omega,show n+3≠n by omega,show n+3≠n+1 by omega,show n≠n+1 by omega,
  f (by omega) (by omega),f (by omega) (by omega),f (by omega) (by omega),f (by omega) (by omega),f (by omega) (by omega),f (by omega) (by omega)⟩
theorem XJ{X:Cx}{elts:List Expr}{x1:Nat}{tpos:Pos}{a b:Expr}{ta:TA}{p pos:Pos}(hg:Gl X "zip")(hm:X.mg "zip"=none)(ha:PA X [a,b] ta)(hs:starEach [a,b] X.env=[(false,eval a X.env),(false,eval b X.env)])(hs2:starEach [b] X.env=[(false,eval b X.env)]):PI X (.Tuple elts x1 tpos) (.Call (.Name "zip" p) [a,b] [] pos) (V2 X.K ta):=by
 intro pins s σ H R I h
 refine Call_ (tQ I hg hm boot_zip (PyProof.Rows.callWith_type1 (thn (ha pos pins s σ H _ I h) fun us s1 ⟨vs,H1,I1,r1,q1⟩=>?_) (by rw[hs,hs2]) (by rw[hs2];rfl)))
 obtain⟨c,d,e,⟨xs,hq⟩,⟨ys,hq2⟩,q⟩:=q1
 subst e
 obtain⟨u1,u2,rfl,r,r2⟩:=vals2 r1
 cases r
 cases r2
 obtain⟨its,rv,pt,hz⟩:=I1.tuple hq
 obtain⟨its2,rv2,pt2,hz2⟩:=I1.tuple hq2
 have lc:c<s1.heap.objs.size:=by obtain⟨o,q,_⟩:=id pt;exact Heap.lt_size q
 have ld:d<s1.heap.objs.size:=by obtain⟨o,q,_⟩:=id pt2;exact Heap.lt_size q
 have fp:∀b∈[s1.heap.objs.size+4,s1.heap.objs.size+2,s1.heap.objs.size+3,s1.heap.objs.size,s1.heap.objs.size+1],uB X pins H1 b:=fun b hb=>by
  have hb':s1.heap.objs.size≤b:=by
   simp only[List.mem_cons,List.not_mem_nil,or_false]at hb
   rcases hb with rfl|rfl|rfl|rfl|rfl
   . exact Nat.le_add_right _ _
   . exact Nat.le_add_right _ _
   . exact Nat.le_add_right _ _
   . exact Nat.le_refl _
   . exact Nat.le_add_right _ _
  exact I1.cV hb' (I1.hok.fresh hb')
 refine j0 (show s1.heap.IsTuple c its.toArray from pt) (show s1.heap.IsTuple d its2.toArray from pt2) fun h' z1 z2 z3 z4 z5 hk=>wpAny_pyIter_zip z1 ?_
 exact⟨s1.heap.objs.size+4,_,_,_,H1,rfl,I1.kept (t':=s1.toks) hk,dt (X8 lc ld) (Nat.ne_of_lt lc) (Nat.ne_of_lt (Nat.lt_succ_of_lt ld)),⟨z1,z2,⟨_,_,z3⟩,z4,z5⟩,fp,q⟩
end L2
end
section
namespace L2
open PySem PyProof.Rows
noncomputable def intsOf:List Expr→Option (List Int)
 |[]=>some []
 |.Constant (.int i) _ _::es=>(intsOf es).map fun r=>i::r
 |.UnaryOp .USub (.Constant (.int i) _ _) _::es=>(intsOf es).map fun r=>-i::r
 |_=>none
end L2
end
section
namespace L2
open PySem PyProof.Rows
section
variable {X:Cx}{a b:Expr}{rest:List Expr}{ta tb:TE}{pos:Pos}
noncomputable def UP(K:PySem.W.Frag)(ta tb:TE):TE:=fun σ H Q=>ta σ H fun x H1=>∃c,cG K x H1 c∧if c=true then Q x H1 else tb σ H1 Q
theorem XE(ha:PE X a ta)(hb:PE X (.BoolOp .Or (b::rest) pos) tb):PE X (.BoolOp .Or (a::b::rest) pos) (UP X.K ta tb):=by
 intro pins s σ H Q I h
 refine BoolOp_or (thn (ha pins s σ H _ I h) fun v s1 ⟨x,H1,I1,r1,c,ht,q1⟩=>?_)
 refine thn (dq pins s1 σ H1 x v (fun k H2=>if k=true then Q x H2 else tb σ H2 Q) I1 r1 ⟨c,ht,q1⟩) fun k s2 ⟨H2,I2,q2⟩=>?_
 cases k with
 |false=>exact hb pins s2 σ H2 Q I2 q2
 |true=>exact⟨x,H2,I2,r1,q2⟩
end
noncomputable def vR(n:Nat)(lo hi:Option Int)(c:Int):Int × Nat:=((sliceBounds lo hi (some c) n).1,(if c > 0 then (if (sliceBounds lo hi (some c) n).1<(sliceBounds lo hi (some c) n).2.1 then ((sliceBounds lo hi (some c) n).2.1-(sliceBounds lo hi (some c) n).1+c-1)/c else 0) else (if (sliceBounds lo hi (some c) n).1 > (sliceBounds lo hi (some c) n).2.1 then ((sliceBounds lo hi (some c) n).1-(sliceBounds lo hi (some c) n).2.1-c-1)/(-c) else 0):Int).toNat)
theorem vg(its:List Value)(lo hi:Option Int)(c:Int):slicePick its.toArray lo hi (some c)=(yR its (vR its.length lo hi c).1 c (vR its.length lo hi c).2).toArray:=by
 unfold slicePick sliceRange yR vR
 rw[List.filterMap_map]
 refine congrArg List.toArray ?_
 have e:(sliceBounds lo hi (some c) its.toArray.size).2.2=c:=rfl
 rw[e]
 simp only[List.size_toArray]
 refine congrArg (fun f=>List.filterMap f _) ?_
 funext k
 show its.toArray[_]?=_
 rw[List.getElem?_toArray,Int.mul_comm]
noncomputable def VW(K:PySem.W.Frag):V→Option Int→Option Int→Option Int→Hp→VK→Prop:=fun x lo hi st H Q=>∃a xs c,x=.ref a∧SqL K H a xs∧st=some c∧c≠0∧∀p,H p=none→Q (.ref p) (upd H p (.lst (yR xs (vR xs.length lo hi c).1 c (vR xs.length lo hi c).2)))
theorem lg{X:Cx}{e:Expr}{te:TE}{lo hi:Option Expr}{st:Expr}{tl th tc:TO}{pos p2:Pos}(he:PE X e te)(hl:PO X lo tl)(hu:PO X hi th)(hc:PO X (some st) tc):PE X (.Subscript e (.Slice lo hi (some st) p2) pos) (Vm (VW X.K) te tl th tc):=by
 intro pins s σ H Q I h
 refine Subscript_ (thn (he pins s σ H _ I h) fun v s1 ⟨x,H1,I1,r1,q1⟩=>?_)
 refine wpAny_Slice (thn (hl pins s1 σ H1 _ I1 q1) fun vl s2 ⟨l,H2,I2,pl,q2⟩=>thn (hu pins s2 σ H2 _ I2 q2) fun vu s3 ⟨u,H3,I3,pu,q3⟩=>thn (hc pins s3 σ H3 _ I3 q3) fun vc s4 ⟨c,H4,I4,pc,q4⟩=>?_)
 obtain⟨a,xs,cc,rfl,hx,ec,h0,g⟩:=q4
 subst ec
 cases r1
 have I5:Inv X pins σ H4 {s4 with heap:=s4.heap.push {cls:=.type "slice",data:=.fields #[vl,vu,vc]}}:=I4.kept (t':=s4.toks) fun b ob q=>Heap.get?_push_of_some _ q
 obtain⟨its,r,ht,hz⟩:=I5.list hx
 have hlen:=r.length
 show wpAny (model X.prog X.w) X.A (subscriptTail e (.Slice lo hi (some st) p2) (.ref a) (.ref s4.heap.objs.size)) (EP X pins σ Q) X.xe {s4 with heap:=s4.heap.push {cls:=.type "slice",data:=.fields #[vl,vu,vc]}}
 refine tail_any (ops:=[.ref a,.ref s4.heap.objs.size]) ht.isList.typeIs slot_list_getitem.lookup (wpAny_getItem_list_slice ht.isList (Heap.IsSliceOf.new ..) pl pu pc (fun z=>h0 (Option.some.inj z)) ?_ (by rw[List.size_toArray]<;>omega)) (by with_unfolding_all rfl)
 rw[vg,←hlen]
 refine⟨.ref _,_,I5.laid (t':=s4.toks) (o:=.lst (yR xs (vR xs.length l u cc).1 cc (vR xs.length l u cc).2)) (fun b ob q=>Heap.get?_push_of_some _ q) (Nat.le_refl _) ?_,rfl,g _ (I5.hok.fresh (Nat.le_refl _))⟩
 have rp:=r.yR (vR xs.length l u cc).1 cc (vR xs.length l u cc).2
 have bound:(yR xs (vR xs.length l u cc).1 cc (vR xs.length l u cc).2).length≤xs.length:=by
  have:=slicePick_size_le its.toArray l u (some cc)
  rw[vg,List.size_toArray,List.size_toArray,←hlen,←rp.length]at this
  exact this
 exact⟨Nat.le_trans bound hz,_,0,rp,Heap.get?_push_size _ rfl⟩
end L2
end
section
namespace L2
open PySem PyProof PyProof.Rows
section
variable {X:Cx}
theorem any_range:∀(bs:List Bool),((List.range bs.length).any fun i=>bs.getD i false)=bs.any id:=by
 intro bs
 induction bs with
 |nil=>rfl
 |cons b bs ih=>
  rw[List.length_cons,List.range_succ_eq_map,List.any_cons,List.any_cons,List.any_map]
  exact congrArg (b||·) (Eq.trans (by congr 1) ih)
theorem rD(hc:X.calm=true):yQ X (.builtin "any") (fun xs H Q=>∃(a:Addr) (bs:List Bool),xs=[.ref a]∧SqL X.K H a (bs.map V.bl)∧Q (.bl (bs.any id)) H):=by
 intro pins s σ H xs us Q I r h
 obtain⟨a,bs,rfl,ha,q⟩:=h
 obtain⟨u,rfl,ru⟩:=vals1 r
 cases ru
 obtain⟨its,rv,pl,hz⟩:=I.list ha
 have hits:=rv.bools
 have alt:a<s.heap.objs.size:=by obtain⟨o,ho,_⟩:=pl.isList;exact Heap.lt_size ho
 refine call_any_walk (wpAny_pyIter_list pl.isList ?_)
 refine⟨s.heap.objs.size,_,_,_,_,_,fun i=>bs.getD i false,rfl,Walks.list (A:=X.A.in1) (I.ok.hd hc) s.heap.objs.size a (Nat.ne_of_lt alt) its.toArray,⟨⟨_,Heap.get?_push_size _ rfl,rfl,rfl⟩,?_⟩,?_,fun h' tk hk=>?_⟩
 . obtain⟨o,ho,hc',n,hd⟩:=pl.isList
   exact⟨o,Heap.get?_push_of_some _ ho,hc',n,hd⟩
 . intro i v s' Q' E' hv hq
   have hv':(bs.map Value.bool)[i]?=some v:=by rw[←hits];simpa using hv
   rw[List.getElem?_map]at hv'
   cases hb:bs[i]? with
   |none=>rw[hb]at hv';cases hv'
   |some b=>
    rw[hb]at hv'
    have:v=Value.bool b:=(Option.some.inj hv').symm
    subst this
    have e:bs.getD i false=b:=by rw[List.getD_eq_getElem?_getD,hb];rfl
    have hq':Q' (bs.getD i false) s':=hq
    rw[e]at hq'
    exact wpAny_truthy_bool hq'
 . have e:(List.range its.toArray.size).any (fun i=>bs.getD i false)=bs.any id:=by
    rw[List.size_toArray,hits,List.length_map];exact any_range bs
   rw[e]
   refine⟨.bl (bs.any id),H,I.kept fun b o ho=>hk b o ?_ (Heap.get?_push_of_some _ ho),rfl,q⟩
   simpa using Nat.ne_of_lt (Heap.lt_size ho)
noncomputable def Wh(z:Str)(ys:List Str):Str:=Txt.join z ys
end
end L2
end
section
namespace L2
open PySem PySem.Spec PyProof PyProof.Rows
theorem nt:typeLookup (.type "tuple") (dunderI "add")=(pure none:Sem (Option Value)):=rfl
section
variable {X:Cx}
theorem iF:OpR X (inplaceOp .Add) ZL:=by
 intro pins s σ H x y v u Q I rx ry h
 obtain⟨a,b,xs,ys,rfl,rfl,ha,hb,hz,g⟩:=h
 cases rx
 cases ry
 obtain⟨its,r1,p1,_⟩:=I.tuple (.inl (.inl ha))
 obtain⟨its2,r2,p2,_⟩:=I.tuple (.inl (.inl hb))
 obtain⟨⟨cls,dd,data,sl⟩,ho,hc,n,hd⟩:=id p1
 obtain⟨⟨cls2,dd2,data2,sl2⟩,ho2,hc2,n2,hd2⟩:=id p2
 simp only at hc hd hc2 hd2
 subst hc hd hc2 hd2
 have e:its.toArray++its2.toArray=(its++its2).toArray:=by simp
 have tA:s.TypeIs (.ref a) "tuple":=⟨_,ho,rfl⟩
 have tB:s.TypeIs (.ref b) "tuple":=⟨_,ho2,rfl⟩
 refine inplaceOp_concat tA tB nt noFill_tuple_add seq_tuple_add ?_
 by_cases hx:xs=[]
 . subst hx
   cases r1
   exact call_meets PySem.F.slot_tuple_add tA PySem.F.entry_tuple_add (PySem.F.args_tuple_add_2 _ _) (tuple_addW0 a b #[] its2.toArray n n2 dd dd2 sl sl2 rfl) ⟨ho,ho2,⟨.ref b,H,I,rfl,g b H (tJ.refl H) hb⟩⟩
 . have hv:its≠[]:=fun z=>hx (r1.wV.mp z)
   by_cases hy:ys=[]
   . have hw:its2=[]:=r2.wV.mpr hy
     subst hy
     rw[List.append_nil]at g
     exact call_meets PySem.F.slot_tuple_add tA PySem.F.entry_tuple_add (PySem.F.args_tuple_add_2 _ _) (tuple_addW1 a b its.toArray its2.toArray n n2 dd dd2 sl sl2 (by simpa using hv) (by simp[hw])) ⟨ho,ho2,⟨.ref a,H,I,rfl,g a H (tJ.refl H) ha⟩⟩
   . have hw:its2≠[]:=fun z=>hy (r2.wV.mp z)
     refine call_meets PySem.F.slot_tuple_add tA PySem.F.entry_tuple_add (PySem.F.args_tuple_add_2 _ _) (tuple_addW2 a b its.toArray its2.toArray n n2 dd dd2 sl sl2 (by simpa using hv) (by simpa using hw) (by rw[List.size_toArray,List.size_toArray,←r1.length,←r2.length];exact hz)) ⟨ho,ho2,?_⟩
     rw[e]
     refine⟨.ref s.heap.objs.size,_,I.laid (t':=s.toks) (o:=.tup (xs++ys)) (fun b ob q=>Heap.get?_push_of_some _ q) (Nat.le_refl _) ?_,rfl,g.new _ (I.hok.fresh (Nat.le_refl _))⟩
     exact⟨by rw[List.length_append];exact hz,_,r1.append r2,uR.new _ _⟩
noncomputable def Vc(ns:List Int):Bool:=decide (ns.length≤1000)&&ns.all fun n=>decide (-1000000≤n)&&decide (n≤1000000)
end
end L2
end
section
namespace L2
open PySem PySem.W PySem.Calls PyProof PyProof.Rows
open AutoSeq1 (wpAny_loadPart')
open SeqAt
section
variable {prog:Program}{w:World}{A:Around}{E:Value→Shared→Prop}{s:Shared}
theorem oo{l:Addr}{T:String}{o:Obj}{vs:List Value}{n:Nat}{ns:List Int}{Q:Value→Shared→Prop}(hT:T="list"∨T="tuple")(ho:s.heap.get? l=some o)(hc:o.cls=.type T)(hd:o.data=.seq vs.toArray n)(hI:IntsAre vs ns)(h64:vs.length<64)
 (h:∀(D:Addr) (h':Heap) (out:Array Value) (ns':List Int) (c:Nat),s.heap.get? D=none→(∀b o,s.heap.get? b=some o→h'.get? b=some o)→h'.get? D=some (seqObj "list" out c)→IntsAre out.toList ns'→ns'.Perm ns→ns'.Pairwise (·≤·)→Q (.ref D) {s with heap:=h'}) :
 wpAny (model prog w) A (call (.builtin "sorted") [.ref l]) Q E s:=by
 refine Calls.call_function_entry kind_sorted plain_sorted entry_sorted (args_sorted1 _) ?_
 unfold Builtin.«sorted»
 refine wpAny_bind (m:=checkCount "sorted" 1 1 _) (wpAny_pure ?_)
 refine wpAny_bind (wpAny_collect_seq l hT ho hc hd (fun h1 kp=>?_) (by rw[List.size_toArray,sizeLine_eq];omega))
 refine wpAny_bind (wpAny_newList ?_ (by rw[sizeLine_eq];simp;omega))
 have hoL:(h1.push (seqObj "list" vs.toArray 0)).get? h1.objs.size=some (seqObj "list" vs.toArray 0):=Heap.get?_push_size _ rfl
 show wpAny _ _ _ _ _ {s with heap:=h1.push (seqObj "list" vs.toArray 0)}
 refine wpAny_bind (wpAny_holding (wpAny_call_entry slot_list_sort ⟨_,hoL,rfl⟩ entry_list_sort (list_sort_tree hoL hI h64 fun out ns' a1 a2 a3=>⟨_,rfl,?_⟩) (args_list_sort _)))
 obtain⟨c,ec⟩:=sortedHeap_at (out:=out) hoL
 refine wpAny_pure ⟨_,rfl,h h1.objs.size _ out ns' c ?_ (fun b o e=>?_) ec a1 a2 a3⟩
 . cases e:s.heap.get? h1.objs.size with
   |none=>rfl
   |some o'=>exact absurd (Heap.lt_size (kp _ _ e)) (Nat.lt_irrefl _)
 . have hb:=Heap.lt_size (kp b o e)
   rw[sortedHeap_old (Nat.ne_of_lt hb) (by rw[size_push'];exact Nat.lt_succ_of_lt hb),Heap.get?_push_ne _ _ _ (Nat.ne_of_lt hb)]
   exact kp b o e
end
theorem nS:∀{ns:List Int} {us:List Value},Vals (ns.map V.int) us→IntsAre us ns
 |[],_,.nil=>.nil
 |n::ns,_,.cons ⟨t,e⟩ r=>by subst e;exact .cons _ _ (nS r)
theorem nA:∀{ns:List Int} {us:List Value},IntsAre us ns→Vals (ns.map V.int) us
 |_,_,.nil=>.nil
 |_,_,.cons _ _ r=>.cons ⟨_,rfl⟩ (nA r)
theorem m3{X:Cx}:yQ X (.builtin "sorted") (fun xs H Q=>∃p ns,xs=[.ref p]∧(SqL X.K H p (ns.map V.int)∨SqT X.K H p (ns.map V.int))∧ns.length<64 ∧
 ∀(l:Addr) (ns':List Int),H l=none→ns'.Perm ns→ns'.Pairwise (·≤·)→Q (.ref l) (upd H l (.lst (ns'.map V.int)))):=by
 intro pins s σ H xs us Q I r h
 obtain⟨p,ns,rfl,hq,h64,q⟩:=h
 obtain⟨u,rfl,rx⟩:=vals1 r
 cases rx
 have go:∀{its:List Value} {T:String} {o:Obj} {n:Nat},Vals (ns.map V.int) its→(T="list"∨T="tuple")→s.heap.get? p=some o→o.cls=.type T→o.data=.seq its.toArray n →
  wpAny (model X.prog X.w) X.A (call (.builtin "sorted") [.ref p]) (fun v s'=>∃x H',Inv X pins σ H' s'∧RelV x v∧Q x H') X.xe s:=fun{its T o n} rv hT ho hc hd=>by
  have hl:=rv.length
  rw[List.length_map]at hl
  refine oo hT ho hc hd (nS rv) (by omega) fun D h' out ns' c hD keep e hi hp ho=>?_
  have hln:=hp.length_eq
  obtain⟨hn',I'⟩:=I.mq (h':=h') (ys:=ns'.map V.int) (its:=out.toList) (c:=c) (by rw[List.length_map,sizeLine_eq];omega) (nA hi) hD (fun b o _ e=>keep b o e) (fun m ⟨o,es,ep,ho,r⟩=>⟨o,es,ep,keep _ o ho,r⟩) (by rw[e])
  exact⟨V.ref _,_,I',rfl,q _ _ hn' hp ho⟩
 rcases hq with hq|hq
 . obtain⟨its,rv,pl,hz⟩:=I.list hq
   obtain⟨o,ho,hc,n,hd⟩:=id pl.isList
   exact go rv (.inl rfl) ho hc hd
 . obtain⟨its,rv,p1,_⟩:=I.tuple hq
   obtain⟨o,ho,hc,n,hd⟩:=id p1
   exact go rv (.inr rfl) ho hc hd
section
variable {X:Cx}
noncomputable def XU(K:PySem.W.Frag)(g:List Int→Int):List V→Hp→VK→Prop:=fun xs H Q=>∃(a:Addr) (ns:List Int),xs=[.ref a]∧SqT K H a (ns.map V.int)∧ns≠[]∧Q (.int (g ns)) H
theorem jw(hc:X.calm=true):yQ X (.builtin "max") (XU X.K (wL 0)):=by
 intro pins s σ H xs us Q I r h
 obtain⟨a,ns,rfl,ha,hne,q⟩:=h
 obtain⟨u,rfl,ru⟩:=vals1 r
 cases ru
 obtain⟨its,rv,pl,hz⟩:=I.tuple ha
 have hlen:=rv.length
 have alt:a<s.heap.objs.size:=by obtain⟨o,ho,_⟩:=id pl;exact Heap.lt_size ho
 have hl:its.toArray.size=ns.length:=by rw[List.size_toArray,←hlen,List.length_map]
 have hpos:0<ns.length:=List.length_pos_iff.mpr hne
 have hat:∀(i:Nat) (v:Value),its.toArray[i]?=some v→∃t,v=.int (ns.getD i 0) t:=fun i v hv=>rv.ints (by simpa using hv)
 refine call_max_walk (wpAny_pyIter_tuple pl ?_)
 refine⟨s.heap.objs.size,_,_,_,_,_,_,rfl,Walks.tuple (A:=X.A.in1) (I.ok.hd hc) s.heap.objs.size a (Nat.ne_of_lt alt) its.toArray,⟨⟨_,Heap.get?_push_size _ rfl,rfl,rfl⟩,?_⟩,fun b hb=>?_,by omega,CmpOf.ints_gt (fun i=>ns.getD i 0) hat,fun v h' tk hP hk=>?_⟩
 . obtain⟨o,ho,hc',n,hd⟩:=id pl
   exact⟨o,Heap.get?_push_of_some _ ho,hc',n,hd⟩
 . rw[Heap.size_push]
   simp only[List.mem_cons,List.not_mem_nil,or_false]at hb
   rcases hb with e|e
   . rw[e];exact Nat.lt_succ_self _
   . rw[e];exact Nat.lt_succ_of_lt alt
 . obtain⟨t,rfl⟩:=hat _ _ hP
   obtain⟨b1,b2⟩:=argBest_gt (fun i=>ns.getD i 0) (its.toArray.size-1)
   have e:wL 0 ns=ns.getD (argBest (fun i j=>decide (ns.getD i 0 > ns.getD j 0)) (its.toArray.size-1)) 0:=by
    refine ng ?_ fun x hx=>?_
    . have:argBest (fun i j=>decide (ns.getD i 0 > ns.getD j 0)) (its.toArray.size-1)<ns.length:=by omega
      rw[List.getD_eq_getElem?_getD,List.getElem?_eq_getElem this];exact List.getElem_mem this
    . obtain⟨i,hi,rfl⟩:=List.getElem_of_mem hx
      have:=b2 i (by omega)
      simpa [List.getD_eq_getElem?_getD,List.getElem?_eq_getElem hi] using this
   refine⟨.int (wL 0 ns),H,I.kept fun b o ho=>hk b o ?_ (Heap.get?_push_of_some _ ho),⟨t,by rw[e]⟩,q⟩
   simpa using Nat.ne_of_lt (Heap.lt_size ho)
end
end L2
end
section
namespace L2
open PySem PySem.W PySem.Calls PyProof PyProof.Rows
def gI(prog:Program)(w:World)(A:Around)(P:Nat→Value→Prop)(bt:Nat→Nat→Bool)(St:Nat→Heap→Prop):Prop:=
 ∀m i j vi vj (s:Shared) (Q:Value→Shared→Prop) (E:Value→Shared→Prop),St m s.heap→P i vi→P j vj→Q (.bool (bt i j)) s→wpAny (model prog w) A (richCompare .Lt vi vj) Q E s
section
variable {prog:Program}{w:World}{A:Around}{R:Result→Shared→Prop}{I:Addr}{fp wr:List Addr}{n:Nat}{P:Nat→Value→Prop}{St:Nat→Heap→Prop}
theorem iS(W:Walks prog w A.in1 I fp wr n P St)(bt:Nat→Nat→Bool)(hcmp:gI prog w A.in1 P bt St)(S:Addr)(hSf:S ∉ fp) :
 ∀(k j:Nat) (s:Shared) (vb:Value) (c:Nat),n-(j+1)=k→j+1≤n→St (j+1) s.heap→P (argBest bt j) vb →
 s.heap.get? S=some {cls:=.type "list",dict:=none,data:=.seq #[vb,vb] c,slots:=#[]} →
 (∀v h' tk,P (argBest bt (n-1)) v→(∀b o,b ∉ wr→b≠S→s.heap.get? b=some o→h'.get? b=some o)→R (.ok (.ret v)) {s with heap:=h',toks:=tk}) →
 codeAny (model prog w) A (.builtin "min.loop" ⟨[.ref I,.none,.ref S],[]⟩) R s:=by
 have hSw:S ∉ wr:=fun h=>hSf (W.sub _ h)
 have hname:(toString "min"++toString ".loop":String)="min.loop":=by decide
 intro k
 induction k with
 |zero=>
  intro j s vb c hk hj hst hPb hS hR
  have hin:j+1=n:=by omega
  refine codeAny_builtin F.entry_min_loop ?_
  rw[Around.under_plainId F.plain_min_loop _]
  show wpAny _ A.in1 (seqItems? (.ref S) >>= _) _ _ s
  refine wpAny_bind (wpAny_seqItems hS rfl ?_)
  show wpAny _ A.in1 (tryCatch (pyNext (.ref I)) _ >>= _) _ _ s
  refine wpAny_bind (wpAny_tryCatch (W.done s _ _ (hin▸hst) fun h' tk hk'=>?_))
  have hS':=hk' S _ hSw hS
  show wpAny _ A.in1 (updateSeq S (fun _=>#[]) >>= _) _ _ _
  refine wpAny_bind ?_
  refine wpAny_updateSeq hS' rfl (wpAny_bind (wpAny_letGo (wpAny_pure ?_)))
  refine hR vb _ tk (by rw[←hin];exact hPb) fun b o hbw hbS e=>(Heap.get?_update_other _ _ (Ne.symm hbS)).trans (hk' b o hbw e)
 |succ k ih=>
  intro j s vb c hk hj hst hPb hS hR
  have hlt:j+1<n:=by omega
  refine codeAny_builtin F.entry_min_loop ?_
  rw[Around.under_plainId F.plain_min_loop _]
  show wpAny _ A.in1 (seqItems? (.ref S) >>= _) _ _ s
  refine wpAny_bind (wpAny_seqItems hS rfl ?_)
  show wpAny _ A.in1 (tryCatch (pyNext (.ref I)) _ >>= _) _ _ s
  refine wpAny_bind (wpAny_tryCatch (W.item (j+1) s _ _ hlt hst fun v h' tk hP hst' hk'=>?_))
  have hS':=hk' S _ hSw hS
  show wpAny _ A.in1 (tryCatch (holding [v,v] (richCompare .Lt v vb >>= _)) _ >>= _) _ _ _
  refine wpAny_bind (wpAny_tryCatch (wpAny_holding (wpAny_bind (hcmp (j+2) (j+1) (argBest bt j) v vb _ _ _ hst' hP hPb ?_))))
  refine wpAny_bind (wpAny_holding (wpAny_truthy_bool ?_))
  refine wpAny_bind (wpAny_letGo (wpAny_pure ?_))
  cases hb:bt (j+1) (argBest bt j) with
  |true=>
   simp only[if_true]
   refine wpAny_bind ?_
   refine wpAny_updateSeq hS' rfl (wpAny_bind (wpAny_letGo ?_))
   rw[hname]
   refine wpAny_pure ⟨plainId_quiet F.plain_min_loop _,ih (j+1) _ v _ (by omega) hlt (W.frame _ _ _ hst' fun b hbf o e=>?_) (by simp only[argBest,hb,if_true];exact hP) (Heap.get?_update_self _ hS' rfl)
    fun v' h'' tk'' hP' hk''=>?_⟩
   . exact(Heap.get?_update_other _ _ (fun h:S=b=>hSf (by rw[h];exact hbf))).trans e
   . exact hR v' h'' tk'' hP' fun b o hbw hbS e=>hk'' b o hbw hbS ((Heap.get?_update_other _ _ (Ne.symm hbS)).trans (hk' b o hbw e))
  |false=>
   simp only[Bool.false_eq_true,if_false]
   refine wpAny_bind (wpAny_letGo ?_)
   rw[hname]
   refine wpAny_pure ⟨plainId_quiet F.plain_min_loop _,ih (j+1) _ vb c (by omega) hlt hst' (by simp only[argBest,hb,Bool.false_eq_true,if_false];exact hPb) hS' fun v' h'' tk'' hP' hk''=>?_⟩
   exact hR v' h'' tk'' hP' fun b o hbw hbS e=>hk'' b o hbw hbS (hk' b o hbw e)
theorem sO(W:Walks prog w A.in1 I fp wr n P St)(bt:Nat→Nat→Bool)(hcmp:gI prog w A.in1 P bt St)(S:Addr)(hSf:S ∉ fp)(hn:0<n){s:Shared}{c:Nat}(hst:St 0 s.heap)
 (hS:s.heap.get? S=some {cls:=.type "list",dict:=none,data:=.seq #[] c,slots:=#[]})
 (hR:∀v h' tk,P (argBest bt (n-1)) v→(∀b o,b ∉ wr→b≠S→s.heap.get? b=some o→h'.get? b=some o)→R (.ok (.ret v)) {s with heap:=h',toks:=tk}) :
 codeAny (model prog w) A (.builtin "min.loop" ⟨[.ref I,.none,.ref S],[]⟩) R s:=by
 have hSw:S ∉ wr:=fun h=>hSf (W.sub _ h)
 have hname:(toString "min"++toString ".loop":String)="min.loop":=by decide
 refine codeAny_builtin F.entry_min_loop ?_
 rw[Around.under_plainId F.plain_min_loop _]
 show wpAny _ A.in1 (seqItems? (.ref S) >>= _) _ _ s
 refine wpAny_bind (wpAny_seqItems hS rfl ?_)
 show wpAny _ A.in1 (tryCatch (pyNext (.ref I)) _ >>= _) _ _ s
 refine wpAny_bind (wpAny_tryCatch (W.item 0 s _ _ hn hst fun v h' tk hP hst' hk'=>?_))
 have hS':=hk' S _ hSw hS
 show wpAny _ A.in1 (updateSeq S (fun _=>#[v,v]) >>= _) _ _ _
 refine wpAny_bind ?_
 refine wpAny_updateSeq hS' rfl ?_
 rw[hname]
 refine wpAny_pure ⟨plainId_quiet F.plain_min_loop _,iS W bt hcmp S hSf _ 0 _ v _ rfl hn (W.frame _ _ _ hst' fun b hbf o e=>?_) hP (Heap.get?_update_self _ hS' rfl) fun v' h'' tk'' hP' hk''=>?_⟩
 . exact(Heap.get?_update_other _ _ (fun h:S=b=>hSf (by rw[h];exact hbf))).trans e
 . exact hR v' h'' tk'' hP' fun b o hbw hbS e=>hk'' b o hbw hbS ((Heap.get?_update_other _ _ (Ne.symm hbS)).trans (hk' b o hbw e))
end
section
variable {prog:Program}{w:World}{A:Around}{E:Value→Shared→Prop}{s:Shared}
theorem call_min_walkS{x:Value}{Q:Value→Shared→Prop}
 (h:wpAny (model prog w) A.in1 (pyIter x) (fun it s₂=>∃I fp wr n P St bt,it=.ref I∧Walks prog w A.in1 I fp wr n P St∧St 0 s₂.heap∧(∀b∈fp,b<s₂.heap.objs.size)∧0<n∧gI prog w A.in1 P bt St ∧
  ∀v h' tk,P (argBest bt (n-1)) v→(∀b o,b ∉ wr→s₂.heap.get? b=some o→h'.get? b=some o)→Q v {s₂ with heap:=h',toks:=tk}) E s) :
 wpAny (model prog w) A (call (.builtin "min") [x]) Q E s:=by
 have hname:(toString "min"++toString ".loop":String)="min.loop":=by decide
 refine call_function_tree F.kind_min F.plain_min F.entry_min (F.args_min1 _) ?_
 show wpAny _ A.in1 (Builtin.Builtins.bindParams "min" ["key","default"] 0 ⟨[],[]⟩ >>= _) _ _ s
 refine wpAny_bind (wpAny_of_eq (show Builtin.Builtins.bindParams "min" ["key","default"] 0 ⟨[],[]⟩=pure [none,none] from rfl) ?_)
 refine wpAny_bind (wpAny_pure ?_)
 refine wpAny_bind (wpAny_mono h (fun it s₂ h₂=>?_) fun _ _ e=>e)
 obtain⟨I,fp,wr,n,P,St,bt,rfl,W,hst,hfp,hn,hcmp,hQ⟩:=h₂
 refine wpAny_bind (wpAny_newObj_type ?_)
 have hSf:s₂.heap.objs.size ∉ fp:=fun hm=>Nat.lt_irrefl _ (hfp _ hm)
 rw[hname]
 refine wpAny_pure ⟨plainId_quiet F.plain_min_loop _,sO W bt hcmp s₂.heap.objs.size hSf hn (W.frame _ _ _ hst fun b _ o e=>Heap.get?_push_of_some _ e) (Heap.get?_push_size _ rfl) fun v h' tk hP hk=>?_⟩
 exact hQ v h' tk hP fun b o hbw e=>hk b o hbw (Nat.ne_of_lt (Heap.lt_size e)) (Heap.get?_push_of_some _ e)
end
end L2
end
section
namespace L2
open PySem PySem.W PySem.Calls PyProof PyProof.Rows
open AutoSeq1 (wpAny_loadPart')
open SeqAt
noncomputable def vG:List Int→List Int→Bool
 |[],[]=>false
 |[],_::_=>true
 |_::_,[]=>false
 |x::xs,y::ys=>if x=y then vG xs ys else decide (x<y)
theorem kE(x y:Addr)(xs ys:Array Value)(n k:Nat)(d1 d2:Option Addr)(sl1 sl2:Array (Option Value))(as bs:List Int)(h1:IntsAre xs.toList as)(h2:IntsAre ys.toList bs) :
 Meets (Builtin.«tuple.__lt__» ⟨[.ref x,.ref y],[]⟩)
  (fun A R s=>s.heap.get? x=some {cls:=.type "tuple",dict:=d1,data:=.seq xs n,slots:=sl1}∧s.heap.get? y=some {cls:=.type "tuple",dict:=d2,data:=.seq ys k,slots:=sl2}∧R (.ok (.ret (.bool (vG as bs)))) s):=
 .of_wp fun prog w A R s h=>by
  obtain⟨hp,g,d,tk,os⟩:=s;obtain⟨hl,hb,h⟩:=h
  have f2:=AutoSeq1.sub_tuple_tuple
  have lenA:∀{vs:List Value} {ns:List Int},IntsAre vs ns→vs.length=ns.length:=fun h=>by
   induction h with
   |nil=>rfl
   |cons _ _ _ ih=>rw[List.length_cons,List.length_cons,ih]
  wp_walk using wpAny_loadPart' hl,wpAny_loadPart' hb,wpAny_forIn_list _ (fun rest b s'=>b.1=none∧s'=⟨hp,g,d,tk,os⟩∧∃vs ws cs ds,rest=vs.zip ws∧IntsAre vs cs∧IntsAre ws ds∧xs.size+ds.length=ys.size+cs.length∧R (.ok (.ret (.bool (vG cs ds)))) ⟨hp,g,d,tk,os⟩) _
  case turn=>
   rintro ⟨u,v⟩ rest b s' ⟨hb',rfl,vs,ws,cs,ds,hz,i1,i2,hn,hR⟩
   cases i1 with
   |nil=>cases hz
   |cons c t1 i1=>
    cases i2 with
    |nil=>rw[List.zip_nil_right]at hz;cases hz
    |cons e t2 i2=>
     rw[List.zip_cons_cons]at hz
     injection hz with hu hr
     cases hu
     refine wpAny_bind (wpAny_eqBool_int ?_)
     rw[vG]at hR
     by_cases hce:c=e
     . rw[if_pos hce]at hR
       rw[show (c == e)=true by rw[hce];exact beq_self_eq_true _]
       wp_walk
       exact⟨rfl,rfl,_,_,_,_,hr,i1,i2,by rw[List.length_cons,List.length_cons]at hn;omega,hR⟩
     . rw[if_neg hce]at hR
       rw[show (c == e)=false from beq_eq_false_iff_ne.mpr hce]
       simp only[Bool.not_false,if_true]
       refine wpAny_bind (wpAny_rule (wpAny_bind ?_))
       refine lt_int ?_
       wp_walk
       exact⟨_,rfl,hR⟩
  case fin=>
   rintro ⟨b1,b2⟩ s' ⟨hb',rfl,vs,ws,cs,ds,hz,i1,i2,hn,hR⟩
   simp only at hb'
   subst hb'
   have e:Builtin.Tuple.tupleCompareSizes .Lt xs.size ys.size=Value.bool (vG cs ds):=by
    show Value.bool (decide (xs.size<ys.size))=_
    congr 1
    cases i1 with
    |nil=>
     cases i2 with
     |nil=>exact decide_eq_false (by rw[List.length_nil]at hn;omega)
     |cons _ _ _=>exact decide_eq_true (by rw[List.length_nil,List.length_cons]at hn;omega)
    |cons _ _ _=>
     cases i2 with
     |nil=>exact decide_eq_false (by rw[List.length_nil,List.length_cons]at hn;omega)
     |cons _ _ _=>rw[List.zip_cons_cons]at hz;cases hz
   wp_walk
   exact⟨_,rfl,by first|(rw[e];exact hR)|exact hR⟩
  case h=>
   refine⟨rfl,rfl,xs.toList,ys.toList,as,bs,rfl,h1,h2,?_,h⟩
   have e1:=lenA h1
   have e2:=lenA h2
   rw[Array.length_toList]at e1 e2
   omega
end L2
namespace L2
open PySem PySem.W PySem.Calls PyProof PyProof.Rows
theorem kM{prog:Program}{w:World}{A:Around}{I:Addr}{fp wr:List Addr}{n:Nat}{P:Nat→Value→Prop}{St:Nat→Heap→Prop}(W:Walks prog w A I fp wr n P St)(tps:List Addr)(G:Heap→Prop)
 (hG:∀h h',(∀b∈tps,∀o,h.get? b=some o→h'.get? b=some o)→G h→G h') (hd:∀b∈tps,b ∉ wr):Walks prog w A I (fp++tps) wr n P (fun i h=>St i h∧G h) where
 sub:=fun b hb=>List.mem_append_left _ (W.sub b hb)
 frame:=fun i h h' st hk=>⟨W.frame i h h' st.1 fun b hb=>hk b (List.mem_append_left _ hb),hG h h' (fun b hb=>hk b (List.mem_append_right _ hb)) st.2⟩
 item:=fun i s Q E hi st hQ=>W.item i s Q E hi st.1 fun v h' tk hp hs hk=>hQ v h' tk hp ⟨hs,hG _ _ (fun b hb o e=>hk b o (hd b hb) e) st.2⟩ hk
 done:=fun s Q E st hQ=>W.done s Q E st.1 hQ
 self:=fun i s Q E st hQ=>W.self i s Q E st.1 hQ
noncomputable def sN:List (List Int)→List Int
 |[]=>[]
 |z::t=>t.foldl (fun m y=>if vG y m then y else m) z
theorem kU{bt:Nat→Nat→Bool}:∀k,argBest bt k≤k
 |0=>Nat.le_refl _
 |k+1=>by
  unfold argBest
  have:=kU (bt:=bt) k
  split<;>omega
theorem qu(zs:List (List Int)):∀k,k<zs.length→zs.getD (argBest (fun i j=>vG (zs.getD i []) (zs.getD j [])) k) []=((zs.drop 1).take k).foldl (fun m y=>if vG y m then y else m) (zs.getD 0 [])
 |0,_=>rfl
 |k+1,h=>by
  have ih:=qu zs k (by omega)
  have ht:(zs.drop 1).take (k+1)=(zs.drop 1).take k++[zs.getD (k+1) []]:=by
   rw[List.take_add_one]
   congr 1
   rw[List.getElem?_drop,show 1+k=k+1 by omega,List.getElem?_eq_getElem h,List.getD_eq_getElem?_getD,List.getElem?_eq_getElem h];rfl
  rw[ht,List.foldl_append,←ih]
  show zs.getD (argBest _ (k+1)) []=if vG (zs.getD (k+1) []) (zs.getD (argBest _ k) []) then zs.getD (k+1) [] else zs.getD (argBest _ k) []
  show zs.getD (if vG (zs.getD (k+1) []) (zs.getD (argBest _ k) []) then k+1 else argBest _ k) []=_
  split<;>rfl
theorem gN{zs:List (List Int)}(h:zs≠[]):zs[argBest (fun i j=>vG (zs.getD i []) (zs.getD j [])) (zs.length-1)]?=some (sN zs):=by
 have hpos:0<zs.length:=List.length_pos_iff.mpr h
 have hle:=kU (bt:=fun i j=>vG (zs.getD i []) (zs.getD j [])) (zs.length-1)
 have hlt:argBest (fun i j=>vG (zs.getD i []) (zs.getD j [])) (zs.length-1)<zs.length:=by omega
 have hb:=qu zs (zs.length-1) (by omega)
 rw[List.getD_eq_getElem?_getD,List.getElem?_eq_getElem hlt]at hb
 rw[List.getElem?_eq_getElem hlt]
 congr 1
 refine Eq.trans hb ?_
 cases zs with
 |nil=>exact absurd rfl h
 |cons z t=>rw[List.drop_succ_cons,List.drop_zero,List.take_of_length_le (by rw[List.length_cons];omega)];rfl
theorem iC{us:List Value}{z:List Int}(h:vO us z):IntsAre us z:=by
 induction h with
 |nil=>exact .nil
 |cons _ ih=>exact .cons _ _ ih
theorem jz{X:Cx}{k:Nat}(hc:X.calm=true)(hr:y1 k X.A):yQ X (.builtin "min") (fun xs H Q=>∃a ys zs,xs=[.ref a]∧SqL X.K H a ys∧gK X.K H ys zs∧zs≠[]∧∀i,zs[i]?=some (sN zs)→Q (ys.getD i .non) H):=by
 intro pins s σ H xs us Q I r h
 obtain⟨a,ys,zs,rfl,ha,ht,hne,q⟩:=h
 obtain⟨u,rfl,ru⟩:=vals1 r
 cases ru
 obtain⟨its,rv,pl,hz⟩:=I.list ha
 have hlen:=rv.length
 have tv:=ht.tv I rv
 have hn:its.length=zs.length:=tv.1
 have alt:a<s.heap.objs.size:=by obtain⟨o,ho,_⟩:=pl.isList;exact Heap.lt_size ho
 have hpos:0<zs.length:=List.length_pos_iff.mpr hne
 let tps:List Addr:=its.filterMap fun v=>match v with|.ref b=>some b|_=>none
 have hlt:∀b∈tps,b<s.heap.objs.size:=fun b hb=>by
  obtain⟨v,hv,e⟩:=List.mem_filterMap.mp hb
  obtain⟨i,hi,rfl⟩:=List.getElem_of_mem hv
  obtain⟨b',o,n,us,e1,e2,_⟩:=tv.2 i zs[i] (List.getElem?_eq_getElem (by omega))
  rw[List.getElem?_eq_getElem hi]at e1
  rw[Option.some.inj e1]at e
  cases e
  exact Heap.lt_size e2
 have hG:∀h h':Heap,(∀b∈tps,∀o,h.get? b=some o→h'.get? b=some o)→TV h its zs→TV h' its zs:=fun h h' hk t=>⟨t.1,fun i z e=>by
  obtain⟨b,o,n,us,e1,e2,e3,e4,e5⟩:=t.2 i z e
  exact⟨b,o,n,us,e1,hk b (List.mem_filterMap.mpr ⟨_,List.mem_of_getElem? e1,rfl⟩) o e2,e3,e4,e5⟩⟩
 have hu:=hr.un
 refine call_min_walkS (wpAny_pyIter_list pl.isList ?_)
 have W:=kM (Walks.list (prog:=X.prog) (w:=X.w) (A:=X.A.in1) (I.ok.hd hc) s.heap.objs.size a (Nat.ne_of_lt alt) its.toArray) tps (fun h=>TV h its zs) hG (fun b hb hm=>by have:=hlt b hb;rw[List.mem_singleton.mp hm]at this;exact Nat.lt_irrefl _ this)
 refine⟨s.heap.objs.size,_,_,_,_,_,fun i j=>vG (zs.getD i []) (zs.getD j []),rfl,W,⟨⟨⟨_,Heap.get?_push_size _ rfl,rfl,rfl⟩,?_⟩,?_⟩,fun b hb=>?_,by rw[List.size_toArray];omega,?_,fun v h' tk hP hk=>?_⟩
 . obtain⟨o,ho,hc',n,hd⟩:=pl.isList
   exact⟨o,Heap.get?_push_of_some _ ho,hc',n,hd⟩
 . exact hG _ _ (fun b _ o e=>Heap.get?_push_of_some _ e) tv
 . rw[Heap.size_push]
   rcases List.mem_append.mp hb with hb|hb
   . simp only[List.mem_cons,List.not_mem_nil,or_false]at hb
     rcases hb with e|e
     . rw[e];exact Nat.lt_succ_self _
     . rw[e];exact Nat.lt_succ_of_lt alt
   . exact Nat.lt_succ_of_lt (hlt b hb)
 . intro m i j vi vj s' Q' E' st hi hj hq
   have gt:∀{i:Nat} {v:Value},its.toArray[i]?=some v→∃b o n us,v=.ref b∧s'.heap.get? b=some o∧o.cls=.type "tuple"∧o.data=.seq (List.toArray us) n∧IntsAre us (zs.getD i []):=fun{i v} hv=>by
    rw[List.getElem?_toArray]at hv
    have hil:=(List.getElem?_eq_some_iff.mp hv).1
    obtain⟨b,o,n,us,e1,e2,e3,e4,e5⟩:=st.2.2 i zs[i] (List.getElem?_eq_getElem (by omega))
    rw[hv]at e1
    refine⟨b,o,n,us,Option.some.inj e1,e2,e3,e4,?_⟩
    rw[List.getD_eq_getElem?_getD,List.getElem?_eq_getElem (by omega)]
    exact iC e5
   obtain⟨b,⟨c1,dd1,da1,sl1⟩,n1,us1,rfl,e2,e3,e4,e5⟩:=gt hi
   obtain⟨b',⟨c2,dd2,da2,sl2⟩,n2,us2,rfl,f2,f3,f4,f5⟩:=gt hj
   simp only at e3 e4 f3 f4
   subst e3 e4 f3 f4
   refine richCompare_meets_room (T:="tuple") ⟨_,e2,rfl⟩ ⟨_,f2,rfl⟩ F.slot_tuple_lt F.entry_tuple_lt (F.args_tuple_lt_2 _ _) (kE b b' us1.toArray us2.toArray n1 n2 dd1 dd2 sl1 sl2 _ _ (by simpa using e5) (by simpa using f5)) ⟨e2,f2,?_⟩ (by show X.A.units+1<_;omega)
   exact⟨by simp,hq⟩
 . rw[List.size_toArray,hn]at hP
   have hb:=gN hne
   have hi:argBest (fun i j=>vG (zs.getD i []) (zs.getD j [])) (zs.length-1)<ys.length:=by
    have:=(List.getElem?_eq_some_iff.mp hb).1;omega
   rw[List.getElem?_toArray]at hP
   refine⟨ys.getD (argBest (fun i j=>vG (zs.getD i []) (zs.getD j [])) (zs.length-1)) .non,H,I.kept fun b o ho=>hk b o ?_ (Heap.get?_push_of_some _ ho),?_,q _ hb⟩
   . simpa using Nat.ne_of_lt (Heap.lt_size ho)
   . obtain⟨u,hu',ru⟩:=rv.get (List.getElem?_eq_getElem hi)
     rw[hP]at hu'
     cases hu'
     rw[List.getD_eq_getElem?_getD,List.getElem?_eq_getElem hi]
     exact ru
end L2
end
section
namespace M
open PySem
inductive Val where
 |none|bool (b:Bool)|int (i:Int)|str (x:Str)
 |tup (vs:List Val)|lst (vs:List Val)|dct0
 |ctup (ns:List Int)|scr (ns:List Int)
 |ref (i:Nat)|fn (x:Str)|ty (n:String)|dref (i:Nat)
 deriving Inhabited
inductive Cel where
 |lst (vs:List Val)
 |dS (kvs:List (Str × Val))
 |dT (kvs:List (List Int × Val))
 deriving Inhabited
noncomputable abbrev Sto:=List Cel
noncomputable abbrev Env:=List (Option Val)
inductive Out(α:Type) where
 |ok (a:α) (s:Sto)
 |exc (c:Str) (args:List Val) (s:Sto)
 |stuck
noncomputable def Out.bind{α β:Type}(o:Out α)(f:α→Sto→Out β):Out β:=
 match o with
 |.ok a s=>f a s
 |.exc c as s=>.exc c as s
 |.stuck=>.stuck
@[simp] theorem zN{α β:Type}(a:α)(s:Sto)(f:α→Sto→Out β):(Out.ok a s).bind f=f a s:=rfl
@[simp] theorem rB{α β:Type}(f:α→Sto→Out β):(Out.stuck:Out α).bind f=.stuck:=rfl
@[simp] theorem gO{α β:Type}(c:Str)(as:List Val)(s:Sto)(f:α→Sto→Out β):(Out.exc c as s:Out α).bind f=.exc c as s:=rfl
mutual
noncomputable def Val.isD:Val→Bool
 |.none|.bool _|.int _=>true
 |.str x=>PyData.strOk x
 |.tup vs=>qV vs
 |.lst vs=>qV vs
 |.dct0|.ctup _|.scr _|.ref _|.fn _|.ty _|.dref _=>false
noncomputable def qV:List Val→Bool
 |[]=>true
 |v::vs=>v.isD&&qV vs
end
mutual
noncomputable def Val.isR:Val→Bool
 |.none|.bool _|.int _|.str _|.dct0=>true
 |.tup vs=>sM vs
 |.lst vs=>sM vs
 |.ctup _|.scr _|.ref _|.fn _|.ty _|.dref _=>false
noncomputable def sM:List Val→Bool
 |[]=>true
 |v::vs=>v.isR&&sM vs
end
mutual
noncomputable def Val.d:Val→PyData
 |.none=>.none
 |.bool b=>.bool b
 |.int i=>.int i
 |.str x=>.str x
 |.tup vs=>.tuple (ds vs)
 |.lst vs=>.list (ds vs)
 |.dct0=>.dict []
 |.ctup _|.scr _|.ref _|.fn _|.ty _|.dref _=>.none
noncomputable def ds:List Val→List PyData
 |[]=>[]
 |v::vs=>v.d::ds vs
end
mutual
noncomputable def Val.noRef:Val→Bool
 |.ref _|.dref _=>false
 |.tup vs=>zx vs
 |.lst vs=>zx vs
 |.none|.bool _|.int _|.str _|.dct0|.ctup _|.scr _|.fn _|.ty _=>true
noncomputable def zx:List Val→Bool
 |[]=>true
 |v::vs=>v.noRef&&zx vs
end
noncomputable def Cel.noRef:Cel→Bool
 |.lst vs=>zx vs
 |.dS kvs=>zx (kvs.map (·.2))
 |.dT kvs=>zx (kvs.map (·.2))
mutual
noncomputable def Val.beq:Val→Val→Bool
 |.none,.none=>true
 |.bool a,.bool b=>a == b
 |.int a,.int b=>a == b
 |.str a,.str b=>a == b
 |.tup a,.tup b=>tL a b
 |.lst a,.lst b=>tL a b
 |.dct0,.dct0=>true
 |.ctup a,.ctup b=>a == b
 |.scr a,.scr b=>a == b
 |.ref a,.ref b=>a == b
 |.fn a,.fn b=>a == b
 |.ty a,.ty b=>a == b
 |.dref a,.dref b=>a == b
 |_,_=>false
noncomputable def tL:List Val→List Val→Bool
 |[],[]=>true
 |a::as,b::bs=>a.beq b&&tL as bs
 |_,_=>false
end
noncomputable def Cel.beq:Cel→Cel→Bool
 |.lst a,.lst b=>tL a b
 |.dS a,.dS b=>decide (a.map (·.1)=b.map (·.1))&&tL (a.map (·.2)) (b.map (·.2))
 |.dT a,.dT b=>decide (a.map (·.1)=b.map (·.1))&&tL (a.map (·.2)) (b.map (·.2))
 |_,_=>false
noncomputable def wB:Sto→Sto→Bool
 |[],_=>true
 |o::r,o'::r'=>(o'.noRef||o'.beq o)&&wB r r'
 |_::_,[]=>false
mutual
noncomputable def vC(n0:Nat)(s:Sto):Nat→Val→Option Val
 |_,.dref i=>if i<n0 then some (.dref i) else Option.none
 |_,.ref i=>if i<n0 then some (.ref i) else match s[i]? with
  |some (.lst vs)=>if zx vs then some (.lst vs) else Option.none
  |_=>Option.none
 |k+1,.tup vs=>(ug n0 s k vs).map .tup
 |_,v=>if v.noRef then some v else Option.none
noncomputable def ug(n0:Nat)(s:Sto):Nat→List Val→Option (List Val)
 |_,[]=>some []
 |0,_::_=>Option.none
 |k+1,v::vs=>match (if v.noRef then some v else vC n0 s k v),ug n0 s k vs with
  |some v',some vs'=>some (v'::vs')
  |_,_=>Option.none
end
noncomputable def freeze(n0:Nat)(s:Sto)(v:Val):Option Val:=if v.noRef then some v else vC n0 s 20 v
inductive Bop|add|sub|mul|fdiv|mod|pow|shl|shr|band
 deriving DecidableEq
inductive Cop|eq|ne|lt|le|gt|ge|is|isNot|in_|notIn|inD|notInD
 deriving DecidableEq
inductive Bf|len|all|any|tuple|list|sorted|repr|max|min|sum|int|isi|divmod|str|sortedI|minT
 deriving DecidableEq
inductive Mf|count|append|extend|pop|index|join
 deriving DecidableEq
inductive Tgt
 |nm (i:Nat)
 |nms (is:List Nat)
mutual
inductive Ex
 |lit (v:Val)|var (i:Nat)|gl (x:Str)|ty (x:Str) (n:String)
 |bin (m:Bool) (op:Bop) (a b:Ex)|neg (a:Ex)|not (a:Ex)
 |cmp (op:Cop) (a b:Ex)|chain (op op':Cop) (a b c:Ex)
 |andE (a:Ex) (es:Exs)|orE (a:Ex) (es:Exs)|ife (c:Cn) (a b:Ex)
 |tup (es:Exs)|lst (m:Bool) (es:Exs)|dct0
 |call (f:Str) (ver:Nat) (es:Exs)|blt (f:Bf) (m:Bool) (es:Exs)|maxD (a d:Ex)
 |tS (f:Mf) (m:Bool) (o:Ex) (es:Exs)
 |ix (a b:Ex)|sl (m:Bool) (a:Ex) (lo hi st:OEx)
 |comp (m:Bool) (N:List Str) (fr:List (Option Nat)) (elt:Ex) (t:Tgt) (it:Itb) (ifs:Cns)
 |comp2 (m:Bool) (N:List Str) (fr:List (Option Nat)) (elt:Ex) (t:Tgt) (it:Itb) (ifs:Cns) (t2:Tgt) (it2:Itb) (ifs2:Cns)
 |listRange (m:Bool) (a b c:Ex)
 |dctN (t:Bool)|ixD (a b:Ex)
inductive Exs
 |nil|cons (e:Ex) (es:Exs)
inductive OEx
 |no|yes (e:Ex)
inductive Cn
 |val (e:Ex)|not (c:Cn)|and (c:Cn) (cs:Cns)|or (c:Cn) (cs:Cns)
inductive Cns
 |nil|cons (c:Cn) (cs:Cns)
inductive Itb
 |val (e:Ex)|range1 (a:Ex)|range2 (a b:Ex)|enum (e:Ex)|zip (a b:Ex)
end
mutual
inductive Sm
 |expr (e:Ex)|ret (e:Ex)|retN|asg (i:Nat) (e:Ex)|asgT (is:List Nat) (e:Ex)|par (is:List Nat) (es:Exs)
 |aug (i:Nat) (op:Bop) (e:Ex)|setIx (o i e:Ex)
 |ifS (c:Cn) (a b:Sms)|forS (t:Tgt) (it:Itb) (b:Sms)|whileS (c:Cn) (b:Sms)
 |pass|brk|cont|raise (e:Ex)|setD (o i e:Ex)
inductive Sms
 |nil|cons (s:Sm) (ss:Sms)
end
structure Fn where
 N:List Str
 ps:List Str
 keep:Bool
 body:Sms
noncomputable abbrev Calls:=Str→Nat→List Val→Sto→Out Val
noncomputable def zV:Nat:=16777216
noncomputable def newList(m:Bool)(vs:List Val)(s:Sto):Out Val:=if m then .ok (.ref s.length) (s++[.lst vs]) else .ok (.lst vs) s
noncomputable def w6(s:Sto):Val→Option (List Val)
 |.tup vs=>some vs
 |.lst vs=>some vs
 |.ctup ns=>some (ns.map .int)
 |.scr ns=>some (ns.map .int)
 |.ref i=>match s[i]? with
  |some (.lst vs)=>some vs
  |_=>Option.none
 |_=>Option.none
noncomputable def yk(s:Sto):Val→Option (List Val)
 |.lst vs=>some vs
 |.ref i=>match s[i]? with
  |some (.lst vs)=>some vs
  |_=>Option.none
 |_=>Option.none
noncomputable def truth(s:Sto):Val→Option Bool
 |.none=>some false
 |.bool b=>some b
 |.int i=>some (i != 0)
 |.str x=>if x.length≤zV then some ((x.length:Int) != 0) else Option.none
 |.tup vs=>some !vs.isEmpty
 |.lst vs=>some !vs.isEmpty
 |.dct0=>some false
 |.ref i=>match s[i]? with
  |some (.lst vs)=>some !vs.isEmpty
  |_=>Option.none
 |_=>Option.none
noncomputable def Out.truth(o:Out Val):Out Bool:=o.bind fun v s=>match M.truth s v with
 |some b=>.ok b s
 |Option.none=>.stuck
noncomputable def y8(s:Sto):Val→Val
 |.ref i=>match s[i]? with
  |some (.lst vs)=>.lst vs
  |_=>.ref i
 |v=>v
noncomputable def yF(s:Sto):Val→Val
 |.tup vs=>.tup (vs.map (y8 s))
 |v=>y8 s v
noncomputable def tW(d:PyData):Bool:=d.showable&&d.leavesShort 40&&decide (d.depth≤50)&&decide (d.weight≤300000)&&(!d.hasDict||!L2.xM d)
noncomputable def flat:Val→Bool
 |.none|.bool _|.int _|.str _=>true
 |_=>false
noncomputable def eqF:Val→Val→Bool
 |.none,.none=>true
 |.bool a,.bool b=>a == b
 |.bool a,.int b=>(if a then 1 else 0) == b
 |.int a,.bool b=>a == (if b then 1 else 0)
 |.int a,.int b=>a == b
 |.str a,.str b=>a == b
 |_,_=>false
noncomputable def lB(a b:Val):Option Bool:=if a.isD&&b.isD&&decide (b.d.depth≤60) then some (PyData.eqv a.d b.d) else Option.none
noncomputable def intsOf:List Val→Option (List Int)
 |[]=>some []
 |.int i::vs=>(intsOf vs).map (i::·)
 |_=>Option.none
noncomputable def Val.isN:Val→Bool
 |.none=>true
 |_=>false
noncomputable def inD(x:Val)(vs:List Val):Bool:=x.isD&&qV vs&&decide (x.d.depth≤60)
noncomputable def m9{κ:Type} [DecidableEq κ]:List (κ × Val)→κ→Option Val
 |[],_=>Option.none
 |p::r,k=>if p.1=k then some p.2 else m9 r k
noncomputable def gc{κ:Type} [DecidableEq κ] (kvs:List (κ × Val))(k:κ)(v:Val):List (κ × Val):=
 if (m9 kvs k).isSome then kvs.map (fun p=>if p.1=k then (p.1,v) else p) else kvs++[(k,v)]
noncomputable def kg(s:Sto):Val→Option (Nat × Cel)
 |.dref i=>(s[i]?).map fun c=>(i,c)
 |_=>Option.none
noncomputable def Zh:Cel→Val→Option (Option Val)
 |.dS kvs,.str k=>some (m9 kvs k)
 |.dT kvs,.tup vs=>(intsOf vs).map fun k=>m9 kvs k
 |_,_=>Option.none
noncomputable def gV:Cel→Val→Val→Option Cel
 |.dS kvs,.str k,v=>if kvs.length<zV then some (.dS (gc kvs k v)) else Option.none
 |.dT kvs,.tup vs,v=>(intsOf vs).bind fun k=>if kvs.length<zV then some (.dT (gc kvs k v)) else Option.none
 |_,_,_=>Option.none
noncomputable def getD(d y:Val)(s:Sto):Option (Option Val):=(kg s d).bind fun c=>Zh c.2 y
noncomputable def ixD(d y:Val)(s:Sto):Out Val:=match getD d y s with
 |some (some v)=>.ok v s
 |_=>.stuck
noncomputable def putD(d y v:Val)(s:Sto):Option Sto:=(kg s d).bind fun c=>(gV c.2 y v).map fun c'=>s.set c.1 c'
noncomputable def strsOf:List Val→Option (List Str)
 |[]=>some []
 |.str x::vs=>(strsOf vs).map (x::·)
 |_=>Option.none
noncomputable def zU(op:Cop)(x y:Val)(s:Sto):Out Val:=
 match op with
 |.eq=>match x,y with
  |.str a,.str b=>.ok (.bool (decide (a=b))) s
  |.tup a,.ctup ns=>match lB (yF s (.tup a)) (.tup (ns.map .int)) with|some b=>.ok (.bool b) s|Option.none=>.stuck
  |_,_=>match lB (yF s x) (yF s y) with|some b=>.ok (.bool b) s|Option.none=>.stuck
 |.ne=>match x,y with
  |.str a,.str b=>.ok (.bool !(decide (a=b))) s
  |_,_=>match lB (yF s x) (yF s y) with|some b=>.ok (.bool !b) s|Option.none=>.stuck
 |.is=>match y with|.none=>.ok (.bool x.isN) s|.bool b=>(match x with|.bool a=>.ok (.bool (decide (a=b))) s|_=>.stuck)|_=>.stuck
 |.isNot=>match y with|.none=>.ok (.bool !x.isN) s|.bool b=>(match x with|.bool a=>.ok (.bool !(decide (a=b))) s|_=>.stuck)|_=>.stuck
 |.in_=>match w6 s y with
  |some vs=>if flat x&&vs.all flat then .ok (.bool (vs.any fun z=>eqF z x)) s else if inD x vs then .ok (.bool (vs.any fun z=>PyData.eqv z.d x.d)) s else .stuck
  |Option.none=>.stuck
 |.notIn=>match w6 s y with
  |some vs=>if flat x&&vs.all flat then .ok (.bool !(vs.any fun z=>eqF z x)) s else if inD x vs then .ok (.bool !(vs.any fun z=>PyData.eqv z.d x.d)) s else .stuck
  |Option.none=>.stuck
 |.inD=>match getD y x s with|some o=>.ok (.bool o.isSome) s|Option.none=>.stuck
 |.notInD=>match getD y x s with|some o=>.ok (.bool !o.isSome) s|Option.none=>.stuck
 |.lt=>match x,y with|.int i,.int j=>.ok (.bool (decide (i<j))) s|_,_=>.stuck
 |.le=>match x,y with|.int i,.int j=>.ok (.bool (decide (i≤j))) s|_,_=>.stuck
 |.gt=>match x,y with|.int i,.int j=>.ok (.bool (decide (j<i))) s|_,_=>.stuck
 |.ge=>match x,y with|.int i,.int j=>.ok (.bool (decide (j≤i))) s|_,_=>.stuck
noncomputable def binOp(m:Bool)(op:Bop)(x y:Val)(s:Sto):Out Val:=
 match op with
 |.add=>match x,y with
  |.int i,.int j=>.ok (.int (i+j)) s
  |.str a,.str b=>if a.length+b.length≤zV then .ok (.str (a++b)) s else .stuck
  |.tup a,.tup b=>if a.length+b.length≤zV then .ok (.tup (a++b)) s else .stuck
  |_,_=>match yk s x,yk s y with
   |some a,some b=>if a.length+b.length≤zV then newList m (a++b) s else .stuck
   |_,_=>.stuck
 |.sub=>match x,y with|.int i,.int j=>.ok (.int (i-j)) s|_,_=>.stuck
 |.mul=>match x,y with
  |.int i,.int j=>if (-(2 ^ 64)<i∧i<2 ^ 64)∨(-(2 ^ 64)<j∧j<2 ^ 64) then .ok (.int (i*j)) s else .stuck
  |.tup a,.int k=>if -1000≤k∧k≤1000∧a≠[]∧a.length≤1000 then .ok (.tup (List.replicate k.toNat a).flatten) s else .stuck
  |_,.int k=>match yk s x with
   |some a=>if -1000≤k∧k≤1000∧a.length*k.toNat≤zV then newList m (List.replicate k.toNat a).flatten s else .stuck
   |Option.none=>.stuck
  |_,_=>.stuck
 |.fdiv=>match x,y with|.int i,.int j=>if 0<j∧j<1073741824 then .ok (.int (i/j)) s else .stuck|_,_=>.stuck
 |.mod=>match x,y with|.int i,.int j=>if 0<j then .ok (.int (i%j)) s else .stuck|_,_=>.stuck
 |.pow=>match x,y with|.int i,.int j=>if 0≤j∧j≤1000000∧i.natAbs<2 ^ 64 then .ok (.int (i ^ j.toNat)) s else .stuck|_,_=>.stuck
 |.shl=>match x,y with|.int i,.int j=>if 0≤j∧j≤1000000∧i.natAbs<2 ^ 64 then .ok (.int (i*2 ^ j.toNat)) s else .stuck|_,_=>.stuck
 |.shr=>match x,y with|.int i,.int j=>if 0≤j then .ok (.int (i/2 ^ j.toNat)) s else .stuck|_,_=>.stuck
 |.band=>match x,y with|.int i,.int j=>.ok (.int (Builtin.bitAnd i j)) s|_,_=>.stuck
noncomputable def kindOf:Val→Option L2.Kd
 |.none=>some .non
 |.bool _=>some .bl
 |.int _=>some .int
 |.str _=>some .str
 |.tup _=>some .tup
 |.lst _=>some .lst
 |.dct0=>some .dct
 |.ref _=>some .lst
 |_=>Option.none
noncomputable def tP:String→Option L2.Kd
 |"bool"=>some .bl
 |"int"=>some .int
 |"str"=>some .str
 |"list"=>some .lst
 |"tuple"=>some .tup
 |"dict"=>some .dct
 |_=>Option.none
noncomputable def boolsOf:List Val→Option (List Bool)
 |[]=>some []
 |.bool b::vs=>(boolsOf vs).map (b::·)
 |_=>Option.none
noncomputable def pairsOf:List Val→Option (List (Int × Int))
 |[]=>some []
 |.tup [.int a,.int b]::vs=>(pairsOf vs).map ((a,b)::·)
 |_=>Option.none
noncomputable def prV(z:Int × Int):Val:=.tup [.int z.1,.int z.2]
noncomputable def lD(z:Int × Int):List (Int × Int)→List (Int × Int)
 |[]=>[z]
 |y::ys=>if L2.z6 z≤L2.z6 y then z::y::ys else y::lD z ys
noncomputable def uy:List (Int × Int)→List (Int × Int)
 |[]=>[]
 |z::zs=>lD z (uy zs)
noncomputable def wc:List Val→Option (List (List Int))
 |[]=>some []
 |.tup a::vs=>match intsOf a,wc vs with
  |some z,some zs=>some (z::zs)
  |_,_=>Option.none
 |_=>Option.none
noncomputable def tpV(z:List Int):Val:=.tup (z.map .int)
noncomputable def tj(m:Bool)(vs:List Val)(s:Sto):Out Val:=match wc vs with
 |some zs=>if zs.Nodup∧(zs.length<2∨∀z∈zs,z≠[]) then newList m ((L2.xq zs).map tpV) s else .stuck
 |Option.none=>.stuck
noncomputable def insI(z:Int):List Int→List Int
 |[]=>[z]
 |y::ys=>if z≤y then z::y::ys else y::insI z ys
noncomputable def sortI:List Int→List Int
 |[]=>[]
 |z::zs=>insI z (sortI zs)
noncomputable def blt(f:Bf)(m:Bool)(xs:List Val)(s:Sto):Out Val:=
 match f with
 |.len=>match xs with
  |[.str x]=>if x.length≤zV then .ok (.int x.length) s else .stuck
  |[x]=>match w6 s x with|some vs=>.ok (.int vs.length) s|Option.none=>.stuck
  |_=>.stuck
 |.all=>match xs with
  |[x]=>match yk s x with|some vs=>(match boolsOf vs with|some bs=>.ok (.bool (bs.all id)) s|Option.none=>.stuck)|Option.none=>.stuck
  |_=>.stuck
 |.any=>match xs with
  |[x]=>match yk s x with|some vs=>(match boolsOf vs with|some bs=>.ok (.bool (bs.any id)) s|Option.none=>.stuck)|Option.none=>.stuck
  |_=>.stuck
 |.tuple=>match xs with
  |[.tup vs]=>.ok (.tup vs) s
  |[x]=>match yk s x with|some vs=>.ok (.tup vs) s|Option.none=>.stuck
  |_=>.stuck
 |.list=>match xs with
  |[x]=>match w6 s x with|some vs=>newList m vs s|Option.none=>.stuck
  |_=>.stuck
 |.repr=>match xs with
  |[x]=>if (yF s x).isR&&tW (yF s x).d then .ok (.str (yF s x).d.shown) s else .stuck
  |_=>.stuck
 |.max=>match xs with
  |[.int i,.int j]=>.ok (.int (if j > i then j else i)) s
  |[.tup vs]=>(match M.intsOf vs with|some ns=>if ns≠[] then .ok (.int (L2.wL 0 ns)) s else .stuck|Option.none=>.stuck)
  |[x]=>match yk s x with|some vs=>(match M.intsOf vs with|some ns=>if ns≠[] then .ok (.int (L2.wL 0 ns)) s else .stuck|Option.none=>.stuck)|Option.none=>.stuck
  |_=>.stuck
 |.min=>match xs with
  |[.int i,.int j]=>.ok (.int (if j<i then j else i)) s
  |[x]=>match yk s x with|some vs=>(match M.intsOf vs with|some ns=>if ns≠[] then .ok (.int (L2.rh 0 ns)) s else .stuck|Option.none=>.stuck)|Option.none=>.stuck
  |_=>.stuck
 |.int=>match xs with
  |[.int i]=>.ok (.int i) s
  |[.bool b]=>.ok (.int (if b then 1 else 0)) s
  |_=>.stuck
 |.isi=>match xs with
  |[x,.ty n]=>match kindOf x,tP n with|some a,some c=>.ok (.bool (a.sub c)) s|_,_=>.stuck
  |_=>.stuck
 |.divmod=>match xs with
  |[.int i,.int j]=>if 0<j∧j<1073741824 then .ok (.tup [.int (i/j),.int (i%j)]) s else .stuck
  |_=>.stuck
 |.str=>match xs with
  |[.int i]=>if i.natAbs.log2<1920 then .ok (.str (toString i)) s else .stuck
  |_=>.stuck
 |.sum=>match xs with
  |[x]=>match yk s x with|some vs=>(match M.intsOf vs with|some ns=>if L2.Vc ns then .ok (.int ns.sum) s else .stuck|Option.none=>.stuck)|Option.none=>.stuck
  |_=>.stuck
 |.sorted=>match xs with
  |[x]=>match yk s x with
   |some vs=>(match pairsOf vs with
    |some zs=>if zs.Nodup∧∀z∈zs,0≤z.2∧z.2<1000 then newList m ((uy zs).map prV) s else tj m vs s
    |Option.none=>tj m vs s)
   |Option.none=>.stuck
  |_=>.stuck
 |.minT=>match xs with
  |[x]=>match yk s x with|some vs=>(match wc vs with|some zs=>if zs≠[] then .ok (tpV (L2.sN zs)) s else .stuck|Option.none=>.stuck)|Option.none=>.stuck
  |_=>.stuck
 |.sortedI=>match xs with
  |[x]=>match w6 s x with|some vs=>(match M.intsOf vs with|some ns=>if ns.length<64 then newList m ((sortI ns).map .int) s else .stuck|Option.none=>.stuck)|Option.none=>.stuck
  |_=>.stuck
noncomputable def mxD(x y:Val)(s:Sto):Out Val:=match y with
 |.int k=>(match yk s x with|some vs=>(match M.intsOf vs with|some ns=>.ok (.int (L2.wL k ns)) s|Option.none=>.stuck)|Option.none=>.stuck)
 |_=>.stuck
noncomputable def upd(s:Sto)(i:Nat)(vs:List Val):Sto:=s.set i (.lst vs)
noncomputable def tS(f:Mf)(o:Val)(xs:List Val)(s:Sto):Out Val:=
 match f with
 |.count=>match o,xs with
  |.tup vs,[y]=>if flat y&&vs.all flat then .ok (.int (vs.countP fun z=>eqF z y:Nat)) s else .stuck
  |_,[y]=>match yk s o with|some vs=>if flat y&&vs.all flat then .ok (.int (vs.countP fun z=>eqF z y:Nat)) s else .stuck|Option.none=>.stuck
  |_,_=>.stuck
 |.append=>match o,xs with
  |.ref i,[y]=>match s[i]? with|some (.lst vs)=>if vs.length<zV then .ok .none (upd s i (vs++[y])) else .stuck|_=>.stuck
  |_,_=>.stuck
 |.extend=>match o,xs with
  |.ref i,[y]=>match s[i]?,yk s y with|some (.lst vs),some ws=>if vs.length+ws.length≤zV then .ok .none (upd s i (vs++ws)) else .stuck|_,_=>.stuck
  |_,_=>.stuck
 |.pop=>match o,xs with
  |.ref i,[.int k]=>(match s[i]? with
   |some (.lst vs)=>if -(2 ^ 63)≤k∧k<2 ^ 63 then (match seqIndex? k vs.length with
    |some j=>(match vs[j]? with|some y=>.ok y (upd s i (vs.eraseIdx j))|Option.none=>.stuck)
    |Option.none=>.stuck) else .stuck
   |_=>.stuck)
  |_,_=>.stuck
 |.index=>match o,xs with
  |.tup vs,[y]=>if flat y&&vs.all flat then (match vs.findIdx? fun z=>eqF z y with|some j=>.ok (.int (j:Nat)) s|Option.none=>.stuck) else .stuck
  |_,_=>.stuck
 |.join=>match o,xs with
  |.str z,[y]=>(match yk s y with
   |some vs=>(match strsOf vs with|some ys=>if (ys.map (·.length)).sum+ys.length*z.length≤16777216 then .ok (.str (L2.Wh z ys)) s else .stuck|Option.none=>.stuck)
   |Option.none=>.stuck)
  |_,_=>.stuck
noncomputable def vE(a b:Val)(s:Sto):Out Val:=
 match b with
 |.int i=>match w6 s a with|some vs=>(match L2.atI vs i with|some v=>.ok v s|Option.none=>.stuck)|Option.none=>.stuck
 |_=>.stuck
noncomputable def m7{α:Type}(xs:List α)(lo hi:Option Int):List α:=(xs.drop (HT.sIx xs.length 0 lo)).take (HT.sIx xs.length xs.length hi-HT.sIx xs.length 0 lo)
noncomputable def qe(m:Bool)(a:Val)(lo hi st:Option Int)(s:Sto):Out Val:=
 match a,st with
 |.tup vs,Option.none=>.ok (.tup (m7 vs lo hi)) s
 |.tup vs,some c=>if c≠0∧(L2.y6 vs.length lo hi c).2≤zV then .ok (.tup (L2.yR vs (L2.y6 vs.length lo hi c).1 c (L2.y6 vs.length lo hi c).2)) s else .stuck
 |_,Option.none=>match yk s a with|some vs=>newList m (m7 vs lo hi) s|Option.none=>.stuck
 |_,some c=>match yk s a with|some vs=>if c≠0 then newList m (L2.yR vs (L2.vR vs.length lo hi c).1 c (L2.vR vs.length lo hi c).2) s else .stuck|Option.none=>.stuck
noncomputable def Wl(m:Bool)(x y z:Val)(s:Sto):Out Val:=match x,y,z with
 |.int i,.int j,.int k=>if -(2 ^ 30)≤i∧i≤2 ^ 30∧-(2 ^ 30)≤j∧j≤2 ^ 30∧0<k∧k≤2 ^ 29∧Builtin.Range.rangeSize i j k≤1000 then newList m ((L2.lu i j k).map .int) s else .stuck
 |.int i,.int j,.bool _=>if -(2 ^ 30)≤i∧i≤2 ^ 30∧-(2 ^ 30)≤j∧j≤2 ^ 30∧Builtin.Range.rangeSize i j 1≤1000 then newList m ((L2.lu i j 1).map .int) s else .stuck
 |.int i,.int j,.none=>if -(2 ^ 30)≤i∧i≤2 ^ 30∧-(2 ^ 30)≤j∧j≤2 ^ 30∧Builtin.Range.rangeSize i j 1≤1000 then .ok (.tup ((L2.lu i j 1).map .int)) s else .stuck
 |_,_,_=>.stuck
noncomputable def yq(t:Tgt)(v:Val)(env:Env):Option Env:=
 match t with
 |.nm i=>some (env.set i (some v))
 |.nms is=>match v with
  |.tup vs=>if vs.length=is.length then some ((is.zip vs).foldl (fun e p=>e.set p.1 (some p.2)) env) else Option.none
  |_=>Option.none
structure Src where
 xs:List Val
 at_:Option Nat
noncomputable def Src.ok(r:Src)(s:Sto):Bool:=match r.at_ with
 |Option.none=>true
 |some i=>match s[i]? with
  |some (.lst vs)=>tL vs r.xs
  |_=>false
noncomputable def qR:List Val→List Val→List Val
 |v::vs,w::ws=>.tup [v,w]::qR vs ws
 |_,_=>[]
noncomputable def ku(n:Nat):List Val→List Val
 |[]=>[]
 |v::vs=>.tup [.int n,v]::ku (n+1) vs
noncomputable def srcOf(s:Sto):Val→Option Src
 |.tup vs=>some ⟨vs,Option.none⟩
 |.lst vs=>some ⟨vs,Option.none⟩
 |.ctup ns=>some ⟨ns.map .int,Option.none⟩
 |.ref i=>match s[i]? with
  |some (.lst vs)=>some ⟨vs,some i⟩
  |_=>Option.none
 |_=>Option.none
noncomputable def yX(lo:Int)(n:Nat):List Val:=(List.range n).map fun(k:Nat)=>Val.int (lo+k)
noncomputable def yi(r:Src)(t:Tgt)(body:Env→Sto→List Val→Out (List Val × Env)):List Val→Env→Sto→List Val→Out (List Val × Env)
 |[],env,s,acc=>if r.ok s then .ok (acc,env) s else .stuck
 |x::xs,env,s,acc=>if r.ok s then match yq t x env with
    |Option.none=>.stuck
    |some env'=>(body env' s acc).bind fun p s'=>yi r t body xs p.2 s' p.1
  else .stuck
noncomputable def zk(fr:List (Option Nat))(env:Env):Env:=fr.map fun o=>match o with|some j=>(env[j]?).join|Option.none=>Option.none
inductive Fl
 |nx (env:Env)|bk (env:Env)|ct (env:Env)|rt (v:Val)
noncomputable def vM(r:Src)(t:Tgt)(body:Env→Sto→Out Fl):List Val→Env→Sto→Out Fl
 |[],env,s=>if r.ok s then .ok (.nx env) s else .stuck
 |x::xs,env,s=>if r.ok s then match yq t x env with
    |Option.none=>.stuck
    |some env'=>(body env' s).bind fun fl s'=>match fl with
     |.nx e=>vM r t body xs e s'
     |.ct e=>vM r t body xs e s'
     |.bk e=>.ok (.nx e) s'
     |.rt v=>.ok (.rt v) s'
  else .stuck
noncomputable def fj(c:Env→Sto→Out Bool)(body:Env→Sto→Out Fl):Nat→Env→Sto→Out Fl
 |0,_,_=>.stuck
 |n+1,env,s=>(c env s).bind fun b s1=>if b then (body env s1).bind fun fl s2=>match fl with
    |.nx e=>fj c body n e s2
    |.ct e=>fj c body n e s2
    |.bk e=>.ok (.nx e) s2
    |.rt v=>.ok (.rt v) s2
  else .ok (.nx env) s1
noncomputable def X7:Nat:=100000
section
variable (Φ:Calls)(G:Str→Option Val)
mutual
noncomputable def evE(env:Env):Ex→Sto→Out Val
 |.lit v,s=>.ok v s
 |.var i,s=>match env[i]? with|some (some v)=>.ok v s|_=>.stuck
 |.gl x,s=>match G x with|some v=>.ok v s|Option.none=>.stuck
 |.ty _ n,s=>.ok (.ty n) s
 |.bin m op a b,s=>(evE env a s).bind fun x s1=>(evE env b s1).bind fun y s2=>binOp m op x y s2
 |.neg a,s=>(evE env a s).bind fun x s1=>match x with|.int i=>.ok (.int (-i)) s1|_=>.stuck
 |.not a,s=>(evE env a s).bind fun x s1=>match x with|.bool b=>.ok (.bool !b) s1|_=>.stuck
 |.cmp op a b,s=>(evE env a s).bind fun x s1=>(evE env b s1).bind fun y s2=>zU op x y s2
 |.chain op op' a b c,s=>(evE env a s).bind fun x s1=>(evE env b s1).bind fun y s2=>(zU op x y s2).bind fun r s3=>match r with
  |.bool true=>(evE env c s3).bind fun z s4=>zU op' y z s4
  |.bool false=>.ok (.bool false) s3
  |_=>.stuck
 |.andE a es,s=>match es with
  |.nil=>evE env a s
  |.cons _ _=>(evE env a s).bind fun x s1=>match x with
   |.bool true=>sC env es s1
   |.bool false=>.ok (.bool false) s1
   |_=>.stuck
 |.orE a es,s=>match es with
  |.nil=>evE env a s
  |.cons _ _=>(evE env a s).bind fun x s1=>match truth s1 x with
   |some false=>nO env es s1
   |some true=>.ok x s1
   |Option.none=>.stuck
 |.ife c a b,s=>(evT env c s).bind fun t s1=>if t then evE env a s1 else evE env b s1
 |.tup es,s=>(y2 env es s).bind fun vs s1=>if vs.length≤zV then .ok (.tup vs) s1 else .stuck
 |.lst m es,s=>(y2 env es s).bind fun vs s1=>if vs.length≤zV then newList m vs s1 else .stuck
 |.dct0,s=>.ok .dct0 s
 |.call f ver es,s=>(y2 env es s).bind fun vs s1=>Φ f ver vs s1
 |.blt f m es,s=>(y2 env es s).bind fun vs s1=>blt f m vs s1
 |.maxD a d,s=>(evE env a s).bind fun x s1=>(evE env d s1).bind fun y s2=>mxD x y s2
 |.tS f _ o es,s=>(evE env o s).bind fun x s1=>(y2 env es s1).bind fun vs s2=>tS f x vs s2
 |.ix a b,s=>(evE env a s).bind fun x s1=>(evE env b s1).bind fun y s2=>vE x y s2
 |.sl m a lo hi st,s=>(evE env a s).bind fun x s1=>(evO env lo s1).bind fun l s2=>(evO env hi s2).bind fun h s3=>(evO env st s3).bind fun c s4=>qe m x l h c s4
 |.comp m _ fr elt t it ifs,s=>(yo env it s).bind fun r s1=>
  (yi r t (fun e s' acc=>(yh e ifs s').bind fun b s2=>if b then (evE e elt s2).bind fun v s3=>.ok (acc++[v],e) s3 else .ok (acc,e) s2) r.xs (zk fr env) s1 []).bind fun p s2=>newList m p.1 s2
 |.comp2 m _ fr elt t it ifs t2 it2 ifs2,s=>(yo env it s).bind fun r s1=>
  (yi r t (fun e s' acc=>(yh e ifs s').bind fun b s2=>if b then (yo e it2 s2).bind fun r2 s3=>
      yi r2 t2 (fun e' s4 acc'=>(yh e' ifs2 s4).bind fun b' s5=>if b' then (evE e' elt s5).bind fun v s6=>.ok (acc'++[v],e') s6 else .ok (acc',e') s5) r2.xs e s3 acc
   else .ok (acc,e) s2) r.xs (zk fr env) s1 []).bind fun p s2=>if p.1.length≤zV then newList m p.1 s2 else .stuck
 |.dctN t,s=>.ok (.dref s.length) (s++[if t then .dT [] else .dS []])
 |.ixD a b,s=>(evE env a s).bind fun x s1=>(evE env b s1).bind fun y s2=>ixD x y s2
 |.listRange m a b c,s=>(evE env a s).bind fun x s1=>(evE env b s1).bind fun y s2=>(evE env c s2).bind fun z s3=>Wl m x y z s3
noncomputable def sC(env:Env):Exs→Sto→Out Val
 |.nil,_=>.stuck
 |.cons a es,s=>match es with
  |.nil=>evE env a s
  |.cons _ _=>(evE env a s).bind fun x s1=>match x with
   |.bool true=>sC env es s1
   |.bool false=>.ok (.bool false) s1
   |_=>.stuck
noncomputable def nO(env:Env):Exs→Sto→Out Val
 |.nil,_=>.stuck
 |.cons a es,s=>match es with
  |.nil=>evE env a s
  |.cons _ _=>(evE env a s).bind fun x s1=>match truth s1 x with
   |some false=>nO env es s1
   |some true=>.ok x s1
   |Option.none=>.stuck
noncomputable def y2(env:Env):Exs→Sto→Out (List Val)
 |.nil,s=>.ok [] s
 |.cons e es,s=>(evE env e s).bind fun v s1=>(y2 env es s1).bind fun vs s2=>.ok (v::vs) s2
noncomputable def evO(env:Env):OEx→Sto→Out (Option Int)
 |.no,s=>.ok Option.none s
 |.yes e,s=>(evE env e s).bind fun v s1=>match v with|.int i=>.ok (some i) s1|_=>.stuck
/-- a test -/
noncomputable def evT(env:Env):Cn→Sto→Out Bool
 |.val e,s=>(evE env e s).truth
 |.not a,s=>(evT env a s).bind fun b s1=>.ok (!b) s1
 |.and a es,s=>(evT env a s).bind fun b s1=>if b then yh env es s1 else .ok false s1
 |.or a es,s=>(evT env a s).bind fun b s1=>if b then .ok true s1 else rJ env es s1
noncomputable def yh(env:Env):Cns→Sto→Out Bool
 |.nil,s=>.ok true s
 |.cons a es,s=>(evT env a s).bind fun b s1=>if b then yh env es s1 else .ok false s1
noncomputable def rJ(env:Env):Cns→Sto→Out Bool
 |.nil,s=>.ok false s
 |.cons a es,s=>(evT env a s).bind fun b s1=>if b then .ok true s1 else rJ env es s1
noncomputable def yo(env:Env):Itb→Sto→Out Src
 |.val e,s=>(evE env e s).bind fun v s1=>match srcOf s1 v with|some r=>.ok r s1|Option.none=>.stuck
 |.range1 a,s=>(evE env a s).bind fun x s1=>match x with
  |.int j=>if -(2 ^ 62)≤j∧j≤zV then .ok ⟨yX 0 j.toNat,Option.none⟩ s1 else .stuck
  |_=>.stuck
 |.range2 a b,s=>(evE env a s).bind fun x s1=>(evE env b s1).bind fun y s2=>match x,y with
  |.int i,.int j=>if -(2 ^ 62)≤i∧i<2 ^ 62∧-(2 ^ 62)≤j∧j<2 ^ 62∧j-i≤zV then .ok ⟨yX i (j-i).toNat,Option.none⟩ s2 else .stuck
  |_,_=>.stuck
 |.enum e,s=>(evE env e s).bind fun v s1=>match v with
  |.tup vs=>.ok ⟨ku 0 vs,Option.none⟩ s1
  |.lst vs=>.ok ⟨ku 0 vs,Option.none⟩ s1
  |_=>.stuck
 |.zip a b,s=>(evE env a s).bind fun x s1=>(evE env b s1).bind fun y s2=>match x,y with
  |.tup vs,.tup ws=>if ws.length≤vs.length then .ok ⟨qR vs ws,Option.none⟩ s2 else .stuck
  |_,_=>.stuck
end
mutual
noncomputable def exS(env:Env):Sm→Sto→Out Fl
 |.expr e,s=>(evE Φ G env e s).bind fun _ s1=>.ok (.nx env) s1
 |.ret e,s=>(evE Φ G env e s).bind fun v s1=>.ok (.rt v) s1
 |.retN,s=>.ok (.rt .none) s
 |.asg i e,s=>(evE Φ G env e s).bind fun v s1=>.ok (.nx (env.set i (some v))) s1
 |.asgT is e,s=>(evE Φ G env e s).bind fun v s1=>match yq (.nms is) v env with|some env'=>.ok (.nx env') s1|Option.none=>.stuck
 |.par is es,s=>(y2 Φ G env es s).bind fun vs s1=>if vs.length=is.length then .ok (.nx ((is.zip vs).foldl (fun e p=>e.set p.1 (some p.2)) env)) s1 else .stuck
 |.aug i op e,s=>match env[i]? with
  |some (some (.int x))=>(evE Φ G env e s).bind fun v s1=>match v with
   |.int y=>(binOp false op (.int x) (.int y) s1).bind fun z s2=>.ok (.nx (env.set i (some z))) s2
   |_=>.stuck
  |some (some (.tup x))=>if op=.add then (evE Φ G env e s).bind fun v s1=>match v with
   |.tup y=>(binOp false .add (.tup x) (.tup y) s1).bind fun z s2=>.ok (.nx (env.set i (some z))) s2
   |_=>.stuck
   else .stuck
  |_=>.stuck
 |.setIx o i e,s=>(evE Φ G env e s).bind fun v s1=>(evE Φ G env o s1).bind fun x s2=>(evE Φ G env i s2).bind fun y s3=>match x,y with
  |.ref r,.int k=>(match s3[r]? with
   |some (.lst vs)=>(match L2.ixN vs.length k with|some j=>.ok (.nx env) (upd s3 r (vs.set j v))|Option.none=>.stuck)
   |_=>.stuck)
  |_,_=>.stuck
 |.ifS c a b,s=>(evT Φ G env c s).bind fun t s1=>if t then zW env a s1 else zW env b s1
 |.forS t it b,s=>(yo Φ G env it s).bind fun r s1=>vM r t (fun e s'=>zW e b s') r.xs env s1
 |.whileS c b,s=>fj (fun e s'=>evT Φ G e c s') (fun e s'=>zW e b s') X7 env s
 |.pass,s=>.ok (.nx env) s
 |.brk,s=>.ok (.bk env) s
 |.cont,s=>.ok (.ct env) s
 |.raise _,_=>.stuck
 |.setD o i e,s=>(evE Φ G env e s).bind fun v s1=>(evE Φ G env o s1).bind fun x s2=>(evE Φ G env i s2).bind fun y s3=>match putD x y v s3 with|some s4=>.ok (.nx env) s4|Option.none=>.stuck
noncomputable def zW(env:Env):Sms→Sto→Out Fl
 |.nil,s=>.ok (.nx env) s
 |.cons c cs,s=>(exS env c s).bind fun fl s1=>match fl with
  |.nx e=>zW e cs s1
  |fl=>.ok fl s1
end
end
noncomputable def yY(N:List Str)(vs:List Val):Env:=vs.map some++List.replicate (N.length-vs.length) Option.none
noncomputable def leave(F:Fn)(s0:Sto)(v:Val)(s:Sto):Out Val:=
 if F.keep then .ok v s
 else if wB s0 s then (match freeze s0.length s v with|some v'=>.ok v' (s.take s0.length)|Option.none=>.stuck) else .stuck
structure Tbl where
 fn:Str→Nat→Option Fn
 gl:Str→Option Val
noncomputable def run(T:Tbl)(Φ:Calls)(F:Fn)(vs:List Val)(s:Sto):Out Val:=
 if vs.length=F.ps.length then (zW Φ T.gl (yY F.N vs) F.body s).bind fun fl s1=>match fl with
  |.nx _=>leave F s .none s1
  |.rt v=>leave F s v s1
  |_=>.stuck
 else .stuck
noncomputable def zF(T:Tbl):Nat→Calls
 |0=>fun _ _ _ _=>.stuck
 |n+1=>fun f ver vs s=>match T.fn f ver with|some F=>run T (zF T n) F vs s|Option.none=>.stuck
end M
end
section
namespace M
open PySem
noncomputable abbrev KF:=PySem.W.Frag
structure Own where
 o:List Addr
 h:List Addr
def Own.no(ρ:Own)(a:Addr):Prop:=a ∉ ρ.o∧a ∉ ρ.h
def KT(K:KF)(a:Addr)(xs:List L2.V):Prop:=∃(o:Obj) (its:Array Value) (n:Nat),K.lookup a=some o∧o.cls=.type "tuple"∧o.data=.seq its n∧its.size≤sizeLine∧L2.Vals xs its.toList
def SC(K:KF)(ρ:Own)(H:L2.Hp)(a:Addr)(xs:List L2.V):Prop:=(ρ.no a∧L2.Rd H a (.lst xs)) ∨
 ∃(o:Obj) (its:Array Value) (n:Nat),K.lookup a=some o∧o.cls=.type "list"∧o.dict=none∧o.data=.seq its n∧its.size≤sizeLine∧L2.Vals xs its.toList
noncomputable def hk:Option L2.HO→Nat
 |some (.lst _)=>1
 |some (.dK _)=>2
 |some (.dT _)=>3
 |_=>0
mutual
inductive RD(K:KF)(mg:Str→Option Value)(ρ:Own)(H:L2.Hp):Val→L2.V→Prop
 |none:RD K mg ρ H .none .non
 |bool (b:Bool):RD K mg ρ H (.bool b) (.bl b)
 |int (i:Int):RD K mg ρ H (.int i) (.int i)
 |str (x:Str):RD K mg ρ H (.str x) (.str x)
 |tup {a:Addr} {vs:List Val} {xs:List L2.V}:ρ.no a→H a=some (.tup xs)→RDs K mg ρ H vs xs→RD K mg ρ H (.tup vs) (.ref a)
 |lst {a:Addr} {vs:List Val} {xs:List L2.V}:ρ.no a→H a=some (.lst xs)→RDs K mg ρ H vs xs→RD K mg ρ H (.lst vs) (.ref a)
 |dct0 {a:Addr}:ρ.no a→H a=some (.dK [])→RD K mg ρ H .dct0 (.ref a)
 |ctup {a:Addr} {ns:List Int}:KT K a (ns.map L2.V.int)→RD K mg ρ H (.ctup ns) (.ref a)
 |scr {a:Addr} {ns:List Int}:SC K ρ H a (ns.map L2.V.int)→RD K mg ρ H (.scr ns) (.ref a)
 |ref {a:Addr} {i:Nat}:ρ.o[i]?=some a→hk (H a)=1→RD K mg ρ H (.ref i) (.ref a)
 |dref {a:Addr} {i:Nat}:ρ.o[i]?=some a→1<hk (H a)→RD K mg ρ H (.dref i) (.ref a)
 |fn {x:Str} {f:Addr}:mg x=some (.ref f)→RD K mg ρ H (.fn x) (.ref f)
 |ty (n:String):RD K mg ρ H (.ty n) (.ty n)
inductive RDs(K:KF)(mg:Str→Option Value)(ρ:Own)(H:L2.Hp):List Val→List L2.V→Prop
 |nil:RDs K mg ρ H [] []
 |cons {v:Val} {x:L2.V} {vs:List Val} {xs:List L2.V}:RD K mg ρ H v x→RDs K mg ρ H vs xs→RDs K mg ρ H (v::vs) (x::xs)
end
noncomputable def CR(K:KF)(mg:Str→Option Value)(ρ:Own)(H:L2.Hp)(a:Addr):Cel→Prop
 |.lst vs=>∃xs,H a=some (.lst xs)∧RDs K mg ρ H vs xs
 |.dS kvs=>∃kxs,H a=some (.dK kxs)∧kxs.map (·.1)=kvs.map (fun p=>Sum.inr p.1)∧RDs K mg ρ H (kvs.map (·.2)) (kxs.map (·.2))
 |.dT kvs=>∃kxs,H a=some (.dT kxs)∧kxs.map (·.1)=kvs.map (fun p=>p.1.map Sum.inl)∧RDs K mg ρ H (kvs.map (·.2)) (kxs.map (·.2))
structure HR(K:KF)(mg:Str→Option Value)(ρ:Own)(s:Sto)(H:L2.Hp):Prop where
 len:ρ.o.length=s.length
 nd:ρ.o.Nodup
 cel:∀(i:Nat) (c:Cel),s[i]?=some c→∃a:Addr,ρ.o[i]?=some a∧CR K mg ρ H a c
 hid:∀a∈ρ.h,(∃xs,H a=some (.lst xs))∧a ∉ ρ.o
structure Ext(ρ:Own)(H:L2.Hp)(ρ':Own)(H':L2.Hp):Prop where
 pre:∃new:List Addr,ρ'.o=ρ.o++new∧∀a∈new,H a=none
 hid:ρ'.h=ρ.h
 keep:∀(a:Addr) (o:L2.HO),H a=some o→a ∉ ρ.o→H' a=some o
 kd:∀a∈ρ.o,hk (H' a)=hk (H a)
structure ER(K:KF)(mg:Str→Option Value)(ρ:Own)(H:L2.Hp)(env:Env)(σ:L2.St):Prop where
 len:env.length=σ.length
 at_:∀(i:Nat) (v:Val),env[i]?=some (some v)→∃x:L2.V,σ[i]?=some (some x)∧RD K mg ρ H v x
section
variable {K:KF}{mg:Str→Option Value}{ρ ρ' ρ'':Own}{H H' H'':L2.Hp}{s s':Sto}
theorem HR.obj(h:HR K mg ρ s H)(i:Nat)(vs:List Val)(e:s[i]?=some (Cel.lst vs)):∃(a:Addr) (xs:List L2.V),ρ.o[i]?=some a∧H a=some (.lst xs)∧RDs K mg ρ H vs xs:=by
 obtain⟨a,e1,xs,e2,r⟩:=h.cel i _ e
 exact⟨a,xs,e1,e2,r⟩
theorem CR.there{a:Addr}{c:Cel}(h:CR K mg ρ H a c):∃o,H a=some o:=by
 cases c with
 |lst vs=>obtain⟨xs,e,_⟩:=h;exact⟨_,e⟩
 |dS kvs=>obtain⟨xs,e,_⟩:=h;exact⟨_,e⟩
 |dT kvs=>obtain⟨xs,e,_⟩:=h;exact⟨_,e⟩
theorem CR.hk{a:Addr}{c:Cel}(h:CR K mg ρ H a c):0<hk (H a):=by
 cases c with
 |lst vs=>obtain⟨xs,e,_⟩:=h;rw[e];exact Nat.lt_succ_self 0
 |dS kvs=>obtain⟨xs,e,_⟩:=h;rw[e];exact Nat.lt_of_sub_eq_succ rfl
 |dT kvs=>obtain⟨xs,e,_⟩:=h;rw[e];exact Nat.lt_of_sub_eq_succ rfl
theorem HR.trk(h:HR K mg ρ s H){a:Addr}(ha:a∈ρ.o):∃o,H a=some o:=by
 obtain⟨i,hi,e⟩:=List.getElem_of_mem ha
 have hs:i<s.length:=by rw[←h.len];exact hi
 obtain⟨b,e1,e2⟩:=h.cel i _ (List.getElem?_eq_getElem hs)
 rw[List.getElem?_eq_getElem hi,e]at e1
 cases e1
 exact e2.there
theorem Zt{a:Addr}(h:hk (H a)=1):∃xs,H a=some (.lst xs):=by
 cases e:H a with
 |none=>rw[e]at h;cases h
 |some o=>
  rw[e]at h
  cases o with
  |lst xs=>exact⟨xs,rfl⟩
  |_=>cases h
theorem HR.new(h:HR K mg ρ s H){p:Addr}(hp:H p=none):ρ.no p:=by
 refine⟨fun hm=>?_,fun hm=>?_⟩
 . obtain⟨xs,e⟩:=h.trk hm
   rw[hp]at e;cases e
 . obtain⟨⟨xs,e⟩,_⟩:=h.hid p hm
   rw[hp]at e;cases e
theorem Ext.refl:Ext ρ H ρ H:=⟨⟨[],by simp,fun a ha=>by cases ha⟩,rfl,fun a o e _=>e,fun _ _=>rfl⟩
theorem Ext.Wn(x:Ext ρ H ρ' H'){a:Addr}{o:L2.HO}(e:H a=some o)(n:ρ.no a):ρ'.no a:=by
 obtain⟨new,e1,hn⟩:=x.pre
 refine⟨?_,by rw[x.hid];exact n.2⟩
 rw[e1]
 intro hm
 rcases List.mem_append.mp hm with hm|hm
 . exact n.1 hm
 . rw[hn a hm]at e;cases e
theorem Ext.get(x:Ext ρ H ρ' H'){i:Nat}{a:Addr}(e:ρ.o[i]?=some a):ρ'.o[i]?=some a:=by
 obtain⟨new,e1,hn⟩:=x.pre
 have hi:i<ρ.o.length:=(List.getElem?_eq_some_iff.mp e).1
 rw[e1,List.getElem?_append_left hi];exact e
theorem Ext.trans(x:Ext ρ H ρ' H')(h:HR K mg ρ' s H')(y:Ext ρ' H' ρ'' H''):Ext ρ H ρ'' H'':=by
 obtain⟨new,e1,hn⟩:=x.pre
 obtain⟨new2,e2,hn2⟩:=y.pre
 refine⟨⟨new++new2,by rw[e2,e1,List.append_assoc],fun a ha=>?_⟩,y.hid.trans x.hid,fun a o e n=>y.keep a o (x.keep a o e n) ?_,fun a ha=>(y.kd a (by rw[e1];exact List.mem_append_left _ ha)).trans (x.kd a ha)⟩
 . rcases List.mem_append.mp ha with ha|ha
   . exact hn a ha
   . cases q:H a with
     |none=>rfl
     |some o=>
      by_cases hm:a∈ρ.o
      . obtain⟨xs,e⟩:=h.trk (a:=a) (by rw[e1];exact List.mem_append_left _ hm)
        rw[hn2 a ha]at e;cases e
      . have:=x.keep a o q hm
        rw[hn2 a ha]at this;cases this
 . rw[e1]
   intro hm
   rcases List.mem_append.mp hm with hm|hm
   . exact n hm
   . rw[hn a hm]at e;cases e
theorem SC.sql{a:Addr}{xs:List L2.V}(h:SC K ρ H a xs):L2.SqL K H a xs:=by
 rcases h with⟨_,h⟩|h
 . exact .inl h
 . exact .inr h
theorem KT.sqt{a:Addr}{xs:List L2.V}(h:KT K a xs):L2.SqT K H a xs:=.inr h
structure Mv(ρ:Own)(H:L2.Hp)(ρ':Own)(H':L2.Hp):Prop where
 keep:∀(a:Addr) (o:L2.HO),H a=some o→ρ.no a→H' a=some o∧ρ'.no a
 get:∀(i:Nat) (a:Addr),ρ.o[i]?=some a→ρ'.o[i]?=some a
 kd:∀a∈ρ.o,hk (H' a)=hk (H a)
theorem Ext.mv(x:Ext ρ H ρ' H'):Mv ρ H ρ' H':=⟨fun a o e n=>⟨x.keep a o e n.1,x.Wn e n⟩,fun i a e=>x.get e,x.kd⟩
theorem SC.mv{a:Addr}{xs:List L2.V}(x:Mv ρ H ρ' H')(h:SC K ρ H a xs):SC K ρ' H' a xs:=by
 rcases h with⟨n,h|⟨o,h⟩⟩|h
 . exact .inl ⟨(x.keep _ _ h n).2,.inl (x.keep _ _ h n).1⟩
 . exact .inl ⟨(x.keep _ _ h n).2,.inr ⟨o,(x.keep _ _ h n).1⟩⟩
 . exact .inr h
end
mutual
theorem RD.mv{K:KF}{mg:Str→Option Value}{ρ ρ':Own}{H H':L2.Hp}(x:Mv ρ H ρ' H'){v:Val}{u:L2.V}(q:RD K mg ρ H v u):RD K mg ρ' H' v u:=by
 cases q with
 |none=>exact .none
 |bool b=>exact .bool b
 |int i=>exact .int i
 |str t=>exact .str t
 |tup n e r=>exact .tup (x.keep _ _ e n).2 (x.keep _ _ e n).1 (RDs.mv x r)
 |lst n e r=>exact .lst (x.keep _ _ e n).2 (x.keep _ _ e n).1 (RDs.mv x r)
 |dct0 n e=>exact .dct0 (x.keep _ _ e n).2 (x.keep _ _ e n).1
 |ctup h=>exact .ctup h
 |scr h=>exact .scr (h.mv x)
 |ref e k=>exact .ref (x.get _ _ e) ((x.kd _ (List.mem_of_getElem? e)).trans k)
 |dref e k=>exact .dref (x.get _ _ e) (by rw[x.kd _ (List.mem_of_getElem? e)];exact k)
 |fn e=>exact .fn e
 |ty n=>exact .ty n
theorem RDs.mv{K:KF}{mg:Str→Option Value}{ρ ρ':Own}{H H':L2.Hp}(x:Mv ρ H ρ' H'){vs:List Val}{us:List L2.V}(q:RDs K mg ρ H vs us):RDs K mg ρ' H' vs us:=by
 cases q with
 |nil=>exact .nil
 |cons r rs=>exact .cons (RD.mv x r) (RDs.mv x rs)
end
theorem CR.mv{K:KF}{mg:Str→Option Value}{ρ ρ':Own}{H H':L2.Hp}{a:Addr}{c:Cel}(x:Mv ρ H ρ' H')(e:H' a=H a)(h:CR K mg ρ H a c):CR K mg ρ' H' a c:=by
 cases c with
 |lst vs=>obtain⟨xs,e1,r⟩:=h;exact⟨xs,e.trans e1,RDs.mv x r⟩
 |dS kvs=>obtain⟨xs,e1,k,r⟩:=h;exact⟨xs,e.trans e1,k,RDs.mv x r⟩
 |dT kvs=>obtain⟨xs,e1,k,r⟩:=h;exact⟨xs,e.trans e1,k,RDs.mv x r⟩
theorem RD.mono{K:KF}{mg:Str→Option Value}{ρ ρ':Own}{H H':L2.Hp}{v:Val}{u:L2.V}(r:RD K mg ρ H v u)(x:Ext ρ H ρ' H'):RD K mg ρ' H' v u:=RD.mv x.mv r
theorem RDs.mono{K:KF}{mg:Str→Option Value}{ρ ρ':Own}{H H':L2.Hp}{v:List Val}{u:List L2.V}(r:RDs K mg ρ H v u)(x:Ext ρ H ρ' H'):RDs K mg ρ' H' v u:=RDs.mv x.mv r
end M
end
section
namespace M
open PySem
section
variable {K:KF}{mg:Str→Option Value}{ρ ρ' ρ'':Own}{H H' H'':L2.Hp}{s s':Sto}
theorem RDs.length{vs:List Val}{xs:List L2.V}(q:RDs K mg ρ H vs xs):vs.length=xs.length:=by
 cases q with
 |nil=>rfl
 |cons _ r=>rw[List.length_cons,List.length_cons,r.length]
theorem RDs.get{vs:List Val}{xs:List L2.V}{i:Nat}{v:Val}(q:RDs K mg ρ H vs xs)(e:vs[i]?=some v):∃x,xs[i]?=some x∧RD K mg ρ H v x:=by
 cases q with
 |nil=>cases e
 |cons r rs=>
  cases i with
  |zero=>cases e;exact⟨_,rfl,r⟩
  |succ i=>exact RDs.get (i:=i) rs e
theorem RDs.WO{vs:List Val}{xs:List L2.V}{i:Nat}{x:L2.V}(q:RDs K mg ρ H vs xs)(e:xs[i]?=some x):∃v,vs[i]?=some v∧RD K mg ρ H v x:=by
 cases q with
 |nil=>cases e
 |cons r rs=>
  cases i with
  |zero=>cases e;exact⟨_,rfl,r⟩
  |succ i=>exact RDs.WO (i:=i) rs e
theorem RDs.append{vs ws:List Val}{xs ys:List L2.V}(p:RDs K mg ρ H vs xs)(q:RDs K mg ρ H ws ys):RDs K mg ρ H (vs++ws) (xs++ys):=by
 cases p with
 |nil=>exact q
 |cons r rs=>exact .cons r (rs.append q)
theorem RDs.take{vs:List Val}{xs:List L2.V}(n:Nat)(q:RDs K mg ρ H vs xs):RDs K mg ρ H (vs.take n) (xs.take n):=by
 cases n with
 |zero=>exact .nil
 |succ n=>cases q with
  |nil=>exact .nil
  |cons r rs=>exact .cons r (rs.take n)
theorem RDs.drop{vs:List Val}{xs:List L2.V}(n:Nat)(q:RDs K mg ρ H vs xs):RDs K mg ρ H (vs.drop n) (xs.drop n):=by
 cases n with
 |zero=>exact q
 |succ n=>cases q with
  |nil=>exact .nil
  |cons _ rs=>exact rs.drop n
theorem RDs.set{v:Val}{x:L2.V}(r:RD K mg ρ H v x){vs:List Val}{xs:List L2.V}(i:Nat)(q:RDs K mg ρ H vs xs):RDs K mg ρ H (vs.set i v) (xs.set i x):=by
 cases q with
 |nil=>exact .nil
 |cons q t=>cases i with
  |zero=>exact .cons r t
  |succ i=>exact .cons q (RDs.set r i t)
theorem RDs.rep{vs:List Val}{xs:List L2.V}(r:RDs K mg ρ H vs xs):∀k:Nat,RDs K mg ρ H (List.replicate k vs).flatten (List.replicate k xs).flatten
 |0=>.nil
 |k+1=>by
  rw[List.replicate_succ,List.replicate_succ,List.flatten_cons,List.flatten_cons]
  exact r.append (RDs.rep r k)
theorem RDs.pick{vs:List Val}{xs:List L2.V}(r:RDs K mg ρ H vs xs):∀(is:List Nat),RDs K mg ρ H (is.filterMap fun i=>vs[i]?) (is.filterMap fun i=>xs[i]?)
 |[]=>.nil
 |i::is=>by
  rw[List.filterMap_cons,List.filterMap_cons]
  cases hx:vs[i]? with
  |none=>
   have:xs[i]?=none:=by
    have h2:vs.length≤i:=List.getElem?_eq_none_iff.mp hx
    exact List.getElem?_eq_none_iff.mpr (by rw[←r.length];exact h2)
   rw[this];exact RDs.pick r is
  |some v=>
   obtain⟨u,hu,ru⟩:=r.get hx
   rw[hu]
   exact .cons ru (RDs.pick r is)
theorem RDs.yR{vs:List Val}{xs:List L2.V}(r:RDs K mg ρ H vs xs)(lo st:Int)(n:Nat):RDs K mg ρ H (L2.yR vs lo st n) (L2.yR xs lo st n):=by
 have h:=r.pick ((List.range n).map fun(k:Nat)=>(lo+(k:Int)*st).toNat)
 rw[List.filterMap_map,List.filterMap_map]at h
 exact h
theorem RDs.ints:∀(ns:List Int),RDs K mg ρ H (ns.map .int) (ns.map .int)
 |[]=>.nil
 |n::ns=>.cons (.int n) (RDs.ints ns)
theorem RDs.cut{vs:List Val}{xs:List L2.V}(r:RDs K mg ρ H vs xs)(lo hi:Option Int):RDs K mg ρ H (m7 vs lo hi) (L2.qT xs lo hi):=by
 unfold m7 L2.qT
 rw[r.length]
 exact(r.drop _).take _
theorem fu{α:Type}:∀{l:List α} {i j:Nat} {x:α},l.Nodup→l[i]?=some x→l[j]?=some x→i=j
 |[],_,_,_,_,e,_=>by simp at e
 |a::l,0,0,_,_,_,_=>rfl
 |a::l,0,j+1,x,nd,e1,e2=>by
  simp at e1 e2;subst e1
  exact absurd (List.mem_of_getElem? e2) (List.nodup_cons.mp nd).1
 |a::l,i+1,0,x,nd,e1,e2=>by
  simp at e1 e2;subst e2
  exact absurd (List.mem_of_getElem? e1) (List.nodup_cons.mp nd).1
 |a::l,i+1,j+1,x,nd,e1,e2=>by
  simp at e1 e2
  rw[fu (List.nodup_cons.mp nd).2 e1 e2]
theorem Ext.new(h:HR K mg ρ s H){p:Addr}(hp:H p=none)(o:L2.HO):Ext ρ H ρ (L2.upd H p o):=
 ⟨⟨[],by simp,fun a ha=>by cases ha⟩,rfl,fun a u e _=>by rw[L2.zQ (L2.zi e hp)];exact e,fun a ha=>by rw[L2.zQ fun z=>(h.new hp).1 (by rw[←z];exact ha)]⟩
theorem HR.more(h:HR K mg ρ s H){p:Addr}(hp:H p=none)(o:L2.HO):HR K mg ρ s (L2.upd H p o):=by
 refine⟨h.len,h.nd,fun i c e=>?_,fun a ha=>?_⟩
 . obtain⟨a,e1,r⟩:=h.cel i c e
   obtain⟨u,e2⟩:=r.there
   exact⟨a,e1,r.mv (Ext.new h hp o).mv (L2.zQ (L2.zi e2 hp))⟩
 . obtain⟨⟨xs,e⟩,n⟩:=h.hid a ha
   exact⟨⟨xs,by rw[L2.zQ (L2.zi e hp)];exact e⟩,n⟩
noncomputable def Own.more(ρ:Own)(p:Addr):Own:=⟨ρ.o++[p],ρ.h⟩
theorem Ext.own(h:HR K mg ρ s H){p:Addr}(hp:H p=none)(o:L2.HO):Ext ρ H (ρ.more p) (L2.upd H p o):=
 ⟨⟨[p],rfl,fun a ha=>by rw[List.mem_singleton.mp ha];exact hp⟩,rfl,fun a u e _=>by rw[L2.zQ (L2.zi e hp)];exact e,fun a ha=>by rw[L2.zQ fun z=>(h.new hp).1 (by rw[←z];exact ha)]⟩
theorem sX(h:HR K mg ρ s H)(p:Addr):(ρ.more p).o[s.length]?=some p:=by
 show (ρ.o++[p])[s.length]?=some p
 rw[←h.len,List.getElem?_append_right (Nat.le_refl _)];simp
theorem HR.Yu(h:HR K mg ρ s H){p:Addr}(hp:H p=none){c:Cel}{o:L2.HO}(r:CR K mg (ρ.more p) (L2.upd H p o) p c):HR K mg (ρ.more p) (s++[c]) (L2.upd H p o):=by
 have X:=Ext.own h hp o
 refine⟨by show (ρ.o++[p]).length=_;rw[List.length_append,List.length_append,h.len];rfl,?_,fun i ws q=>?_,fun a ha=>?_⟩
 . show (ρ.o++[p]).Nodup
   rw[List.nodup_append]
   exact⟨h.nd,by simp,fun a ha b hb=>by rw[List.mem_singleton.mp hb];intro z;subst z;exact(h.new hp).1 ha⟩
 . by_cases hi:i<s.length
   . rw[List.getElem?_append_left hi]at q
     obtain⟨a,e1,t⟩:=h.cel i ws q
     obtain⟨u,e2⟩:=t.there
     exact⟨a,X.get e1,t.mv X.mv (L2.zQ (L2.zi e2 hp))⟩
   . have hi':i=s.length:=by
      have:=(List.getElem?_eq_some_iff.mp q).1
      rw[List.length_append]at this
      simp at this;omega
     subst hi'
     rw[List.getElem?_append_right (Nat.le_refl _)]at q
     simp at q
     subst q
     exact⟨p,sX h p,r⟩
 . obtain⟨⟨ys,q⟩,n⟩:=h.hid a ha
   refine⟨⟨ys,by rw[L2.zQ (L2.zi q hp)];exact q⟩,fun hm=>?_⟩
   rcases List.mem_append.mp hm with hm|hm
   . exact n hm
   . rw[List.mem_singleton.mp hm,hp]at q;cases q
theorem HR.own(h:HR K mg ρ s H){p:Addr}(hp:H p=none){vs:List Val}{xs:List L2.V}(r:RDs K mg ρ H vs xs):HR K mg (ρ.more p) (s++[.lst vs]) (L2.upd H p (.lst xs)):=h.Yu hp ⟨xs,L2.zo,r.mono (Ext.own h hp _)⟩
theorem Ext.vk(h:HR K mg ρ s H){i:Nat}{a:Addr}(e:ρ.o[i]?=some a){o:L2.HO}(k:hk (some o)=hk (H a)):Ext ρ H ρ (L2.upd H a o):=
 ⟨⟨[],by simp,fun a ha=>by cases ha⟩,rfl,fun b u q n=>by rw[L2.zQ (fun z=>n (by rw[z];exact List.mem_of_getElem? e))];exact q,fun b hb=>by
   by_cases z:b=a
   . subst z;rw[L2.zo];exact k
   . rw[L2.zQ z]⟩
theorem Ext.write(h:HR K mg ρ s H){i:Nat}{a:Addr}(e:ρ.o[i]?=some a){ys:List L2.V}(k:H a=some (.lst ys))(xs:List L2.V):Ext ρ H ρ (L2.upd H a (.lst xs)):=Ext.vk h e (by rw[k];rfl)
theorem HR.vk(h:HR K mg ρ s H){i:Nat}{a:Addr}(e:ρ.o[i]?=some a){c:Cel}{o:L2.HO}(k:hk (some o)=hk (H a))(r:CR K mg ρ (L2.upd H a o) a c):HR K mg ρ (s.set i c) (L2.upd H a o):=by
 have X:=Ext.vk h e k
 refine⟨by rw[List.length_set];exact h.len,h.nd,fun j ws q=>?_,fun b hb=>?_⟩
 . skip
   by_cases hij:i=j
   . subst hij
     have hi:i<s.length:=by rw[←h.len];exact(List.getElem?_eq_some_iff.mp e).1
     rw[List.getElem?_set_self hi]at q
     cases q
     exact⟨a,e,r⟩
   . rw[List.getElem?_set_ne hij]at q
     obtain⟨b,e1,t⟩:=h.cel j ws q
     refine⟨b,e1,t.mv X.mv ?_⟩
     have hb:b≠a:=by
      intro z
      subst z
      exact hij (fu h.nd e e1)
     rw[L2.zQ hb]
 . obtain⟨⟨ys,q⟩,n⟩:=h.hid b hb
   exact⟨⟨ys,by rw[L2.zQ (fun z=>n (by rw[z];exact List.mem_of_getElem? e))];exact q⟩,n⟩
theorem HR.write(h:HR K mg ρ s H){i:Nat}{a:Addr}(e:ρ.o[i]?=some a){ys:List L2.V}(k:H a=some (.lst ys)){vs:List Val}{xs:List L2.V}(r:RDs K mg ρ H vs xs):HR K mg ρ (upd s i vs) (L2.upd H a (.lst xs)):=
 h.vk e (by rw[k];rfl) ⟨xs,L2.zo,r.mono (Ext.write h e k xs)⟩
theorem ER.mono{env:Env}{σ:L2.St}(x:Ext ρ H ρ' H')(h:ER K mg ρ H env σ):ER K mg ρ' H' env σ:=⟨h.len,fun i v e=>by
 obtain⟨u,h1,h2⟩:=h.at_ i v e
 exact⟨u,h1,h2.mono x⟩⟩
theorem ER.set{env:Env}{σ:L2.St}(h:ER K mg ρ H env σ)(i:Nat){v:Val}{x:L2.V}(r:RD K mg ρ H v x):ER K mg ρ H (env.set i (some v)) (σ.set i (some x)):=by
 refine⟨by rw[List.length_set,List.length_set,h.len],fun j w e=>?_⟩
 by_cases hij:i=j
 . subst hij
   by_cases hi:i<env.length
   . rw[List.getElem?_set_self hi]at e
     cases e
     exact⟨x,by rw[List.getElem?_set_self (by rw[←h.len];exact hi)],r⟩
   . rw[List.getElem?_eq_none (by rw[List.length_set];omega)]at e
     cases e
 . rw[List.getElem?_set_ne hij]at e
   rw[List.getElem?_set_ne hij]
   exact h.at_ j w e
end
section
variable (K:KF)(mg:Str→Option Value)
def y4{α β:Type}(R:Own→L2.Hp→α→β→Prop)(ρ:Own)(H:L2.Hp)(o:Out α)(Q:β→L2.Hp→Prop):Prop:=
 match o with
 |.ok v s'=>∀ρ' x H',Ext ρ H ρ' H'→HR K mg ρ' s' H'→R ρ' H' v x→Q x H'
 |_=>False
noncomputable def tV(env:Env)(s:Sto)(o:Out Val):L2.TE:=fun σ H Q=>∃ρ,HR K mg ρ s H∧ER K mg ρ H env σ∧y4 K mg (RD K mg) ρ H o Q
noncomputable def tVs(env:Env)(s:Sto)(o:Out (List Val)):L2.TA:=fun σ H Q=>∃ρ,HR K mg ρ s H∧ER K mg ρ H env σ∧y4 K mg (RDs K mg) ρ H o Q
noncomputable def tT(env:Env)(s:Sto)(o:Out Bool):L2.TT:=fun σ H Q=>∃ρ,HR K mg ρ s H∧ER K mg ρ H env σ∧y4 K mg (fun _ _ a b=>a=b) ρ H o Q
noncomputable def tO(env:Env)(s:Sto)(o:Out (Option Int)):L2.TO:=fun σ H Q=>∃ρ,HR K mg ρ s H∧ER K mg ρ H env σ∧y4 K mg (fun _ _ a b=>a=b) ρ H o Q
end
section
variable {X:L2.Cx}{e:Expr}
theorem yC{t t':L2.TE}(h:L2.PE X e t)(i:∀σ H Q,t' σ H Q→t σ H Q):L2.PE X e t':=fun pins s σ H Q I q=>h pins s σ H Q I (i σ H Q q)
theorem oa{t t':L2.TT}(h:L2.PT X e t)(i:∀σ H Q,t' σ H Q→t σ H Q):L2.PT X e t':=fun pins s σ H Q I q=>h pins s σ H Q I (i σ H Q q)
theorem eG{es:List Expr}{t t':L2.TA}(h:L2.PA X es t)(i:∀σ H Q,t' σ H Q→t σ H Q):L2.PA X es t':=fun pos pins s σ H Q I q=>h pos pins s σ H Q I (i σ H Q q)
theorem x8{st:Stmt}{t t':L2.TS}(h:L2.PS X st t)(i:∀D σ H,t' D σ H→t D σ H):L2.PS X st t':=fun pins s σ H D I q=>h pins s σ H D I (i D σ H q)
theorem jg{st:List Stmt}{t t':L2.TS}(h:L2.PSs X st t)(i:∀D σ H,t' D σ H→t D σ H):L2.PSs X st t':=fun pins s σ H D I q=>h pins s σ H D I (i D σ H q)
theorem VE{t:L2.TE}(h:∀σ H Q,¬t σ H Q):L2.PE X e t:=fun pins s σ H Q I q=>(h σ H Q q).elim
theorem VO{t:L2.TT}(h:∀σ H Q,¬t σ H Q):L2.PT X e t:=fun pins s σ H Q I q=>(h σ H Q q).elim
theorem VP{t:L2.TT}(h:∀σ H Q,¬t σ H Q):L2.PW X e t:=fun wh pins s σ H Q I q=>(h σ H Q q).elim
theorem VB{es:List Expr}{t:L2.TA}(h:∀σ H Q,¬t σ H Q):L2.PA X es t:=fun pos pins s σ H Q I q=>(h σ H Q q).elim
end
section
variable {K:KF}{mg:Str→Option Value}{env:Env}{s:Sto}
theorem Vn{o:Out Val}(h:∀v s',o≠.ok v s'){σ:L2.St}{H:L2.Hp}{Q:L2.VK}:¬tV K mg env s o σ H Q:=by
 rintro ⟨ρ,_,_,w⟩
 cases o with
 |ok v s'=>exact h v s' rfl
 |_=>exact w
theorem Xi{o:Out (List Val)}(h:∀v s',o≠.ok v s'){σ:L2.St}{H:L2.Hp}{Q:List L2.V→L2.Hp→Prop}:¬tVs K mg env s o σ H Q:=by
 rintro ⟨ρ,_,_,w⟩
 cases o with
 |ok v s'=>exact h v s' rfl
 |_=>exact w
theorem ZS{o:Out Bool}(h:∀v s',o≠.ok v s'){σ:L2.St}{H:L2.Hp}{Q:Bool→L2.Hp→Prop}:¬tT K mg env s o σ H Q:=by
 rintro ⟨ρ,_,_,w⟩
 cases o with
 |ok v s'=>exact h v s' rfl
 |_=>exact w
end
end M
end
section
namespace M
open PySem
theorem yf:zV=sizeLine:=by rw[sizeLine_eq];rfl
section
variable {K:KF}{mg:Str→Option Value}{ρ ρ':Own}{H H':L2.Hp}{s s':Sto}
theorem xZ(hr:HR K mg ρ s H){v:Val}{x:L2.V}{vs:List Val}(r:RD K mg ρ H v x)(e:yk s v=some vs):∃a xs,x=.ref a∧H a=some (.lst xs)∧RDs K mg ρ H vs xs:=by
 cases r with
 |lst n h q=>cases e;exact⟨_,_,rfl,h,q⟩
 |@ref a i h _=>
  simp only[yk]at e
  split at e
  . rename_i ws hw
    cases e
    obtain⟨b,xs,e1,e2,q⟩:=hr.obj i _ hw
    rw[h]at e1;cases e1
    exact⟨_,_,rfl,e2,q⟩
  . cases e
 |_=>cases e
theorem qB(hr:HR K mg ρ s H){v:Val}{x:L2.V}{vs:List Val}(r:RD K mg ρ H v x)(e:w6 s v=some vs):∃a xs,x=.ref a∧(L2.SqL K H a xs∨L2.SqT K H a xs)∧RDs K mg ρ H vs xs:=by
 cases r with
 |lst n h q=>cases e;exact⟨_,_,rfl,.inl (.of h),q⟩
 |tup n h q=>cases e;exact⟨_,_,rfl,.inr (.of h),q⟩
 |ctup h=>cases e;exact⟨_,_,rfl,.inr h.sqt,RDs.ints _⟩
 |scr h=>cases e;exact⟨_,_,rfl,.inl h.sql,RDs.ints _⟩
 |@ref a i h _=>
  simp only[w6]at e
  split at e
  . rename_i ws hw
    cases e
    obtain⟨b,xs,e1,e2,q⟩:=hr.obj i _ hw
    rw[h]at e1;cases e1
    exact⟨_,_,rfl,.inl (.of e2),q⟩
  . cases e
 |_=>cases e
mutual
theorem RD.reads{P:Program}{w:World}{h:Heap}(ok:L2.HOk P w H h){v:Val}{x:L2.V}{u:Value}(q:RD K mg ρ H v x)(hv:v.isR=true)(r:L2.RelV x u):∃as,Reads h u v.d as∧(L2.xM v.d=false→sysModules ∉ as):=by
 cases q with
 |none=>cases (show u=Value.none from r);exact⟨[],.none,fun _=>by simp⟩
 |bool b=>cases (show u=Value.bool b from r);exact⟨[],.bool b,fun _=>by simp⟩
 |int i=>obtain⟨t,q⟩:=(show ∃t,u=Value.int i t from r);cases q;exact⟨[],.int i t,fun _=>by simp⟩
 |str x=>obtain⟨t,q⟩:=(show ∃t,u=Value.str x t from r);cases q;exact⟨[],.str x t,fun _=>by simp⟩
 |@lst a vs xs n ha rs=>
  cases (show u=Value.ref a from r)
  obtain⟨z,its,n,rv,e⟩:=(show L2.zy P w H h a (.lst xs) from ok a _ ha)
  obtain⟨as,q,_⟩:=RDs.reads ok rs (by simpa only[Val.isR] using hv) rv
  exact⟨a::as,.list e rfl rfl (by simpa using q),fun z=>by simp[Val.d,L2.xM]at z⟩
 |@tup a vs xs n ha rs=>
  cases (show u=Value.ref a from r)
  obtain⟨z,its,rv,o,e,c,n,dd⟩:=(show L2.zy P w H h a (.tup xs) from ok a _ ha)
  obtain⟨as,q,q2⟩:=RDs.reads ok rs (by simpa only[Val.isR] using hv) rv
  exact⟨as,.tuple e c dd.1 (by simpa using q),fun z=>q2 (by simpa [Val.d,L2.xM] using z)⟩
 |@dct0 a n ha=>
  cases (show u=Value.ref a from r)
  obtain⟨z,y,vs,rv,o,es,ep,e,c,dd,k⟩:=(show L2.zy P w H h a (.dK []) from ok a _ ha)
  cases rv
  have hes:es=#[]:=by
   have h2:=k.2.1
   cases hl:es.toList with
   |nil=>simpa using hl
   |cons a r=>rw[hl]at h2;cases h2
  subst hes
  refine⟨[a]++[],Reads.dict (as:=[]) (bs:=[]) e c.1 dd .nil .nil,fun _=>?_⟩
  have:a≠sysModules:=by simpa using y
  simpa using Ne.symm this
 |ctup _=>cases hv
 |scr _=>cases hv
 |ref _ _=>cases hv
 |dref _ _=>cases hv
 |fn _=>cases hv
 |ty _=>cases hv
theorem RDs.reads{P:Program}{w:World}{h:Heap}(ok:L2.HOk P w H h){vs:List Val}{xs:List L2.V}{us:List Value}(p:RDs K mg ρ H vs xs)(hv:sM vs=true)(q:L2.Vals xs us):∃as,ReadsAll h us (ds vs) as∧(L2.xY (ds vs)=false→sysModules ∉ as):=by
 cases p with
 |nil=>cases q;exact⟨[],.nil,fun _=>by simp⟩
 |cons r rs=>
  cases q with
  |cons q1 q2=>
   rw[sM,Bool.and_eq_true]at hv
   obtain⟨as,h1,h2⟩:=RD.reads ok r hv.1 q1
   obtain⟨bs,h3,h4⟩:=RDs.reads ok rs hv.2 q2
   refine⟨as++bs,.cons h1 h3,fun z=>?_⟩
   rw[ds,L2.xY,Bool.or_eq_false_iff]at z
   intro hm
   rcases List.mem_append.mp hm with hm|hm
   . exact h2 z.1 hm
   . exact h4 z.2 hm
end
theorem uc{P:Program}{w:World}{h:Heap}(ok:L2.HOk P w H h)(hr:HR K mg ρ s H){v:Val}{x:L2.V}{u:Value}(hv:(y8 s v).isR=true)(r:RD K mg ρ H v x)(ru:L2.RelV x u) :
 ∃as,Reads h u (y8 s v).d as∧(L2.xM (y8 s v).d=false→sysModules ∉ as):=by
 cases v with
 |ref i=>
  cases r with
  |@ref a _ e0=>
  simp only[y8]at hv ⊢
  split at hv
  . rename_i ws hw
    obtain⟨b,xs,e1,e2,q⟩:=hr.obj i _ hw
    rw[e0]at e1;cases e1
    cases (show u=Value.ref a from ru)
    obtain⟨z,its,n,rv,e⟩:=(show L2.zy P w H h a (.lst xs) from ok a _ e2)
    obtain⟨as,q,_⟩:=RDs.reads ok q (by simpa only[Val.isR] using hv) rv
    exact⟨a::as,.list e rfl rfl (by simpa using q),fun z=>by simp[Val.d,L2.xM]at z⟩
  . cases hv
 |_=>exact RD.reads ok r hv ru
theorem RDs.dC{P:Program}{w:World}{h:Heap}(ok:L2.HOk P w H h)(hr:HR K mg ρ s H):∀{vs:List Val} {xs:List L2.V} {us:List Value},RDs K mg ρ H vs xs→sM (vs.map (y8 s))=true→L2.Vals xs us→∃as,ReadsAll h us (ds (vs.map (y8 s))) as∧(L2.xY (ds (vs.map (y8 s)))=false→sysModules ∉ as)
 |_,_,_,.nil,_,r=>by cases r;exact⟨[],.nil,fun _=>by simp⟩
 |_,_,_,.cons r rs,hv,q=>by
  cases q with
  |cons q1 q2=>
   rw[List.map_cons,sM,Bool.and_eq_true]at hv
   obtain⟨as,h1,h2⟩:=uc ok hr hv.1 r q1
   obtain⟨bs,h3,h4⟩:=RDs.dC ok hr rs hv.2 q2
   rw[List.map_cons]
   refine⟨as++bs,.cons h1 h3,fun z=>?_⟩
   rw[ds,L2.xY,Bool.or_eq_false_iff]at z
   intro hm
   rcases List.mem_append.mp hm with hm|hm
   . exact h2 z.1 hm
   . exact h4 z.2 hm
theorem gh{v:Val}(h:∀vs,v≠.tup vs):yF s v=y8 s v:=by
 cases v<;>first|rfl|exact absurd rfl (h _)
theorem xG{P:Program}{w:World}{h:Heap}(ok:L2.HOk P w H h)(hr:HR K mg ρ s H){v:Val}{x:L2.V}{u:Value}(hv:(yF s v).isR=true)(r:RD K mg ρ H v x)(ru:L2.RelV x u) :
 ∃as,Reads h u (yF s v).d as∧(L2.xM (yF s v).d=false→sysModules ∉ as):=by
 cases v with
 |tup vs=>
  cases r with
  |@tup a _ xs n ha rs=>
   cases (show u=Value.ref a from ru)
   obtain⟨z,its,rv,o,e,c,n,dd⟩:=(show L2.zy P w H h a (.tup xs) from ok a _ ha)
   obtain⟨as,q,q2⟩:=RDs.dC ok hr rs (by simpa only[yF,Val.isR] using hv) rv
   exact⟨as,.tuple e c dd.1 (by simpa using q),fun z=>q2 (by simpa [yF,Val.d,L2.xM] using z)⟩
 |_=>exact(show _ from by rw[gh (fun _ h=>by cases h)]at hv ⊢;exact uc ok hr hv r ru)
mutual
theorem ye:∀{v:Val},v.isD=true→v.isR=true
 |.none,_=>rfl
 |.bool _,_=>rfl
 |.int _,_=>rfl
 |.str _,_=>rfl
 |.tup vs,h=>by rw[Val.isR];exact vD (by simpa only[Val.isD] using h)
 |.lst vs,h=>by rw[Val.isR];exact vD (by simpa only[Val.isD] using h)
 |.dct0,h=>by cases h
 |.ctup _,h=>by cases h
 |.scr _,h=>by cases h
 |.ref _,h=>by cases h
 |.fn _,h=>by cases h
 |.ty _,h=>by cases h
theorem vD:∀{vs:List Val},qV vs=true→sM vs=true
 |[],_=>rfl
 |v::vs,h=>by
  rw[qV,Bool.and_eq_true]at h
  rw[sM,ye h.1,vD h.2];rfl
end
mutual
theorem z9:∀{v:Val},v.isD=true→v.d.canLay0=true
 |.none,_=>rfl
 |.bool _,_=>rfl
 |.int _,_=>rfl
 |.str _,h=>by simpa only[Val.isD,Val.d,PyData.canLay0] using h
 |.tup vs,h=>by rw[Val.d,PyData.canLay0];exact xw (by simpa only[Val.isD] using h)
 |.lst vs,h=>by rw[Val.d,PyData.canLay0];exact xw (by simpa only[Val.isD] using h)
 |.dct0,h=>by cases h
 |.ctup _,h=>by cases h
 |.scr _,h=>by cases h
 |.ref _,h=>by cases h
 |.fn _,h=>by cases h
 |.ty _,h=>by cases h
theorem xw:∀{vs:List Val},qV vs=true→PyData.canLayAll0 (ds vs)=true
 |[],_=>rfl
 |v::vs,h=>by
  rw[qV,Bool.and_eq_true]at h
  rw[ds,PyData.canLayAll0,z9 h.1,xw h.2];rfl
end
theorem wU(hr:HR K mg ρ s H){m:Bool}{vs:List Val}{xs:List L2.V}(r:RDs K mg ρ H vs xs){Q:L2.VK}(w:y4 K mg (RD K mg) ρ H (newList m vs s) Q):∀p,H p=none→Q (.ref p) (L2.upd H p (.lst xs)):=fun p hp=>by
 cases m with
 |true=>exact w _ _ _ (Ext.own hr hp _) (hr.own hp r) (.ref (sX hr p) (by rw[L2.zo];rfl))
 |false=>exact w _ _ _ (Ext.new hr hp _) (hr.more hp _) (.lst (hr.new hp) L2.zo (r.mono (Ext.new hr hp _)))
theorem jR(hr:HR K mg ρ s H){vs:List Val}{xs:List L2.V}(r:RDs K mg ρ H vs xs){Q:L2.VK}(w:y4 K mg (RD K mg) ρ H (.ok (.tup vs) s) Q):∀p,H p=none→Q (.ref p) (L2.upd H p (.tup xs)):=fun p hp=>
 w _ _ _ (Ext.new hr hp _) (hr.more hp _) (.tup (hr.new hp) L2.zo (r.mono (Ext.new hr hp _)))
theorem Ext.same(hr:HR K mg ρ s H)(e:L2.tJ H H'):Ext ρ H ρ H':=⟨⟨[],by simp,fun a ha=>by cases ha⟩,rfl,fun a o h _=>e a o h,fun a ha=>by
 obtain⟨o,q⟩:=hr.trk ha
 rw[q,e a o q]⟩
theorem HR.same(hr:HR K mg ρ s H)(e:L2.tJ H H'):HR K mg ρ s H':=⟨hr.len,hr.nd,fun i c q=>by
 obtain⟨a,e1,r⟩:=hr.cel i c q
 obtain⟨o,e2⟩:=r.there
 exact⟨a,e1,r.mv (Ext.same hr e).mv ((e a _ e2).trans e2.symm)⟩,fun a ha=>by
 obtain⟨⟨ys,q⟩,n⟩:=hr.hid a ha
 exact⟨⟨ys,e a _ q⟩,n⟩⟩
theorem vU(hr:HR K mg ρ s H){vs:List Val}{xs:List L2.V}(r:RDs K mg ρ H vs xs){Q:L2.VK}(w:y4 K mg (RD K mg) ρ H (.ok (.tup vs) s) Q):L2.t8 H xs Q:=fun p H' e h=>by
 have hr':=hr.same e
 refine w _ _ _ (Ext.same hr e) hr' (.tup ⟨fun hm=>?_,fun hm=>?_⟩ h (r.mono (Ext.same hr e)))
 . obtain⟨i,hi,q⟩:=List.getElem_of_mem hm
   have hs:i<s.length:=by rw[←hr'.len];exact hi
   obtain⟨b,e1,e2⟩:=hr'.cel i _ (List.getElem?_eq_getElem hs)
   rw[List.getElem?_eq_getElem hi,q]at e1
   cases e1
   have:=e2.hk
   rw[h]at this
   exact absurd this (Nat.lt_irrefl 0)
 . obtain⟨⟨ys,q⟩,_⟩:=hr'.hid _ hm
   rw[h]at q;cases q
end
section
variable (K:KF)(mg:Str→Option Value)
noncomputable def rM2(g:Val→Val→Sto→Out Val):L2.R2:=fun x y H Q=>∃ρ s v w,HR K mg ρ s H∧RD K mg ρ H v x∧RD K mg ρ H w y∧y4 K mg (RD K mg) ρ H (g v w s) Q
noncomputable def rMc(g:List Val→Sto→Out Val):List L2.V→L2.Hp→L2.VK→Prop:=fun xs H Q=>∃ρ s vs,HR K mg ρ s H∧RDs K mg ρ H vs xs∧y4 K mg (RD K mg) ρ H (g vs s) Q
end
section
variable {X:L2.Cx}{k:Nat}
theorem zK{K:KF}{mg:Str→Option Value}{ρ:Own}{H:L2.Hp}{s:Sto}(hr:HR K mg ρ s H){v:Val}{x:L2.V}(r:RD K mg ρ H v x){Q:L2.VK}(w:y4 K mg (RD K mg) ρ H (.ok v s) Q):Q x H:=w _ _ _ Ext.refl hr r
theorem lS(m:Bool):L2.OpR X (binaryOp .Add) (rM2 X.K X.mg (binOp m .add)):=by
 intro pins s σ H x y v u Q I rx ry h
 obtain⟨ρ,t,a,b,hr,ra,rb,w⟩:=h
 simp only[binOp]at w
 split at w
 . cases ra;cases rb
   exact L2.Yl pins s σ H _ _ v u Q I rx ry ⟨_,_,rfl,rfl,zK hr (.int _) w⟩
 . split at w
   . rename_i hz
     cases ra;cases rb
     exact L2.lR pins s σ H _ _ v u Q I rx ry ⟨_,_,rfl,rfl,by rw[←yf];exact hz,zK hr (.str _) w⟩
   . exact w.elim
 . split at w
   . rename_i hz
     cases ra with
     |tup n1 h1 q1=>
      cases rb with
      |tup n2 h2 q2=>
       refine L2.f6 pins s σ H _ _ v u Q I rx ry ⟨_,_,_,_,rfl,rfl,h1,h2,?_,vU hr (q1.append q2) w⟩
       rw[←q1.length,←q2.length,←yf];exact hz
   . exact w.elim
 . split at w
   . rename_i ea eb
     split at w
     . rename_i hz
       obtain⟨p1,xs,rfl,h1,q1⟩:=xZ hr ra ea
       obtain⟨p2,ys,rfl,h2,q2⟩:=xZ hr rb eb
       refine L2.Yn pins s σ H _ _ v u Q I rx ry ⟨_,_,_,_,rfl,rfl,h1,h2,?_,wU hr (q1.append q2) w⟩
       rw[←q1.length,←q2.length,←yf];exact hz
     . exact w.elim
   . exact w.elim
theorem lW(m:Bool):L2.OpR X (binaryOp .Sub) (rM2 X.K X.mg (binOp m .sub)):=by
 intro pins s σ H x y v u Q I rx ry h
 obtain⟨ρ,t,a,b,hr,ra,rb,w⟩:=h
 simp only[binOp]at w
 split at w
 . cases ra;cases rb
   exact L2.Yt pins s σ H _ _ v u Q I rx ry ⟨_,_,rfl,rfl,zK hr (.int _) w⟩
 . exact w.elim
theorem lU(m:Bool):L2.OpR X (binaryOp .Mult) (rM2 X.K X.mg (binOp m .mul)):=by
 intro pins s σ H x y v u Q I rx ry h
 obtain⟨ρ,t,a,b,hr,ra,rb,w⟩:=h
 simp only[binOp]at w
 split at w
 . split at w
   . rename_i hz
     cases ra;cases rb
     exact L2.Yq pins s σ H _ _ v u Q I rx ry ⟨_,_,rfl,rfl,hz,zK hr (.int _) w⟩
   . exact w.elim
 . split at w
   . rename_i hz
     obtain⟨z1,z2,z3,z4⟩:=hz
     cases ra with
     |tup n1 h1 q1=>
      cases rb
      refine L2.bf pins s σ H _ _ v u Q I rx ry ⟨_,_,_,rfl,rfl,h1,z1,z2,?_,?_,vU hr (q1.rep _) w⟩
      . intro e;subst e;cases q1;exact z3 rfl
      . rw[←q1.length];exact z4
   . exact w.elim
 . split at w
   . rename_i ea
     split at w
     . rename_i hz
       obtain⟨z1,z2,z3⟩:=hz
       obtain⟨p1,xs,rfl,h1,q1⟩:=xZ hr ra ea
       cases rb
       refine L2.Ys pins s σ H _ _ v u Q I rx ry ⟨_,_,_,rfl,rfl,h1,by omega,by omega,?_,wU hr (q1.rep _) w⟩
       rw[←q1.length,←yf];exact z3
     . exact w.elim
   . exact w.elim
 . exact w.elim
theorem nz(m:Bool):L2.OpR X (binaryOp .FloorDiv) (rM2 X.K X.mg (binOp m .fdiv)):=by
 intro pins s σ H x y v u Q I rx ry h
 obtain⟨ρ,t,a,b,hr,ra,rb,w⟩:=h
 simp only[binOp]at w
 split at w
 . split at w
   . rename_i hz
     cases ra;cases rb
     exact L2.bb pins s σ H _ _ v u Q I rx ry ⟨_,_,rfl,rfl,hz,zK hr (.int _) w⟩
   . exact w.elim
 . exact w.elim
theorem lT(m:Bool):L2.OpR X (binaryOp .Mod) (rM2 X.K X.mg (binOp m .mod)):=by
 intro pins s σ H x y v u Q I rx ry h
 obtain⟨ρ,t,a,b,hr,ra,rb,w⟩:=h
 simp only[binOp]at w
 split at w
 . split at w
   . rename_i hz
     cases ra;cases rb
     exact L2.Yp pins s σ H _ _ v u Q I rx ry ⟨_,_,rfl,rfl,hz,zK hr (.int _) w⟩
   . exact w.elim
 . exact w.elim
theorem lV(m:Bool):L2.OpR X (binaryOp .Pow) (rM2 X.K X.mg (binOp m .pow)):=by
 intro pins s σ H x y v u Q I rx ry h
 obtain⟨ρ,t,a,b,hr,ra,rb,w⟩:=h
 simp only[binOp]at w
 split at w
 . split at w
   . rename_i hz
     cases ra;cases rb
     exact L2.Yr pins s σ H _ _ v u Q I rx ry ⟨_,_,rfl,rfl,hz,zK hr (.int _) w⟩
   . exact w.elim
 . exact w.elim
end
end M
end
section
namespace L2
open PySem PyProof PyProof.Rows
section
variable {κ:Type} [DecidableEq κ]
noncomputable def tx(kvs:List (κ × V))(k:κ):Option V:=(kvs.find? fun kv=>decide (kv.1=k)).map (·.2)
noncomputable def putK(kvs:List (κ × V))(k:κ)(v:V):List (κ × V):=
 if (kvs.any fun kv=>decide (kv.1=k))=true then kvs.map (fun kv=>if kv.1=k then (kv.1,v) else kv) else kvs++[(k,v)]
theorem u9{p:κ × V}{r:List (κ × V)}{k:κ}(e:p.1=k):tx (p::r) k=some p.2:=by simp[tx,List.find?_cons,e]
theorem u7{p:κ × V}{r:List (κ × V)}{k:κ}(e:¬p.1=k):tx (p::r) k=tx r k:=by simp[tx,List.find?_cons,e]
theorem qP(k:κ):∀kvs:List (κ × V),(kvs.any fun kv=>decide (kv.1=k))=(tx kvs k).isSome
 |[]=>rfl
 |p::r=>by
  rw[List.any_cons]
  by_cases e:p.1=k
  . simp only[u9 e,decide_eq_true e,Bool.true_or,Option.isSome_some]
  . rw[u7 e,decide_eq_false e,Bool.false_or];exact qP k r
theorem sE(kvs:List (κ × V))(k:κ)(v:V):(putK kvs k v).length≤kvs.length+1:=by
 unfold putK
 split
 . rw[List.length_map];omega
 . rw[List.length_append,List.length_cons,List.length_nil];omega
theorem su.wy{o:Option V}{u:Option Value}(r:su o u):o.isSome=u.isSome:=by
 cases o with
 |none=>cases u with
  |none=>rfl
  |some _=>exact(show False from r).elim
 |some _=>cases u with
  |none=>exact(show False from r).elim
  |some _=>rfl
theorem KV.val{kvs:List (κ × V)}{vs:List (κ × Value)}(r:KV kvs vs)(k:κ):su (tx kvs k) (valueAt vs k):=by
 unfold KV at r
 induction r with
 |nil=>exact True.intro
 |@cons p q ps qs h t ih=>
  obtain⟨h1,h2⟩:=h
  by_cases e:p.1=k
  . have e':q.1=k:=h1.symm.trans e
    have b:valueAt (q::qs) k=some q.2:=by simp[valueAt,List.find?_cons,e']
    rw[u9 e,b];exact h2
  . have e':¬q.1=k:=fun z=>e (h1.trans z)
    have b:valueAt (q::qs) k=valueAt qs k:=by simp[valueAt,List.find?_cons,e']
    rw[u7 e,b];exact ih
theorem KV.any{kvs:List (κ × V)}{vs:List (κ × Value)}(r:KV kvs vs)(k:κ):(kvs.any fun kv=>decide (kv.1=k))=vs.any fun kv=>decide (kv.1=k):=by
 unfold KV at r
 induction r with
 |nil=>rfl
 |cons h t ih=>rw[List.any_cons,List.any_cons,ih,h.1]
theorem KV.XW{kvs:List (κ × V)}{vs:List (κ × Value)}(r:KV kvs vs)(k:κ){y:V}{u:Value}(ry:RelV y u) :
 KV (kvs.map fun kv=>if kv.1=k then (kv.1,y) else kv) (vs.map fun kv=>if kv.1=k then (kv.1,u) else kv):=by
 unfold KV at r ⊢
 induction r with
 |nil=>exact .nil
 |@cons p q ps qs h t ih=>
  rw[List.map_cons,List.map_cons]
  refine .cons ?_ ih
  obtain⟨h1,h2⟩:=h
  by_cases e:p.1=k
  . rw[if_pos e,if_pos (h1.symm.trans e)];exact⟨h1,ry⟩
  . rw[if_neg e,if_neg (fun z=>e (h1.trans z))];exact⟨h1,h2⟩
theorem KV.put{kvs:List (κ × V)}{vs:List (κ × Value)}(r:KV kvs vs)(k:κ){y:V}{u:Value}(ry:RelV y u):KV (putK kvs k y) (stored vs k u):=by
 unfold putK stored
 rw[r.any k]
 by_cases e:(vs.any fun kv=>decide (kv.1=k))=true
 . rw[if_pos e,if_pos e];exact r.XW k ry
 . rw[if_neg e,if_neg e];exact Paired.snoc r ⟨rfl,ry⟩
theorem KV.length{kvs:List (κ × V)}{vs:List (κ × Value)}(r:KV kvs vs):kvs.length=vs.length:=Paired.length r
end
theorem nT{P:Program}{w:World}{k:Key}{u:Value}(r:RelV (kV k) u):(yr P w).is k u=true:=by
 cases k with
 |inl i=>obtain⟨t,e⟩:=(show ∃t,u=Value.int i t from r);subst e;exact nk P w i t
 |inr x=>obtain⟨t,e⟩:=(show ∃t,u=Value.str x t from r);subst e;exact nq P w x t
theorem pH{P:Program}{w:World}:∀{ks:List Key} {us:List Value},Vals (ks.map kV) us→ItemsAre (yr P w) ks us
 |[],_,r=>by rw[List.map_nil]at r;cases r;exact .nil
 |k::ks,_,r=>by
  rw[List.map_cons]at r
  cases r with
  |cons h t=>exact .cons (nT h) (pH t)
noncomputable abbrev KT(H:Hp):List (List Key × V)→List (List Key × Addr × Value)→Prop:=Paired fun p q=>p.1=q.1∧H q.2.1=some (.tup (p.1.map kV))∧RelV p.2 q.2.2
theorem KT.val{H:Hp}{kvs:List (List Key × V)}{xs:List (List Key × Addr × Value)}(r:KT H kvs xs)(k:List Key):su (tx kvs k) ((atKey xs k).map (·.2)):=by
 induction r with
 |nil=>exact True.intro
 |@cons p q ps qs h t ih=>
  obtain⟨h1,_,h2⟩:=h
  by_cases e:p.1=k
  . have e':q.1=k:=h1.symm.trans e
    have b:atKey (q::qs) k=some q.2:=by simp[atKey,List.find?_cons,e']
    rw[u9 e,b];exact h2
  . have e':¬q.1=k:=fun z=>e (h1.trans z)
    have b:atKey (q::qs) k=atKey qs k:=by simp[atKey,List.find?_cons,e']
    rw[u7 e,b];exact ih
theorem KT.XW{H:Hp}{kvs:List (List Key × V)}{xs:List (List Key × Addr × Value)}(r:KT H kvs xs)(k:List Key){y:V}{u:Value}(ry:RelV y u) :
 KT H (kvs.map fun kv=>if kv.1=k then (kv.1,y) else kv) (xs.map (putAt k u)):=by
 induction r with
 |nil=>exact .nil
 |@cons p q ps qs h t ih=>
  rw[List.map_cons,List.map_cons]
  refine .cons ?_ ih
  obtain⟨h1,h2,h3⟩:=h
  unfold putAt
  by_cases e:p.1=k
  . rw[if_pos e,if_pos (h1.symm.trans e)];exact⟨h1,h2,ry⟩
  . rw[if_neg e,if_neg (fun z=>e (h1.trans z))];exact⟨h1,h2,h3⟩
theorem KT.put{H:Hp}{kvs:List (List Key × V)}{xs:List (List Key × Addr × Value)}(r:KT H kvs xs)(k:List Key){b:Addr}{y:V}{u:Value}(hb:H b=some (.tup (k.map kV)))(ry:RelV y u) :
 KT H (putK kvs k y) (storedH xs k b u):=by
 have e:(kvs.any fun kv=>decide (kv.1=k))=(atKey xs k).isSome:=by
  rw[qP,(r.val k).wy,Option.isSome_map]
 unfold putK storedH
 rw[e]
 by_cases q:(atKey xs k).isSome=true
 . rw[if_pos q,if_pos q];exact r.XW k ry
 . rw[if_neg q,if_neg q];exact Paired.snoc r ⟨rfl,hb,ry⟩
theorem KT.keeps{H H':Hp}{kvs:List (List Key × V)}{xs:List (List Key × Addr × Value)}(r:KT H kvs xs)(ht:∀b ys,H b=some (.tup ys)→H' b=some (.tup ys)):KT H' kvs xs:=
 Paired.Yh r fun _ _ z=>⟨z.1,ht _ _ z.2.1,z.2.2⟩
section
variable {P:Program}{w:World}{H:Hp}{h:Heap}{a:Addr}
theorem ZN{u:HO}(ok:HOk P w H h)(e:Rd H a u):zy P w H h a u:=e.ok ok
theorem nK{kvs:List (Key × V)}(ok:HOk P w H h)(e:Rd H a (.dK kvs)):kvs.length≤sizeLine∧(a == sysModules)=false∧∃vs,KV kvs vs∧h.DictOf (yr P w) a vs:=
 show zy P w H h a (.dK kvs) from ZN ok e
theorem WG{kvs:List (Key × V)}(ok:HOk P w H h)(e:H a=some (.dK kvs)):kvs.length≤sizeLine∧(a == sysModules)=false∧∃vs,KV kvs vs∧h.DictOf (yr P w) a vs:=nK ok (.inl e)
theorem rU{ks:List Key}(ok:HOk P w H h)(e:H a=some (.tup (ks.map kV))):(tupleKind (yr P w)).is h ks a:=by
 obtain⟨_,its,r,o,h1,h2,n,h3,_⟩:=(show zy P w H h a (.tup (ks.map kV)) from ok a _ e)
 exact⟨o,its.toArray,n,h1,h2,h3,by simpa using pH r⟩
theorem nM{kvs:List (List Key × V)}(ok:HOk P w H h)(e:Rd H a (.dT kvs)):kvs.length≤sizeLine∧(a == sysModules)=false ∧
 ∃xs,KT H kvs xs∧h.DictOfH (tupleKind (yr P w)) a xs:=by
 obtain⟨z,y,xs,r,o,es,ep,h1,h2,h3,h4,h5⟩:=(show zy P w H h a (.dT kvs) from ZN ok e)
 refine⟨z,y,xs,r,o,es,ep,h1,h2,h3,h4,fun x hx=>?_,h5⟩
 have all:∀{l:List (List Key × V)} {m:List (List Key × Addr × Value)},KT H l m→∀x∈m,(tupleKind (yr P w)).is h x.1 x.2.1:=by
  intro l m q
  induction q with
  |nil=>intro x hx;exact nomatch hx
  |@cons p q ps qs hq t ih=>
   intro x hx
   rcases List.mem_cons.mp hx with e|hx
   . subst e
     exact rU ok (by rw[←hq.1];exact hq.2.1)
   . exact ih x hx
 exact all r x hx
theorem WH{kvs:List (List Key × V)}(ok:HOk P w H h)(e:H a=some (.dT kvs)):kvs.length≤sizeLine∧(a == sysModules)=false ∧
 ∃xs,KT H kvs xs∧h.DictOfH (tupleKind (yr P w)) a xs:=nM ok (.inl e)
end
def sH(H:Hp)(a:Addr)(y:V)(r:Option V):Prop:=
 (∃kvs k,Rd H a (.dK kvs)∧y=kV k∧r=tx kvs k)∨∃kvs k b,Rd H a (.dT kvs)∧y=.ref b∧H b=some (.tup (k.map kV))∧r=tx kvs k
def p6(H:Hp)(a:Addr)(y v:V)(H':Hp):Prop:=
 (∃kvs k,H a=some (.dK kvs)∧y=kV k∧kvs.length<sizeLine∧H'=upd H a (.dK (putK kvs k v))) ∨
 ∃kvs k b,H a=some (.dT kvs)∧y=.ref b∧H b=some (.tup (k.map kV))∧kvs.length<sizeLine∧H'=upd H a (.dT (putK kvs k v))
theorem sH.k{H:Hp}{a:Addr}{kvs:List (Key × V)}{k:Key}(e:H a=some (.dK kvs)):sH H a (kV k) (tx kvs k):=.inl ⟨kvs,k,.inl e,rfl,rfl⟩
theorem sH.t{H:Hp}{a b:Addr}{kvs:List (List Key × V)}{k:List Key}(e:H a=some (.dT kvs))(eb:H b=some (.tup (k.map kV))):sH H a (.ref b) (tx kvs k):=.inr ⟨kvs,k,b,.inl e,rfl,eb,rfl⟩
theorem p6.k{H:Hp}{a:Addr}{kvs:List (Key × V)}{k:Key}{v:V}(e:H a=some (.dK kvs))(hl:kvs.length<sizeLine):p6 H a (kV k) v (upd H a (.dK (putK kvs k v))):=.inl ⟨kvs,k,e,rfl,hl,rfl⟩
theorem p6.t{H:Hp}{a b:Addr}{kvs:List (List Key × V)}{k:List Key}{v:V}(e:H a=some (.dT kvs))(eb:H b=some (.tup (k.map kV)))(hl:kvs.length<sizeLine) :
 p6 H a (.ref b) v (upd H a (.dT (putK kvs k v))):=.inr ⟨kvs,k,b,e,rfl,eb,hl,rfl⟩
section
variable {X:Cx}{pins:List (Addr × Obj)}{σ:St}{H:Hp}{s:Shared}{a:Addr}{y v:V}{u r:Value}{o:Option V}{A:Around}{E:Value→Shared→Prop}
theorem Inv.big(I:Inv X pins σ H s):sysModules<s.heap.objs.size:=by
 have h:mainGlobals<s.heap.objs.size:=(I.mod.glob.keeps I.bk).lt
 exact Nat.lt_trans (by decide) h
theorem j6{Q:Value→Shared→Prop}(hu:A.units+1<cLine)(I:Inv X pins σ H s)(g:sH H a y (some v))(ry:RelV y u)(h:∀w' s',Inv X pins σ H s'→RelV v w'→Q w' s') :
 wpAny (model X.prog X.w) A (getItem (.ref a) u) Q E s:=by
 rcases g with⟨kvs,k,e,ey,l⟩|⟨kvs,k,b,e,ey,eb,l⟩
 . subst ey
   obtain⟨z,hd,vs,rel,dd⟩:=nK I.hok e
   obtain⟨w',hw,rw'⟩:=su.some_of (v:=v) (o:=valueAt vs k) (by rw[l];exact rel.val k)
   exact wpAny_getItem_of (nT ry) dd.mapOf hw (h w' _ (I.tok _) rw')
 . subst ey
   cases (show u=Value.ref b from ry)
   obtain⟨z,hd,xs,rel,dd⟩:=nM I.hok e
   obtain⟨w',hw,rw'⟩:=su.some_of (v:=v) (o:=(atKey xs k).map (·.2)) (by rw[l];exact rel.val k)
   obtain⟨p,hp,hp2⟩:=Option.map_eq_some_iff.mp hw
   refine wpAny_getItem_heap (tupleKind_room_in1 hu) (rU I.hok eb) dd hp ?_
   rw[hp2]
   exact h w' _ (I.tok _) rw'
theorem Vz{Q:Value→Shared→Prop}(hu:A.units+1<cLine)(I:Inv X pins σ H s)(g:sH H a y o)(ry:RelV y u)(h:∀s',Inv X pins σ H s'→Q (.bool o.isSome) s') :
 wpAny (model X.prog X.w) A (compareOp .In u (.ref a)) Q E s:=by
 rcases g with⟨kvs,k,e,ey,l⟩|⟨kvs,k,b,e,ey,eb,l⟩
 . subst ey
   obtain⟨z,hd,vs,rel,dd⟩:=nK I.hok e
   refine wpAny_in_of (nT ry) hd dd.mapOf ?_
   rw[←(rel.val k).wy,←l]
   exact h _ (I.tok _)
 . subst ey
   cases (show u=Value.ref b from ry)
   obtain⟨z,hd,xs,rel,dd⟩:=nM I.hok e
   refine wpAny_in_heap (tupleKind_room_in1 hu) (rU I.hok eb) hd dd ?_
   have q:=(rel.val k).wy
   rw[Option.isSome_map]at q
   rw[←q,←l]
   exact h _ (I.tok _)
theorem cU{Q:Value→Shared→Prop}(hu:A.units+1<cLine)(I:Inv X pins σ H s)(g:sH H a y o)(ry:RelV y u)(h:∀s',Inv X pins σ H s'→Q (.bool (!o.isSome)) s') :
 wpAny (model X.prog X.w) A (compareOp .NotIn u (.ref a)) Q E s:=by
 rcases g with⟨kvs,k,e,ey,l⟩|⟨kvs,k,b,e,ey,eb,l⟩
 . subst ey
   obtain⟨z,hd,vs,rel,dd⟩:=nK I.hok e
   refine wpAny_notIn_of (nT ry) hd dd.mapOf ?_
   rw[←(rel.val k).wy,←l]
   exact h _ (I.tok _)
 . subst ey
   cases (show u=Value.ref b from ry)
   obtain⟨z,hd,xs,rel,dd⟩:=nM I.hok e
   refine wpAny_notIn_heap (tupleKind_room_in1 hu) (rU I.hok eb) hd dd ?_
   have q:=(rel.val k).wy
   rw[Option.isSome_map]at q
   rw[←q,←l]
   exact h _ (I.tok _)
theorem kf{h':Heap}{t':Nat}{ob:HO}(I:Inv X pins σ H s)(mu:Mut (H a))(hs:Heap.SameBut a s.heap h')(he:∃q,h'.get? a=some q)(new:zy X.prog X.w (upd H a ob) h' a ob) :
 Inv X pins σ (upd H a ob) {s with heap:=h',toks:=t'}:=
 I.write (x:=a) (e:=a) mu (.inl rfl) (fun b q hb z=>(hs.2 b hb).trans z) he new
theorem Zl{P:Program}{w:World}{H':Hp}{h':Heap}{kvs:List (Key × V)}{vs:List (Key × Value)}(z:kvs.length≤sizeLine)(hd:(a == sysModules)=false)(rel:KV kvs vs)(dd:h'.DictOf (yr P w) a vs) :
 zy P w H' h' a (.dK kvs):=⟨z,hd,vs,rel,dd⟩
theorem j7{H':Hp}{Q:Unit→Shared→Prop}(hu:A.units+1<cLine)(I:Inv X pins σ H s)(g:p6 H a y v H')(ry:RelV y u)(rv:RelV v r)(h:∀s',Inv X pins σ H' s'→Q () s') :
 wpAny (model X.prog X.w) A (setItem (.ref a) u r) Q E s:=by
 rcases g with⟨kvs,k,e,ey,l,eH⟩|⟨kvs,k,b,e,ey,eb,l,eH⟩
 . subst ey eH
   obtain⟨z,hd,vs,rel,dd⟩:=WG I.hok e
   have hz:vs.length≤sizeLine:=by rw[←rel.length];exact z
   have hl:(putK kvs k v).length≤sizeLine:=by have:=sE kvs k v;omega
   refine wpAny_setItem_pairs (hsz:=hz) (nT ry) dd fun h' dd' hs=>h _ ?_
   have he:∃q,h'.get? a=some q:=let ⟨q,_,_,hq,_⟩:=dd';⟨q,hq⟩
   exact kf I (by rw[e];exact True.intro) hs he (Zl hl hd (rel.put k rv) dd')
 . subst ey eH
   cases (show u=Value.ref b from ry)
   obtain⟨z,hd,xs,rel,dd⟩:=WH I.hok e
   have hz:xs.length≤sizeLine:=by rw[←Paired.length rel];exact z
   have hl:(putK kvs k v).length≤sizeLine:=by have:=sE kvs k v;omega
   refine wpAny_setItem_heap (hsz:=hz) (tupleKind_room_in1 hu) (rU I.hok eb) dd fun h' dd' hs=>h _ ?_
   obtain⟨q,es,ep,hq,h2,h3,h4,_,h5⟩:=dd'
   refine kf I (by rw[e];exact True.intro) hs ⟨q,hq⟩ ⟨hl,hd,_,(rel.put k eb rv).keeps fun c ys ec=>?_,q,es,ep,hq,h2,h3,h4,h5⟩
   rw[zQ (z8 ec e (fun z=>nomatch z))]
   exact ec
end
def X3(i:Expr):Prop:=∀ov iv,subscripted i false ov iv=operate [ov,iv] (getItem ov iv)
theorem aZ{prog:Program}{w:World}{A:Around}{E:Value→Shared→Prop}{s:Shared}{env:Env}{value slice:Expr}{pos:Pos}{T id:String}{Q:Value→Shared→Prop}
 (hl:typeLookup (.type T) "__getitem__"=pure (some (.builtin id))) (hs:X3 slice)
 (h:wpAny (model prog w) A (eval value env) (fun o s₁=>wpAny (model prog w) A (eval slice env) (fun i s₂=>s₂.TypeIs o T∧wpAny (model prog w) A (getItem o i) Q E s₂) E s₁) E s) :
 wpAny (model prog w) A (eval (.Subscript value slice pos) env) Q E s:=by
 refine Subscript_ (wpAny_mono h (fun o s₁ h₁=>wpAny_mono h₁ (fun i s₂ h₂=>?_) fun _ _ x=>x) fun _ _ x=>x)
 obtain⟨hT,h₂⟩:=h₂
 unfold subscriptTail
 refine wpAny_bind ?_
 rw[getitemInPython_of_ne hT.not_modules]
 refine wpAny_bind (wpAny_specialOf hT hl ?_)
 have fin:wpAny (model prog w) A (subscripted slice false o i) (fun r s₃=>wpAny (model prog w) A (letTemporaryGo value o r >>= fun _=>pure r) Q E s₃) E s₂:=by
  rw[hs o i]
  exact wpAny_operating (wpAny_mono h₂ (fun r s₃ h₃=>wpAny_bind (wpAny_letTemporaryGo (wpAny_pure h₃))) fun _ _ x=>x)
 first
  |exact wpAny_pure (wpAny_bind fin)
  |exact wpAny_bind (wpAny_pure (wpAny_bind fin))
  |exact wpAny_bind fin
theorem nJ{X:Cx}{pins:List (Addr × Obj)}{σ:St}{H:Hp}{s:Shared}{a:Addr}{y:V}{o:Option V}(I:Inv X pins σ H s)(g:sH H a y o):s.TypeIs (.ref a) "dict":=by
 rcases g with⟨kvs,k,e,_,_⟩|⟨kvs,k,b,e,_,_,_⟩
 . obtain⟨_,_,vs,_,dd⟩:=nK I.hok e
   exact dd.typeIs
 . obtain⟨_,_,xs,_,dd⟩:=nM I.hok e
   exact dd.typeIs
noncomputable def Ve(td ty:TE):TE:=fun σ H Q=>td σ H fun x H1=>ty σ H1 fun y H2=>∃a v,x=.ref a∧sH H2 a y (some v)∧Q v H2
noncomputable def VX(td ty tv:TE):TS:=fun D σ H=>tv σ H fun v H1=>td σ H1 fun x H2=>ty σ H2 fun y H3=>∃a H4,x=.ref a∧p6 H3 a y v H4∧D.nx σ H4
section
variable {X:Cx}{o i e value:Expr}{pos pos' tpos:Pos}{td ty tv:TE}
theorem b0(hu:X.A.units+1<cLine)(ho:PE X o td)(hi:PE X i ty)(hs:X3 i):PE X (.Subscript o i pos) (Ve td ty):=by
 intro pins s σ H Q I h
 refine aZ PySem.F.slot_dict_getitem.lookup hs (thn (ho pins s σ H _ I h) fun u s1 ⟨x,H1,I1,rx,q1⟩=>thn (hi pins s1 σ H1 _ I1 q1) fun iv s2 ⟨y,H2,I2,ry,a,v,ex,g,q2⟩=>?_)
 subst ex
 obtain rfl:u=Value.ref a:=rx
 exact⟨nJ I2 g,j6 hu I2 g ry fun w' s3 I3 rw'=>⟨v,H2,I3,rw',q2⟩⟩
theorem aD(hu:X.A.units+1<cLine)(ho:PE X o td)(hi:PE X i ty)(hv:PE X value tv)(hs:swapsWith value (some (.Subscript o i pos')) pos.line X.env=pure false) :
 PS X (.Assign [.Subscript o i pos'] value pos) (VX td ty tv):=by
 intro pins s σ H D I h
 refine wpAny_Assign_Subscript (thn (hv pins s σ H _ I h) fun r s1 ⟨v,H1,I1,rv,q1⟩=>thn (ho pins s1 σ H1 _ I1 q1) fun u s2 ⟨x,H2,I2,rx,q2⟩=>thn (hi pins s2 σ H2 _ I2 q2) fun iv s3 ⟨y,H3,I3,ry,a,H4,ex,g,q3⟩=>?_) hs
 subst ex
 obtain rfl:u=Value.ref a:=rx
 exact j7 hu I3 g ry rv fun s4 I4=>⟨σ,H4,I4,q3⟩
end
theorem gi{P:Program}{w:World}{H:Hp}(h:Heap)(hb:sysModules<h.objs.size):zy P w H (h.push {cls:=.type "dict",data:=.dict #[]}) h.objs.size (.dK []):=
 ⟨Nat.zero_le _,beq_eq_false_iff_ne.mpr (Ne.symm (Nat.ne_of_lt hb)),[],.nil,Heap.DictOf.new h⟩
theorem gj{P:Program}{w:World}{H:Hp}(h:Heap)(hb:sysModules<h.objs.size):zy P w H (h.push {cls:=.type "dict",data:=.dict #[]}) h.objs.size (.dT []):=
 ⟨Nat.zero_le _,beq_eq_false_iff_ne.mpr (Ne.symm (Nat.ne_of_lt hb)),[],.nil,_,#[],0,Heap.get?_push_size _ rfl,⟨rfl,rfl,rfl⟩,rfl,rfl,List.nodup_nil⟩
noncomputable def Xf:TE:=fun _ H Q=>∀p,H p=none→Q (.ref p) (upd H p (.dK []))
noncomputable def Xg:TE:=fun _ H Q=>∀p,H p=none→Q (.ref p) (upd H p (.dT []))
section
variable {X:Cx}{pos:Pos}
theorem eM:PE X (.Dict [] [] pos) Xf:=fun pins s σ H Q I h=>
 wpAny_Dict_empty ⟨.ref s.heap.objs.size,_,I.laid (a:=s.heap.objs.size) (o:=.dK []) (t':=s.toks) (fun _ _ q=>Heap.get?_push_of_some _ q) (Nat.le_refl _) (gi s.heap I.big),rfl,h _ (I.hok.fresh (Nat.le_refl _))⟩
theorem eN:PE X (.Dict [] [] pos) Xg:=fun pins s σ H Q I h=>
 wpAny_Dict_empty ⟨.ref s.heap.objs.size,_,I.laid (a:=s.heap.objs.size) (o:=.dT []) (t':=s.toks) (fun _ _ q=>Heap.get?_push_of_some _ q) (Nat.le_refl _) (gj s.heap I.big),rfl,h _ (I.hok.fresh (Nat.le_refl _))⟩
end
end L2
end
section
namespace M
open PySem
section
variable {K:KF}{mg:Str→Option Value}{ρ:Own}{H:L2.Hp}{s:Sto}
noncomputable def RO(K:KF)(mg:Str→Option Value)(ρ:Own)(H:L2.Hp):Option Val→Option L2.V→Prop
 |none,none=>True
 |some v,some x=>RD K mg ρ H v x
 |_,_=>False
theorem RO.isSome{o:Option Val}{o':Option L2.V}(h:RO K mg ρ H o o'):o'.isSome=o.isSome:=by
 cases o with
 |none=>cases o' with|none=>rfl|some _=>exact h.elim
 |some v=>cases o' with|none=>exact h.elim|some _=>rfl
theorem ud{κ κ':Type} [DecidableEq κ] [DecidableEq κ'] {f:κ→κ'}(inj:∀a b,f a=f b→a=b)(k:κ):∀{kvs:List (κ × Val)} {kxs:List (κ' × L2.V)},kxs.map (·.1)=kvs.map (fun p=>f p.1)→RDs K mg ρ H (kvs.map (·.2)) (kxs.map (·.2))→RO K mg ρ H (m9 kvs k) (L2.tx kxs (f k))
 |[],[],_,_=>trivial
 |[],_::_,e,_=>by cases e
 |_::_,[],e,_=>by cases e
 |p::kvs,q::kxs,e,r=>by
  rw[List.map_cons,List.map_cons]at e r
  injection e with e1 e2
  cases r with
  |cons r1 r2=>
   show RO K mg ρ H (if p.1=k then some p.2 else m9 kvs k) _
   by_cases h:p.1=k
   . rw[if_pos h,L2.u9 (by rw[e1,h])];exact r1
   . rw[if_neg h,L2.u7 (fun z=>h (inj _ _ (e1.symm.trans z)))]
     exact ud inj k e2 r2
theorem mN{κ κ':Type} [DecidableEq κ] [DecidableEq κ'] {f:κ→κ'}(inj:∀a b,f a=f b→a=b)(k:κ){v:Val}{x:L2.V}(rv:RD K mg ρ H v x):∀{kvs:List (κ × Val)} {kxs:List (κ' × L2.V)},kxs.map (·.1)=kvs.map (fun p=>f p.1)→RDs K mg ρ H (kvs.map (·.2)) (kxs.map (·.2)) →
 (kxs.map fun kv=>if kv.1=f k then (kv.1,x) else kv).map (·.1)=(kvs.map fun p=>if p.1=k then (p.1,v) else p).map (fun p=>f p.1)∧RDs K mg ρ H ((kvs.map fun p=>if p.1=k then (p.1,v) else p).map (·.2)) ((kxs.map fun kv=>if kv.1=f k then (kv.1,x) else kv).map (·.2))
 |[],[],_,_=>⟨rfl,.nil⟩
 |[],_::_,e,_=>by cases e
 |_::_,[],e,_=>by cases e
 |p::kvs,q::kxs,e,r=>by
  rw[List.map_cons,List.map_cons]at e r
  injection e with e1 e2
  cases r with
  |cons r1 r2=>
   obtain⟨i1,i2⟩:=mN inj k rv e2 r2
   simp only[List.map_cons]
   by_cases h:p.1=k
   . have h':q.1=f k:=by rw[e1,h]
     rw[if_pos h,if_pos h']
     exact⟨by rw[i1,e1],.cons rv i2⟩
   . have h':¬q.1=f k:=fun z=>h (inj _ _ (e1.symm.trans z))
     rw[if_neg h,if_neg h']
     exact⟨by rw[i1,e1],.cons r1 i2⟩
theorem nL{κ κ':Type} [DecidableEq κ] [DecidableEq κ'] {f:κ→κ'}(inj:∀a b,f a=f b→a=b)(k:κ){v:Val}{x:L2.V}(rv:RD K mg ρ H v x){kvs:List (κ × Val)}{kxs:List (κ' × L2.V)}(e:kxs.map (·.1)=kvs.map (fun p=>f p.1))(r:RDs K mg ρ H (kvs.map (·.2)) (kxs.map (·.2))) :
 (L2.putK kxs (f k) x).map (·.1)=(gc kvs k v).map (fun p=>f p.1)∧RDs K mg ρ H ((gc kvs k v).map (·.2)) ((L2.putK kxs (f k) x).map (·.2)):=by
 unfold L2.putK gc
 rw[L2.qP,(ud inj k e r).isSome]
 by_cases h:(m9 kvs k).isSome=true
 . rw[if_pos h,if_pos h];exact mN inj k rv e r
 . rw[if_neg h,if_neg h]
   refine⟨by rw[List.map_append,List.map_append,e];rfl,?_⟩
   rw[List.map_append,List.map_append]
   exact r.append (.cons rv .nil)
theorem jD(a b:Str)(h:(Sum.inr a:L2.Key)=Sum.inr b):a=b:=by injection h
theorem rQ:∀a b:List Int,a.map (Sum.inl:Int→L2.Key)=b.map Sum.inl→a=b
 |[],[],_=>rfl
 |[],_::_,h=>by cases h
 |_::_,[],h=>by cases h
 |x::xs,y::ys,h=>by
  rw[List.map_cons,List.map_cons]at h
  injection h with h1 h2
  injection h1 with h1
  rw[h1,rQ xs ys h2]
theorem lE:∀{vs:List Val} {ns:List Int} {xs:List L2.V},intsOf vs=some ns→RDs K mg ρ H vs xs→xs=(ns.map Sum.inl).map L2.kV
 |[],_,_,h,.nil=>by cases h;rfl
 |v::vs,ns,_,h,.cons r rs=>by
  cases v with
  |int i=>
   simp only[intsOf,Option.map_eq_some_iff]at h
   obtain⟨ms,h1,rfl⟩:=h
   cases r
   rw[lE h1 rs];rfl
  |_=>cases h
theorem gf(hr:HR K mg ρ s H){d:Val}{xd:L2.V}{j:Nat}{c:Cel}(rd:RD K mg ρ H d xd)(e:kg s d=some (j,c)):∃a,xd=.ref a∧ρ.o[j]?=some a∧s[j]?=some c∧CR K mg ρ H a c:=by
 cases rd with
 |@dref a i h _=>
  simp only[kg,Option.map_eq_some_iff]at e
  obtain⟨c',h1,h2⟩:=e
  cases h2
  obtain⟨b,e1,e2⟩:=hr.cel _ _ h1
  rw[h]at e1;cases e1
  exact⟨_,rfl,h,h1,e2⟩
 |_=>cases e
theorem getD_at(hr:HR K mg ρ s H){d y:Val}{xd xy:L2.V}{o:Option Val}(rd:RD K mg ρ H d xd)(ry:RD K mg ρ H y xy)(e:getD d y s=some o):∃a o',xd=.ref a∧L2.sH H a xy o'∧RO K mg ρ H o o':=by
 unfold getD at e
 obtain⟨⟨j,c⟩,e1,e2⟩:=Option.bind_eq_some_iff.mp e
 obtain⟨a,rfl,_,_,cr⟩:=gf hr rd e1
 cases c with
 |lst vs=>cases e2
 |dS kvs=>
  cases ry with
  |str k=>
   cases e2
   obtain⟨kxs,h1,h2,h3⟩:=cr
   exact⟨a,_,rfl,L2.sH.k (k:=Sum.inr k) h1,ud jD k h2 h3⟩
  |_=>cases e2
 |dT kvs=>
  cases ry with
  |tup n hb r=>
   obtain⟨ns,h4,h5⟩:=Option.map_eq_some_iff.mp e2
   subst h5
   rw[lE h4 r]at hb
   obtain⟨kxs,h1,h2,h3⟩:=cr
   exact⟨a,_,rfl,L2.sH.t h1 hb,ud rQ ns h2 h3⟩
  |_=>cases e2
theorem aI(hr:HR K mg ρ s H){d y v:Val}{xd xy xv:L2.V}{s':Sto}(rd:RD K mg ρ H d xd)(ry:RD K mg ρ H y xy)(rv:RD K mg ρ H v xv)(e:putD d y v s=some s'):∃a H',xd=.ref a∧L2.p6 H a xy xv H'∧Ext ρ H ρ H'∧HR K mg ρ s' H':=by
 unfold putD at e
 obtain⟨⟨j,c⟩,e1,e2⟩:=Option.bind_eq_some_iff.mp e
 obtain⟨c',e3,e4⟩:=Option.map_eq_some_iff.mp e2
 subst e4
 obtain⟨a,rfl,ho,hs,cr⟩:=gf hr rd e1
 cases c with
 |lst vs=>cases e3
 |dS kvs=>
  cases ry with
  |str k=>
   simp only[gV]at e3
   split at e3
   . rename_i hl
     cases e3
     obtain⟨kxs,h1,h2,h3⟩:=cr
     have hz:kxs.length<sizeLine:=by
      have:=congrArg List.length h2
      rw[List.length_map,List.length_map]at this
      rw[this,←yf];exact hl
     obtain⟨q1,q2⟩:=nL (H:=H) jD k rv h2 h3
     have X:Ext ρ H ρ (L2.upd H a (.dK (L2.putK kxs (Sum.inr k) xv))):=Ext.vk hr ho (by rw[h1];rfl)
     exact⟨a,_,rfl,L2.p6.k (k:=Sum.inr k) h1 hz,X,hr.vk ho (by rw[h1];rfl) ⟨_,L2.zo,q1,q2.mono X⟩⟩
   . cases e3
  |_=>cases e3
 |dT kvs=>
  cases ry with
  |tup n hb r=>
   obtain⟨ns,h4,h5⟩:=Option.bind_eq_some_iff.mp e3
   split at h5
   . rename_i hl
     cases h5
     rw[lE h4 r]at hb
     obtain⟨kxs,h1,h2,h3⟩:=cr
     have hz:kxs.length<sizeLine:=by
      have:=congrArg List.length h2
      rw[List.length_map,List.length_map]at this
      rw[this,←yf];exact hl
     obtain⟨q1,q2⟩:=nL (H:=H) rQ ns rv h2 h3
     have X:Ext ρ H ρ (L2.upd H a (.dT (L2.putK kxs (ns.map Sum.inl) xv))):=Ext.vk hr ho (by rw[h1];rfl)
     exact⟨a,_,rfl,L2.p6.t h1 hb hz,X,hr.vk ho (by rw[h1];rfl) ⟨_,L2.zo,q1,q2.mono X⟩⟩
   . cases h5
  |_=>cases e3
end
end M
end
section
namespace M
open PySem
section
variable {K:KF}{mg:Str→Option Value}{ρ ρ':Own}{H H':L2.Hp}{s s':Sto}
theorem RD.flat{v:Val}{x:L2.V}(r:RD K mg ρ H v x)(h:flat v=true):L2.v5 x=true:=by
 cases r<;>first|rfl|cases h
theorem RD.eqF{v w:Val}{x y:L2.V}(r:RD K mg ρ H v x)(q:RD K mg ρ H w y)(h:M.flat v=true)(h':M.flat w=true):L2.eqV x y=M.eqF v w:=by
 cases r<;>first|(cases h;done)|(cases q<;>first|rfl|(cases h';done))
theorem RDs.flat:∀{vs:List Val} {xs:List L2.V},RDs K mg ρ H vs xs→vs.all flat=true→xs.all L2.v5=true
 |_,_,.nil,_=>rfl
 |_,_,.cons r rs,h=>by
  rw[List.all_cons,Bool.and_eq_true]at h
  rw[List.all_cons,r.flat h.1,rs.flat h.2];rfl
theorem RDs.any{w:Val}{y:L2.V}(q:RD K mg ρ H w y)(hw:M.flat w=true):∀{vs:List Val} {xs:List L2.V},RDs K mg ρ H vs xs→vs.all M.flat=true→(xs.any fun z=>L2.eqV z y)=vs.any fun z=>M.eqF z w
 |_,_,.nil,_=>rfl
 |_,_,.cons r rs,h=>by
  rw[List.all_cons,Bool.and_eq_true]at h
  rw[List.any_cons,List.any_cons,r.eqF q h.1 hw,RDs.any q hw rs h.2]
theorem RDs.bools:∀{vs:List Val} {xs:List L2.V} {bs:List Bool},RDs K mg ρ H vs xs→boolsOf vs=some bs→xs=bs.map L2.V.bl
 |_,_,_,.nil,h=>by cases h;rfl
 |_,_,_,.cons r rs,h=>by
  cases r with
  |bool b=>
   simp only[boolsOf,Option.map_eq_some_iff]at h
   obtain⟨bs',h1,h2⟩:=h
   subst h2
   rw[rs.bools h1];rfl
  |_=>cases h
theorem RDs.pF:∀{vs:List Val} {xs:List L2.V} {ns:List Int},RDs K mg ρ H vs xs→intsOf vs=some ns→xs=ns.map L2.V.int
 |_,_,_,.nil,h=>by cases h;rfl
 |_,_,_,.cons r rs,h=>by
  cases r with
  |int b=>
   simp only[intsOf,Option.map_eq_some_iff]at h
   obtain⟨bs',h1,h2⟩:=h
   subst h2
   rw[rs.pF h1];rfl
  |_=>cases h
theorem cI{vs:List Val}{xs:List L2.V}{i:Int}{v:Val}(r:RDs K mg ρ H vs xs)(h:L2.atI vs i=some v):∃x,L2.atI xs i=some x∧RD K mg ρ H v x:=by
 unfold L2.atI at h ⊢
 rw[←r.length]
 obtain⟨j,h1,h2⟩:=Option.bind_eq_some_iff.mp h
 obtain⟨x,h3,h4⟩:=r.get h2
 exact⟨x,by rw[h1];exact h3,h4⟩
theorem dn(hr:HR K mg ρ s H){v:Val}{x:L2.V}{b:Bool}(r:RD K mg ρ H v x)(h:truth s v=some b):L2.cG K x H b:=by
 have hz:∀{vs:List Val} {xs:List L2.V},RDs K mg ρ H vs xs→vs.isEmpty=xs.isEmpty:=fun r=>by cases r<;>rfl
 cases r with
 |none=>cases h;rfl
 |bool b=>cases h;rfl
 |int i=>cases h;rfl
 |str x=>
  simp only[truth]at h
  split at h
  . cases h
    rename_i q
    exact⟨by rw[←yf];exact q,rfl⟩
  . cases h
 |tup n e q=>cases h;exact .inr (.inl ⟨_,.of e,by rw[hz q]⟩)
 |lst n e q=>cases h;exact .inl ⟨_,.of e,by rw[hz q]⟩
 |dct0 n e=>cases h;exact .inr (.inr ⟨_,e,rfl⟩)
 |ctup _=>cases h
 |scr _=>cases h
 |@ref a i e _=>
  simp only[truth]at h
  split at h
  . rename_i ws hw
    cases h
    obtain⟨c,xs,e1,e2,q⟩:=hr.obj i _ hw
    rw[e]at e1;cases e1
    exact .inl ⟨_,.of e2,by rw[hz q]⟩
  . cases h
 |fn _=>cases h
 |ty _=>cases h
 |dref _ _=>cases h
theorem Vp(hr:HR K mg ρ s H){v:Val}{x:L2.V}{a:L2.Kd}(r:RD K mg ρ H v x)(h:kindOf v=some a):(L2.uS K H x (.type a.nm)):=by
 cases r with
 |none=>cases h;exact .non
 |bool b=>cases h;exact .bl b
 |int i=>cases h;exact .int i
 |str x=>cases h;exact .str x
 |tup n e q=>cases h;exact .tup e
 |lst n e q=>cases h;exact .lst e
 |dct0 n e=>cases h;exact .dK e
 |ref e k=>
  cases h
  obtain⟨xs,q⟩:=Zt k
  exact .lst q
 |_=>cases h
theorem Wj{n:String}{c:L2.Kd}(h:tP n=some c):n=c.nm∧c≠.non:=by
 unfold tP at h
 split at h<;>first|(cases h;exact⟨rfl,by decide⟩)|cases h
end
section
variable {X:L2.Cx}{k:Nat}
theorem Wm{d:PyData}(h:tW d=true):L2.a9 d:=by
 unfold tW at h
 simp only[Bool.and_eq_true,decide_eq_true_eq,Bool.or_eq_true,Bool.not_eq_true']at h
 obtain⟨⟨⟨⟨h1,h2⟩,h3⟩,h4⟩,h5⟩:=h
 have L:L2.mj d.depth d.weight d:=⟨h1,h2,Nat.le_refl _,Nat.le_refl _⟩
 refine L.VZ h3 h4 fun z=>?_
 rcases h5 with h5|h5
 . rw[h5]at z;cases z
 . exact h5
theorem iY(hr0:L2.y1 k X.A):L2.OpR X (compareOp .Eq) (rM2 X.K X.mg (zU .eq)):=by
 intro pins s σ H x y v u Q I rx ry h
 obtain⟨ρ,t,a,b,hr,ra,rb,w⟩:=h
 simp only[zU,lB]at w
 split at w
 . rename_i p q
   cases ra;cases rb
   have e:decide (L2.V.str p=L2.V.str q)=decide (p=q):=by
    rw[Bool.eq_iff_iff];simp
   refine L2.Wr pins s σ H _ _ v u Q I rx ry ⟨rfl,?_⟩
   rw[e]
   exact zK hr (.bool _) w
 . rename_i a ns
   cases rb with
   |ctup g=>
    by_cases hc:((yF t (.tup a)).isD&&(Val.tup (ns.map .int)).isD&&decide ((Val.tup (ns.map .int)).d.depth≤60))=true
    . rw[if_pos hc]at w
      simp only[Bool.and_eq_true,decide_eq_true_eq]at hc
      obtain⟨as,r1,_⟩:=xG I.hok hr (ye hc.1.1) ra rx
      obtain⟨its,rv,p1,_⟩:=I.tuple g.sqt
      obtain⟨o,ho,hcl,n,hd⟩:=id p1
      obtain⟨bs,q,_⟩:=RDs.reads I.hok (RDs.ints (K:=X.K) (mg:=X.mg) (ρ:=ρ) (H:=H) ns) (ye hc.1.2) rv
      have r2:Reads s.heap u (Val.tup (ns.map .int)).d bs:=by cases ry;exact .tuple ho hcl hd (by simpa using q)
      have hu:=hr0.un
      have hm:=Nat.min_le_right (yF t (.tup a)).d.depth (Val.tup (ns.map .int)).d.depth
      exact SeqAt.compareEq_reads r1 r2 (z9 hc.1.1) (z9 hc.1.2) (by omega) ⟨.bl _,H,I,rfl,zK hr (.bool _) w⟩
    . rw[if_neg hc]at w;exact w.elim
 . by_cases hc:((yF t a).isD&&(yF t b).isD&&decide ((yF t b).d.depth≤60))=true
   . rw[if_pos hc]at w
     simp only[Bool.and_eq_true,decide_eq_true_eq]at hc
     obtain⟨as,r1,_⟩:=xG I.hok hr (ye hc.1.1) ra rx
     obtain⟨bs,r2,_⟩:=xG I.hok hr (ye hc.1.2) rb ry
     have hu:=hr0.un
     have hm:=Nat.min_le_right (yF t a).d.depth (yF t b).d.depth
     exact SeqAt.compareEq_reads r1 r2 (z9 hc.1.1) (z9 hc.1.2) (by omega) ⟨.bl _,H,I,rfl,zK hr (.bool _) w⟩
   . rw[if_neg hc]at w;exact w.elim
theorem iq(hr0:L2.y1 k X.A):L2.OpR X (compareOp .NotEq) (rM2 X.K X.mg (zU .ne)):=by
 intro pins s σ H x y v u Q I rx ry h
 obtain⟨ρ,t,a,b,hr,ra,rb,w⟩:=h
 simp only[zU,lB]at w
 split at w
 . rename_i p q
   cases ra;cases rb
   have e:decide (L2.V.str p=L2.V.str q)=decide (p=q):=by
    rw[Bool.eq_iff_iff];simp
   refine L2.Ww pins s σ H _ _ v u Q I rx ry ⟨rfl,?_⟩
   rw[e]
   exact zK hr (.bool _) w
 . by_cases hc:((yF t a).isD&&(yF t b).isD&&decide ((yF t b).d.depth≤60))=true
   . rw[if_pos hc]at w
     simp only[Bool.and_eq_true,decide_eq_true_eq]at hc
     obtain⟨as,r1,_⟩:=xG I.hok hr (ye hc.1.1) ra rx
     obtain⟨bs,r2,_⟩:=xG I.hok hr (ye hc.1.2) rb ry
     have hu:=hr0.un
     have hm:=Nat.min_le_right (yF t a).d.depth (yF t b).d.depth
     exact SeqAt.compareNe_reads r1 r2 (z9 hc.1.1) (z9 hc.1.2) (by omega) ⟨.bl _,H,I,rfl,zK hr (.bool _) w⟩
   . rw[if_neg hc]at w;exact w.elim
theorem RD.isNone{K:KF}{mg:Str→Option Value}{ρ:Own}{H:L2.Hp}{v:Val}{x:L2.V}(r:RD K mg ρ H v x):decide (x=.non)=v.isN:=by
 cases r<;>first|rfl|exact decide_eq_false (fun z=>nomatch z)
theorem ij:L2.OpR X (compareOp .Is) (rM2 X.K X.mg (zU .is)):=by
 intro pins s σ H x y v u Q I rx ry h
 obtain⟨ρ,t,a,b,hr,ra,rb,w⟩:=h
 cases rb with
 |none=>
  refine L2.Yo pins s σ H _ _ v u Q I rx ry ⟨rfl,?_⟩
  rw[ra.isNone]
  exact zK hr (.bool _) w
 |bool c=>
  cases ra with
  |bool d=>cases rx;cases ry;cases c<;>cases d<;>exact wpAny_pure ⟨.bl _,H,I,rfl,zK hr (.bool _) w⟩
  |_=>exact w.elim
 |_=>exact w.elim
theorem vV:∀{vs:List Val} {v:Val},qV vs=true→v∈vs→v.isD=true
 |w::vs,v,h,m=>by
  rw[qV,Bool.and_eq_true]at h
  rcases List.mem_cons.mp m with rfl|m
  . exact h.1
  . exact vV h.2 m
theorem oH{A:Around}{s:Shared}{u:Value}{K:KF}{mg:Str→Option Value}{ρ:Own}{H:L2.Hp}{g:Val→Bool}{vs:List Val}{xs:List L2.V}{its:List Value}(q:RDs K mg ρ H vs xs)(r:L2.Vals xs its)
 (hE:∀z x w,z∈vs→RD K mg ρ H z x→L2.RelV x w→SeqAt.EqAt A s w u (g z)):∃f:Value→Bool,(∀w∈its.toArray,SeqAt.EqAt A s w u (f w))∧its.toArray.any f=vs.any g:=by
 classical
 have at_:∀i w,its[i]?=some w→∃z x,vs[i]?=some z∧RD K mg ρ H z x∧L2.RelV x w:=fun i w e=>by
  have hi:i<xs.length:=by rw[r.length];exact(List.getElem?_eq_some_iff.mp e).1
  have hx:xs[i]?=some xs[i]:=List.getElem?_eq_getElem hi
  obtain⟨w',e',rw'⟩:=r.get hx
  rw[e]at e';cases e'
  obtain⟨z,e1,rz⟩:=q.WO hx
  exact⟨z,_,e1,rz,rw'⟩
 refine⟨fun w=>decide (∃(i:Nat) (z:Val),its[i]?=some w∧vs[i]?=some z∧g z=true),fun w hw=>?_,?_⟩
 . obtain⟨i,hi⟩:=List.getElem?_of_mem (by simpa using hw:w∈its)
   by_cases hd:∃(i:Nat) (z:Val),its[i]?=some w∧vs[i]?=some z∧g z=true
   . dsimp only;rw[decide_eq_true hd]
     obtain⟨j,z,e1,e2,e3⟩:=hd
     obtain⟨z',x,e4,rz,rw'⟩:=at_ j w e1
     rw[e2]at e4;cases e4
     rw[←e3];exact hE z x w (List.mem_of_getElem? e2) rz rw'
   . dsimp only;rw[decide_eq_false hd]
     obtain⟨z,x,e4,rz,rw'⟩:=at_ i w hi
     have hg:g z=false:=by
      cases hg:g z with
      |false=>rfl
      |true=>exact(hd ⟨i,z,hi,e4,hg⟩).elim
     rw[←hg];exact hE z x w (List.mem_of_getElem? e4) rz rw'
 . rw[Bool.eq_iff_iff,Array.any_toList.symm,List.any_eq_true,List.any_eq_true]
   constructor
   . rintro ⟨w,_,h⟩
     obtain⟨i,z,_,e2,e3⟩:=of_decide_eq_true h
     exact⟨z,List.mem_of_getElem? e2,e3⟩
   . rintro ⟨z,hz,e3⟩
     obtain⟨i,hi⟩:=List.getElem?_of_mem hz
     obtain⟨x,e1,_⟩:=q.get hi
     obtain⟨w,e2,_⟩:=r.get e1
     exact⟨w,List.mem_of_getElem? e2,decide_eq_true ⟨i,z,e2,hi,e3⟩⟩
theorem eqD{K:KF}{mg:Str→Option Value}{ρ:Own}{H:L2.Hp}{P:Program}{w:World}{s:Shared}{A:Around}(hu:A.units+60<cLine)(ok:L2.HOk P w H s.heap){a z:Val}{x y:L2.V}{v u:Value}(ra:RD K mg ρ H a x)(rx:L2.RelV x v)(ha:a.isD=true)(hd:a.d.depth≤60)
 (rz:RD K mg ρ H z y) (ry:L2.RelV y u) (hz:z.isD=true):SeqAt.EqAt A s u v (PyData.eqv z.d a.d):=by
 obtain⟨as,r1,_⟩:=RD.reads ok ra (ye ha) rx
 obtain⟨bs,r2,_⟩:=RD.reads ok rz (ye hz) ry
 have hm:=Nat.min_le_right z.d.depth a.d.depth
 exact SeqAt.eqAt_reads _ _ _ _ _ _ _ _ r2 r1 (z9 hz) (z9 ha) (by omega)
theorem ie(hr0:L2.y1 k X.A):L2.OpR X (compareOp .In) (rM2 X.K X.mg (zU .in_)):=by
 intro pins s σ H x y v u Q I rx ry h
 obtain⟨ρ,t,a,b,hr,ra,rb,w⟩:=h
 simp only[zU]at w
 split at w
 . rename_i vs e
   obtain⟨p,xs,rfl,hq,q⟩:=qB hr rb e
   split at w
   . rename_i hf
     rw[Bool.and_eq_true]at hf
     refine L2.ir pins s σ H _ _ v u Q I rx ry ⟨p,xs,rfl,hq,ra.flat hf.1,q.flat hf.2,?_⟩
     simp only[L2.inV,Bool.false_eq_true,if_false]
     rw[RDs.any ra hf.1 q hf.2]
     exact zK hr (.bool _) w
   . split at w
     . rename_i hf
       simp only[inD,Bool.and_eq_true,decide_eq_true_eq]at hf
       have hu:=hr0.un
       cases ry
       rcases hq with hq|hq
       . obtain⟨its,r,pl,hz⟩:=I.list hq
         obtain⟨f,f1,f2⟩:=oH (A:=X.A.in1) (s:=s) (u:=v) (g:=fun z=>PyData.eqv z.d a.d) q r fun z x' w' hz rz ry'=>eqD (show X.A.units+1+60<cLine by omega) I.hok ra rx hf.1.1 hf.2 rz ry' (vV hf.1.2 hz)
         exact SeqAt.in_listAt f pl.isList f1 ⟨.bl _,H,I,rfl,by rw[f2];exact zK hr (.bool _) w⟩
       . obtain⟨its,r,pl,hz⟩:=I.tuple hq
         obtain⟨f,f1,f2⟩:=oH (A:=X.A.in1) (s:=s) (u:=v) (g:=fun z=>PyData.eqv z.d a.d) q r fun z x' w' hz rz ry'=>eqD (show X.A.units+1+60<cLine by omega) I.hok ra rx hf.1.1 hf.2 rz ry' (vV hf.1.2 hz)
         exact SeqAt.in_tupleAt f pl f1 ⟨.bl _,H,I,rfl,by rw[f2];exact zK hr (.bool _) w⟩
     . exact w.elim
 . exact w.elim
theorem oV(hr0:L2.y1 k X.A):L2.OpR X (compareOp .NotIn) (rM2 X.K X.mg (zU .notIn)):=by
 intro pins s σ H x y v u Q I rx ry h
 obtain⟨ρ,t,a,b,hr,ra,rb,w⟩:=h
 simp only[zU]at w
 split at w
 . rename_i vs e
   obtain⟨p,xs,rfl,hq,q⟩:=qB hr rb e
   split at w
   . rename_i hf
     rw[Bool.and_eq_true]at hf
     refine L2.oW pins s σ H _ _ v u Q I rx ry ⟨p,xs,rfl,hq,ra.flat hf.1,q.flat hf.2,?_⟩
     simp only[L2.inV,if_true]
     rw[RDs.any ra hf.1 q hf.2]
     exact zK hr (.bool _) w
   . split at w
     . rename_i hf
       simp only[inD,Bool.and_eq_true,decide_eq_true_eq]at hf
       have hu:=hr0.un
       cases ry
       rcases hq with hq|hq
       . obtain⟨its,r,pl,hz⟩:=I.list hq
         obtain⟨f,f1,f2⟩:=oH (A:=X.A.in1) (s:=s) (u:=v) (g:=fun z=>PyData.eqv z.d a.d) q r fun z x' w' hz rz ry'=>eqD (show X.A.units+1+60<cLine by omega) I.hok ra rx hf.1.1 hf.2 rz ry' (vV hf.1.2 hz)
         exact SeqAt.notIn_listAt f pl.isList f1 ⟨.bl _,H,I,rfl,by rw[f2];exact zK hr (.bool _) w⟩
       . obtain⟨its,r,pl,hz⟩:=I.tuple hq
         obtain⟨f,f1,f2⟩:=oH (A:=X.A.in1) (s:=s) (u:=v) (g:=fun z=>PyData.eqv z.d a.d) q r fun z x' w' hz rz ry'=>eqD (show X.A.units+1+60<cLine by omega) I.hok ra rx hf.1.1 hf.2 rz ry' (vV hf.1.2 hz)
         exact SeqAt.notIn_tupleAt f pl f1 ⟨.bl _,H,I,rfl,by rw[f2];exact zK hr (.bool _) w⟩
     . exact w.elim
 . exact w.elim
theorem ip:L2.OpR X (compareOp .Lt) (rM2 X.K X.mg (zU .lt)):=by
 intro pins s σ H x y v u Q I rx ry h
 obtain⟨ρ,t,a,b,hr,ra,rb,w⟩:=h
 simp only[zU]at w
 split at w
 . cases ra;cases rb
   exact L2.Wv pins s σ H _ _ v u Q I rx ry ⟨_,_,rfl,rfl,zK hr (.bool _) w⟩
 . exact w.elim
theorem ik:L2.OpR X (compareOp .LtE) (rM2 X.K X.mg (zU .le)):=by
 intro pins s σ H x y v u Q I rx ry h
 obtain⟨ρ,t,a,b,hr,ra,rb,w⟩:=h
 simp only[zU]at w
 split at w
 . cases ra;cases rb
   exact L2.Wu pins s σ H _ _ v u Q I rx ry ⟨_,_,rfl,rfl,zK hr (.bool _) w⟩
 . exact w.elim
theorem ic:L2.OpR X (compareOp .Gt) (rM2 X.K X.mg (zU .gt)):=by
 intro pins s σ H x y v u Q I rx ry h
 obtain⟨ρ,t,a,b,hr,ra,rb,w⟩:=h
 simp only[zU]at w
 split at w
 . cases ra;cases rb
   exact L2.Wt pins s σ H _ _ v u Q I rx ry ⟨_,_,rfl,rfl,zK hr (.bool _) w⟩
 . exact w.elim
theorem iZ:L2.OpR X (compareOp .GtE) (rM2 X.K X.mg (zU .ge)):=by
 intro pins s σ H x y v u Q I rx ry h
 obtain⟨ρ,t,a,b,hr,ra,rb,w⟩:=h
 simp only[zU]at w
 split at w
 . cases ra;cases rb
   exact L2.Ws pins s σ H _ _ v u Q I rx ry ⟨_,_,rfl,rfl,zK hr (.bool _) w⟩
 . exact w.elim
noncomputable def Cop.op:Cop→CmpOp
 |.eq=>.Eq|.ne=>.NotEq|.lt=>.Lt|.le=>.LtE|.gt=>.Gt|.ge=>.GtE|.is=>.Is|.isNot=>.IsNot|.in_=>.In|.notIn=>.NotIn|.inD=>.In|.notInD=>.NotIn
theorem lX(hr0:L2.y1 k X.A):L2.OpR X (compareOp .In) (rM2 X.K X.mg (zU .inD)):=by
 intro pins s σ H x y v u Q I rx ry h
 obtain⟨ρ,t,a,b,hr,ra,rb,w⟩:=h
 simp only[zU]at w
 split at w
 . rename_i o e
   obtain⟨p,o',rfl,g,ro⟩:=getD_at hr rb ra e
   cases (show u=Value.ref p from ry)
   exact L2.Vz (by have:=hr0.un;omega) I g rx fun s3 I3=>⟨.bl o'.isSome,H,I3,rfl,by rw[ro.isSome];exact zK hr (.bool _) w⟩
 . exact w.elim
theorem qW(hr0:L2.y1 k X.A):L2.OpR X (compareOp .NotIn) (rM2 X.K X.mg (zU .notInD)):=by
 intro pins s σ H x y v u Q I rx ry h
 obtain⟨ρ,t,a,b,hr,ra,rb,w⟩:=h
 simp only[zU]at w
 split at w
 . rename_i o e
   obtain⟨p,o',rfl,g,ro⟩:=getD_at hr rb ra e
   cases (show u=Value.ref p from ry)
   exact L2.cU (by have:=hr0.un;omega) I g rx fun s3 I3=>⟨.bl !o'.isSome,H,I3,rfl,by rw[ro.isSome];exact zK hr (.bool _) w⟩
 . exact w.elim
noncomputable def okC:Cop→Bool
 |.isNot=>false
 |_=>true
theorem tX(hr0:L2.y1 k X.A):∀op:Cop,okC op=true→L2.OpR X (compareOp op.op) (rM2 X.K X.mg (zU op))
 |.eq,_=>iY hr0
 |.ne,_=>iq hr0
 |.lt,_=>ip
 |.le,_=>ik
 |.gt,_=>ic
 |.ge,_=>iZ
 |.is,_=>ij
 |.isNot,h=>by cases h
 |.in_,_=>ie hr0
 |.notIn,_=>oV hr0
 |.inD,_=>lX hr0
 |.notInD,_=>qW hr0
noncomputable def Bop.op:Bop→Operator
 |.add=>.Add|.sub=>.Sub|.mul=>.Mult|.fdiv=>.FloorDiv|.mod=>.Mod|.pow=>.Pow|.shl=>.LShift|.shr=>.RShift|.band=>.BitAnd
noncomputable def okB:Bop→Bool
 |.shl|.shr|.band=>false
 |_=>true
theorem Ym(m:Bool):∀op:Bop,okB op=true→L2.OpR X (binaryOp op.op) (rM2 X.K X.mg (binOp m op))
 |.add,_=>lS m
 |.sub,_=>lW m
 |.mul,_=>lU m
 |.fdiv,_=>nz m
 |.mod,_=>lT m
 |.pow,_=>lV m
 |.shl,h=>by cases h
 |.shr,h=>by cases h
 |.band,h=>by cases h
theorem WV:L2.IxR X (rM2 X.K X.mg vE):=by
 intro value slice pins s σ H x y v u Q I rx ry h hs
 obtain⟨ρ,t,a,b,hr,ra,rb,w⟩:=h
 simp only[vE]at w
 split at w
 . split at w
   . rename_i vs e
     split at w
     . rename_i z hz
       obtain⟨p,xs,rfl,hq,q⟩:=qB hr ra e
       cases rb
       obtain⟨xz,h1,h2⟩:=cI q hz
       refine L2.Zw value slice pins s σ H _ _ v u Q I rx ry ?_ hs
       rcases hq with hq|hq
       . exact .inl ⟨p,xs,_,xz,rfl,rfl,hq,h1,zK hr h2 w⟩
       . exact .inr (.inl ⟨p,xs,_,xz,rfl,rfl,hq,h1,zK hr h2 w⟩)
     . exact w.elim
   . exact w.elim
 . exact w.elim
end
end M
end
section
namespace M
open PySem
noncomputable def Bf.nm:Bf→Str
 |.len=>"len"|.all=>"all"|.any=>"any"|.tuple=>"tuple"|.list=>"list"|.sorted=>"sorted"|.repr=>"repr"|.max=>"max"|.min=>"min"|.sum=>"sum"|.int=>"int"|.isi=>"isinstance"|.divmod=>"divmod"|.str=>"str"|.sortedI=>"sorted"|.minT=>"min"
noncomputable def Bf.val:Bf→Value
 |.len=>.builtin "len"|.all=>.builtin "all"|.any=>.builtin "any"|.tuple=>.type "tuple"|.list=>.type "list"|.sorted=>.builtin "sorted"|.repr=>.builtin "repr"|.max=>.builtin "max"|.min=>.builtin "min"|.sum=>.builtin "sum"|.int=>.type "int"
 |.isi=>.builtin "isinstance"|.divmod=>.builtin "divmod"|.str=>.type "str"|.sortedI=>.builtin "sorted"|.minT=>.builtin "min"
theorem Bf.boot:∀f:Bf,bootBuiltins f.nm=some f.val
 |.len=>boot_len|.all=>PyProof.Rows.boot_all|.any=>PyProof.Rows.boot_any|.tuple=>PyProof.Rows.boot_tuple|.list=>PyProof.Rows.boot_list|.sorted=>PyProof.Rows.boot_sorted|.repr=>PyProof.Rows.boot_repr|.max=>PyProof.Rows.boot_max|.min=>PyProof.Rows.boot_min
 |.sum=>PyProof.Rows.boot_sum|.int=>PyProof.Rows.boot_int|.isi=>PyProof.Rows.boot_isinstance|.divmod=>PyProof.Rows.boot_divmod|.str=>PyProof.Rows.boot_str|.sortedI=>PyProof.Rows.boot_sorted|.minT=>PyProof.Rows.boot_min
section
variable {X:L2.Cx}{k:Nat}{m:Bool}
theorem vf{K:KF}{mg:Str→Option Value}{ρ:Own}{H:L2.Hp}{v:Val}{xs:List L2.V}(r:RDs K mg ρ H [v] xs):∃x,xs=[x]∧RD K mg ρ H v x:=by
 cases r with
 |cons r1 r2=>cases r2;exact⟨_,rfl,r1⟩
theorem dA{K:KF}{mg:Str→Option Value}{ρ:Own}{H:L2.Hp}{v w:Val}{xs:List L2.V}(r:RDs K mg ρ H [v,w] xs):∃x y,xs=[x,y]∧RD K mg ρ H v x∧RD K mg ρ H w y:=by
 cases r with
 |cons r1 r2=>
  obtain⟨y,rfl,r3⟩:=vf r2
  exact⟨_,_,rfl,r1,r3⟩
theorem gR:L2.yQ X (.builtin "len") (rMc X.K X.mg (blt .len m)):=by
 intro pins s σ H xs us Q I r h
 obtain⟨ρ,t,vs,hr,rv,w⟩:=h
 simp only[blt]at w
 split at w
 . split at w
   . rename_i hz
     obtain⟨x,rfl,rx⟩:=vf rv
     cases rx
     exact L2.oB pins s σ H _ us Q I r ⟨_,rfl,by rw[←yf];exact hz,zK hr (.int _) w⟩
   . exact w.elim
 . split at w
   . rename_i e
     obtain⟨x,rfl,rx⟩:=vf rv
     obtain⟨p,ys,rfl,hq,q⟩:=qB hr rx e
     refine L2.oA pins s σ H _ us Q I r ⟨p,ys,rfl,hq,?_⟩
     rw[←q.length]
     exact zK hr (.int _) w
   . exact w.elim
 . exact w.elim
theorem rC(hc:X.calm=true):L2.yQ X (.builtin "all") (rMc X.K X.mg (blt .all m)):=by
 intro pins s σ H xs us Q I r h
 obtain⟨ρ,t,vs,hr,rv,w⟩:=h
 simp only[blt]at w
 split at w
 . split at w
   . rename_i e
     split at w
     . rename_i bs eb
       obtain⟨x,rfl,rx⟩:=vf rv
       obtain⟨p,ys,rfl,hq,q⟩:=xZ hr rx e
       rw[q.bools eb]at hq
       exact L2.rC hc pins s σ H _ us Q I r ⟨p,bs,rfl,.of hq,zK hr (.bool _) w⟩
     . exact w.elim
   . exact w.elim
 . exact w.elim
theorem rD(hc:X.calm=true):L2.yQ X (.builtin "any") (rMc X.K X.mg (blt .any m)):=by
 intro pins s σ H xs us Q I r h
 obtain⟨ρ,t,vs,hr,rv,w⟩:=h
 simp only[blt]at w
 split at w
 . split at w
   . rename_i e
     split at w
     . rename_i bs eb
       obtain⟨x,rfl,rx⟩:=vf rv
       obtain⟨p,ys,rfl,hq,q⟩:=xZ hr rx e
       rw[q.bools eb]at hq
       exact L2.rD hc pins s σ H _ us Q I r ⟨p,bs,rfl,.of hq,zK hr (.bool _) w⟩
     . exact w.elim
   . exact w.elim
 . exact w.elim
theorem m4:L2.yQ X (.type "tuple") (rMc X.K X.mg (blt .tuple m)):=by
 intro pins s σ H xs us Q I r h
 obtain⟨ρ,t,vs,hr,rv,w⟩:=h
 simp only[blt]at w
 split at w
 . obtain⟨x,rfl,rx⟩:=vf rv
   cases rx with
   |tup n e q=>exact L2.vz pins s σ H _ us Q I r ⟨_,_,rfl,.inr ⟨.of e,zK hr (.tup n e q) w⟩⟩
 . split at w
   . rename_i e
     obtain⟨x,rfl,rx⟩:=vf rv
     obtain⟨p,ys,rfl,hq,q⟩:=xZ hr rx e
     exact L2.vz pins s σ H _ us Q I r ⟨p,ys,rfl,.inl ⟨.of hq,jR hr q w⟩⟩
   . exact w.elim
 . exact w.elim
theorem gU(hr0:L2.y1 k X.A):L2.yQ X (.builtin "repr") (rMc X.K X.mg (blt .repr m)):=by
 intro pins s σ H xs us Q I r h
 obtain⟨ρ,t,vs,hr,rv,w⟩:=h
 simp only[blt]at w
 split at w
 . rename_i v
   split at w
   . rename_i hc
     rw[Bool.and_eq_true]at hc
     obtain⟨x,rfl,rx⟩:=vf rv
     obtain⟨u,rfl,ru⟩:=L2.vals1 r
     have S:=Wm hc.2
     have q:Q (.str (yF t v).d.shown) H:=zK hr (.str _) w
     have fin:∀(tk':Tok) (tk:Nat),L2.EP X pins σ Q (.str (yF t v).d.shown tk') {s with toks:=tk}:=fun _ tk=>⟨.str _,H,I.tok _,⟨_,rfl⟩,q⟩
     obtain⟨as,R,hs⟩:=xG I.hok hr hc.1 rx ru
     have fr:∀a,u=.ref a→wpAny (model X.prog X.w) X.A (call (.builtin "repr") [u]) (L2.EP X pins σ Q) X.xe s:=fun a e=>by
      subst e
      refine repr_of_reads' R S.sh (fun z=>hs (S.mix z)) hr0.gd ?_ (fun _ _ e=>e) (fun h' u tk hk=>⟨.str _,H,I.kept hk,⟨_,rfl⟩,q⟩) S.ln
      have:=S.dp
      have:=hr0.un
      omega
     cases rx with
     |none=>cases (show u=Value.none from ru);exact PySem.P.repr_of_none (fin _ _)
     |bool b=>cases (show u=Value.bool b from ru);exact PySem.P.repr_of_bool (fin _ _)
     |int i=>obtain⟨t',z⟩:=(show ∃t,u=Value.int i t from ru);cases z;exact PySem.P.repr_of_int (by simpa [yF,y8,Val.d,PyData.showable] using S.sh) (fin _ _)
     |str x=>obtain⟨t',z⟩:=(show ∃t,u=Value.str x t from ru);cases z;exact PySem.P.repr_of_str (fin _ _) S.ln
     |tup _ _ _=>exact fr _ ru
     |lst _ _ _=>exact fr _ ru
     |dct0 _ _=>exact fr _ ru
     |ref _ _=>exact fr _ ru
     |ctup _=>exact fr _ ru
     |scr _=>exact fr _ ru
     |fn _=>exact fr _ ru
     |ty _=>exact absurd hc.1 (by simp[yF,y8,Val.isR])
     |dref _ _=>exact fr _ ru
   . exact w.elim
 . exact w.elim
theorem gS(hc:X.calm=true):L2.yQ X (.builtin "max") (rMc X.K X.mg (blt .max m)):=by
 intro pins s σ H xs us Q I r h
 obtain⟨ρ,t,vs,hr,rv,w⟩:=h
 simp only[blt]at w
 split at w
 . obtain⟨x,y,rfl,rx,ry⟩:=dA rv
   cases rx;cases ry
   exact L2.ju hc pins s σ H _ us Q I r ⟨_,_,rfl,zK hr (.int _) w⟩
 . split at w
   . rename_i ns en
     split at w
     . rename_i hn
       obtain⟨x,rfl,rx⟩:=vf rv
       cases rx with
       |tup n e q=>
        rw[q.pF en]at e
        exact L2.jw hc pins s σ H _ us Q I r ⟨_,ns,rfl,.of e,hn,zK hr (.int _) w⟩
     . exact w.elim
   . exact w.elim
 . split at w
   . rename_i e
     split at w
     . rename_i ns en
       split at w
       . rename_i hn
         obtain⟨x,rfl,rx⟩:=vf rv
         obtain⟨p,ys,rfl,hq,q⟩:=xZ hr rx e
         rw[q.pF en]at hq
         exact L2.jv hc pins s σ H _ us Q I r ⟨p,ns,rfl,.of hq,hn,zK hr (.int _) w⟩
       . exact w.elim
     . exact w.elim
   . exact w.elim
 . exact w.elim
theorem gT(hc:X.calm=true):L2.yQ X (.builtin "min") (rMc X.K X.mg (blt .min m)):=by
 intro pins s σ H xs us Q I r h
 obtain⟨ρ,t,vs,hr,rv,w⟩:=h
 simp only[blt]at w
 split at w
 . obtain⟨x,y,rfl,rx,ry⟩:=dA rv
   cases rx;cases ry
   exact L2.jx hc pins s σ H _ us Q I r ⟨_,_,rfl,zK hr (.int _) w⟩
 . split at w
   . rename_i e
     split at w
     . rename_i ns en
       split at w
       . rename_i hn
         obtain⟨x,rfl,rx⟩:=vf rv
         obtain⟨p,ys,rfl,hq,q⟩:=xZ hr rx e
         rw[q.pF en]at hq
         exact L2.jy hc pins s σ H _ us Q I r ⟨p,ns,rfl,.of hq,hn,zK hr (.int _) w⟩
       . exact w.elim
     . exact w.elim
   . exact w.elim
 . exact w.elim
theorem gQ:L2.yQ X (.type "int") (rMc X.K X.mg (blt .int m)):=by
 intro pins s σ H xs us Q I r h
 obtain⟨ρ,t,vs,hr,rv,w⟩:=h
 simp only[blt]at w
 split at w
 . obtain⟨x,rfl,rx⟩:=vf rv
   cases rx
   exact L2.pA pins s σ H _ us Q I r (.inl ⟨_,rfl,zK hr (.int _) w⟩)
 . obtain⟨x,rfl,rx⟩:=vf rv
   cases rx
   exact L2.pA pins s σ H _ us Q I r (.inr ⟨_,rfl,zK hr (.int _) w⟩)
 . exact w.elim
theorem rE:L2.yQ X (.builtin "isinstance") (rMc X.K X.mg (blt .isi m)):=by
 intro pins s σ H xs us Q I r h
 obtain⟨ρ,t,vs,hr,rv,w⟩:=h
 simp only[blt]at w
 split at w
 . split at w
   . rename_i ea ec
     obtain⟨x,y,rfl,rx,ry⟩:=dA rv
     cases ry
     obtain⟨e1,e2⟩:=Wj ec
     subst e1
     exact L2.rE pins s σ H _ us Q I r ⟨_,_,_,_,rfl,Vp hr rx ea,L2.Ye X.K _ _ e2,zK hr (.bool _) w⟩
   . exact w.elim
 . exact w.elim
theorem tM(z:Int × Int):∀l,(lD z l).Perm (z::l)
 |[]=>.refl _
 |y::ys=>by
  unfold lD
  split
  . exact .refl _
  . exact((tM z ys).cons y).trans (.swap z y ys)
theorem xg:∀l,(uy l).Perm l
 |[]=>.refl _
 |z::zs=>(tM z _).trans ((xg zs).cons z)
theorem jG(z:Int × Int):∀l,l.Pairwise (fun a b=>L2.z6 a≤L2.z6 b)→(lD z l).Pairwise (fun a b=>L2.z6 a≤L2.z6 b)
 |[],_=>by simp[lD]
 |y::ys,h=>by
  rw[List.pairwise_cons]at h
  unfold lD
  split
  . rename_i hz
    refine List.pairwise_cons.mpr ⟨fun a ha=>?_,List.pairwise_cons.mpr h⟩
    rcases List.mem_cons.mp ha with e|e
    . subst e;exact hz
    . exact Int.le_trans hz (h.1 a e)
  . rename_i hz
    refine List.pairwise_cons.mpr ⟨fun a ha=>?_,jG z ys h.2⟩
    rcases List.mem_cons.mp ((tM z ys).mem_iff.mp ha) with e|e
    . subst e;omega
    . exact h.1 a e
theorem mU:∀l,(uy l).Pairwise (fun a b=>L2.z6 a≤L2.z6 b)
 |[]=>.nil
 |z::zs=>jG z _ (mU zs)
theorem dZ{l:List (Int × Int)}(nd:l.Nodup)(hb:∀z∈l,0≤z.2∧z.2<1000):(uy l).Pairwise (fun a b=>L2.z6 a<L2.z6 b):=by
 have h1:=mU l
 have h2:(uy l).Pairwise (·≠·):=(xg l).nodup_iff.mpr nd
 have h3:=h1.and h2
 refine h3.imp_of_mem ?_
 intro a b ha hb' hab
 have m1:=hb a ((xg l).mem_iff.mp ha)
 have m2:=hb b ((xg l).mem_iff.mp hb')
 rcases Int.lt_or_eq_of_le hab.1 with z|z
 . exact z
 . exact absurd (L2.pC m1 m2 z) hab.2
theorem eW{K:KF}{mg:Str→Option Value}{ρ:Own}{H:L2.Hp}:∀{vs:List Val} {xs:List L2.V} {zs:List (Int × Int)},RDs K mg ρ H vs xs→pairsOf vs=some zs→vs=zs.map prV∧L2.Vv K H xs zs
 |_,_,_,.nil,h=>by cases h;exact⟨rfl,rfl,fun i z e=>by simp at e⟩
 |_,_,_,.cons (v:=v) (x:=x) (vs:=vs) (xs:=xs) r rs,h=>by
  unfold pairsOf at h
  split at h
  . rename_i hv;cases hv
  . rename_i a b ws hv
    cases hv
    rw[Option.map_eq_some_iff]at h
    obtain⟨zs',h1,rfl⟩:=h
    obtain⟨e1,e2,e3⟩:=eW rs h1
    refine⟨by rw[e1];rfl,by rw[List.length_cons,List.length_cons,e2],fun i z hz=>?_⟩
    cases i with
    |zero=>
     simp at hz;subst hz
     cases r with
     |tup n e q=>
      cases q with
      |cons q1 q2=>
       cases q2 with
       |cons q2 q3=>
        cases q1;cases q2;cases q3
        exact⟨_,rfl,.of e⟩
    |succ i=>
     simp only[List.getElem?_cons_succ]at hz ⊢
     exact e3 i z hz
  . cases h
theorem dB{K:KF}{mg:Str→Option Value}{ρ:Own}{H:L2.Hp}{vs:List Val}{xs:List L2.V}(r:RDs K mg ρ H vs xs):∀{ix:List Nat},(∀i∈ix,i<vs.length)→RDs K mg ρ H (ix.map fun i=>vs.getD i .none) (ix.map fun i=>xs.getD i .non)
 |[],_=>.nil
 |i::ix,h=>by
  have hi:=h i (.head _)
  obtain⟨x,h1,h2⟩:=r.get (List.getElem?_eq_getElem hi)
  refine .cons ?_ (dB r fun j hj=>h j (.tail _ hj))
  show RD K mg ρ H (vs.getD i .none) (xs.getD i .non)
  rw[List.getD_eq_getElem?_getD,List.getElem?_eq_getElem hi,List.getD_eq_getElem?_getD,h1]
  exact h2
theorem kC{K:KF}{mg:Str→Option Value}{ρ:Own}{H:L2.Hp}:∀{vs:List Val} {xs:List L2.V} {zs:List (List Int)},RDs K mg ρ H vs xs→wc vs=some zs→L2.gK K H xs zs
 |_,_,_,.nil,h=>by cases h;exact⟨rfl,fun i z e=>by simp at e⟩
 |_,_,_,.cons (v:=v) (x:=x) (vs:=vs) (xs:=xs) r rs,h=>by
  unfold wc at h
  split at h
  . rename_i hv;cases hv
  . rename_i a ws hv
    cases hv
    split at h
    . rename_i z zs' h1 h2
      cases h
      obtain⟨e2,e3⟩:=kC rs h2
      refine⟨by rw[List.length_cons,List.length_cons,e2],fun i z' hz=>?_⟩
      cases i with
      |zero=>
       simp at hz;subst hz
       cases r with
       |tup n e q=>exact⟨_,rfl,by rw[q.pF h1]at e;exact .of e⟩
      |succ i=>
       simp only[List.getElem?_cons_succ]at hz ⊢
       exact e3 i z' hz
    . cases h
  . cases h
theorem ints_map:∀{a:List Val} {z:List Int},intsOf a=some z→a=z.map .int
 |[],_,h=>by cases h;rfl
 |v::vs,z,h=>by
  cases v with
  |int i=>
   obtain⟨n,h1,rfl⟩:=Option.map_eq_some_iff.mp (show (intsOf vs).map (i::·)=some z from h)
   rw[ints_map h1];rfl
  |_=>cases h
theorem kD{K:KF}{mg:Str→Option Value}{ρ:Own}{H:L2.Hp}:∀{vs:List Val} {xs:List L2.V} {zs:List (List Int)},RDs K mg ρ H vs xs→wc vs=some zs→vs=zs.map tpV
 |_,_,_,.nil,h=>by cases h;rfl
 |_,_,_,.cons (v:=v) (x:=x) (vs:=vs) (xs:=xs) r rs,h=>by
  unfold wc at h
  split at h
  . rename_i hv;cases hv
  . rename_i a ws hv
    cases hv
    split at h
    . rename_i z zs' h1 h2
      cases h
      rw[kD rs h2,List.map_cons]
      rw[ints_map h1]
      rfl
    . cases h
  . cases h
theorem pf{K:KF}{mg:Str→Option Value}{ρ:Own}{H:L2.Hp}{α:Type}{d:α}{f:α→Val}{zs l:List α}{ys:List L2.V}{ix:List Nat}(q:RDs K mg ρ H (zs.map f) ys)(hp:ix.Perm (List.range zs.length))(h:(ix.map fun i=>zs.getD i d).Perm zs→(ix.map fun i=>zs.getD i d)=l):RDs K mg ρ H (l.map f) (ix.map fun i=>ys.getD i .non):=by
 have hlt:∀i∈ix,i<zs.length:=fun i hi=>List.mem_range.mp (hp.mem_iff.mp hi)
 have e1:(ix.map fun i=>zs.getD i d).Perm zs:=L2.iz d hp
 have rr:=dB q (ix:=ix) (by rw[List.length_map];exact hlt)
 have e3:(ix.map fun i=>(zs.map f).getD i .none)=l.map f:=by
  rw[←h e1,List.map_map]
  refine List.map_congr_left fun i hi=>?_
  have:=hlt i hi
  show _=f (zs.getD i d)
  rw[List.getD_eq_getElem?_getD,List.getElem?_map,List.getElem?_eq_getElem this,List.getD_eq_getElem?_getD,List.getElem?_eq_getElem this]
  rfl
 rw[e3]at rr
 exact rr
theorem nD:L2.yQ X (.builtin "sorted") (rMc X.K X.mg (blt .sorted m)):=by
 intro pins s σ H xs us Q I r h
 obtain⟨ρ,t,vs,hr,rv,w⟩:=h
 have gen:∀{v:Val} {ws:List Val},RDs X.K X.mg ρ H [v] xs→yk t v=some ws→y4 X.K X.mg (RD X.K X.mg) ρ H (tj m ws t) Q→wpAny (model X.prog X.w) X.A (call (.builtin "sorted") us) (L2.EP X pins σ Q) X.xe s:=fun{v ws} rv e w=>by
  unfold tj at w
  split at w
  . rename_i zs ez
    split at w
    . rename_i hz
      obtain⟨x,rfl,rx⟩:=vf rv
      obtain⟨p,ys,rfl,hq,q⟩:=xZ hr rx e
      refine L2.rF pins s σ H _ us Q I r ⟨p,ys,zs,fun a=>((L2.xq zs).idxOf a:Int),rfl,.of hq,kC q ez,hz.2,hz.1,fun a ha b hb=>L2.mV hz.1 ha hb,fun a ha b hb=>L2.de ha hb,fun l ix hl hp hw=>wU hr (pf (kD q ez▸q) hp fun e1=>L2.da hz.1 e1 hw) w l hl⟩
    . exact w.elim
  . exact w.elim
 simp only[blt]at w
 split at w
 . split at w
   . rename_i e
     split at w
     . rename_i zs ez
       split at w
       . rename_i hz
         obtain⟨x,rfl,rx⟩:=vf rv
         obtain⟨p,ys,rfl,hq,q⟩:=xZ hr rx e
         obtain⟨ev,pa⟩:=eW q ez
         subst ev
         have hb:∀{a:List Int},a∈zs.map L2.plI→∃z∈zs,L2.plI z=a:=fun ha=>List.mem_map.mp ha
         refine L2.rF pins s σ H _ us Q I r ⟨p,ys,zs.map L2.plI,L2.fY,rfl,.of hq,⟨by rw[List.length_map];exact pa.1,fun i l hl=>?_⟩,.inr fun a ha=>?_,List.pairwise_map.mpr (hz.1.imp fun n h=>n (L2.b9 h)),fun a ha b hb'=>?_,fun a ha b hb' h=>?_,fun l ix hl hp hw=>?_⟩
         . rw[List.getElem?_map]at hl
           obtain⟨z,e1,rfl⟩:=Option.map_eq_some_iff.mp hl
           exact pa.2 i z e1
         . obtain⟨z,_,rfl⟩:=hb ha;exact List.cons_ne_nil _ _
         . obtain⟨z,h1,rfl⟩:=hb ha
           obtain⟨z',h2,rfl⟩:=hb hb'
           exact L2.bO (hz.2 z h1) (hz.2 z' h2)
         . obtain⟨z,h1,rfl⟩:=hb ha
           obtain⟨z',h2,rfl⟩:=hb hb'
           rw[L2.pC (hz.2 z h1) (hz.2 z' h2) h]
         . rw[List.length_map]at hp
           refine wU hr (pf (d:=(0,0)) q hp fun e1=>L2.r9 ?_ (dZ hz.1 hz.2) fun x=>e1.mem_iff.trans (xg zs).mem_iff.symm) w l hl
           rw[List.pairwise_map]at hw ⊢
           refine hw.imp_of_mem fun{i j} hi hj w=>?_
           have l1:=List.mem_range.mp (hp.mem_iff.mp hi)
           have l2:=List.mem_range.mp (hp.mem_iff.mp hj)
           rw[List.getD_eq_getElem?_getD,List.getElem?_map,List.getElem?_eq_getElem l1,List.getD_eq_getElem?_getD,List.getElem?_map,List.getElem?_eq_getElem l2]at w
           rw[List.getD_eq_getElem?_getD,List.getElem?_eq_getElem l1,List.getD_eq_getElem?_getD,List.getElem?_eq_getElem l2]
           exact w
       . exact gen rv e w
     . exact gen rv e w
   . exact w.elim
 . exact w.elim
theorem insI_perm(z:Int):∀l:List Int,(insI z l).Perm (z::l)
 |[]=>.refl _
 |y::ys=>by
  unfold insI
  split
  . exact .refl _
  . exact((insI_perm z ys).cons y).trans (.swap z y ys)
theorem sortI_perm:∀l:List Int,(sortI l).Perm l
 |[]=>.refl _
 |z::zs=>(insI_perm z _).trans ((sortI_perm zs).cons z)
theorem jF(z:Int):∀{l:List Int},l.Pairwise (·≤·)→(insI z l).Pairwise (·≤·)
 |[],_=>List.pairwise_singleton _ _
 |y::ys,h=>by
  rw[List.pairwise_cons]at h
  unfold insI
  split
  . rename_i hz
    exact .cons (fun x hx=>by rcases List.mem_cons.mp hx with rfl|hx;exact hz;exact Int.le_trans hz (h.1 x hx)) (.cons h.1 h.2)
  . rename_i hz
    exact .cons (fun x hx=>by rcases List.mem_cons.mp ((insI_perm z ys).mem_iff.mp hx) with rfl|hx;omega;exact h.1 x hx) (jF z h.2)
theorem qC:∀l:List Int,(sortI l).Pairwise (·≤·)
 |[]=>.nil
 |z::zs=>jF z (qC zs)
theorem oC:L2.yQ X (.builtin "sorted") (rMc X.K X.mg (blt .sortedI m)):=by
 intro pins s σ H xs us Q I r h
 obtain⟨ρ,t,vs,hr,rv,w⟩:=h
 simp only[blt]at w
 split at w
 . split at w
   . rename_i e
     split at w
     . rename_i ns ei
       split at w
       . rename_i hz
         obtain⟨x,rfl,rx⟩:=vf rv
         obtain⟨p,ys,rfl,hq,q⟩:=qB hr rx e
         obtain rfl:=RDs.pF q ei
         refine L2.m3 pins s σ H _ us Q I r ⟨p,ns,rfl,hq,hz,fun l ns' hl hp ho=>?_⟩
         obtain rfl:ns'=sortI ns:=List.Perm.eq_of_pairwise (fun a b _ _ h1 h2=>Int.le_antisymm h1 h2) ho (qC ns) (hp.trans (sortI_perm ns).symm)
         exact wU hr (RDs.ints _) w l hl
       . exact w.elim
     . exact w.elim
   . exact w.elim
 . exact w.elim
theorem mz(hc:X.calm=true)(hr0:L2.y1 k X.A):L2.yQ X (.builtin "min") (rMc X.K X.mg (blt .minT m)):=by
 intro pins s σ H xs us Q I r h
 obtain⟨ρ,t,vs,hr,rv,w⟩:=h
 simp only[blt]at w
 split at w
 . split at w
   . rename_i e
     split at w
     . rename_i zs ez
       split at w
       . rename_i hz
         obtain⟨x,rfl,rx⟩:=vf rv
         obtain⟨p,ys,rfl,hq,q⟩:=xZ hr rx e
         refine L2.jz hc hr0 pins s σ H _ us Q I r ⟨p,ys,zs,rfl,.of hq,kC q ez,hz,fun i hi=>?_⟩
         have hv:=kD q ez
         subst hv
         obtain⟨y,h1,h2⟩:=q.get (show (zs.map tpV)[i]?=some (tpV (L2.sN zs)) by rw[List.getElem?_map,hi];rfl)
         rw[List.getD_eq_getElem?_getD,h1]
         exact zK hr h2 w
       . exact w.elim
     . exact w.elim
   . exact w.elim
 . exact w.elim
noncomputable def okF:Bf→Bool
 |.list|.sum|.divmod|.str=>false
 |_=>true
theorem cK(hc:X.calm=true)(hr0:L2.y1 k X.A):∀(f:Bf) (m:Bool),okF f=true→L2.yQ X f.val (rMc X.K X.mg (blt f m))
 |.len,_,_=>gR
 |.all,_,_=>rC hc
 |.any,_,_=>rD hc
 |.tuple,_,_=>m4
 |.list,_,h=>by cases h
 |.sorted,_,_=>nD
 |.repr,_,_=>gU hr0
 |.max,_,_=>gS hc
 |.min,_,_=>gT hc
 |.sum,_,h=>by cases h
 |.int,_,_=>gQ
 |.isi,_,_=>rE
 |.divmod,_,h=>by cases h
 |.str,_,h=>by cases h
 |.sortedI,_,_=>oC
 |.minT,_,_=>mz hc hr0
end
end M
end
section
namespace M
open PySem
noncomputable def Out.isOk{α:Type}:Out α→Bool
 |.ok _ _=>true
 |.exc _ _ _|.stuck=>false
theorem zE{α:Type}{o:Out α}(h:o.isOk=false)(v:α)(s:Sto):o≠.ok v s:=fun e=>by subst e;cases h
noncomputable def plain:Expr→Bool
 |.Starred ..|.Set ..|.Slice ..|.SetComp ..=>false
 |_=>true
theorem zt{e:Expr}(h:plain e=true):L2.noStar e=true:=by cases e<;>first|rfl|cases h
theorem vK{op:CmpOp}{e:Expr}(h:plain e=true):behindInMarks op e=false:=by cases e<;>first|rfl|cases h
theorem mH{e:Expr}(h:plain e=true):L2.kR e:=by
 intro o i
 cases e<;>first|rfl|cases h
theorem yW{e:Expr}{env:PySem.Env}(h:plain e=true)(x:Value):foldedSetIterable e env x=pure x:=by cases e<;>first|rfl|cases h
noncomputable def jT:Expr→Bool
 |.Call (.Name _ _) [] [] _=>false
 |_=>true
noncomputable def plainT:Expr→Bool
 |.UnaryOp .Not _ _|.BoolOp ..|.IfExp ..|.Compare ..=>false
 |_=>true
theorem i3{e:Expr}{env:PySem.Env}(h:plainT e=true)(whole:Sem Value):isTrue e env whole=(do let v ←whole;standAt e.pos;holding [v] (truthy v)):=by
 cases e with
 |UnaryOp op a p=>cases op<;>first|rfl|cases h
 |_=>first|rfl|cases h
noncomputable def yp:List Expr→Bool
 |[]=>true
 |e::es=>plain e&&yp es
theorem uO:∀{es:List Expr} {pos:Pos} {env:PySem.Env},yp es=true→(backTo pos (starEach es env)).any (·.1)=false
 |[],_,_,_=>rfl
 |e::es,pos,env,h=>by
  rw[yp,Bool.and_eq_true]at h
  rw[L2.y3 (zt h.1)]
  show (false||(backTo pos (starEach es env)).any (·.1))=false
  rw[uO h.2];rfl
section
variable {K:KF}{mg:Str→Option Value}{env:Env}{s s1:Sto}{ρ ρ':Own}{H H':L2.Hp}
theorem y4.mono{α β:Type}{R:Own→L2.Hp→α→β→Prop}{o:Out α}{Q:β→L2.Hp→Prop}(w:y4 K mg R ρ H o Q)(x:Ext ρ H ρ' H')(h:HR K mg ρ' s1 H'):y4 K mg R ρ' H' o Q:=by
 cases o with
 |ok v s'=>exact fun ρ2 y H2 x2 h2 r2=>w ρ2 y H2 (x.trans h x2) h2 r2
 |_=>exact w
end
section
variable {X:L2.Cx}{env:Env}{s:Sto}{E a b c:Expr}
theorem zL{o:Out Val}(h:∀v s',o≠.ok v s'):L2.PE X E (tV X.K X.mg env s o):=VE fun _ _ _=>Vn h
theorem un1{o:Out Val}{r:L2.V→L2.Hp→L2.VK→Prop}{g:Val→Sto→Out Val}(h:L2.PE X a (tV X.K X.mg env s o))(rule:∀ta,L2.PE X a ta→L2.PE X E (L2.tUn r ta))
 (op:∀ρ H s1 v x Q,HR X.K X.mg ρ s1 H→RD X.K X.mg ρ H v x→y4 X.K X.mg (RD X.K X.mg) ρ H (g v s1) Q→r x H Q):L2.PE X E (tV X.K X.mg env s (o.bind g)):=by
 cases o with
 |ok v s1=>exact yC (rule _ h) fun σ H Q ⟨ρ,hr,er,w⟩=>⟨ρ,hr,er,fun ρ1 x H1 x1 hr1 r1=>op ρ1 H1 s1 v x Q hr1 r1 (w.mono x1 hr1)⟩
 |exc _ _ _=>exact zL (zE rfl)
 |stuck=>exact zL (zE rfl)
theorem Zd{o:Out Val}{f2:Sto→Out Val}{g:Val→Val→Sto→Out Val}(h1:L2.PE X a (tV X.K X.mg env s o))(h2:∀s1,L2.PE X b (tV X.K X.mg env s1 (f2 s1)))
 (rule:∀ta tb,L2.PE X a ta→L2.PE X b tb→L2.PE X E (L2.tOp (rM2 X.K X.mg g) ta tb)):L2.PE X E (tV X.K X.mg env s (o.bind fun x s1=>(f2 s1).bind fun y s2=>g x y s2)):=by
 cases o with
 |ok v s1=>
  show L2.PE X E (tV X.K X.mg env s ((f2 s1).bind fun y s2=>g v y s2))
  have h2':=h2 s1
  cases hb:f2 s1 with
  |ok w s2=>
   rw[hb]at h2'
   exact yC (rule _ _ h1 h2') fun σ H Q ⟨ρ,hr,er,wt⟩=>⟨ρ,hr,er,fun ρ1 x H1 x1 hr1 r1=>⟨ρ1,hr1,er.mono x1,fun ρ2 y H2 x2 hr2 r2=>⟨ρ2,s2,v,w,hr2,r1.mono x2,r2,wt.mono (x1.trans hr1 x2) hr2⟩⟩⟩
  |exc _ _ _=>exact zL (zE rfl)
  |stuck=>exact zL (zE rfl)
 |exc _ _ _=>exact zL (zE rfl)
 |stuck=>exact zL (zE rfl)
theorem fP{op op':Cop}{o:Out Val}{f2 f3:Sto→Out Val}{k:Nat}{pos:Pos}(k1:okC op=true)(k2:okC op'=true)(hr0:L2.y1 k X.A)(h1:L2.PE X a (tV X.K X.mg env s o))(h2:∀s1,L2.PE X b (tV X.K X.mg env s1 (f2 s1)))(h3:∀s1,L2.PE X c (tV X.K X.mg env s1 (f3 s1)))(hm:plain c=true) :
 L2.PE X (.Compare a [op.op,op'.op] [b,c] pos) (tV X.K X.mg env s (o.bind fun x s1=>(f2 s1).bind fun y s2=>(zU op x y s2).bind fun r s3=>match r with
  |.bool true=>(f3 s3).bind fun z s4=>zU op' y z s4
  |.bool false=>.ok (.bool false) s3
  |_=>.stuck)):=by
 cases o with
 |ok v s1=>
  have h2':=h2 s1
  show L2.PE X _ (tV X.K X.mg env s ((f2 s1).bind _))
  cases hb:f2 s1 with
  |ok w s2=>
   rw[hb]at h2'
   show L2.PE X _ (tV X.K X.mg env s ((zU op v w s2).bind _))
   cases hc:zU op v w s2 with
   |ok r s3=>
    cases r with
    |bool t=>
     have h3':=h3 s3
     have rule:=L2.eK (pos:=pos) (tX hr0 op k1) (tX hr0 op' k2) h1 h2' h3' (show lastMarks [op.op,op'.op] [b,c]=false from vK hm)
     refine yC rule fun σ H Q ⟨ρ,hr,er,wt⟩=>⟨ρ,hr,er,fun ρ1 x H1 x1 hr1 r1=>⟨ρ1,hr1,er.mono x1,fun ρ2 y H2 x2 hr2 r2=>⟨ρ2,s2,v,w,hr2,r1.mono x2,r2,?_⟩⟩⟩
     rw[hc]
     intro ρ3 z H3 x3 hr3 r3
     cases r3
     refine⟨t,rfl,?_⟩
     have xx:=(x1.trans hr1 x2).trans hr2 x3
     have wt':=wt.mono xx hr3
     cases t with
     |true=>
      rw[if_pos rfl]
      refine⟨ρ3,hr3,er.mono xx,?_⟩
      have wt2:y4 X.K X.mg (RD X.K X.mg) ρ3 H3 ((f3 s3).bind fun z s4=>zU op' w z s4) Q:=wt'
      cases hz:f3 s3 with
      |ok u s4=>
       rw[hz]at wt2
       exact fun ρ4 q H4 x4 hr4 r4=>⟨ρ4,s4,w,u,hr4,(r2.mono x3).mono x4,r4,wt2.mono x4 hr4⟩
      |exc _ _ _=>rw[hz]at wt2;exact wt2
      |stuck=>rw[hz]at wt2;exact wt2
     |false=>
      rw[if_neg Bool.false_ne_true]
      exact zK hr3 (.bool false) wt'
    |_=>exact zL (zE rfl)
   |exc _ _ _=>exact zL (zE rfl)
   |stuck=>exact zL (zE rfl)
  |exc _ _ _=>exact zL (zE rfl)
  |stuck=>exact zL (zE rfl)
 |exc _ _ _=>exact zL (zE rfl)
 |stuck=>exact zL (zE rfl)
theorem YN{o:Out Val}{pos:Pos}(h:L2.PE X a (tV X.K X.mg env s o)):L2.PE X (.UnaryOp .Not a pos) (tV X.K X.mg env s (o.bind fun x s1=>match x with|.bool b=>.ok (.bool !b) s1|_=>.stuck)):=by
 refine un1 (r:=fun x H Q=>∃c,x=.bl c∧Q (.bl (!c)) H) h (fun ta q=>L2.XD q) fun ρ H s1 v x Q hr r w=>?_
 cases r with
 |bool i=>exact⟨i,rfl,zK hr (.bool _) w⟩
 |_=>exact w.elim
theorem fN{rest:List Expr}{o:Out Val}{f2:Sto→Out Val}{pos:Pos}(h1:L2.PE X a (tV X.K X.mg env s o))(h2:∀s1,L2.PE X (.BoolOp .And (b::rest) pos) (tV X.K X.mg env s1 (f2 s1))) :
 L2.PE X (.BoolOp .And (a::b::rest) pos) (tV X.K X.mg env s (o.bind fun x s1=>match x with|.bool true=>f2 s1|.bool false=>.ok (.bool false) s1|_=>.stuck)):=by
 cases o with
 |ok v s1=>
  refine yC (L2.Y9 h1 (h2 s1)) fun σ H Q ⟨ρ,hr,er,wt⟩=>⟨ρ,hr,er,fun ρ1 x H1 x1 hr1 r1=>?_⟩
  have wt':=wt.mono x1 hr1
  cases r1 with
  |bool t=>
   refine⟨t,rfl,?_⟩
   cases t with
   |true=>exact L2.oP (⟨ρ1,hr1,er.mono x1,wt'⟩)
   |false=>exact L2.oO (zK hr1 (.bool _) wt')
  |_=>exact wt'.elim
 |exc _ _ _=>exact zL (zE rfl)
 |stuck=>exact zL (zE rfl)
theorem Wd{rest:List Expr}{o:Out Val}{f2:Sto→Out Val}{pos:Pos}(h1:L2.PE X a (tV X.K X.mg env s o))(h2:∀s1,L2.PE X (.BoolOp .Or (b::rest) pos) (tV X.K X.mg env s1 (f2 s1))) :
 L2.PE X (.BoolOp .Or (a::b::rest) pos) (tV X.K X.mg env s (o.bind fun x s1=>match truth s1 x with|some false=>f2 s1|some true=>.ok x s1|Option.none=>.stuck)):=by
 cases o with
 |ok v s1=>
  refine yC (L2.XE h1 (h2 s1)) fun σ H Q ⟨ρ,hr,er,wt⟩=>⟨ρ,hr,er,fun ρ1 x H1 x1 hr1 r1=>?_⟩
  have wt':y4 X.K X.mg (RD X.K X.mg) ρ1 H1 (match truth s1 v with|some false=>f2 s1|some true=>.ok v s1|Option.none=>.stuck) Q:=wt.mono x1 hr1
  cases ht:truth s1 v with
  |none=>rw[ht]at wt';exact wt'.elim
  |some t=>
   rw[ht]at wt'
   refine⟨t,dn hr1 r1 ht,?_⟩
   cases t with
   |true=>exact L2.oP (zK hr1 r1 wt')
   |false=>exact L2.oO (⟨ρ1,hr1,er.mono x1,wt'⟩)
 |exc _ _ _=>exact zL (zE rfl)
 |stuck=>exact zL (zE rfl)
theorem YK{o:Out Bool}{f2 f3:Sto→Out Val}{pos:Pos}(h1:L2.PT X c (tT X.K X.mg env s o))(h2:∀s1,L2.PE X a (tV X.K X.mg env s1 (f2 s1)))(h3:∀s1,L2.PE X b (tV X.K X.mg env s1 (f3 s1))) :
 L2.PE X (.IfExp c a b pos) (tV X.K X.mg env s (o.bind fun t s1=>if t then f2 s1 else f3 s1)):=by
 cases o with
 |ok v s1=>
  refine yC (L2.eO h1 (h2 s1) (h3 s1)) fun σ H Q ⟨ρ,hr,er,wt⟩=>⟨ρ,hr,er,fun ρ1 x H1 x1 hr1 r1=>?_⟩
  have wt':=wt.mono x1 hr1
  cases r1
  cases v with
  |true=>exact L2.oP (⟨ρ1,hr1,er.mono x1,wt'⟩)
  |false=>exact L2.oO (⟨ρ1,hr1,er.mono x1,wt'⟩)
 |exc _ _ _=>exact zL (zE rfl)
 |stuck=>exact zL (zE rfl)
theorem um{es:List Expr}{o:Out (List Val)}(h:∀v s',o≠.ok v s'):L2.PA X es (tVs X.K X.mg env s o):=VB fun _ _ _=>Xi h
theorem bG:L2.PA X [] (tVs X.K X.mg env s (.ok [] s)):=eG L2.oX fun σ H Q ⟨ρ,hr,er,wt⟩=>wt ρ [] H Ext.refl hr .nil
theorem fT{es:List Expr}{o:Out Val}{f2:Sto→Out (List Val)}(hp:plain a=true)(h1:L2.PE X a (tV X.K X.mg env s o))(h2:∀s1,L2.PA X es (tVs X.K X.mg env s1 (f2 s1))) :
 L2.PA X (a::es) (tVs X.K X.mg env s (o.bind fun v s1=>(f2 s1).bind fun vs s2=>.ok (v::vs) s2)):=by
 cases o with
 |ok v s1=>
  have h2':=h2 s1
  show L2.PA X _ (tVs X.K X.mg env s ((f2 s1).bind _))
  cases hb:f2 s1 with
  |ok ws s2=>
   rw[hb]at h2'
   exact eG (L2.pac h1 h2' (zt hp)) fun σ H Q ⟨ρ,hr,er,wt⟩=>⟨ρ,hr,er,fun ρ1 x H1 x1 hr1 r1=>⟨ρ1,hr1,er.mono x1,fun ρ2 y H2 x2 hr2 r2=>wt ρ2 _ H2 (x1.trans hr1 x2) hr2 (.cons (r1.mono x2) r2)⟩⟩
  |exc _ _ _=>exact um (zE rfl)
  |stuck=>exact um (zE rfl)
 |exc _ _ _=>exact um (zE rfl)
 |stuck=>exact um (zE rfl)
theorem fS{es:List Expr}{o:Out (List Val)}{k:Nat}{pos:Pos}(h:L2.PA X es (tVs X.K X.mg env s o)):L2.PE X (.Tuple es k pos) (tV X.K X.mg env s (o.bind fun vs s1=>if vs.length≤zV then .ok (.tup vs) s1 else .stuck)):=by
 cases o with
 |ok vs s1=>
  refine yC (L2.XG h) fun σ H Q ⟨ρ,hr,er,wt⟩=>⟨ρ,hr,er,fun ρ1 xs H1 x1 hr1 r1=>?_⟩
  have wt':y4 X.K X.mg (RD X.K X.mg) ρ1 H1 (if vs.length≤zV then .ok (.tup vs) s1 else .stuck) Q:=wt.mono x1 hr1
  by_cases hz:vs.length≤zV
  . rw[if_pos hz]at wt'
    exact⟨by rw[←r1.length,←yf];exact hz,jR hr1 r1 wt'⟩
  . rw[if_neg hz]at wt';exact wt'.elim
 |exc _ _ _=>exact zL (zE rfl)
 |stuck=>exact zL (zE rfl)
theorem YM{es:List Expr}{o:Out (List Val)}{m:Bool}{pos:Pos}(h:L2.PA X es (tVs X.K X.mg env s o)):L2.PE X (.List es pos) (tV X.K X.mg env s (o.bind fun vs s1=>if vs.length≤zV then newList m vs s1 else .stuck)):=by
 cases o with
 |ok vs s1=>
  refine yC (L2.XB h) fun σ H Q ⟨ρ,hr,er,wt⟩=>⟨ρ,hr,er,fun ρ1 xs H1 x1 hr1 r1=>?_⟩
  have wt':y4 X.K X.mg (RD X.K X.mg) ρ1 H1 (if vs.length≤zV then newList m vs s1 else .stuck) Q:=wt.mono x1 hr1
  by_cases hz:vs.length≤zV
  . rw[if_pos hz]at wt'
    exact⟨by rw[←r1.length,←yf];exact hz,wU hr1 r1 wt'⟩
  . rw[if_neg hz]at wt';exact wt'.elim
 |exc _ _ _=>exact zL (zE rfl)
 |stuck=>exact zL (zE rfl)
theorem Wb{es:List Expr}{o:Out (List Val)}{g:List Val→Sto→Out Val}(h:L2.PA X es (tVs X.K X.mg env s o))(rule:∀t,L2.PA X es t→L2.PE X E (L2.tCB (rMc X.K X.mg g) t)):L2.PE X E (tV X.K X.mg env s (o.bind g)):=by
 cases o with
 |ok vs s1=>exact yC (rule _ h) fun σ H Q ⟨ρ,hr,er,wt⟩=>⟨ρ,hr,er,fun ρ1 xs H1 x1 hr1 r1=>⟨ρ1,s1,vs,hr1,r1,wt.mono x1 hr1⟩⟩
 |exc _ _ _=>exact zL (zE rfl)
 |stuck=>exact zL (zE rfl)
theorem YJ{es:List Expr}{o:Out (List Val)}{f:Bf}{m:Bool}{k:Nat}{p pos:Pos}(k1:okF f=true)(hc:X.calm=true)(hr0:L2.y1 k X.A)(hg:L2.Gl X f.nm)(hm:X.mg f.nm=none)(hp:yp (a::es)=true)(h:L2.PA X (a::es) (tVs X.K X.mg env s o)) :
 L2.PE X (.Call (.Name f.nm p) (a::es) [] pos) (tV X.K X.mg env s (o.bind (blt f m))):=by
 rw[yp,Bool.and_eq_true]at hp
 refine Wb h fun t ht=>?_
 have hb:=cK hc hr0 f m k1
 have bo:=f.boot
 have st:=L2.y3 (es:=es) (env:=X.env) (zt hp.1)
 have hn:=uO (pos:=pos) (env:=X.env) hp.2
 cases f with
 |tuple=>exact L2.vv hb hg hm bo ht (by decide) (by decide) st hn
 |list=>exact L2.vv hb hg hm bo ht (by decide) (by decide) st hn
 |int=>exact L2.vv hb hg hm bo ht (by decide) (by decide) st hn
 |str=>exact L2.vv hb hg hm bo ht (by decide) (by decide) st hn
 |_=>exact L2.eJ hb hg hm bo ht (by decide) (by decide) st hn
theorem yN{o:Out Bool}(h:∀v s',o≠.ok v s'):L2.PT X E (tT X.K X.mg env s o):=VO fun _ _ _=>ZS h
theorem YY{o:Out Val}(hp:plainT a=true)(h:L2.PE X a (tV X.K X.mg env s o)):L2.PT X a (tT X.K X.mg env s o.truth):=by
 cases o with
 |ok v s1=>
  refine oa (L2.eu h (i3 hp)) fun σ H Q ⟨ρ,hr,er,wt⟩=>⟨ρ,hr,er,fun ρ1 x H1 x1 hr1 r1=>?_⟩
  have wt':=wt.mono x1 hr1
  simp only[Out.truth,zN]at wt'
  cases ht:truth s1 v with
  |none=>rw[ht]at wt';exact wt'.elim
  |some b=>rw[ht]at wt';exact⟨b,dn hr1 r1 ht,wt' _ _ _ Ext.refl hr1 rfl⟩
 |exc _ _ _=>exact yN (zE rfl)
 |stuck=>exact yN (zE rfl)
theorem YX{o:Out Bool}{pos:Pos}(h:L2.PT X a (tT X.K X.mg env s o)):L2.PT X (.UnaryOp .Not a pos) (tT X.K X.mg env s (o.bind fun b s1=>.ok (!b) s1)):=by
 cases o with
 |ok v s1=>exact oa (L2.XT h) fun σ H Q ⟨ρ,hr,er,wt⟩=>⟨ρ,hr,er,fun ρ1 x H1 x1 hr1 r1=>by cases r1;exact wt _ _ _ x1 hr1 rfl⟩
 |exc _ _ _=>exact yN (zE rfl)
 |stuck=>exact yN (zE rfl)
theorem uq{o:Out Bool}(h:∀v s',o≠.ok v s'):L2.PW X E (tT X.K X.mg env s o):=VP fun _ _ _=>ZS h
theorem lH{pos:Pos}:L2.PW X (.BoolOp .And [] pos) (tT X.K X.mg env s (.ok true s)):=fun wh pins sh σ H Q I ⟨ρ,hr,er,wt⟩=>PyProof.Rows.isTrue_and_nil ⟨H,I,wt _ _ _ Ext.refl hr rfl⟩
theorem iL{pos:Pos}:L2.PW X (.BoolOp .Or [] pos) (tT X.K X.mg env s (.ok false s)):=fun wh pins sh σ H Q I ⟨ρ,hr,er,wt⟩=>PyProof.Rows.isTrue_or_nil ⟨H,I,wt _ _ _ Ext.refl hr rfl⟩
theorem fX{rest:List Expr}{o:Out Bool}{f2:Sto→Out Bool}{pos:Pos}(h1:L2.PT X a (tT X.K X.mg env s o))(h2:∀s1,L2.PW X (.BoolOp .And rest pos) (tT X.K X.mg env s1 (f2 s1))) :
 L2.PW X (.BoolOp .And (a::rest) pos) (tT X.K X.mg env s (o.bind fun b s1=>if b then f2 s1 else .ok false s1)):=by
 cases o with
 |ok v s1=>
  intro wh pins sh σ H Q I h
  obtain⟨ρ,hr,er,wt⟩:=h
  refine PyProof.Rows.isTrue_and (L2.thn (h1 pins sh σ H (fun c H1=>if c=true then tT X.K X.mg env s1 (f2 s1) σ H1 Q else Q false H1) I ⟨ρ,hr,er,fun ρ1 x H1 x1 hr1 r1=>?_⟩) fun c s' ⟨H1,I1,q1⟩=>?_)
  . have wt':=wt.mono x1 hr1
    cases r1
    cases v with
    |true=>exact L2.oP (⟨ρ1,hr1,er.mono x1,wt'⟩)
    |false=>exact L2.oO (wt' _ _ _ Ext.refl hr1 rfl)
  . cases c with
    |true=>exact h2 s1 wh pins s' σ H1 Q I1 q1
    |false=>exact⟨H1,I1,q1⟩
 |exc _ _ _=>exact uq (zE rfl)
 |stuck=>exact uq (zE rfl)
theorem ZF{rest:List Expr}{o:Out Bool}{f2:Sto→Out Bool}{pos:Pos}(h1:L2.PT X a (tT X.K X.mg env s o))(h2:∀s1,L2.PW X (.BoolOp .Or rest pos) (tT X.K X.mg env s1 (f2 s1))) :
 L2.PW X (.BoolOp .Or (a::rest) pos) (tT X.K X.mg env s (o.bind fun b s1=>if b then .ok true s1 else f2 s1)):=by
 cases o with
 |ok v s1=>
  intro wh pins sh σ H Q I h
  obtain⟨ρ,hr,er,wt⟩:=h
  refine PyProof.Rows.isTrue_or (L2.thn (h1 pins sh σ H (fun c H1=>if c=true then Q true H1 else tT X.K X.mg env s1 (f2 s1) σ H1 Q) I ⟨ρ,hr,er,fun ρ1 x H1 x1 hr1 r1=>?_⟩) fun c s' ⟨H1,I1,q1⟩=>?_)
  . have wt':=wt.mono x1 hr1
    cases r1
    cases v with
    |true=>exact L2.oP (wt' _ _ _ Ext.refl hr1 rfl)
    |false=>exact L2.oO (⟨ρ1,hr1,er.mono x1,wt'⟩)
  . cases c with
    |true=>exact⟨H1,I1,q1⟩
    |false=>exact h2 s1 wh pins s' σ H1 Q I1 q1
 |exc _ _ _=>exact uq (zE rfl)
 |stuck=>exact uq (zE rfl)
end
end M
end
section
namespace M
open PySem
section
variable {X:L2.Cx}{env:Env}{s:Sto}{E a b c:Expr}
theorem eU{e:Option Expr}{t t':L2.TO}(h:L2.PO X e t)(i:∀σ H Q,t' σ H Q→t σ H Q):L2.PO X e t':=fun pins s σ H Q I q=>h pins s σ H Q I (i σ H Q q)
theorem Vj{o:Out (Option Int)}(h:∀v s',o≠.ok v s'){σ:L2.St}{H:L2.Hp}{Q:Option Int→L2.Hp→Prop}:¬tO X.K X.mg env s o σ H Q:=by
 rintro ⟨ρ,_,_,w⟩
 cases o with
 |ok v s'=>exact h v s' rfl
 |_=>exact w
theorem mI{e:Option Expr}{o:Out (Option Int)}(h:∀v s',o≠.ok v s'):L2.PO X e (tO X.K X.mg env s o):=fun pins sh σ H Q I q=>(Vj h q).elim
theorem Wg:L2.PO X none (tO X.K X.mg env s (.ok none s)):=eU L2.aA fun σ H Q ⟨ρ,hr,er,wt⟩=>wt _ _ _ Ext.refl hr rfl
theorem YS{o:Out Val}(h:L2.PE X a (tV X.K X.mg env s o)):L2.PO X (some a) (tO X.K X.mg env s (o.bind fun v s1=>match v with|.int i=>.ok (some i) s1|_=>.stuck)):=by
 cases o with
 |ok v s1=>
  refine eU (L2.aB h) fun σ H Q ⟨ρ,hr,er,wt⟩=>⟨ρ,hr,er,fun ρ1 x H1 x1 hr1 r1=>?_⟩
  have wt':=wt.mono x1 hr1
  cases r1 with
  |int i=>exact⟨i,rfl,wt' _ _ _ Ext.refl hr1 rfl⟩
  |_=>exact wt'.elim
 |exc _ _ _=>exact mI (zE rfl)
 |stuck=>exact mI (zE rfl)
noncomputable def rMs(K:KF)(mg:Str→Option Value)(m:Bool):L2.V→Option Int→Option Int→L2.Hp→L2.VK→Prop:=fun x lo hi H Q=>∃ρ s v,HR K mg ρ s H∧RD K mg ρ H v x∧y4 K mg (RD K mg) ρ H (qe m v lo hi none s) Q
theorem Va(m:Bool):L2.SlR X (rMs X.K X.mg m):=by
 intro pins s σ H x v vl vu lo hi sl Q I rx hs pl pu h
 obtain⟨ρ,t,w,hr,rw',wt⟩:=h
 simp only[qe]at wt
 split at wt
 . cases rw' with
   |tup n e q=>exact L2.aT pins s σ H _ v vl vu lo hi sl Q I rx hs pl pu ⟨_,_,rfl,e,vU hr (q.cut lo hi) wt⟩
 . rename_i heq
   cases heq
 . split at wt
   . rename_i e
     obtain⟨p,xs,rfl,hq,q⟩:=xZ hr rw' e
     exact L2.aR pins s σ H _ v vl vu lo hi sl Q I rx hs pl pu ⟨_,_,rfl,.of hq,wU hr (q.cut lo hi) wt⟩
   . exact wt.elim
 . rename_i heq
   cases heq
theorem We{lo hi st:Option Expr}{o:Out Val}{f2 f3 f4:Sto→Out (Option Int)}{m:Bool}{p2 pos:Pos}(h1:L2.PE X a (tV X.K X.mg env s o))(h2:∀s1,L2.PO X lo (tO X.K X.mg env s1 (f2 s1)))(h3:∀s1,L2.PO X hi (tO X.K X.mg env s1 (f3 s1)))
 (h4:∀s1,L2.PO X st (tO X.K X.mg env s1 (f4 s1))) (hst:(st=none∧∀s1,f4 s1=.ok none s1)∨∃e,st=some e∧∀s1 s2,f4 s1≠.ok none s2) :
 L2.PE X (.Subscript a (.Slice lo hi st p2) pos) (tV X.K X.mg env s (o.bind fun x s1=>(f2 s1).bind fun l s2=>(f3 s2).bind fun h s3=>(f4 s3).bind fun c s4=>qe m x l h c s4)):=by
 cases o with
 |ok v s1=>
  have h2':=h2 s1
  show L2.PE X _ (tV X.K X.mg env s ((f2 s1).bind _))
  cases hl:f2 s1 with
  |ok l s2=>
   rw[hl]at h2'
   have h3':=h3 s2
   show L2.PE X _ (tV X.K X.mg env s ((f3 s2).bind _))
   cases hh:f3 s2 with
   |ok h s3=>
    rw[hh]at h3'
    have h4':=h4 s3
    show L2.PE X _ (tV X.K X.mg env s ((f4 s3).bind _))
    rcases hst with⟨rfl,e4⟩|⟨e,rfl,e4⟩
    . rw[e4 s3]
      refine yC (L2.eP (Va m) h1 h2' h3') fun σ H Q ⟨ρ,hr,er,wt⟩=>⟨ρ,hr,er,fun ρ1 x H1 x1 hr1 r1=>⟨ρ1,hr1,er.mono x1,fun ρ2 y H2 x2 hr2 r2=>?_⟩⟩
      cases r2
      refine⟨ρ2,hr2,(er.mono x1).mono x2,fun ρ3 z H3 x3 hr3 r3=>?_⟩
      cases r3
      exact⟨ρ3,s3,v,hr3,(r1.mono x2).mono x3,wt.mono ((x1.trans hr1 x2).trans hr2 x3) hr3⟩
    . cases hc:f4 s3 with
      |ok cc s4=>
       rw[hc]at h4'
       cases cc with
       |none=>exact absurd hc (e4 s3 s4)
       |some ci=>
        by_cases hv:∃vs,v=.tup vs
        case neg=>
         refine yC (L2.lg h1 h2' h3' h4') fun σ H Q ⟨ρ,hr,er,wt⟩=>⟨ρ,hr,er,fun ρ1 x H1 x1 hr1 r1=>⟨ρ1,hr1,er.mono x1,fun ρ2 y H2 x2 hr2 r2=>?_⟩⟩
         cases r2
         refine⟨ρ2,hr2,(er.mono x1).mono x2,fun ρ3 z H3 x3 hr3 r3=>?_⟩
         cases r3
         refine⟨ρ3,hr3,((er.mono x1).mono x2).mono x3,fun ρ4 z4 H4 x4 hr4 r4=>?_⟩
         cases r4
         have wt':y4 X.K X.mg (RD X.K X.mg) ρ4 H4 (qe m v l h (some ci) s4) Q:=wt.mono (((x1.trans hr1 x2).trans hr2 x3).trans hr3 x4) hr4
         have em:qe m v l h (some ci) s4=(match yk s4 v with|some vs=>if ci≠0 then newList m (L2.yR vs (L2.vR vs.length l h ci).1 ci (L2.vR vs.length l h ci).2) s4 else .stuck|Option.none=>.stuck):=by
          cases v with
          |tup vs=>exact absurd ⟨vs,rfl⟩ hv
          |_=>rfl
         rw[em]at wt'
         cases hl:yk s4 v with
         |none=>rw[hl]at wt';exact wt'.elim
         |some vs=>
          rw[hl]at wt'
          dsimp only at wt'
          obtain⟨p,xs,rfl,hq,q⟩:=xZ hr4 (((r1.mono x2).mono x3).mono x4) hl
          by_cases c0:ci≠0
          . have wt2:y4 X.K X.mg (RD X.K X.mg) ρ4 H4 (newList m (L2.yR vs (L2.vR vs.length l h ci).1 ci (L2.vR vs.length l h ci).2) s4) Q:=by rwa [if_pos c0]at wt'
            refine⟨p,xs,ci,rfl,.of hq,rfl,c0,?_⟩
            rw[←q.length]
            exact wU hr4 (q.yR _ _ _) wt2
          . rw[if_neg c0]at wt';exact wt'.elim
        refine yC (L2.iu h1 h2' h3' h4') fun σ H Q ⟨ρ,hr,er,wt⟩=>⟨ρ,hr,er,fun ρ1 x H1 x1 hr1 r1=>⟨ρ1,hr1,er.mono x1,fun ρ2 y H2 x2 hr2 r2=>?_⟩⟩
        cases r2
        refine⟨ρ2,hr2,(er.mono x1).mono x2,fun ρ3 z H3 x3 hr3 r3=>?_⟩
        cases r3
        refine⟨ρ3,hr3,((er.mono x1).mono x2).mono x3,fun ρ4 z4 H4 x4 hr4 r4=>?_⟩
        cases r4
        have xx:=((x1.trans hr1 x2).trans hr2 x3).trans hr3 x4
        have wt':y4 X.K X.mg (RD X.K X.mg) ρ4 H4 (qe m v l h (some ci) s4) Q:=wt.mono xx hr4
        have r:=((r1.mono x2).mono x3).mono x4
        cases r with
        |tup n e q=>
         change y4 X.K X.mg (RD X.K X.mg) ρ4 H4 (if ci≠0∧(L2.y6 (List.length _) l h ci).2≤zV then .ok (.tup (L2.yR _ (L2.y6 (List.length _) l h ci).1 ci (L2.y6 (List.length _) l h ci).2)) s4 else .stuck) Q at wt'
         split at wt'
         . rename_i hz
           have hlen:=q.length
           refine⟨_,_,ci,rfl,e,rfl,hz.1,by rw[←hlen,←yf];exact hz.2,?_⟩
           rw[←hlen]
           exact vU hr4 (q.yR _ _ _) wt'
         . exact wt'.elim
        |_=>obtain⟨_,e⟩:=hv;cases e
      |exc _ _ _=>exact zL (zE rfl)
      |stuck=>exact zL (zE rfl)
   |exc _ _ _=>exact zL (zE rfl)
   |stuck=>exact zL (zE rfl)
  |exc _ _ _=>exact zL (zE rfl)
  |stuck=>exact zL (zE rfl)
 |exc _ _ _=>exact zL (zE rfl)
 |stuck=>exact zL (zE rfl)
noncomputable def Mf.nm:Mf→Str
 |.count=>"count"|.append=>"append"|.extend=>"extend"|.pop=>"pop"|.index=>"index"|.join=>"join"
noncomputable def okM:Mf→Bool
 |_=>false
theorem fR{f:Mf}{o:Out Val}{f2:Sto→Out Val}{apos cpos:Pos}(hm:okM f=true)(hs:jT a=true)(hp:plain b=true)(hline:(apos.endLine == cpos.line)=true)(h1:L2.PE X a (tV X.K X.mg env s o))(h2:∀s1,L2.PE X b (tV X.K X.mg env s1 (f2 s1))) :
 L2.PE X (.Call (.Attribute a f.nm apos) [b] [] cpos) (tV X.K X.mg env s (o.bind fun x s1=>((f2 s1).bind fun v s2=>(Out.ok [v] s2:Out (List Val))).bind fun vs s2=>tS f x vs s2)):=by
 cases o with
 |ok v s1=>
  have h2':=h2 s1
  show L2.PE X _ (tV X.K X.mg env s (((f2 s1).bind fun v s2=>(Out.ok [v] s2:Out (List Val))).bind fun vs s2=>tS f v vs s2))
  cases hb:f2 s1 with
  |ok w s2=>
   rw[hb]at h2'
   show L2.PE X _ (tV X.K X.mg env s (tS f v [w] s2))
   cases f with
   |count=>cases hm
   |append=>cases hm
   |extend=>cases hm
   |pop=>cases hm
   |index=>cases hm
   |join=>cases hm
  |exc _ _ _=>exact zL (zE rfl)
  |stuck=>exact zL (zE rfl)
 |exc _ _ _=>exact zL (zE rfl)
 |stuck=>exact zL (zE rfl)
end
noncomputable def spN(T:Tbl)(K:KF)(mg:Str→Option Value)(n:Nat)(f:Str)(ver:Nat):L2.Sp:=fun vs H Q _=>∃ρ s args,HR K mg ρ s H∧RDs K mg ρ H args vs∧y4 K mg (RD K mg) ρ H (zF T n f ver args s) Q
structure Callee(T:Tbl)(n:Nat)(X:L2.Cx)(f:Str)(ver:Nat)(F:Fn):Prop where
 ex:∃fa fd,X.mg f=some (.ref fa)∧PySem.W.keepIn X.K (.ref fa)=true∧L2.Binds X.K fd F.ps []∧L2.sI X.prog X.w X.K X.mg X.base L2.CX0 n fa fd F.ps (spN T X.K X.mg n f ver)
section
variable {X:L2.Cx}{env:Env}{s:Sto}{T:Tbl}{n ver:Nat}{f:Str}{F:Fn}
theorem fO{p pos:Pos}(C:Callee T n X f ver F)(hr0:L2.y1 n X.A)(hg:L2.Gl X f)(hd:(f == ("__debug__":Str))=false):L2.PE X (.Call (.Name f p) [] [] pos) (tV X.K X.mg env s (zF T n f ver [] s)):=by
 obtain⟨fa,fd,hm,hk,hb,hf⟩:=C.ex
 exact yC (L2.eI hf hr0 hg hm hk hb .nil L2.ZJ hd) fun σ H Q ⟨ρ,hr,er,wt⟩=>⟨ρ,s,[],hr,.nil,wt⟩
theorem bE{es:List Expr}{o:Out (List Val)}{p pos:Pos}(C:Callee T n X f ver F)(hr0:L2.y1 n X.A)(hg:L2.Gl X f)(hd:(f == ("__debug__":Str))=false)(hp:yp es=true)(hne:es≠[])(h:L2.PA X es (tVs X.K X.mg env s o)) :
 L2.PE X (.Call (.Name f p) es [] pos) (tV X.K X.mg env s (o.bind (zF T n f ver))):=by
 obtain⟨fa,fd,hm,hk,hb,hf⟩:=C.ex
 cases o with
 |ok vs s1=>
  cases es with
  |nil=>exact absurd rfl hne
  |cons e es=>
   rw[yp,Bool.and_eq_true]at hp
   refine yC (L2.bx hf hr0 hg hm hk hb .nil L2.ZJ h hd (L2.y3 (zt hp.1)) (uO hp.2)) fun σ H Q ⟨ρ,hr,er,wt⟩=>⟨ρ,hr,er,fun ρ1 xs H1 x1 hr1 r1=>?_⟩
   show spN T X.K X.mg n f ver (xs++[]) H1 Q L2.E0
   rw[List.append_nil]
   exact⟨ρ1,s1,vs,hr1,r1,wt.mono x1 hr1⟩
 |exc _ _ _=>exact zL (zE rfl)
 |stuck=>exact zL (zE rfl)
end
end M
end
section
namespace M
open PySem
theorem x6:∀{c:Bool} {p:Prop},(c=true→p)→cond c p True
 |true,_,h=>h rfl
 |false,_,_=>True.intro
theorem rG{c:Bool}{p:Prop}(h:cond c p True)(e:c=true):p:=by subst e;exact h
mutual
theorem WA:∀(a b:Val),cond (a.beq b) (a=b) True
 |.none,b=>by cases b<;>first|exact(rfl:Val.none=Val.none)|exact True.intro
 |.bool x,b=>by cases b with|bool y=>exact x6 fun h=>congrArg Val.bool (eq_of_beq (show (x == y)=true from h))|_=>exact True.intro
 |.int x,b=>by cases b with|int y=>exact x6 fun h=>congrArg Val.int (eq_of_beq (show (x == y)=true from h))|_=>exact True.intro
 |.str x,b=>by cases b with|str y=>exact x6 fun h=>congrArg Val.str (eq_of_beq (show (x == y)=true from h))|_=>exact True.intro
 |.tup x,b=>by cases b with|tup y=>exact x6 fun h=>congrArg Val.tup (rG (p9 x y) h)|_=>exact True.intro
 |.lst x,b=>by cases b with|lst y=>exact x6 fun h=>congrArg Val.lst (rG (p9 x y) h)|_=>exact True.intro
 |.dct0,b=>by cases b<;>first|exact(rfl:Val.dct0=Val.dct0)|exact True.intro
 |.ctup x,b=>by cases b with|ctup y=>exact x6 fun h=>congrArg Val.ctup (eq_of_beq (show (x == y)=true from h))|_=>exact True.intro
 |.scr x,b=>by cases b with|scr y=>exact x6 fun h=>congrArg Val.scr (eq_of_beq (show (x == y)=true from h))|_=>exact True.intro
 |.ref x,b=>by cases b with|ref y=>exact x6 fun h=>congrArg Val.ref (eq_of_beq (show (x == y)=true from h))|_=>exact True.intro
 |.fn x,b=>by cases b with|fn y=>exact x6 fun h=>congrArg Val.fn (eq_of_beq (show (x == y)=true from h))|_=>exact True.intro
 |.ty x,b=>by cases b with|ty y=>exact x6 fun h=>congrArg Val.ty (eq_of_beq (show (x == y)=true from h))|_=>exact True.intro
 |.dref x,b=>by cases b with|dref y=>exact x6 fun h=>congrArg Val.dref (eq_of_beq (show (x == y)=true from h))|_=>exact True.intro
theorem p9:∀(a b:List Val),cond (tL a b) (a=b) True
 |[],[]=>(rfl:([]:List Val)=[])
 |[],_::_=>True.intro
 |_::_,[]=>True.intro
 |x::xs,y::ys=>x6 fun h=>by
  have h:(x.beq y&&tL xs ys)=true:=h
  rw[Bool.and_eq_true]at h
  rw[rG (WA x y) h.1,rG (p9 xs ys) h.2]
end
theorem uY{a b:List Val}(h:tL a b=true):a=b:=rG (p9 a b) h
mutual
theorem beq_refl:∀a:Val,a.beq a=true
 |.none=>rfl
 |.bool x=>(beq_self_eq_true x:(x == x)=true)
 |.int x=>(beq_self_eq_true x:(x == x)=true)
 |.str x=>(beq_self_eq_true x:(x == x)=true)
 |.tup x=>vn x
 |.lst x=>vn x
 |.dct0=>rfl
 |.ctup x=>(beq_self_eq_true x:(x == x)=true)
 |.scr x=>(beq_self_eq_true x:(x == x)=true)
 |.ref x=>(beq_self_eq_true x:(x == x)=true)
 |.fn x=>(beq_self_eq_true x:(x == x)=true)
 |.ty x=>(beq_self_eq_true x:(x == x)=true)
 |.dref x=>(beq_self_eq_true x:(x == x)=true)
theorem vn:∀a:List Val,tL a a=true
 |[]=>rfl
 |x::xs=>by rw[tL,beq_refl x,vn xs];rfl
end
section
variable {K:KF}{mg:Str→Option Value}
theorem Mv.refl{ρ:Own}{H:L2.Hp}:Mv ρ H ρ H:=⟨fun a o e n=>⟨e,n⟩,fun i a e=>e,fun _ _=>rfl⟩
theorem Mv.trans{ρ ρ1 ρ2:Own}{H H1 H2:L2.Hp}(x:Mv ρ H ρ1 H1)(y:Mv ρ1 H1 ρ2 H2):Mv ρ H ρ2 H2:=
 ⟨fun a o e n=>y.keep a o (x.keep a o e n).1 (x.keep a o e n).2,fun i a e=>y.get i a (x.get i a e),fun a ha=>by
  obtain⟨i,hi⟩:=List.getElem?_of_mem ha
  exact(y.kd a (List.mem_of_getElem? (x.get i a hi))).trans (x.kd a ha)⟩
structure Walk(K:KF)(mg:Str→Option Value)(ρ:Own)(H:L2.Hp)(r:Src)(J:L2.It):Prop where
 len:r.xs.length≤zV
 go:∀(ρ2:Own) (H2:L2.Hp) (s2:Sto) (i:Nat) (v:Val),Mv ρ H ρ2 H2→HR K mg ρ2 s2 H2→r.ok s2=true→r.xs[i]?=some v→J.go i H2∧∀x H3,J.yld i H2 x H3→(H3=H2∨∃p o,H2 p=none∧H3=L2.upd H2 p o)∧RD K mg ρ2 H3 v x
 stop:∀(ρ2:Own) (H2:L2.Hp) (s2:Sto) (i:Nat),Mv ρ H ρ2 H2→HR K mg ρ2 s2 H2→r.ok s2=true→i=r.xs.length→J.stop i H2
theorem Walk.mv{ρ ρ1:Own}{H H1:L2.Hp}{r:Src}{J:L2.It}(w:Walk K mg ρ H r J)(x:Mv ρ H ρ1 H1):Walk K mg ρ1 H1 r J:=
 ⟨w.len,fun ρ2 H2 s2 i v y=>w.go ρ2 H2 s2 i v (x.trans y),fun ρ2 H2 s2 i y=>w.stop ρ2 H2 s2 i (x.trans y)⟩
def gJ(H:L2.Hp):Prop:=∀a xs,(H a=some (.tup xs)∨H a=some (.lst xs))→xs.length≤sizeLine
theorem uo{X:L2.Cx}{tg it:Expr}{wi:L2.TI}(h:L2.PI X tg it wi):L2.PI X tg it (fun σ H R=>wi σ H fun J H1=>gJ H1→R J H1):=fun pins s σ H R I q=>
 L2.thn (h pins s σ H _ I q) fun v s1 h1=>L2.thn h1 fun itv s2 ⟨i,fp,tn,J,H',e,I',T,t0,f,r⟩=>⟨i,fp,tn,J,H',e,I',T,t0,f,r fun a xs hx=>by
  rcases hx with hx|hx
  . obtain⟨z,_⟩:=(show L2.zy X.prog X.w H' s2.heap a (.tup xs) from I'.hok a _ hx);exact z
  . obtain⟨z,_⟩:=(show L2.zy X.prog X.w H' s2.heap a (.lst xs) from I'.hok a _ hx);exact z⟩
theorem dy{ρ:Own}{H:L2.Hp}{a:Addr}{vs:List Val}{xs:List L2.V}(hz:vs.length≤zV)(n:ρ.no a)(e:H a=some (.tup xs))(q:RDs K mg ρ H vs xs):Walk K mg ρ H ⟨vs,none⟩ (L2.Itt K a) where
 len:=hz
 go:=fun ρ2 H2 s2 i v x hr _ hv=>by
  have e2:=(x.keep a _ e n).1
  have q2:=RDs.mv x q
  obtain⟨y,h1,h2⟩:=q2.get hv
  refine⟨⟨xs,y,.of e2,h1⟩,fun z H3 ⟨e3,h3⟩=>⟨.inl e3,?_⟩⟩
  subst e3
  have:=h3 xs (.of e2)
  rw[h1]at this;cases this
  exact h2
 stop:=fun ρ2 H2 s2 i x hr _ hi=>⟨xs,.of (x.keep a _ e n).1,by rw[←q.length];exact Nat.le_of_eq hi.symm⟩
theorem dv{ρ:Own}{H:L2.Hp}{a:Addr}{vs:List Val}{xs:List L2.V}(hz:vs.length≤zV)(n:ρ.no a)(e:H a=some (.lst xs))(q:RDs K mg ρ H vs xs):Walk K mg ρ H ⟨vs,none⟩ (L2.Itl K a) where
 len:=hz
 go:=fun ρ2 H2 s2 i v x hr _ hv=>by
  have e2:=(x.keep a _ e n).1
  have q2:=RDs.mv x q
  obtain⟨y,h1,h2⟩:=q2.get hv
  refine⟨⟨xs,y,.of e2,h1⟩,fun z H3 ⟨e3,h3⟩=>⟨.inl e3,?_⟩⟩
  subst e3
  have:=h3 xs (.of e2)
  rw[h1]at this;cases this
  exact h2
 stop:=fun ρ2 H2 s2 i x hr _ hi=>⟨xs,.of (x.keep a _ e n).1,by rw[←q.length];exact Nat.le_of_eq hi.symm⟩
theorem gA{ρ:Own}{H:L2.Hp}{a:Addr}{ns:List Int}(k:KT K a (ns.map L2.V.int)):Walk K mg ρ H ⟨ns.map .int,none⟩ (L2.Itt K a) where
 len:=by
  obtain⟨o,its,n,_,_,_,h4,h5⟩:=k
  have:=h5.length
  simp only[List.length_map,Array.length_toList]at this
  show (ns.map Val.int).length≤_
  rw[List.length_map,yf,this];exact h4
 go:=fun ρ2 H2 s2 i v x hr _ hv=>by
  obtain⟨y,h1,h2⟩:=(RDs.ints (K:=K) (mg:=mg) (ρ:=ρ2) (H:=H2) ns).get hv
  refine⟨⟨_,y,k.sqt,h1⟩,fun z H3 ⟨e3,h3⟩=>⟨.inl e3,?_⟩⟩
  subst e3
  have:=h3 _ k.sqt
  rw[h1]at this;cases this
  exact h2
 stop:=fun ρ2 H2 s2 i x hr _ hi=>⟨_,k.sqt,by rw[List.length_map];rw[hi];simp⟩
theorem dw{ρ:Own}{H:L2.Hp}{i0:Nat}{a:Addr}{vs:List Val}(hz:vs.length≤zV)(e:ρ.o[i0]?=some a):Walk K mg ρ H ⟨vs,some i0⟩ (L2.Itl K a) where
 len:=hz
 go:=fun ρ2 H2 s2 i v x hr ho hv=>by
  simp only[Src.ok]at ho
  split at ho
  . rename_i ws hw
    cases uY ho
    obtain⟨b,xs,e1,e2,q⟩:=hr.obj i0 _ hw
    rw[x.get _ _ e]at e1;cases e1
    obtain⟨y,h1,h2⟩:=q.get hv
    refine⟨⟨xs,y,.of e2,h1⟩,fun z H3 ⟨e3,h3⟩=>⟨.inl e3,?_⟩⟩
    subst e3
    have:=h3 xs (.of e2)
    rw[h1]at this;cases this
    exact h2
  . cases ho
 stop:=fun ρ2 H2 s2 i x hr ho hi=>by
  simp only[Src.ok]at ho
  split at ho
  . rename_i ws hw
    cases uY ho
    obtain⟨b,xs,e1,e2,q⟩:=hr.obj i0 _ hw
    rw[x.get _ _ e]at e1;cases e1
    exact⟨xs,.of e2,by rw[←q.length];exact Nat.le_of_eq hi.symm⟩
  . cases ho
theorem dE{lo:Int}{n i:Nat}:(yX lo n)[i]?=if i<n then some (.int (lo+i)) else none:=by
 unfold yX
 rw[List.getElem?_map]
 by_cases h:i<n
 . rw[if_pos h,List.getElem?_range h];rfl
 . rw[if_neg h,List.getElem?_eq_none (by rw[List.length_range];omega)];rfl
theorem mO{lo:Int}{n:Nat}:(yX lo n).length=n:=by unfold yX;rw[List.length_map,List.length_range]
theorem md{ρ:Own}{H:L2.Hp}{lo:Int}{n:Nat}(hz:n≤zV):Walk K mg ρ H ⟨yX lo n,none⟩ (L2.Itr lo n) where
 len:=by show (yX lo n).length≤_;rw[mO];exact hz
 go:=fun ρ2 H2 s2 i v x hr _ hv=>by
  have hv':(yX lo n)[i]?=some v:=hv
  rw[dE]at hv'
  split at hv'
  . rename_i hi
    cases hv'
    refine⟨hi,fun z H3 ⟨e3,h3⟩=>⟨.inl e3,?_⟩⟩
    subst h3
    exact .int _
  . cases hv'
 stop:=fun ρ2 H2 s2 i x hr _ hi=>by
  have:i=(yX lo n).length:=hi
  rw[mO]at this;exact Nat.le_of_eq this.symm
noncomputable def tI(env:Env)(s:Sto)(o:Out Src):L2.TI:=fun σ H R=>∃ρ,HR K mg ρ s H∧ER K mg ρ H env σ∧(match o with
 |.ok r s'=>∀ρ' H' J,Ext ρ H ρ' H'→HR K mg ρ' s' H'→Walk K mg ρ' H' r J→R J H'
 |_=>False)
end
section
variable {X:L2.Cx}{env:Env}{s:Sto}{a b tg:Expr}
theorem uN{it:Expr}{t t':L2.TI}(h:L2.PI X tg it t)(i:∀σ H R,t' σ H R→t σ H R):L2.PI X tg it t':=fun pins s σ H R I q=>h pins s σ H R I (i σ H R q)
theorem yM{it:Expr}{o:Out Src}(h:∀v s',o≠.ok v s'):L2.PI X tg it (tI (K:=X.K) (mg:=X.mg) env s o):=fun pins sh σ H R I q=>by
 obtain⟨ρ,_,_,w⟩:=q
 cases o with
 |ok v s'=>exact(h v s' rfl).elim
 |exc _ _ _=>exact w.elim
 |stuck=>exact w.elim
theorem gJ.of{K:KF}{mg:Str→Option Value}{ρ:Own}{H:L2.Hp}(z:gJ H){a:Addr}{vs:List Val}{xs:List L2.V}(q:RDs K mg ρ H vs xs)(h:H a=some (.tup xs)∨H a=some (.lst xs)):vs.length≤zV:=by
 rw[q.length,yf];exact z a xs h
theorem YQ{o:Out Val}(h:L2.PE X a (tV X.K X.mg env s o)):L2.PI X tg a (tI (K:=X.K) (mg:=X.mg) env s (o.bind fun v s1=>match srcOf s1 v with|some r=>.ok r s1|Option.none=>.stuck)):=by
 cases o with
 |ok v s1=>
  show L2.PI X tg a (tI (K:=X.K) (mg:=X.mg) env s (match srcOf s1 v with|some r=>.ok r s1|Option.none=>.stuck))
  cases v with
  |tup vs=>
   refine uN (uo (L2.eR h)) fun σ H R ⟨ρ,hr,er,w⟩=>⟨ρ,hr,er,fun ρ1 x H1 x1 hr1 r1=>?_⟩
   cases r1 with
   |tup n e q=>exact⟨_,rfl,⟨_,.of e⟩,fun z=>w ρ1 H1 _ x1 hr1 (dy (z.of q (.inl e)) n e q)⟩
  |lst vs=>
   refine uN (uo (L2.jZ h)) fun σ H R ⟨ρ,hr,er,w⟩=>⟨ρ,hr,er,fun ρ1 x H1 x1 hr1 r1=>?_⟩
   cases r1 with
   |lst n e q=>exact⟨_,rfl,⟨_,.of e⟩,fun z=>w ρ1 H1 _ x1 hr1 (dv (z.of q (.inr e)) n e q)⟩
  |ctup ns=>
   refine uN (L2.eR h) fun σ H R ⟨ρ,hr,er,w⟩=>⟨ρ,hr,er,fun ρ1 x H1 x1 hr1 r1=>?_⟩
   cases r1 with
   |ctup k=>exact⟨_,rfl,⟨_,k.sqt⟩,w ρ1 H1 _ x1 hr1 (gA k)⟩
  |ref i=>
   simp only[srcOf]
   cases hs:s1[i]? with
   |none=>exact yM (zE rfl)
   |some cl=>
    cases cl with
    |lst vs=>
     refine uN (uo (L2.jZ h)) fun σ H R ⟨ρ,hr,er,w⟩=>⟨ρ,hr,er,fun ρ1 x H1 x1 hr1 r1=>?_⟩
     cases r1 with
     |ref e=>
      obtain⟨b',xs,e1,e2,q⟩:=hr1.obj i _ hs
      rw[e]at e1;cases e1
      exact⟨_,rfl,⟨_,.of e2⟩,fun z=>w ρ1 H1 _ x1 hr1 (dw (z.of q (.inr e2)) e)⟩
    |_=>exact yM (zE rfl)
  |_=>exact yM (zE rfl)
 |exc _ _ _=>exact yM (zE rfl)
 |stuck=>exact yM (zE rfl)
theorem iJ{o:Out Val}{p pos:Pos}(hp:plain a=true)(hg:L2.Gl X "range")(hm:X.mg "range"=none)(h:L2.PE X a (tV X.K X.mg env s o)) :
 L2.PI X tg (.Call (.Name "range" p) [a] [] pos) (tI (K:=X.K) (mg:=X.mg) env s (o.bind fun x s1=>match x with
  |.int j=>if -(2 ^ 62)≤j∧j≤zV then .ok ⟨yX 0 j.toNat,Option.none⟩ s1 else .stuck
  |_=>.stuck)):=by
 cases o with
 |ok v s1=>
  have st:starEach [a] X.env=[(false,eval a X.env)]:=L2.y3 (zt hp)
  refine uN (L2.iw hg hm (L2.pac h L2.oX (zt hp)) st) fun σ H R ⟨ρ,hr,er,w⟩=>⟨ρ,hr,er,fun ρ1 x H1 x1 hr1 r1=>?_⟩
  cases r1 with
  |int j=>
   simp only[zN]at w
   by_cases hz:-(2 ^ 62)≤j∧j≤zV
   . rw[if_pos hz]at w
     have hl:(zV:Int)<2 ^ 62:=by decide
     exact⟨j,rfl,hz.1,by omega,w ρ1 H1 _ x1 hr1 (md (by omega))⟩
   . rw[if_neg hz]at w;exact w.elim
  |_=>exact w.elim
 |exc _ _ _=>exact yM (zE rfl)
 |stuck=>exact yM (zE rfl)
theorem iK{o:Out Val}{f2:Sto→Out Val}{p pos:Pos}(hp:plain a=true)(hp2:plain b=true)(hg:L2.Gl X "range")(hm:X.mg "range"=none)(h:L2.PE X a (tV X.K X.mg env s o))(h2:∀s1,L2.PE X b (tV X.K X.mg env s1 (f2 s1))) :
 L2.PI X tg (.Call (.Name "range" p) [a,b] [] pos) (tI (K:=X.K) (mg:=X.mg) env s (o.bind fun x s1=>(f2 s1).bind fun y s2=>match x,y with
  |.int i,.int j=>if -(2 ^ 62)≤i∧i<2 ^ 62∧-(2 ^ 62)≤j∧j<2 ^ 62∧j-i≤zV then .ok ⟨yX i (j-i).toNat,Option.none⟩ s2 else .stuck
  |_,_=>.stuck)):=by
 cases o with
 |ok v s1=>
  have h2':=h2 s1
  simp only[zN]
  cases hb:f2 s1 with
  |ok w s2=>
   rw[hb]at h2'
   have st2:starEach [b] X.env=[(false,eval b X.env)]:=L2.y3 (zt hp2)
   have st:starEach [a,b] X.env=[(false,eval a X.env),(false,eval b X.env)]:=by rw[L2.y3 (zt hp),st2]
   refine uN (L2.iy hg hm (L2.pac h (L2.pac h2' L2.oX (zt hp2)) (zt hp)) st st2) fun σ H R ⟨ρ,hr,er,wt⟩=>⟨ρ,hr,er,fun ρ1 x H1 x1 hr1 r1=>⟨ρ1,hr1,er.mono x1,fun ρ2 y H2 x2 hr2 r2=>?_⟩⟩
   simp only[zN]at wt
   cases r1 with
   |int i=>
    cases r2 with
    |int j=>
     simp only at wt
     by_cases hz:-(2 ^ 62)≤i∧i<2 ^ 62∧-(2 ^ 62)≤j∧j<2 ^ 62∧j-i≤zV
     . rw[if_pos hz]at wt
       exact⟨i,j,rfl,⟨hz.1,hz.2.1,hz.2.2.1,hz.2.2.2.1⟩,wt ρ2 H2 _ (x1.trans hr1 x2) hr2 (md (by omega))⟩
     . rw[if_neg hz]at wt;exact wt.elim
    |_=>exact wt.elim
   |_=>exact wt.elim
  |exc _ _ _=>exact yM (zE rfl)
  |stuck=>exact yM (zE rfl)
 |exc _ _ _=>exact yM (zE rfl)
 |stuck=>exact yM (zE rfl)
theorem kN:∀{vs ws:List Val} {i:Nat} {v:Val},(qR vs ws)[i]?=some v→∃a b,vs[i]?=some a∧ws[i]?=some b∧v=.tup [a,b]
 |[],_,_,_,h=>by cases h
 |_::_,[],_,_,h=>by cases h
 |a::vs,b::ws,0,v,h=>⟨a,b,rfl,rfl,(Option.some.inj h).symm⟩
 |a::vs,b::ws,i+1,v,h=>kN (vs:=vs) (ws:=ws) (i:=i) h
theorem ox:∀{vs ws:List Val},ws.length≤vs.length→(qR vs ws).length=ws.length
 |_,[],_=>by cases ‹List Val›<;>rfl
 |[],_::_,h=>by cases h
 |_::vs,_::ws,h=>by show (qR vs ws).length+1=_;rw[ox (Nat.le_of_succ_le_succ h)];rfl
theorem dz{ρ:Own}{H:L2.Hp}{a b:Addr}{vs ws:List Val}{xs ys:List L2.V}(hz:vs.length≤zV)(hl:ws.length≤vs.length)(n:ρ.no a)(e:H a=some (.tup xs))(q:RDs K mg ρ H vs xs)(n':ρ.no b)(e':H b=some (.tup ys))(q':RDs K mg ρ H ws ys):Walk K mg ρ H ⟨qR vs ws,none⟩ (L2.Itz K a b) where
 len:=by show (qR vs ws).length≤_;rw[ox hl];exact Nat.le_trans hl hz
 go:=fun ρ2 H2 s2 i v x hr _ hv=>by
  have e2:=(x.keep a _ e n).1
  have e2':=(x.keep b _ e' n').1
  obtain⟨w,w',h0,h0',rfl⟩:=kN hv
  obtain⟨y,h1,h2⟩:=(RDs.mv x q).get h0
  obtain⟨y',h1',h2'⟩:=(RDs.mv x q').get h0'
  refine⟨⟨xs,y,ys,y',.of e2,h1,.of e2',h1'⟩,fun z H3 ⟨t,u,u',ht,e3,h3,h3',e4⟩=>⟨.inr ⟨t,_,ht,e4⟩,?_⟩⟩
  subst e3 e4
  have t1:=h3 xs (.of e2)
  rw[h1]at t1;cases t1
  have t2:=h3' ys (.of e2')
  rw[h1']at t2;cases t2
  have X:=Ext.new hr ht (.tup [y,y'])
  exact .tup (hr.new ht) L2.zo (.cons (h2.mono X) (.cons (h2'.mono X) .nil))
 stop:=fun ρ2 H2 s2 i x hr _ hi=>by
  have hi:i=ws.length:=hi.trans (ox hl)
  by_cases he:vs.length=ws.length
  . exact .inl ⟨xs,.of (x.keep a _ e n).1,by rw[←q.length,hi];exact he⟩
  . have hlt:i<vs.length:=by omega
    obtain⟨y,h1,_⟩:=(RDs.mv x q).get (List.getElem?_eq_getElem hlt)
    exact .inr ⟨xs,y,ys,.of (x.keep a _ e n).1,h1,.of (x.keep b _ e' n').1,by rw[←q'.length,hi]⟩
theorem YR{es:List Expr}{k:Nat}{o:Out Val}{f2:Sto→Out Val}{p pos tp:Pos}(hp:plain a=true)(hp2:plain b=true)(hg:L2.Gl X "zip")(hm:X.mg "zip"=none)(h:L2.PE X a (tV X.K X.mg env s o))(h2:∀s1,L2.PE X b (tV X.K X.mg env s1 (f2 s1))) :
 L2.PI X (.Tuple es k tp) (.Call (.Name "zip" p) [a,b] [] pos) (tI (K:=X.K) (mg:=X.mg) env s (o.bind fun x s1=>(f2 s1).bind fun y s2=>match x,y with
  |.tup vs,.tup ws=>if ws.length≤vs.length then .ok ⟨qR vs ws,Option.none⟩ s2 else .stuck
  |_,_=>.stuck)):=by
 cases o with
 |ok v s1=>
  have h2':=h2 s1
  simp only[zN]
  cases hb:f2 s1 with
  |ok w s2=>
   rw[hb]at h2'
   have st2:starEach [b] X.env=[(false,eval b X.env)]:=L2.y3 (zt hp2)
   have st:starEach [a,b] X.env=[(false,eval a X.env),(false,eval b X.env)]:=by rw[L2.y3 (zt hp),st2]
   refine uN (uo (L2.XJ hg hm (L2.pac h (L2.pac h2' L2.oX (zt hp2)) (zt hp)) st st2)) fun σ H R ⟨ρ,hr,er,wt⟩=>⟨ρ,hr,er,fun ρ1 x H1 x1 hr1 r1=>⟨ρ1,hr1,er.mono x1,fun ρ2 y H2 x2 hr2 r2=>?_⟩⟩
   simp only[zN]at wt
   have r1:=r1.mono x2
   cases r1 with
   |tup n e q=>
    cases r2 with
    |tup n' e' q'=>
     simp only at wt
     rename_i vs _ _ ws _ _
     by_cases hz:ws.length≤vs.length
     . rw[if_pos hz]at wt
       exact⟨_,_,rfl,⟨_,.of e⟩,⟨_,.of e'⟩,fun z=>wt ρ2 H2 _ (x1.trans hr1 x2) hr2 (dz (z.of q (.inl e)) hz n e q n' e' q')⟩
     . rw[if_neg hz]at wt;exact wt.elim
    |_=>exact wt.elim
   |_=>exact wt.elim
  |exc _ _ _=>exact yM (zE rfl)
  |stuck=>exact yM (zE rfl)
 |exc _ _ _=>exact yM (zE rfl)
 |stuck=>exact yM (zE rfl)
end
end M
end
section
namespace M
open PySem
def tK(K:KF)(mg:Str→Option Value)(t:Tgt)(g:L2.TG):Prop:=∀(ρ:Own) (s:Sto) (H:L2.Hp) (v:Val) (x:L2.V) (env env':Env) (σ:L2.St) (Q:L2.St→L2.Hp→Prop),HR K mg ρ s H→RD K mg ρ H v x→ER K mg ρ H env σ→yq t v env=some env' →
 (∀σ',ER K mg ρ H env' σ'→Q σ' H)→g x σ H Q
theorem uz{K:KF}{mg:Str→Option Value}{i:Nat}:tK K mg (.nm i) (L2.vT i):=fun ρ s H v x env env' σ Q hr r er e q=>by
 cases e
 exact q _ (er.set i r)
noncomputable def oJ:List Nat→L2.TGs
 |[]=>L2.WL
 |i::is=>L2.ZC (L2.vT i) (oJ is)
theorem pP{K:KF}{mg:Str→Option Value}{ρ:Own}{H:L2.Hp}{Q:L2.St→L2.Hp→Prop}:∀{is:List Nat} {vs:List Val} {xs:List L2.V} {env:Env} {σ:L2.St},RDs K mg ρ H vs xs→ER K mg ρ H env σ→vs.length=is.length →
 (∀σ',ER K mg ρ H ((is.zip vs).foldl (fun e p=>e.set p.1 (some p.2)) env) σ'→Q σ' H)→oJ is xs σ H Q
 |[],[],_,env,σ,.nil,er,_,q=>⟨rfl,q σ er⟩
 |[],_::_,_,_,_,_,_,h,_=>by cases h
 |_::_,[],_,_,_,_,_,h,_=>by cases h
 |i::is,v::vs,x::xs,env,σ,.cons r rs,er,h,q=>⟨x,xs,rfl,pP rs (er.set i r) (by simpa using h) q⟩
theorem w9{K:KF}{mg:Str→Option Value}{is:List Nat}:tK K mg (.nms is) (L2.WN K is.length (oJ is)):=fun ρ s H v x env env' σ Q hr r er e q=>by
 simp only[yq]at e
 split at e
 . split at e
   . rename_i hl
     cases e
     cases r with
     |tup n e q2=>exact⟨_,_,rfl,.of e,by rw[←q2.length];exact hl,pP q2 er hl q⟩
   . cases e
 . cases e
noncomputable def yT(sc:Scope)(N:List Str):List Nat→List Expr→Bool
 |[],[]=>true
 |i::is,.Name x _::es=>decide (N[i]?=some x)&&(decide (sc.names.lookup x=some .local)||decide (sc.names.lookup x=some .cell))&&yT sc N is es
 |_,_=>false
noncomputable def ckT(sc:Scope)(N:List Str):Tgt→Expr→Bool
 |.nm i,.Name x _=>decide (N[i]?=some x)&&(decide (sc.names.lookup x=some .local)||decide (sc.names.lookup x=some .cell))
 |.nms is,.Tuple es _ _=>yT sc N is es&&decide (es≠[])
 |_,_=>false
section
variable {X:L2.Cx}
structure Scp(sc:Scope)(N:List Str)(X:L2.Cx):Prop where
 hN:X.N=N
 nd:N.Nodup
 vis:∀x,sc.names.lookup x=some .local∨sc.names.lookup x=some .cell∨sc.names.lookup x=some .free→L2.Vis X.env.scope x
 loc:∀x,sc.names.lookup x=some .local∨sc.names.lookup x=some .cell→L2.Loc X.env.scope x∧(X.fn x=true∨X.env.scope.names.lookup x=some .local)
 gl:∀x,sc.names.lookup x=some .globalImplicit→L2.Gl X x
 cf:∀x,sc.names.lookup x=some .cell∨sc.names.lookup x=some .free→X.env.kindOf x=some .cell∨X.env.kindOf x=some .free
theorem pT{sc:Scope}{N:List Str}(S:Scp sc N X){i:Nat}{x:Str}{p:Pos}(h1:N[i]?=some x)(h2:sc.names.lookup x=some .local∨sc.names.lookup x=some .cell):L2.PG X (.Name x p) (L2.vT i):=by
 obtain⟨a,b⟩:=S.loc x h2
 exact L2.b7 (by rw[S.hN];exact S.nd) (by rw[S.hN];exact h1) a b
theorem xf{sc:Scope}{N:List Str}(S:Scp sc N X):∀{is:List Nat} {es:List Expr},yT sc N is es=true→L2.PGs X es (oJ is)∧(assignEach es X.env).length=is.length∧(assignEach es X.env).findIdx? (·.1)=none
 |[],[],_=>⟨L2.b8,rfl,rfl⟩
 |[],_::_,h=>by cases h
 |_::_,[],h=>by cases h
 |i::is,e::es,h=>by
  cases e with
  |Name x p=>
   simp only[yT,Bool.and_eq_true,Bool.or_eq_true,decide_eq_true_eq]at h
   obtain⟨a,b,c⟩:=xf S h.2
   refine⟨L2.eQ (pT S h.1.1 h.1.2) a,?_,?_⟩
   . show (assignEach es X.env).length+1=is.length+1
     rw[b]
   . show List.findIdx? (·.1) ((false,assign (.Name x p) X.env)::assignEach es X.env)=none
     rw[List.findIdx?_cons]
     simp only[Bool.false_eq_true,if_false]
     rw[c];rfl
  |_=>cases h
theorem VI{sc:Scope}{N:List Str}(S:Scp sc N X)(hc:X.calm=true){t:Tgt}{e:Expr}(h:ckT sc N t e=true):∃g,L2.PG X e g∧tK X.K X.mg t g:=by
 cases t with
 |nm i=>
  cases e with
  |Name x p=>
   simp only[ckT,Bool.and_eq_true,Bool.or_eq_true,decide_eq_true_eq]at h
   exact⟨_,pT S h.1 h.2,uz⟩
  |_=>cases h
 |nms is=>
  cases e with
  |Tuple es k p=>
   simp only[ckT,Bool.and_eq_true,decide_eq_true_eq]at h
   obtain⟨a,b,c⟩:=xf S h.1
   exact⟨_,L2.tY hc a b c,w9⟩
  |_=>cases h
end
structure Lp(acc:Addr)(ρ:Own)(H:L2.Hp)(ρ':Own)(H':L2.Hp):Prop where
 pre:∃new:List Addr,ρ'.o=ρ.o++new∧∀a∈new,H a=none
 hid:ρ'.h=acc::ρ.h
 keep:∀(a:Addr) (o:L2.HO),H a=some o→a ∉ ρ.o→H' a=some o
 kd:∀a∈ρ.o,hk (H' a)=hk (H a)
section
variable {K:KF}{mg:Str→Option Value}{ρ ρ1 ρ2:Own}{H H1 H2:L2.Hp}{s s1:Sto}{acc:Addr}
noncomputable def Own.hide(ρ:Own)(acc:Addr):Own:=⟨ρ.o,acc::ρ.h⟩
theorem oM(hr:HR K mg ρ s H)(hn:H acc=none)(o:L2.HO):Mv ρ H (ρ.hide acc) (L2.upd H acc o):=
 ⟨fun a u e n=>⟨by rw[L2.zQ (L2.zi e hn)];exact e,n.1,fun hm=>by
  rcases List.mem_cons.mp hm with z|z
  . exact L2.zi e hn z
  . exact n.2 z⟩,fun i a e=>e,fun a ha=>by rw[L2.zQ fun z=>(hr.new hn).1 (by rw[←z];exact ha)]⟩
theorem HR.hide(hr:HR K mg ρ s H)(hn:H acc=none){xs:List L2.V}:HR K mg (ρ.hide acc) s (L2.upd H acc (.lst xs)):=by
 refine⟨hr.len,hr.nd,fun i c e=>?_,fun a ha=>?_⟩
 . obtain⟨a,e1,q⟩:=hr.cel i c e
   obtain⟨o,e2⟩:=q.there
   exact⟨a,e1,q.mv (oM hr hn _) (L2.zQ (L2.zi e2 hn))⟩
 . rcases List.mem_cons.mp ha with z|z
   . subst z;exact⟨⟨xs,L2.zo⟩,(hr.new hn).1⟩
   . obtain⟨⟨ys,e⟩,n⟩:=hr.hid a z
     exact⟨⟨ys,by rw[L2.zQ (L2.zi e hn)];exact e⟩,n⟩
theorem Lp.start(hr:HR K mg ρ s H)(hn:H acc=none)(o:L2.HO):Lp acc ρ H (ρ.hide acc) (L2.upd H acc o):=
 ⟨⟨[],by simp[Own.hide],fun a ha=>by cases ha⟩,rfl,fun a u e _=>by rw[L2.zQ (L2.zi e hn)];exact e,(oM hr hn o).kd⟩
theorem Lp.step(l:Lp acc ρ H ρ1 H1)(hr:HR K mg ρ1 s1 H1)(x:Ext ρ1 H1 ρ2 H2):Lp acc ρ H ρ2 H2:=by
 obtain⟨new,e1,hn⟩:=l.pre
 obtain⟨new2,e2,hn2⟩:=x.pre
 refine⟨⟨new++new2,by rw[e2,e1,List.append_assoc],fun a ha=>?_⟩,x.hid.trans l.hid,fun a o e n=>x.keep a o (l.keep a o e n) ?_,fun a ha=>(x.kd a (by rw[e1];exact List.mem_append_left _ ha)).trans (l.kd a ha)⟩
 . rcases List.mem_append.mp ha with ha|ha
   . exact hn a ha
   . cases q:H a with
     |none=>rfl
     |some o=>
      by_cases hm:a∈ρ.o
      . obtain⟨xs,e⟩:=hr.trk (a:=a) (by rw[e1];exact List.mem_append_left _ hm)
        rw[hn2 a ha]at e;cases e
      . have:=l.keep a o q hm
        rw[hn2 a ha]at this;cases this
 . rw[e1]
   intro hm
   rcases List.mem_append.mp hm with hm|hm
   . exact n hm
   . rw[hn a hm]at e;cases e
theorem Lp.emit(l:Lp acc ρ H ρ1 H1)(hr:HR K mg ρ1 s1 H1)(hn:H acc=none)(o:L2.HO):Lp acc ρ H ρ1 (L2.upd H1 acc o):=
 ⟨l.pre,l.hid,fun a u e n=>by rw[L2.zQ (L2.zi e hn)];exact l.keep a u e n,fun a ha=>by
  obtain⟨new,e1,_⟩:=l.pre
  rw[L2.zQ fun z=>(hr.hid acc (by rw[l.hid];exact List.mem_cons_self)).2 (by rw[←z,e1];exact List.mem_append_left _ ha)]
  exact l.kd a ha⟩
theorem Lp.here(l:Lp acc ρ H ρ1 H1):acc∈ρ1.h:=by rw[l.hid];exact List.mem_cons_self
theorem kr(hr:HR K mg ρ1 s1 H1)(ha:acc∈ρ1.h)(o:L2.HO):Mv ρ1 H1 ρ1 (L2.upd H1 acc o):=
 ⟨fun a u e n=>⟨by rw[L2.zQ (fun z=>n.2 (by rw[z];exact ha))];exact e,n⟩,fun i a e=>e,fun a h=>by rw[L2.zQ fun z=>(hr.hid acc ha).2 (by rw[←z];exact h)]⟩
theorem HR.emit(hr:HR K mg ρ1 s1 H1)(ha:acc∈ρ1.h){xs:List L2.V}:HR K mg ρ1 s1 (L2.upd H1 acc (.lst xs)):=by
 have hno:=(hr.hid acc ha).2
 refine⟨hr.len,hr.nd,fun i c e=>?_,fun a hm=>?_⟩
 . obtain⟨a,e1,q⟩:=hr.cel i c e
   exact⟨a,e1,q.mv (kr hr ha _) (L2.zQ (fun z=>hno (by rw[←z];exact List.mem_of_getElem? e1)))⟩
 . obtain⟨⟨ys,e⟩,n⟩:=hr.hid a hm
   by_cases z:a=acc
   . subst z;exact⟨⟨xs,L2.zo⟩,n⟩
   . exact⟨⟨ys,by rw[L2.zQ z];exact e⟩,n⟩
theorem Lp.done(l:Lp acc ρ H ρ1 H1)(h0:HR K mg ρ s H)(hn:H acc=none)(hr:HR K mg ρ1 s1 H1){vs:List Val}{ys:List L2.V}(e:H1 acc=some (.lst ys))(q:RDs K mg ρ1 H1 vs ys){m:Bool}{Q:L2.VK}(w:y4 K mg (RD K mg) ρ H (newList m vs s1) Q):Q (.ref acc) H1:=by
 have ha:=l.here
 have hacc:=(hr.hid acc ha).2
 have hnh:=(h0.new hn).2
 cases m with
 |false=>
  have mv:Mv ρ1 H1 ⟨ρ1.o,ρ.h⟩ H1:=⟨fun a u e n=>⟨e,n.1,fun z=>n.2 (by rw[l.hid];exact List.mem_cons_of_mem _ z)⟩,fun i a e=>e,fun _ _=>rfl⟩
  refine w ⟨ρ1.o,ρ.h⟩ _ H1 ⟨l.pre,rfl,l.keep,l.kd⟩ ⟨hr.len,hr.nd,fun i ws e=>?_,fun a hm=>?_⟩ (.lst ⟨hacc,hnh⟩ e (RDs.mv mv q))
  . obtain⟨a,e1,t⟩:=hr.cel i ws e
    exact⟨a,e1,t.mv mv rfl⟩
  . exact hr.hid a (by rw[l.hid];exact List.mem_cons_of_mem _ hm)
 |true=>
  have mv:Mv ρ1 H1 ⟨ρ1.o++[acc],ρ.h⟩ H1:=by
   refine⟨fun a u e n=>⟨e,fun hm=>?_,fun z=>n.2 (by rw[l.hid];exact List.mem_cons_of_mem _ z)⟩,fun i a e=>?_,fun _ _=>rfl⟩
   . rcases List.mem_append.mp hm with hm|hm
     . exact n.1 hm
     . rw[List.mem_singleton.mp hm]at n;exact n.2 ha
   . show (ρ1.o++[acc])[i]?=_
     rw[List.getElem?_append_left (List.getElem?_eq_some_iff.mp e).1];exact e
  have rf:(ρ1.o++[acc])[s1.length]?=some acc:=by rw[←hr.len,List.getElem?_append_right (Nat.le_refl _)];simp
  refine w ⟨ρ1.o++[acc],ρ.h⟩ _ H1 ⟨?_,rfl,l.keep,l.kd⟩ ⟨?_,?_,fun i ws q'=>?_,fun a hm=>?_⟩ (.ref rf (by rw[e];rfl))
  . obtain⟨new,e1,hnew⟩:=l.pre
    refine⟨new++[acc],by show ρ1.o++[acc]=_;rw[e1,List.append_assoc],fun a hm=>?_⟩
    rcases List.mem_append.mp hm with hm|hm
    . exact hnew a hm
    . rw[List.mem_singleton.mp hm];exact hn
  . show (ρ1.o++[acc]).length=(s1++[Cel.lst vs]).length
    rw[List.length_append,List.length_append,hr.len];rfl
  . show (ρ1.o++[acc]).Nodup
    rw[List.nodup_append]
    exact⟨hr.nd,by simp,fun a ha' b hb=>by rw[List.mem_singleton.mp hb];intro z;subst z;exact hacc ha'⟩
  . by_cases hi:i<s1.length
    . rw[List.getElem?_append_left hi]at q'
      obtain⟨a,e1,t⟩:=hr.cel i ws q'
      exact⟨a,mv.get i a e1,t.mv mv rfl⟩
    . have hi':i=s1.length:=by
       have:=(List.getElem?_eq_some_iff.mp q').1
       rw[List.length_append]at this
       simp at this;omega
      subst hi'
      rw[List.getElem?_append_right (Nat.le_refl _)]at q'
      simp at q'
      subst q'
      exact⟨acc,rf,ys,e,RDs.mv mv q⟩
  . obtain⟨x,n⟩:=hr.hid a (by rw[l.hid];exact List.mem_cons_of_mem _ hm)
    refine⟨x,fun z=>?_⟩
    rcases List.mem_append.mp z with z|z
    . exact n z
    . rw[List.mem_singleton.mp z]at hm;exact hnh hm
end
end M
end
section
namespace M
open PySem
section
variable {K:KF}{mg:Str→Option Value}
theorem nQ{J:L2.It}{g:L2.TG}{tb:L2.TS}{D:L2.Ends}{σ:L2.St}{H:L2.Hp}{n:Nat}(Pv:Nat→L2.St→L2.Hp→Prop)(h0:Pv 0 σ H)(hd:∀σ H,Pv n σ H→J.stop n H∧D.nx σ H)
 (hs:∀i σ H,i<n→Pv i σ H→J.go i H∧∀x H',J.yld i H x H'→g x σ H' fun σ2 H2=>tb {D with nx:=Pv (i+1),ct:=Pv (i+1),bk:=D.nx} σ2 H2):L2.pW J g tb D σ H:=by
 refine⟨fun i m σ H=>m=n-i∧i≤n∧Pv i σ H,⟨n,by simp,Nat.zero_le _,h0⟩,?_⟩
 rintro i m σ H ⟨rfl,hi,p⟩
 by_cases hlt:i<n
 . obtain⟨a,b⟩:=hs i σ H hlt p
   exact .inr ⟨a,Pv (i+1),fun σ' H' p'=>⟨n-(i+1),by omega,rfl,hlt,p'⟩,b⟩
 . have e:i=n:=by omega
   subst e
   exact .inl (hd σ H p)
structure CS(K:KF)(mg:Str→Option Value)(acc:Addr)(ρ0:Own)(H0:L2.Hp)(a:List Val)(s:Sto)(env:Env)(ρ:Own)(σ:L2.St)(H:L2.Hp):Prop where
 lp:Lp acc ρ0 H0 ρ H
 hr:HR K mg ρ s H
 er:ER K mg ρ H env σ
 ac:∃ys,H acc=some (.lst ys)∧RDs K mg ρ H a ys
def Grows(body:Env→Sto→List Val→Out (List Val × Env)):Prop:=∀e s a p s',body e s a=.ok p s'→a.length≤p.1.length
theorem vW{r:Src}{t:Tgt}{body:Env→Sto→List Val→Out (List Val × Env)}(hb:Grows body):∀{xs:List Val} {env:Env} {s:Sto} {a:List Val} {p:List Val × Env} {s':Sto},yi r t body xs env s a=.ok p s'→a.length≤p.1.length
 |[],env,s,a,p,s',h=>by
  rw[yi]at h
  split at h
  . cases h;exact Nat.le_refl _
  . cases h
 |x::xs,env,s,a,p,s',h=>by
  rw[yi]at h
  split at h
  . split at h
    . cases h
    . rename_i env' he
      cases hc:body env' s a with
      |ok q s1=>
       rw[hc]at h
       exact Nat.le_trans (hb _ _ _ _ _ hc) (vW hb h)
      |exc _ _ _=>rw[hc]at h;cases h
      |stuck=>rw[hc]at h;cases h
  . cases h
def BodyOk(K:KF)(mg:Str→Option Value)(acc:Addr)(ρ0:Own)(H0:L2.Hp)(body:Env→Sto→List Val→Out (List Val × Env))(tb:L2.TS):Prop:=
 ∀(ρ:Own) (s:Sto) (H:L2.Hp) (env:Env) (σ:L2.St) (a:List Val) (p:List Val × Env) (s':Sto) (D:L2.Ends),CS K mg acc ρ0 H0 a s env ρ σ H→body env s a=.ok p s'→p.1.length≤zV →
  (∀ρ' H' σ',CS K mg acc ρ0 H0 p.1 s' p.2 ρ' σ' H'→Mv ρ H ρ' H'→D.nx σ' H')→tb D σ H
theorem wk{acc:Addr}{ρ0:Own}{H0:L2.Hp}{r:Src}{J:L2.It}{t:Tgt}{g:L2.TG}{body:Env→Sto→List Val→Out (List Val × Env)}{tb:L2.TS}{D:L2.Ends}{ρ:Own}{s:Sto}{H:L2.Hp}{env:Env}{σ:L2.St}{a:List Val}
 {p:List Val × Env} {sf:Sto} (W:Walk K mg ρ H r J) (TG:tK K mg t g) (hg:Grows body) (hb:BodyOk K mg acc ρ0 H0 body tb)
 (C:CS K mg acc ρ0 H0 a s env ρ σ H) (h:yi r t body r.xs env s a=.ok p sf) (hz:p.1.length≤zV) (fin:∀ρ' H' σ',CS K mg acc ρ0 H0 p.1 sf p.2 ρ' σ' H'→Mv ρ H ρ' H'→D.nx σ' H'):L2.pW J g tb D σ H:=by
 refine nQ (n:=r.xs.length) (fun i σ2 H2=>∃ρ2 s2 env2 a2,CS K mg acc ρ0 H0 a2 s2 env2 ρ2 σ2 H2∧Mv ρ H ρ2 H2∧yi r t body (r.xs.drop i) env2 s2 a2=.ok p sf) ⟨ρ,s,env,a,C,Mv.refl,by rw[List.drop_zero];exact h⟩ ?_ ?_
 . rintro σ2 H2 ⟨ρ2,s2,env2,a2,C2,mv,h2⟩
   rw[List.drop_length,yi]at h2
   split at h2
   . rename_i ho
     cases h2
     exact⟨W.stop ρ2 H2 _ _ mv C2.hr ho rfl,fin ρ2 H2 σ2 C2 mv⟩
   . cases h2
 . rintro i σ2 H2 hi ⟨ρ2,s2,env2,a2,C2,mv,h2⟩
   rw[List.drop_eq_getElem_cons hi,yi]at h2
   split at h2
   . rename_i ho
     obtain⟨hgo,hy⟩:=W.go ρ2 H2 s2 i (r.xs[i]) mv C2.hr ho (List.getElem?_eq_getElem hi)
     refine⟨hgo,fun x H3 y=>?_⟩
     obtain⟨hH,rx⟩:=hy x H3 y
     split at h2
     . cases h2
     . rename_i env' he
       -- the item is there: perhaps a new thing
       have C3:CS K mg acc ρ0 H0 a2 s2 env2 ρ2 σ2 H3∧Mv ρ2 H2 ρ2 H3:=by
        rcases hH with e|⟨q,o,hq,e⟩
        . subst e;exact⟨C2,Mv.refl⟩
        . subst e
          have X:=Ext.new C2.hr hq o
          refine⟨⟨C2.lp.step C2.hr X,C2.hr.more hq o,C2.er.mono X,?_⟩,X.mv⟩
          obtain⟨ys,e1,e2⟩:=C2.ac
          exact⟨ys,by rw[L2.zQ (L2.zi e1 hq)];exact e1,e2.mono X⟩
       refine TG ρ2 s2 H3 _ x env2 env' σ2 _ C3.1.hr rx C3.1.er he fun σ4 er4=>?_
       cases hc:body env' s2 a2 with
       |ok q s5=>
        rw[hc]at h2
        have hlen:q.1.length≤zV:=Nat.le_trans (vW hg h2) hz
        exact hb ρ2 s2 H3 env' σ4 a2 q s5 _ ⟨C3.1.lp,C3.1.hr,er4,C3.1.ac⟩ hc hlen fun ρ5 H5 σ5 C5 mv5=>⟨ρ5,s5,q.2,q.1,C5,(mv.trans C3.2).trans mv5,h2⟩
       |exc _ _ _=>rw[hc]at h2;cases h2
       |stuck=>rw[hc]at h2;cases h2
   . cases h2
end
section
variable (K:KF)(mg:Str→Option Value)(Φ:Calls)(G:Str→Option Val)
noncomputable def uE(e:Ex):L2.TE:=fun σ H Q=>∃env s,tV K mg env s (evE Φ G env e s) σ H Q
noncomputable def uT(e:Cn):L2.TT:=fun σ H Q=>∃env s,tT K mg env s (evT Φ G env e s) σ H Q
noncomputable def uI(it:Itb):L2.TI:=fun σ H R=>∃env s,tI (K:=K) (mg:=mg) env s (yo Φ G env it s) σ H R
noncomputable def uTs:Cns→List L2.TT
 |.nil=>[]
 |.cons e es=>uT K mg Φ G e::uTs es
end
section
variable {K:KF}{mg:Str→Option Value}{Φ:Calls}{G:Str→Option Val}
theorem b6{X:L2.Cx}{e:Ex}{E:Expr}(h:∀env s,L2.PE X E (tV X.K X.mg env s (evE Φ G env e s))):L2.PE X E (uE X.K X.mg Φ G e):=fun pins s σ H Q I ⟨env,t,q⟩=>h env t pins s σ H Q I q
theorem UA{X:L2.Cx}{e:Cn}{E:Expr}(h:∀env s,L2.PT X E (tT X.K X.mg env s (evT Φ G env e s))):L2.PT X E (uT X.K X.mg Φ G e):=fun pins s σ H Q I ⟨env,t,q⟩=>h env t pins s σ H Q I q
theorem lh{X:L2.Cx}{it:Itb}{tg E:Expr}(h:∀env s,L2.PI X tg E (tI (K:=X.K) (mg:=X.mg) env s (yo Φ G env it s))):L2.PI X tg E (uI X.K X.mg Φ G it):=fun pins s σ H Q I ⟨env,t,q⟩=>h env t pins s σ H Q I q
theorem qI{s2:Sto}{env:Env}{σ:L2.St}{b:Bool}{Q:Bool→L2.Hp→Prop}:∀{es:Cns} {ρ:Own} {s:Sto} {H:L2.Hp},HR K mg ρ s H→ER K mg ρ H env σ→yh Φ G env es s=.ok b s2 →
 (∀ρ' H',Ext ρ H ρ' H'→HR K mg ρ' s2 H'→Q b H')→L2.ow (uTs K mg Φ G es) σ H Q
 |.nil,ρ,s,H,hr,er,h,q=>by
  rw[yh]at h;cases h
  exact q ρ H Ext.refl hr
 |.cons e es,ρ,s,H,hr,er,h,q=>by
  rw[yh]at h
  refine⟨env,s,ρ,hr,er,?_⟩
  cases hc:evT Φ G env e s with
  |ok c s1=>
   rw[hc]at h
   intro ρ1 c' H1 x1 hr1 e1
   cases e1
   cases c with
   |true=>exact L2.oP (qI hr1 (er.mono x1) h fun ρ' H' x' hr'=>q ρ' H' (x1.trans hr1 x') hr')
   |false=>
    simp only[zN]at h
    cases h
    exact L2.oO (q ρ1 H1 x1 hr1)
  |exc _ _ _=>rw[hc]at h;cases h
  |stuck=>rw[hc]at h;cases h
noncomputable def v9(Φ:Calls)(G:Str→Option Val)(elt:Ex)(ifs:Cns):Env→Sto→List Val→Out (List Val × Env):=fun e s' acc=>(yh Φ G e ifs s').bind fun b s2=>if b then (evE Φ G e elt s2).bind fun v s3=>.ok (acc++[v],e) s3 else .ok (acc,e) s2
theorem wY{elt:Ex}{ifs:Cns}:Grows (v9 Φ G elt ifs):=by
 intro e s a p s' h
 unfold v9 at h
 cases hc:yh Φ G e ifs s with
 |ok b s1=>
  rw[hc]at h
  cases b with
  |true=>
   simp only[zN,if_true]at h
   cases hv:evE Φ G e elt s1 with
   |ok v s2=>rw[hv]at h;cases h;simp
   |exc _ _ _=>rw[hv]at h;cases h
   |stuck=>rw[hv]at h;cases h
  |false=>simp only[zN]at h;cases h;exact Nat.le_refl _
 |exc _ _ _=>rw[hc]at h;cases h
 |stuck=>rw[hc]at h;cases h
theorem qO{acc:Addr}{ρ0:Own}{H0:L2.Hp}(hn:H0 acc=none){elt:Ex}{ifs:Cns}:BodyOk K mg acc ρ0 H0 (v9 Φ G elt ifs) (L2.tTB (uTs K mg Φ G ifs) (L2.v8 acc (uE K mg Φ G elt))):=by
 intro ρ s H env σ a p s' D C h hz q
 unfold v9 at h
 cases hc:yh Φ G env ifs s with
 |ok b s1=>
  rw[hc]at h
  refine qI (ρ:=ρ) (s:=s) C.hr C.er hc fun ρ1 H1 x1 hr1=>?_
  have hacc1:∃ys,H1 acc=some (.lst ys)∧RDs K mg ρ1 H1 a ys:=by
   obtain⟨ys,e1,e2⟩:=C.ac
   exact⟨ys,x1.keep _ _ e1 (C.hr.hid acc C.lp.here).2,e2.mono x1⟩
  cases b with
  |true=>
   simp only[zN,if_true]at h
   refine L2.oP ⟨env,s1,ρ1,hr1,C.er.mono x1,?_⟩
   cases hv:evE Φ G env elt s1 with
   |ok v s2=>
    rw[hv]at h
    cases h
    intro ρ2 y H2 x2 hr2 r2
    have xx:=x1.trans hr1 x2
    have lp2:=C.lp.step C.hr xx
    obtain⟨ys,e1,e2⟩:=hacc1
    have e3:H2 acc=some (.lst ys):=x2.keep _ _ e1 (hr1.hid acc (C.lp.step C.hr x1).here).2
    have e4:=e2.mono x2
    have hl:ys.length<sizeLine:=by
     have h1:(a++[v]).length≤zV:=hz
     rw[List.length_append,e2.length,yf]at h1
     simp at h1;omega
    have mv2:=kr (H1:=H2) hr2 lp2.here (.lst (ys++[y]))
    refine⟨ys,e3,hl,q ρ2 _ σ ⟨lp2.emit hr2 hn _,hr2.emit lp2.here,⟨C.er.len,fun i v' e'=>?_⟩,⟨_,L2.zo,RDs.mv mv2 (e4.append (.cons r2 .nil))⟩⟩ (xx.mv.trans mv2)⟩
    obtain⟨u,h1,h2⟩:=(C.er.mono xx).at_ i v' e'
    exact⟨u,h1,RD.mv mv2 h2⟩
   |exc _ _ _=>rw[hv]at h;cases h
   |stuck=>rw[hv]at h;cases h
  |false=>
   simp only[zN]at h
   cases h
   exact L2.oO (q ρ1 H1 σ ⟨C.lp.step C.hr x1,hr1,C.er.mono x1,hacc1⟩ x1.mv)
 |exc _ _ _=>rw[hc]at h;cases h
 |stuck=>rw[hc]at h;cases h
noncomputable def tu(Φ:Calls)(G:Str→Option Val)(elt:Ex)(ifs:Cns)(t2:Tgt)(it2:Itb)(ifs2:Cns):Env→Sto→List Val→Out (List Val × Env):=fun e s' acc=>(yh Φ G e ifs s').bind fun b s2=>if b then (yo Φ G e it2 s2).bind fun r2 s3=>
 yi r2 t2 (v9 Φ G elt ifs2) r2.xs e s3 acc
 else .ok (acc,e) s2
theorem u5{elt:Ex}{ifs ifs2:Cns}{t2:Tgt}{it2:Itb}:Grows (tu Φ G elt ifs t2 it2 ifs2):=by
 intro e s a p s' h
 unfold tu at h
 cases hc:yh Φ G e ifs s with
 |ok b s1=>
  rw[hc]at h
  cases b with
  |true=>
   simp only[zN,if_true]at h
   cases hv:yo Φ G e it2 s1 with
   |ok v s2=>rw[hv]at h;exact vW wY h
   |exc _ _ _=>rw[hv]at h;cases h
   |stuck=>rw[hv]at h;cases h
  |false=>simp only[zN]at h;cases h;exact Nat.le_refl _
 |exc _ _ _=>rw[hc]at h;cases h
 |stuck=>rw[hc]at h;cases h
theorem pk{acc:Addr}{ρ0:Own}{H0:L2.Hp}(hn:H0 acc=none){elt:Ex}{ifs ifs2:Cns}{t2:Tgt}{it2:Itb}{g2:L2.TG}(TG:tK K mg t2 g2) :
 BodyOk K mg acc ρ0 H0 (tu Φ G elt ifs t2 it2 ifs2) (L2.tTB (uTs K mg Φ G ifs) (L2.qH (uI K mg Φ G it2) g2 (uTs K mg Φ G ifs2) (L2.v8 acc (uE K mg Φ G elt)))):=by
 intro ρ s H env σ a p s' D C h hz q
 unfold tu at h
 cases hc:yh Φ G env ifs s with
 |ok b s1=>
  rw[hc]at h
  refine qI (ρ:=ρ) (s:=s) C.hr C.er hc fun ρ1 H1 x1 hr1=>?_
  have hacc1:∃ys,H1 acc=some (.lst ys)∧RDs K mg ρ1 H1 a ys:=by
   obtain⟨ys,e1,e2⟩:=C.ac
   exact⟨ys,x1.keep _ _ e1 (C.hr.hid acc C.lp.here).2,e2.mono x1⟩
  have lp1:=C.lp.step C.hr x1
  cases b with
  |true=>
   simp only[zN,if_true]at h
   refine L2.oP ⟨env,s1,ρ1,hr1,C.er.mono x1,?_⟩
   cases hv:yo Φ G env it2 s1 with
   |ok r2 s2=>
    rw[hv]at h
    intro ρ2 H2 J x2 hr2 W
    have xx:=x1.trans hr1 x2
    obtain⟨ys,e1,e2⟩:=hacc1
    have e3:H2 acc=some (.lst ys):=x2.keep _ _ e1 (hr1.hid acc lp1.here).2
    exact wk W TG wY (qO hn) ⟨lp1.step hr1 x2,hr2,C.er.mono xx,⟨ys,e3,e2.mono x2⟩⟩ h hz fun ρ3 H3 σ3 C3 mv3=>q ρ3 H3 σ3 C3 (xx.mv.trans mv3)
   |exc _ _ _=>rw[hv]at h;cases h
   |stuck=>rw[hv]at h;cases h
  |false=>
   simp only[zN]at h
   cases h
   exact L2.oO (q ρ1 H1 σ ⟨lp1,hr1,C.er.mono x1,hacc1⟩ x1.mv)
 |exc _ _ _=>rw[hc]at h;cases h
 |stuck=>rw[hc]at h;cases h
theorem hV{ρ:Own}{H:L2.Hp}{env:Env}{σ:L2.St}(er:ER K mg ρ H env σ)(fr:List (Option Nat)):ER K mg ρ H (zk fr env) (L2.zk fr σ):=by
 refine⟨by unfold zk L2.zk;rw[List.length_map,List.length_map],fun i v e=>?_⟩
 unfold zk at e
 unfold L2.zk
 rw[List.getElem?_map]at e ⊢
 cases hf:fr[i]? with
 |none=>rw[hf]at e;cases e
 |some o=>
  rw[hf]at e
  cases o with
  |none=>cases e
  |some j=>
   have e':(env[j]?).join=some v:=Option.some.inj e
   have e2:env[j]?=some (some v):=by
    cases h1:env[j]? with
    |none=>rw[h1]at e';cases e'
    |some w=>rw[h1]at e';have:w=some v:=e';rw[this]
   obtain⟨x,h1,h2⟩:=er.at_ j v e2
   refine⟨x,?_,h2⟩
   show some ((σ[j]?).join)=_
   rw[h1];rfl
theorem vo{fr:List (Option Nat)}{it:Itb}{t:Tgt}{g:L2.TG}{ts:List L2.TT}{tb:Addr→L2.TB}{body:Env→Sto→List Val→Out (List Val × Env)}{m:Bool}{env:Env}{s:Sto}(TG:tK K mg t g)(hg:Grows body)
 (hb:∀acc ρ0 H0,H0 acc=none→BodyOk K mg acc ρ0 H0 body (L2.tTB ts (tb acc))) {σ:L2.St} {H:L2.Hp} {Q:L2.VK} {chk:Bool}
 (h:tV K mg env s ((yo Φ G env it s).bind fun r s1=>(yi r t body r.xs (zk fr env) s1 []).bind fun p s2=>if chk=true→p.1.length≤zV then newList m p.1 s2 else .stuck) σ H Q)
 (hlen:chk=false→∀r s1 p s2,yi r t body r.xs (zk fr env) s1 []=.ok p s2→p.1.length≤r.xs.length):L2.ve fr (uI K mg Φ G it) g ts tb σ H Q:=by
 obtain⟨ρ,hr,er,w⟩:=h
 refine⟨env,s,ρ,hr,er,?_⟩
 cases hi:yo Φ G env it s with
 |ok r s1=>
  rw[hi]at w
  simp only[zN]at w
  intro ρ1 H1 J x1 hr1 W acc hacc
  cases hl:yi r t body r.xs (zk fr env) s1 [] with
  |ok p s2=>
   rw[hl]at w
   simp only[zN]at w
   have hz:p.1.length≤zV∧y4 K mg (RD K mg) ρ H (newList m p.1 s2) Q:=by
    by_cases hc:chk=true→p.1.length≤zV
    . rw[if_pos hc]at w
      refine⟨?_,w⟩
      cases chk with
      |true=>exact hc rfl
      |false=>exact Nat.le_trans (hlen rfl r s1 p s2 hl) W.len
    . rw[if_neg hc]at w;exact w.elim
   have mv:=oM (ρ:=ρ1) hr1 hacc (.lst [])
   have ers:=hV (er.mono x1) fr
   refine wk (ρ0:=ρ1) (H0:=H1) (W.mv mv) TG hg (hb acc ρ1 H1 hacc) ⟨Lp.start hr1 hacc _,hr1.hide hacc,⟨ers.len,fun i v e=>?_⟩,⟨[],L2.zo,.nil⟩⟩ hl hz.1 fun ρ3 H3 σ3 C3 _=>?_
   . obtain⟨x,h1,h2⟩:=ers.at_ i v e
     exact⟨x,h1,RD.mv mv h2⟩
   . obtain⟨ys,e1,e2⟩:=C3.ac
     exact C3.lp.done hr1 hacc C3.hr e1 e2 (hz.2.mono x1 hr1)
  |exc _ _ _=>rw[hl]at w;exact w.elim
  |stuck=>rw[hl]at w;exact w.elim
 |exc _ _ _=>rw[hi]at w;exact w.elim
 |stuck=>rw[hi]at w;exact w.elim
theorem tw{r:Src}{t:Tgt}{elt:Ex}{ifs:Cns}:∀{xs:List Val} {env:Env} {s:Sto} {a:List Val} {p:List Val × Env} {s':Sto},yi r t (v9 Φ G elt ifs) xs env s a=.ok p s'→p.1.length≤a.length+xs.length
 |[],env,s,a,p,s',h=>by
  rw[yi]at h
  split at h
  . cases h;exact Nat.le_refl _
  . cases h
 |x::xs,env,s,a,p,s',h=>by
  rw[yi]at h
  split at h
  . split at h
    . cases h
    . rename_i env' he
      cases hc:v9 Φ G elt ifs env' s a with
      |ok q s1=>
       rw[hc]at h
       have h1:=tw h
       have h2:q.1.length≤a.length+1:=by
        unfold v9 at hc
        cases h3:yh Φ G env' ifs s with
        |ok b s2=>
         rw[h3]at hc
         cases b with
         |true=>
          simp only[zN,if_true]at hc
          cases h4:evE Φ G env' elt s2 with
          |ok v s3=>rw[h4]at hc;cases hc;simp
          |exc _ _ _=>rw[h4]at hc;cases hc
          |stuck=>rw[h4]at hc;cases hc
         |false=>simp only[zN]at hc;cases hc;exact Nat.le_succ _
        |exc _ _ _=>rw[h3]at hc;cases hc
        |stuck=>rw[h3]at hc;cases hc
       rw[List.length_cons];omega
      |exc _ _ _=>rw[hc]at h;cases h
      |stuck=>rw[hc]at h;cases h
  . cases h
end
end M
end
section
namespace M
open PySem
noncomputable def ZE(sc:Scope)(x:Str):Bool:=decide (sc.names.lookup x=some .local)||decide (sc.names.lookup x=some .cell)||decide (sc.names.lookup x=some .free)
noncomputable def ui(sc:Scope)(x:Str):Bool:=decide (sc.names.lookup x=some .globalImplicit)
noncomputable def wg:List Str:=["len","all","any","tuple","list","sorted","repr","max","min","sum","int","isinstance","divmod","str","bool","dict","set","range","enumerate","zip"]
noncomputable def Vo(y:Str)(n:String):Bool:=(decide (y="int")&&decide (n="int"))||(decide (y="bool")&&decide (n="bool"))||(decide (y="str")&&decide (n="str"))||(decide (y="list")&&decide (n="list"))||(decide (y="tuple")&&decide (n="tuple"))||(decide (y="dict")&&decide (n="dict"))
noncomputable def pB:Val→Expr→Bool
 |.none,.Constant .none _ _=>true
 |.bool b,.Constant (.bool c) _ _=>b == c
 |.int i,.Constant (.int j) _ _=>decide (i=j)
 |.str x,.Constant (.str y) _ _=>decide (x=y)
 |_,_=>false
mutual
noncomputable def ck(sc:Scope)(N:List Str):Ex→Expr→Bool
 |.lit v,e=>pB v e
 |.var i,e=>(match e with|.Name x _=>decide (N[i]?=some x)&&ZE sc x&&!(x == ("__debug__":Str))&&!(x == ("__classdict__":Str))|_=>false)
 |.gl y,e=>(match e with|.Name x _=>decide (x=y)&&ui sc x&&!(x == ("__debug__":Str))|_=>false)
 |.ty y n,e=>(match e with|.Name x _=>decide (x=y)&&ui sc x&&Vo y n|_=>false)
 |.bin _ op a b,e=>(match e with|.BinOp l o r _=>(okB op&&decide (o=op.op))&&ck sc N a l&&ck sc N b r|_=>false)
 |.neg _,_=>false
 |.not a,e=>(match e with|.UnaryOp .Not x _=>ck sc N a x|_=>false)
 |.cmp op a b,e=>(match e with|.Compare l [o] [r] _=>(okC op&&decide (o=op.op))&&ck sc N a l&&ck sc N b r&&plain r|_=>false)
 |.chain op op' a b c,e=>(match e with|.Compare l [o,o'] [r,r'] _=>(okC op&&decide (o=op.op))&&(okC op'&&decide (o'=op'.op))&&ck sc N a l&&ck sc N b r&&ck sc N c r'&&plain r'|_=>false)
 |.andE a es,e=>(match e with|.BoolOp .And (x::xs) _=>ck sc N a x&&ckL sc N es xs|_=>false)
 |.orE _ _,_=>false
 |.ife c a b,e=>(match e with|.IfExp t x y _=>ckC sc N c t&&ck sc N a x&&ck sc N b y|_=>false)
 |.tup es,e=>(match e with|.Tuple xs _ _=>ckL sc N es xs&&yp xs|_=>false)
 |.lst _ es,e=>(match e with|.List xs _=>ckL sc N es xs&&yp xs|_=>false)
 |.dct0,_=>false
 |.dctN _,e=>(match e with|.Dict [] [] _=>true|_=>false)
 |.ixD a b,e=>(match e with|.Subscript l r _=>ck sc N a l&&ck sc N b r&&plain r|_=>false)
 |.call f _ es,e=>(match e with|.Call (.Name x _) xs [] _=>decide (x=f)&&ui sc x&&!(x == ("__debug__":Str))&&ckL sc N es xs&&yp xs|_=>false)
 |.blt f _ es,e=>(match e with|.Call (.Name x _) (y::ys) [] _=>(okF f&&decide (x=f.nm))&&ui sc x&&ckL sc N es (y::ys)&&yp (y::ys)|_=>false)
 |.maxD _ _,_=>false
 |.tS f _ o es,e=>(match e with|.Call (.Attribute ob x ap) [y] [] cp=>decide (x=f.nm)&&ck sc N o ob&&ckL sc N es [y]&&plain y&&jT ob&&(ap.endLine == cp.line)&&okM f|_=>false)
 |.ix a b,e=>(match e with|.Subscript l r _=>ck sc N a l&&ck sc N b r&&plain r|_=>false)
 |.sl _ a lo hi st,e=>(match e with|.Subscript l (.Slice x y z _) _=>ck sc N a l&&ckO sc N lo x&&ckO sc N hi y&&ckO sc N st z|_=>false)
 |.comp _ N' fr elt t it ifs,e=>(match e with|.ListComp x [⟨tg,iter,fs,0⟩] csc _=>L2.oE sc N N' csc fr&&decide N'.Nodup&&ckT csc N' t tg&&ckI sc N it iter tg&&oF csc N' ifs fs&&ck csc N' elt x&&plain iter|_=>false)
 |.comp2 _ N' fr elt t it ifs t2 it2 ifs2,e=>(match e with|.ListComp x [⟨tg,iter,fs,0⟩,⟨tg2,iter2,fs2,0⟩] csc _=>L2.oE sc N N' csc fr&&decide N'.Nodup&&ckT csc N' t tg&&ckI sc N it iter tg&&oF csc N' ifs fs&&ckT csc N' t2 tg2&&ckI csc N' it2 iter2 tg2&&oF csc N' ifs2 fs2&&ck csc N' elt x&&plain iter&&plain iter2|_=>false)
 |.listRange _ _ _ _,_=>false
noncomputable def ckL(sc:Scope)(N:List Str):Exs→List Expr→Bool
 |.nil,es=>(match es with|[]=>true|_=>false)
 |.cons a as,es=>(match es with|e::es=>ck sc N a e&&ckL sc N as es|_=>false)
noncomputable def ckO(sc:Scope)(N:List Str):OEx→Option Expr→Bool
 |.no,e=>(match e with|none=>true|_=>false)
 |.yes a,e=>(match e with|some e=>ck sc N a e|_=>false)
noncomputable def ckC(sc:Scope)(N:List Str):Cn→Expr→Bool
 |.val a,e=>ck sc N a e&&(plainT e||(match e with|.Compare ..=>true|_=>false))
 |.not c,e=>(match e with|.UnaryOp .Not x _=>ckC sc N c x|_=>false)
 |.and c cs,e=>(match e with|.BoolOp .And (x::xs) _=>ckC sc N c x&&oF sc N cs xs|_=>false)
 |.or c cs,e=>(match e with|.BoolOp .Or (x::xs) _=>ckC sc N c x&&oF sc N cs xs|_=>false)
noncomputable def oF(sc:Scope)(N:List Str):Cns→List Expr→Bool
 |.nil,es=>(match es with|[]=>true|_=>false)
 |.cons a as,es=>(match es with|e::es=>ckC sc N a e&&oF sc N as es|_=>false)
noncomputable def ckI(sc:Scope)(N:List Str):Itb→Expr→Expr→Bool
 |.val a,e,_=>ck sc N a e
 |.range1 a,e,_=>(match e with|.Call (.Name x _) [y] [] _=>decide (x="range")&&ui sc x&&ck sc N a y&&plain y|_=>false)
 |.range2 a b,e,_=>(match e with|.Call (.Name x _) [y,z] [] _=>decide (x="range")&&ui sc x&&ck sc N a y&&ck sc N b z&&plain y&&plain z|_=>false)
 |.enum _,_,_=>false
 |.zip a b,e,tg=>(match e,tg with|.Call (.Name x _) [y,z] [] _,.Tuple _ _ _=>decide (x="zip")&&ui sc x&&ck sc N a y&&ck sc N b z&&plain y&&plain z|_,_=>false)
end
structure Ok(T:Tbl)(n:Nat)(sc:Scope)(N:List Str)(X:L2.Cx):Prop where
 calm:X.calm=true
 room:L2.y1 n X.A
 scp:Scp sc N X
 fns:∀f v F,T.fn f v=some F→Callee T n X f v F
 gls:∀x v,T.gl x=some v→∃u xv,X.mg x=some u∧L2.RelV xv u∧∀ρ H,RD X.K X.mg ρ H v xv
 blt:∀x∈wg,X.mg x=none
 xe:X.xe=fun _ _=>False
theorem kZ{sc:Scope}{N N':List Str}{csc:Scope}{fr:List (Option Nat)}{X:L2.Cx}(S:Scp sc N X)(h:L2.oE sc N N' csc fr=true):L2.yD X N' csc fr:=by
 unfold L2.oE at h
 simp only[Bool.and_eq_true,List.all_eq_true,Bool.or_eq_true,decide_eq_true_eq,List.mem_range]at h
 obtain⟨⟨⟨⟨⟨⟨a1,a2⟩,a3⟩,a4⟩,a5⟩,a6⟩,a7⟩:=h
 refine⟨a1,a2,fun x hx hk=>?_,fun x hx hk=>?_,a5,fun i j x e1 e2=>?_,fun x e1 e2=>?_⟩
 . rcases a3 x hx with z|z
   . exact absurd hk z
   . exact z
 . rcases a4 x hx with z|z
   . exact absurd hk z
   . exact S.cf x.1 z
 . have hi:i<N'.length:=(List.getElem?_eq_some_iff.mp e1).1
   have q:=a6 i hi
   rw[e1,e2]at q
   simp only[Bool.and_eq_true,decide_eq_true_eq,List.any_eq_true]at q
   obtain⟨q1,y,q2,q3,q4⟩:=q
   refine⟨by rw[S.hN];exact q1,?_⟩
   have:y=(x,NameKind.free):=Prod.ext q3 q4
   rw[←this];exact q2
 . rcases a7 (x,.free) e2 with z|z
   . exact z rfl
   . exact z e1
theorem wb{sc:Scope}{env:PySem.Env}{x:Str}(h:sc.names.lookup x=some .local):(relabel sc env).names.lookup x=some .local:=lookup_relabel_local h
theorem lz{sc:Scope}{env:PySem.Env}{x:Str}(h:sc.names.lookup x=some .globalImplicit):(relabel sc env).names.lookup x=some .globalImplicit:=by
 have key:∀(names:List (Str × NameKind)),names.lookup x=some .globalImplicit→(names.map fun(n,k)=>if (k == NameKind.free&&env.scope.kind == .function&&env.kindOf n == some .cell) then (n,NameKind.cell) else (n,k)).lookup x=some .globalImplicit:=by
  intro names
  induction names with
  |nil=>intro h;simp at h
  |cons p r ih=>
   obtain⟨n,k⟩:=p
   intro h
   rw[List.map_cons]
   dsimp only
   cases hx:(x == n) with
   |true=>
    rw[List.lookup_cons,hx]at h
    cases h
    have e:(NameKind.globalImplicit == NameKind.free)=false:=rfl
    rw[e]
    simp only[Bool.false_and,Bool.false_eq_true,if_false,List.lookup_cons,hx]
   |false=>
    rw[List.lookup_cons,hx]at h
    have:=ih h
    split<;>simpa only[List.lookup_cons,hx] using this
 exact key sc.names h
theorem Scp.comp{sc:Scope}{N N':List Str}{csc:Scope}{fr:List (Option Nat)}{X:L2.Cx}(S:Scp sc N X)(hc:L2.yD X N' csc fr)(nd:N'.Nodup)(C:Addr)(s0:Shared)(H0:L2.Hp)(ex:List Addr):Scp csc N' (X.comp N' csc C s0 H0 ex):=by
 have nocell:∀x,csc.names.lookup x≠some .cell:=fun x h=>hc.nocell _ (PySem.mem_of_lookup h) rfl
 refine⟨rfl,nd,fun x h=>?_,fun x h=>?_,fun x h=>?_,fun x h=>?_⟩
 . rcases h with h|h|h
   . exact .inl (wb h)
   . exact absurd h (nocell x)
   . exact(L2.uu hc.locals h).elim (fun z=>.inr (.inl z)) fun z=>.inr (.inr z)
 . rcases h with h|h
   . exact⟨.inl (wb h),.inr (wb h)⟩
   . exact absurd h (nocell x)
 . exact lz h
 . rcases h with h|h
   . exact absurd h (nocell x)
   . exact L2.uu hc.locals h
theorem Callee.comp{T:Tbl}{n:Nat}{X:L2.Cx}{f:Str}{v:Nat}{F:Fn}(c:Callee T n X f v F)(N':List Str)(csc:Scope)(C:Addr)(s0:Shared)(H0:L2.Hp)(ex:List Addr):Callee T n (X.comp N' csc C s0 H0 ex) f v F:=⟨c.ex⟩
theorem Ok.comp{T:Tbl}{n:Nat}{sc:Scope}{N N':List Str}{csc:Scope}{fr:List (Option Nat)}{X:L2.Cx}(o:Ok T n sc N X)(hc:L2.yD X N' csc fr)(nd:N'.Nodup)(C:Addr)(s0:Shared)(H0:L2.Hp)(ex:List Addr):Ok T n csc N' (X.comp N' csc C s0 H0 ex):=
 ⟨o.calm,o.room,o.scp.comp hc nd C s0 H0 ex,fun f v F h=>(o.fns f v F h).comp N' csc C s0 H0 ex,o.gls,o.blt,rfl⟩
end M
end
section
namespace M
open PySem
section
variable {T:Tbl}{n:Nat}
def JE(T:Tbl)(n:Nat)(a:Ex):Prop:=∀(sc:Scope) (N:List Str) (X:L2.Cx) (e:Expr),Ok T n sc N X→ck sc N a e=true→∀env s,L2.PE X e (tV X.K X.mg env s (evE (zF T n) T.gl env a s))
def JL(T:Tbl)(n:Nat)(a:Exs):Prop:=∀(sc:Scope) (N:List Str) (X:L2.Cx) (es:List Expr),Ok T n sc N X→ckL sc N a es=true →
 (yp es=true→∀env s,L2.PA X es (tVs X.K X.mg env s (y2 (zF T n) T.gl env a s))) ∧
 (∀e es' pos,es=e::es'→∀env s,L2.PE X (.BoolOp .And es pos) (tV X.K X.mg env s (sC (zF T n) T.gl env a s))) ∧
 (∀e es' pos,es=e::es'→∀env s,L2.PE X (.BoolOp .Or es pos) (tV X.K X.mg env s (nO (zF T n) T.gl env a s))) ∧
 (∀y,es=[y]→plain y=true→∃b,a=.cons b .nil∧∀env s,L2.PE X y (tV X.K X.mg env s (evE (zF T n) T.gl env b s)))
def JO(T:Tbl)(n:Nat)(a:OEx):Prop:=∀(sc:Scope) (N:List Str) (X:L2.Cx) (e:Option Expr),Ok T n sc N X→ckO sc N a e=true→(∀env s,L2.PO X e (tO X.K X.mg env s (evO (zF T n) T.gl env a s))) ∧
 ((e=none∧∀env s1,evO (zF T n) T.gl env a s1=.ok none s1)∨∃e',e=some e'∧∀env s1 s2,evO (zF T n) T.gl env a s1≠.ok none s2)
def JC(T:Tbl)(n:Nat)(a:Cn):Prop:=∀(sc:Scope) (N:List Str) (X:L2.Cx) (e:Expr),Ok T n sc N X→ckC sc N a e=true→∀env s,L2.PT X e (tT X.K X.mg env s (evT (zF T n) T.gl env a s))
def JCs(T:Tbl)(n:Nat)(a:Cns):Prop:=∀(sc:Scope) (N:List Str) (X:L2.Cx) (es:List Expr),Ok T n sc N X→oF sc N a es=true →
 (∀pos env s,L2.PW X (.BoolOp .And es pos) (tT X.K X.mg env s (yh (zF T n) T.gl env a s)))∧(∀pos env s,L2.PW X (.BoolOp .Or es pos) (tT X.K X.mg env s (rJ (zF T n) T.gl env a s)))∧L2.PTs X es (uTs X.K X.mg (zF T n) T.gl a)
def JI(T:Tbl)(n:Nat)(a:Itb):Prop:=∀(sc:Scope) (N:List Str) (X:L2.Cx) (e tg:Expr),Ok T n sc N X→ckI sc N a e tg=true→∀env s,L2.PI X tg e (tI (K:=X.K) (mg:=X.mg) env s (yo (zF T n) T.gl env a s))
theorem YL{v:Val}:JE T n (.lit v):=by
 intro sc N X e o h env s
 simp only[ck]at h
 show L2.PE X e (tV X.K X.mg env s (.ok v s))
 unfold pB at h
 split at h
 . exact yC L2.XC fun σ H Q ⟨ρ,hr,er,w⟩=>zK hr .none w
 . have h':=(beq_iff_eq.mp h);subst h'
   exact yC L2.VC fun σ H Q ⟨ρ,hr,er,w⟩=>zK hr (.bool _) w
 . have h':=of_decide_eq_true h;subst h'
   exact yC L2.XA fun σ H Q ⟨ρ,hr,er,w⟩=>zK hr (.int _) w
 . have h':=of_decide_eq_true h;subst h'
   exact yC L2.XF fun σ H Q ⟨ρ,hr,er,w⟩=>zK hr (.str _) w
 . cases h
theorem YO{i:Nat}:JE T n (.var i):=by
 intro sc N X e o h env s
 simp only[ck]at h
 split at h
 . rename_i x p
   simp only[Bool.and_eq_true,decide_eq_true_eq,ZE,Bool.or_eq_true,Bool.not_eq_true']at h
   obtain⟨⟨⟨h1,h2⟩,h3⟩,h4⟩:=h
   have hv:L2.Vis X.env.scope x:=o.scp.vis x (by rcases h2 with (z|z)|z;exact .inl z;exact .inr (.inl z);exact .inr (.inr z))
   show L2.PE X _ (tV X.K X.mg env s (match env[i]? with|some (some v)=>.ok v s|_=>.stuck))
   refine yC (L2.XH (i:=i) (by rw[o.scp.hN];exact h1) hv h3 h4) fun σ H Q ⟨ρ,hr,er,w⟩=>?_
   split at w
   . rename_i v e
     obtain⟨x',h5,h6⟩:=er.at_ i v e
     exact⟨x',h5,zK hr h6 w⟩
   . exact w.elim
 . cases h
theorem Wc{y:Str}:JE T n (.gl y):=by
 intro sc N X e o h env s
 simp only[ck]at h
 split at h
 . rename_i x p
   simp only[Bool.and_eq_true,decide_eq_true_eq,ui,Bool.not_eq_true']at h
   obtain⟨⟨h1,h2⟩,h3⟩:=h
   subst h1
   show L2.PE X _ (tV X.K X.mg env s (match T.gl x with|some v=>.ok v s|Option.none=>.stuck))
   cases hv:T.gl x with
   |none=>exact zL (zE rfl)
   |some v=>
    obtain⟨u,xv,e1,e2,e3⟩:=o.gls x v hv
    exact yC (L2.b5 (o.scp.gl x h2) e1 e2 h3) fun σ H Q ⟨ρ,hr,er,w⟩=>zK hr (e3 ρ H) w
 . cases h
theorem Wf{y:Str}{m:String}:JE T n (.ty y m):=by
 intro sc N X e o h env s
 simp only[ck]at h
 split at h
 . rename_i x p
   simp only[Bool.and_eq_true,decide_eq_true_eq,ui]at h
   obtain⟨⟨h1,h2⟩,h3⟩:=h
   subst h1
   show L2.PE X _ (tV X.K X.mg env s (.ok (.ty m) s))
   have key:x∈wg∧bootBuiltins x=some (.type m)∧x≠"__name__"∧(x == ("__debug__":Str))=false:=by
    unfold Vo at h3
    simp only[Bool.or_eq_true,Bool.and_eq_true,decide_eq_true_eq]at h3
    rcases h3 with ((((⟨rfl,rfl⟩|⟨rfl,rfl⟩)|⟨rfl,rfl⟩)|⟨rfl,rfl⟩)|⟨rfl,rfl⟩)|⟨rfl,rfl⟩
    . exact⟨by decide,PyProof.Rows.boot_int,by decide,by decide⟩
    . exact⟨by decide,PyProof.Rows.boot_bool,by decide,by decide⟩
    . exact⟨by decide,PyProof.Rows.boot_str,by decide,by decide⟩
    . exact⟨by decide,PyProof.Rows.boot_list,by decide,by decide⟩
    . exact⟨by decide,PyProof.Rows.boot_tuple,by decide,by decide⟩
    . exact⟨by decide,PyProof.Rows.boot_dict,by decide,by decide⟩
   exact yC (L2.VG (o.scp.gl x h2) (o.blt x key.1) key.2.1 key.2.2.1 key.2.2.2) fun σ H Q ⟨ρ,hr,er,w⟩=>zK hr (.ty _) w
 . cases h
theorem bF{t:Bool}:JE T n (.dctN t):=by
 intro sc N X e o h env s
 simp only[ck]at h
 split at h
 . show L2.PE X _ (tV X.K X.mg env s (.ok (.dref s.length) (s++[if t then .dT [] else .dS []])))
   cases t with
   |true=>exact yC L2.eN fun σ H Q ⟨ρ,hr,er,w⟩ p hp=>w _ _ _ (Ext.own hr hp _) (hr.Yu hp ⟨[],L2.zo,rfl,.nil⟩) (.dref (sX hr p) (by rw[L2.zo];decide))
   |false=>exact yC L2.eM fun σ H Q ⟨ρ,hr,er,w⟩ p hp=>w _ _ _ (Ext.own hr hp _) (hr.Yu hp ⟨[],L2.zo,rfl,.nil⟩) (.dref (sX hr p) (by rw[L2.zo];decide))
 . cases h
theorem fQ{a b:Ex}(ja:JE T n a)(jb:JE T n b):JE T n (.ixD a b):=by
 intro sc N X e o h env s
 simp only[ck]at h
 split at h
 . simp only[Bool.and_eq_true]at h
   have h1:=ja _ _ _ _ o h.1.1 env s
   have h2:=fun s1=>jb _ _ _ _ o h.1.2 env s1
   show L2.PE X _ (tV X.K X.mg env s ((evE (zF T n) T.gl env a s).bind fun x s1=>(evE (zF T n) T.gl env b s1).bind fun y s2=>ixD x y s2))
   cases ha:evE (zF T n) T.gl env a s with
   |ok v s1=>
    rw[ha]at h1
    have h2':=h2 s1
    simp only[zN]
    cases hb:evE (zF T n) T.gl env b s1 with
    |ok w s2=>
     rw[hb]at h2'
     refine yC (L2.b0 (by have:=o.room.un;omega) h1 h2' (mH h.2)) fun σ H Q ⟨ρ,hr,er,wt⟩=>⟨ρ,hr,er,fun ρ1 x H1 x1 hr1 r1=>⟨ρ1,hr1,er.mono x1,fun ρ2 y H2 x2 hr2 r2=>?_⟩⟩
     have wt':y4 X.K X.mg (RD X.K X.mg) ρ2 H2 (ixD v w s2) Q:=wt.mono (x1.trans hr1 x2) hr2
     unfold ixD at wt'
     split at wt'
     . rename_i u e
       obtain⟨p,o',ex,g,ro⟩:=getD_at hr2 (r1.mono x2) r2 e
       cases o' with
       |none=>exact ro.elim
       |some z=>exact⟨p,z,ex,g,zK hr2 ro wt'⟩
     . exact wt'.elim
    |exc _ _ _=>exact zL (zE rfl)
    |stuck=>exact zL (zE rfl)
   |exc _ _ _=>exact zL (zE rfl)
   |stuck=>exact zL (zE rfl)
 . cases h
theorem nG{op:Cop}{x y v:Val}{s s':Sto}(h:zU op x y s=.ok v s'):∃b,v=.bool b:=by
 unfold zU at h
 split at h<;>(split at h<;>first|(cases h;exact⟨_,rfl⟩)|cases h|(split at h<;>first|(cases h;exact⟨_,rfl⟩)|cases h|(split at h<;>first|(cases h;exact⟨_,rfl⟩)|cases h)))
theorem qL{K:KF}{mg:Str→Option Value}{ρ:Own}{H:L2.Hp}{o:Out Val}{Q:Bool→L2.Hp→Prop}(hb:∀v s',o=.ok v s'→∃b,v=.bool b)(w:y4 K mg (fun _ _ a b=>a=b) ρ H o.truth Q):y4 K mg (RD K mg) ρ H o fun x H'=>∃k,x=.bl k∧Q k H':=by
 cases o with
 |ok v s1=>
  obtain⟨b,rfl⟩:=hb v s1 rfl
  intro ρ1 x H1 x1 hr1 r1
  cases r1
  exact⟨b,rfl,w _ _ _ x1 hr1 rfl⟩
 |exc _ _ _=>exact w
 |stuck=>exact w
theorem YW{X:L2.Cx}{env:Env}{s:Sto}{a b:Expr}{op:Cop}{o:Out Val}{f2:Sto→Out Val}{k:Nat}{pos:Pos}(k1:okC op=true)(hr0:L2.y1 k X.A)(h1:L2.PE X a (tV X.K X.mg env s o))(h2:∀s1,L2.PE X b (tV X.K X.mg env s1 (f2 s1)))(hm:plain b=true) :
 L2.PT X (.Compare a [op.op] [b] pos) (tT X.K X.mg env s (o.bind fun x s1=>(f2 s1).bind fun y s2=>zU op x y s2).truth):=by
 cases o with
 |ok v s1=>
  have h2':=h2 s1
  show L2.PT X _ (tT X.K X.mg env s ((f2 s1).bind fun y s2=>zU op v y s2).truth)
  cases hb:f2 s1 with
  |ok w s2=>
   rw[hb]at h2'
   exact oa (L2.aH (tX hr0 op k1) h1 h2' (vK hm)) fun σ H Q ⟨ρ,hr,er,wt⟩=>⟨ρ,hr,er,fun ρ1 x H1 x1 hr1 r1=>⟨ρ1,hr1,er.mono x1,fun ρ2 y H2 x2 hr2 r2=>⟨ρ2,s2,v,w,hr2,r1.mono x2,r2,qL (fun _ _ h=>nG h) (wt.mono (x1.trans hr1 x2) hr2)⟩⟩⟩
  |exc _ _ _=>exact yN (zE rfl)
  |stuck=>exact yN (zE rfl)
 |exc _ _ _=>exact yN (zE rfl)
 |stuck=>exact yN (zE rfl)
theorem fW{X:L2.Cx}{env:Env}{s:Sto}{a b c:Expr}{op op':Cop}{o:Out Val}{f2 f3:Sto→Out Val}{k:Nat}{pos:Pos}(k1:okC op=true)(k2:okC op'=true)(hr0:L2.y1 k X.A)(h1:L2.PE X a (tV X.K X.mg env s o))(h2:∀s1,L2.PE X b (tV X.K X.mg env s1 (f2 s1)))(h3:∀s1,L2.PE X c (tV X.K X.mg env s1 (f3 s1)))(hm:plain c=true) :
 L2.PT X (.Compare a [op.op,op'.op] [b,c] pos) (tT X.K X.mg env s (o.bind fun x s1=>(f2 s1).bind fun y s2=>(zU op x y s2).bind fun r s3=>match r with
  |.bool true=>(f3 s3).bind fun z s4=>zU op' y z s4
  |.bool false=>.ok (.bool false) s3
  |_=>.stuck).truth):=by
 cases o with
 |ok v s1=>
  have h2':=h2 s1
  show L2.PT X _ (tT X.K X.mg env s ((f2 s1).bind _).truth)
  cases hb:f2 s1 with
  |ok w s2=>
   rw[hb]at h2'
   show L2.PT X _ (tT X.K X.mg env s ((zU op v w s2).bind _).truth)
   cases hc:zU op v w s2 with
   |ok r s3=>
    cases r with
    |bool t=>
     have h3':=h3 s3
     have rule:=L2.eo (pos:=pos) (tX hr0 op k1) (tX hr0 op' k2) h1 h2' h3' (show lastMarks [op.op,op'.op] [b,c]=false from vK hm)
     refine oa rule fun σ H Q ⟨ρ,hr,er,wt⟩=>⟨ρ,hr,er,fun ρ1 x H1 x1 hr1 r1=>⟨ρ1,hr1,er.mono x1,fun ρ2 y H2 x2 hr2 r2=>⟨ρ2,s2,v,w,hr2,r1.mono x2,r2,?_⟩⟩⟩
     rw[hc]
     intro ρ3 z H3 x3 hr3 r3
     cases r3
     refine⟨t,rfl,?_⟩
     have xx:=(x1.trans hr1 x2).trans hr2 x3
     have wt':=wt.mono xx hr3
     cases t with
     |true=>
      rw[if_pos rfl]
      refine⟨ρ3,hr3,er.mono xx,?_⟩
      have wt2:y4 X.K X.mg (fun _ _ a b=>a=b) ρ3 H3 ((f3 s3).bind fun z s4=>zU op' w z s4).truth Q:=wt'
      cases hz:f3 s3 with
      |ok u s4=>
       rw[hz]at wt2
       exact fun ρ4 q H4 x4 hr4 r4=>⟨ρ4,s4,w,u,hr4,(r2.mono x3).mono x4,r4,qL (fun _ _ h=>nG h) (wt2.mono x4 hr4)⟩
      |exc _ _ _=>rw[hz]at wt2;exact wt2
      |stuck=>rw[hz]at wt2;exact wt2
     |false=>
      rw[if_neg Bool.false_ne_true]
      exact⟨false,rfl,wt' _ _ _ Ext.refl hr3 rfl⟩
    |_=>exact yN (zE rfl)
   |exc _ _ _=>exact yN (zE rfl)
   |stuck=>exact yN (zE rfl)
  |exc _ _ _=>exact yN (zE rfl)
  |stuck=>exact yN (zE rfl)
 |exc _ _ _=>exact yN (zE rfl)
 |stuck=>exact yN (zE rfl)
theorem YI{op:Cop}{a b:Ex}(ja:JE T n a)(jb:JE T n b):JC T n (.val (.cmp op a b)):=by
 intro sc N X e o h env s
 simp only[ckC,Bool.and_eq_true,ck]at h
 obtain⟨h1,_⟩:=h
 split at h1
 . simp only[Bool.and_eq_true,decide_eq_true_eq]at h1
   obtain⟨⟨⟨⟨k1,rfl⟩,h3⟩,h4⟩,h5⟩:=h1
   exact YW k1 o.room (ja _ _ _ _ o h3 env s) (fun s1=>jb _ _ _ _ o h4 env s1) h5
 . cases h1
theorem fM{op op':Cop}{a b c:Ex}(ja:JE T n a)(jb:JE T n b)(jc:JE T n c):JC T n (.val (.chain op op' a b c)):=by
 intro sc N X e o h env s
 simp only[ckC,Bool.and_eq_true,ck]at h
 obtain⟨h1,_⟩:=h
 split at h1
 . simp only[Bool.and_eq_true,decide_eq_true_eq]at h1
   obtain⟨⟨⟨⟨⟨⟨k1,rfl⟩,k2,rfl⟩,h3⟩,h4⟩,h5⟩,h6⟩:=h1
   exact fW k1 k2 o.room (ja _ _ _ _ o h3 env s) (fun s1=>jb _ _ _ _ o h4 env s1) (fun s1=>jc _ _ _ _ o h5 env s1) h6
 . cases h1
noncomputable def WU:Ex→Bool
 |.cmp ..|.chain ..=>true
 |_=>false
theorem yH{a:Ex}(ja:JE T n a)(hn:WU a=false):JC T n (.val a):=by
 intro sc N X e o h env s
 simp only[ckC,Bool.and_eq_true,Bool.or_eq_true]at h
 obtain⟨h1,h2⟩:=h
 have je:=ja sc N X e o h1 env s
 rcases h2 with h2|h2
 . exact YY h2 je
 . split at h2
   . cases a<;>first|(cases hn;done)|(simp only[ck,pB]at h1;cases h1;done)|(simp only[ck,pB]at h1;split at h1<;>first|(rename_i heq;cases heq;done)|(cases h1;done))
   . cases h2
end
end M
end
section
namespace M
open PySem
section
variable {T:Tbl}{n:Nat}
theorem Z2{m:Bool}{op:Bop}{a b:Ex}(ja:JE T n a)(jb:JE T n b):JE T n (.bin m op a b):=by
 intro sc N X e o h env s
 simp only[ck]at h
 split at h
 . simp only[Bool.and_eq_true,decide_eq_true_eq]at h
   obtain⟨⟨⟨k1,rfl⟩,h1⟩,h2⟩:=h
   exact Zd (ja _ _ _ _ o h1 env s) (fun s1=>jb _ _ _ _ o h2 env s1) fun ta tb pa pb=>L2.VF (Ym m op k1) pa pb
 . cases h
theorem Z7{a:Ex}(ja:JE T n a):JE T n (.not a):=by
 intro sc N X e o h env s
 simp only[ck]at h
 split at h
 . exact YN (ja _ _ _ _ o h env s)
 . cases h
theorem Z4{op:Cop}{a b:Ex}(ja:JE T n a)(jb:JE T n b):JE T n (.cmp op a b):=by
 intro sc N X e o h env s
 simp only[ck]at h
 split at h
 . simp only[Bool.and_eq_true,decide_eq_true_eq]at h
   obtain⟨⟨⟨⟨k1,rfl⟩,h1⟩,h2⟩,h3⟩:=h
   exact Zd (ja _ _ _ _ o h1 env s) (fun s1=>jb _ _ _ _ o h2 env s1) fun ta tb pa pb=>L2.bz (tX o.room op k1) pa pb (vK h3)
 . cases h
theorem fH{op op':Cop}{a b c:Ex}(ja:JE T n a)(jb:JE T n b)(jc:JE T n c):JE T n (.chain op op' a b c):=by
 intro sc N X e o h env s
 simp only[ck]at h
 split at h
 . simp only[Bool.and_eq_true,decide_eq_true_eq]at h
   obtain⟨⟨⟨⟨⟨⟨k1,rfl⟩,k2,rfl⟩,h3⟩,h4⟩,h5⟩,h6⟩:=h
   exact fP k1 k2 o.room (ja _ _ _ _ o h3 env s) (fun s1=>jb _ _ _ _ o h4 env s1) (fun s1=>jc _ _ _ _ o h5 env s1) h6
 . cases h
theorem Z1{a:Ex}{es:Exs}(ja:JE T n a)(jl:JL T n es):JE T n (.andE a es):=by
 intro sc N X e o h env s
 simp only[ck]at h
 split at h
 . rename_i x xs pos
   simp only[Bool.and_eq_true]at h
   obtain⟨h1,h2⟩:=h
   cases es with
   |nil=>
    simp only[ckL]at h2
    split at h2
    . exact L2.lZ (ja _ _ _ _ o h1 env s)
    . cases h2
   |cons b es'=>
    cases xs with
    |nil=>cases h2
    |cons y ys=>exact fN (ja _ _ _ _ o h1 env s) fun s1=>(jl _ _ _ _ o h2).2.1 y ys pos rfl env s1
 . cases h
theorem Z5{c:Cn}{a b:Ex}(jc:JC T n c)(ja:JE T n a)(jb:JE T n b):JE T n (.ife c a b):=by
 intro sc N X e o h env s
 simp only[ck]at h
 split at h
 . simp only[Bool.and_eq_true]at h
   exact YK (jc _ _ _ _ o h.1.1 env s) (fun s1=>ja _ _ _ _ o h.1.2 env s1) (fun s1=>jb _ _ _ _ o h.2 env s1)
 . cases h
theorem Z8{es:Exs}(jl:JL T n es):JE T n (.tup es):=by
 intro sc N X e o h env s
 simp only[ck]at h
 split at h
 . simp only[Bool.and_eq_true]at h
   exact fS ((jl _ _ _ _ o h.1).1 h.2 env s)
 . cases h
theorem Z6{m:Bool}{es:Exs}(jl:JL T n es):JE T n (.lst m es):=by
 intro sc N X e o h env s
 simp only[ck]at h
 split at h
 . simp only[Bool.and_eq_true]at h
   exact YM ((jl _ _ _ _ o h.1).1 h.2 env s)
 . cases h
theorem mw{f:Str}{ver:Nat}(h:T.fn f ver=none)(vs:List Val)(s:Sto):zF T n f ver vs s=.stuck:=by
 cases n with
 |zero=>rfl
 |succ n=>simp only[zF,h]
theorem cx{f:Str}{ver:Nat}{es:Exs}(jl:JL T n es):JE T n (.call f ver es):=by
 intro sc N X e o h env s
 simp only[ck]at h
 split at h
 . rename_i x p xs pos
   simp only[Bool.and_eq_true,decide_eq_true_eq,ui,Bool.not_eq_true']at h
   obtain⟨⟨⟨⟨rfl,h2⟩,h3⟩,h4⟩,h5⟩:=h
   show L2.PE X _ (tV X.K X.mg env s ((y2 (zF T n) T.gl env es s).bind fun vs s1=>zF T n x ver vs s1))
   cases hf:T.fn x ver with
   |none=>
    refine zL fun v s' e=>?_
    cases hv:y2 (zF T n) T.gl env es s with
    |ok vs s1=>rw[hv]at e;simp only[zN,mw hf]at e;cases e
    |exc _ _ _=>rw[hv]at e;cases e
    |stuck=>rw[hv]at e;cases e
   |some F=>
    have C:=o.fns x ver F hf
    cases xs with
    |nil=>
     cases es with
     |nil=>exact fO C o.room (o.scp.gl x h2) h3
     |cons _ _=>cases h4
    |cons y ys=>exact bE C o.room (o.scp.gl x h2) h3 h5 (by simp) ((jl _ _ _ _ o h4).1 h5 env s)
 . cases h
theorem Zc(f:Bf):f.nm∈wg:=by cases f<;>decide
theorem Z3{f:Bf}{m:Bool}{es:Exs}(jl:JL T n es):JE T n (.blt f m es):=by
 intro sc N X e o h env s
 simp only[ck]at h
 split at h
 . rename_i x p y ys pos
   simp only[Bool.and_eq_true,decide_eq_true_eq,ui]at h
   obtain⟨⟨⟨⟨k1,rfl⟩,h2⟩,h3⟩,h4⟩:=h
   exact YJ k1 o.calm o.room (o.scp.gl _ h2) (o.blt _ (Zc f)) h4 ((jl _ _ _ _ o h3).1 h4 env s)
 . cases h
theorem cz{f:Mf}{m:Bool}{a:Ex}{es:Exs}(ja:JE T n a)(jl:JL T n es):JE T n (.tS f m a es):=by
 intro sc N X e o h env s
 simp only[ck]at h
 split at h
 . rename_i ob x ap y cp
   simp only[Bool.and_eq_true,decide_eq_true_eq]at h
   obtain⟨⟨⟨⟨⟨⟨rfl,h1⟩,h2⟩,h3⟩,h4⟩,h5⟩,hm⟩:=h
   obtain⟨b,rfl,jb⟩:=(jl _ _ _ _ o h2).2.2.2 y rfl h3
   exact fR hm h4 h3 h5 (ja _ _ _ _ o h1 env s) fun s1=>jb env s1
 . cases h
theorem WX{a b:Ex}(ja:JE T n a)(jb:JE T n b):JE T n (.ix a b):=by
 intro sc N X e o h env s
 simp only[ck]at h
 split at h
 . simp only[Bool.and_eq_true]at h
   exact Zd (ja _ _ _ _ o h.1.1 env s) (fun s1=>jb _ _ _ _ o h.1.2 env s1) fun ta tb pa pb=>L2.VD WV pa pb (mH h.2)
 . cases h
theorem WY{m:Bool}{a:Ex}{lo hi st:OEx}(ja:JE T n a)(j1:JO T n lo)(j2:JO T n hi)(j3:JO T n st):JE T n (.sl m a lo hi st):=by
 intro sc N X e o h env s
 simp only[ck]at h
 split at h
 . simp only[Bool.and_eq_true]at h
   obtain⟨⟨⟨h1,h2⟩,h3⟩,h4⟩:=h
   obtain⟨p3,q3⟩:=j3 _ _ _ _ o h4
   refine We (ja _ _ _ _ o h1 env s) (fun s1=>(j1 _ _ _ _ o h2).1 env s1) (fun s1=>(j2 _ _ _ _ o h3).1 env s1) (fun s1=>p3 env s1) ?_
   rcases q3 with⟨e1,e2⟩|⟨e',e1,e2⟩
   . exact .inl ⟨e1,fun s1=>e2 env s1⟩
   . exact .inr ⟨e',e1,fun s1 s2=>e2 env s1 s2⟩
 . cases h
theorem cy{m:Bool}{N':List Str}{fr:List (Option Nat)}{elt:Ex}{t:Tgt}{it:Itb}{ifs:Cns}(je:JE T n elt)(ji:JI T n it)(jc:JCs T n ifs):JE T n (.comp m N' fr elt t it ifs):=by
 intro sc N X e o h env s
 simp only[ck]at h
 split at h
 . rename_i x tg iter fs csc cpos
   simp only[Bool.and_eq_true,decide_eq_true_eq]at h
   obtain⟨⟨⟨⟨⟨⟨h1,h2⟩,h3⟩,h4⟩,h5⟩,h6⟩,h7⟩:=h
   have S:=kZ o.scp h1
   have oc:=o.comp S h2
   obtain⟨g,pg,tg'⟩:∃g,(∀C s0 H0 ex,L2.PG (X.comp N' csc C s0 H0 ex) tg g)∧tK X.K X.mg t g:=by
    cases t with
    |nm i=>
     cases tg with
     |Name y p=>
      simp only[ckT,Bool.and_eq_true,Bool.or_eq_true,decide_eq_true_eq]at h3
      exact⟨_,fun C s0 H0 ex=>pT (oc C s0 H0 ex).scp h3.1 h3.2,uz⟩
     |_=>cases h3
    |nms is=>
     cases tg with
     |Tuple es k p=>
      simp only[ckT,Bool.and_eq_true,decide_eq_true_eq]at h3
      refine⟨_,fun C s0 H0 ex=>?_,w9 (is:=is)⟩
      obtain⟨a,b,c⟩:=xf (oc C s0 H0 ex).scp h3.1
      exact L2.tY (X:=X.comp N' csc C s0 H0 ex) o.calm a b c
     |_=>cases h3
   have rule:L2.PE X (.ListComp x [⟨tg,iter,fs,0⟩] csc cpos) (L2.ve fr (uI X.K X.mg (zF T n) T.gl it) g (uTs X.K X.mg (zF T n) T.gl ifs) fun acc=>L2.v8 acc (uE X.K X.mg (zF T n) T.gl elt)):=
    L2.jY o.calm S (lh fun env s=>ji _ _ _ _ _ o h4 env s) pg (fun C s0 H0 ex=>(jc _ _ _ _ (oc C s0 H0 ex) h5).2.2) (fun C s0 H0 ex=>b6 (X:=X.comp N' csc C s0 H0 ex) fun env s=>je _ _ _ _ (oc C s0 H0 ex) h6 env s) (yW h7)
   refine yC rule fun σ H Q hq=>vo (env:=env) (s:=s) (chk:=false) (m:=m) (body:=v9 (zF T n) T.gl elt ifs) tg' wY (fun acc ρ0 H0 hn=>qO hn) ?_ fun _ r s1 p s2 hl=>?_
   . simp only[Bool.false_eq_true,false_implies,if_true];exact hq
   . have:=tw hl
     simpa using this
 . cases h
theorem fI{m:Bool}{N':List Str}{fr:List (Option Nat)}{elt:Ex}{t t2:Tgt}{it it2:Itb}{ifs ifs2:Cns}(je:JE T n elt)(ji:JI T n it)(jc:JCs T n ifs)(ji2:JI T n it2)(jc2:JCs T n ifs2):JE T n (.comp2 m N' fr elt t it ifs t2 it2 ifs2):=by
 intro sc N X e o h env s
 simp only[ck]at h
 split at h
 . rename_i x tg iter fs tg2 iter2 fs2 csc cpos
   simp only[Bool.and_eq_true,decide_eq_true_eq]at h
   obtain⟨⟨⟨⟨⟨⟨⟨⟨⟨⟨h1,h2⟩,h3⟩,h4⟩,h5⟩,h6⟩,h7⟩,h8⟩,h9⟩,h10⟩,h11⟩:=h
   have S:=kZ o.scp h1
   have oc:=o.comp S h2
   have tgt:∀(t:Tgt) (tg:Expr),ckT csc N' t tg=true→∃g,(∀C s0 H0 ex,L2.PG (X.comp N' csc C s0 H0 ex) tg g)∧tK X.K X.mg t g:=by
    intro t tg h3
    cases t with
    |nm i=>
     cases tg with
     |Name y p=>
      simp only[ckT,Bool.and_eq_true,Bool.or_eq_true,decide_eq_true_eq]at h3
      exact⟨_,fun C s0 H0 ex=>pT (oc C s0 H0 ex).scp h3.1 h3.2,uz⟩
     |_=>cases h3
    |nms is=>
     cases tg with
     |Tuple es k p=>
      simp only[ckT,Bool.and_eq_true,decide_eq_true_eq]at h3
      refine⟨_,fun C s0 H0 ex=>?_,w9 (is:=is)⟩
      obtain⟨a,b,c⟩:=xf (oc C s0 H0 ex).scp h3.1
      exact L2.tY (X:=X.comp N' csc C s0 H0 ex) o.calm a b c
     |_=>cases h3
   obtain⟨g,pg,tg'⟩:=tgt t tg h3
   obtain⟨g2,pg2,tg2'⟩:=tgt t2 tg2 h6
   have rule:=L2.mD (cpos:=cpos) (elt:=x) (ifs:=fs) (ifs2:=fs2) (ts:=uTs X.K X.mg (zF T n) T.gl ifs) (ts2:=uTs X.K X.mg (zF T n) T.gl ifs2) (wi2:=uI X.K X.mg (zF T n) T.gl it2) (te:=uE X.K X.mg (zF T n) T.gl elt) o.calm S (lh (tg:=tg) fun env s=>ji _ _ _ _ _ o h4 env s) pg (fun C s0 H0 ex=>(jc _ _ _ _ (oc C s0 H0 ex) h5).2.2)
    (fun C s0 H0 ex=>lh (X:=X.comp N' csc C s0 H0 ex) (tg:=tg2) fun env s=>ji2 _ _ _ _ _ (oc C s0 H0 ex) h7 env s) pg2 (fun C s0 H0 ex=>(jc2 _ _ _ _ (oc C s0 H0 ex) h8).2.2)
    (fun C s0 H0 ex=>b6 (X:=X.comp N' csc C s0 H0 ex) fun env s=>je _ _ _ _ (oc C s0 H0 ex) h9 env s) (yW h10) (fun env=>yW h11)
   refine yC rule fun σ H Q hq=>vo (env:=env) (s:=s) (chk:=true) (m:=m) (body:=tu (zF T n) T.gl elt ifs t2 it2 ifs2) tg' u5 (fun acc ρ0 H0 hn=>pk hn tg2') ?_ fun z=>by cases z
   simp only[true_implies];exact hq
 . cases h
theorem YB:JL T n .nil:=by
 intro sc N X es o h
 simp only[ckL]at h
 split at h
 . exact⟨fun _ env s=>bG,⟨fun e es' pos z=>(nomatch z),⟨fun e es' pos z=>(nomatch z),fun y z=>(nomatch z)⟩⟩⟩
 . cases h
theorem bA{a:Ex}{as:Exs}(ja:JE T n a)(jl:JL T n as):JL T n (.cons a as):=by
 intro sc N X es o h
 simp only[ckL]at h
 split at h
 . rename_i e es
   simp only[Bool.and_eq_true]at h
   obtain⟨h1,h2⟩:=h
   obtain⟨l1,l2,l3,l4⟩:=jl _ _ _ _ o h2
   refine⟨fun hp env s=>?_,fun e' es' pos z env s=>?_,fun e' es' pos z env s=>?_,fun y z hp=>?_⟩
   . rw[yp,Bool.and_eq_true]at hp
     exact fT hp.1 (ja _ _ _ _ o h1 env s) fun s1=>l1 hp.2 env s1
   . cases as with
     |nil=>
      simp only[ckL]at h2
      split at h2
      . exact L2.lZ (ja _ _ _ _ o h1 env s)
      . cases h2
     |cons b as'=>
      cases es with
      |nil=>cases h2
      |cons y ys=>exact fN (ja _ _ _ _ o h1 env s) fun s1=>l2 y ys pos rfl env s1
   . cases as with
     |nil=>
      simp only[ckL]at h2
      split at h2
      . exact L2.lZ (ja _ _ _ _ o h1 env s)
      . cases h2
     |cons b as'=>
      cases es with
      |nil=>cases h2
      |cons y ys=>exact Wd (ja _ _ _ _ o h1 env s) fun s1=>l3 y ys pos rfl env s1
   . cases z
     cases as with
     |nil=>exact⟨a,rfl,fun env s=>ja _ _ _ _ o h1 env s⟩
     |cons _ _=>cases h2
 . cases h
theorem WZ:JO T n .no:=by
 intro sc N X e o h
 simp only[ckO]at h
 split at h
 . exact⟨fun env s=>Wg,.inl ⟨rfl,fun env s1=>rfl⟩⟩
 . cases h
theorem YC{a:Ex}(ja:JE T n a):JO T n (.yes a):=by
 intro sc N X e o h
 simp only[ckO]at h
 split at h
 . refine⟨fun env s=>YS (ja _ _ _ _ o h env s),.inr ⟨_,rfl,fun env s1 s2 z=>?_⟩⟩
   have z':((evE (zF T n) T.gl env a s1).bind fun v s1=>match v with|.int i=>.ok (some i) s1|_=>.stuck)=.ok none s2:=z
   cases hv:evE (zF T n) T.gl env a s1 with
   |ok v s3=>rw[hv]at z';cases v<;>cases z'
   |exc _ _ _=>rw[hv]at z';cases z'
   |stuck=>rw[hv]at z';cases z'
 . cases h
theorem Z0{c:Cn}(jc:JC T n c):JC T n (.not c):=by
 intro sc N X e o h env s
 simp only[ckC]at h
 split at h
 . exact YX (jc _ _ _ _ o h env s)
 . cases h
theorem Zz{c:Cn}{cs:Cns}(jc:JC T n c)(jcs:JCs T n cs):JC T n (.and c cs):=by
 intro sc N X e o h env s
 simp only[ckC]at h
 split at h
 . simp only[Bool.and_eq_true]at h
   exact(fX (jc _ _ _ _ o h.1 env s) fun s1=>(jcs _ _ _ _ o h.2).1 _ env s1).pt
 . cases h
theorem WW{c:Cn}{cs:Cns}(jc:JC T n c)(jcs:JCs T n cs):JC T n (.or c cs):=by
 intro sc N X e o h env s
 simp only[ckC]at h
 split at h
 . simp only[Bool.and_eq_true]at h
   exact(ZF (jc _ _ _ _ o h.1 env s) fun s1=>(jcs _ _ _ _ o h.2).2.1 _ env s1).pt
 . cases h
theorem cw:JCs T n .nil:=by
 intro sc N X es o h
 simp only[oF]at h
 split at h
 . exact⟨fun pos env s=>lH,fun pos env s=>iL,.nil⟩
 . cases h
theorem fG{c:Cn}{cs:Cns}(jc:JC T n c)(jcs:JCs T n cs):JCs T n (.cons c cs):=by
 intro sc N X es o h
 simp only[oF]at h
 split at h
 . simp only[Bool.and_eq_true]at h
   obtain⟨a,b,d⟩:=jcs _ _ _ _ o h.2
   exact⟨fun pos env s=>fX (jc _ _ _ _ o h.1 env s) fun s1=>a pos env s1,fun pos env s=>ZF (jc _ _ _ _ o h.1 env s) fun s1=>b pos env s1,.cons (UA fun env s=>jc _ _ _ _ o h.1 env s) d⟩
 . cases h
theorem Z9{a:Ex}(ja:JE T n a):JI T n (.val a):=fun sc N X e tg o h env s=>YQ (ja _ _ _ _ o (by simpa only[ckI] using h) env s)
theorem iH{a:Ex}(ja:JE T n a):JI T n (.range1 a):=by
 intro sc N X e tg o h env s
 simp only[ckI]at h
 split at h
 . simp only[Bool.and_eq_true,decide_eq_true_eq,ui]at h
   obtain⟨⟨⟨rfl,h1⟩,h2⟩,h3⟩:=h
   exact iJ h3 (o.scp.gl _ h1) (o.blt _ (by decide)) (ja _ _ _ _ o h2 env s)
 . cases h
theorem iI{a b:Ex}(ja:JE T n a)(jb:JE T n b):JI T n (.range2 a b):=by
 intro sc N X e tg o h env s
 simp only[ckI]at h
 split at h
 . simp only[Bool.and_eq_true,decide_eq_true_eq,ui]at h
   obtain⟨⟨⟨⟨⟨rfl,h1⟩,h2⟩,h3⟩,h4⟩,h5⟩:=h
   exact iK h4 h5 (o.scp.gl _ h1) (o.blt _ (by decide)) (ja _ _ _ _ o h2 env s) fun s1=>jb _ _ _ _ o h3 env s1
 . cases h
theorem YA{a b:Ex}(ja:JE T n a)(jb:JE T n b):JI T n (.zip a b):=by
 intro sc N X e tg o h env s
 simp only[ckI]at h
 split at h
 . simp only[Bool.and_eq_true,decide_eq_true_eq,ui]at h
   obtain⟨⟨⟨⟨⟨rfl,h1⟩,h2⟩,h3⟩,h4⟩,h5⟩:=h
   exact YR h4 h5 (o.scp.gl _ h1) (o.blt _ (by decide)) (ja _ _ _ _ o h2 env s) fun s1=>jb _ _ _ _ o h3 env s1
 . cases h
end
section
variable (T:Tbl)(n:Nat)
mutual
theorem jE:∀a:Ex,JE T n a
 |.lit _=>YL
 |.var _=>YO
 |.gl _=>Wc
 |.ty _ _=>Wf
 |.bin _ _ a b=>Z2 (jE a) (jE b)
 |.neg _=>fun sc N X e o h=>by cases h
 |.not a=>Z7 (jE a)
 |.cmp _ a b=>Z4 (jE a) (jE b)
 |.chain _ _ a b c=>fH (jE a) (jE b) (jE c)
 |.andE a es=>Z1 (jE a) (jL es)
 |.orE _ _=>fun sc N X e o h=>by cases h
 |.ife c a b=>Z5 (jC c) (jE a) (jE b)
 |.tup es=>Z8 (jL es)
 |.lst _ es=>Z6 (jL es)
 |.dct0=>fun sc N X e o h=>by cases h
 |.dctN _=>bF
 |.ixD a b=>fQ (jE a) (jE b)
 |.call _ _ es=>cx (jL es)
 |.blt _ _ es=>Z3 (jL es)
 |.maxD _ _=>fun sc N X e o h=>by cases h
 |.tS _ _ a es=>cz (jE a) (jL es)
 |.ix a b=>WX (jE a) (jE b)
 |.sl _ a lo hi st=>WY (jE a) (jO lo) (jO hi) (jO st)
 |.comp _ _ _ elt _ it ifs=>cy (jE elt) (jI it) (jCs ifs)
 |.comp2 _ _ _ elt _ it ifs _ it2 ifs2=>fI (jE elt) (jI it) (jCs ifs) (jI it2) (jCs ifs2)
 |.listRange _ _ _ _=>fun sc N X e o h=>by cases h
theorem jL:∀a:Exs,JL T n a
 |.nil=>YB
 |.cons a as=>bA (jE a) (jL as)
theorem jO:∀a:OEx,JO T n a
 |.no=>WZ
 |.yes a=>YC (jE a)
theorem jC:∀a:Cn,JC T n a
 |.val (.cmp _ a b)=>YI (jE a) (jE b)
 |.val (.chain _ _ a b c)=>fM (jE a) (jE b) (jE c)
 |.val (.lit v)=>yH (jE (.lit v)) rfl
 |.val (.var v)=>yH (jE (.var v)) rfl
 |.val (.gl v)=>yH (jE (.gl v)) rfl
 |.val (.ty v w)=>yH (jE (.ty v w)) rfl
 |.val (.bin m o a b)=>yH (jE (.bin m o a b)) rfl
 |.val (.neg a)=>yH (jE (.neg a)) rfl
 |.val (.not a)=>yH (jE (.not a)) rfl
 |.val (.andE a b)=>yH (jE (.andE a b)) rfl
 |.val (.orE a b)=>yH (jE (.orE a b)) rfl
 |.val (.ife a b c)=>yH (jE (.ife a b c)) rfl
 |.val (.tup a)=>yH (jE (.tup a)) rfl
 |.val (.lst m a)=>yH (jE (.lst m a)) rfl
 |.val .dct0=>yH (jE .dct0) rfl
 |.val (.dctN t)=>yH (jE (.dctN t)) rfl
 |.val (.ixD a b)=>yH (fQ (jE a) (jE b)) rfl
 |.val (.call a b c)=>yH (jE (.call a b c)) rfl
 |.val (.blt a b c)=>yH (jE (.blt a b c)) rfl
 |.val (.maxD a b)=>yH (jE (.maxD a b)) rfl
 |.val (.tS a b c d)=>yH (jE (.tS a b c d)) rfl
 |.val (.ix a b)=>yH (jE (.ix a b)) rfl
 |.val (.sl a b c d e)=>yH (jE (.sl a b c d e)) rfl
 |.val (.comp a b c d e f g)=>yH (jE (.comp a b c d e f g)) rfl
 |.val (.comp2 a b c d e f g h i j)=>yH (jE (.comp2 a b c d e f g h i j)) rfl
 |.val (.listRange a b c d)=>yH (jE (.listRange a b c d)) rfl
 |.not c=>Z0 (jC c)
 |.and c cs=>Zz (jC c) (jCs cs)
 |.or c cs=>WW (jC c) (jCs cs)
theorem jCs:∀a:Cns,JCs T n a
 |.nil=>cw
 |.cons c cs=>fG (jC c) (jCs cs)
theorem jI:∀a:Itb,JI T n a
 |.val a=>Z9 (jE a)
 |.range1 a=>iH (jE a)
 |.range2 a b=>iI (jE a) (jE b)
 |.enum _=>fun sc N X e tg o h=>by cases h
 |.zip a b=>YA (jE a) (jE b)
end
end
end M
end
section
namespace M
open PySem
section
variable (K:KF)(mg:Str→Option Value)
def qo(ρ:Own)(H:L2.Hp)(o:Out Fl)(D:L2.Ends):Prop:=
 match o with
 |.ok (.nx e) s'=>∀ρ' H' σ',Ext ρ H ρ' H'→HR K mg ρ' s' H'→ER K mg ρ' H' e σ'→D.nx σ' H'
 |.ok (.bk e) s'=>∀ρ' H' σ',Ext ρ H ρ' H'→HR K mg ρ' s' H'→ER K mg ρ' H' e σ'→D.bk σ' H'
 |.ok (.ct e) s'=>∀ρ' H' σ',Ext ρ H ρ' H'→HR K mg ρ' s' H'→ER K mg ρ' H' e σ'→D.ct σ' H'
 |.ok (.rt v) s'=>∀ρ' H' x,Ext ρ H ρ' H'→HR K mg ρ' s' H'→RD K mg ρ' H' v x→D.rt x H'
 |_=>False
noncomputable def tSt(env:Env)(s:Sto)(o:Out Fl):L2.TS:=fun D σ H=>∃ρ,HR K mg ρ s H∧ER K mg ρ H env σ∧qo K mg ρ H o D
end
section
variable {K:KF}{mg:Str→Option Value}{ρ ρ':Own}{H H':L2.Hp}
theorem qo.mono{s1:Sto}{o:Out Fl}{D:L2.Ends}(w:qo K mg ρ H o D)(x:Ext ρ H ρ' H')(h:HR K mg ρ' s1 H'):qo K mg ρ' H' o D:=by
 cases o with
 |ok fl s'=>
  cases fl with
  |nx e=>exact fun ρ2 H2 σ2 x2 h2 r2=>w ρ2 H2 σ2 (x.trans h x2) h2 r2
  |bk e=>exact fun ρ2 H2 σ2 x2 h2 r2=>w ρ2 H2 σ2 (x.trans h x2) h2 r2
  |ct e=>exact fun ρ2 H2 σ2 x2 h2 r2=>w ρ2 H2 σ2 (x.trans h x2) h2 r2
  |rt v=>exact fun ρ2 H2 y x2 h2 r2=>w ρ2 H2 y (x.trans h x2) h2 r2
 |exc _ _ _=>exact w
 |stuck=>exact w
end
noncomputable def vt:Expr→Bool
 |.ListComp ..|.SetComp ..|.DictComp ..=>false
 |_=>true
theorem qG{e:Expr}{t:Option Expr}{l:Nat}{env:PySem.Env}(h:vt e=true):swapsWith e t l env=pure false:=by cases e<;>first|rfl|cases h
theorem tm{e:Expr}{ts:List Expr}{k:Nat}{p:Pos}{l:Nat}{env:PySem.Env}:swapsWithSole [.Tuple ts k p] e l env=pure false:=by cases e<;>rfl
theorem hW{e o i:Expr}{p:Pos}{l:Nat}{env:PySem.Env}:swapsWithSole [.Subscript o i p] e l env=pure false:=by cases e<;>rfl
theorem mY{o i e:Expr}{p:Pos}{env:PySem.Env}:swappedStores [.Subscript o i p] e env=pure none:=by cases e<;>rfl
noncomputable def ZO(sc:Scope)(ts vs:List Expr):Bool:=
 match ts with
 |[.Name x px,.Name y py]=>decide (sc.names.lookup x=some .local)&&decide (sc.names.lookup y=some .local)&&(px.line == py.line)&&decide (x≠y)&&!(vs.all (foldedForSure 8))&&!(vs.all (constantsAlone 8))
 |[.Name x px,.Name y py,.Name z pz]=>decide (sc.names.lookup x=some .local)&&decide (sc.names.lookup y=some .local)&&decide (sc.names.lookup z=some .local)&&(px.line == py.line)&&(px.line == pz.line)&&decide (x≠y)&&decide (x≠z)&&decide (y≠z)&&!(vs.all (foldedForSure 8))&&!(vs.all (constantsAlone 8))
 |_=>false
noncomputable def ZW(sc:Scope)(ts:List Expr):Bool:=ts.any (fun|.Name x _=>decide (sc.names.lookup x≠some .local)|_=>false)||decide (3<ts.length)
theorem rm{vs:List Expr}(h:yp vs=true):(vs.any fun|.Starred ..=>true|_=>false)=false:=by
 induction vs with
 |nil=>rfl
 |cons v vs ih=>
  rw[yp,Bool.and_eq_true]at h
  rw[List.any_cons,ih h.2]
  cases v<;>first|rfl|(have z:=h.1;cases z)
theorem mZ{x y:Str}{px py pt pt2:Pos}{kt k2:Nat}{a b:Expr}{env:PySem.Env}(hb:env.blockKind=.function)(hx:env.kindOf x=some .local)(hy:env.kindOf y=some .local)(hl:(px.line == py.line)=true)(hne:x≠y)(hp:yp [a,b]=true)
 (hf:[a,b].all (foldedForSure 8)=false) (hc:[a,b].all (constantsAlone 8)=false):swappedStores [.Tuple [.Name x px,.Name y py] kt pt] (.Tuple [a,b] k2 pt2) env=pure (some [x,y]):=by
 have hs:=rm hp
 have hl':(py.line == px.line)=true:=by rw[beq_iff_eq]at hl ⊢;exact hl.symm
 unfold swappedStores
 have e1:([x,y].eraseDups.length != [x,y].length)=false:=by
  have:(y == x)=false:=by simpa using Ne.symm hne
  simp[List.eraseDups_cons,this]
 simp only[List.length_cons,List.length_nil,hb,hf,hs,hc,hx,hy,hl',List.head?_cons,Option.map_some,Option.getD_some,List.filterMap_cons,List.filterMap_nil,beq_self_eq_true,Bool.and_self,if_true]
 have hpos:(Expr.Name x px).pos.line=px.line:=rfl
 refine(if_neg (by decide)).trans ((if_neg (fun z=>Bool.false_ne_true (hs.symm.trans z))).trans ?_)
 simp only[hpos,beq_self_eq_true,hl',Bool.and_self,if_true,e1,List.length_cons,List.length_nil,bne_self_eq_false,Bool.or_self,Bool.false_eq_true,if_false]
 exact if_neg (fun z=>Bool.false_ne_true (e1.symm.trans (by rw[Bool.false_or]at z;exact z)))
theorem qh{x y z:Str}{px py pz pt pt2:Pos}{kt k2:Nat}{a b c:Expr}{env:PySem.Env}(hb:env.blockKind=.function)(hx:env.kindOf x=some .local)(hy:env.kindOf y=some .local)(hz:env.kindOf z=some .local)(hl:(px.line == py.line)=true)(hl2:(px.line == pz.line)=true)
 (hne:x≠y) (hne2:x≠z) (hne3:y≠z) (hp:yp [a,b,c]=true) (hf:[a,b,c].all (foldedForSure 8)=false) (hc:[a,b,c].all (constantsAlone 8)=false):swappedStores [.Tuple [.Name x px,.Name y py,.Name z pz] kt pt] (.Tuple [a,b,c] k2 pt2) env=pure (some [x,y,z]):=by
 have hs:=rm hp
 have hl':(py.line == px.line)=true:=by rw[beq_iff_eq]at hl ⊢;exact hl.symm
 have hl2':(pz.line == px.line)=true:=by rw[beq_iff_eq]at hl2 ⊢;exact hl2.symm
 unfold swappedStores
 have e1:([x,y,z].eraseDups.length != [x,y,z].length)=false:=by
  have h1:(y == x)=false:=by simpa using Ne.symm hne
  have h2:(z == x)=false:=by simpa using Ne.symm hne2
  have h3:(z == y)=false:=by simpa using Ne.symm hne3
  simp[List.eraseDups_cons,h1,h2,h3]
 simp only[List.length_cons,List.length_nil,hb,hf,hs,hc,hx,hy,hz,hl',hl2',List.head?_cons,Option.map_some,Option.getD_some,List.filterMap_cons,List.filterMap_nil,beq_self_eq_true,Bool.and_self,if_true]
 have hpos:(Expr.Name x px).pos.line=px.line:=rfl
 refine(if_neg (by decide)).trans ((if_neg (fun z=>Bool.false_ne_true (hs.symm.trans z))).trans ?_)
 simp only[hpos,beq_self_eq_true,hl',hl2',Bool.and_self,if_true,e1,List.length_cons,List.length_nil,bne_self_eq_false,Bool.or_self,Bool.false_eq_true,if_false]
 exact if_neg (fun z=>Bool.false_ne_true (e1.symm.trans (by rw[Bool.false_or]at z;exact z)))
theorem ue{α β:Type}{f:α→Option β}:∀{l:List α},(∃a∈l,f a=none)→(l.filterMap f).length<l.length
 |[],⟨a,h,_⟩=>by cases h
 |b::l,⟨a,h,e⟩=>by
  rw[List.filterMap_cons]
  have hle:=List.length_filterMap_le f l
  rcases List.mem_cons.mp h with z|z
  . subst z;rw[e];simp only[List.length_cons];omega
  . have:=ue ⟨a,z,e⟩
    cases f b with
    |none=>simp only[List.length_cons];omega
    |some _=>simp only[List.length_cons];omega
theorem hZ{ts vs:List Expr}{kt k2:Nat}{pt pt2:Pos}{env:PySem.Env}(h:(∃x p,Expr.Name x p∈ts∧env.kindOf x≠some .local)∨3<ts.length):swappedStores [.Tuple ts kt pt] (.Tuple vs k2 pt2) env=pure none:=by
 unfold swappedStores
 simp only[]
 split
 . rfl
 . rename_i h1
   split
   . rfl
   . rw[if_pos]
     rcases h with⟨x,p,hm,hk⟩|h
     . rw[Bool.or_eq_true]
       left
       rw[bne_iff_ne]
       refine Nat.ne_of_lt (ue ⟨_,hm,?_⟩)
       have:(env.kindOf x == some .local)=false:=by simpa using hk
       simp only[this,Bool.false_and,Bool.false_eq_true,if_false]
     . exfalso
       apply h1
       have:(ts.length == 2||ts.length == 3)=false:=by
        rw[Bool.or_eq_false_iff]
        constructor<;>(rw[beq_eq_false_iff_ne];omega)
       rw[this];rfl
theorem kB{o i:Expr}{p:Pos}{env:PySem.Env}(h:plain i=true)(v:Value):assign (.Subscript o i p) env v=(do
 let ov ←holding [v] (eval o env)
 let iv ←holding [v,ov] (eval i env)
 standAt p
 holding [v,ov,iv] (setItem ov iv v)
 release [v,ov,iv] []):=by
 cases i<;>first|rfl|cases h
section
variable {X:L2.Cx}{env:Env}{s:Sto}
theorem VM{st:Stmt}{t:L2.TS}(h:∀D σ H,¬t D σ H):L2.PS X st t:=fun pins s σ H D I q=>(h D σ H q).elim
theorem Xh{o:Out Fl}(h:∀v s',o≠.ok v s'){D:L2.Ends}{σ:L2.St}{H:L2.Hp}:¬tSt X.K X.mg env s o D σ H:=by
 rintro ⟨ρ,_,_,w⟩
 cases o with
 |ok v s'=>exact h v s' rfl
 |exc _ _ _=>exact w
 |stuck=>exact w
theorem zM{st:Stmt}{o:Out Fl}(h:∀v s',o≠.ok v s'):L2.PS X st (tSt X.K X.mg env s o):=VM fun _ _ _=>Xh h
theorem bI{e:Expr}{o:Out Val}{pos:Pos}(hn:vt e=true)(h:L2.PE X e (tV X.K X.mg env s o)):L2.PS X (.Expr e pos) (tSt X.K X.mg env s (o.bind fun _ s1=>.ok (.nx env) s1)):=by
 cases o with
 |ok v s1=>exact x8 (L2.aE h (qG hn)) fun D σ H ⟨ρ,hr,er,w⟩=>⟨ρ,hr,er,fun ρ1 x H1 x1 hr1 r1=>w ρ1 H1 σ x1 hr1 (er.mono x1)⟩
 |exc _ _ _=>exact zM (zE rfl)
 |stuck=>exact zM (zE rfl)
theorem YV{e:Expr}{o:Out Val}{pos:Pos}(h:L2.PE X e (tV X.K X.mg env s o)):L2.PS X (.Return (some e) pos) (tSt X.K X.mg env s (o.bind fun v s1=>.ok (.rt v) s1)):=by
 cases o with
 |ok v s1=>exact x8 (L2.XS h) fun D σ H ⟨ρ,hr,er,w⟩=>⟨ρ,hr,er,fun ρ1 x H1 x1 hr1 r1=>w ρ1 H1 x x1 hr1 r1⟩
 |exc _ _ _=>exact zM (zE rfl)
 |stuck=>exact zM (zE rfl)
theorem lG{i:Nat}{o:Out Val}{st:Stmt}{te:L2.TE}(rule:L2.PS X st (L2.qi te (L2.vT i)))(h:∀σ H Q,tV X.K X.mg env s o σ H Q→te σ H Q):L2.PS X st (tSt X.K X.mg env s (o.bind fun v s1=>.ok (.nx (env.set i (some v))) s1)):=by
 cases o with
 |ok v s1=>exact x8 rule fun D σ H ⟨ρ,hr,er,w⟩=>h _ _ _ ⟨ρ,hr,er,fun ρ1 x H1 x1 hr1 r1=>w ρ1 H1 _ x1 hr1 ((er.mono x1).set i r1)⟩
 |exc _ _ _=>exact zM (zE rfl)
 |stuck=>exact zM (zE rfl)
theorem bH{t:Tgt}{g:L2.TG}{o:Out Val}{st:Stmt}{te:L2.TE}(TG:tK X.K X.mg t g)(rule:L2.PS X st (L2.qi te g))(h:∀σ H Q,tV X.K X.mg env s o σ H Q→te σ H Q) :
 L2.PS X st (tSt X.K X.mg env s (o.bind fun v s1=>match yq t v env with|some env'=>.ok (.nx env') s1|Option.none=>.stuck)):=by
 cases o with
 |ok v s1=>
  show L2.PS X st (tSt X.K X.mg env s (match yq t v env with|some env'=>.ok (.nx env') s1|Option.none=>.stuck))
  cases hb:yq t v env with
  |none=>exact zM (zE rfl)
  |some env'=>exact x8 rule fun D σ H ⟨ρ,hr,er,w⟩=>h _ _ _ ⟨ρ,hr,er,fun ρ1 x H1 x1 hr1 r1=>TG ρ1 s1 H1 v x env env' σ _ hr1 r1 (er.mono x1) hb fun σ' er'=>w ρ1 H1 σ' x1 hr1 er'⟩
 |exc _ _ _=>exact zM (zE rfl)
 |stuck=>exact zM (zE rfl)
theorem Zu(op:Bop)(m:Bool):(∃r,L2.PIp X op.op r∧∀(i j:Int) (H:L2.Hp) (Q:L2.VK) (v:Val) (s s':Sto),binOp m op (.int i) (.int j) s=.ok v s'→(∃k:Int,v=.int k∧s'=s∧(Q (.int k) H→r (.int i) (.int j) H Q)))∨(op=.pow∨op=.shl∨op=.shr∨op=.band):=by
 cases op with
 |add=>exact .inl ⟨_,L2.cZ,fun i j H Q v s s' h=>by cases h;exact⟨_,rfl,rfl,fun q=>⟨i,j,rfl,rfl,q⟩⟩⟩
 |sub=>exact .inl ⟨_,L2.cm,fun i j H Q v s s' h=>by cases h;exact⟨_,rfl,rfl,fun q=>⟨i,j,rfl,rfl,q⟩⟩⟩
 |mul=>exact .inl ⟨_,L2.cj,fun i j H Q v s s' h=>by
  simp only[binOp]at h
  split at h
  . rename_i hz;cases h;exact⟨_,rfl,rfl,fun q=>⟨i,j,rfl,rfl,hz,q⟩⟩
  . cases h⟩
 |fdiv=>exact .inl ⟨_,L2.fA,fun i j H Q v s s' h=>by
  simp only[binOp]at h
  split at h
  . rename_i hz;cases h;exact⟨_,rfl,rfl,fun q=>⟨i,j,rfl,rfl,hz,q⟩⟩
  . cases h⟩
 |mod=>exact .inl ⟨_,L2.cg,fun i j H Q v s s' h=>by
  simp only[binOp]at h
  split at h
  . rename_i hz;cases h;exact⟨_,rfl,rfl,fun q=>⟨i,j,rfl,rfl,hz,q⟩⟩
  . cases h⟩
 |pow=>exact .inr (.inl rfl)
 |shl=>exact .inr (.inr (.inl rfl))
 |shr=>exact .inr (.inr (.inr (.inl rfl)))
 |band=>exact .inr (.inr (.inr (.inr rfl)))
theorem cJ{i:Nat}{op:Bop}{f:Sto→Out Val}{r:Fl}{s':Sto}(h:(match env[i]? with
 |some (some (.int x))=>(f s).bind fun v s1=>match v with
  |.int y=>(binOp false op (.int x) (.int y) s1).bind fun z s2=>.ok (Fl.nx (env.set i (some z))) s2
  |_=>.stuck
 |some (some (.tup x))=>if op=Bop.add then (f s).bind fun v s1=>match v with
  |.tup y=>(binOp false .add (.tup x) (.tup y) s1).bind fun z s2=>.ok (Fl.nx (env.set i (some z))) s2
  |_=>.stuck
  else .stuck
 |_=>.stuck:Out Fl)=.ok r s'):(∃a b s1 z,env[i]?=some (some (.int a))∧f s=.ok (.int b) s1∧binOp false op (.int a) (.int b) s1=.ok z s'∧r=Fl.nx (env.set i (some z))) ∨
  (op=Bop.add∧∃a b,env[i]?=some (some (.tup a))∧f s=.ok (.tup b) s'∧a.length+b.length≤zV∧r=Fl.nx (env.set i (some (.tup (a++b))))):=by
 generalize he:env[i]?=o at h
 cases o with
 |none=>cases h
 |some ov=>
  cases ov with
  |none=>cases h
  |some v0=>
   cases v0 with
   |int a=>
    refine .inl ⟨a,?_⟩
    generalize hv:f s=o at h
    cases o with
    |ok v s1=>
     cases v with
     |int b=>
      simp only[zN]at h
      generalize hb:binOp false op (.int a) (.int b) s1=o at h
      cases o with
      |ok z s2=>cases h;exact⟨b,s1,z,rfl,rfl,hb,rfl⟩
      |exc _ _ _=>cases h
      |stuck=>cases h
     |_=>cases h
    |exc _ _ _=>cases h
    |stuck=>cases h
   |tup a=>
    by_cases ho:op=.add
    . refine .inr ⟨ho,a,?_⟩
      simp only[if_pos ho]at h
      generalize hv:f s=o at h
      cases o with
      |ok v s1=>
       cases v with
       |tup b=>
        simp only[zN,binOp]at h
        by_cases hz:a.length+b.length≤zV
        . rw[if_pos hz]at h;cases h;exact⟨b,rfl,rfl,hz,rfl⟩
        . rw[if_neg hz]at h;cases h
       |_=>cases h
      |exc _ _ _=>cases h
      |stuck=>cases h
    . simp only[if_neg ho]at h;cases h
   |_=>cases h
theorem VN{st:Stmt}{o:Out Fl}(h:∀r s',o=.ok r s'→L2.PS X st (tSt X.K X.mg env s (.ok r s'))):L2.PS X st (tSt X.K X.mg env s o):=by
 cases o with
 |ok r s'=>exact h r s' rfl
 |exc _ _ _=>exact zM (zE rfl)
 |stuck=>exact zM (zE rfl)
theorem YT{i:Nat}{x:Str}{e:Expr}{op:Bop}{f:Sto→Out Val}{pos pos':Pos}(hop:¬(op=.pow∨op=.shl∨op=.shr∨op=.band))(hN:X.N.Nodup)(hi:X.N[i]?=some x)(hx:L2.Loc X.env.scope x)(hf:X.fn x=true∨X.env.scope.names.lookup x=some .local)(h:∀s,L2.PE X e (tV X.K X.mg env s (f s))) :
 L2.PS X (.AugAssign (.Name x pos') op.op e pos) (tSt X.K X.mg env s (match env[i]? with
 |some (some (.int x))=>(f s).bind fun v s1=>match v with
  |.int y=>(binOp false op (.int x) (.int y) s1).bind fun z s2=>.ok (.nx (env.set i (some z))) s2
  |_=>.stuck
 |some (some (.tup x))=>if op=.add then (f s).bind fun v s1=>match v with
  |.tup y=>(binOp false .add (.tup x) (.tup y) s1).bind fun z s2=>.ok (.nx (env.set i (some z))) s2
  |_=>.stuck
  else .stuck
 |_=>.stuck)):=by
 refine VN fun r s' hO=>?_
 have h':=h s
 rcases cJ hO with⟨a,b,s1,z,he,hv,hb,rfl⟩|⟨rfl,a,b,he,hv,hz,rfl⟩
 . rw[hv]at h'
   rcases Zu (X:=X) op false with⟨r,hr0,hq⟩|z
   . obtain⟨k,rfl,rfl,q⟩:=hq a b (fun _=>none) (fun _ _=>True) z s1 s' hb
     refine x8 (L2.eY hN hi hx h' hr0 hf) fun D σ H ⟨ρ,hr,er,w⟩=>?_
     obtain⟨xv,e1,e2⟩:=er.at_ i _ he
     cases e2
     refine⟨_,e1,ρ,hr,er,fun ρ1 y H1 x1 hr1 r1=>?_⟩
     cases r1
     obtain⟨k',e3,_,q'⟩:=hq a b H1 (fun z H2=>D.nx (σ.set i (some z)) H2) _ _ _ hb
     cases e3
     exact q' (w ρ1 H1 _ x1 hr1 ((er.mono x1).set i (.int _)))
   . exact absurd z hop
 . rw[hv]at h'
   refine x8 (L2.eY hN hi hx h' L2.iF hf) fun D σ H ⟨ρ,hr,er,w⟩=>?_
   obtain⟨xv,e1,e2⟩:=er.at_ i _ he
   refine⟨_,e1,ρ,hr,er,fun ρ1 y H1 x1 hr1 r1=>?_⟩
   have e3:=e2.mono x1
   cases e3 with
   |tup n1 h1 q1=>
    cases r1 with
    |tup n2 h2 q2=>
     refine⟨_,_,_,_,rfl,rfl,h1,h2,?_,vU hr1 (q1.append q2) fun ρ2 z H2 x2 hr2 rz=>w ρ2 H2 _ (x1.trans hr1 x2) hr2 ((er.mono (x1.trans hr1 x2)).set i rz)⟩
     rw[←q1.length,←q2.length,←yf];exact hz
theorem bL{k:Nat}{a i e:Expr}{o:Out Val}{f2 f3:Sto→Out Val}{p pos:Pos}(hr0:L2.y1 k X.A)(hn:vt e=true)(h1:L2.PE X e (tV X.K X.mg env s o))(h2:∀s1,L2.PE X a (tV X.K X.mg env s1 (f2 s1)))(h3:∀s1,L2.PE X i (tV X.K X.mg env s1 (f3 s1))) :
 L2.PS X (.Assign [.Subscript a i p] e pos) (tSt X.K X.mg env s (o.bind fun v s1=>(f2 s1).bind fun x s2=>(f3 s2).bind fun y s3=>match putD x y v s3 with|some s4=>.ok (.nx env) s4|Option.none=>.stuck)):=by
 cases o with
 |ok v s1=>
  have h2':=h2 s1
  simp only[zN]
  cases hb:f2 s1 with
  |ok x s2=>
   rw[hb]at h2'
   have h3':=h3 s2
   simp only[zN]
   cases hc:f3 s2 with
   |ok y s3=>
    rw[hc]at h3'
    simp only[zN]
    cases hp:putD x y v s3 with
    |none=>exact zM (zE rfl)
    |some s4=>
     refine x8 (L2.aD (by have:=hr0.un;omega) h2' h3' h1 (qG hn)) fun D σ H ⟨ρ,hr,er,w⟩=>⟨ρ,hr,er,fun ρ1 xv H1 x1 hr1 r1=>⟨ρ1,hr1,er.mono x1,fun ρ2 xo H2 x2 hr2 r2=>⟨ρ2,hr2,(er.mono x1).mono x2,fun ρ3 xi H3 x3 hr3 r3=>?_⟩⟩⟩
     obtain⟨b,H4,ex,g,X4,hr4⟩:=aI hr3 (r2.mono x3) r3 ((r1.mono x2).mono x3) hp
     have xx:=(x1.trans hr1 x2).trans hr2 x3
     exact⟨b,H4,ex,g,w ρ3 H4 σ (xx.trans hr3 X4) hr4 ((er.mono xx).mono X4)⟩
   |exc _ _ _=>exact zM (zE rfl)
   |stuck=>exact zM (zE rfl)
  |exc _ _ _=>exact zM (zE rfl)
  |stuck=>exact zM (zE rfl)
 |exc _ _ _=>exact zM (zE rfl)
 |stuck=>exact zM (zE rfl)
theorem fU{a i e:Expr}{o:Out Val}{f2 f3:Sto→Out Val}{p pos:Pos}(hi0:plain i=true)(h1:L2.PE X e (tV X.K X.mg env s o))(h2:∀s1,L2.PE X a (tV X.K X.mg env s1 (f2 s1)))(h3:∀s1,L2.PE X i (tV X.K X.mg env s1 (f3 s1))) :
 L2.PS X (.Assign [.Subscript a i p] e pos) (tSt X.K X.mg env s (o.bind fun v s1=>(f2 s1).bind fun x s2=>(f3 s2).bind fun y s3=>match x,y with
  |.ref r,.int k=>(match s3[r]? with
   |some (.lst vs)=>(match L2.ixN vs.length k with|some j=>.ok (.nx env) (upd s3 r (vs.set j v))|Option.none=>.stuck)
   |_=>.stuck)
  |_,_=>.stuck)):=by
 cases o with
 |ok v s1=>
  have h2':=h2 s1
  simp only[zN]
  cases hb:f2 s1 with
  |ok x s2=>
   rw[hb]at h2'
   have h3':=h3 s2
   simp only[zN]
   cases hc:f3 s2 with
   |ok y s3=>
    rw[hc]at h3'
    simp only[zN]
    have rule:L2.PS X (.Assign [.Subscript a i p] e pos) (L2.qi _ (L2.WM _ _ L2.ZM)):=L2.eX h1 (L2.XI h2' h3' L2.set_list (kB hi0)) hW mY
    cases x with
    |ref r=>
     cases y with
     |int k=>
      simp only[]
      cases hs:s3[r]? with
      |none=>exact zM (zE rfl)
      |some cl=>
       cases cl with
       |dS _=>exact zM (zE rfl)
       |dT _=>exact zM (zE rfl)
       |lst vs=>
        simp only[]
        cases hj:L2.ixN vs.length k with
        |none=>exact zM (zE rfl)
        |some j=>
         refine x8 rule fun D σ H ⟨ρ,hr,er,w⟩=>⟨ρ,hr,er,fun ρ1 xv H1 x1 hr1 r1=>⟨ρ1,hr1,er.mono x1,fun ρ2 xo H2 x2 hr2 r2=>⟨ρ2,hr2,(er.mono x1).mono x2,fun ρ3 xi H3 x3 hr3 r3=>?_⟩⟩⟩
         cases r3
         have r2':=r2.mono x3
         cases r2' with
         |ref e0 _=>
          obtain⟨b',xs,e1,e2,q⟩:=hr3.obj r _ hs
          rw[e0]at e1;cases e1
          have xx:=(x1.trans hr1 x2).trans hr2 x3
          refine⟨_,xs,k,j,rfl,rfl,e2,by rw[←q.length];exact hj,?_⟩
          exact w ρ3 _ σ (xx.trans hr3 (Ext.write hr3 e0 e2 _)) (hr3.write e0 e2 (RDs.set ((r1.mono x2).mono x3) j q)) ((er.mono xx).mono (Ext.write hr3 e0 e2 _))
     |_=>exact zM (zE rfl)
    |_=>exact zM (zE rfl)
   |exc _ _ _=>exact zM (zE rfl)
   |stuck=>exact zM (zE rfl)
  |exc _ _ _=>exact zM (zE rfl)
  |stuck=>exact zM (zE rfl)
 |exc _ _ _=>exact zM (zE rfl)
 |stuck=>exact zM (zE rfl)
end
end M
end
section
namespace M
open PySem
section
variable {X:L2.Cx}{env:Env}{s:Sto}
theorem bJ{i j:Nat}{o:Out (List Val)}{st:Stmt}{ta:L2.TA}(rule:L2.PS X st (L2.Vk i j ta))(h:∀σ H Q,tVs X.K X.mg env s o σ H Q→ta σ H Q) :
 L2.PS X st (tSt X.K X.mg env s (o.bind fun vs s1=>if vs.length=[i,j].length then .ok (.nx (([i,j].zip vs).foldl (fun e p=>e.set p.1 (some p.2)) env)) s1 else .stuck)):=by
 cases o with
 |ok vs s1=>
  show L2.PS X st (tSt X.K X.mg env s (if vs.length=[i,j].length then .ok (.nx (([i,j].zip vs).foldl (fun e p=>e.set p.1 (some p.2)) env)) s1 else .stuck))
  match vs with
  |[v,w]=>
   refine x8 rule fun D σ H ⟨ρ,hr,er,wt⟩=>h _ _ _ ⟨ρ,hr,er,fun ρ1 xs H1 x1 hr1 r1=>?_⟩
   obtain⟨x,y,rfl,rx,ry⟩:=dA r1
   exact⟨x,y,rfl,wt ρ1 H1 _ x1 hr1 (((er.mono x1).set i rx).set j ry)⟩
  |[]=>exact zM (zE rfl)
  |[_]=>exact zM (zE rfl)
  |_::_::_::r=>exact zM (fun _ _ e=>by simp at e)
 |exc _ _ _=>exact zM (zE rfl)
 |stuck=>exact zM (zE rfl)
theorem UI{K:KF}{mg:Str→Option Value}{ρ:Own}{H:L2.Hp}{v w z:Val}{xs:List L2.V}(r:RDs K mg ρ H [v,w,z] xs):∃x y t,xs=[x,y,t]∧RD K mg ρ H v x∧RD K mg ρ H w y∧RD K mg ρ H z t:=by
 cases r with
 |cons r1 r2=>
  obtain⟨y,t,rfl,r3,r4⟩:=dA r2
  exact⟨_,_,_,rfl,r1,r3,r4⟩
theorem bK{i j k:Nat}{o:Out (List Val)}{st:Stmt}{ta:L2.TA}(rule:L2.PS X st (L2.ZR i j k ta))(h:∀σ H Q,tVs X.K X.mg env s o σ H Q→ta σ H Q) :
 L2.PS X st (tSt X.K X.mg env s (o.bind fun vs s1=>if vs.length=[i,j,k].length then .ok (.nx (([i,j,k].zip vs).foldl (fun e p=>e.set p.1 (some p.2)) env)) s1 else .stuck)):=by
 cases o with
 |ok vs s1=>
  show L2.PS X st (tSt X.K X.mg env s (if vs.length=[i,j,k].length then .ok (.nx (([i,j,k].zip vs).foldl (fun e p=>e.set p.1 (some p.2)) env)) s1 else .stuck))
  match vs with
  |[v,w,z]=>
   refine x8 rule fun D σ H ⟨ρ,hr,er,wt⟩=>h _ _ _ ⟨ρ,hr,er,fun ρ1 xs H1 x1 hr1 r1=>?_⟩
   obtain⟨x,y,t,rfl,rx,ry,rt⟩:=UI r1
   exact⟨x,y,t,rfl,wt ρ1 H1 _ x1 hr1 ((((er.mono x1).set i rx).set j ry).set k rt)⟩
  |[]=>exact zM (zE rfl)
  |[_]=>exact zM (zE rfl)
  |[_,_]=>exact zM (zE rfl)
  |_::_::_::_::r=>exact zM (fun _ _ e=>by simp at e)
 |exc _ _ _=>exact zM (zE rfl)
 |stuck=>exact zM (zE rfl)
noncomputable def uSs(K:KF)(mg:Str→Option Value)(Φ:Calls)(G:Str→Option Val)(b:Sms):L2.TS:=fun D σ H=>∃env s,tSt K mg env s (zW Φ G env b s) D σ H
theorem Wi{c:Expr}{a b:List Stmt}{o:Out Bool}{f2 f3:Sto→Out Fl}{ta tb:L2.TS}{pos:Pos}(hc:L2.PT X c (tT X.K X.mg env s o))(ha:L2.PSs X a ta)(hb:L2.PSs X b tb)(ia:∀s1 D σ H,tSt X.K X.mg env s1 (f2 s1) D σ H→ta D σ H)(ib:∀s1 D σ H,tSt X.K X.mg env s1 (f3 s1) D σ H→tb D σ H) :
 L2.PS X (.If c a b pos) (tSt X.K X.mg env s (o.bind fun t s1=>if t then f2 s1 else f3 s1)):=by
 cases o with
 |ok v s1=>
  refine x8 (L2.VL hc ha hb) fun D σ H ⟨ρ,hr,er,wt⟩=>⟨ρ,hr,er,fun ρ1 x H1 x1 hr1 r1=>?_⟩
  have wt':=wt.mono x1 hr1
  cases r1
  cases v with
  |true=>exact L2.oP (ia s1 D σ H1 ⟨ρ1,hr1,er.mono x1,wt'⟩)
  |false=>exact L2.oO (ib s1 D σ H1 ⟨ρ1,hr1,er.mono x1,wt'⟩)
 |exc _ _ _=>exact zM (zE rfl)
 |stuck=>exact zM (zE rfl)
theorem gq{K:KF}{mg:Str→Option Value}{r:Src}{J:L2.It}{t:Tgt}{g:L2.TG}{body:Env→Sto→Out Fl}{tb:L2.TS}{D:L2.Ends}{ρ:Own}{H:L2.Hp}{σ:L2.St}(W:Walk K mg ρ H r J)(TG:tK K mg t g)(hb:∀env s D σ H,tSt K mg env s (body env s) D σ H→tb D σ H)
 (hr:HR K mg ρ s H) (er:ER K mg ρ H env σ) (w:qo K mg ρ H (vM r t body r.xs env s) D):L2.pW J g tb D σ H:=by
 refine nQ (n:=r.xs.length) (fun i σ2 H2=>∃ρ2 s2 env2,HR K mg ρ2 s2 H2∧ER K mg ρ2 H2 env2 σ2∧Ext ρ H ρ2 H2∧vM r t body (r.xs.drop i) env2 s2=vM r t body r.xs env s) ⟨ρ,s,env,hr,er,Ext.refl,by rw[List.drop_zero]⟩ ?_ ?_
 . rintro σ2 H2 ⟨ρ2,s2,env2,hr2,er2,x2,h2⟩
   rw[List.drop_length,vM]at h2
   split at h2
   . rename_i ho
     rw[←h2]at w
     exact⟨W.stop ρ2 H2 s2 _ x2.mv hr2 ho rfl,w ρ2 H2 σ2 x2 hr2 er2⟩
   . rw[←h2]at w;exact w.elim
 . rintro i σ2 H2 hi ⟨ρ2,s2,env2,hr2,er2,x2,h2⟩
   rw[List.drop_eq_getElem_cons hi,vM]at h2
   split at h2
   . rename_i ho
     obtain⟨hgo,hy⟩:=W.go ρ2 H2 s2 i (r.xs[i]) x2.mv hr2 ho (List.getElem?_eq_getElem hi)
     refine⟨hgo,fun x H3 y=>?_⟩
     obtain⟨hH,rx⟩:=hy x H3 y
     split at h2
     . rw[←h2]at w;exact w.elim
     . rename_i env' he
       have C3:HR K mg ρ2 s2 H3∧Ext ρ2 H2 ρ2 H3:=by
        rcases hH with e|⟨q,o,hq,e⟩
        . subst e;exact⟨hr2,Ext.refl⟩
        . subst e;exact⟨hr2.more hq o,Ext.new hr2 hq o⟩
       have x3:=x2.trans hr2 C3.2
       refine TG ρ2 s2 H3 _ x env2 env' σ2 _ C3.1 rx (er2.mono C3.2) he fun σ4 er4=>hb env' s2 _ σ4 H3 ⟨ρ2,C3.1,er4,?_⟩
       cases hc:body env' s2 with
       |ok fl s5=>
        rw[hc]at h2
        simp only[zN]at h2
        cases fl with
        |nx e=>exact fun ρ5 H5 σ5 x5 hr5 er5=>⟨ρ5,s5,e,hr5,er5,x3.trans C3.1 x5,h2⟩
        |ct e=>exact fun ρ5 H5 σ5 x5 hr5 er5=>⟨ρ5,s5,e,hr5,er5,x3.trans C3.1 x5,h2⟩
        |bk e=>
         simp only[]at h2
         rw[←h2]at w
         exact fun ρ5 H5 σ5 x5 hr5 er5=>w ρ5 H5 σ5 (x3.trans C3.1 x5) hr5 er5
        |rt v=>
         simp only[]at h2
         rw[←h2]at w
         exact fun ρ5 H5 y5 x5 hr5 r5=>w ρ5 H5 y5 (x3.trans C3.1 x5) hr5 r5
       |exc _ _ _=>rw[hc]at h2;simp only[gO]at h2;rw[←h2]at w;exact w.elim
       |stuck=>rw[hc]at h2;simp only[rB]at h2;rw[←h2]at w;exact w.elim
   . rw[←h2]at w;exact w.elim
theorem YU{Φ:Calls}{G:Str→Option Val}{it:Itb}{t:Tgt}{b:Sms}{tg iter:Expr}{body:List Stmt}{g:L2.TG}{pos:Pos}(hx:X.xe=fun _ _=>False)(hc:X.calm=true)(hp:plain iter=true)(hi:∀env s,L2.PI X tg iter (tI (K:=X.K) (mg:=X.mg) env s (yo Φ G env it s)))(hg:L2.PG X tg g)(TG:tK X.K X.mg t g)
 (hb:L2.PSs X body (uSs X.K X.mg Φ G b)):L2.PS X (.For tg iter body [] pos) (tSt X.K X.mg env s ((yo Φ G env it s).bind fun r s1=>vM r t (fun e s'=>zW Φ G e b s') r.xs env s1)):=by
 have hpass:PassesOwn (model X.prog X.w) X.A X.env X.xe:=by rw[hx];exact PassesOwn.never
 refine x8 (L2.XQ hpass hc (lh hi) hg hb (yW hp)) fun D σ H ⟨ρ,hr,er,w⟩=>⟨env,s,ρ,hr,er,?_⟩
 cases hv:yo Φ G env it s with
 |ok r s1=>
  rw[hv]at w
  exact fun ρ1 H1 J x1 hr1 W=>gq W TG (fun env s D σ H h=>⟨env,s,h⟩) hr1 (er.mono x1) (w.mono x1 hr1)
 |exc _ _ _=>rw[hv]at w;exact w.elim
 |stuck=>rw[hv]at w;exact w.elim
theorem bM:L2.PSs X [] (tSt X.K X.mg env s (.ok (.nx env) s)):=jg L2.aG fun D σ H ⟨ρ,hr,er,w⟩=>w ρ H σ Ext.refl hr er
theorem fV{st:Stmt}{rest:List Stmt}{o:Out Fl}{f:Env→Sto→Out Fl}{tr:L2.TS}(h1:L2.PS X st (tSt X.K X.mg env s o))(h2:L2.PSs X rest tr)(i2:∀env s D σ H,tSt X.K X.mg env s (f env s) D σ H→tr D σ H) :
 L2.PSs X (st::rest) (tSt X.K X.mg env s (o.bind fun fl s1=>match fl with|.nx e=>f e s1|fl=>.ok fl s1)):=by
 refine jg (L2.ek h1 h2) fun D σ H ⟨ρ,hr,er,w⟩=>⟨ρ,hr,er,?_⟩
 cases o with
 |ok fl s1=>
  simp only[zN]at w
  cases fl with
  |nx e=>exact fun ρ1 H1 σ1 x1 hr1 er1=>i2 e s1 D σ1 H1 ⟨ρ1,hr1,er1,w.mono x1 hr1⟩
  |bk e=>exact w
  |ct e=>exact w
  |rt v=>exact w
 |exc _ _ _=>exact w.elim
 |stuck=>exact w.elim
end
end M
end
section
namespace M
open PySem
mutual
noncomputable def ckS(sc:Scope)(N:List Str):Sm→Stmt→Bool
 |.expr e,st=>(match st with|.Expr x _=>ck sc N e x&&vt x|_=>false)
 |.ret e,st=>(match st with|.Return (some x) _=>ck sc N e x|_=>false)
 |.retN,_=>false
 |.asg i e,st=>(match st with|.Assign [.Name x _] v _=>decide (N[i]?=some x)&&(decide (sc.names.lookup x=some .local)||decide (sc.names.lookup x=some .cell))&&ck sc N e v|_=>false)
 |.asgT _ _,_=>false
 |.par is es,st=>(match st with|.Assign [.Tuple ts _ _] (.Tuple vs _ _) _=>yT sc N is ts&&ckL sc N es vs&&yp vs&&decide (is.length≤8)&&decide is.Nodup&&decide (ts.length=vs.length)&&(ZO sc ts vs||ZW sc ts)|_=>false)
 |.aug i op e,st=>(match st with|.AugAssign (.Name x _) o v _=>decide (N[i]?=some x)&&(decide (sc.names.lookup x=some .local)||decide (sc.names.lookup x=some .cell))&&decide (o=op.op)&&ck sc N e v&&!(decide (op=.pow)||decide (op=.shl)||decide (op=.shr)||decide (op=.band))|_=>false)
 |.setD o i e,st=>(match st with|.Assign [.Subscript a b _] v _=>ck sc N o a&&ck sc N i b&&ck sc N e v&&vt v|_=>false)
 |.setIx o i e,st=>(match st with|.Assign [.Subscript a b _] v _=>ck sc N o a&&ck sc N i b&&ck sc N e v&&plain b|_=>false)
 |.ifS c a b,st=>(match st with|.If t x y _=>ckC sc N c t&&oG sc N a x&&oG sc N b y|_=>false)
 |.forS t it b,st=>(match st with|.For tg iter body [] _=>ckT sc N t tg&&ckI sc N it iter tg&&oG sc N b body&&plain iter|_=>false)
 |.whileS _ _,_=>false
 |.pass,_=>false
 |.brk,_=>false
 |.cont,_=>false
 |.raise _,_=>true
noncomputable def oG(sc:Scope)(N:List Str):Sms→List Stmt→Bool
 |.nil,ss=>(match ss with|[]=>true|_=>false)
 |.cons c cs,ss=>(match ss with|t::ts=>ckS sc N c t&&oG sc N cs ts|_=>false)
end
structure OkF(T:Tbl)(n:Nat)(sc:Scope)(N:List Str)(X:L2.Cx):Prop where
 ok:Ok T n sc N X
 esc:X.env.scope=sc
 bk:X.env.blockKind=.function
section
variable {T:Tbl}{n:Nat}
def JS(T:Tbl)(n:Nat)(a:Sm):Prop:=∀(sc:Scope) (N:List Str) (X:L2.Cx) (st:Stmt),OkF T n sc N X→ckS sc N a st=true→∀env s,L2.PS X st (tSt X.K X.mg env s (exS (zF T n) T.gl env a s))
def JSs(T:Tbl)(n:Nat)(a:Sms):Prop:=∀(sc:Scope) (N:List Str) (X:L2.Cx) (st:List Stmt),OkF T n sc N X→oG sc N a st=true→∀env s,L2.PSs X st (tSt X.K X.mg env s (zW (zF T n) T.gl env a s))
theorem jh{X:L2.Cx}{b:Sms}{st:List Stmt}{Φ:Calls}{G:Str→Option Val}(h:∀env s,L2.PSs X st (tSt X.K X.mg env s (zW Φ G env b s))):L2.PSs X st (uSs X.K X.mg Φ G b):=fun pins s σ H D I ⟨env,t,q⟩=>h env t pins s σ H D I q
theorem bB{e:Ex}:JS T n (.expr e):=by
 intro sc N X st o h env s
 simp only[ckS]at h
 split at h
 . simp only[Bool.and_eq_true]at h
   exact bI h.2 (jE T n e _ _ _ _ o.ok h.1 env s)
 . cases h
theorem YH{e:Ex}:JS T n (.ret e):=by
 intro sc N X st o h env s
 simp only[ckS]at h
 split at h
 . exact YV (jE T n e _ _ _ _ o.ok h env s)
 . cases h
theorem qF{elt:Expr}{gens:List Comprehension}{csc:Scope}{cpos py:Pos}{y:Str}{l:Nat}{env:PySem.Env}:∃b,swapsWith (.ListComp elt gens csc cpos) (some (.Name y py)) l env=pure b:=⟨_,rfl⟩
theorem YD{i:Nat}{e:Ex}:JS T n (.asg i e):=by
 intro sc N X st o h env s
 simp only[ckS]at h
 split at h
 . rename_i x px v pos
   simp only[Bool.and_eq_true,decide_eq_true_eq,Bool.or_eq_true]at h
   obtain⟨⟨h1,h2⟩,h3⟩:=h
   obtain⟨l1,l2⟩:=o.ok.scp.loc x h2
   have hN:X.N.Nodup:=by rw[o.ok.scp.hN];exact o.ok.scp.nd
   have hi:X.N[i]?=some x:=by rw[o.ok.scp.hN];exact h1
   by_cases hn:vt v=true
   . exact lG (L2.lr hN hi l1 (jE T n e _ _ _ _ o.ok h3 env s) (qG hn) l2) fun σ H Q q=>q
   . -- a comprehension
     cases e with
     |comp m N' fr elt t it ifs=>
      simp only[ck]at h3
      split at h3
      . rename_i x' tg iter fs csc cpos
        simp only[Bool.and_eq_true,decide_eq_true_eq]at h3
        obtain⟨⟨⟨⟨⟨⟨c1,c2⟩,c3⟩,c4⟩,c5⟩,c6⟩,c7⟩:=h3
        have S:=kZ o.ok.scp c1
        have oc:=o.ok.comp S c2
        obtain⟨g,pg,tg'⟩:∃g,(∀C s0 H0 ex,L2.PG (X.comp N' csc C s0 H0 ex) tg g)∧tK X.K X.mg t g:=by
         cases t with
         |nm i=>
          cases tg with
          |Name y p=>
           simp only[ckT,Bool.and_eq_true,Bool.or_eq_true,decide_eq_true_eq]at c3
           exact⟨_,fun C s0 H0 ex=>pT (oc C s0 H0 ex).scp c3.1 c3.2,uz⟩
          |_=>cases c3
         |nms is=>
          cases tg with
          |Tuple es k p=>
           simp only[ckT,Bool.and_eq_true,decide_eq_true_eq]at c3
           refine⟨_,fun C s0 H0 ex=>?_,w9 (is:=is)⟩
           obtain⟨a,b,c⟩:=xf (oc C s0 H0 ex).scp c3.1
           exact L2.tY (X:=X.comp N' csc C s0 H0 ex) o.ok.calm a b c
          |_=>cases c3
        have hpi:L2.PI X tg iter (uI X.K X.mg (zF T n) T.gl it):=lh fun env s=>jI T n it _ _ _ _ _ o.ok c4 env s
        have hts:∀C s0 H0 ex,L2.PTs (X.comp N' csc C s0 H0 ex) fs (uTs X.K X.mg (zF T n) T.gl ifs):=fun C s0 H0 ex=>(jCs T n ifs _ _ _ _ (oc C s0 H0 ex) c5).2.2
        have hel:∀C s0 H0 ex,L2.PE (X.comp N' csc C s0 H0 ex) x' (uE X.K X.mg (zF T n) T.gl elt):=fun C s0 H0 ex=>b6 (X:=X.comp N' csc C s0 H0 ex) fun env s=>jE T n elt _ _ _ _ (oc C s0 H0 ex) c6 env s
        have rule:L2.PS X (.Assign [.Name x px] (.ListComp x' [⟨tg,iter,fs,0⟩] csc cpos) pos) (L2.qi (L2.ve fr (uI X.K X.mg (zF T n) T.gl it) g (uTs X.K X.mg (zF T n) T.gl ifs) fun acc=>L2.v8 acc (uE X.K X.mg (zF T n) T.gl elt)) (L2.vT i)):=by
         obtain⟨b,hb⟩:=qF (elt:=x') (gens:=[⟨tg,iter,fs,0⟩]) (csc:=csc) (cpos:=cpos) (y:=x) (py:=px) (l:=pos.line) (env:=X.env)
         cases b with
         |true=>exact L2.aC o.ok.calm S hpi pg hts hel hN hi l1 hb l2 (yW c7)
         |false=>exact L2.lr hN hi l1 (L2.jY o.ok.calm S hpi pg hts hel (yW c7)) hb l2
        refine lG (o:=evE (zF T n) T.gl env (.comp m N' fr elt t it ifs) s) rule fun σ H Q hq=>vo (env:=env) (s:=s) (chk:=false) (m:=m) (body:=v9 (zF T n) T.gl elt ifs) tg' wY (fun acc ρ0 H0 hn=>qO hn) ?_ fun _ r s1 p s2 hl=>?_
        . simp only[Bool.false_eq_true,false_implies,if_true];exact hq
        . have:=tw hl
          simpa using this
      . cases h3
     |comp2 m N' fr elt t it ifs t2 it2 ifs2=>
      simp only[ck]at h3
      split at h3
      . rename_i x' tg iter fs tg2 iter2 fs2 csc cpos
        simp only[Bool.and_eq_true,decide_eq_true_eq]at h3
        obtain⟨⟨⟨⟨⟨⟨⟨⟨⟨⟨c1,c2⟩,c3⟩,c4⟩,c5⟩,c6⟩,c7⟩,c8⟩,c9⟩,c10⟩,c11⟩:=h3
        have S:=kZ o.ok.scp c1
        have oc:=o.ok.comp S c2
        have tgt:∀(t:Tgt) (tg:Expr),ckT csc N' t tg=true→∃g,(∀C s0 H0 ex,L2.PG (X.comp N' csc C s0 H0 ex) tg g)∧tK X.K X.mg t g:=by
         intro t tg c3
         cases t with
         |nm i=>
          cases tg with
          |Name y p=>
           simp only[ckT,Bool.and_eq_true,Bool.or_eq_true,decide_eq_true_eq]at c3
           exact⟨_,fun C s0 H0 ex=>pT (oc C s0 H0 ex).scp c3.1 c3.2,uz⟩
          |_=>cases c3
         |nms is=>
          cases tg with
          |Tuple es k p=>
           simp only[ckT,Bool.and_eq_true,decide_eq_true_eq]at c3
           refine⟨_,fun C s0 H0 ex=>?_,w9 (is:=is)⟩
           obtain⟨a,b,c⟩:=xf (oc C s0 H0 ex).scp c3.1
           exact L2.tY (X:=X.comp N' csc C s0 H0 ex) o.ok.calm a b c
          |_=>cases c3
        obtain⟨g,pg,tg'⟩:=tgt t tg c3
        obtain⟨g2,pg2,tg2'⟩:=tgt t2 tg2 c6
        have hpi:L2.PI X tg iter (uI X.K X.mg (zF T n) T.gl it):=lh fun env s=>jI T n it _ _ _ _ _ o.ok c4 env s
        have hts:∀C s0 H0 ex,L2.PTs (X.comp N' csc C s0 H0 ex) fs (uTs X.K X.mg (zF T n) T.gl ifs):=fun C s0 H0 ex=>(jCs T n ifs _ _ _ _ (oc C s0 H0 ex) c5).2.2
        have hpi2:∀C s0 H0 ex,L2.PI (X.comp N' csc C s0 H0 ex) tg2 iter2 (uI X.K X.mg (zF T n) T.gl it2):=fun C s0 H0 ex=>lh (X:=X.comp N' csc C s0 H0 ex) fun env s=>jI T n it2 _ _ _ _ _ (oc C s0 H0 ex) c7 env s
        have hts2:∀C s0 H0 ex,L2.PTs (X.comp N' csc C s0 H0 ex) fs2 (uTs X.K X.mg (zF T n) T.gl ifs2):=fun C s0 H0 ex=>(jCs T n ifs2 _ _ _ _ (oc C s0 H0 ex) c8).2.2
        have hel:∀C s0 H0 ex,L2.PE (X.comp N' csc C s0 H0 ex) x' (uE X.K X.mg (zF T n) T.gl elt):=fun C s0 H0 ex=>b6 (X:=X.comp N' csc C s0 H0 ex) fun env s=>jE T n elt _ _ _ _ (oc C s0 H0 ex) c9 env s
        have rule:L2.PS X (.Assign [.Name x px] (.ListComp x' [⟨tg,iter,fs,0⟩,⟨tg2,iter2,fs2,0⟩] csc cpos) pos) (L2.qi (L2.ve fr (uI X.K X.mg (zF T n) T.gl it) g (uTs X.K X.mg (zF T n) T.gl ifs) fun acc=>L2.qH (uI X.K X.mg (zF T n) T.gl it2) g2 (uTs X.K X.mg (zF T n) T.gl ifs2) (L2.v8 acc (uE X.K X.mg (zF T n) T.gl elt))) (L2.vT i)):=by
         obtain⟨b,hb⟩:=qF (elt:=x') (gens:=[⟨tg,iter,fs,0⟩,⟨tg2,iter2,fs2,0⟩]) (csc:=csc) (cpos:=cpos) (y:=x) (py:=px) (l:=pos.line) (env:=X.env)
         cases b with
         |true=>exact L2.eZ o.ok.calm S hpi pg hts hpi2 pg2 hts2 hel hN hi l1 hb l2 (yW c10) (fun env=>yW c11)
         |false=>exact L2.lr hN hi l1 (L2.mD o.ok.calm S hpi pg hts hpi2 pg2 hts2 hel (yW c10) (fun env=>yW c11)) hb l2
        refine lG (o:=evE (zF T n) T.gl env (.comp2 m N' fr elt t it ifs t2 it2 ifs2) s) rule fun σ H Q hq=>vo (env:=env) (s:=s) (chk:=true) (m:=m) (body:=tu (zF T n) T.gl elt ifs t2 it2 ifs2) tg' u5 (fun acc ρ0 H0 hn=>pk hn tg2') ?_ fun z=>by cases z
        simp only[true_implies];exact hq
      . cases h3
     |_=>exfalso;apply hn;first|(simp only[ck,pB]at h3;cases h3;done)|(simp only[ck,pB]at h3;split at h3<;>first|rfl|(cases h3;done))
 . cases h
theorem YG{is:List Nat}{es:Exs}:JS T n (.par is es):=by
 intro sc N X st o h env s
 simp only[ckS]at h
 split at h
 . rename_i ts k p vs k2 p2 pos
   simp only[Bool.and_eq_true,decide_eq_true_eq,Bool.or_eq_true]at h
   obtain⟨⟨⟨⟨⟨⟨h1,h2⟩,h3⟩,h4⟩,h5⟩,h6⟩,h7⟩:=h
   have hes:=(jL T n es _ _ _ _ o.ok h2).1 h3 env s
   have hN:X.N.Nodup:=by rw[o.ok.scp.hN];exact o.ok.scp.nd
   have kind:∀x,X.env.kindOf x=sc.names.lookup x:=fun x=>by show X.env.scope.names.lookup x=_;rw[o.esc]
   rcases h7 with h7|h7
   . unfold ZO at h7
     split at h7
     . rename_i x px y py
       simp only[Bool.and_eq_true,decide_eq_true_eq,Bool.not_eq_true']at h7
       obtain⟨⟨⟨⟨⟨q1,q2⟩,q3⟩,q4⟩,q5⟩,q6⟩:=h7
       match is,h1,h5 with
       |[i,j],h1,h5=>
        simp only[yT,Bool.and_eq_true,decide_eq_true_eq,Bool.or_eq_true]at h1
        obtain⟨⟨i1,i2⟩,⟨j1,j2⟩,_⟩:=h1
        match vs,h6 with
        |[a,b],_=>
         have hij:i≠j:=by rw[List.nodup_cons]at h5;exact fun z=>h5.1 (by rw[z];exact List.mem_singleton.mpr rfl)
         exact bJ (L2.XR o.ok.calm hN (by rw[o.ok.scp.hN];exact i1) (by rw[o.ok.scp.hN];exact j1) hij (by rw[o.esc];exact q1) (by rw[o.esc];exact q2) hes
          (mZ o.bk (by rw[kind];exact q1) (by rw[kind];exact q2) q3 q4 h3 q5 q6) tm) fun σ H Q q=>q
       |[],h1,_=>exact absurd h1 (by simp[yT])
       |[_],h1,_=>exact absurd h1 (by simp[yT])
       |_::_::_::_,h1,_=>exact absurd h1 (by simp[yT])
     . rename_i x px y py z pz
       simp only[Bool.and_eq_true,decide_eq_true_eq,Bool.not_eq_true']at h7
       obtain⟨⟨⟨⟨⟨⟨⟨⟨⟨q1,q2⟩,q3⟩,q4⟩,q5⟩,q6⟩,q7⟩,q8⟩,q9⟩,q10⟩:=h7
       match is,h1,h5 with
       |[i,j,l],h1,h5=>
        simp only[yT,Bool.and_eq_true,decide_eq_true_eq,Bool.or_eq_true]at h1
        obtain⟨⟨i1,i2⟩,⟨j1,j2⟩,⟨l1,l2⟩,_⟩:=h1
        match vs,h6 with
        |[a,b,c],_=>
         simp only[List.nodup_cons,List.mem_cons,List.not_mem_nil,or_false,not_or]at h5
         exact bK (L2.aF o.ok.calm hN (by rw[o.ok.scp.hN];exact i1) (by rw[o.ok.scp.hN];exact j1) (by rw[o.ok.scp.hN];exact l1) h5.1.1 h5.1.2 h5.2.1 (by rw[o.esc];exact q1) (by rw[o.esc];exact q2) (by rw[o.esc];exact q3) hes
          (qh o.bk (by rw[kind];exact q1) (by rw[kind];exact q2) (by rw[kind];exact q3) q4 q5 q6 q7 q8 h3 q9 q10) tm) fun σ H Q q=>q
       |[],h1,_=>exact absurd h1 (by simp[yT])
       |[_],h1,_=>exact absurd h1 (by simp[yT])
       |[_,_],h1,_=>exact absurd h1 (by simp[yT])
       |_::_::_::_::_,h1,_=>exact absurd h1 (by simp[yT])
     . cases h7
   . have hun:(∃x p,Expr.Name x p∈ts∧X.env.kindOf x≠some .local)∨3<ts.length:=by
      unfold ZW at h7
      simp only[Bool.or_eq_true,decide_eq_true_eq,List.any_eq_true]at h7
      rcases h7 with⟨e,hm,he⟩|h7
      . cases e with
        |Name x px=>
         simp only[decide_eq_true_eq]at he
         exact .inl ⟨x,px,hm,by rw[kind];exact he⟩
        |_=>cases he
      . exact .inr h7
     obtain⟨a,b,c⟩:=xf o.ok.scp h1
     have rule:=bH (t:=.nms is) (env:=env) (s:=s) w9 (L2.eX (pos:=pos) (fS (k:=k2) (pos:=p2) hes) (L2.tY (k:=k) (pos:=p) o.ok.calm a b c) tm (hZ hun)) fun σ H Q q=>q
     have e:((y2 (zF T n) T.gl env es s).bind fun vs s1=>if vs.length=is.length then (.ok:Fl→Sto→Out Fl) (.nx ((is.zip vs).foldl (fun e p=>e.set p.1 (some p.2)) env)) s1 else .stuck)=(((y2 (zF T n) T.gl env es s).bind fun vs s1=>if vs.length≤zV then (.ok:Val→Sto→Out Val) (.tup vs) s1 else .stuck).bind fun v s1=>match yq (.nms is) v env with|some env'=>(.ok:Fl→Sto→Out Fl) (.nx env') s1|Option.none=>.stuck):=by
      cases y2 (zF T n) T.gl env es s with
      |ok ws s1=>
       simp only[zN]
       by_cases hl:ws.length=is.length
       . have hz:ws.length≤zV:=by rw[hl];exact Nat.le_trans h4 (by decide)
         simp only[if_pos hl,if_pos hz,zN,yq]
       . rw[if_neg hl]
         by_cases hz:ws.length≤zV
         . simp only[if_neg hl,if_pos hz,zN,yq]
         . simp only[if_neg hz,rB]
      |exc _ _ _=>rfl
      |stuck=>rfl
     show L2.PS X _ (tSt X.K X.mg env s ((y2 (zF T n) T.gl env es s).bind fun vs s1=>if vs.length=is.length then .ok (.nx ((is.zip vs).foldl (fun e p=>e.set p.1 (some p.2)) env)) s1 else .stuck))
     rw[e]
     exact rule
 . cases h
theorem YE{i:Nat}{op:Bop}{e:Ex}:JS T n (.aug i op e):=by
 intro sc N X st o h env s
 simp only[ckS]at h
 split at h
 . rename_i x px o' v pos
   simp only[Bool.and_eq_true,decide_eq_true_eq,Bool.or_eq_true,Bool.not_eq_true',Bool.or_eq_false_iff,decide_eq_false_iff_not]at h
   obtain⟨⟨⟨⟨h1,h2⟩,rfl⟩,h3⟩,h4⟩:=h
   obtain⟨l1,l2⟩:=o.ok.scp.loc x h2
   exact YT (f:=evE (zF T n) T.gl env e) (by rintro (z|z|z|z);exact h4.1.1.1 z;exact h4.1.1.2 z;exact h4.1.2 z;exact h4.2 z) (by rw[o.ok.scp.hN];exact o.ok.scp.nd) (by rw[o.ok.scp.hN];exact h1) l1 l2 fun s=>jE T n e _ _ _ _ o.ok h3 env s
 . cases h
theorem fK{a i e:Ex}:JS T n (.setIx a i e):=by
 intro sc N X st o h env s
 simp only[ckS]at h
 split at h
 . simp only[Bool.and_eq_true]at h
   exact fU h.2 (jE T n e _ _ _ _ o.ok h.1.2 env s) (fun s1=>jE T n a _ _ _ _ o.ok h.1.1.1 env s1) fun s1=>jE T n i _ _ _ _ o.ok h.1.1.2 env s1
 . cases h
theorem Wa{c:Cn}{a b:Sms}(ja:JSs T n a)(jb:JSs T n b):JS T n (.ifS c a b):=by
 intro sc N X st o h env s
 simp only[ckS]at h
 split at h
 . simp only[Bool.and_eq_true]at h
   exact Wi (jC T n c _ _ _ _ o.ok h.1.1 env s) (jh fun env s=>ja _ _ _ _ o h.1.2 env s) (jh fun env s=>jb _ _ _ _ o h.2 env s) (fun s1 D σ H q=>⟨env,s1,q⟩) fun s1 D σ H q=>⟨env,s1,q⟩
 . cases h
theorem YF{t:Tgt}{it:Itb}{b:Sms}(jb:JSs T n b):JS T n (.forS t it b):=by
 intro sc N X st o h env s
 simp only[ckS]at h
 split at h
 . simp only[Bool.and_eq_true]at h
   obtain⟨g,pg,tg⟩:=VI o.ok.scp o.ok.calm h.1.1.1
   exact YU o.ok.xe o.ok.calm h.2 (fun env s=>jI T n it _ _ _ _ _ o.ok h.1.1.2 env s) pg tg (jh fun env s=>jb _ _ _ _ o h.1.2 env s)
 . cases h
theorem bC{a i e:Ex}:JS T n (.setD a i e):=by
 intro sc N X st o h env s
 simp only[ckS]at h
 split at h
 . simp only[Bool.and_eq_true]at h
   exact bL o.ok.room h.2 (jE T n e _ _ _ _ o.ok h.1.2 env s) (fun s1=>jE T n a _ _ _ _ o.ok h.1.1.1 env s1) fun s1=>jE T n i _ _ _ _ o.ok h.1.1.2 env s1
 . cases h
theorem fJ{e:Ex}:JS T n (.raise e):=fun sc N X st o h env s=>zM (zE rfl)
theorem bD:JSs T n .nil:=by
 intro sc N X st o h env s
 simp only[oG]at h
 split at h
 . exact bM
 . cases h
theorem fL{c:Sm}{cs:Sms}(jc:JS T n c)(jcs:JSs T n cs):JSs T n (.cons c cs):=by
 intro sc N X st o h env s
 simp only[oG]at h
 split at h
 . simp only[Bool.and_eq_true]at h
   exact fV (f:=fun e s=>zW (zF T n) T.gl e cs s) (jc _ _ _ _ o h.1 env s) (jh fun env s=>jcs _ _ _ _ o h.2 env s) fun env s D σ H q=>⟨env,s,q⟩
 . cases h
end
section
variable (T:Tbl)(n:Nat)
mutual
theorem jS:∀a:Sm,JS T n a
 |.expr _=>bB
 |.ret _=>YH
 |.retN=>fun sc N X e o h=>by cases h
 |.asg _ _=>YD
 |.asgT _ _=>fun sc N X e o h=>by cases h
 |.par _ _=>YG
 |.aug _ _ _=>YE
 |.setIx _ _ _=>fK
 |.setD _ _ _=>bC
 |.ifS _ a b=>Wa (jSs a) (jSs b)
 |.forS _ _ b=>YF (jSs b)
 |.whileS _ _=>fun sc N X e o h=>by cases h
 |.pass=>fun sc N X e o h=>by cases h
 |.brk=>fun sc N X e o h=>by cases h
 |.cont=>fun sc N X e o h=>by cases h
 |.raise _=>fJ
theorem jSs:∀a:Sms,JSs T n a
 |.nil=>bD
 |.cons c cs=>fL (jS c) (jSs cs)
end
end
end M
end
section
namespace M
open PySem
mutual
noncomputable def pX(n:Nat):Val→Bool
 |.ref i|.dref i=>decide (i<n)
 |.tup vs=>wa n vs
 |.lst vs=>wa n vs
 |.none|.bool _|.int _|.str _|.dct0|.ctup _|.scr _|.fn _|.ty _=>true
noncomputable def wa(n:Nat):List Val→Bool
 |[]=>true
 |v::vs=>pX n v&&wa n vs
end
mutual
theorem ur{n:Nat}{v:Val}(h:v.noRef=true):pX n v=true:=by
 cases v with
 |ref _=>cases h
 |dref _=>cases h
 |tup vs=>exact w5 (vs:=vs) h
 |lst vs=>exact w5 (vs:=vs) h
 |_=>rfl
theorem w5{n:Nat}{vs:List Val}(h:zx vs=true):wa n vs=true:=by
 cases vs with
 |nil=>rfl
 |cons v vs=>
  rw[zx,Bool.and_eq_true]at h
  rw[wa,ur h.1,w5 h.2];rfl
end
section
variable {K:KF}{mg:Str→Option Value}
mutual
theorem RD.refs{ρ:Own}{H:L2.Hp}{v:Val}{x:L2.V}(q:RD K mg ρ H v x):pX ρ.o.length v=true:=by
 cases q with
 |tup _ _ r=>exact RDs.refs r
 |lst _ _ r=>exact RDs.refs r
 |ref e _=>exact decide_eq_true (List.getElem?_eq_some_iff.mp e).1
 |dref e _=>exact decide_eq_true (List.getElem?_eq_some_iff.mp e).1
 |_=>rfl
theorem RDs.refs{ρ:Own}{H:L2.Hp}{v:List Val}{x:List L2.V}(q:RDs K mg ρ H v x):wa ρ.o.length v=true:=by
 cases q with
 |nil=>rfl
 |cons r rs=>rw[wa,RD.refs r,RDs.refs rs];rfl
end
structure Cut(ρ ρ':Own):Prop where
 pre:∃new,ρ'.o=ρ.o++new
 hid:ρ'.h=ρ.h
theorem Cut.no{ρ ρ':Own}(c:Cut ρ ρ'){a:Addr}(n:ρ'.no a):ρ.no a:=by
 obtain⟨new,e⟩:=c.pre
 exact⟨fun h=>n.1 (by rw[e];exact List.mem_append_left _ h),by rw[←c.hid];exact n.2⟩
mutual
theorem RD.vx{ρ ρ':Own}{H:L2.Hp}(c:Cut ρ ρ'){v:Val}{x:L2.V}(q:RD K mg ρ' H v x)(h:pX ρ.o.length v=true):RD K mg ρ H v x:=by
 have at':∀{i:Nat} {a:Addr},ρ'.o[i]?=some a→decide (i<ρ.o.length)=true→ρ.o[i]?=some a:=fun{i a} e h=>by
  obtain⟨new,e'⟩:=c.pre
  rw[e',List.getElem?_append_left (of_decide_eq_true h)]at e
  exact e
 cases q with
 |none=>exact .none
 |bool b=>exact .bool b
 |int i=>exact .int i
 |str t=>exact .str t
 |tup n e r=>exact .tup (c.no n) e (RDs.vx c r h)
 |lst n e r=>exact .lst (c.no n) e (RDs.vx c r h)
 |dct0 n e=>exact .dct0 (c.no n) e
 |ctup g=>exact .ctup g
 |scr g=>
  refine .scr ?_
  rcases g with⟨n,g⟩|g
  . exact .inl ⟨c.no n,g⟩
  . exact .inr g
 |ref e k=>exact .ref (at' e h) k
 |dref e k=>exact .dref (at' e h) k
 |fn e=>exact .fn e
 |ty n=>exact .ty n
theorem RDs.vx{ρ ρ':Own}{H:L2.Hp}(c:Cut ρ ρ'){v:List Val}{x:List L2.V}(q:RDs K mg ρ' H v x)(h:wa ρ.o.length v=true):RDs K mg ρ H v x:=by
 cases q with
 |nil=>exact .nil
 |cons r rs=>
  rw[wa,Bool.and_eq_true]at h
  exact .cons (RD.vx c r h.1) (RDs.vx c rs h.2)
end
noncomputable def oD:Cel→List Val
 |.lst vs=>vs
 |.dS kvs=>kvs.map (·.2)
 |.dT kvs=>kvs.map (·.2)
theorem CR.vals{ρ:Own}{H:L2.Hp}{a:Addr}{c:Cel}(h:CR K mg ρ H a c):∃xs,RDs K mg ρ H (oD c) xs:=by
 cases c with
 |lst vs=>obtain⟨xs,_,r⟩:=h;exact⟨_,r⟩
 |dS kvs=>obtain⟨xs,_,_,r⟩:=h;exact⟨_,r⟩
 |dT kvs=>obtain⟨xs,_,_,r⟩:=h;exact⟨_,r⟩
theorem j4{c:Cel}(h:c.noRef=true):zx (oD c)=true:=by cases c<;>exact h
theorem CR.vx{ρ ρ':Own}{H:L2.Hp}{a:Addr}(c:Cut ρ ρ'){o:Cel}(h:CR K mg ρ' H a o)(hb:wa ρ.o.length (oD o)=true):CR K mg ρ H a o:=by
 cases o with
 |lst vs=>obtain⟨xs,e,r⟩:=h;exact⟨xs,e,RDs.vx c r hb⟩
 |dS kvs=>obtain⟨xs,e,k,r⟩:=h;exact⟨xs,e,k,RDs.vx c r hb⟩
 |dT kvs=>obtain⟨xs,e,k,r⟩:=h;exact⟨xs,e,k,RDs.vx c r hb⟩
theorem oY{α β:Type}:∀{a b:List (α × β)},a.map (·.1)=b.map (·.1)→a.map (·.2)=b.map (·.2)→a=b
 |[],[],_,_=>rfl
 |[],_::_,h,_=>by cases h
 |_::_,[],h,_=>by cases h
 |x::xs,y::ys,h1,h2=>by
  rw[List.map_cons,List.map_cons]at h1 h2
  injection h1 with a1 a2
  injection h2 with b1 b2
  rw[oY a2 b2,Prod.ext a1 b1]
theorem ny:∀{s s':Sto} {i:Nat} {o':Cel},wB s s'=true→i<s.length→s'[i]?=some o'→o'.noRef=true∨s[i]?=some o'
 |[],_,_,_,_,h,_=>by cases h
 |o::r,[],_,_,h,_,_=>by cases h
 |o::r,o'::r',0,q,h,_,e=>by
  rw[wB,Bool.and_eq_true,Bool.or_eq_true]at h
  simp only[List.getElem?_cons_zero,Option.some.injEq]at e
  subst e
  rcases h.1 with z|z
  . exact .inl z
  . right
    cases o' with
    |lst a=>cases o with
     |lst b=>simp only[Cel.beq]at z;rw[uY z];rfl
     |_=>cases z
    |dS a=>cases o with
     |dS b=>simp only[Cel.beq,Bool.and_eq_true,decide_eq_true_eq]at z;rw[oY z.1 (uY z.2)];rfl
     |_=>cases z
    |dT a=>cases o with
     |dT b=>simp only[Cel.beq,Bool.and_eq_true,decide_eq_true_eq]at z;rw[oY z.1 (uY z.2)];rfl
     |_=>cases z
 |o::r,o'::r',i+1,q,h,hi,e=>by
  rw[wB,Bool.and_eq_true]at h
  have:=ny (i:=i) h.2 (by simpa using hi) (by simpa using e)
  simpa using this
noncomputable def XO:Val→Bool
 |.ref _|.dref _|.tup _=>false
 |.none|.bool _|.int _|.str _|.dct0|.ctup _|.scr _|.fn _|.ty _|.lst _=>true
theorem cX{n:Nat}{s:Sto}{k i:Nat}:vC n s k (.ref i)=if i<n then some (Val.ref i) else match s[i]? with
 |some (.lst vs)=>if zx vs then some (.lst vs) else Option.none
 |_=>Option.none:=by cases k<;>rfl
theorem gs{n:Nat}{s:Sto}{k i:Nat}:vC n s k (.dref i)=if i<n then some (Val.dref i) else Option.none:=by cases k<;>rfl
theorem gu{n:Nat}{s:Sto}{k:Nat}{v:Val}(h:XO v=true):vC n s k v=if v.noRef then some v else Option.none:=by
 cases v with
 |ref _=>cases h
 |dref _=>cases h
 |tup _=>cases h
 |_=>cases k<;>rfl
theorem cW{n:Nat}{s:Sto}{k:Nat}:ug n s k []=some []:=by cases k<;>rfl
mutual
theorem rO{ρ ρ':Own}{H:L2.Hp}{s:Sto}(c:Cut ρ ρ')(hr:HR K mg ρ' s H){k:Nat}{v v':Val}{x:L2.V}(r:RD K mg ρ' H v x)(h:vC ρ.o.length s k v=some v'):RD K mg ρ H v' x:=by
 have sv:∀{w:Val},RD K mg ρ' H w x→(if w.noRef then some w else Option.none)=some v'→RD K mg ρ H v' x:=fun{w} r h=>by
  split at h
  . rename_i hn;cases h;exact RD.vx c r (ur hn)
  . cases h
 cases v with
 |ref i=>
  rw[cX]at h
  cases r with
  |ref e hkd=>
   by_cases hi:i<ρ.o.length
   . rw[if_pos hi]at h
     cases h
     exact RD.vx c (.ref e hkd) (by rw[pX];exact decide_eq_true hi)
   . rw[if_neg hi]at h
     split at h
     . rename_i vs hs
       split at h
       . rename_i hn
         cases h
         obtain⟨a,xs,e1,e2,q⟩:=hr.obj i vs hs
         rw[e]at e1;cases e1
         obtain⟨new,e'⟩:=c.pre
         have hm:=List.mem_of_getElem? e
         refine .lst ⟨fun hm'=>?_,fun hh=>?_⟩ e2 (RDs.vx c q (w5 hn))
         . obtain⟨j,hj,ej⟩:=List.getElem_of_mem hm'
           have ej':ρ'.o[j]?=ρ'.o[i]?:=by rw[e,e',List.getElem?_append_left hj,List.getElem?_eq_getElem hj,ej]
           have:=fu hr.nd e (ej'.trans e)
           exact hi (this▸hj)
         . exact(hr.hid _ (by rw[c.hid];exact hh)).2 hm
       . cases h
     . cases h
 |dref i=>
  rw[gs]at h
  split at h
  . rename_i hi
    cases h
    exact RD.vx c r (by rw[pX];exact decide_eq_true hi)
  . cases h
 |tup vs=>
  cases k with
  |zero=>exact sv r h
  |succ k=>
   rw[vC,Option.map_eq_some_iff]at h
   obtain⟨ws,h1,rfl⟩:=h
   cases r with
   |tup n e q=>exact .tup (c.no n) e (rN c hr q h1)
 |_=>exact sv r ((gu rfl).symm.trans h)
theorem rN{ρ ρ':Own}{H:L2.Hp}{s:Sto}(c:Cut ρ ρ')(hr:HR K mg ρ' s H){k:Nat}{v v':List Val}{x:List L2.V}(r:RDs K mg ρ' H v x)(h:ug ρ.o.length s k v=some v'):RDs K mg ρ H v' x:=by
 cases r with
 |nil=>rw[cW]at h;cases h;exact .nil
 |@cons v _ vs _ r1 r2=>
  cases k with
  |zero=>cases h
  |succ k=>
   rw[ug]at h
   split at h
   . rename_i a b ha hb
     cases h
     refine .cons ?_ (rN c hr r2 hb)
     by_cases hn:v.noRef=true
     . rw[if_pos hn]at ha;cases ha;exact RD.vx c r1 (ur hn)
     . rw[if_neg hn]at ha;exact rO c hr r1 ha
   . cases h
end
theorem nW{F:Fn}{ρ ρ':Own}{H H':L2.Hp}{s s1:Sto}{v:Val}{x:L2.V}{Q:L2.VK}(h0:HR K mg ρ s H)(w:y4 K mg (RD K mg) ρ H (leave F s v s1) Q)(X:Ext ρ H ρ' H')(hr:HR K mg ρ' s1 H')(r:RD K mg ρ' H' v x):Q x H':=by
 unfold leave at w
 by_cases hk:F.keep=true
 . rw[if_pos hk]at w;exact w ρ' x H' X hr r
 . rw[if_neg hk]at w
   by_cases ho:wB s s1=true
   . rw[if_pos ho]at w
     have c:Cut ρ ρ':=⟨by obtain⟨new,e,_⟩:=X.pre;exact⟨new,e⟩,X.hid⟩
     cases hf:freeze s.length s1 v with
     |none=>rw[hf]at w;exact w.elim
     |some v'=>
      rw[hf]at w
      have hlen:s.length≤s1.length:=by
       obtain⟨new,e,_⟩:=X.pre
       rw[←h0.len,←hr.len,e,List.length_append];omega
      refine w ρ x H' ⟨⟨[],by simp,fun a ha=>by cases ha⟩,rfl,X.keep,X.kd⟩ ⟨?_,h0.nd,fun i vs e=>?_,fun a ha=>?_⟩ ?_
      . rw[List.length_take,h0.len];omega
      . have hi:i<s.length:=by
         have:=(List.getElem?_eq_some_iff.mp e).1
         rw[List.length_take]at this;omega
        rw[List.getElem?_take_of_lt hi]at e
        obtain⟨a,e1,q⟩:=hr.cel i vs e
        have e3:ρ.o[i]?=some a:=by
         obtain⟨new,e',_⟩:=X.pre
         rw[e',List.getElem?_append_left (by rw[h0.len];exact hi)]at e1
         exact e1
        refine⟨a,e3,q.vx c ?_⟩
        rcases ny ho hi e with z|z
        . exact w5 (j4 z)
        . obtain⟨b,_,q'⟩:=h0.cel i vs z
          obtain⟨xs,q2⟩:=q'.vals
          exact RDs.refs q2
      . obtain⟨z,n⟩:=hr.hid a (by rw[X.hid];exact ha)
        exact⟨z,(h0.hid a ha).2⟩
      . unfold freeze at hf
        by_cases hn:v.noRef=true
        . rw[if_pos hn]at hf;cases hf;exact RD.vx c r (ur hn)
        . rw[if_neg hn,←h0.len]at hf
          exact rO c hr r hf
   . rw[if_neg ho]at w;exact w.elim
theorem di{ρ:Own}{H:L2.Hp}{args:List Val}{vs:List L2.V}{N:List Str}(r:RDs K mg ρ H args vs):ER K mg ρ H (yY N args) (L2.start N vs):=by
 refine⟨by unfold yY L2.start;rw[List.length_append,List.length_append,List.length_map,List.length_map,List.length_replicate,List.length_replicate,r.length],fun i v e=>?_⟩
 unfold yY at e
 unfold L2.start
 by_cases hi:i<args.length
 . rw[List.getElem?_append_left (by simpa using hi),List.getElem?_map]at e
   rw[List.getElem?_append_left (by rw[List.length_map,←r.length];exact hi),List.getElem?_map]
   cases ha:args[i]? with
   |none=>rw[ha]at e;cases e
   |some a=>
    rw[ha]at e
    have:a=v:=Option.some.inj (Option.some.inj e)
    subst this
    obtain⟨x,h1,h2⟩:=r.get ha
    exact⟨x,by rw[h1];rfl,h2⟩
 . rw[List.getElem?_append_right (by simpa using hi),List.getElem?_replicate]at e
   split at e<;>cases e
end
noncomputable def argNames(a:Arguments):Option (List Str):=
 if a.posonlyargs.isEmpty&&a.vararg.isNone&&a.kwonlyargs.isEmpty&&a.kw_defaults.isEmpty&&a.kwarg.isNone&&a.defaults.isEmpty then some (a.args.map (·.arg)) else none
noncomputable def gW(st:Stmt)(F:Fn):Bool:=
 match st with
 |.FunctionDef _ args body _ _ _ sc _ _ _=>decide (argNames args=some F.ps)&&decide (sc.kind=.function)&&!sc.isCoroutine&&!sc.isGenerator&&decide F.N.Nodup&&decide (F.N.take F.ps.length=F.ps) &&
  F.ps.all (fun x=>decide (sc.names.lookup x=some .local)||decide (sc.names.lookup x=some .cell))&&sc.names.all (fun y=>decide (y.2≠.free))&&oG sc F.N F.body body
 |_=>false
theorem lK:∀{ps:List Str} {us:List Value},ps.Nodup→us.length=ps.length→ps.filterMap (fun n=>((ps.zip us).lookup n).map (n,·))=ps.zip us:=by
 have key:∀(ps qs:List Str) (us ws:List Value),(qs++ps).Nodup→us.length=ps.length→ws.length=qs.length→ps.filterMap (fun n=>(((qs++ps).zip (ws++us)).lookup n).map (n,·))=ps.zip us:=by
  intro ps
  induction ps with
  |nil=>intro qs us ws _ _ _;rfl
  |cons p ps ih=>
   intro qs us ws nd h1 h2
   cases us with
   |nil=>cases h1
   |cons u us=>
    have hl:((qs++p::ps).zip (ws++u::us)).lookup p=some u:=by
     rw[List.zip_append h2.symm]
     have:∀(qs:List Str) (ws:List Value),p ∉ qs→((qs.zip ws)++(p::ps).zip (u::us)).lookup p=some u:=by
      intro qs
      induction qs with
      |nil=>intro ws _;simp
      |cons q qs ih2=>
       intro ws hn
       cases ws with
       |nil=>simp
       |cons w ws=>
        have hpq:(p == q)=false:=by
         have:p≠q:=fun z=>hn (by rw[z];exact List.mem_cons_self)
         simpa using this
        rw[List.zip_cons_cons,List.cons_append,List.lookup_cons,hpq]
        exact ih2 ws fun z=>hn (List.mem_cons_of_mem _ z)
     refine this qs ws fun z=>?_
     rw[List.nodup_append]at nd
     exact nd.2.2 p z p List.mem_cons_self rfl
    rw[List.filterMap_cons,hl]
    have:=ih (qs++[p]) us (ws++[u]) (by simpa using nd) (by simpa using h1) (by simp[h2])
    rw[List.append_assoc,List.append_assoc]at this
    exact congrArg ((p,u)::·) this
 intro ps us nd h
 simpa using key ps [] us [] (by simpa using nd) h rfl
theorem lookup_some:∀{ps:List Str} {us:List Value},us.length=ps.length→∀n∈ps,((ps.zip us).lookup n).isNone=false
 |[],_,_,n,h=>by cases h
 |p::ps,[],h,_,_=>by cases h
 |p::ps,u::us,h,n,hn=>by
  rw[List.zip_cons_cons,List.lookup_cons]
  cases hb:(n == p) with
  |true=>rfl
  |false=>
   have:n≠p:=by simpa using hb
   rcases List.mem_cons.mp hn with z|z
   . exact absurd z this
   . exact lookup_some (by simpa using h) n z
theorem nC{x qual:Str}{a:Arguments}{body:List Stmt}{sc:Scope}{kV doc pm cdv ct:Value}{an:Option Addr}{ps:List Str}(h:argNames a=some ps)(nd:ps.Nodup)(us:List Value)(hl:us.length=ps.length) :
 bindArgs (PySem.W.fnOf x qual a body sc .none kV doc pm an cdv ct) ⟨us,[]⟩=pure (ps.zip us):=by
 unfold argNames at h
 split at h
 . rename_i hc
   simp only[Bool.and_eq_true,List.isEmpty_iff,Option.isNone_iff_eq_none]at hc
   obtain⟨⟨⟨⟨⟨h1,h2⟩,h3⟩,h4⟩,h5⟩,h6⟩:=hc
   cases h
   obtain⟨po,ar,va,ko,kd,kw,df⟩:=a
   simp only at h1 h2 h3 h4 h5 h6 hl nd ⊢
   subst h1 h2 h3 h4 h5 h6
   have hm:((ar.map (·.arg)).take ((ar.map (·.arg)).length-0)).filter (fun n=>(((ar.map (·.arg)).zip us).lookup n).isNone)=[]:=by
    rw[List.filter_eq_nil_iff]
    intro n hn
    rw[lookup_some hl n (List.mem_of_mem_take hn)]
    decide
   unfold bindArgs
   have hd:seqItems? Value.none=pure none:=rfl
   have hg:¬(us.length > (ar.map (·.arg)).length∧True):=by rintro ⟨z,_⟩;omega
   simp only[PySem.W.fnOf,List.map_nil,List.nil_append,List.append_nil,List.forIn_nil,pure_bind,hd,Option.getD_none,List.toList_toArray,List.length_nil,List.drop_nil,Nat.sub_zero,Option.isNone_none,Bool.and_true]
   rw[if_neg (by rw[List.length_map]at hl;simp;omega)]
   have hm':(List.filter (fun n=>(List.lookup n ((List.map (fun x=>x.arg) ar).zip us)).isNone) (List.take (List.map (fun x=>x.arg) ar).length (List.map (fun x=>x.arg) ar)))=[]:=hm
   rw[hm',if_neg (by decide),List.zip_nil_right,List.forIn_nil,pure_bind,if_neg (by decide),lK nd hl]
 . cases h
def oz(K:KF)(x:Str)(st:Stmt):Prop:=∃f fd,PySem.W.nsIn K mainGlobals x=some (some (.ref f))∧L2.Fun K x x st f fd
theorem Zj{K:KF}{x:Str}{st:Stmt}{f:Addr}{oc:Value}{od an:Option Addr}{osl:Array (Option Value)}{kV doc pm cdv ct:Value}(a:PySem.W.nsIn K mainGlobals x=some (some (.ref f)))
 (l:K.lookup f=some ⟨oc,od,.func (PySem.W.fnOf x x (L2.vB st) (L2.xh st) (L2.yB st) .none kV doc pm an cdv ct),osl⟩) (c:PySem.W.codeIn K cdv x=true) (k:PySem.W.keepIn K (.ref f)=true):oz K x st:=
 ⟨f,_,a,L2.Zp l c k⟩
section
variable {P:Program}{w:World}{K:KF}{mg:Str→Option Value}{base:Heap}{T:Tbl}
structure Top(T:Tbl)(K:KF)(mg:Str→Option Value):Prop where
 defs:∀f v F,T.fn f v=some F→∃st fa fd,mg f=some (.ref fa)∧L2.Fun K f f st fa fd∧gW st F=true
 gls:∀x v,T.gl x=some v→∃u xv,mg x=some u∧L2.RelV xv u∧∀ρ H,RD K mg ρ H v xv
 blt:∀x∈wg,mg x=none
theorem uD{st:Stmt}{F:Fn}(h:gW st F=true):argNames (L2.vB st)=some F.ps∧L2.sR F.N F.ps (L2.yB st)∧oG (L2.yB st) F.N F.body (L2.xh st)=true:=by
 unfold gW at h
 split at h
 . simp only[Bool.and_eq_true,decide_eq_true_eq,Bool.not_eq_true',List.all_eq_true,Bool.or_eq_true]at h
   obtain⟨⟨⟨⟨⟨⟨⟨⟨h1,h2⟩,h3⟩,h4⟩,h5⟩,h6⟩,h7⟩,h8⟩,h9⟩:=h
   exact⟨h1,⟨h2,h3,h4,h5,h6,h7,h8⟩,h9⟩
 . cases h
theorem ZA(top:Top T K mg):∀(n:Nat) (f:Str) (v:Nat) (F:Fn) (st:Stmt) (fa:Addr) (fd:FuncData),T.fn f v=some F→L2.Fun K f f st fa fd→gW st F=true→L2.sI P w K mg base L2.CX0 n fa fd F.ps (spN T K mg n f v)
 |0,f,v,F,st,fa,fd,h,e2,e3=>by
  refine⟨fun vs H Q E q=>?_,fun A outer s H args us vs Q E _ _ _ _ q=>?_⟩
  . obtain⟨ρ,t,as,_,_,z⟩:=q;exact z.elim
  . obtain⟨ρ,t,as,_,_,z⟩:=q;exact z.elim
 |n+1,f,v,F,st,fa,fd,h,e2,e3=>by
  obtain⟨p1,p2,p3⟩:=uD e3
  have hcall:∀(vs:List Val) (s:Sto),zF T (n+1) f v vs s=run T (zF T n) F vs s:=fun vs s=>by simp only[zF,h]
  refine e2.ok p2 (fun vs H Q E q=>?_) fun cdv A outer s H vs Q E hr q=>?_
  . obtain⟨ρ,t,as,_,r,z⟩:=q
    rw[hcall]at z
    unfold run at z
    split at z
    . rename_i hl;rw[←r.length];exact hl
    . exact z.elim
  . obtain⟨ρ,t,as,h0,r,z⟩:=q
    rw[hcall]at z
    unfold run at z
    have hl:as.length=F.ps.length:=by
     by_cases hl:as.length=F.ps.length
     . exact hl
     . rw[if_neg hl]at z;exact z.elim
    rw[if_pos hl]at z
    have okf:OkF T n (L2.yB st) F.N (L2.m8 L2.CX0 P w K mg base F.N f (L2.yB st) fa cdv A outer s H E).nox:=by
     refine⟨⟨rfl,hr,⟨rfl,p2.nd,fun x hx=>hx,fun x hx=>⟨hx,.inl rfl⟩,fun x hx=>hx,fun x hx=>hx⟩,fun g v' G hg=>?_,top.gls,top.blt,rfl⟩,rfl,?_⟩
     . obtain⟨st2,ga,gd,q1,q2,q3⟩:=top.defs g v' G hg
       obtain⟨r1,r2,r3⟩:=uD q3
       have nd:G.ps.Nodup:=by rw[←r2.pre];exact r2.nd.sublist (List.take_sublist _ _)
       exact⟨ga,gd,q1,q2.kp,q2.binds fun kV doc pm an cdv ct us hl=>nC r1 nd us hl,ZA top n g v' G st2 ga gd hg q2 q3⟩
     . show (if (L2.yB st).kind.isAnnotationScope then ScopeKind.function else (L2.yB st).kind)=.function
       rw[p2.kind];rfl
    refine⟨_,jSs T n F.body (L2.yB st) F.N _ (L2.xh st) okf p3 (yY F.N as) t,ρ,h0,di r,?_⟩
    show qo K mg ρ H (zW (zF T n) T.gl (yY F.N as) F.body t) _
    cases hx:zW (zF T n) T.gl (yY F.N as) F.body t with
    |ok fl s1=>
     rw[hx]at z
     cases fl with
     |nx e=>exact fun ρ1 H1 σ1 x1 hr1 er1=>nW h0 z x1 hr1 .none
     |rt v'=>exact fun ρ1 H1 x x1 hr1 r1=>nW h0 z x1 hr1 r1
     |bk e=>exact z.elim
     |ct e=>exact z.elim
    |exc _ _ _=>rw[hx]at z;exact z.elim
    |stuck=>rw[hx]at z;exact z.elim
end
end M
end
section
namespace M
open PySem Hd
noncomputable def jr(K:KF)(x:Str):Val→Prop
 |.int i=>∃t,PySem.W.nsIn K mainGlobals x=some (some (.int i t))
 |.str y=>∃t,PySem.W.nsIn K mainGlobals x=some (some (.str y t))
 |.ctup ns=>∃a,PySem.W.nsIn K mainGlobals x=some (some (.ref a))∧KT K a (ns.map L2.V.int)
 |_=>False
noncomputable def tbl(fnL:List ((Str × Nat) × Fn))(glL:List (Str × Val)):Tbl:=⟨fun f v=>fnL.lookup (f,v),fun x=>glL.lookup x⟩
noncomputable def jm(fnL:List ((Str × Nat) × Fn))(D:List (Str × Stmt)):Bool:=fnL.all fun p=>match D.lookup p.1.1 with|some st=>gW st p.2|none=>false
theorem rZ{α β:Type} [BEq α] [LawfulBEq α]:∀{l:List (α × β)} {a:α} {b:β},l.lookup a=some b→(a,b)∈l
 |[],_,_,h=>by cases h
 |(c,d)::l,a,b,h=>by
  rw[List.lookup_cons]at h
  cases hb:(a == c) with
  |true=>rw[hb]at h;cases h;rw[eq_of_beq hb];exact List.mem_cons_self
  |false=>rw[hb]at h;exact List.mem_cons_of_mem _ (rZ h)
theorem Xn{K:KF}{mg:Str→Option Value}{h:Heap}{fnL:List ((Str × Nat) × Fn)}{glL:List (Str × Val)}{D:List (Str × Stmt)}(X:K.In h)(G:h.Ns mainGlobals mg)(hd:∀p∈D,oz K p.1 p.2)(hg:∀p∈glL,jr K p.1 p.2)(hb:∀x∈wg,PySem.W.nsIn K mainGlobals x=some none)
 (hc:jm fnL D=true):Top (tbl fnL glL) K mg:=by
 refine⟨fun f v F e=>?_,fun x v e=>?_,fun x hx=>PySem.W.mg_none_of X G (hb x hx)⟩
 . have hm:((f,v),F)∈fnL:=rZ e
   unfold jm at hc
   rw[List.all_eq_true]at hc
   have h1:=hc _ hm
   split at h1
   . rename_i st hs
     obtain⟨fa,fd,a,F'⟩:=hd _ (rZ hs)
     exact⟨st,fa,fd,PySem.W.mg_of X G a,F',h1⟩
   . cases h1
 . have hm:(x,v)∈glL:=rZ e
   have h1:=hg _ hm
   cases v with
   |int i=>
    obtain⟨t,a⟩:=h1
    exact⟨_,.int i,PySem.W.mg_of X G a,⟨t,rfl⟩,fun ρ H=>.int i⟩
   |str y=>
    obtain⟨t,a⟩:=h1
    exact⟨_,.str y,PySem.W.mg_of X G a,⟨t,rfl⟩,fun ρ H=>.str y⟩
   |ctup ns=>
    obtain⟨a,h2,h3⟩:=h1
    exact⟨_,.ref a,PySem.W.mg_of X G h2,rfl,fun ρ H=>.ctup h3⟩
   |_=>exact h1.elim
theorem int_mk{K:KF}{x:Str}{i:Int}{t:Tok}(a:PySem.W.nsIn K mainGlobals x=some (some (.int i t))):jr K x (.int i):=⟨t,a⟩
theorem str_mk{K:KF}{x y:Str}{t:Tok}(a:PySem.W.nsIn K mainGlobals x=some (some (.str y t))):jr K x (.str y):=⟨t,a⟩
theorem rR:∀{us:List Value} {ns:List Int},nR us=some ns→L2.Vals (ns.map L2.V.int) us
 |[],_,h=>by cases h;exact .nil
 |u::us,ns,h=>by
  cases u with
  |int i t=>
   simp only[nR,Option.map_eq_some_iff]at h
   obtain⟨ms,h1,rfl⟩:=h
   exact .cons ⟨t,rfl⟩ (rR h1)
  |_=>cases h
theorem cQ{K:KF}{x:Str}{a:Addr}{od:Option Addr}{us:List Value}{n:Nat}{sl:Array (Option Value)}{ns:List Int}(h:PySem.W.nsIn K mainGlobals x=some (some (.ref a)))
 (l:K.lookup a=some ⟨.type "tuple",od,.seq us.toArray n,sl⟩) (hz:us.length≤1000) (hi:nR us=some ns):jr K x (.ctup ns):=
 ⟨a,h,_,us.toArray,n,l,rfl,rfl,by rw[List.size_toArray,sizeLine_eq];omega,by simpa using rR hi⟩
noncomputable def Vb(K:KF):L2.Sp:=fun vs H Q _=>∃(a:Addr) (ns:List Int),vs=[.ref a]∧L2.SqL K H a (ns.map L2.V.int)∧ns.length≤63∧∀H',Q (.bl true) H'
theorem walk{l:PySem.W.OpenLaw}{q:Program}{loose:List Str}{XP:(Str→Option Value)→Heap→Prop}{YP:World→Heap→Prop}{d:DefRec}{K:Params→KF}{T:Tbl}{F:Fn}{n:Nat}{x:Str}(hn:l.most=some 63)(hdf:d.params.defaults=[])(hr:L2.y1 n callerA)
 (hY:∀(w:World) (h:Heap),YP w h→(K w.params).In h) (hF:T.fn d.name 0=some F) (hx:F.ps=[x])
 (TOP:∀(w:World) (mg:Str→Option Value) (h:Heap),(K w.params).In h→h.Ns mainGlobals mg→Top T (K w.params) mg)
 (HL:∀ns:List Int,ns.length≤63→∃s',zF T n d.name 0 [.scr ns] []=.ok (.bool true) s') :
 PySem.W.WalkO q loose XP YP l.row.toRowW d [] (fun f vs=>PySem.call f vs):=by
 refine L2.aj (n:=63) (k:=n) (x:=x) (CX:=fun _=>L2.CX0) (sp:=fun w=>Vb (K w.params)) hn (by decide) hdf hr hY (fun w mg fa h KX G hmg=>?_) (fun _ _ a ns hl _ hS=>⟨a,ns,rfl,hS,hl,fun _=>rfl⟩) fun _ _ _ _ _ z=>z
 have top:=TOP w mg h KX G
 obtain⟨st,fa',fd',e1,e2,e3⟩:=top.defs _ _ _ hF
 obtain⟨p1,p2,p3⟩:=uD e3
 have nd:F.ps.Nodup:=by rw[←p2.pre];exact p2.nd.sublist (List.take_sublist _ _)
 rw[e1]at hmg
 cases hmg
 refine⟨fd',fun s u=>?_,fun base kb nb=>?_⟩
 . obtain⟨oc,od,kV,doc,pm,an,cdv,ct,osl,e,_⟩:=e2.ex
   subst e
   refine .of_eq ?_
   have:=nC (x:=d.name) (qual:=d.name) (body:=L2.xh st) (sc:=L2.yB st) (kV:=kV) (doc:=doc) (pm:=pm) (cdv:=cdv) (ct:=ct) (an:=an) p1 nd [u] (by rw[hx];rfl)
   rw[hx]at this
   exact this
 . have f4:=ZA (P:=l.prog) (w:=w) (base:=base) top n d.name 0 F st _ fd' hF e2 e3
   rw[hx]at f4
   refine f4.imp fun vs H Q E ⟨a,ns,e,hS,hl,hq⟩=>?_
   subst e
   obtain⟨s',hs⟩:=HL ns hl
   refine⟨⟨[],[]⟩,[],[.scr ns],⟨rfl,List.nodup_nil,fun i vs z=>by simp at z,fun a z=>by cases z⟩,.cons (.scr ?_) .nil,?_⟩
   . rcases hS with hS|hS
     . exact .inl ⟨⟨by simp,by simp⟩,hS⟩
     . exact .inr hS
   . rw[hs]
     intro ρ' x' H' _ _ r
     cases r
     exact hq H'
end M
end
section
namespace F
open PySem M
noncomputable def yK:Fn:=⟨["_law_script","_law_k"],["_law_script","_law_k"],false,(.cons (.ifS (.val (.cmp .lt (.var 1) (.blt .len false (.cons (.var 0) .nil)))) (.cons (.ret (.ix (.var 0) (.var 1))) .nil) .nil) (.cons (.ret (.lit (.int 0))) .nil))⟩
noncomputable def yt:Fn:=⟨["_law_pen_here","_law_many","_law_left","_law_found","_law_mixed"],["_law_pen_here","_law_many"],false,(.cons (.ifS (.val (.cmp .gt (.ix (.var 0) (.lit (.int 0))) (.lit (.int 0)))) (.cons (.asgT [2,3] (.blt .divmod false (.cons (.ix (.var 0) (.lit (.int 0))) (.cons (.var 1) .nil)))) (.cons (.setIx (.var 0) (.lit (.int 0)) (.var 2)) (.cons (.ret (.var 3)) .nil))) .nil) (.cons (.setIx (.var 0) (.lit (.int 1)) (.bin false .mod (.bin false .add (.bin false .mul (.ix (.var 0) (.lit (.int 1))) (.lit (.int 48271))) (.lit (.int 30269))) (.lit (.int 2147483629)))) (.cons (.asg 4 (.bin false .mod (.bin false .add (.bin false .add (.bin false .mul (.ix (.var 0) (.lit (.int 1))) (.ix (.var 0) (.lit (.int 1)))) (.bin false .mul (.lit (.int 40692)) (.ix (.var 0) (.lit (.int 1))))) (.lit (.int 7))) (.lit (.int 2147483587)))) (.cons (.ret (.bin false .mod (.bin false .fdiv (.var 4) (.lit (.int 64))) (.var 1))) .nil))))⟩
noncomputable def yd:Fn:=⟨["_law_cell","_law_left"],["_law_cell"],true,(.cons (.asg 1 (.blt .max false (.cons (.var 0) (.cons (.bin false .sub (.lit (.int 0)) (.var 0)) .nil)))) (.cons (.ret (.lst true (.cons (.bin false .mul (.var 1) (.blt .int false (.cons (.cmp .ge (.var 1) (.bin false .pow (.lit (.int 10)) (.lit (.int 18)))) .nil))) (.cons (.bin false .mod (.var 1) (.lit (.int 2147483629))) .nil)))) .nil))⟩
noncomputable def yv:Fn:=⟨["things","least","most"],["things","least","most"],false,(.cons (.ret (.blt .all false (.cons (.comp false ["thing","least","most"] [none,some 1,some 2] (.call "is_whole" 0 (.cons (.var 0) (.cons (.var 1) (.cons (.var 2) .nil)))) (.nm 0) (.val (.var 0)) .nil) .nil))) .nil)⟩
noncomputable def xW:Fn:=⟨["thing","least","most"],["thing","least","most"],false,(.cons (.ret (.andE (.blt .isi false (.cons (.var 0) (.cons (.ty "int" "int") .nil))) (.cons (.not (.blt .isi false (.cons (.var 0) (.cons (.ty "bool" "bool") .nil)))) (.cons (.chain .le .le (.var 1) (.var 0) (.var 2)) .nil)))) .nil)⟩
noncomputable def xC:Fn:=⟨["length","first","size"],["length","first","size"],false,(.cons (.ret (.bin false .fdiv (.bin false .sub (.bin false .sub (.var 0) (.lit (.int 1))) (.var 1)) (.bin false .sub (.var 2) (.lit (.int 1))))) .nil)⟩
noncomputable def ym:Fn:=⟨["thing"],["thing"],false,(.cons (.expr (.call "need_whole" 0 (.cons (.var 0) (.cons (.lit (.int 0)) (.cons (.gl "MOST_PLACES") .nil))))) .nil)⟩
noncomputable def xD:Fn:=⟨["thing"],["thing"],false,(.cons (.expr (.call "need_whole" 0 (.cons (.var 0) (.cons (.gl "LEAST_SIZE") (.cons (.gl "MOST_SIZE") .nil))))) .nil)⟩
noncomputable def yz:Fn:=⟨["thing","least","most"],["thing","least","most"],false,(.cons (.ifS (.not (.val (.call "is_whole" 0 (.cons (.var 0) (.cons (.var 1) (.cons (.var 2) .nil)))))) (.cons (.raise (.lit .none)) .nil) .nil) .nil)⟩
end F
end
section
namespace M
open PySem L2
noncomputable def uv(n s f:Nat):List (Nat × Nat):=(List.range ((n-1-f)/(s-1))).map fun j=>(f,j+1)
noncomputable def yS(n s:Nat):List (Nat × Nat):=(List.range n).flatMap (uv n s)
theorem dG(n s f:Nat):(uv n s f).length=(n-1-f)/(s-1):=by unfold uv;rw[List.length_map,List.length_range]
theorem aN(n s f:Nat):(uv n s f).length≤n:=by
 rw[dG];have:=Nat.div_le_self (n-1-f) (s-1);omega
theorem ky(n s:Nat):∀i,((List.range i).flatMap (uv n s)).length≤i*n
 |0=>by simp
 |i+1=>by
  rw[List.range_succ,List.flatMap_append,List.length_append]
  have h1:=ky n s i
  have h2:=aN n s i
  have e:List.flatMap (uv n s) [i]=uv n s i:=by simp
  rw[e,Nat.succ_mul];omega
theorem iR{n s:Nat}{r:Nat × Nat}(hs:2≤s)(h:r∈yS n s):0<r.2∧r.1+r.2*(s-1)<n:=by
 unfold yS uv at h
 obtain⟨f,hf,h⟩:=List.mem_flatMap.mp h
 obtain⟨j,hj,rfl⟩:=List.mem_map.mp h
 rw[List.mem_range]at hf hj
 have:(j+1)*(s-1)≤n-1-f:=(Nat.le_div_iff_mul_le (by omega)).mp hj
 refine⟨Nat.succ_pos _,?_⟩
 show f+(j+1)*(s-1)<n
 omega
noncomputable def toI(r:Nat × Nat):Int × Int:=(r.1,r.2)
theorem yu{n z:Nat}(hz:2≤z){f d:Nat}:(f,d)∈yS n z↔0<d∧f+d*(z-1)<n:=by
 constructor
 . exact fun h=>iR hz h
 . rintro ⟨h1,h2⟩
   unfold yS uv
   refine List.mem_flatMap.mpr ⟨f,List.mem_range.mpr (by omega),List.mem_map.mpr ⟨d-1,List.mem_range.mpr ?_,?_⟩⟩
   . have:d≤(n-1-f)/(z-1):=(Nat.le_div_iff_mul_le (by omega)).mpr (by omega)
     omega
   . show (f,d-1+1)=(f,d)
     rw[show d-1+1=d by omega]
theorem l0{n z:Nat}(hn:n≤40):((yS n z).map toI).Pairwise (fun a b=>z6 a<z6 b):=by
 rw[List.pairwise_map]
 unfold yS
 rw[List.pairwise_flatMap]
 have fm:∀{f j:Nat},j∈List.range ((n-1-f)/(z-1))→j<40:=fun{f j} hj=>by
  rw[List.mem_range]at hj
  have:=Nat.div_le_self (n-1-f) (z-1)
  omega
 refine⟨fun f _=>?_,?_⟩
 . unfold uv
   rw[List.pairwise_map]
   refine List.Pairwise.imp ?_ List.pairwise_lt_range
   intro i j hij
   show (f:Int)*1000+((i+1:Nat):Int)<(f:Int)*1000+((j+1:Nat):Int)
   omega
 . refine List.Pairwise.imp ?_ List.pairwise_lt_range
   intro f g hfg x hx y hy
   unfold uv at hx hy
   obtain⟨i,hi,rfl⟩:=List.mem_map.mp hx
   obtain⟨j,hj,rfl⟩:=List.mem_map.mp hy
   have:=fm hi
   have:=fm hj
   show (f:Int)*1000+((i+1:Nat):Int)<(g:Int)*1000+((j+1:Nat):Int)
   omega
noncomputable def sZ(f d z:Nat):List Int:=(List.range z).map fun k=>((f+k*d:Nat):Int)
end M
end
section
namespace M
open PySem
def Out.post{α:Type}(o:Out α)(P:α→Sto→Prop):Prop:=∃a s,o=.ok a s∧P a s
theorem zC{α:Type}{a:α}{s:Sto}{P:α→Sto→Prop}:(Out.ok a s).post P↔P a s:=
 ⟨fun⟨_,_,e,h⟩=>(by cases e;exact h),fun h=>⟨a,s,rfl,h⟩⟩
theorem zH{α β:Type}{o:Out α}{f:α→Sto→Out β}{P:β→Sto→Prop}:(o.bind f).post P↔o.post fun a s=>(f a s).post P:=by
 cases o with
 |ok a s=>exact(zC (P:=fun a s=>(f a s).post P)).symm
 |exc c as s=>exact⟨fun⟨_,_,e,_⟩=>(by cases e),fun⟨_,_,e,_⟩=>(by cases e)⟩
 |stuck=>exact⟨fun⟨_,_,e,_⟩=>(by cases e),fun⟨_,_,e,_⟩=>(by cases e)⟩
theorem zP{α:Type}{o:Out α}{P Q:α→Sto→Prop}(h:o.post P)(i:∀a s,P a s→Q a s):o.post Q:=by
 obtain⟨a,s,e,h⟩:=h
 exact⟨a,s,e,i a s h⟩
theorem z7{α:Type}{o:Out α}{P Q:α→Sto→Prop}(h:∀a s,P a s↔Q a s):o.post P↔o.post Q:=⟨fun k=>zP k fun a s=>(h a s).mp,fun k=>zP k fun a s=>(h a s).mpr⟩
theorem zj{α:Type}{P:α→Sto→Prop}:(Out.stuck:Out α).post P↔False:=⟨fun⟨_,_,e,_⟩=>(by cases e),False.elim⟩
theorem xP{α:Type}{c:Prop} [Decidable c] {a b:Out α}{P:α→Sto→Prop}:(if c then a else b).post P↔if c then a.post P else b.post P:=by split<;>exact Iff.rfl
theorem post_eq{α:Type}{o:Out α}{a:α}{s:Sto}:o=.ok a s↔o.post fun x t=>x=a∧t=s:=⟨fun h=>⟨a,s,h,rfl,rfl⟩,fun⟨_,_,h,e1,e2⟩=>(by rw[h,e1,e2])⟩
section
variable {Φ:Calls}{G:Str→Option Val}{env:Env}{s:Sto}
theorem jV{v:Val}{P:Val→Sto→Prop}:(evE Φ G env (.lit v) s).post P↔P v s:=zC
theorem ZI{i:Nat}{P:Val→Sto→Prop}:(evE Φ G env (.var i) s).post P↔∃v,env[i]?=some (some v)∧P v s:=by
 show (match env[i]? with|some (some v)=>Out.ok v s|_=>.stuck).post P↔_
 split
 . rename_i v e
   refine zC.trans ⟨fun h=>⟨_,e,h⟩,fun⟨u,h1,h2⟩=>?_⟩
   rw[e]at h1;cases h1;exact h2
 . rename_i hn
   exact⟨fun⟨_,_,e,_⟩=>(by cases e),fun⟨u,h1,h2⟩=>absurd h1 (hn u)⟩
theorem W0{x:Str}{P:Val→Sto→Prop}:(evE Φ G env (.gl x) s).post P↔∃v,G x=some v∧P v s:=by
 show (match G x with|some v=>Out.ok v s|Option.none=>.stuck).post P↔_
 split
 . rename_i v e
   refine zC.trans ⟨fun h=>⟨_,e,h⟩,fun⟨u,h1,h2⟩=>?_⟩
   rw[e]at h1;cases h1;exact h2
 . rename_i e
   exact⟨fun⟨_,_,e,_⟩=>(by cases e),fun⟨u,h1,h2⟩=>(by rw[e]at h1;cases h1)⟩
theorem V9{x:Str}{n:String}{P:Val→Sto→Prop}:(evE Φ G env (.ty x n) s).post P↔P (.ty n) s:=zC
theorem f9{m:Bool}{op:Bop}{a b:Ex}{P:Val→Sto→Prop}:(evE Φ G env (.bin m op a b) s).post P↔(evE Φ G env a s).post fun x s1=>(evE Φ G env b s1).post fun y s2=>(binOp m op x y s2).post P:=by
 show (Out.bind _ _).post P↔_
 simp only[zH]
theorem W5{a:Ex}{P:Val→Sto→Prop}:(evE Φ G env (.neg a) s).post P↔(evE Φ G env a s).post fun x s1=>∃i,x=.int i∧P (.int (-i)) s1:=by
 show (Out.bind _ _).post P↔_
 simp only[zH]
 exact z7 fun x s1=>by cases x<;>simp[zC,zj]
theorem W6{a:Ex}{P:Val→Sto→Prop}:(evE Φ G env (.not a) s).post P↔(evE Φ G env a s).post fun x s1=>∃b,x=.bool b∧P (.bool !b) s1:=by
 show (Out.bind _ _).post P↔_
 simp only[zH]
 exact z7 fun x s1=>by cases x<;>simp[zC,zj]
theorem ZH{op:Cop}{a b:Ex}{P:Val→Sto→Prop}:(evE Φ G env (.cmp op a b) s).post P↔(evE Φ G env a s).post fun x s1=>(evE Φ G env b s1).post fun y s2=>(zU op x y s2).post P:=by
 show (Out.bind _ _).post P↔_
 simp only[zH]
theorem bh{op op':Cop}{a b c:Ex}{P:Val→Sto→Prop}:(evE Φ G env (.chain op op' a b c) s).post P↔(evE Φ G env a s).post fun x s1=>(evE Φ G env b s1).post fun y s2=>(zU op x y s2).post fun r s3=>∃t,r=.bool t∧if t=true then (evE Φ G env c s3).post fun z s4=>(zU op' y z s4).post P else P (.bool false) s3:=by
 show (Out.bind _ _).post P↔_
 simp only[zH]
 refine z7 fun x s1=>z7 fun y s2=>z7 fun r s3=>?_
 cases r with
 |bool t=>cases t<;>simp[zC,zj,zH]
 |_=>simp[zj]
theorem Wx{a b:Ex}{es:Exs}{P:Val→Sto→Prop}:(evE Φ G env (.andE a (.cons b es)) s).post P↔(evE Φ G env a s).post fun x s1=>∃t,x=.bool t∧if t=true then (sC Φ G env (.cons b es) s1).post P else P (.bool false) s1:=by
 show (Out.bind _ _).post P↔_
 simp only[zH]
 refine z7 fun x s1=>?_
 cases x with
 |bool t=>cases t<;>simp[zC,zj]
 |_=>simp[zj]
theorem Yv{a:Ex}{P:Val→Sto→Prop}:(sC Φ G env (.cons a .nil) s).post P↔(evE Φ G env a s).post P:=Iff.rfl
theorem Yw{a b:Ex}{es:Exs}{P:Val→Sto→Prop}:(sC Φ G env (.cons a (.cons b es)) s).post P↔(evE Φ G env a s).post fun x s1=>∃t,x=.bool t∧if t=true then (sC Φ G env (.cons b es) s1).post P else P (.bool false) s1:=by
 show ((evE Φ G env a s).bind fun x s1=>match x with
  |.bool true=>sC Φ G env (.cons b es) s1
  |.bool false=>.ok (.bool false) s1
  |_=>.stuck).post P↔_
 simp only[zH]
 refine z7 fun x s1=>?_
 cases x with
 |bool t=>cases t<;>simp[zC,zj]
 |_=>simp[zj]
theorem V7{a b:Ex}{es:Exs}{P:Val→Sto→Prop}:(evE Φ G env (.orE a (.cons b es)) s).post P↔(evE Φ G env a s).post fun x s1=>∃t,truth s1 x=some t∧if t=true then P x s1 else (nO Φ G env (.cons b es) s1).post P:=by
 show (Out.bind _ _).post P↔_
 simp only[zH]
 refine z7 fun x s1=>?_
 cases truth s1 x with
 |some t=>cases t<;>simp[zC,zj]
 |none=>simp[zj]
theorem W7{a:Ex}{P:Val→Sto→Prop}:(nO Φ G env (.cons a .nil) s).post P↔(evE Φ G env a s).post P:=Iff.rfl
theorem W8{a b:Ex}{es:Exs}{P:Val→Sto→Prop}:(nO Φ G env (.cons a (.cons b es)) s).post P↔(evE Φ G env a s).post fun x s1=>∃t,truth s1 x=some t∧if t=true then P x s1 else (nO Φ G env (.cons b es) s1).post P:=by
 show ((evE Φ G env a s).bind fun x s1=>match truth s1 x with
  |some false=>nO Φ G env (.cons b es) s1
  |some true=>.ok x s1
  |Option.none=>.stuck).post P↔_
 simp only[zH]
 refine z7 fun x s1=>?_
 cases truth s1 x with
 |some t=>cases t<;>simp[zC,zj]
 |none=>simp[zj]
theorem W2{c:Cn}{a b:Ex}{P:Val→Sto→Prop}:(evE Φ G env (.ife c a b) s).post P↔(evT Φ G env c s).post fun t s1=>if t=true then (evE Φ G env a s1).post P else (evE Φ G env b s1).post P:=by
 show (Out.bind _ _).post P↔_
 simp only[zH,xP]
theorem VA{es:Exs}{P:Val→Sto→Prop}:(evE Φ G env (.tup es) s).post P↔(y2 Φ G env es s).post fun vs s1=>(if vs.length≤zV then Out.ok (Val.tup vs) s1 else .stuck).post P:=by
 show (Out.bind _ _).post P↔_
 simp only[zH]
theorem W4{m:Bool}{es:Exs}{P:Val→Sto→Prop}:(evE Φ G env (.lst m es) s).post P↔(y2 Φ G env es s).post fun vs s1=>(if vs.length≤zV then newList m vs s1 else .stuck).post P:=by
 show (Out.bind _ _).post P↔_
 simp only[zH]
theorem Yy{f:Str}{v:Nat}{es:Exs}{P:Val→Sto→Prop}:(evE Φ G env (.call f v es) s).post P↔(y2 Φ G env es s).post fun vs s1=>(Φ f v vs s1).post P:=by
 show (Out.bind _ _).post P↔_
 simp only[zH]
theorem ZG{f:Bf}{m:Bool}{es:Exs}{P:Val→Sto→Prop}:(evE Φ G env (.blt f m es) s).post P↔(y2 Φ G env es s).post fun vs s1=>(blt f m vs s1).post P:=by
 show (Out.bind _ _).post P↔_
 simp only[zH]
theorem Y2{f:Mf}{m:Bool}{o:Ex}{es:Exs}{P:Val→Sto→Prop}:(evE Φ G env (.tS f m o es) s).post P↔(evE Φ G env o s).post fun x s1=>(y2 Φ G env es s1).post fun vs s2=>(tS f x vs s2).post P:=by
 show (Out.bind _ _).post P↔_
 simp only[zH]
theorem eD{m:Bool}{a b c:Ex}{P:Val→Sto→Prop}:(evE Φ G env (.listRange m a b c) s).post P↔(evE Φ G env a s).post fun x s1=>(evE Φ G env b s1).post fun y s2=>(evE Φ G env c s2).post fun z s3=>(Wl m x y z s3).post P:=by
 show (Out.bind _ _).post P↔_
 simp only[zH]
theorem W3{a b:Ex}{P:Val→Sto→Prop}:(evE Φ G env (.ix a b) s).post P↔(evE Φ G env a s).post fun x s1=>(evE Φ G env b s1).post fun y s2=>(vE x y s2).post P:=by
 show (Out.bind _ _).post P↔_
 simp only[zH]
theorem V8{m:Bool}{a:Ex}{lo hi st:OEx}{P:Val→Sto→Prop}:(evE Φ G env (.sl m a lo hi st) s).post P↔(evE Φ G env a s).post fun x s1=>(evO Φ G env lo s1).post fun l s2=>(evO Φ G env hi s2).post fun h s3=>(evO Φ G env st s3).post fun c s4=>(qe m x l h c s4).post P:=by
 show (Out.bind _ _).post P↔_
 simp only[zH]
theorem Y3{P:Option Int→Sto→Prop}:(evO Φ G env .no s).post P↔P none s:=zC
theorem Y4{e:Ex}{P:Option Int→Sto→Prop}:(evO Φ G env (.yes e) s).post P↔(evE Φ G env e s).post fun v s1=>∃i,v=.int i∧P (some i) s1:=by
 show (Out.bind _ _).post P↔_
 simp only[zH]
 exact z7 fun x s1=>by cases x<;>simp[zC,zj]
theorem n5{P:List Val→Sto→Prop}:(y2 Φ G env .nil s).post P↔P [] s:=zC
theorem vd{e:Ex}{es:Exs}{P:List Val→Sto→Prop}:(y2 Φ G env (.cons e es) s).post P↔(evE Φ G env e s).post fun v s1=>(y2 Φ G env es s1).post fun vs s2=>P (v::vs) s2:=by
 show (Out.bind _ _).post P↔_
 simp only[zH,zC]
theorem eF{e:Ex}{P:Bool→Sto→Prop}:(evT Φ G env (.val e) s).post P↔(evE Φ G env e s).post fun v s1=>∃b,truth s1 v=some b∧P b s1:=by
 show (Out.bind (evE Φ G env e s) _).post P↔_
 simp only[zH]
 refine⟨fun h=>zP h fun v s1 h=>?_,fun h=>zP h fun v s1 h=>?_⟩
 . split at h
   . rename_i b e;exact⟨b,e,zC.mp h⟩
   . obtain⟨_,_,e,_⟩:=h;cases e
 . obtain⟨b,e,h⟩:=h
   rw[e];exact zC.mpr h
theorem Y8{c:Cn}{P:Bool→Sto→Prop}:(evT Φ G env (.not c) s).post P↔(evT Φ G env c s).post fun b s1=>P (!b) s1:=by
 show (Out.bind _ _).post P↔_
 simp only[zH,zC]
theorem Y7{c:Cn}{cs:Cns}{P:Bool→Sto→Prop}:(evT Φ G env (.and c cs) s).post P↔(evT Φ G env c s).post fun b s1=>if b=true then (yh Φ G env cs s1).post P else P false s1:=by
 show (Out.bind _ _).post P↔_
 simp only[zH,xP,zC]
theorem W9{c:Cn}{cs:Cns}{P:Bool→Sto→Prop}:(evT Φ G env (.or c cs) s).post P↔(evT Φ G env c s).post fun b s1=>if b=true then P true s1 else (rJ Φ G env cs s1).post P:=by
 show (Out.bind _ _).post P↔_
 simp only[zH,xP,zC]
theorem xj{P:Bool→Sto→Prop}:(yh Φ G env .nil s).post P↔P true s:=zC
theorem br{P:Bool→Sto→Prop}:(rJ Φ G env .nil s).post P↔P false s:=zC
theorem mB{c:Cn}{cs:Cns}{P:Bool→Sto→Prop}:(yh Φ G env (.cons c cs) s).post P↔(evT Φ G env c s).post fun b s1=>if b=true then (yh Φ G env cs s1).post P else P false s1:=by
 show (Out.bind _ _).post P↔_
 simp only[zH,xP,zC]
theorem eE{c:Cn}{cs:Cns}{P:Bool→Sto→Prop}:(rJ Φ G env (.cons c cs) s).post P↔(evT Φ G env c s).post fun b s1=>if b=true then P true s1 else (rJ Φ G env cs s1).post P:=by
 show (Out.bind _ _).post P↔_
 simp only[zH,xP,zC]
theorem eC{e:Ex}{P:Src→Sto→Prop}:(yo Φ G env (.val e) s).post P↔(evE Φ G env e s).post fun v s1=>∃r,srcOf s1 v=some r∧P r s1:=by
 show (Out.bind _ _).post P↔_
 simp only[zH]
 refine⟨fun h=>zP h fun v s1 h=>?_,fun h=>zP h fun v s1 h=>?_⟩
 . split at h
   . rename_i b e;exact⟨b,e,zC.mp h⟩
   . obtain⟨_,_,e,_⟩:=h;cases e
 . obtain⟨b,e,h⟩:=h
   rw[e];exact zC.mpr h
theorem n6{a:Ex}{P:Src→Sto→Prop}:(yo Φ G env (.range1 a) s).post P↔(evE Φ G env a s).post fun x s1=>∃j,x=.int j∧(-(2 ^ 62)≤j∧j≤zV)∧P ⟨yX 0 j.toNat,Option.none⟩ s1:=by
 show (Out.bind _ _).post P↔_
 simp only[zH]
 refine⟨fun h=>zP h fun v s1 h=>?_,fun h=>zP h fun v s1 h=>?_⟩
 . split at h
   . rw[xP]at h
     split at h
     . rename_i j z;exact⟨_,rfl,z,zC.mp h⟩
     . obtain⟨_,_,e,_⟩:=h;cases e
   . obtain⟨_,_,e,_⟩:=h;cases e
 . obtain⟨j,rfl,z,h⟩:=h
   simp only[if_pos z]
   exact zC.mpr h
theorem n9{a b:Ex}{P:Src→Sto→Prop}:(yo Φ G env (.range2 a b) s).post P↔(evE Φ G env a s).post fun x s1=>(evE Φ G env b s1).post fun y s2=>∃i j,x=.int i∧y=.int j∧(-(2 ^ 62)≤i∧i<2 ^ 62∧-(2 ^ 62)≤j∧j<2 ^ 62∧j-i≤zV)∧P ⟨yX i (j-i).toNat,Option.none⟩ s2:=by
 show (Out.bind _ _).post P↔_
 simp only[zH]
 refine⟨fun h=>zP h fun v s1 h=>zP h fun w s2 h=>?_,fun h=>zP h fun v s1 h=>zP h fun w s2 h=>?_⟩
 . split at h
   . rw[xP]at h
     split at h
     . rename_i z;exact⟨_,_,rfl,rfl,z,zC.mp h⟩
     . obtain⟨_,_,e,_⟩:=h;cases e
   . obtain⟨_,_,e,_⟩:=h;cases e
 . obtain⟨i,j,rfl,rfl,z,h⟩:=h
   simp only[if_pos z]
   exact zC.mpr h
theorem Y0{a:Ex}{P:Src→Sto→Prop}:(yo Φ G env (.enum a) s).post P↔(evE Φ G env a s).post fun x s1=>∃vs,(x=.tup vs∨x=.lst vs)∧P ⟨ku 0 vs,Option.none⟩ s1:=by
 show (Out.bind _ _).post P↔_
 simp only[zH]
 refine⟨fun h=>zP h fun v s1 h=>?_,fun h=>zP h fun v s1 h=>?_⟩
 . split at h
   . exact⟨_,.inl rfl,zC.mp h⟩
   . exact⟨_,.inr rfl,zC.mp h⟩
   . obtain⟨_,_,e,_⟩:=h;cases e
 . obtain⟨j,rfl|rfl,h⟩:=h<;>exact zC.mpr h
theorem eB{e:Ex}{P:Fl→Sto→Prop}:(exS Φ G env (.expr e) s).post P↔(evE Φ G env e s).post fun _ s1=>P (.nx env) s1:=by
 show (Out.bind _ _).post P↔_
 simp only[zH,zC]
theorem jX{e:Ex}{P:Fl→Sto→Prop}:(exS Φ G env (.ret e) s).post P↔(evE Φ G env e s).post fun v s1=>P (.rt v) s1:=by
 show (Out.bind _ _).post P↔_
 simp only[zH,zC]
theorem Y6{P:Fl→Sto→Prop}:(exS Φ G env .retN s).post P↔P (.rt .none) s:=zC
theorem f7{i:Nat}{e:Ex}{P:Fl→Sto→Prop}:(exS Φ G env (.asg i e) s).post P↔(evE Φ G env e s).post fun v s1=>P (.nx (env.set i (some v))) s1:=by
 show (Out.bind _ _).post P↔_
 simp only[zH,zC]
theorem Yx{is:List Nat}{e:Ex}{P:Fl→Sto→Prop}:(exS Φ G env (.asgT is e) s).post P↔(evE Φ G env e s).post fun v s1=>∃env',yq (.nms is) v env=some env'∧P (.nx env') s1:=by
 show (Out.bind _ _).post P↔_
 simp only[zH]
 refine⟨fun h=>zP h fun v s1 h=>?_,fun h=>zP h fun v s1 h=>?_⟩
 . split at h
   . rename_i b e;exact⟨b,e,zC.mp h⟩
   . obtain⟨_,_,e,_⟩:=h;cases e
 . obtain⟨b,e,h⟩:=h
   rw[e];exact zC.mpr h
theorem jW{is:List Nat}{es:Exs}{P:Fl→Sto→Prop}:(exS Φ G env (.par is es) s).post P↔(y2 Φ G env es s).post fun vs s1=>(if vs.length=is.length then Out.ok (Fl.nx ((is.zip vs).foldl (fun e p=>e.set p.1 (some p.2)) env)) s1 else .stuck).post P:=by
 show (Out.bind _ _).post P↔_
 simp only[zH]
theorem bq{o i e:Ex}{P:Fl→Sto→Prop}:(exS Φ G env (.setIx o i e) s).post P↔(evE Φ G env e s).post fun v s1=>(evE Φ G env o s1).post fun x s2=>(evE Φ G env i s2).post fun y s3=>∃r k vs j,x=.ref r∧y=.int k∧s3[r]?=some (.lst vs)∧L2.ixN vs.length k=some j∧P (.nx env) (upd s3 r (vs.set j v)):=by
 show (Out.bind _ _).post P↔_
 simp only[zH]
 refine z7 fun v s1=>z7 fun x s2=>z7 fun y s3=>⟨fun h=>?_,fun⟨r,k,vs,j,h1,h2,h3,h4,h5⟩=>?_⟩
 . split at h
   . split at h
     . rename_i e3
       split at h
       . rename_i e4;exact⟨_,_,_,_,rfl,rfl,e3,e4,zC.mp h⟩
       . exact(zj.mp h).elim
     . exact(zj.mp h).elim
   . exact(zj.mp h).elim
 . subst h1;subst h2
   simp only[h3,h4]
   exact zC.mpr h5
theorem Y1{c:Cn}{a b:Sms}{P:Fl→Sto→Prop}:(exS Φ G env (.ifS c a b) s).post P↔(evT Φ G env c s).post fun t s1=>if t=true then (zW Φ G env a s1).post P else (zW Φ G env b s1).post P:=by
 show (Out.bind _ _).post P↔_
 simp only[zH,xP]
theorem Y5{P:Fl→Sto→Prop}:(exS Φ G env .pass s).post P↔P (.nx env) s:=zC
theorem Wy{P:Fl→Sto→Prop}:(exS Φ G env .brk s).post P↔P (.bk env) s:=zC
theorem Yz{P:Fl→Sto→Prop}:(exS Φ G env .cont s).post P↔P (.ct env) s:=zC
theorem lY{P:Fl→Sto→Prop}:(zW Φ G env .nil s).post P↔P (.nx env) s:=zC
noncomputable def qJ(Φ:Calls)(G:Str→Option Val)(cs:Sms)(P:Fl→Sto→Prop):Fl→Sto→Prop
 |.nx e,s1=>(zW Φ G e cs s1).post P
 |fl,s1=>P fl s1
theorem yA{c:Sm}{cs:Sms}{P:Fl→Sto→Prop}:(zW Φ G env (.cons c cs) s).post P↔(exS Φ G env c s).post (qJ Φ G cs P):=by
 show (Out.bind _ _).post P↔_
 simp only[zH]
 have:∀fl s1,(match fl with|.nx e=>zW Φ G e cs s1|fl=>Out.ok fl s1:Out Fl).post P↔qJ Φ G cs P fl s1:=fun fl s1=>by
  cases fl with
  |nx e=>exact Iff.rfl
  |_=>exact zC
 exact⟨fun h=>zP h fun fl s1 h=>(this fl s1).mp h,fun h=>zP h fun fl s1 h=>(this fl s1).mpr h⟩
theorem jn{cs:Sms}{P:Fl→Sto→Prop}{e:Env}:qJ Φ G cs P (.nx e) s↔(zW Φ G e cs s).post P:=Iff.rfl
theorem af{cs:Sms}{P:Fl→Sto→Prop}{v:Val}:qJ Φ G cs P (.rt v) s↔P (.rt v) s:=Iff.rfl
theorem ab{cs:Sms}{P:Fl→Sto→Prop}{v:Env}:qJ Φ G cs P (.bk v) s↔P (.bk v) s:=Iff.rfl
theorem ae{cs:Sms}{P:Fl→Sto→Prop}{v:Env}:qJ Φ G cs P (.ct v) s↔P (.ct v) s:=Iff.rfl
theorem vH{I:Env→Prop}{g:Val→List Val}{r:Src}{t:Tgt}{body:Env→Sto→List Val→Out (List Val × Env)}(hr:r.ok s=true):∀(xs:List Val),(∀x∈xs,∀e acc,I e→∃e1 e2,yq t x e=some e1∧body e1 s acc=.ok (acc++g x,e2) s∧I e2)→∀e acc,I e→∃e',I e'∧yi r t body xs e s acc=.ok (acc++xs.flatMap g,e') s
 |[],_,e,acc,h0=>⟨e,h0,by simp[yi,hr]⟩
 |x::xs,h,e,acc,h0=>by
  obtain⟨e1,e2,h1,h2,h3⟩:=h x (.head _) e acc h0
  obtain⟨e',h4,h5⟩:=vH hr xs (fun y hy=>h y (.tail _ hy)) e2 (acc++g x) h3
  refine⟨e',h4,?_⟩
  simp only[yi,hr,if_true,h1,h2,zN,h5,List.flatMap_cons,List.append_assoc]
theorem eA{m:Bool}{N:List Str}{fr:List (Option Nat)}{elt:Ex}{t:Tgt}{it:Itb}{ifs:Cns}{P:Val→Sto→Prop}(I:Env→Prop)(g:Val→List Val)
 (h:(yo Φ G env it s).post fun r s1=>r.ok s1=true∧I (zk fr env)∧(∀x∈r.xs,∀e,I e→∃e1,yq t x e=some e1∧I e1∧(yh Φ G e1 ifs s1).post fun b s2=>s2=s1∧if b=true then (evE Φ G e1 elt s1).post (fun v s2=>s2=s1∧g x=[v]) else g x=[])∧(newList m (r.xs.flatMap g) s1).post P) :
 (evE Φ G env (.comp m N fr elt t it ifs) s).post P:=by
 obtain⟨r,s1,ei,h1,h2,h3,h4⟩:=h
 obtain⟨e',_,h5⟩:=vH (I:=I) (g:=g) (body:=fun e s' acc=>(yh Φ G e ifs s').bind fun b s2=>if b then (evE Φ G e elt s2).bind fun v s3=>.ok (acc++[v],e) s3 else .ok (acc,e) s2) h1 r.xs (fun x hx e acc he=>by
  obtain⟨e1,k1,k2,b,s2,k3,rfl,k4⟩:=h3 x hx e he
  refine⟨e1,e1,k1,?_,k2⟩
  rw[k3,zN]
  cases b with
  |true=>
   rw[if_pos rfl]at k4 ⊢
   obtain⟨v,s3,kw,rfl,kv⟩:=k4
   rw[kw,zN,kv]
  |false=>
   rw[if_neg Bool.false_ne_true]at k4 ⊢
   rw[k4,List.append_nil]) (zk fr env) [] h2
 show (Out.bind (yo Φ G env it s) _).post P
 rw[ei,zN]
 rw[h5,zN]
 exact h4
def Small(l:List Val):Prop:=l.length≤zV
theorem bj{m:Bool}{N:List Str}{fr:List (Option Nat)}{elt:Ex}{t t2:Tgt}{it it2:Itb}{ifs ifs2:Cns}{P:Val→Sto→Prop}(I:Env→Prop)(g:Val→List Val)(J:Val→Env→Prop)(g2:Val→Val→List Val)
 (h:(yo Φ G env it s).post fun r s1=>r.ok s1=true∧I (zk fr env)∧(∀x∈r.xs,∀e,I e→∃e1,yq t x e=some e1∧(yh Φ G e1 ifs s1).post fun b s2=>s2=s1∧if b=true then (yo Φ G e1 it2 s1).post (fun r2 s2=>s2=s1∧r2.ok s1=true∧J x e1∧(∀e,J x e→I e)∧g x=r2.xs.flatMap (g2 x)∧∀y∈r2.xs,∀e,J x e→∃e2,yq t2 y e=some e2∧J x e2∧(yh Φ G e2 ifs2 s1).post fun b s2=>s2=s1∧if b=true then (evE Φ G e2 elt s1).post (fun v s2=>s2=s1∧g2 x y=[v]) else g2 x y=[]) else g x=[]∧I e1)∧Small (r.xs.flatMap g)∧(newList m (r.xs.flatMap g) s1).post P) :
 (evE Φ G env (.comp2 m N fr elt t it ifs t2 it2 ifs2) s).post P:=by
 obtain⟨r,s1,ei,h1,h2,h3,hl,h4⟩:=h
 obtain⟨e',_,h5⟩:=vH (I:=I) (g:=g) (body:=fun e s' acc=>(yh Φ G e ifs s').bind fun b s2=>if b then (yo Φ G e it2 s2).bind fun r2 s3=>
        yi r2 t2 (fun e' s4 acc'=>(yh Φ G e' ifs2 s4).bind fun b' s5=>if b' then (evE Φ G e' elt s5).bind fun v s6=>.ok (acc'++[v],e') s6 else .ok (acc',e') s5) r2.xs e s3 acc
  else .ok (acc,e) s2) h1 r.xs (fun x hx e acc he=>by
  obtain⟨e1,k1,b,s2,k3,rfl,k4⟩:=h3 x hx e he
  cases b with
  |true=>
   rw[if_pos rfl]at k4
   obtain⟨r2,s3,k5,rfl,k6,k7,k8,k9,k10⟩:=k4
   obtain⟨e2,k11,k12⟩:=vH (I:=J x) (g:=g2 x) (body:=fun e' s4 acc'=>(yh Φ G e' ifs2 s4).bind fun b' s5=>if b' then (evE Φ G e' elt s5).bind fun v s6=>.ok (acc'++[v],e') s6 else .ok (acc',e') s5) k6 r2.xs (fun y hy e acc he=>by
    obtain⟨e1,k1,k2,b,s2,k3,rfl,k4⟩:=k10 y hy e he
    refine⟨e1,e1,k1,?_,k2⟩
    rw[k3,zN]
    cases b with
    |true=>
     rw[if_pos rfl]at k4 ⊢
     obtain⟨v,s3,kw,rfl,kv⟩:=k4
     rw[kw,zN,kv]
    |false=>
     rw[if_neg Bool.false_ne_true]at k4 ⊢
     rw[k4,List.append_nil]) e1 acc k7
   refine⟨e1,e2,k1,?_,k8 _ k11⟩
   rw[k3,zN,if_pos rfl,k5,zN,k12,k9]
  |false=>
   rw[if_neg Bool.false_ne_true]at k4
   refine⟨e1,e1,k1,?_,k4.2⟩
   rw[k3,zN,if_neg Bool.false_ne_true,k4.1,List.append_nil]) (zk fr env) [] h2
 show (Out.bind (yo Φ G env it s) _).post P
 rw[ei,zN]
 rw[h5,zN]
 simp only[List.nil_append]
 rw[if_pos (show (r.xs.flatMap g).length≤zV from hl)]
 exact h4
theorem pM(Q:List Val→Env→Sto→List Val→Prop){r:Src}{t:Tgt}{body:Env→Sto→List Val→Out (List Val × Env)}:∀(xs:List Val),(∀e s acc,Q [] e s acc→r.ok s=true)→(∀x rest e s acc,Q (x::rest) e s acc→r.ok s=true∧∃e1,yq t x e=some e1∧(body e1 s acc).post fun p s2=>Q rest p.2 s2 p.1)→∀e s acc,Q xs e s acc→(yi r t body xs e s acc).post fun p s2=>Q [] p.2 s2 p.1
 |[],h0,_,e,s,acc,q=>by
  simp only[yi,h0 e s acc q,if_true]
  exact zC.mpr q
 |x::xs,h0,h,e,s,acc,q=>by
  obtain⟨h1,e1,h2,h3⟩:=h x xs e s acc q
  simp only[yi,h1,if_true,h2,zH]
  exact zP h3 fun p s2 q=>pM Q xs h0 h p.2 s2 p.1 q
theorem bp{m:Bool}{N:List Str}{fr:List (Option Nat)}{elt:Ex}{t:Tgt}{it:Itb}{ifs:Cns}{P:Val→Sto→Prop}(Q:List Val→Env→Sto→List Val→Prop)
 (h:(yo Φ G env it s).post fun r s1=>Q r.xs (zk fr env) s1 []∧(∀rest e s acc,Q rest e s acc→r.ok s=true)∧(∀x rest e s acc,Q (x::rest) e s acc→∃e1,yq t x e=some e1∧(yh Φ G e1 ifs s).post fun b s2=>if b=true then (evE Φ G e1 elt s2).post (fun v s3=>Q rest e1 s3 (acc++[v])) else Q rest e1 s2 acc)∧∀e s acc,Q [] e s acc→(newList m acc s).post P) :
 (evE Φ G env (.comp m N fr elt t it ifs) s).post P:=by
 obtain⟨r,s1,ei,h1,h2,h3,h4⟩:=h
 show (Out.bind (yo Φ G env it s) _).post P
 rw[ei,zN,zH]
 refine zP (pM Q r.xs (fun e s acc q=>h2 _ e s acc q) (fun x rest e s acc q=>⟨h2 _ e s acc q,?_⟩) _ _ _ h1) fun p s2 q=>h4 _ _ _ q
 obtain⟨e1,k1,k2⟩:=h3 x rest e s acc q
 refine⟨e1,k1,?_⟩
 simp only[zH]
 refine zP k2 fun b s2 k=>?_
 cases b with
 |true=>
  rw[if_pos rfl]at k ⊢
  simp only[zH,zC]
  exact k
 |false=>
  rw[if_neg Bool.false_ne_true]at k ⊢
  exact zC.mpr k
theorem tR(Q:List Val→Env→Sto→Prop)(R:Fl→Sto→Prop){r:Src}{t:Tgt}{body:Env→Sto→Out Fl}(h0:∀e s,Q [] e s→R (.nx e) s):∀(xs:List Val),(∀rest e s,Q rest e s→r.ok s=true)→(∀x rest e s,Q (x::rest) e s→∃e1,yq t x e=some e1∧(body e1 s).post fun fl s2=>match fl with|.nx e=>Q rest e s2|.ct e=>Q rest e s2|.bk e=>R (.nx e) s2|.rt v=>R (.rt v) s2)→∀e s,Q xs e s→(vM r t body xs e s).post R
 |[],hk,_,e,s,q=>by
  simp only[vM,hk _ _ _ q,if_true]
  exact zC.mpr (h0 _ _ q)
 |x::xs,hk,h,e,s,q=>by
  obtain⟨e1,h2,h3⟩:=h x xs e s q
  simp only[vM,hk _ _ _ q,if_true,h2,zH]
  refine zP h3 fun fl s2 q=>?_
  cases fl with
  |nx e=>exact tR Q R h0 xs hk h e s2 q
  |ct e=>exact tR Q R h0 xs hk h e s2 q
  |bk e=>exact zC.mpr q
  |rt v=>exact zC.mpr q
noncomputable def ph(Q:Env→Sto→Prop)(R:Fl→Sto→Prop):Fl→Sto→Prop
 |.nx e,s=>Q e s
 |.ct e,s=>Q e s
 |.bk e,s=>R (.nx e) s
 |.rt v,s=>R (.rt v) s
theorem aX{Q:Env→Sto→Prop}{R:Fl→Sto→Prop}{e:Env}:ph Q R (.nx e) s↔Q e s:=Iff.rfl
theorem aW{Q:Env→Sto→Prop}{R:Fl→Sto→Prop}{e:Env}:ph Q R (.ct e) s↔Q e s:=Iff.rfl
theorem aV{Q:Env→Sto→Prop}{R:Fl→Sto→Prop}{e:Env}:ph Q R (.bk e) s↔R (.nx e) s:=Iff.rfl
theorem aY{Q:Env→Sto→Prop}{R:Fl→Sto→Prop}{v:Val}:ph Q R (.rt v) s↔R (.rt v) s:=Iff.rfl
theorem Wz{t:Tgt}{it:Itb}{b:Sms}{R:Fl→Sto→Prop}(Q:List Val→Env→Sto→Prop)
 (h:(yo Φ G env it s).post fun r s1=>Q r.xs env s1∧(∀rest e s,Q rest e s→r.ok s=true)∧(∀x rest e s,Q (x::rest) e s→∃e1,yq t x e=some e1∧(zW Φ G e1 b s).post (ph (Q rest) R))∧∀e s,Q [] e s→R (.nx e) s) :
 (exS Φ G env (.forS t it b) s).post R:=by
 obtain⟨r,s1,ei,h1,h2,h3,h4⟩:=h
 show (Out.bind (yo Φ G env it s) _).post R
 rw[ei,zN]
 refine tR Q R h4 r.xs h2 (fun x rest e s q=>?_) _ _ h1
 obtain⟨e1,k1,k2⟩:=h3 x rest e s q
 refine⟨e1,k1,zP k2 fun fl s2 k=>?_⟩
 cases fl<;>exact k
theorem uM{t:Tgt}{it:Itb}{b:Sms}{R:Fl→Sto→Prop}(Q:List Val→Env→Sto→Prop)(xs:List Val){s1:Sto}(hi:yo Φ G env it s=.ok ⟨xs,Option.none⟩ s1)(h0:Q xs env s1)
 (h1:∀x rest e s,Q (x::rest) e s→∃e1,yq t x e=some e1∧(zW Φ G e1 b s).post (ph (Q rest) R)) (h2:∀e s,Q [] e s→R (.nx e) s) :
 (exS Φ G env (.forS t it b) s).post R:=Wz Q ⟨_,_,hi,h0,fun _ _ _ _=>rfl,h1,h2⟩
theorem y7{m:Bool}{N:List Str}{fr:List (Option Nat)}{elt:Ex}{t:Tgt}{it:Itb}{ifs:Cns}{P:Val→Sto→Prop}(I:Env→Prop)(g:Val→List Val)(xs:List Val){s1:Sto}(hi:yo Φ G env it s=.ok ⟨xs,Option.none⟩ s1)(h0:I (zk fr env))
 (h1:∀x∈xs,∀e,I e→∃e1,yq t x e=some e1∧I e1∧(yh Φ G e1 ifs s1).post fun b s2=>s2=s1∧if b=true then (evE Φ G e1 elt s1).post (fun v s2=>s2=s1∧g x=[v]) else g x=[]) (h2:(newList m (xs.flatMap g) s1).post P) :
 (evE Φ G env (.comp m N fr elt t it ifs) s).post P:=eA I g ⟨_,_,hi,rfl,h0,h1,h2⟩
end
theorem ag{s:Sto}:truth s .none=some false:=rfl
theorem zZ{s:Sto}{b:Bool}:truth s (.bool b)=some b:=rfl
theorem Xo{s:Sto}{i:Int}:truth s (.int i)=some (i != 0):=rfl
theorem Xq{s:Sto}{vs:List Val}:truth s (.tup vs)=some !vs.isEmpty:=rfl
theorem Xp{s:Sto}{vs:List Val}:truth s (.lst vs)=some !vs.isEmpty:=rfl
theorem Xd{s:Sto}{vs:List Val}:srcOf s (.tup vs)=some ⟨vs,Option.none⟩:=rfl
theorem Xc{s:Sto}{vs:List Val}:srcOf s (.lst vs)=some ⟨vs,Option.none⟩:=rfl
theorem aU{s:Sto}{ns:List Int}:srcOf s (.ctup ns)=some ⟨ns.map .int,Option.none⟩:=rfl
theorem dY{s:Sto}{xs:List Val}:Src.ok ⟨xs,Option.none⟩ s=true:=rfl
theorem WD{i:Nat}{v:Val}{env:Env}:yq (.nm i) v env=some (env.set i (some v)):=rfl
theorem Zg{is:List Nat}{vs:List Val}{env:Env}:yq (.nms is) (.tup vs) env=if vs.length=is.length then some ((is.zip vs).foldl (fun e p=>e.set p.1 (some p.2)) env) else Option.none:=rfl
theorem gP(vs:List Val):tL vs vs=true:=vn vs
theorem nE(c:Cel):c.beq c=true:=by cases c<;>simp[Cel.beq,gP]
theorem tU:∀(s t:Sto),wB s (s++t)=true
 |[],_=>rfl
 |c::r,t=>by simp[wB,nE c,tU r t]
theorem lQ(s:Sto):wB s s=true:=by have:=tU s [];rwa [List.append_nil]at this
theorem rq:∀(s t:Sto) (i:Nat) (c:Cel),c.noRef=true→wB s (s.set i c++t)=true
 |[],_,_,_,_=>by simp[wB]
 |_::r,t,0,c,h=>by simp[wB,h,tU r t]
 |o::r,t,i+1,c,h=>by simp[wB,nE o,rq r t i c h]
theorem iW(s t:Sto)(i:Nat)(vs:List Val)(h:zx vs=true):wB s (s.set i (.lst vs)++t)=true:=rq s t i _ h
theorem bU:Val.none.noRef=true:=by rw[Val.noRef]
theorem xO{b:Bool}:(Val.bool b).noRef=true:=by rw[Val.noRef]
theorem vZ{b:Int}:(Val.int b).noRef=true:=by rw[Val.noRef]
theorem Yi{b:Str}:(Val.str b).noRef=true:=by rw[Val.noRef]
theorem lP{vs:List Val}:(Val.tup vs).noRef=zx vs:=by rw[Val.noRef]
theorem oU{vs:List Val}:(Val.lst vs).noRef=zx vs:=by rw[Val.noRef]
theorem sW:zx []=true:=by rw[zx]
theorem w4{v:Val}{vs:List Val}:zx (v::vs)=(v.noRef&&zx vs):=by rw[zx]
theorem xn:∀ns:List Int,zx (ns.map .int)=true
 |[]=>rfl
 |_::ns=>by simp[zx,Val.noRef,xn ns]
theorem rl:∀zs:List (Int × Int),zx (zs.map prV)=true
 |[]=>rfl
 |_::zs=>by simp[zx,Val.noRef,prV,rl zs]
noncomputable def yI(k:Bool)(s0:Sto)(v:Val)(s:Sto):Out Val:=
 if k then .ok v s
 else if wB s0 s then (match freeze s0.length s v with|some v'=>.ok v' (s.take s0.length)|Option.none=>.stuck) else .stuck
theorem nV{s0 s:Sto}{v:Val}:yI true s0 v s=.ok v s:=rfl
theorem vF{k:Bool}{s:Sto}{v:Val}(h:v.noRef=true):yI k s v s=.ok v s:=by
 unfold yI
 cases k
 . simp[lQ,freeze,h]
 . rfl
theorem lJ{s t:Sto}{v:Val}{i:Nat}{vs:List Val}(h:v.noRef=true)(hv:zx vs=true):yI false s v (s.set i (.lst vs)++t)=.ok v (s.set i (.lst vs)):=by
 unfold yI
 have e:s.length=(s.set i (.lst vs)).length:=by rw[List.length_set]
 simp only[iW s t i vs hv,freeze,h,if_true,Bool.false_eq_true,if_false,e,List.take_left']
theorem iP{s:Sto}{v:Val}{i:Nat}{vs:List Val}(h:v.noRef=true)(hv:zx vs=true):yI false s v (s.set i (.lst vs))=.ok v (s.set i (.lst vs)):=by
 have:=lJ (s:=s) (t:=[]) (i:=i) h hv
 rwa [List.append_nil]at this
noncomputable def fin(k:Bool)(s:Sto)(P:Val→Sto→Prop):Fl→Sto→Prop
 |.nx _,s1=>(yI k s .none s1).post P
 |.rt v,s1=>(yI k s v s1).post P
 |_,_=>False
theorem Zn{k:Bool}{s s1:Sto}{P:Val→Sto→Prop}{e:Env}:fin k s P (.nx e) s1↔(yI k s .none s1).post P:=Iff.rfl
theorem Zo{k:Bool}{s s1:Sto}{P:Val→Sto→Prop}{v:Val}:fin k s P (.rt v) s1↔(yI k s v s1).post P:=Iff.rfl
theorem yb{T:Tbl}{Φ:Calls}{N ps:List Str}{k:Bool}{b:Sms}{vs:List Val}{s:Sto}{P:Val→Sto→Prop}:(run T Φ ⟨N,ps,k,b⟩ vs s).post P↔vs.length=ps.length∧(zW Φ T.gl (yY N vs) b s).post (fin k s P):=by
 unfold run
 by_cases hl:vs.length=ps.length
 . rw[if_pos hl,zH]
   refine⟨fun h=>⟨hl,zP h fun fl s1 h=>?_⟩,fun h=>zP h.2 fun fl s1 h=>?_⟩
   . cases fl<;>first|exact h|exact(zj.mp h).elim
   . cases fl<;>first|exact h|exact h.elim
 . rw[if_neg hl]
   exact⟨fun h=>(zj.mp h).elim,fun h=>absurd h.1 hl⟩
theorem zR{T:Tbl}{n:Nat}{f:Str}{v:Nat}{F:Fn}(h:T.fn f v=some F)(vs:List Val)(s:Sto):zF T (n+1) f v vs s=run T (zF T n) F vs s:=by
 show (match T.fn f v with|some F=>run T (zF T n) F vs s|Option.none=>.stuck)=_
 rw[h]
def At(T:Tbl)(k:Nat)(C:Calls→Prop):Prop:=∀n,k≤n→C (zF T n)
noncomputable def EVl:=And.intro @jV <| And.intro @ZI <| And.intro @W0 <| And.intro @V9 <| And.intro @f9 <| And.intro @W5 <| And.intro @W6 <| And.intro @ZH <| And.intro @bh <| And.intro @Wx <| And.intro @Yv <| And.intro @Yw <| And.intro @V7 <| And.intro @W7 <| And.intro @W8 <| And.intro @W2 <| And.intro @VA <| And.intro @W4 <| And.intro @Yy <| And.intro @ZG <| And.intro @Y2 <| And.intro @eD <| And.intro @W3 <| And.intro @V8 <| And.intro @Y3 <| And.intro @Y4 <| And.intro @n5 <| And.intro @vd <| And.intro @eF <| And.intro @Y8 <| And.intro @Y7 <| And.intro @W9 <| And.intro @xj <| And.intro @br <| And.intro @mB <| And.intro @eE <| And.intro @eC <| And.intro @n6 <| And.intro @n9 <| And.intro @Y0 <| And.intro @eB <| And.intro @jX <| And.intro @Y6 <| And.intro @f7 <| And.intro @Yx <| And.intro @jW <| And.intro @bq <| And.intro @Y1 <| And.intro @Y5 <| And.intro @Wy <| And.intro @Yz <| And.intro @lY <| And.intro @yA <| And.intro @jn <| And.intro @af <| And.intro @ab <| And.intro @ae <| And.intro @aX <| And.intro @aW <| And.intro @aV <| And.intro @aY <| And.intro @zC <| And.intro @xP <| And.intro @zj <| And.intro @ag <| And.intro @zZ <| And.intro @Xo <| And.intro @Xq <| And.intro @Xp <| And.intro @Xd <| And.intro @Xc <| And.intro @aU <| And.intro @dY <| And.intro @WD <| And.intro @Zg <| And.intro @yb <| And.intro @Zn <| And.intro @Zo <| And.intro @nV <| And.intro @vF <| And.intro @bU <| And.intro @xO <| And.intro @vZ <| And.intro @Yi <| And.intro @lP <| And.intro @oU <| And.intro @sW <| And.intro @w4 <| And.intro @xn <| @rl
end M
end
section
namespace M
open PySem
theorem bnd{α β:Type}{o:Out α}{a:α}{s:Sto}{f:α→Sto→Out β}{r:Out β}(h:o=.ok a s)(k:f a s=r):o.bind f=r:=by rw[h];exact k
section
variable {Φ:Calls}{G:Str→Option Val}{env:Env}{s s1 s2 s3 s4:Sto}
theorem zS{v:Val}:evE Φ G env (.lit v) s=.ok v s:=rfl
theorem zB{i:Nat}{v:Val}(h:env[i]?=some (some v)):evE Φ G env (.var i) s=.ok v s:=post_eq.mpr (ZI.mpr ⟨v,h,rfl,rfl⟩)
theorem gC{x:Str}{n:String}:evE Φ G env (.ty x n) s=.ok (.ty n) s:=rfl
theorem gB{x:Str}{v:Val}(h:G x=some v):evE Φ G env (.gl x) s=.ok v s:=post_eq.mpr (W0.mpr ⟨v,h,rfl,rfl⟩)
theorem Xw{a b:Ex}{es:Exs}(h1:evE Φ G env a s=.ok (.bool false) s1):evE Φ G env (.andE a (.cons b es)) s=.ok (.bool false) s1:=bnd h1 rfl
theorem Xx{a b c:Ex}{es:Exs}(h1:evE Φ G env a s=.ok (.bool true) s1)(h2:evE Φ G env b s1=.ok (.bool false) s2):evE Φ G env (.andE a (.cons b (.cons c es))) s=.ok (.bool false) s2:=bnd h1 (show (evE Φ G env b s1).bind _=_ from bnd h2 rfl)
theorem d7{a b c:Ex}{r:Out Val}(h1:evE Φ G env a s=.ok (.bool true) s1)(h2:evE Φ G env b s1=.ok (.bool true) s2)(h3:evE Φ G env c s2=r):evE Φ G env (.andE a (.cons b (.cons c .nil))) s=r:=bnd h1 (show (evE Φ G env b s1).bind _=_ from bnd h2 h3)
theorem zq{m:Bool}{op:Bop}{a b:Ex}{x y:Val}{r:Out Val}(h1:evE Φ G env a s=.ok x s1)(h2:evE Φ G env b s1=.ok y s2)(h3:binOp m op x y s2=r):evE Φ G env (.bin m op a b) s=r:=bnd h1 (bnd h2 h3)
theorem yZ{op:Cop}{a b:Ex}{x y:Val}{r:Out Val}(h1:evE Φ G env a s=.ok x s1)(h2:evE Φ G env b s1=.ok y s2)(h3:zU op x y s2=r):evE Φ G env (.cmp op a b) s=r:=bnd h1 (bnd h2 h3)
theorem qQ{a b:Ex}{x y:Val}{r:Out Val}(h1:evE Φ G env a s=.ok x s1)(h2:evE Φ G env b s1=.ok y s2)(h3:vE x y s2=r):evE Φ G env (.ix a b) s=r:=bnd h1 (bnd h2 h3)
theorem Wo:evO Φ G env .no s=.ok none s:=rfl
theorem Wq{e:Ex}{i:Int}(h:evE Φ G env e s=.ok (.int i) s1):evO Φ G env (.yes e) s=.ok (some i) s1:=bnd h rfl
theorem UU{m:Bool}{a:Ex}{lo hi st:OEx}{x:Val}{l h c:Option Int}{r:Out Val}(h0:evE Φ G env a s=.ok x s1)(h1:evO Φ G env lo s1=.ok l s2)(h2:evO Φ G env hi s2=.ok h s3)(h3:evO Φ G env st s3=.ok c s4)(h4:qe m x l h c s4=r):evE Φ G env (.sl m a lo hi st) s=r:=bnd h0 (bnd h1 (bnd h2 (bnd h3 h4)))
theorem zD:y2 Φ G env .nil s=.ok [] s:=rfl
theorem zA{e:Ex}{es:Exs}{v:Val}{vs:List Val}(h1:evE Φ G env e s=.ok v s1)(h2:y2 Φ G env es s1=.ok vs s2):y2 Φ G env (.cons e es) s=.ok (v::vs) s2:=bnd h1 (bnd h2 rfl)
theorem jU{e:Ex}{es:Exs}{v:Val}{P:List Val→Sto→Prop}(h:evE Φ G env e s=.ok v s1)(k:(y2 Φ G env es s1).post fun vs s2=>P (v::vs) s2):(y2 Φ G env (.cons e es) s).post P:=vd.mpr (by rw[h];exact zC.mpr k)
theorem tD{es:Exs}{vs:List Val}(h:y2 Φ G env es s=.ok vs s1)(hl:vs.length≤zV):evE Φ G env (.tup es) s=.ok (.tup vs) s1:=bnd h (if_pos hl)
theorem d9{es:Exs}{vs:List Val}(h:y2 Φ G env es s=.ok vs s1)(hl:vs.length≤zV):evE Φ G env (.lst false es) s=.ok (.lst vs) s1:=bnd h (if_pos hl)
theorem yV{f:Bf}{m:Bool}{es:Exs}{vs:List Val}{r:Out Val}(h:y2 Φ G env es s=.ok vs s1)(k:blt f m vs s1=r):evE Φ G env (.blt f m es) s=r:=bnd h k
theorem x_call{f:Str}{v:Nat}{es:Exs}{vs:List Val}{r:Out Val}(h:y2 Φ G env es s=.ok vs s1)(k:Φ f v vs s1=r):evE Φ G env (.call f v es) s=r:=bnd h k
theorem wW{f:Str}{v:Nat}{es:Exs}{vs:List Val}{P:Val→Sto→Prop}(h:y2 Φ G env es s=.ok vs s1)(k:(Φ f v vs s1).post P):(evE Φ G env (.call f v es) s).post P:=by rw[x_call h rfl];exact k
theorem wC{i:Nat}{e:Ex}{cs:Sms}{v:Val}{P:Fl→Sto→Prop}(h:evE Φ G env e s=.ok v s1)(k:(zW Φ G (env.set i (some v)) cs s1).post P):(zW Φ G env (.cons (.asg i e) cs) s).post P:=yA.mpr (f7.mpr (by rw[h];exact zC.mpr k))
theorem dW{i:Nat}{e:Ex}{cs:Sms}{P:Fl→Sto→Prop}(h:(evE Φ G env e s).post fun v s1=>(zW Φ G (env.set i (some v)) cs s1).post P):(zW Φ G env (.cons (.asg i e) cs) s).post P:=yA.mpr (f7.mpr h)
theorem yP{e:Ex}{cs:Sms}{v:Val}{P:Fl→Sto→Prop}(h:evE Φ G env e s=.ok v s1)(k:(zW Φ G env cs s1).post P):(zW Φ G env (.cons (.expr e) cs) s).post P:=yA.mpr (eB.mpr (by rw[h];exact zC.mpr k))
theorem yc{e:Ex}{cs:Sms}{v:Val}{P:Fl→Sto→Prop}(h:evE Φ G env e s=.ok v s1)(k:P (.rt v) s1):(zW Φ G env (.cons (.ret e) cs) s).post P:=yA.mpr (jX.mpr (by rw[h];exact zC.mpr k))
theorem wZ{e:Ex}{v:Val}{xs:List Val}(h:evE Φ G env e s=.ok v s1)(k:srcOf s1 v=some ⟨xs,none⟩):yo Φ G env (.val e) s=.ok ⟨xs,none⟩ s1:=post_eq.mpr (eC.mpr (by rw[h];exact zC.mpr ⟨_,k,rfl,rfl⟩))
theorem yO{e:Ex}{v:Val}{b:Bool}(h:evE Φ G env e s=.ok v s1)(k:truth s1 v=some b):evT Φ G env (.val e) s=.ok b s1:=post_eq.mpr (eF.mpr (by rw[h];exact zC.mpr ⟨_,k,rfl,rfl⟩))
theorem sF{c:Cn}{b:Bool}(h:evT Φ G env c s=.ok b s1):evT Φ G env (.not c) s=.ok (!b) s1:=bnd h rfl
theorem dm{c:Cn}{cs:Cns}{b:Bool}(h:evT Φ G env c s=.ok false s1)(k:rJ Φ G env cs s1=.ok b s2):evT Φ G env (.or c cs) s=.ok b s2:=bnd h k
theorem qK:rJ Φ G env .nil s=.ok false s:=rfl
theorem u4{c:Cn}{cs:Cns}{b:Bool}(h:evT Φ G env c s=.ok false s1)(k:rJ Φ G env cs s1=.ok b s2):rJ Φ G env (.cons c cs) s=.ok b s2:=bnd h k
theorem xp{c:Cn}{a cs:Sms}{P:Fl→Sto→Prop}(h:evT Φ G env c s=.ok false s1)(k:(zW Φ G env cs s1).post P):(zW Φ G env (.cons (.ifS c a .nil) cs) s).post P:=yA.mpr (Y1.mpr (by rw[h];refine zC.mpr ?_;rw[if_neg Bool.false_ne_true];exact lY.mpr k))
theorem mS{c:Cn}{a b cs:Sms}{P:Fl→Sto→Prop}(h:evT Φ G env c s=.ok true s1)(k:(zW Φ G env a s1).post (qJ Φ G cs P)):(zW Φ G env (.cons (.ifS c a b) cs) s).post P:=yA.mpr (Y1.mpr (by rw[h];refine zC.mpr ?_;rw[if_pos rfl];exact k))
theorem ZX{a:Ex}{b:Bool}(h:evE Φ G env a s=.ok (.bool b) s1):evE Φ G env (.not a) s=.ok (.bool !b) s1:=bnd h rfl
theorem Xz{c:Cn}{a b:Ex}{r:Out Val}(h:evT Φ G env c s=.ok true s1)(k:evE Φ G env a s1=r):evE Φ G env (.ife c a b) s=r:=bnd h k
theorem Xy{c:Cn}{a b:Ex}{r:Out Val}(h:evT Φ G env c s=.ok false s1)(k:evE Φ G env b s1=r):evE Φ G env (.ife c a b) s=r:=bnd h k
theorem wX{P:Fl→Sto→Prop}(k:P (.nx env) s):(zW Φ G env .nil s).post P:=lY.mpr k
theorem oZ{is:List Nat}{vs:List Val}{P:Fl→Sto→Prop}(hl:vs.length=is.length)(k:P (.nx ((is.zip vs).foldl (fun e p=>e.set p.1 (some p.2)) env)) s):(if vs.length=is.length then Out.ok (Fl.nx ((is.zip vs).foldl (fun e p=>e.set p.1 (some p.2)) env)) s else .stuck).post P:=by
 rw[if_pos hl];exact zC.mpr k
theorem rT{e:Ex}{k:Nat}(h:evE Φ G env e s=.ok (.int (k:Int)) s1)(hk:k≤zV):yo Φ G env (.range1 e) s=.ok ⟨yX 0 k,none⟩ s1:=by
 rw[post_eq]
 refine n6.mpr ?_
 rw[h]
 exact zC.mpr ⟨_,rfl,⟨by omega,by omega⟩,by rw[Int.toNat_natCast],rfl⟩
theorem fC{a b:Ex}{i j:Nat}(h:evE Φ G env a s=.ok (.int (i:Int)) s1)(h':evE Φ G env b s1=.ok (.int (j:Int)) s2)(hi:i≤1000)(hj:j≤1000):yo Φ G env (.range2 a b) s=.ok ⟨yX i (j-i),none⟩ s2:=by
 rw[post_eq]
 refine n9.mpr ?_
 rw[h]
 refine zC.mpr ?_
 rw[h']
 exact zC.mpr ⟨_,_,rfl,rfl,⟨by omega,by omega,by omega,by omega,by unfold zV;omega⟩,by congr 2;omega,rfl⟩
theorem Xj{c d:Cn}{a b:Bool}(h:evT Φ G env c s=.ok a s)(k:evT Φ G env d s=.ok b s):evT Φ G env (.and c (.cons d .nil)) s=.ok (a&&b) s:=bnd h (by
 cases a with
 |false=>rfl
 |true=>exact bnd k (by cases b<;>rfl))
theorem uP{c:Cn}{b:Bool}(h:evT Φ G env c s=.ok b s):yh Φ G env (.cons c .nil) s=.ok b s:=bnd h (by cases b<;>rfl)
end
end M
end
section
namespace M
open PySem
noncomputable def x9(l m:Int):Val→Bool
 |.int i=>decide (l≤i)&&decide (i≤m)
 |_=>false
theorem t7{l m i:Int}(h1:l≤i)(h2:i≤m):x9 l m (.int i)=true:=by simp[x9,h1,h2]
def p5(Φ:Calls):Prop:=∀(v:Val) (l m:Int) (s:Sto),kindOf v≠none→Φ "is_whole" 0 [v,.int l,.int m] s=.ok (.bool (x9 l m v)) s
def kQ(Φ:Calls):Prop:=∀(vs:List Val) (l m:Int) (s:Sto),(∀v∈vs,kindOf v≠none)→Φ "are_wholes" 0 [.tup vs,.int l,.int m] s=.ok (.bool (vs.all (x9 l m))) s
def xR(Φ:Calls):Prop:=∀(i l m:Int) (s:Sto),l≤i→i≤m→Φ "need_whole" 0 [.int i,.int l,.int m] s=.ok .none s
def wD(Φ:Calls):Prop:=∀(i:Int) (s:Sto),2≤i→i≤8→Φ "need_size" 0 [.int i] s=.ok .none s
def xk(Φ:Calls):Prop:=∀(i:Int) (s:Sto),0≤i→i≤40→Φ "need_length" 0 [.int i] s=.ok .none s
def az(Φ:Calls):Prop:=∀(n i z:Nat) (s:Sto),i<n→2≤z→z≤8→Φ "most_step" 0 [.int n,.int i,.int z] s=.ok (.int ((n-1-i)/(z-1):Nat)) s
theorem rV{m:Bool}{vs:List Val}{s:Sto}:blt .len m [.tup vs] s=.ok (.int vs.length) s:=rfl
theorem fZ{m:Bool}{ns:List Int}{s:Sto}:blt .len m [.scr ns] s=.ok (.int ns.length) s:=by simp[blt,w6]
theorem le_int{a b:Int}{s:Sto}:zU .le (.int a) (.int b) s=.ok (.bool (decide (a≤b))) s:=rfl
theorem lt_int{a b:Int}{s:Sto}:zU .lt (.int a) (.int b) s=.ok (.bool (decide (a<b))) s:=rfl
theorem ge_int{a b:Int}{s:Sto}:zU .ge (.int a) (.int b) s=.ok (.bool (decide (b≤a))) s:=rfl
theorem gt_int{a b:Int}{s:Sto}:zU .gt (.int a) (.int b) s=.ok (.bool (decide (b<a))) s:=rfl
theorem cn{m:Bool}{vs:List Val}{s:Sto}:blt .isi m [.tup vs,.ty "tuple"] s=.ok (.bool true) s:=rfl
theorem xm{α:Type}(f:α→Bool):∀xs:List α,boolsOf (xs.map fun x=>Val.bool (f x))=some (xs.map f)
 |[]=>rfl
 |x::xs=>by simp[boolsOf,xm f xs]
theorem sD{α β:Type}(f:α→β)(xs:List α):xs.flatMap (fun x=>[f x])=xs.map f:=by
 induction xs with
 |nil=>rfl
 |cons x xs ih=>simp[ih]
theorem vP{m:Bool}{i j:Int}{s:Sto}:binOp m .add (.int i) (.int j) s=.ok (.int (i+j)) s:=by simp only[binOp]
theorem Zf{m:Bool}{i j:Int}{s:Sto}:binOp m .sub (.int i) (.int j) s=.ok (.int (i-j)) s:=by simp only[binOp]
theorem kX{m:Bool}{i j:Int}{s:Sto}(h:-1000000≤i∧i≤1000000):binOp m .mul (.int i) (.int j) s=.ok (.int (i*j)) s:=by
 simp only[binOp]
 rw[if_pos (.inl (by omega))]
theorem WC{m:Bool}{i j:Int}{s:Sto}(h:-1000000≤j∧j≤1000000):binOp m .mul (.int i) (.int j) s=.ok (.int (i*j)) s:=by
 simp only[binOp]
 rw[if_pos (.inr (by omega))]
section
variable {T:Tbl}{Φ:Calls}{s:Sto}
theorem fB{v:Val}{m:Bool}{n:String}{a c:L2.Kd}{s:Sto}(h:kindOf v=some a)(h':tP n=some c):blt .isi m [v,.ty n] s=.ok (.bool (a.sub c)) s:=by
 simp only[blt];rw[h,h']
theorem YZ{v:Val}{a:L2.Kd}(h:kindOf v=some a):(∃i,v=.int i)∨(∃b,v=.bool b)∨(a.sub .int=false∧∀l m,x9 l m v=false):=by
 cases v with
 |int i=>exact .inl ⟨i,rfl⟩
 |bool b=>exact .inr (.inl ⟨b,rfl⟩)
 |_=>cases h<;>exact .inr (.inr ⟨rfl,fun _ _=>rfl⟩)
theorem bN{v:Val}(h:kindOf v≠none):∃a,kindOf v=some a:=Option.ne_none_iff_exists'.mp h
theorem hJ{v:Val}{l m:Int}(hk:kindOf v≠none):run T Φ F.xW [v,.int l,.int m] s=.ok (.bool (x9 l m v)) s:=by
 obtain⟨a,ha⟩:=bN hk
 have e1:=fB (m:=false) (s:=s) ha (show tP "int"=some .int from rfl)
 have e2:=fB (m:=false) (s:=s) ha (show tP "bool"=some .bl from rfl)
 have end':∀{b:Bool},b=x9 l m v→(yI false s (.bool b) s).post fun x t=>x=.bool (x9 l m v)∧t=s:=fun{b} e=>by
  rw[vF xO,e];exact zC.mpr ⟨rfl,rfl⟩
 rw[post_eq,F.xW,yb]
 refine⟨rfl,?_⟩
 show (zW Φ T.gl [some v,some (.int l),some (.int m)] _ s).post _
 rcases YZ ha with⟨i,rfl⟩|⟨b,rfl⟩|⟨h1,h2⟩
 . cases ha
   have hc:evE Φ T.gl [some (.int i),some (.int l),some (.int m)] (.chain .le .le (.var 1) (.var 0) (.var 2)) s=.ok (.bool (x9 l m (.int i))) s:=by
    refine bnd (zB rfl) (bnd (zB rfl) (bnd le_int ?_))
    show (match Val.bool (decide (l≤i)) with
     |.bool true=>(evE Φ T.gl [some (.int i),some (.int l),some (.int m)] (.var 2) s).bind fun z s4=>zU .le (.int i) z s4
     |.bool false=>.ok (.bool false) s
     |_=>.stuck)=Out.ok (.bool (decide (l≤i)&&decide (i≤m))) s
    cases decide (l≤i) with
    |true=>exact bnd (zB rfl) le_int
    |false=>rfl
   exact yc (d7 (yV (zA (zB rfl) (zA gC zD)) e1) (ZX (yV (zA (zB rfl) (zA gC zD)) e2)) hc) (end' rfl)
 . cases ha
   exact yc (Xx (yV (zA (zB rfl) (zA gC zD)) e1) (ZX (yV (zA (zB rfl) (zA gC zD)) e2))) (end' rfl)
 . rw[h1]at e1
   exact yc (Xw (yV (zA (zB rfl) (zA gC zD)) e1)) (end' (h2 _ _).symm)
theorem l8(c:p5 Φ){vs:List Val}{l m:Int}(hk:∀v∈vs,kindOf v≠none):run T Φ F.yv [.tup vs,.int l,.int m] s=.ok (.bool (vs.all (x9 l m))) s:=by
 rw[post_eq]
 simp[F.yv,EVl,yY,zk]
 refine eA (fun e=>∃o,e=[o,some (.int l),some (.int m)]) (fun x=>[.bool (x9 l m x)]) ?_
 simp[EVl,yY,zk]
 refine⟨?_,?_⟩
 . intro x hx
   simp[EVl,yY,zk,c x l m s (hk x hx)]
 . simp[newList,EVl,yY,zk,blt,sD,yk,xm]
theorem qd(c:p5 Φ){i l m:Int}(h1:l≤i)(h2:i≤m):run T Φ F.yz [.int i,.int l,.int m] s=.ok .none s:=by
 rw[post_eq]
 simp[F.yz,EVl,yY,zk,c (.int i) l m s (by simp[kindOf]),t7 h1 h2]
theorem dR{n i z:Nat}(h1:i<n)(h2:2≤z)(h3:z≤8):run T Φ F.xC [.int n,.int i,.int z] s=.ok (.int ((n-1-i)/(z-1):Nat)) s:=by
 rw[post_eq]
 have a1:(0:Int)<(z:Int)-1∧(z:Int)-1<1073741824:=by omega
 have a2:((n:Int)-1-(i:Int))/((z:Int)-1)=(((n-1-i)/(z-1):Nat):Int):=by
  rw[Int.natCast_ediv]
  congr 1<;>omega
 simp[F.xC,EVl,yY,zk,binOp]
 refine⟨by omega,?_⟩
 rw[a2];simp
end
end M
end
section
namespace M
open PySem
noncomputable def vN(r:Nat × Nat):Val:=.tup [.int r.1,.int r.2]
theorem vJ{lo:Int}{n:Nat}{x:Val}(h:x∈yX lo n):∃k:Nat,k<n∧x=.int (lo+k):=by
 unfold yX at h
 obtain⟨k,h1,rfl⟩:=List.mem_map.mp h
 exact⟨k,List.mem_range.mp h1,rfl⟩
theorem kx(a b:Int):PyData.eqv (.int a) (.int b)=decide (a=b):=by
 by_cases h:a=b<;>simp[PyData.eqv,h]
theorem eq_int{a b:Int}{s:Sto}:zU .eq (.int a) (.int b) s=.ok (.bool (decide (a=b))) s:=by
 simp[zU,yF,y8,lB,Val.isD,Val.d,PyData.depth,kx]
theorem ne_int{a b:Int}{s:Sto}:zU .ne (.int a) (.int b) s=.ok (.bool !(decide (a=b))) s:=by
 simp[zU,yF,y8,lB,Val.isD,Val.d,PyData.depth,kx]
theorem fF{vs:List Val}{k:Nat}{v:Val}{s:Sto}(h:vs[k]?=some v):vE (.tup vs) (.int k) s=.ok v s:=by
 simp[vE,w6,L2.sS h]
end M
end
section
namespace M
open PySem
theorem iO{ns:List Int}:∀v∈ns.map Val.int,kindOf v≠none:=fun v hv=>by
 obtain⟨i,_,rfl⟩:=List.mem_map.mp hv
 simp[kindOf]
theorem mn{l m:Int}{ns:List Int}(h:∀x∈ns,l≤x∧x≤m):(ns.map Val.int).all (x9 l m)=true:=by
 rw[List.all_eq_true]
 intro v hv
 obtain⟨i,hi,rfl⟩:=List.mem_map.mp hv
 exact t7 (h i hi).1 (h i hi).2
theorem cT{α:Type}{xs:List α}{p:Nat}(hp:p≤xs.length):m7 xs (some (p:Int)) none=xs.drop p:=by
 unfold m7
 have h1:HT.sIx xs.length 0 (some (p:Int))=p:=by rw[HT.aP];omega
 have h2:HT.sIx xs.length xs.length none=xs.length:=rfl
 rw[h1,h2,List.take_of_length_le (by rw[List.length_drop];omega)]
noncomputable abbrev tpI(ns:List Int):Val:=.tup (ns.map .int)
end M
end
section
namespace M
open PySem
noncomputable def VH(a b:Int):Cel:=.lst [.int a,.int b]
def X6(s:Sto)(p:Nat):Prop:=∃a b,s[p]?=some (VH a b)∧0≤b∧b<2147483629
def a8(s:Sto)(p:Nat)(s':Sto):Prop:=∃a b,s'=s.set p (VH a b)∧0≤b∧b<2147483629
theorem a8.at_{s s':Sto}{p:Nat}(h:a8 s p s')(hp:p<s.length):X6 s' p:=by
 obtain⟨a,b,rfl,h1⟩:=h
 exact⟨a,b,List.getElem?_set_self hp,h1⟩
theorem bmod{m:Bool}{i j:Int}{s:Sto}(h:0<j):binOp m .mod (.int i) (.int j) s=.ok (.int (i%j)) s:=by
 simp only[binOp];rw[if_pos h]
theorem bdiv{m:Bool}{i j:Int}{s:Sto}(h:0<j∧j<1073741824):binOp m .fdiv (.int i) (.int j) s=.ok (.int (i/j)) s:=by
 simp only[binOp];rw[if_pos h]
theorem fE{vs:List Val}{k:Nat}{v:Val}{s:Sto}(h:vs[k]?=some v):vE (.lst vs) (.int k) s=.ok v s:=by
 simp[vE,w6,L2.sS h]
theorem Zv{vs:List Val}{i k:Nat}{v:Val}{s:Sto}(hs:s[i]?=some (.lst vs))(h:vs[k]?=some v):vE (.ref i) (.int k) s=.ok v s:=by
 simp[vE,w6,hs,L2.sS h]
section
variable {T:Tbl}{Φ:Calls}{s:Sto}
def av(Φ:Calls):Prop:=∀(ns:List Int) (k:Nat) (s:Sto),∃c,Φ "_law_cell_at" 0 [.scr ns,.int k] s=.ok (.int c) s
theorem dI(ns:List Int)(k:Nat):∃c,run T Φ F.yK [.scr ns,.int k] s=.ok (.int c) s:=by
 by_cases h:k<ns.length
 . refine⟨ns[k],?_⟩
   rw[post_eq]
   have h':(k:Int)<ns.length:=by omega
   have e:(ns.map Val.int)[k]?=some (.int ns[k]):=by rw[List.getElem?_map,List.getElem?_eq_getElem h];rfl
   have c1:vE (.scr ns) (.int k) s=.ok (.int ns[k]) s:=by simp[vE,w6,L2.sS e]
   simp[F.yK,EVl,yY,zk,fZ,lt_int,h',h,c1]
 . refine⟨0,?_⟩
   rw[post_eq]
   have h':¬(k:Int)<ns.length:=by omega
   simp[F.yK,EVl,yY,zk,fZ,lt_int,h',h]
end
end M
end
section
namespace M
open PySem
section
variable {T:Tbl}{Φ:Calls}{s:Sto}
theorem fk{ns:List Int}{r:Nat}{m:Int}{s:Sto}(h:ns[r]?=some m):vE (.lst (ns.map .int)) (.int r) s=.ok (.int m) s:=fE (by rw[List.getElem?_map,h];rfl)
end
end M
end
section
namespace M
open PySem
theorem iX{k w:Nat}{d:PyData}(L:L2.mj k w d)(hk:k≤50)(hw:w≤300000)(hd:d.hasDict=false):tW d=true:=by
 have:=L.dp
 have:=L.wt
 unfold tW
 rw[L.sh,L.lf,hd,decide_eq_true (show d.depth≤50 by omega),decide_eq_true (show d.weight≤300000 by omega)]
 rfl
theorem kq:∀ks:List Int,ds (ks.map .int)=ks.map PyData.int
 |[]=>by rw[List.map_nil,ds];rfl
 |k::ks=>by rw[List.map_cons,ds,kq ks,Val.d];rfl
theorem pG:∀ks:List Int,sM (ks.map .int)=true
 |[]=>by rw[List.map_nil,sM]
 |k::ks=>by rw[List.map_cons,sM,pG ks,Val.isR];rfl
theorem aM{m:Bool}{s:Sto}{ks:List Int}(h1:ks.length≤1000)(h2:∀k∈ks,0≤k∧k≤100000):blt .repr m [tpI ks] s=.ok (.str (PyData.tuple (ks.map PyData.int)).shown) s:=by
 have hd:(Val.tup (ks.map .int)).d=.tuple (ks.map PyData.int):=by rw[Val.d,kq]
 have hr:(Val.tup (ks.map .int)).isR=true:=by rw[Val.isR];exact pG ks
 have ok:tW (.tuple (ks.map PyData.int))=true:=iX (L2.lI (n:=1000) (k:=0) (w:=100) (fun d hd=>by obtain⟨r,hr,rfl⟩:=List.mem_map.mp hd;exact L2.ff (by have:=h2 r hr;omega) (by have:=h2 r hr;omega)) (by rw[List.length_map];exact h1)) (by decide) (by decide) (by
  rw[PyData.hasDict]
  exact L2.pQ fun d hd=>by obtain⟨r,hr,rfl⟩:=List.mem_map.mp hd;rfl)
 have hx:yF s (tpI ks)=.tup (ks.map .int):=by
  show Val.tup ((ks.map Val.int).map (y8 s))=_
  rw[List.map_map];rfl
 simp only[blt]
 rw[hx,hd,hr,ok]
 rfl
theorem ne_str{a b:Str}{s:Sto}:zU .ne (.str a) (.str b) s=.ok (.bool !(decide (a=b))) s:=rfl
theorem max2{m:Bool}{i j:Int}{s:Sto}:blt .max m [.int i,.int j] s=.ok (.int (if j > i then j else i)) s:=rfl
theorem min2{m:Bool}{i j:Int}{s:Sto}:blt .min m [.int i,.int j] s=.ok (.int (if j<i then j else i)) s:=rfl
theorem gn{Φ:Calls}{G:Str→Option Val}{env:Env}{s:Sto}{ns:List Int}{K:Nat}(h0:env[0]?=some (some (.scr ns)))(hK:K≤100) :
 yo Φ G env (.range1 (.blt .max false (.cons (.lit (.int 1)) (.cons (.blt .min false (.cons (.blt .len false (.cons (.var 0) .nil)) (.cons (.lit (.int K)) .nil))) .nil)))) s=.ok ⟨yX 0 (max 1 (min ns.length K)),none⟩ s:=by
 rw[post_eq]
 simp only[EVl,yY,zk]
 refine⟨_,h0,?_⟩
 rw[fZ];simp only[zC]
 rw[min2];simp only[zC]
 rw[max2];simp only[zC]
 have e:(if (if (K:Int)<(ns.length:Int) then (K:Int) else (ns.length:Int)) > 1 then (if (K:Int)<(ns.length:Int) then (K:Int) else (ns.length:Int)) else 1)=((max 1 (min ns.length K):Nat):Int):=by
  split<;>split<;>omega
 rw[e]
 refine⟨_,rfl,⟨by omega,by unfold zV;omega⟩,?_⟩
 simp
theorem leave_top{v:Val}{s:Sto}(h:v.noRef=true):yI false [] v s=.ok v []:=by
 unfold yI
 simp[wB,freeze,h]
end M
end
section
namespace M
open PySem
section
variable {T:Tbl}{Φ:Calls}{s:Sto}
noncomputable def UJ(r:Nat × Nat):Str:=(PyData.tuple ([(r.1:Int),(r.2:Int)].map PyData.int)).shown
theorem dD{m:Bool}{r:Nat × Nat}{s:Sto}(h:r.1≤1000∧r.2≤1000):blt .repr m [vN r] s=.ok (.str (UJ r)) s:=aM (ks:=[(r.1:Int),(r.2:Int)]) (by simp) (fun k hk=>by simp only[List.mem_cons,List.not_mem_nil,or_false]at hk;omega)
end
end M
end
section
namespace M
open PySem
noncomputable abbrev tps(L:List (List Int)):List Val:=L.map tpI
noncomputable def unI:Val→List Int
 |.tup vs=>vs.map fun v=>match v with|.int i=>i|_=>0
 |_=>[]
theorem kK(ns:List Int):unI (tpI ns)=ns:=by
 show (ns.map Val.int).map _=ns
 rw[List.map_map]
 exact List.map_id' ns
theorem uL:∀L:List (List Int),zx (tps L)=true
 |[]=>rfl
 |ns::L=>by
  show (Val.noRef (tpI ns)&&zx (tps L))=true
  rw[uL L,Bool.and_true]
  exact xn ns
theorem cH{a b:List Val}{s:Sto}(h:a.length+b.length≤zV):binOp false .add (.lst a) (.lst b) s=.ok (.lst (a++b)) s:=by
 simp only[binOp,yk];rw[if_pos h];rfl
section
variable {T:Tbl}{Φ:Calls}{s:Sto}
theorem pS:∀{L:List (List Int)} {zs:List (Int × Int)},pairsOf (tps L)=some zs→L=zs.map fun z=>[z.1,z.2]
 |[],zs,h=>by cases h;rfl
 |ns::L,zs,h=>by
  match ns,h with
  |[a,b],h=>
   have h':(pairsOf (tps L)).map ((a,b)::·)=some zs:=h
   rw[Option.map_eq_some_iff]at h'
   obtain⟨zs',h1,rfl⟩:=h'
   rw[pS h1];rfl
  |[],h=>cases (show none=some zs from h)
  |[_],h=>cases (show none=some zs from h)
  |_::_::_::_,h=>cases (show none=some zs from h)
theorem sT:∀ns:List Int,intsOf (ns.map .int)=some ns
 |[]=>rfl
 |n::ns=>by show (intsOf (ns.map .int)).map _=_;rw[sT ns];rfl
theorem qN:∀L:List (List Int),wc (tps L)=some L
 |[]=>rfl
 |ns::L=>by
  show (match intsOf (ns.map .int),wc (tps L) with|some z,some zs=>some (z::zs)|_,_=>none)=_
  rw[sT,qN L]
noncomputable def pe(E:List (List Int)):List (List Int):=match pairsOf (tps E) with
 |some zs=>if zs.Nodup∧∀z∈zs,0≤z.2∧z.2<1000 then (uy zs).map (fun z=>[z.1,z.2]) else L2.xq E
 |none=>L2.xq E
theorem qE(E:List (List Int)):(pe E).Perm E:=by
 unfold pe
 cases hp:pairsOf (tps E) with
 |none=>exact L2.yg E
 |some zs=>
  dsimp only
  by_cases hc:zs.Nodup∧∀z∈zs,0≤z.2∧z.2<1000
  . rw[if_pos hc]
    have e:=pS hp
    exact((xg zs).map _).trans (.of_eq e.symm)
  . rw[if_neg hc];exact L2.yg E
theorem l9{m:Bool}{x:Val}{E:List (List Int)}(hx:yk s x=some (tps E))(hn:E.Nodup)(h0:E.length<2∨∀z∈E,z≠[]):blt .sorted m [x] s=newList m (tps (pe E)) s:=by
 have hs:tj m (tps E) s=newList m (tps (L2.xq E)) s:=by
  unfold tj
  rw[qN]
  dsimp only
  rw[if_pos ⟨hn,h0⟩];rfl
 simp only[blt,hx]
 unfold pe
 cases hp:pairsOf (tps E) with
 |none=>exact hs
 |some zs=>
  dsimp only
  by_cases hc:zs.Nodup∧∀z∈zs,0≤z.2∧z.2<1000
  . rw[if_pos hc,if_pos hc]
    show newList m ((uy zs).map prV) s=newList m (tps ((uy zs).map fun z=>[z.1,z.2])) s
    rw[tps,List.map_map];rfl
  . rw[if_neg hc,if_neg hc];exact hs
end
end M
end
section
namespace M
open PySem
section
variable {Φ:Calls}{G:Str→Option Val}{env:Env}{s s1 s2 s3 s4:Sto}
noncomputable def XX(f:Nat→Int):Val→List Val
 |.int k=>[.int (f k.toNat)]
 |_=>[]
theorem dF{f:Nat→Int}{n:Nat}:(yX 0 n).flatMap (XX f)=((List.range n).map f).map .int:=by
 unfold yX
 rw[List.flatMap_map,List.map_map]
 have:(fun(k:Nat)=>XX f (.int (0+(k:Int))))=fun k=>[(Val.int∘f) k]:=by
  funext k
  show [Val.int (f (0+(k:Int)).toNat)]=_
  rw[Int.zero_add,Int.toNat_natCast];rfl
 rw[this,sD]
theorem Vt{N:List Str}{fr:List (Option Nat)}{elt:Ex}{it:Itb}{n:Nat}{f:Nat→Int}{e0:Env}(hi:yo Φ G env it s=.ok ⟨yX 0 n,none⟩ s)(h0:zk fr env=none::e0)(h:∀(k:Nat) (o:Option Val),k<n→evE Φ G (some (.int k)::e0) elt s=.ok (.int (f k)) s)(hl:n≤zV):evE Φ G env (.comp false N fr elt (.nm 0) it .nil) s=.ok (.lst (((List.range n).map f).map .int)) s:=by
 rw[post_eq]
 refine y7 (fun e=>∃o,e=o::e0) (XX f) (yX 0 n) (s1:=s) hi ⟨none,h0⟩ ?_ ?_
 . rintro x hx e ⟨o,rfl⟩
   obtain⟨k,hk,rfl⟩:=vJ hx
   refine⟨_,rfl,⟨_,rfl⟩,xj.mpr ⟨rfl,?_⟩⟩
   rw[if_pos rfl,Int.zero_add]
   show (evE Φ G (some (.int (k:Int))::e0) elt s).post _
   rw[h k none hk]
   refine zC.mpr ⟨rfl,?_⟩
   show [Val.int (f (k:Int).toNat)]=_
   rw[Int.toNat_natCast]
 . rw[dF]
   exact zC.mpr ⟨rfl,rfl⟩
end
end M
end
section
namespace F75
open PySem M
noncomputable def yt:Fn:=⟨["_law_pen_here","_law_bound","_law_found","_law_stir"],["_law_pen_here","_law_bound"],false,(.cons (.ifS (.and (.val (.cmp .eq (.ix (.var 0) (.lit (.int 1))) (.lit (.int 1)))) (.cons (.val (.cmp .gt (.ix (.var 0) (.lit (.int 0))) (.lit (.int 0)))) .nil)) (.cons (.asg 2 (.bin false .mod (.ix (.var 0) (.lit (.int 0))) (.var 1))) (.cons (.setIx (.var 0) (.lit (.int 0)) (.bin false .fdiv (.ix (.var 0) (.lit (.int 0))) (.var 1))) (.cons (.ret (.var 2)) .nil))) .nil) (.cons (.setIx (.var 0) (.lit (.int 2)) (.bin false .add (.ix (.var 0) (.lit (.int 2))) (.lit (.int 1)))) (.cons (.asg 3 (.bin false .mod (.bin false .mul (.bin false .add (.ix (.var 0) (.lit (.int 3))) (.lit (.int 17))) (.bin false .add (.lit (.int 69621)) (.bin false .mul (.lit (.int 2)) (.ix (.var 0) (.lit (.int 2)))))) (.lit (.int 2147483647)))) (.cons (.asg 3 (.bin false .mod (.bin false .add (.bin false .add (.bin false .mul (.var 3) (.var 3)) (.bin false .mul (.lit (.int 40503)) (.ix (.var 0) (.lit (.int 2))))) (.lit (.int 5))) (.lit (.int 2147483629)))) (.cons (.ret (.bin false .mod (.bin false .fdiv (.bin false .mod (.bin false .mul (.var 3) (.lit (.int 48271))) (.lit (.int 2147483647))) (.lit (.int 32))) (.var 1))) .nil)))))⟩
noncomputable def yd:Fn:=⟨["_law_cell"],["_law_cell"],true,(.cons (.ret (.lst true (.cons (.var 0) (.cons (.blt .int false (.cons (.cmp .ge (.var 0) (.bin false .pow (.lit (.int 10)) (.lit (.int 18)))) .nil)) (.cons (.lit (.int 0)) (.cons (.bin false .mod (.var 0) (.lit (.int 1000000007))) .nil)))))) .nil)⟩
noncomputable def wG:Fn:=⟨["length","size"],["length","size"],false,(.cons (.expr (.call "need_length" 0 (.cons (.var 0) .nil))) (.cons (.expr (.call "need_size" 0 (.cons (.var 1) .nil))) (.cons (.ret (.comp2 false ["first","step","length","size"] [none,none,some 0,some 1] (.tup (.cons (.var 0) (.cons (.var 1) .nil))) (.nm 0) (.range1 (.var 0)) .nil (.nm 1) (.range2 (.lit (.int 1)) (.bin false .add (.call "most_step" 0 (.cons (.var 2) (.cons (.var 0) (.cons (.var 3) .nil)))) (.lit (.int 1)))) .nil)) .nil)))⟩
end F75
end
section
namespace M
open PySem
noncomputable def qX(a b c d:Int):Cel:=.lst [.int a,.int b,.int c,.int d]
def qS(s:Sto)(p:Nat):Prop:=∃a b c d,s[p]?=some (qX a b c d)∧0≤d∧d<1000000007
def uC(s:Sto)(p:Nat)(s':Sto):Prop:=∃a b c d,s'=s.set p (qX a b c d)∧0≤d∧d<1000000007
theorem qS.lt{s:Sto}{p:Nat}(h:qS s p):p<s.length:=by
 obtain⟨a,b,c,d,h,_⟩:=h
 exact(List.getElem?_eq_some_iff.mp h).1
theorem uC.at_{s s':Sto}{p:Nat}(h:uC s p s')(hp:p<s.length):qS s' p:=by
 obtain⟨a,b,c,d,rfl,h1⟩:=h
 exact⟨a,b,c,d,List.getElem?_set_self hp,h1⟩
theorem uC.trans{s s1 s2:Sto}{p:Nat}(h:uC s p s1)(k:uC s1 p s2):uC s p s2:=by
 obtain⟨a,b,c,d,rfl,h1⟩:=h
 obtain⟨a',b',c',d',rfl,h2⟩:=k
 exact⟨a',b',c',d',by rw[List.set_set],h2⟩
theorem qS.refl{s:Sto}{p:Nat}(h:qS s p):uC s p s:=by
 obtain⟨a,b,c,d,h,h1⟩:=h
 obtain⟨hp,e⟩:=List.getElem?_eq_some_iff.mp h
 exact⟨a,b,c,d,by rw[←e,List.set_getElem_self],h1⟩
theorem nX{s s':Sto}{p:Nat}{v:Val}(h:uC s p s')(hv:v.noRef=true):yI false s v s'=.ok v s':=by
 obtain⟨a,b,c,d,rfl,_⟩:=h
 exact iP hv rfl
section
variable {T:Tbl}{Φ:Calls}{G:Str→Option Val}{env:Env}{s s1 s2 s3:Sto}
theorem X0{es:Exs}{vs:List Val}(h:y2 Φ G env es s=.ok vs s1)(hl:vs.length≤zV):evE Φ G env (.lst true es) s=.ok (.ref s1.length) (s1++[.lst vs]):=bnd h (if_pos hl)
theorem Xk{c:Cn}{cs:Cns}(h:evT Φ G env c s=.ok false s1):evT Φ G env (.and c cs) s=.ok false s1:=bnd h rfl
theorem Xl{c:Cn}{cs:Cns}{b:Bool}(h:evT Φ G env c s=.ok true s1)(k:yh Φ G env cs s1=.ok b s2):evT Φ G env (.and c cs) s=.ok b s2:=bnd h k
theorem jj{o i e:Ex}{cs:Sms}{v:Val}{r j:Nat}{k:Int}{vs:List Val}{P:Fl→Sto→Prop}(he:evE Φ G env e s=.ok v s1)(ho:evE Φ G env o s1=.ok (.ref r) s1)(hi:evE Φ G env i s1=.ok (.int k) s1)(hs:s1[r]?=some (.lst vs))(hj:L2.ixN vs.length k=some j)
 (q:(zW Φ G env cs (s1.set r (.lst (vs.set j v)))).post P):(zW Φ G env (.cons (.setIx o i e) cs) s).post P:=by
 have e0:exS Φ G env (.setIx o i e) s=.ok (.nx env) (s1.set r (.lst (vs.set j v))):=by
  show ((evE Φ G env e s).bind _)=_
  rw[he,zN,ho,zN,hi,zN]
  simp only[hs,hj]
  rfl
 refine yA.mpr ?_
 rw[e0]
 exact zC.mpr q
def a0(Φ:Calls):Prop:=∀(c:Int) (s:Sto),∃a b e d,Φ "_law_pen" 1 [.int c] s=.ok (.ref s.length) (s++[qX a b e d])∧0≤d∧d<1000000007
theorem dU(c:Int):∃a b e d,run T Φ F75.yd [.int c] s=.ok (.ref s.length) (s++[qX a b e d])∧0≤d∧d<1000000007:=by
 refine⟨c,if decide ((10:Int) ^ 18≤c) then 1 else 0,0,c%1000000007,?_,Int.emod_nonneg _ (by omega),Int.emod_lt_of_pos _ (by omega)⟩
 rw[post_eq,F75.yd,yb]
 refine⟨rfl,?_⟩
 show (zW Φ T.gl [some (.int c)] _ s).post _
 refine yc (X0 (zA (zB rfl) (zA (yV (zA (yZ (zB rfl) (zq zS zS rfl) ge_int) zD) rfl) (zA zS (zA (zq (zB rfl) zS (bmod (by omega))) zD)))) (show 4≤zV by unfold zV;omega)) ?_
 exact zC.mpr ⟨rfl,rfl⟩
def mh(Φ:Calls):Prop:=∀(p:Nat) (m:Int) (s:Sto),qS s p→0<m→m<1000000→(Φ "_law_draw" 0 [.ref p,.int m] s).post fun v s'=>∃r:Nat,v=.int r∧(r:Int)<m∧uC s p s'
theorem i6{p:Nat}{m:Int}(hp:qS s p)(h1:0<m)(h2:m<1000000):(run T Φ F75.yt [.ref p,.int m] s).post fun v s'=>∃r:Nat,v=.int r∧(r:Int)<m∧uC s p s':=by
 have hpl:=hp.lt
 obtain⟨a,b,c,d,hs,hd0,hd1⟩:=hp
 have ix:∀{s:Sto} {a b c d:Int} {k:Nat} {v:Val},s[p]?=some (qX a b c d)→[Val.int a,.int b,.int c,.int d][k]?=some v→vE (.ref p) (.int k) s=.ok v s:=fun h h'=>Zv h h'
 rw[F75.yt,yb]
 refine⟨rfl,?_⟩
 show (zW Φ T.gl [some (.ref p),some (.int m),none,none] _ s).post _
 have tc:evT Φ T.gl [some (.ref p),some (.int m),none,none] (.and (.val (.cmp .eq (.ix (.var 0) (.lit (.int 1))) (.lit (.int 1)))) (.cons (.val (.cmp .gt (.ix (.var 0) (.lit (.int 0))) (.lit (.int 0)))) .nil)) s=.ok (decide (b=1)&&decide (0<a)) s:=Xj (yO (yZ (qQ (zB rfl) zS (ix (k:=1) hs rfl)) zS eq_int) zZ) (yO (yZ (qQ (zB rfl) zS (ix (k:=0) hs rfl)) zS gt_int) zZ)
 have fin':∀{x:Int} {s':Sto},uC s p s'→(yI false s (.int (x%m)) s').post fun v s'=>∃r:Nat,v=.int r∧(r:Int)<m∧uC s p s':=fun{x s'} t=>by
  rw[nX t vZ]
  have h3:=Int.emod_nonneg x (show m≠0 by omega)
  have h4:=Int.emod_lt_of_pos x h1
  exact zC.mpr ⟨(x%m).toNat,by congr 1;omega,by omega,t⟩
 cases hb:(decide (b=1)&&decide (0<a)) with
 |true=>
  rw[hb]at tc
  refine mS tc (wC (zq (qQ (zB rfl) zS (ix (k:=0) hs rfl)) (zB rfl) (bmod h1)) ?_)
  refine jj (j:=0) (zq (qQ (zB rfl) zS (ix (k:=0) hs rfl)) (zB rfl) (bdiv ⟨h1,by omega⟩)) (zB rfl) zS hs rfl (yc (zB rfl) ?_)
  exact fin' ⟨a/m,b,c,d,rfl,hd0,hd1⟩
 |false=>
  rw[hb]at tc
  refine xp tc ?_
  refine jj (j:=2) (zq (qQ (zB rfl) zS (ix (k:=2) hs rfl)) zS vP) (zB rfl) zS hs rfl ?_
  have hs':(s.set p (qX a b (c+1) d))[p]?=some (qX a b (c+1) d):=List.getElem?_set_self hpl
  show (zW Φ T.gl [some (.ref p),some (.int m),none,none] _ (s.set p (qX a b (c+1) d))).post _
  refine wC (zq (zq (zq (qQ (zB rfl) zS (ix (k:=3) hs' rfl)) zS vP) (zq zS (zq zS (qQ (zB rfl) zS (ix (k:=2) hs' rfl)) (kX (by omega))) vP) (show binOp false .mul (.int (d+17)) _ _=_ by simp only[binOp];rw[if_pos (.inl (by omega))])) zS (bmod (by omega))) ?_
  generalize hx:(d+17)*(69621+2*(c+1))%2147483647=x
  have x0:0≤x:=by rw[←hx];exact Int.emod_nonneg _ (by omega)
  have x1:x<2147483647:=by rw[←hx];exact Int.emod_lt_of_pos _ (by omega)
  refine wC (zq (zq (zq (zq (zB rfl) (zB rfl) (show binOp false .mul (.int x) (.int x) _=_ by simp only[binOp];rw[if_pos (.inl (by omega))])) (zq zS (qQ (zB rfl) zS (ix (k:=2) hs' rfl)) (kX (by omega))) vP) zS vP) zS (bmod (by omega))) ?_
  generalize hy:(x*x+40503*(c+1)+5)%2147483629=y
  refine yc (zq (zq (zq (zq (zB rfl) zS (WC (by omega))) zS (bmod (by omega))) zS (bdiv ⟨by omega,by omega⟩)) (zB rfl) (bmod h1)) ?_
  exact fin' ⟨a,b,c+1,d,rfl,hd0,hd1⟩
end
end M
end
section
namespace M
open PySem
theorem nv:∀{vs:List Val},(∀v∈vs,v.noRef=true)→zx vs=true
 |[],_=>sW
 |v::vs,h=>by rw[w4,h v (.head _),nv fun w hw=>h w (.tail _ hw)];rfl
section
variable {T:Tbl}{Φ:Calls}{s:Sto}
def p4(Φ:Calls):Prop:=∀(n z:Nat) (s:Sto),n≤40→2≤z→z≤8→Φ "rows_in" 0 [.int n,.int z] s=.ok (.lst ((yS n z).map vN)) s
noncomputable def riG(n z:Nat):Val→List Val
 |.int f=>(uv n z f.toNat).map vN
 |_=>[]
theorem l7(cL:xk Φ)(cS:wD Φ)(cM:az Φ){n z:Nat}(hn:n≤40)(hz:2≤z)(hz8:z≤8):run T Φ F75.wG [.int n,.int z] s=.ok (.lst ((yS n z).map vN)) s:=by
 have hfl:(yX 0 n).flatMap (riG n z)=(yS n z).map vN:=by
  unfold yX yS
  rw[List.flatMap_map,List.map_flatMap]
  congr 1
  funext a
  rw[Int.zero_add];rfl
 have hlen:((yS n z).map vN).length≤zV:=by
  rw[List.length_map]
  have h1:=ky n z n
  have h2:n*n≤40*40:=Nat.mul_le_mul hn hn
  unfold yS zV
  omega
 rw[post_eq,F75.wG,yb]
 refine⟨rfl,?_⟩
 show (zW Φ T.gl [some (.int n),some (.int z)] _ s).post _
 refine yP (x_call (zA (zB rfl) zD) (cL n s (by omega) (by omega))) (yP (x_call (zA (zB rfl) zD) (cS z s (by omega) (by omega))) ?_)
 refine yA.mpr (jX.mpr ?_)
 refine bj (fun e=>∃o1 o2,e=[o1,o2,some (.int n),some (.int z)]) (riG n z) (fun x e=>∃o2,e=[some x,o2,some (.int n),some (.int z)]) (fun x y=>[.tup [x,y]]) ⟨_,_,rT (zB rfl) (by unfold zV;omega),rfl,⟨_,_,rfl⟩,?_,?_,?_⟩
 . rintro x hx e ⟨o1,o2,rfl⟩
   obtain⟨a,ha,rfl⟩:=vJ hx
   have hq:(n-1-a)/(z-1)≤40:=Nat.le_trans (Nat.div_le_self _ _) (by omega)
   refine⟨_,rfl,xj.mpr ⟨rfl,?_⟩⟩
   rw[if_pos rfl]
   have c4:Φ "most_step" 0 [.int n,.int (0+(a:Int)),.int z] s=.ok (.int ((n-1-a)/(z-1):Nat)) s:=by rw[Int.zero_add];exact cM n a z s ha hz hz8
   refine⟨_,_,fC (i:=1) (j:=(n-1-a)/(z-1)+1) zS (zq (x_call (zA (zB rfl) (zA (zB rfl) (zA (zB rfl) zD))) c4) zS vP) (by omega) (by omega),rfl,rfl,⟨_,rfl⟩,?_,?_,?_⟩
   . rintro e ⟨o,rfl⟩;exact⟨_,_,rfl⟩
   . show (uv n z (0+(a:Int)).toNat).map vN=_
     rw[Int.zero_add,Int.toNat_natCast]
     unfold uv yX
     rw[List.map_map,List.flatMap_map]
     rw[show (fun(k:Nat)=>[Val.tup [.int (a:Int),.int (((1:Nat):Int)+(k:Int))]])=fun k=>[(fun(k:Nat)=>Val.tup [.int (a:Int),.int (((1:Nat):Int)+(k:Int))]) k] from rfl,sD]
     refine List.map_congr_left fun j _=>?_
     show Val.tup [.int (a:Int),.int ((j+1:Nat):Int)]=_
     rw[show ((j+1:Nat):Int)=((1:Nat):Int)+(j:Int) by omega]
   . rintro y hy e ⟨o,rfl⟩
     obtain⟨d,hd,rfl⟩:=vJ hy
     refine⟨_,rfl,⟨_,rfl⟩,xj.mpr ⟨rfl,?_⟩⟩
     rw[if_pos rfl]
     show (evE Φ T.gl [some (.int (0+(a:Int))),some (.int (((1:Nat):Int)+(d:Int))),some (.int n),some (.int z)] _ s).post _
     rw[tD (zA (zB rfl) (zA (zB rfl) zD)) (show 2≤zV by unfold zV;omega)]
     exact zC.mpr ⟨rfl,rfl⟩
 . show Small ((yX 0 n).flatMap _)
   rw[hfl];exact hlen
 . show (newList false ((yX 0 n).flatMap _) s).post _
   rw[hfl]
   refine zC.mpr ?_
   show (yI false s _ s).post _
   rw[vF (by rw[oU];exact nv fun v hv=>by obtain⟨r,_,rfl⟩:=List.mem_map.mp hv;rw[vN,lP,w4,w4,sW,vZ,vZ];rfl)]
   exact zC.mpr ⟨rfl,rfl⟩
end
end M
end
section
namespace M
open PySem
section
variable {T:Tbl}{Φ:Calls}{s:Sto}
theorem XZ{G:Str→Option Val}{env:Env}{i:Nat}{e:Ex}{cs:Sms}{x y:List Val}{P:Fl→Sto→Prop}(hu:env[i]?=some (some (.tup x)))(h:evE Φ G env e s=.ok (.tup y) s)(hl:x.length+y.length≤zV)(q:(zW Φ G (env.set i (some (.tup (x++y)))) cs s).post P):(zW Φ G env (.cons (.aug i .add e) cs) s).post P:=by
 have:exS Φ G env (.aug i .add e) s=.ok (.nx (env.set i (some (.tup (x++y))))) s:=by
  rw[exS,hu]
  show (if Bop.add=.add then _ else _)=_
  rw[if_pos rfl,h,zN]
  show ((if x.length+y.length≤zV then Out.ok (Val.tup (x++y)) s else .stuck).bind _)=_
  rw[if_pos hl];rfl
 refine yA.mpr ?_
 rw[this]
 exact zC.mpr q
end
end M
end
section
namespace F14
open PySem M
noncomputable def yy:Fn:=⟨["thing"],["thing"],false,(.cons (.expr (.call "need_whole" 0 (.cons (.var 0) (.cons (.lit (.int 0)) (.cons (.gl "MOST_PLACES") .nil))))) .nil)⟩
noncomputable def xE:Fn:=⟨["thing"],["thing"],false,(.cons (.expr (.call "need_whole" 0 (.cons (.var 0) (.cons (.lit (.int 1)) (.cons (.gl "MOST_PLACES") .nil))))) .nil)⟩
end F14
end
section
namespace M
open PySem
theorem zm{s:Sto}{v:Val}(h:v.noRef=true):(yI false s v s).post fun x t=>x=v∧t=s:=by
 rw[vF h];exact zC.mpr ⟨rfl,rfl⟩
theorem Yj(ns:List Int):(tpI ns).noRef=true:=xn ns
noncomputable abbrev zc(os:List Nat):List Int:=os.map fun(h:Nat)=>(h:Int)
section
variable {T:Tbl}{Φ:Calls}{s:Sto}
def sj(Φ:Calls):Prop:=∀(i:Int) (s:Sto),0≤i→i≤40→Φ "need_first" 0 [.int i] s=.ok .none s
def ql(Φ:Calls):Prop:=∀(i:Int) (s:Sto),1≤i→i≤40→Φ "need_step" 0 [.int i] s=.ok .none s
end
end M
end
section
namespace M
open PySem
theorem vq{α β:Type}{f:α→β}:∀{l:List α},l.Nodup→(∀a∈l,∀b∈l,f a=f b→a=b)→(l.map f).Nodup
 |[],_,_=>.nil
 |a::l,h,hi=>by
  rw[List.nodup_cons]at h
  rw[List.map_cons,List.nodup_cons]
  refine⟨fun hm=>?_,vq h.2 fun x hx y hy=>hi x (.tail _ hx) y (.tail _ hy)⟩
  obtain⟨b,hb,e⟩:=List.mem_map.mp hm
  exact h.1 (hi b (.tail _ hb) a (.head _) e▸hb)
end M
end
section
namespace F08
open PySem M
noncomputable def xF:Fn:=⟨["first","step","size"],["first","step","size"],false,(.cons (.expr (.call "need_first" 0 (.cons (.var 0) .nil))) (.cons (.expr (.call "need_step" 0 (.cons (.var 1) .nil))) (.cons (.expr (.call "need_size" 0 (.cons (.var 2) .nil))) (.cons (.ret (.blt .tuple false (.cons (.comp false ["at","first","step"] [none,some 0,some 1] (.bin false .add (.var 1) (.bin false .mul (.var 2) (.var 0))) (.nm 0) (.range1 (.var 2)) .nil) .nil))) .nil))))⟩
end F08
end
section
namespace M
open PySem
theorem wu{α β:Type}{p:α→Bool}{f:α→β}:∀l:List α,(l.flatMap fun r=>if p r then [f r] else [])=(l.filter p).map f
 |[]=>rfl
 |a::l=>by
  rw[List.flatMap_cons,wu l,List.filter_cons]
  cases p a<;>rfl
section
variable {T:Tbl}{Φ:Calls}{s:Sto}
def tF(Φ:Calls):Prop:=∀(f d z:Nat) (s:Sto),f≤40→1≤d→d≤40→2≤z→z≤8→Φ "places_of" 0 [.int f,.int d,.int z] s=.ok (tpI (sZ f d z)) s
theorem oj(c1:sj Φ)(c2:ql Φ)(c3:wD Φ){f d z:Nat}(h1:f≤40)(h2:1≤d)(h3:d≤40)(h4:2≤z)(h5:z≤8):run T Φ F08.xF [.int f,.int d,.int z] s=.ok (tpI (sZ f d z)) s:=by
 have hL:z≤zV:=Nat.le_trans h5 (by decide)
 rw[post_eq,F08.xF,yb]
 refine⟨rfl,?_⟩
 show (zW Φ T.gl [some (.int f),some (.int d),some (.int z)] _ s).post _
 refine yP (x_call (zA (zB rfl) zD) (c1 f s (by omega) (by omega))) (yP (x_call (zA (zB rfl) zD) (c2 d s (by omega) (by omega))) (yP (x_call (zA (zB rfl) zD) (c3 z s (by omega) (by omega))) (yc (yV (zA (Vt (n:=z) (f:=fun k=>((f+k*d:Nat):Int)) (rT (zB rfl) hL) rfl (fun k o hk=>?_) hL) zD) rfl) (zm (Yj _)))))
 have e:(f:Int)+(d:Int)*(k:Int)=((f+k*d:Nat):Int):=by
  rw[Int.natCast_add,Int.natCast_mul,Int.mul_comm]
 exact zq (zB rfl) (zq (zB rfl) (zB rfl) (kX (by omega))) (by rw[vP,e])
end
end M
end
section
namespace M
open PySem
theorem js{vs:List Val}{s:Sto}:blt .all false [.lst (vs.map fun _=>Val.bool true)] s=.ok (.bool true) s:=by
 have h:(vs.map fun _=>true).all id=true:=List.all_eq_true.mpr fun x hx=>by obtain⟨_,_,rfl⟩:=List.mem_map.mp hx;rfl
 show (match boolsOf (vs.map fun _=>Val.bool true) with|some bs=>Out.ok (Val.bool (bs.all id)) s|Option.none=>.stuck)=_
 rw[xm (fun _=>true)]
 show Out.ok (Val.bool ((vs.map fun _=>true).all id)) s=_
 rw[h]
end M
end
section
namespace M
open PySem
structure Lot(ls:List Nat):Prop where
 up:ls.Pairwise (·<·)
 lt:∀x∈ls,x<40
noncomputable def wR(ls:List Nat)(z:Nat)(r:Nat × Nat):Bool:=(List.range z).all fun k=>decide (r.1+k*r.2∈ls)
noncomputable def uk(ls:List Nat)(z:Nat)(r:Nat × Nat):Bool:=(List.range z).any fun k=>decide (r.1+k*r.2∈ls)
theorem wx{ls:List Nat}{z:Nat}{r:Nat × Nat}:wR ls z r=true↔∀k<z,r.1+k*r.2∈ls:=by
 unfold wR
 rw[List.all_eq_true]
 exact⟨fun h k hk=>of_decide_eq_true (h k (List.mem_range.mpr hk)),fun h k hk=>decide_eq_true (h k (List.mem_range.mp hk))⟩
theorem nh{ls:List Nat}{z:Nat}{r:Nat × Nat}:uk ls z r=true↔∃k<z,r.1+k*r.2∈ls:=by
 unfold uk
 rw[List.any_eq_true]
 exact⟨fun⟨k,hk,h⟩=>⟨k,List.mem_range.mp hk,of_decide_eq_true h⟩,fun⟨k,hk,h⟩=>⟨k,List.mem_range.mpr hk,decide_eq_true h⟩⟩
noncomputable def ffO(ls:List Nat)(z:Nat):Option (Nat × Nat):=(yS 40 z).find? (wR ls z)
noncomputable def uW(ls:List Nat)(z:Nat):Bool:=(ffO ls z).isNone
noncomputable def lC(n:Nat)(ls:List Nat)(z:Nat):Bool:=(yS n z).all (uk ls z)
def mf(ls:List Nat)(z:Nat):Prop:=∀f d,0<d→¬∀k<z,f+k*d∈ls
theorem uX{ls:List Nat}{z:Nat}(hz:2≤z)(hl:∀x∈ls,x<40):uW ls z=true↔mf ls z:=by
 unfold uW ffO
 rw[Option.isNone_iff_eq_none,List.find?_eq_none]
 constructor
 . intro h f d hd hf
   have hm:(f,d)∈yS 40 z:=(yu hz).mpr ⟨hd,by have:=hl _ (hf (z-1) (by omega));rw[Nat.mul_comm];exact this⟩
   exact h _ hm (wx.mpr hf)
 . intro h r hr hf
   exact h r.1 r.2 ((yu hz).mp (show (r.1,r.2)∈yS 40 z from hr)).1 (wx.mp hf)
theorem jA{n:Nat}{ls:List Nat}{z:Nat}(hz:2≤z):lC n ls z=true↔∀f d,0<d→f+d*(z-1)<n→∃k<z,f+k*d∈ls:=by
 unfold lC
 rw[List.all_eq_true]
 constructor
 . intro h f d hd hn
   exact nh.mp (h (f,d) ((yu hz).mpr ⟨hd,hn⟩))
 . intro h r hr
   obtain⟨h1,h2⟩:=(yu hz).mp (show (r.1,r.2)∈yS n z from hr)
   exact nh.mpr (h r.1 r.2 h1 h2)
noncomputable def zY(n:Nat)(ls:List Nat):List Nat:=(List.range n).filter fun p=>!decide (p∈ls)
theorem vY{n p:Nat}{ls:List Nat}:p∈zY n ls↔p<n∧p ∉ ls:=by
 unfold zY
 rw[List.mem_filter,List.mem_range]
 simp
theorem rW{n:Nat}{ls:List Nat}(hn:n≤40):Lot (zY n ls):=⟨List.Pairwise.sublist List.filter_sublist List.pairwise_lt_range,fun x hx=>by have:=(vY.mp hx).1;omega⟩
theorem dH{f d z k n:Nat}(hk:k<z)(h:f+d*(z-1)<n):f+k*d<n:=by
 have:k*d≤d*(z-1):=by rw[Nat.mul_comm];exact Nat.mul_le_mul_left _ (by omega)
 omega
theorem g8{n:Nat}{ls:List Nat}{z:Nat}(hz:2≤z)(hn:n≤40):lC n ls z=uW (zY n ls) z:=by
 rw[Bool.eq_iff_iff,jA hz,uX hz (rW hn).lt]
 constructor
 . intro h f d hd hf
   have hl:=(vY.mp (hf (z-1) (by omega))).1
   obtain⟨k,hk,hm⟩:=h f d hd (by rw[Nat.mul_comm];exact hl)
   exact(vY.mp (hf k hk)).2 hm
 . intro h f d hd hf
   refine Classical.byContradiction fun hc=>h f d hd fun k hk=>vY.mpr ⟨dH hk hf,fun hm=>hc ⟨k,hk,hm⟩⟩
theorem gM{n:Nat}{ls:List Nat}{z:Nat}(hz:2≤z)(h:mf ls z):lC n (zY n ls) z=true:=(jA hz).mpr fun f d hd hf=>Classical.byContradiction fun hc=>h f d hd fun k hk=>Classical.byContradiction fun hm=>hc ⟨k,hk,vY.mpr ⟨dH hk hf,hm⟩⟩
noncomputable def xJ(z:Nat)(ls:List Nat)(p:Nat):Bool:=(List.range (p/(z-1))).any fun j=>(List.range (z-1)).all fun k=>decide (p-(j+1)*(k+1)∈ls)
theorem nN{z p:Nat}{ls:List Nat}(hz:2≤z):xJ z ls p=true↔∃d,0<d∧d*(z-1)≤p∧∀k,1≤k→k<z→p-d*k∈ls:=by
 unfold xJ
 rw[List.any_eq_true]
 constructor
 . rintro ⟨j,hj,h⟩
   have hj:=List.mem_range.mp hj
   refine⟨j+1,by omega,(Nat.le_div_iff_mul_le (by omega)).mp hj,fun k h1 h2=>?_⟩
   have:=of_decide_eq_true (List.all_eq_true.mp h (k-1) (List.mem_range.mpr (by omega)))
   rwa [show k-1+1=k by omega]at this
 . rintro ⟨d,h1,h2,h3⟩
   refine⟨d-1,List.mem_range.mpr ?_,List.all_eq_true.mpr fun k hk=>decide_eq_true ?_⟩
   . have:=(Nat.le_div_iff_mul_le (show 0<z-1 by omega)).mpr h2
     omega
   . have:=h3 (k+1) (by omega) (by have:=List.mem_range.mp hk;omega)
     rwa [show d-1+1=d by omega]
theorem qt{z n:Nat}{ls:List Nat}(hz:2≤z)(hlt:∀x∈ls,x<n)(hb:mf ls z)(he:xJ z ls n=false):mf (ls++[n]) z:=fun f d hd hf=>by
 have hk:∀k<z,f+k*d∈ls∨f+k*d=n:=fun k hk=>by
  rcases List.mem_append.mp (hf k hk) with h|h
  . exact .inl h
  . exact .inr (List.mem_singleton.mp h)
 have hle:∀k<z,f+k*d≤n:=fun k h=>by
  rcases hk k h with h|h
  . exact Nat.le_of_lt (hlt _ h)
  . omega
 rcases hk (z-1) (by omega) with h|h
 . refine hb f d hd fun k hkz=>?_
   rcases hk k hkz with h1|h1
   . exact h1
   . have:=hlt _ h
     have:k*d≤(z-1)*d:=Nat.mul_le_mul_right _ (by omega)
     omega
 . have:xJ z ls n=true:=(nN hz).mpr ⟨d,hd,by rw[Nat.mul_comm];omega,fun k h1 h2=>by
    have e:n-d*k=f+(z-1-k)*d:=by
     have:(z-1-k)*d=(z-1)*d-k*d:=Nat.sub_mul _ _ _
     have:k*d≤(z-1)*d:=Nat.mul_le_mul_right _ (by omega)
     rw[Nat.mul_comm d k];omega
    rw[e]
    rcases hk (z-1-k) (by omega) with h3|h3
    . exact h3
    . exfalso
      have:1*d≤k*d:=Nat.mul_le_mul_right _ h1
      have e2:(z-1-k)*d=(z-1)*d-k*d:=Nat.sub_mul _ _ _
      have:k*d≤(z-1)*d:=Nat.mul_le_mul_right _ (by omega)
      omega⟩
   rw[he]at this;cases this
noncomputable def zJ(z:Nat):Nat→List Nat
 |0=>[]
 |n+1=>if xJ z (zJ z n) n then zJ z n else zJ z n++[n]
theorem xI{z:Nat}:∀{n x:Nat},x∈zJ z n→x<n
 |n+1,x,h=>by
  unfold zJ at h
  split at h
  . have:=xI h;omega
  . rcases List.mem_append.mp h with h|h
    . have:=xI h;omega
    . rw[List.mem_singleton.mp h];omega
theorem vS{z:Nat}:∀n,(zJ z n).Pairwise (·<·)
 |0=>.nil
 |n+1=>by
  unfold zJ
  split
  . exact vS n
  . rw[List.pairwise_append]
    exact⟨vS n,List.pairwise_singleton _ _,fun a ha b hb=>by rw[List.mem_singleton.mp hb];exact xI ha⟩
theorem j8{z n:Nat}(hn:n≤40):Lot (zJ z n):=⟨vS n,fun x hx=>by have:=xI hx;omega⟩
theorem uJ{z:Nat}(hz:2≤z):∀n,mf (zJ z n) z
 |0=>fun f d _ h=>by cases h 0 (by omega)
 |n+1=>by
  unfold zJ
  cases he:xJ z (zJ z n) n with
  |true=>rw[if_pos rfl];exact uJ hz n
  |false=>rw[if_neg Bool.false_ne_true];exact qt hz (fun x hx=>xI hx) (uJ hz n) he
theorem gk{z p:Nat}:p∈zJ z (p+1)↔xJ z (zJ z p) p=false:=by
 show p∈(if xJ z (zJ z p) p then zJ z p else zJ z p++[p])↔_
 cases xJ z (zJ z p) p with
 |true=>rw[if_pos rfl];exact⟨fun h=>absurd (xI h) (Nat.lt_irrefl _),fun h=>by cases h⟩
 |false=>rw[if_neg Bool.false_ne_true];exact⟨fun _=>rfl,fun _=>List.mem_append_right _ (.head _)⟩
theorem wo{z p:Nat}:∀{n:Nat},p<n→(p∈zJ z n↔p∈zJ z (p+1))
 |n+1,h=>by
  by_cases e:p=n
  . rw[e]
  . rw[←wo (n:=n) (by omega)]
    show p∈(if xJ z (zJ z n) n then zJ z n else zJ z n++[n])↔_
    split
    . exact Iff.rfl
    . exact⟨fun h=>(List.mem_append.mp h).elim id fun h=>absurd (List.mem_singleton.mp h) e,fun h=>List.mem_append_left _ h⟩
theorem j9{z x p n:Nat}(hp:p≤n)(h:x∈zJ z p):x∈zJ z n:=by
 have hx:=xI h
 exact(wo (by omega)).mpr ((wo hx).mp h)
theorem lA{z p n:Nat}(hz:2≤z)(hp:p<n)(hm:p ∉ zJ z n){ls:List Nat}(hl:∀x,x∈ls↔x∈zJ z n∨x=p):¬mf ls z:=fun hb=>by
 have he:xJ z (zJ z p) p=true:=by
  cases e:xJ z (zJ z p) p with
  |true=>rfl
  |false=>exact absurd ((wo hp).mpr (gk.mpr e)) hm
 obtain⟨d,hd,h1,h2⟩:=(nN hz).mp he
 refine hb (p-d*(z-1)) d hd fun k hk=>(hl _).mpr ?_
 by_cases e:k=z-1
 . right;rw[e,Nat.mul_comm (z-1)];omega
 . left
   have h3:=h2 (z-1-k) (by omega) (by omega)
   have e2:d*(z-1-k)=d*(z-1)-d*k:=Nat.mul_sub _ _ _
   have:d*k≤d*(z-1):=Nat.mul_le_mul_left _ (by omega)
   rw[show p-d*(z-1)+k*d=p-d*(z-1-k) by rw[Nat.mul_comm k d,e2];omega]
   exact j9 (Nat.le_of_lt hp) h3
noncomputable def zr(z:Nat):Nat→List (List Nat)
 |0=>[[]]
 |n+1=>zr z n++((zr z n).filter fun l=>!xJ z l n).map fun l=>l++[n]
structure BL(z n:Nat)(l:List Nat):Prop where
 up:l.Pairwise (·<·)
 lt:∀x∈l,x<n
 bare:mf l z
theorem wJ{z:Nat}(hz:2≤z):∀{n:Nat} {l:List Nat},l∈zr z n→BL z n l
 |0,l,h=>by
  rw[List.mem_singleton.mp h]
  exact⟨.nil,fun _ h=>(by cases h),fun f d _ h=>by cases h 0 (by omega)⟩
 |n+1,l,h=>by
  rcases List.mem_append.mp h with h|h
  . have b:=wJ hz h
    exact⟨b.up,fun x hx=>Nat.lt_succ_of_lt (b.lt x hx),b.bare⟩
  . obtain⟨l',h',rfl⟩:=List.mem_map.mp h
    obtain⟨h1,h2⟩:=List.mem_filter.mp h'
    have b:=wJ hz h1
    refine⟨?_,fun x hx=>?_,qt hz b.lt b.bare (by simpa using h2)⟩
    . rw[List.pairwise_append]
      exact⟨b.up,List.pairwise_singleton _ _,fun a ha c hc=>by rw[List.mem_singleton.mp hc];exact b.lt a ha⟩
    . rcases List.mem_append.mp hx with hx|hx
      . exact Nat.lt_succ_of_lt (b.lt x hx)
      . rw[List.mem_singleton.mp hx];omega
theorem qr{z:Nat}:∀n,(zr z n).length≤2 ^ n
 |0=>Nat.le_refl _
 |n+1=>by
  have h1:=qr (z:=z) n
  have h2:=List.length_filter_le (fun l=>!xJ z l n) (zr z n)
  show (zr z n++_).length≤_
  rw[List.length_append,List.length_map,Nat.pow_succ]
  omega
theorem rA{z:Nat}(hz:2≤z):∀n,(zr z n).Nodup
 |0=>by show ([[]]:List (List Nat)).Nodup;decide
 |n+1=>by
  show (zr z n++_).Nodup
  rw[List.nodup_append]
  refine⟨rA hz n,vq (List.Nodup.sublist List.filter_sublist (rA hz n)) fun a _ b _ e=>List.append_cancel_right e,fun a ha b hb e=>?_⟩
  obtain⟨l,_,rfl⟩:=List.mem_map.mp hb
  have:=(wJ hz ha).lt n (by rw[e];exact List.mem_append_right _ (.head _))
  omega
theorem rH{z:Nat}:∀n,zJ z n∈zr z n
 |0=>.head _
 |n+1=>by
  show (if xJ z (zJ z n) n then zJ z n else zJ z n++[n])∈zr z n++_
  cases he:xJ z (zJ z n) n with
  |true=>rw[if_pos rfl];exact List.mem_append_left _ (rH n)
  |false=>
   rw[if_neg Bool.false_ne_true]
   exact List.mem_append_right _ (List.mem_map.mpr ⟨_,List.mem_filter.mpr ⟨rH n,by rw[he];rfl⟩,rfl⟩)
theorem fv{z:Nat}:∀n,[]∈zr z n
 |0=>.head _
 |n+1=>List.mem_append_left _ (fv n)
noncomputable def uj(z n:Nat):List Int:=(zr z n).map fun l=>(l.length:Int)
noncomputable def zX(z n:Nat):Int:=L2.wL 0 (uj z n)
theorem jN{z n:Nat}:uj z n≠[]:=fun h=>by
 have:=fv (z:=z) n
 rw[List.map_eq_nil_iff.mp h]at this;cases this
theorem sV{z n:Nat}:(∃l∈zr z n,zX z n=(l.length:Int))∧∀l∈zr z n,(l.length:Int)≤zX z n:=by
 obtain⟨h1,h2⟩:=L2.rY (d:=0) (jN (z:=z) (n:=n))
 obtain⟨l,hl,e⟩:=List.mem_map.mp h1
 exact⟨⟨l,hl,e.symm⟩,fun l hl=>h2 _ (List.mem_map.mpr ⟨l,hl,rfl⟩)⟩
theorem bR{z n:Nat}:zX z (n+1)-zX z n=0∨zX z (n+1)-zX z n=1:=by
 obtain⟨⟨a,ha,e1⟩,h1⟩:=sV (z:=z) (n:=n)
 obtain⟨⟨b,hb,e2⟩,h2⟩:=sV (z:=z) (n:=n+1)
 have g1:=h2 a (List.mem_append_left _ ha)
 have g2:(b.length:Int)≤zX z n+1:=by
  rcases List.mem_append.mp hb with h|h
  . have:=h1 b h;omega
  . obtain⟨l,hl,rfl⟩:=List.mem_map.mp h
    have:=h1 l (List.mem_filter.mp hl).1
    rw[List.length_append,List.length_singleton]
    omega
 omega
noncomputable def wA(z n:Nat):List (List Nat):=(zr z n).filter fun l=>decide ((l.length:Int)=zX z n)
theorem wM{z n:Nat}{l:List Nat}:l∈wA z n↔l∈zr z n∧(l.length:Int)=zX z n:=by
 unfold wA
 rw[List.mem_filter]
 simp
theorem bQ{z n:Nat}:wA z n≠[]:=fun h=>by
 obtain⟨⟨l,hl,e⟩,_⟩:=sV (z:=z) (n:=n)
 have:=wM.mpr ⟨hl,e.symm⟩
 rw[h]at this;cases this
theorem fg{n:Nat}{l:List Nat}(nd:l.Nodup)(hl:∀x∈l,x<n):l.length+(zY n l).length=n:=by
 have h1:((List.range n).filter fun p=>decide (p∈l)).length+(zY n l).length=(List.range n).length:=by
  unfold zY
  generalize List.range n=r
  induction r with
  |nil=>rfl
  |cons a r ih=>
   rw[List.filter_cons,List.filter_cons,List.length_cons]
   cases decide (a∈l)<;>simp<;>omega
 rw[List.length_range]at h1
 have n1:((List.range n).filter fun p=>decide (p∈l)).Nodup:=List.Nodup.sublist List.filter_sublist List.nodup_range
 have l1:=n1.length_le_of_subset (l₂:=l) fun p hp=>of_decide_eq_true (List.mem_filter.mp hp).2
 have l2:=nd.length_le_of_subset (l₂:=(List.range n).filter fun p=>decide (p∈l)) fun p hp=>List.mem_filter.mpr ⟨List.mem_range.mpr (hl p hp),decide_eq_true hp⟩
 omega
theorem du{l:List Nat}(h:l.Pairwise (·<·)):l.Nodup:=h.imp fun{a b} hab e=>by omega
theorem rK{p:Nat × Nat→Bool}:∀{l:List (Nat × Nat)} {r:Nat × Nat},(l.map toI).Pairwise (fun a b=>L2.z6 a<L2.z6 b)→r∈l→p r=true→(∀q∈l,p q=true→L2.z6 (toI r)≤L2.z6 (toI q))→l.find? p=some r
 |a::l,r,hs,hm,hp,hl=>by
  rw[List.map_cons,List.pairwise_cons]at hs
  rw[List.find?_cons]
  rcases List.mem_cons.mp hm with rfl|hm
  . rw[hp]
  . cases ha:p a with
    |true=>
     have h1:=hl a (.head _) ha
     have h2:=hs.1 (toI r) (List.mem_map_of_mem hm)
     omega
    |false=>exact rK hs.2 hm hp fun q hq=>hl q (.tail _ hq)
theorem nU{p:Nat × Nat→Bool}:∀{l:List (Nat × Nat)} {r:Nat × Nat},(l.map toI).Pairwise (fun a b=>L2.z6 a<L2.z6 b)→l.find? p=some r→r∈l∧p r=true∧∀q∈l,p q=true→L2.z6 (toI r)≤L2.z6 (toI q)
 |a::l,r,hs,h=>by
  rw[List.map_cons,List.pairwise_cons]at hs
  rw[List.find?_cons]at h
  cases ha:p a with
  |true=>
   rw[ha]at h
   cases h
   refine⟨.head _,ha,fun q hq _=>?_⟩
   rcases List.mem_cons.mp hq with rfl|hq
   . exact Int.le_refl _
   . exact Int.le_of_lt (hs.1 _ (List.mem_map_of_mem hq))
  |false=>
   rw[ha]at h
   obtain⟨h1,h2,h3⟩:=nU hs.2 h
   refine⟨.tail _ h1,h2,fun q hq hp=>?_⟩
   rcases List.mem_cons.mp hq with rfl|hq
   . rw[ha]at hp;cases hp
   . exact h3 q hq hp
noncomputable def xH(b:Nat)(ls:List Nat):List Nat:=ls.filter fun p=>decide (p+b<40)
noncomputable def yL(b:Nat)(ls:List Nat):List Nat:=(xH b ls).map (·+b)
theorem mT{b:Nat}{ls:List Nat}(h:Lot ls):Lot (xH b ls):=⟨h.up.sublist List.filter_sublist,fun x hx=>h.lt x (List.mem_filter.mp hx).1⟩
theorem pO{b:Nat}{ls:List Nat}(h:Lot ls):Lot (yL b ls):=by
 refine⟨?_,fun x hx=>?_⟩
 . unfold yL
   rw[List.pairwise_map]
   exact(mT h).up.imp fun{a c} hac=>by omega
 . obtain⟨y,hy,rfl⟩:=List.mem_map.mp hx
   exact of_decide_eq_true (List.mem_filter.mp hy).2
theorem rj{b f d z:Nat}{ls:List Nat}(hz:2≤z):wR (yL b ls) z (f+b,d)=wR (xH b ls) z (f,d):=by
 rw[Bool.eq_iff_iff,wx,wx]
 refine forall_congr' fun k=>forall_congr' fun _=>?_
 unfold yL
 rw[List.mem_map]
 constructor
 . rintro ⟨y,hy,e⟩
   have e:y+b=f+b+k*d:=e
   rwa [show f+k*d=y by omega]
 . intro h
   exact⟨_,h,by show f+k*d+b=f+b+k*d;omega⟩
theorem ft{b z:Nat}{ls:List Nat}(hz:2≤z):ffO (yL b ls) z=(ffO (xH b ls) z).map fun r=>(r.1+b,r.2):=by
 have rise:((yS 40 z).map toI).Pairwise (fun a b=>L2.z6 a<L2.z6 b):=l0 (Nat.le_refl _)
 have code:∀r:Nat × Nat,L2.z6 (toI (r.1+b,r.2))=L2.z6 (toI r)+1000*(b:Int):=fun r=>by
  show ((r.1+b:Nat):Int)*1000+_=(r.1:Int)*1000+_+_
  rw[Int.natCast_add,Int.add_mul]
  show (r.1:Int)*1000+(b:Int)*1000+(r.2:Int)=(r.1:Int)*1000+(r.2:Int)+1000*(b:Int)
  omega
 have back:∀q∈yS 40 z,wR (yL b ls) z q=true→∃f,q=(f+b,q.2)∧(f,q.2)∈yS 40 z∧wR (xH b ls) z (f,q.2)=true:=fun q hq hf=>by
  obtain⟨h1,h2⟩:=(yu hz).mp (show (q.1,q.2)∈yS 40 z from hq)
  have h0:=wx.mp hf 0 (by omega)
  rw[Nat.zero_mul,Nat.add_zero]at h0
  obtain⟨y,_,e⟩:=List.mem_map.mp h0
  have e:y+b=q.1:=e
  have eq:q=(y+b,q.2):=Prod.ext e.symm rfl
  refine⟨y,eq,(yu hz).mpr ⟨h1,by omega⟩,?_⟩
  rw[←rj hz,←eq];exact hf
 cases h:ffO (xH b ls) z with
 |none=>
  unfold ffO at h ⊢
  rw[List.find?_eq_none]at h
  show _=none
  rw[List.find?_eq_none]
  intro q hq hf
  obtain⟨f,_,h1,h2⟩:=back q hq hf
  exact h _ h1 h2
 |some r=>
  obtain⟨h1,h2,h3⟩:=nU rise h
  have hf:wR (yL b ls) z (r.1+b,r.2)=true:=by rw[rj hz];exact h2
  have hm:(r.1+b,r.2)∈yS 40 z:=by
   obtain⟨g1,_⟩:=(yu hz).mp (show (r.1,r.2)∈yS 40 z from h1)
   have:=wx.mp h2 (z-1) (by omega)
   have:=of_decide_eq_true (List.mem_filter.mp this).2
   exact(yu hz).mpr ⟨g1,by rw[Nat.mul_comm r.2];omega⟩
  refine rK rise hm hf fun q hq hqf=>?_
  obtain⟨f,e,g1,g2⟩:=back q hq hqf
  have:=h3 _ g1 g2
  rw[e,code r,code (f,q.2)]
  omega
end M
end
section
namespace F55
open PySem M
noncomputable def xS:Fn:=⟨["_law_pen_here","_law_far","_law_share"],["_law_pen_here"],false,(.cons (.par [1,2] (.cons (.ix (.lst false (.cons (.lit (.int 12)) (.cons (.lit (.int 40)) (.cons (.lit (.int 24)) .nil)))) (.call "_law_draw" 0 (.cons (.var 0) (.cons (.lit (.int 3)) .nil)))) (.cons (.bin false .add (.lit (.int 2)) (.call "_law_draw" 0 (.cons (.var 0) (.cons (.lit (.int 3)) .nil)))) .nil))) (.cons (.ret (.blt .tuple false (.cons (.comp false ["_law_place","_law_pen_here","_law_share"] [none,some 0,some 2] (.var 0) (.nm 0) (.range1 (.var 1)) (.cons (.val (.cmp .eq (.call "_law_draw" 0 (.cons (.var 1) (.cons (.var 2) .nil))) (.lit (.int 0)))) .nil)) .nil))) .nil))⟩
noncomputable def xT:Fn:=⟨["size","length","lots","many"],["size","length"],false,(.cons (.asg 2 (.call "bare_lots" 0 (.cons (.var 0) (.cons (.var 1) .nil)))) (.cons (.asg 3 (.blt .max false (.cons (.comp false ["lot"] [none] (.blt .len false (.cons (.var 0) .nil)) (.nm 0) (.val (.var 2)) .nil) .nil))) (.cons (.ret (.blt .sorted false (.cons (.comp false ["lot","many"] [none,some 3] (.var 0) (.nm 0) (.val (.var 2)) (.cons (.val (.cmp .eq (.blt .len false (.cons (.var 0) .nil)) (.var 1))) .nil)) .nil))) .nil)))⟩
noncomputable def y9:Fn:=⟨["size","length","lots","place"],["size","length"],false,(.cons (.expr (.call "need_size" 0 (.cons (.var 0) .nil))) (.cons (.expr (.call "need_short_length" 0 (.cons (.var 1) .nil))) (.cons (.asg 2 (.lst false (.cons (.tup .nil) .nil))) (.cons (.forS (.nm 3) (.range1 (.var 1)) (.cons (.asg 2 (.bin false .add (.var 2) (.comp false ["lot","size","place"] [none,some 0,some 3] (.bin false .add (.var 0) (.tup (.cons (.var 2) .nil))) (.nm 0) (.val (.var 2)) (.cons (.not (.val (.call "ends_row" 0 (.cons (.var 1) (.cons (.var 0) (.cons (.var 2) .nil)))))) .nil)))) .nil)) (.cons (.ret (.var 2)) .nil)))))⟩
noncomputable def vm:Fn:=⟨["size","length","lot","place"],["size","length"],false,(.cons (.expr (.call "need_early_size" 0 (.cons (.var 0) .nil))) (.cons (.expr (.call "need_length" 0 (.cons (.var 1) .nil))) (.cons (.asg 2 (.tup .nil)) (.cons (.forS (.nm 3) (.range1 (.var 1)) (.cons (.ifS (.not (.val (.call "ends_row" 0 (.cons (.var 0) (.cons (.var 2) (.cons (.var 3) .nil)))))) (.cons (.aug 2 .add (.tup (.cons (.var 3) .nil))) .nil) .nil) .nil)) (.cons (.ret (.var 2)) .nil)))))⟩
noncomputable def xU:Fn:=⟨["size","lot","place","step"],["size","lot","place"],false,(.cons (.forS (.nm 3) (.range2 (.lit (.int 1)) (.bin false .add (.bin false .fdiv (.var 2) (.bin false .sub (.var 0) (.lit (.int 1)))) (.lit (.int 1)))) (.cons (.ifS (.val (.blt .all false (.cons (.comp false ["at","lot","place","step"] [none,some 1,some 2,some 3] (.cmp .in_ (.bin false .sub (.var 2) (.bin false .mul (.var 3) (.var 0))) (.var 1)) (.nm 0) (.range2 (.lit (.int 1)) (.var 0)) .nil) .nil))) (.cons (.ret (.lit (.bool true))) .nil) .nil) .nil)) (.cons (.ret (.lit (.bool false))) .nil))⟩
noncomputable def yl:Fn:=⟨["size","length"],["size","length"],false,(.cons (.ret (.blt .len false (.cons (.call "first_hit" 0 (.cons (.var 0) (.cons (.var 1) .nil))) .nil))) .nil)⟩
noncomputable def yw:Fn:=⟨["size","lot","first","step"],["size","lot"],false,(.cons (.expr (.call "need_size" 0 (.cons (.var 0) .nil))) (.cons (.expr (.call "need_lot" 0 (.cons (.var 1) .nil))) (.cons (.forS (.nms [2,3]) (.val (.call "rows_in" 0 (.cons (.gl "MOST_PLACES") (.cons (.var 0) .nil)))) (.cons (.ifS (.val (.blt .all false (.cons (.comp false ["place","lot"] [none,some 1] (.cmp .in_ (.var 0) (.var 1)) (.nm 0) (.val (.call "places_of" 0 (.cons (.var 2) (.cons (.var 3) (.cons (.var 0) .nil))))) .nil) .nil))) (.cons (.ret (.tup (.cons (.var 2) (.cons (.var 3) .nil)))) .nil) .nil) .nil)) (.cons (.ret (.lit .none)) .nil))))⟩
noncomputable def xA:Fn:=⟨["size","length"],["size","length"],false,(.cons (.ret (.blt .minT false (.cons (.comp false ["lot","length"] [none,some 1] (.call "places_left" 0 (.cons (.var 1) (.cons (.var 0) .nil))) (.nm 0) (.val (.call "all_most" 0 (.cons (.var 0) (.cons (.var 1) .nil)))) .nil) .nil))) .nil)⟩
noncomputable def yx:Fn:=⟨["size","length"],["size","length"],false,(.cons (.ret (.ix (.call "all_most" 0 (.cons (.var 0) (.cons (.var 1) .nil))) (.lit (.int 0)))) .nil)⟩
noncomputable def tG:Fn:=⟨["size","length","lot","first","step"],["size","length","lot"],false,(.cons (.expr (.call "need_size" 0 (.cons (.var 0) .nil))) (.cons (.expr (.call "need_length" 0 (.cons (.var 1) .nil))) (.cons (.expr (.call "need_lot" 0 (.cons (.var 2) .nil))) (.cons (.forS (.nms [3,4]) (.val (.call "rows_in" 0 (.cons (.var 1) (.cons (.var 0) .nil)))) (.cons (.ifS (.not (.val (.blt .any false (.cons (.comp false ["place","lot"] [none,some 2] (.cmp .in_ (.var 0) (.var 1)) (.nm 0) (.val (.call "places_of" 0 (.cons (.var 3) (.cons (.var 4) (.cons (.var 0) .nil))))) .nil) .nil)))) (.cons (.ret (.lit (.bool false))) .nil) .nil) .nil)) (.cons (.ret (.lit (.bool true))) .nil)))))⟩
noncomputable def wF:Fn:=⟨["size","lot"],["size","lot"],false,(.cons (.ret (.cmp .is (.call "first_full" 0 (.cons (.var 0) (.cons (.var 1) .nil))) (.lit .none))) .nil)⟩
noncomputable def xV:Fn:=⟨["size","place"],["size","place"],false,(.cons (.expr (.call "need_early_size" 0 (.cons (.var 0) .nil))) (.cons (.expr (.call "need_lot_place" 0 (.cons (.var 1) .nil))) (.cons (.ret (.cmp .in_ (.var 1) (.call "early" 0 (.cons (.var 0) (.cons (.bin false .add (.var 1) (.lit (.int 1))) .nil))))) .nil)))⟩
noncomputable def we:Fn:=⟨["thing"],["thing"],false,(.cons (.ret (.andE (.blt .isi false (.cons (.var 0) (.cons (.ty "tuple" "tuple") .nil))) (.cons (.call "are_wholes" 0 (.cons (.var 0) (.cons (.lit (.int 0)) (.cons (.bin false .sub (.gl "MOST_PLACES") (.lit (.int 1))) .nil)))) (.cons (.call "is_rising" 0 (.cons (.var 0) .nil)) .nil)))) .nil)⟩
noncomputable def xB:Fn:=⟨["numbers"],["numbers"],false,(.cons (.ret (.blt .all false (.cons (.comp false ["one","other"] [none,none] (.cmp .lt (.var 0) (.var 1)) (.nms [0,1]) (.zip (.var 0) (.sl false (.var 0) (.yes (.lit (.int 1))) .no .no)) .nil) .nil))) .nil)⟩
noncomputable def tH:Fn:=⟨["size","length"],["size","length"],false,(.cons (.ret (.blt .len false (.cons (.call "first_most" 0 (.cons (.var 0) (.cons (.var 1) .nil))) .nil))) .nil)⟩
noncomputable def yE:Fn:=⟨["thing"],["thing"],false,(.cons (.expr (.call "need_whole" 0 (.cons (.var 0) (.cons (.gl "LEAST_EARLY_SIZE") (.cons (.gl "MOST_SIZE") .nil))))) .nil)⟩
noncomputable def xX:Fn:=⟨["thing"],["thing"],false,(.cons (.ifS (.not (.val (.call "is_lot" 0 (.cons (.var 0) .nil)))) (.cons (.raise (.lit .none)) .nil) .nil) .nil)⟩
noncomputable def yJ:Fn:=⟨["thing"],["thing"],false,(.cons (.ifS (.not (.val (.call "is_whole" 0 (.cons (.var 0) (.cons (.lit (.int 0)) (.cons (.bin false .sub (.gl "MOST_PLACES") (.lit (.int 1))) .nil)))))) (.cons (.raise (.lit .none)) .nil) .nil) .nil)⟩
noncomputable def zw:Fn:=⟨["thing"],["thing"],false,(.cons (.expr (.call "need_length" 0 (.cons (.var 0) .nil))) (.cons (.ifS (.val (.cmp .gt (.var 0) (.gl "MOST_LENGTH"))) (.cons (.raise (.lit .none)) .nil) .nil) .nil))⟩
noncomputable def yn:Fn:=⟨["length","lot"],["length","lot"],false,(.cons (.ret (.blt .tuple false (.cons (.comp false ["place","lot"] [none,some 1] (.var 0) (.nm 0) (.range1 (.var 0)) (.cons (.val (.cmp .notIn (.var 0) (.var 1))) .nil)) .nil))) .nil)⟩
end F55
end
section
namespace M
open PySem
noncomputable abbrev zG(ls:List Nat):Val:=tpI (zc ls)
theorem yj(ls:List Nat):(zc ls).map Val.int=ls.map fun(k:Nat)=>Val.int k:=by rw[List.map_map];rfl
theorem nP(ls:List Nat):((zc ls).map Val.int).all flat=true:=List.all_eq_true.mpr fun v hv=>by obtain⟨i,_,rfl⟩:=List.mem_map.mp hv;rfl
theorem kT{p:Nat}{ls:List Nat}:((zc ls).map Val.int).any (fun z=>eqF z (.int (p:Int)))=decide (p∈ls):=by
 rw[Bool.eq_iff_iff,List.any_eq_true,decide_eq_true_eq]
 constructor
 . rintro ⟨v,hv,e⟩
   rw[yj]at hv
   obtain⟨k,hk,rfl⟩:=List.mem_map.mp hv
   have e:((k:Int) == (p:Int))=true:=e
   have:=eq_of_beq e
   rwa [show p=k by omega]
 . intro h
   exact⟨.int (p:Int),by rw[yj];exact List.mem_map.mpr ⟨p,h,rfl⟩,beq_self_eq_true (p:Int)⟩
theorem oN{p:Nat}{ls:List Nat}{s:Sto}:zU .in_ (.int (p:Int)) (zG ls) s=.ok (.bool (decide (p∈ls))) s:=by
 show (if (flat (.int (p:Int))&&((zc ls).map Val.int).all flat)=true then Out.ok (Val.bool (((zc ls).map Val.int).any fun z=>eqF z (.int (p:Int)))) s else _)=_
 rw[if_pos (by rw[nP];rfl),kT]
theorem pR{p:Nat}{ls:List Nat}{s:Sto}:zU .notIn (.int (p:Int)) (zG ls) s=.ok (.bool !decide (p∈ls)) s:=by
 show (if (flat (.int (p:Int))&&((zc ls).map Val.int).all flat)=true then Out.ok (Val.bool !(((zc ls).map Val.int).any fun z=>eqF z (.int (p:Int)))) s else _)=_
 rw[if_pos (by rw[nP];rfl),kT]
theorem qz{bs:List Bool}{s:Sto}:blt .all false [.lst (bs.map Val.bool)] s=.ok (.bool (bs.all id)) s:=by
 show (match boolsOf (bs.map Val.bool) with|some bs=>Out.ok (Val.bool (bs.all id)) s|Option.none=>.stuck)=_
 rw[xm (fun b=>b),List.map_id']
theorem jt{bs:List Bool}{s:Sto}:blt .any false [.lst (bs.map Val.bool)] s=.ok (.bool (bs.any id)) s:=by
 show (match boolsOf (bs.map Val.bool) with|some bs=>Out.ok (Val.bool (bs.any id)) s|Option.none=>.stuck)=_
 rw[xm (fun b=>b),List.map_id']
noncomputable def plN(f d z:Nat):List Nat:=(List.range z).map fun k=>f+k*d
theorem eT(f d z:Nat):sZ f d z=zc (plN f d z):=by unfold sZ plN zc;rw[List.map_map];rfl
noncomputable def inG(ls:List Nat):Val→List Val
 |.int i=>[.bool (decide (i.toNat∈ls))]
 |_=>[]
structure GlL(T:Tbl):Prop where
 mp:T.gl "MOST_PLACES"=some (.int 40)
 ls:T.gl "LEAST_SIZE"=some (.int 2)
 ms:T.gl "MOST_SIZE"=some (.int 8)
 le:T.gl "LEAST_EARLY_SIZE"=some (.int 3)
 ml:T.gl "MOST_LENGTH"=some (.int 12)
section
variable {T:Tbl}{Φ:Calls}{G:Str→Option Val}{s:Sto}
theorem Vs{env:Env}{N:List Str}{il:Nat}{e:Ex}{ps ls:List Nat}(he:evE Φ G env e s=.ok (zG ps) s)(h0:zk [none,some il] env=[none,some (zG ls)]) :
 evE Φ G env (.comp false N [none,some il] (.cmp .in_ (.var 0) (.var 1)) (.nm 0) (.val e) .nil) s=.ok (.lst ((ps.map fun p=>decide (p∈ls)).map Val.bool)) s:=by
 rw[post_eq]
 refine y7 (fun e=>∃o,e=[o,some (zG ls)]) (inG ls) ((zc ps).map .int) (s1:=s) (wZ he rfl) ⟨none,h0⟩ ?_ ?_
 . rintro x hx e ⟨o,rfl⟩
   rw[yj]at hx
   obtain⟨p,hp,rfl⟩:=List.mem_map.mp hx
   refine⟨_,rfl,⟨_,rfl⟩,xj.mpr ⟨rfl,?_⟩⟩
   rw[if_pos rfl]
   show (evE Φ G [some (.int (p:Int)),some (zG ls)] _ s).post _
   rw[yZ (zB rfl) (zB rfl) oN]
   refine zC.mpr ⟨rfl,?_⟩
   show [Val.bool (decide ((p:Int).toNat∈ls))]=_
   rw[Int.toNat_natCast]
 . have e:((zc ps).map Val.int).flatMap (inG ls)=(ps.map fun p=>decide (p∈ls)).map Val.bool:=by
    rw[yj,List.flatMap_map,List.map_map]
    have:(fun(k:Nat)=>inG ls (.int (k:Int)))=fun k=>[(Val.bool∘fun p=>decide (p∈ls)) k]:=by
     funext k
     show [Val.bool (decide ((k:Int).toNat∈ls))]=_
     rw[Int.toNat_natCast];rfl
    rw[this,sD]
   rw[e]
   exact zC.mpr ⟨rfl,rfl⟩
noncomputable def jM(ls:List Nat):Val→List Val
 |.int i=>if !decide (i.toNat∈ls) then [.int i] else []
 |_=>[]
theorem d8{env:Env}{N:List Str}{il:Nat}{e:Ex}{n:Nat}{ls:List Nat}(he:evE Φ G env e s=.ok (.int (n:Int)) s)(hn:n≤40)(h0:zk [none,some il] env=[none,some (zG ls)]) :
 evE Φ G env (.blt .tuple false (.cons (.comp false N [none,some il] (.var 0) (.nm 0) (.range1 e) (.cons (.val (.cmp .notIn (.var 0) (.var 1))) .nil)) .nil)) s=.ok (zG (zY n ls)) s:=by
 have hc:evE Φ G env (.comp false N [none,some il] (.var 0) (.nm 0) (.range1 e) (.cons (.val (.cmp .notIn (.var 0) (.var 1))) .nil)) s=.ok (.lst ((zc (zY n ls)).map .int)) s:=by
  rw[post_eq]
  refine y7 (fun e=>∃o,e=[o,some (zG ls)]) (jM ls) (yX 0 n) (s1:=s) (rT he (by unfold zV;omega)) ⟨none,h0⟩ ?_ ?_
  . rintro x hx e ⟨o,rfl⟩
    obtain⟨p,hp,rfl⟩:=vJ hx
    rw[Int.zero_add]
    refine⟨_,rfl,⟨_,rfl⟩,?_⟩
    show (yh Φ G [some (.int (p:Int)),some (zG ls)] _ s).post _
    rw[uP (yO (yZ (zB rfl) (zB rfl) pR) zZ)]
    refine zC.mpr ⟨rfl,?_⟩
    have e:jM ls (.int (p:Int))=if !decide (p∈ls) then [.int (p:Int)] else []:=by
     show (if !decide ((p:Int).toNat∈ls) then _ else _)=_
     rw[Int.toNat_natCast]
    rw[e]
    cases decide (p∈ls) with
    |true=>rfl
    |false=>
     show (evE Φ G [some (.int (p:Int)),some (zG ls)] (.var 0) s).post _
     rw[zB rfl]
     exact zC.mpr ⟨rfl,rfl⟩
  . have e:(yX 0 n).flatMap (jM ls)=(zc (zY n ls)).map .int:=by
     unfold yX zY
     rw[List.flatMap_map,yj]
     have:(fun(k:Nat)=>jM ls (.int (0+(k:Int))))=fun k=>if !decide (k∈ls) then [Val.int (k:Int)] else []:=by
      funext k
      rw[Int.zero_add]
      show (if !decide ((k:Int).toNat∈ls) then _ else _)=_
      rw[Int.toNat_natCast]
     rw[this,wu (p:=fun k=>!decide (k∈ls)) (f:=fun(k:Nat)=>Val.int (k:Int))]
    rw[e]
    exact zC.mpr ⟨rfl,rfl⟩
 exact yV (zA hc zD) rfl
theorem cq{env:Env}{e1 e2:Ex}{vs ws:List Val}(h1:evE Φ G env e1 s=.ok (.tup vs) s)(h2:evE Φ G env e2 s=.ok (.tup ws) s)(hl:ws.length≤vs.length):yo Φ G env (.zip e1 e2) s=.ok ⟨qR vs ws,none⟩ s:=bnd h1 (bnd h2 (if_pos hl))
theorem aS{ls:List Nat}{s:Sto}:qe false (zG ls) (some ((1:Nat):Int)) none none s=.ok (zG (ls.drop 1)) s:=by
 show Out.ok (Val.tup (m7 ((zc ls).map Val.int) (some ((1:Nat):Int)) none)) s=_
 congr 2
 cases ls with
 |nil=>rfl
 |cons a l=>
  rw[cT (by simp),List.drop_succ_cons]
  rfl
def kP(Φ:Calls):Prop:=∀(ls:List Nat) (s:Sto),Lot ls→Φ "is_rising" 0 [zG ls] s=.ok (.bool true) s
theorem l6{ls:List Nat}(h:Lot ls):run T Φ F55.xB [zG ls] s=.ok (.bool true) s:=by
 rw[post_eq,F55.xB,yb]
 refine⟨rfl,?_⟩
 show (zW Φ T.gl [some (zG ls)] _ s).post _
 have hc:evE Φ T.gl [some (zG ls)] (.comp false ["one","other"] [none,none] (.cmp .lt (.var 0) (.var 1)) (.nms [0,1]) (.zip (.var 0) (.sl false (.var 0) (.yes (.lit (.int 1))) .no .no)) .nil) s=.ok (.lst ((qR ((zc ls).map .int) ((zc (ls.drop 1)).map .int)).map fun _=>Val.bool true)) s:=by
  rw[post_eq]
  refine y7 (fun e=>∃o1 o2,e=[o1,o2]) (fun _=>[.bool true]) (qR ((zc ls).map .int) ((zc (ls.drop 1)).map .int)) (s1:=s) (cq (zB rfl) (UU (zB rfl) (Wq zS) Wo Wo aS) (by rw[List.length_map,List.length_map,List.length_map,List.length_map,List.length_drop];omega)) ⟨none,none,rfl⟩ ?_ ?_
  . rintro x hx e ⟨o1,o2,rfl⟩
    obtain⟨i,hi⟩:=List.getElem?_of_mem hx
    obtain⟨a,b,h1,h2,rfl⟩:=kN hi
    rw[yj,List.getElem?_map]at h1 h2
    obtain⟨p,g1,rfl⟩:=Option.map_eq_some_iff.mp h1
    obtain⟨q,g2,rfl⟩:=Option.map_eq_some_iff.mp h2
    rw[List.getElem?_drop]at g2
    obtain⟨l1,rfl⟩:=List.getElem?_eq_some_iff.mp g1
    obtain⟨l2,rfl⟩:=List.getElem?_eq_some_iff.mp g2
    have hlt:=List.pairwise_iff_getElem.mp h.up i (1+i) l1 l2 (by omega)
    have hl:zU .lt (.int ((ls[i]:Nat):Int)) (.int ((ls[1+i]:Nat):Int)) s=.ok (.bool true) s:=by
     show Out.ok (Val.bool (decide (((ls[i]:Nat):Int)<((ls[1+i]:Nat):Int)))) s=_
     rw[decide_eq_true (by omega)]
    refine⟨_,rfl,⟨_,_,rfl⟩,xj.mpr ⟨rfl,?_⟩⟩
    rw[if_pos rfl]
    show (evE Φ T.gl [some (.int ((ls[i]:Nat):Int)),some (.int ((ls[1+i]:Nat):Int))] _ s).post _
    rw[yZ (zB rfl) (zB rfl) hl]
    exact zC.mpr ⟨rfl,rfl⟩
  . rw[sD]
    exact zC.mpr ⟨rfl,rfl⟩
 exact yc (yV (zA hc zD) js) (zm xO)
def gG(Φ:Calls):Prop:=∀(ls:List Nat) (s:Sto),Lot ls→Φ "is_lot" 0 [zG ls] s=.ok (.bool true) s
theorem i8(g:GlL T)(c:kQ Φ)(cR:kP Φ){ls:List Nat}(h:Lot ls):run T Φ F55.we [zG ls] s=.ok (.bool true) s:=by
 have c1:=c ((zc ls).map .int) 0 39 s iO
 rw[mn (fun x hx=>by obtain⟨k,hk,rfl⟩:=List.mem_map.mp hx;have:=h.lt k hk;omega)]at c1
 rw[post_eq,F55.we,yb]
 refine⟨rfl,?_⟩
 show (zW Φ T.gl [some (zG ls)] _ s).post _
 exact yc (d7 (yV (zA (zB rfl) (zA gC zD)) cn) (x_call (zA (zB rfl) (zA zS (zA (zq (gB g.mp) zS (show binOp false .sub (.int 40) (.int 1) s=.ok (.int 39) s from rfl)) zD))) c1) (x_call (zA (zB rfl) zD) (cR ls s h))) (zm xO)
def sk(Φ:Calls):Prop:=∀(ls:List Nat) (s:Sto),Lot ls→Φ "need_lot" 0 [zG ls] s=.ok .none s
theorem mR(c:gG Φ){ls:List Nat}(h:Lot ls):run T Φ F55.xX [zG ls] s=.ok .none s:=by
 rw[post_eq,F55.xX,yb]
 refine⟨rfl,?_⟩
 show (zW Φ T.gl [some (zG ls)] _ s).post _
 exact xp (sF (yO (x_call (zA (zB rfl) zD) (c ls s h)) zZ)) (wX (zm rfl))
def uA(Φ:Calls):Prop:=∀(i:Int) (s:Sto),3≤i→i≤8→Φ "need_early_size" 0 [.int i] s=.ok .none s
theorem qZ(g:GlL T)(c:xR Φ){i:Int}(h1:3≤i)(h2:i≤8):run T Φ F55.yE [.int i] s=.ok .none s:=by
 rw[post_eq,F55.yE,yb]
 refine⟨rfl,?_⟩
 show (zW Φ T.gl [some (.int i)] _ s).post _
 exact yP (x_call (zA (zB rfl) (zA (gB g.le) (zA (gB g.ms) zD))) (c i 3 8 s h1 h2)) (wX (zm rfl))
def vy(Φ:Calls):Prop:=∀(i:Int) (s:Sto),0≤i→i≤39→Φ "need_lot_place" 0 [.int i] s=.ok .none s
theorem tf(g:GlL T)(c:p5 Φ){i:Int}(h1:0≤i)(h2:i≤39):run T Φ F55.yJ [.int i] s=.ok .none s:=by
 have c1:=c (.int i) 0 39 s (by simp[kindOf])
 rw[t7 h1 h2]at c1
 rw[post_eq,F55.yJ,yb]
 refine⟨rfl,?_⟩
 show (zW Φ T.gl [some (.int i)] _ s).post _
 exact xp (sF (yO (x_call (zA (zB rfl) (zA zS (zA (zq (gB g.mp) zS (show binOp false .sub (.int 40) (.int 1) s=.ok (.int 39) s from rfl)) zD))) c1) zZ)) (wX (zm rfl))
def sm(Φ:Calls):Prop:=∀(i:Int) (s:Sto),0≤i→i≤12→Φ "need_short_length" 0 [.int i] s=.ok .none s
theorem qa(g:GlL T)(c:xk Φ){i:Int}(h1:0≤i)(h2:i≤12):run T Φ F55.zw [.int i] s=.ok .none s:=by
 have hgt:zU .gt (.int i) (.int 12) s=.ok (.bool false) s:=by
  show Out.ok (Val.bool (decide ((12:Int)<i))) s=_
  rw[decide_eq_false (by omega)]
 rw[post_eq,F55.zw,yb]
 refine⟨rfl,?_⟩
 show (zW Φ T.gl [some (.int i)] _ s).post _
 exact yP (x_call (zA (zB rfl) zD) (c i s h1 (by omega))) (xp (yO (yZ (zB rfl) (gB g.ml) hgt) zZ) (wX (zm rfl)))
noncomputable def ffV(o:Option (Nat × Nat)):Val:=match o with
 |none=>.none
 |some r=>vN r
theorem bV(r:Nat × Nat):(vN r).noRef=true:=by rw[vN,lP,w4,w4,sW,vZ,vZ];rfl
theorem XM{ls:List Nat}{z f d:Nat}:((plN f d z).map fun p=>decide (p∈ls)).all id=wR ls z (f,d):=by
 unfold plN wR
 rw[List.map_map,List.all_map];rfl
theorem XN{ls:List Nat}{z f d:Nat}:((plN f d z).map fun p=>decide (p∈ls)).any id=uk ls z (f,d):=by
 unfold plN uk
 rw[List.map_map,List.any_map];rfl
def gF(Φ:Calls):Prop:=∀(ls:List Nat) (z:Nat) (s:Sto),Lot ls→2≤z→z≤8→Φ "first_full" 0 [.int z,zG ls] s=.ok (ffV (ffO ls z)) s
theorem dN(g:GlL T)(c1:wD Φ)(c2:sk Φ)(cR:p4 Φ)(cP:tF Φ){ls:List Nat}{z:Nat}(h:Lot ls)(h2:2≤z)(h8:z≤8):run T Φ F55.yw [.int z,zG ls] s=.ok (ffV (ffO ls z)) s:=by
 rw[post_eq,F55.yw,yb]
 refine⟨rfl,?_⟩
 show (zW Φ T.gl [some (.int z),some (zG ls),none,none] _ s).post _
 refine yP (x_call (zA (zB rfl) zD) (c1 z s (by omega) (by omega))) (yP (x_call (zA (zB rfl) zD) (c2 ls s h)) ?_)
 refine yA.mpr (uM (fun rest e s'=>s'=s∧(∃o2 o3,e=[some (.int z),some (zG ls),o2,o3])∧∃todo,rest=todo.map vN∧(∀r∈todo,r∈yS 40 z)∧todo.find? (wR ls z)=ffO ls z) ((yS 40 z).map vN) (s1:=s) (wZ (x_call (zA (gB g.mp) (zA (zB rfl) zD)) (cR 40 z s (by omega) h2 h8)) rfl) ⟨rfl,⟨_,_,rfl⟩,_,rfl,fun r hr=>hr,rfl⟩ ?_ ?_)
 . rintro x rest e s' ⟨rfl,⟨o2,o3,rfl⟩,todo,hr,hm,hf⟩
   cases todo with
   |nil=>cases hr
   |cons r todo=>
    rw[List.map_cons]at hr
    obtain⟨rfl,rfl⟩:=List.cons.inj hr
    obtain⟨h3,h4⟩:=(yu h2).mp (show (r.1,r.2)∈yS 40 z from hm r (.head _))
    have h5:r.2*1≤r.2*(z-1):=Nat.mul_le_mul_left _ (by omega)
    have hp:=cP r.1 r.2 z s' (by omega) h3 (by omega) h2 h8
    rw[eT]at hp
    refine⟨_,rfl,?_⟩
    show (zW Φ T.gl [some (.int z),some (zG ls),some (.int (r.1:Nat)),some (.int (r.2:Nat))] _ s').post _
    have tt:=yO (Φ:=Φ) (G:=T.gl) (env:=[some (.int z),some (zG ls),some (.int (r.1:Nat)),some (.int (r.2:Nat))]) (s:=s') (yV (f:=.all) (m:=false) (zA (Vs (N:=["place","lot"]) (il:=1) (x_call (zA (zB (i:=2) rfl) (zA (zB (i:=3) rfl) (zA (zB (i:=0) rfl) zD))) hp) rfl) zD) qz) zZ
    rw[XM]at tt
    rw[List.find?_cons]at hf
    cases hb:wR ls z (r.1,r.2) with
    |true=>
     rw[hb]at tt
     rw[show wR ls z r=true from hb]at hf
     refine mS tt (yc (tD (zA (zB rfl) (zA (zB rfl) zD)) (show 2≤zV by decide)) ?_)
     show (yI false s' (vN r) s').post _
     rw[←hf]
     exact zm (bV r)
    |false=>
     rw[hb]at tt
     rw[show wR ls z r=false from hb]at hf
     exact xp tt (wX ⟨rfl,⟨_,_,rfl⟩,todo,rfl,fun q hq=>hm q (.tail _ hq),hf⟩)
 . rintro e s' ⟨rfl,⟨o2,o3,rfl⟩,todo,hr,hm,hf⟩
   obtain rfl:todo=[]:=List.map_eq_nil_iff.mp hr.symm
   rw[←hf]
   exact yc zS (zm rfl)
def gD(Φ:Calls):Prop:=∀(ls:List Nat) (z:Nat) (s:Sto),Lot ls→2≤z→z≤8→Φ "is_bare" 0 [.int z,zG ls] s=.ok (.bool (uW ls z)) s
theorem gp(o:Option (Nat × Nat)):(ffV o).isN=o.isNone:=by cases o<;>rfl
theorem i5(c:gF Φ){ls:List Nat}{z:Nat}(h:Lot ls)(h2:2≤z)(h8:z≤8):run T Φ F55.wF [.int z,zG ls] s=.ok (.bool (uW ls z)) s:=by
 rw[post_eq,F55.wF,yb]
 refine⟨rfl,?_⟩
 show (zW Φ T.gl [some (.int z),some (zG ls)] _ s).post _
 have hi:zU .is (ffV (ffO ls z)) .none s=.ok (.bool (uW ls z)) s:=by
  show Out.ok (Val.bool (ffV (ffO ls z)).isN) s=_
  rw[gp];rfl
 exact yc (yZ (x_call (zA (zB rfl) (zA (zB rfl) zD)) (c ls z s h h2 h8)) zS hi) (zm xO)
def aw(Φ:Calls):Prop:=∀(ls:List Nat) (n z:Nat) (s:Sto),Lot ls→n≤40→2≤z→z≤8→Φ "hits" 0 [.int z,.int n,zG ls] s=.ok (.bool (lC n ls z)) s
theorem dO(c1:wD Φ)(c3:xk Φ)(c2:sk Φ)(cR:p4 Φ)(cP:tF Φ){ls:List Nat}{n z:Nat}(h:Lot ls)(hn:n≤40)(h2:2≤z)(h8:z≤8):run T Φ F55.tG [.int z,.int n,zG ls] s=.ok (.bool (lC n ls z)) s:=by
 rw[post_eq,F55.tG,yb]
 refine⟨rfl,?_⟩
 show (zW Φ T.gl [some (.int z),some (.int n),some (zG ls),none,none] _ s).post _
 refine yP (x_call (zA (zB rfl) zD) (c1 z s (by omega) (by omega))) (yP (x_call (zA (zB rfl) zD) (c3 n s (by omega) (by omega))) (yP (x_call (zA (zB rfl) zD) (c2 ls s h)) ?_))
 refine yA.mpr (uM (fun rest e s'=>s'=s∧(∃o2 o3,e=[some (.int z),some (.int n),some (zG ls),o2,o3])∧∃todo,rest=todo.map vN∧(∀r∈todo,r∈yS n z)∧todo.all (uk ls z)=lC n ls z) ((yS n z).map vN) (s1:=s) (wZ (x_call (zA (zB rfl) (zA (zB rfl) zD)) (cR n z s hn h2 h8)) rfl) ⟨rfl,⟨_,_,rfl⟩,_,rfl,fun r hr=>hr,rfl⟩ ?_ ?_)
 . rintro x rest e s' ⟨rfl,⟨o2,o3,rfl⟩,todo,hr,hm,hf⟩
   cases todo with
   |nil=>cases hr
   |cons r todo=>
    rw[List.map_cons]at hr
    obtain⟨rfl,rfl⟩:=List.cons.inj hr
    obtain⟨h3,h4⟩:=(yu h2).mp (show (r.1,r.2)∈yS n z from hm r (.head _))
    have h5:r.2*1≤r.2*(z-1):=Nat.mul_le_mul_left _ (by omega)
    have hp:=cP r.1 r.2 z s' (by omega) h3 (by omega) h2 h8
    rw[eT]at hp
    refine⟨_,rfl,?_⟩
    show (zW Φ T.gl [some (.int z),some (.int n),some (zG ls),some (.int (r.1:Nat)),some (.int (r.2:Nat))] _ s').post _
    have tt:=sF (yO (Φ:=Φ) (G:=T.gl) (env:=[some (.int z),some (.int n),some (zG ls),some (.int (r.1:Nat)),some (.int (r.2:Nat))]) (s:=s') (yV (f:=.any) (m:=false) (zA (Vs (N:=["place","lot"]) (il:=2) (x_call (zA (zB (i:=3) rfl) (zA (zB (i:=4) rfl) (zA (zB (i:=0) rfl) zD))) hp) rfl) zD) jt) zZ)
    rw[XN]at tt
    rw[List.all_cons]at hf
    cases hb:uk ls z (r.1,r.2) with
    |true=>
     rw[hb]at tt
     rw[show uk ls z r=true from hb,Bool.true_and]at hf
     exact xp tt (wX ⟨rfl,⟨_,_,rfl⟩,todo,rfl,fun q hq=>hm q (.tail _ hq),hf⟩)
    |false=>
     rw[hb]at tt
     rw[show uk ls z r=false from hb,Bool.false_and]at hf
     refine mS tt (yc zS ?_)
     show (yI false s' (.bool false) s').post _
     rw[←hf]
     exact zm xO
 . rintro e s' ⟨rfl,⟨o2,o3,rfl⟩,todo,hr,hm,hf⟩
   obtain rfl:todo=[]:=List.map_eq_nil_iff.mp hr.symm
   refine yc zS ?_
   show (yI false s' (.bool true) s').post _
   rw[←hf]
   exact zm xO
end
end M
end
section
namespace M
open PySem
theorem nrT(ns:List Int):(tpI ns).noRef=true:=xn ns
noncomputable def unN(v:Val):List Nat:=(unI v).map Int.toNat
theorem wd(l:List Nat):unN (zG l)=l:=by
 unfold unN
 rw[kK,List.map_map]
 have:l.map (Int.toNat∘fun(h:Nat)=>(h:Int))=l.map id:=List.map_congr_left fun k _=>Int.toNat_natCast k
 rw[this,List.map_id]
theorem nc(L:List (List Nat)):L.map zG=tps (L.map zc):=by
 unfold tps
 rw[List.map_map];rfl
theorem bT(L:List (List Nat)):(Val.lst (L.map zG)).noRef=true:=by
 rw[oU,nc];exact uL _
theorem tZ(n:Nat):yX 0 n=(List.range' 0 n).map fun(q:Nat)=>Val.int q:=by
 unfold yX
 rw[List.range_eq_range']
 exact List.map_congr_left fun q _=>by rw[Int.zero_add]
section
variable {T:Tbl}{Φ:Calls}{s:Sto}
def gE(Φ:Calls):Prop:=∀(z:Nat) (ls:List Nat) (p:Nat) (s:Sto),2≤z→z≤8→p≤40→Φ "ends_row" 0 [.int z,zG ls,.int p] s=.ok (.bool (xJ z ls p)) s
theorem dJ{z:Nat}{ls:List Nat}{p:Nat}(h2:2≤z)(h8:z≤8)(hp:p≤40):run T Φ F55.xU [.int z,zG ls,.int p] s=.ok (.bool (xJ z ls p)) s:=by
 have hq:p/(z-1)≤40:=Nat.le_trans (Nat.div_le_self _ _) hp
 have hd:binOp false .fdiv (.int (p:Int)) (.int ((z:Int)-1)) s=.ok (.int ((p/(z-1):Nat):Int)) s:=by
  rw[bdiv ⟨by omega,by omega⟩,show (z:Int)-1=((z-1:Nat):Int) by omega,←Int.natCast_ediv]
 rw[post_eq,F55.xU,yb]
 refine⟨rfl,?_⟩
 show (zW Φ T.gl [some (.int z),some (zG ls),some (.int p),none] _ s).post _
 refine yA.mpr (uM (fun rest e s'=>s'=s∧(∃o3,e=[some (.int z),some (zG ls),some (.int p),o3])∧∃todo:List Nat,rest=todo.map (fun(j:Nat)=>Val.int ((j+1:Nat):Int))∧(∀j∈todo,j<p/(z-1))∧(todo.any fun j=>(List.range (z-1)).all fun k=>decide (p-(j+1)*(k+1)∈ls))=xJ z ls p) (yX ((1:Nat):Int) (p/(z-1)+1-1)) (s1:=s) (fC (i:=1) (j:=p/(z-1)+1) zS (zq (zq (zB rfl) (zq (zB rfl) zS Zf) hd) zS vP) (by omega) (Nat.le_trans (Nat.succ_le_succ hq) (by decide))) ⟨rfl,⟨_,rfl⟩,List.range (p/(z-1)),?_,fun j hj=>List.mem_range.mp hj,rfl⟩ ?_ ?_)
 . rw[Nat.add_sub_cancel]
   unfold yX
   exact List.map_congr_left fun j _=>by rw[show ((1:Nat):Int)+(j:Int)=((j+1:Nat):Int) by omega]
 . rintro x rest e s' ⟨rfl,⟨o3,rfl⟩,todo,hr,hm,hf⟩
   cases todo with
   |nil=>cases hr
   |cons j todo=>
    rw[List.map_cons]at hr
    obtain⟨rfl,rfl⟩:=List.cons.inj hr
    have hj:=hm j (.head _)
    have hjz:(j+1)*(z-1)≤p:=(Nat.le_div_iff_mul_le (by omega)).mp hj
    refine⟨_,rfl,?_⟩
    show (zW Φ T.gl [some (.int z),some (zG ls),some (.int p),some (.int ((j+1:Nat):Int))] _ s').post _
    have hc:evE Φ T.gl [some (.int z),some (zG ls),some (.int p),some (.int ((j+1:Nat):Int))] (.comp false ["at","lot","place","step"] [none,some 1,some 2,some 3] (.cmp .in_ (.bin false .sub (.var 2) (.bin false .mul (.var 3) (.var 0))) (.var 1)) (.nm 0) (.range2 (.lit (.int 1)) (.var 0)) .nil) s'=.ok (.lst (((List.range (z-1)).map fun k=>decide (p-(j+1)*(k+1)∈ls)).map Val.bool)) s':=by
     rw[post_eq]
     refine y7 (fun e=>∃o,e=[o,some (zG ls),some (.int p),some (.int ((j+1:Nat):Int))]) (fun x=>match x with|.int i=>[.bool (decide (p-(j+1)*i.toNat∈ls))]|_=>[]) (yX ((1:Nat):Int) (z-1)) (s1:=s') (fC (i:=1) (j:=z) zS (zB rfl) (by omega) (by omega)) ⟨none,rfl⟩ ?_ ?_
     . rintro x hx e ⟨o,rfl⟩
       obtain⟨k,hk,rfl⟩:=vJ hx
       refine⟨_,rfl,⟨_,rfl⟩,xj.mpr ⟨rfl,?_⟩⟩
       rw[if_pos rfl,show ((1:Nat):Int)+(k:Int)=((k+1:Nat):Int) by omega]
       show (evE Φ T.gl [some (.int ((k+1:Nat):Int)),some (zG ls),some (.int p),some (.int ((j+1:Nat):Int))] _ s').post _
       have hle:(j+1)*(k+1)≤p:=Nat.le_trans (Nat.mul_le_mul_left _ (by omega)) hjz
       have hs:binOp false .sub (.int (p:Int)) (.int (((j+1:Nat):Int)*((k+1:Nat):Int))) s'=.ok (.int ((p-(j+1)*(k+1):Nat):Int)) s':=by
        rw[Zf,←Int.natCast_mul]
        congr 2
        omega
       rw[yZ (zq (zB rfl) (zq (zB rfl) (zB rfl) (kX (by omega))) hs) (zB rfl) oN]
       refine zC.mpr ⟨rfl,?_⟩
       show [Val.bool (decide (p-(j+1)*((k+1:Nat):Int).toNat∈ls))]=_
       rw[Int.toNat_natCast]
     . have e:(yX ((1:Nat):Int) (z-1)).flatMap (fun x=>match x with|.int i=>[Val.bool (decide (p-(j+1)*i.toNat∈ls))]|_=>[])=((List.range (z-1)).map fun k=>decide (p-(j+1)*(k+1)∈ls)).map Val.bool:=by
        unfold yX
        rw[List.flatMap_map,List.map_map]
        have:(fun(k:Nat)=>[Val.bool (decide (p-(j+1)*(((1:Nat):Int)+(k:Int)).toNat∈ls))])=fun k=>[(Val.bool∘fun k=>decide (p-(j+1)*(k+1)∈ls)) k]:=by
         funext k
         rw[show (((1:Nat):Int)+(k:Int)).toNat=k+1 by omega];rfl
        exact(congrArg (fun f=>(List.range (z-1)).flatMap f) this).trans (sD _ _)
       rw[e]
       exact zC.mpr ⟨rfl,rfl⟩
    have tt:=yO (Φ:=Φ) (G:=T.gl) (yV (f:=.all) (m:=false) (zA hc zD) qz) zZ
    rw[List.all_map]at tt
    rw[List.any_cons]at hf
    cases hb:((List.range (z-1)).all fun k=>decide (p-(j+1)*(k+1)∈ls)) with
    |true=>
     rw[hb,Bool.true_or]at hf
     rw[show ((List.range (z-1)).all (id∘fun k=>decide (p-(j+1)*(k+1)∈ls)))=true from hb]at tt
     refine mS tt (yc zS ?_)
     show (yI false s' (.bool true) s').post _
     rw[←hf]
     exact zm xO
    |false=>
     rw[hb,Bool.false_or]at hf
     rw[show ((List.range (z-1)).all (id∘fun k=>decide (p-(j+1)*(k+1)∈ls)))=false from hb]at tt
     exact xp tt (wX ⟨rfl,⟨_,rfl⟩,todo,rfl,fun q hq=>hm q (.tail _ hq),hf⟩)
 . rintro e s' ⟨rfl,⟨o3,rfl⟩,todo,hr,hm,hf⟩
   obtain rfl:todo=[]:=List.map_eq_nil_iff.mp hr.symm
   refine yc zS ?_
   show (yI false s' (.bool false) s').post _
   rw[←hf]
   exact zm xO
theorem kL{l:List Nat}{n:Nat}(h:l.Pairwise (·<·))(hl:∀x∈l,x<n):l.length≤n:=by
 have:=(du h).length_le_of_subset (l₂:=List.range n) fun x hx=>List.mem_range.mpr (hl x hx)
 rwa [List.length_range]at this
theorem kS{l:List Nat}{n:Nat}{s:Sto}(hl:l.length≤40):binOp false .add (zG l) (.tup [.int (n:Int)]) s=.ok (zG (l++[n])) s:=by
 show (if ((zc l).map Val.int).length+1≤zV then Out.ok (Val.tup ((zc l).map Val.int++[.int (n:Int)])) s else .stuck)=_
 rw[if_pos (by rw[List.length_map,List.length_map];unfold zV;omega)]
 show Out.ok (Val.tup _) s=Out.ok (Val.tup ((zc (l++[n])).map Val.int)) s
 unfold zc
 rw[List.map_append,List.map_append];rfl
def mi(Φ:Calls):Prop:=∀(z n:Nat) (s:Sto),3≤z→z≤8→n≤40→Φ "early" 0 [.int z,.int n] s=.ok (zG (zJ z n)) s
theorem i7(c1:uA Φ)(c2:xk Φ)(cE:gE Φ){z n:Nat}(h3:3≤z)(h8:z≤8)(hn:n≤40):run T Φ F55.vm [.int z,.int n] s=.ok (zG (zJ z n)) s:=by
 rw[post_eq,F55.vm,yb]
 refine⟨rfl,?_⟩
 show (zW Φ T.gl [some (.int z),some (.int n),none,none] _ s).post _
 refine yP (x_call (zA (zB rfl) zD) (c1 z s (by omega) (by omega))) (yP (x_call (zA (zB rfl) zD) (c2 n s (by omega) (by omega))) (wC (tD zD (Nat.zero_le _)) ?_))
 show (zW Φ T.gl [some (.int z),some (.int n),some (zG []),none] _ s).post _
 refine yA.mpr (uM (fun rest e s'=>s'=s∧∃i o3,i≤n∧e=[some (.int z),some (.int n),some (zG (zJ z i)),o3]∧rest=(List.range' i (n-i)).map fun(q:Nat)=>Val.int q) (yX 0 n) (s1:=s) (rT (zB rfl) (by unfold zV;omega)) ⟨rfl,0,_,Nat.zero_le _,rfl,tZ n⟩ ?_ ?_)
 . rintro x rest e s' ⟨rfl,i,o3,hi,rfl,hr⟩
   by_cases hin:i=n
   . rw[hin,Nat.sub_self]at hr;cases hr
   . rw[show n-i=n-(i+1)+1 by omega,List.range'_succ,List.map_cons]at hr
     obtain⟨rfl,rfl⟩:=List.cons.inj hr
     refine⟨_,rfl,?_⟩
     show (zW Φ T.gl [some (.int z),some (.int n),some (zG (zJ z i)),some (.int (i:Int))] _ s').post _
     have tt:=sF (yO (Φ:=Φ) (G:=T.gl) (env:=[some (.int z),some (.int n),some (zG (zJ z i)),some (.int (i:Int))]) (s:=s') (x_call (f:="ends_row") (v:=0) (zA (zB (i:=0) rfl) (zA (zB (i:=2) rfl) (zA (zB (i:=3) rfl) zD))) (cE z (zJ z i) i s' (by omega) h8 (by omega))) zZ)
     have hlen:=kL (vS (z:=z) i) fun x hx=>xI hx
     have e1:zJ z (i+1)=if xJ z (zJ z i) i then zJ z i else zJ z i++[i]:=rfl
     cases he:xJ z (zJ z i) i with
     |true=>
      rw[he]at tt
      exact xp tt (wX ⟨rfl,i+1,_,by omega,by rw[e1,he,if_pos rfl],rfl⟩)
     |false=>
      rw[he]at tt
      refine mS tt (XZ (x:=(zc (zJ z i)).map .int) (y:=[.int (i:Int)]) rfl (tD (zA (zB rfl) zD) (show 1≤zV by decide)) (by rw[List.length_map,List.length_map];show _+1≤zV;unfold zV;omega) (wX (jn.mpr (wX ?_))))
      refine⟨rfl,i+1,some (.int (i:Int)),by omega,?_,rfl⟩
      rw[e1,he,if_neg Bool.false_ne_true]
      show [some (Val.int z),some (.int n),some (.tup ((zc (zJ z i)).map .int++[.int (i:Int)])),some (.int (i:Int))]=_
      have e2:(zc (zJ z i)).map Val.int++[.int (i:Int)]=(zc (zJ z i++[i])).map Val.int:=by unfold zc;rw[List.map_append,List.map_append];rfl
      rw[e2]
 . rintro e s' ⟨rfl,i,o3,hi,rfl,hr⟩
   have hin:n-i=0:=by
    have:=congrArg List.length hr
    rw[List.length_map,List.length_range',List.length_nil]at this
    exact this.symm
   obtain rfl:i=n:=by omega
   exact yc (zB rfl) (zm (nrT _))
def oy(Φ:Calls):Prop:=∀(z p:Nat) (s:Sto),3≤z→z≤8→p<40→Φ "is_early" 0 [.int z,.int p] s=.ok (.bool (decide (p∈zJ z (p+1)))) s
theorem mQ(c1:uA Φ)(c2:vy Φ)(cE:mi Φ){z p:Nat}(h3:3≤z)(h8:z≤8)(hp:p<40):run T Φ F55.xV [.int z,.int p] s=.ok (.bool (decide (p∈zJ z (p+1)))) s:=by
 rw[post_eq,F55.xV,yb]
 refine⟨rfl,?_⟩
 show (zW Φ T.gl [some (.int z),some (.int p)] _ s).post _
 exact yP (x_call (zA (zB rfl) zD) (c1 z s (by omega) (by omega))) (yP (x_call (zA (zB rfl) zD) (c2 p s (by omega) (by omega))) (yc (yZ (zB rfl) (x_call (zA (zB rfl) (zA (zq (zB rfl) zS (by rw[vP,show (p:Int)+1=((p+1:Nat):Int) by omega])) zD)) (cE z (p+1) s h3 h8 (by omega))) oN) (zm xO)))
noncomputable def baG(z n:Nat)(x:Val):List Val:=if !xJ z (unN x) n then [zG (unN x++[n])] else []
def qk(Φ:Calls):Prop:=∀(z n:Nat) (s:Sto),2≤z→z≤8→n≤12→Φ "bare_lots" 0 [.int z,.int n] s=.ok (.lst ((zr z n).map zG)) s
theorem oh(c1:wD Φ)(c2:sm Φ)(cE:gE Φ){z n:Nat}(h2:2≤z)(h8:z≤8)(hn:n≤12):run T Φ F55.y9 [.int z,.int n] s=.ok (.lst ((zr z n).map zG)) s:=by
 have hlen:∀i,i≤12→(zr z i).length≤4096:=fun i hi=>Nat.le_trans (qr i) (Nat.pow_le_pow_right (by omega) hi)
 rw[post_eq,F55.y9,yb]
 refine⟨rfl,?_⟩
 show (zW Φ T.gl [some (.int z),some (.int n),none,none] _ s).post _
 refine yP (x_call (zA (zB rfl) zD) (c1 z s (by omega) (by omega))) (yP (x_call (zA (zB rfl) zD) (c2 n s (by omega) (by omega))) (wC (d9 (zA (tD zD (Nat.zero_le _)) zD) (show 1≤zV by decide)) ?_))
 show (zW Φ T.gl [some (.int z),some (.int n),some (.lst ((zr z 0).map zG)),none] _ s).post _
 refine yA.mpr (uM (fun rest e s'=>s'=s∧∃i o3,i≤n∧e=[some (.int z),some (.int n),some (.lst ((zr z i).map zG)),o3]∧rest=(List.range' i (n-i)).map fun(q:Nat)=>Val.int q) (yX 0 n) (s1:=s) (rT (zB rfl) (by unfold zV;omega)) ⟨rfl,0,_,Nat.zero_le _,rfl,tZ n⟩ ?_ ?_)
 . rintro x rest e s' ⟨rfl,i,o3,hi,rfl,hr⟩
   by_cases hin:i=n
   . rw[hin,Nat.sub_self]at hr;cases hr
   . rw[show n-i=n-(i+1)+1 by omega,List.range'_succ,List.map_cons]at hr
     obtain⟨rfl,rfl⟩:=List.cons.inj hr
     refine⟨_,rfl,?_⟩
     show (zW Φ T.gl [some (.int z),some (.int n),some (.lst ((zr z i).map zG)),some (.int (i:Int))] _ s').post _
     have hc:evE Φ T.gl [some (.int z),some (.int n),some (.lst ((zr z i).map zG)),some (.int (i:Int))] (.comp false ["lot","size","place"] [none,some 0,some 3] (.bin false .add (.var 0) (.tup (.cons (.var 2) .nil))) (.nm 0) (.val (.var 2)) (.cons (.not (.val (.call "ends_row" 0 (.cons (.var 1) (.cons (.var 0) (.cons (.var 2) .nil)))))) .nil)) s'=.ok (.lst ((((zr z i).filter fun l=>!xJ z l i).map fun l=>l++[i]).map zG)) s':=by
      rw[post_eq]
      refine y7 (fun e=>∃o,e=[o,some (.int z),some (.int (i:Int))]) (baG z i) ((zr z i).map zG) (s1:=s') (wZ (zB rfl) rfl) ⟨none,rfl⟩ ?_ ?_
      . rintro x hx e ⟨o,rfl⟩
        obtain⟨l,hl,rfl⟩:=List.mem_map.mp hx
        have bl:=wJ h2 hl
        have hll:=kL bl.up bl.lt
        refine⟨_,rfl,⟨_,rfl⟩,?_⟩
        show (yh Φ T.gl [some (zG l),some (.int z),some (.int (i:Int))] _ s').post _
        rw[uP (sF (yO (x_call (zA (zB rfl) (zA (zB rfl) (zA (zB rfl) zD))) (cE z l i s' h2 h8 (by omega))) zZ))]
        refine zC.mpr ⟨rfl,?_⟩
        unfold baG
        rw[wd]
        cases xJ z l i with
        |true=>rfl
        |false=>
         show (evE Φ T.gl [some (zG l),some (.int z),some (.int (i:Int))] _ s').post _
         rw[zq (zB rfl) (tD (zA (zB rfl) zD) (show 1≤zV by decide)) (kS (by omega))]
         exact zC.mpr ⟨rfl,rfl⟩
      . have e:((zr z i).map zG).flatMap (baG z i)=(((zr z i).filter fun l=>!xJ z l i).map fun l=>l++[i]).map zG:=by
         rw[List.flatMap_map,List.map_map]
         have:(fun l=>baG z i (zG l))=fun(l:List Nat)=>if !xJ z l i then [(zG∘fun l=>l++[i]) l] else []:=by
          funext l
          unfold baG
          rw[wd];rfl
         rw[this,wu (p:=fun l=>!xJ z l i) (f:=zG∘fun l=>l++[i])]
        rw[e]
        exact zC.mpr ⟨rfl,rfl⟩
     have h1:=hlen i (by omega)
     have h3:=List.length_filter_le (fun l=>!xJ z l i) (zr z i)
     have hadd:binOp false .add (.lst ((zr z i).map zG)) (.lst ((((zr z i).filter fun l=>!xJ z l i).map fun l=>l++[i]).map zG)) s'=.ok (.lst ((zr z (i+1)).map zG)) s':=by
      rw[cH (by rw[List.length_map,List.length_map,List.length_map];unfold zV;omega),←List.map_append];rfl
     exact wC (zq (zB rfl) hc hadd) (wX ⟨rfl,i+1,some (.int (i:Int)),by omega,rfl,rfl⟩)
 . rintro e s' ⟨rfl,i,o3,hi,rfl,hr⟩
   have hin:n-i=0:=by
    have:=congrArg List.length hr
    rw[List.length_map,List.length_range',List.length_nil]at this
    exact this.symm
   obtain rfl:i=n:=by omega
   exact yc (zB rfl) (zm (bT _))
noncomputable def amI(z n:Nat):List (List Int):=pe ((wA z n).map zc)
theorem p7{z n:Nat}{x:List Int}(h:x∈amI z n):∃l∈wA z n,x=zc l:=by
 obtain⟨l,hl,e⟩:=List.mem_map.mp ((qE _).mem_iff.mp h)
 exact⟨l,hl,e.symm⟩
theorem gL{z n:Nat}:amI z n≠[]:=fun h=>by
 have:=(qE ((wA z n).map zc)).length_eq
 rw[show pe ((wA z n).map zc)=[] from h,List.length_nil,List.length_map]at this
 exact bQ (List.length_eq_zero_iff.mp this.symm)
theorem bS{a b:List Nat}(h:zc a=zc b):a=b:=by
 have:=wd a
 unfold zG at this
 rw[h]at this
 exact this.symm.trans (wd b)
def uQ(Φ:Calls):Prop:=∀(z n:Nat) (s:Sto),2≤z→z≤8→n≤12→Φ "all_most" 0 [.int z,.int n] s=.ok (.lst (tps (amI z n))) s
theorem mP(c:qk Φ){z n:Nat}(h2:2≤z)(h8:z≤8)(hn:n≤12):run T Φ F55.xT [.int z,.int n] s=.ok (.lst (tps (amI z n))) s:=by
 rw[post_eq,F55.xT,yb]
 refine⟨rfl,?_⟩
 show (zW Φ T.gl [some (.int z),some (.int n),none,none] _ s).post _
 refine wC (x_call (zA (zB rfl) (zA (zB rfl) zD)) (c z n s h2 h8 hn)) ?_
 show (zW Φ T.gl [some (.int z),some (.int n),some (.lst ((zr z n).map zG)),none] _ s).post _
 have hlens:evE Φ T.gl [some (.int z),some (.int n),some (.lst ((zr z n).map zG)),none] (.comp false ["lot"] [none] (.blt .len false (.cons (.var 0) .nil)) (.nm 0) (.val (.var 2)) .nil) s=.ok (.lst ((uj z n).map .int)) s:=by
  rw[post_eq]
  refine y7 (fun e=>∃o,e=[o]) (fun x=>[.int ((unN x).length:Int)]) ((zr z n).map zG) (s1:=s) (wZ (zB rfl) rfl) ⟨none,rfl⟩ ?_ ?_
  . rintro x hx e ⟨o,rfl⟩
    obtain⟨l,hl,rfl⟩:=List.mem_map.mp hx
    refine⟨_,rfl,⟨_,rfl⟩,xj.mpr ⟨rfl,?_⟩⟩
    rw[if_pos rfl]
    show (evE Φ T.gl [some (zG l)] _ s).post _
    rw[yV (zA (zB rfl) zD) rV,List.length_map,List.length_map]
    exact zC.mpr ⟨rfl,by rw[wd]⟩
  . have e:((zr z n).map zG).flatMap (fun x=>[Val.int ((unN x).length:Int)])=(uj z n).map .int:=by
     unfold uj
     rw[List.flatMap_map,List.map_map]
     have:(fun l=>[Val.int ((unN (zG l)).length:Int)])=fun(l:List Nat)=>[(Val.int∘fun(l:List Nat)=>(l.length:Int)) l]:=by
      funext l
      rw[wd];rfl
     rw[this,sD]
    rw[e]
    exact zC.mpr ⟨rfl,rfl⟩
 have hmax:blt .max false [.lst ((uj z n).map .int)] s=.ok (.int (zX z n)) s:=by
  show (match M.intsOf ((uj z n).map .int) with|some ns=>if ns≠[] then Out.ok (Val.int (L2.wL 0 ns)) s else .stuck|Option.none=>.stuck)=_
  rw[sT]
  show (if uj z n≠[] then Out.ok (Val.int (L2.wL 0 (uj z n))) s else .stuck)=_
  rw[if_pos jN];rfl
 refine wC (yV (zA hlens zD) hmax) ?_
 show (zW Φ T.gl [some (.int z),some (.int n),some (.lst ((zr z n).map zG)),some (.int (zX z n))] _ s).post _
 have hmo:evE Φ T.gl [some (.int z),some (.int n),some (.lst ((zr z n).map zG)),some (.int (zX z n))] (.comp false ["lot","many"] [none,some 3] (.var 0) (.nm 0) (.val (.var 2)) (.cons (.val (.cmp .eq (.blt .len false (.cons (.var 0) .nil)) (.var 1))) .nil)) s=.ok (.lst (tps ((wA z n).map zc))) s:=by
  rw[post_eq]
  refine y7 (fun e=>∃o,e=[o,some (.int (zX z n))]) (fun x=>if decide (((unN x).length:Int)=zX z n) then [x] else []) ((zr z n).map zG) (s1:=s) (wZ (zB rfl) rfl) ⟨none,rfl⟩ ?_ ?_
  . rintro x hx e ⟨o,rfl⟩
    obtain⟨l,hl,rfl⟩:=List.mem_map.mp hx
    refine⟨_,rfl,⟨_,rfl⟩,?_⟩
    show (yh Φ T.gl [some (zG l),some (.int (zX z n))] _ s).post _
    rw[uP (yO (yZ (yV (zA (zB rfl) zD) (by rw[rV,List.length_map,List.length_map])) (zB rfl) eq_int) zZ)]
    refine zC.mpr ⟨rfl,?_⟩
    rw[wd]
    cases decide ((l.length:Int)=zX z n) with
    |false=>rfl
    |true=>
     show (evE Φ T.gl [some (zG l),some (.int (zX z n))] (.var 0) s).post _
     rw[zB rfl]
     exact zC.mpr ⟨rfl,rfl⟩
  . have e:((zr z n).map zG).flatMap (fun x=>if decide (((unN x).length:Int)=zX z n) then [x] else [])=tps ((wA z n).map zc):=by
     rw[←nc,List.flatMap_map]
     have:(fun l=>if decide (((unN (zG l)).length:Int)=zX z n) then [zG l] else [])=fun(l:List Nat)=>if decide ((l.length:Int)=zX z n) then [zG l] else []:=by
      funext l
      rw[wd]
     rw[this,wu (p:=fun l=>decide ((l.length:Int)=zX z n)) (f:=zG)];rfl
    rw[e]
    exact zC.mpr ⟨rfl,rfl⟩
 have nd:(wA z n).Nodup:=List.Nodup.sublist List.filter_sublist (rA h2 n)
 have ndI:((wA z n).map zc).Nodup:=vq nd fun a _ b _ e=>bS e
 have hsrt:blt .sorted false [.lst (tps ((wA z n).map zc))] s=.ok (.lst (tps (amI z n))) s:=l9 rfl ndI (by
  by_cases h0:zX z n=0
  . left
    have hall:∀l∈wA z n,l∈[([]:List Nat)]:=fun l hl=>by
     have:=(wM.mp hl).2
     rw[h0]at this
     rw[List.length_eq_zero_iff.mp (by omega:l.length=0)];exact .head _
    have:=nd.length_le_of_subset hall
    rw[List.length_map]
    exact Nat.lt_succ_of_le this
  . right
    intro x hx
    obtain⟨l,hl,rfl⟩:=List.mem_map.mp hx
    intro e
    have e:=List.map_eq_nil_iff.mp e
    have:=(wM.mp hl).2
    rw[e]at this
    exact h0 this.symm)
 exact yc (yV (zA hmo zD) hsrt) (zm (by rw[oU];exact uL _))
def gH(Φ:Calls):Prop:=∀(z n:Nat) (s:Sto),2≤z→z≤8→n≤12→Φ "most" 0 [.int z,.int n] s=.ok (.int (zX z n)) s
def si(Φ:Calls):Prop:=∀(z n:Nat) (s:Sto),2≤z→z≤8→n≤12→∃l∈wA z n,Φ "first_most" 0 [.int z,.int n] s=.ok (zG l) s
theorem qY(c:uQ Φ){z n:Nat}(h2:2≤z)(h8:z≤8)(hn:n≤12):∃l∈wA z n,run T Φ F55.yx [.int z,.int n] s=.ok (zG l) s:=by
 cases ha:amI z n with
 |nil=>exact absurd ha gL
 |cons x L=>
  obtain⟨l,hl,rfl⟩:=p7 (z:=z) (n:=n) (x:=x) (by rw[ha];exact .head _)
  refine⟨l,hl,?_⟩
  rw[post_eq,F55.yx,yb]
  refine⟨rfl,?_⟩
  show (zW Φ T.gl [some (.int z),some (.int n)] _ s).post _
  have hc:=c z n s h2 h8 hn
  rw[ha]at hc
  exact yc (qQ (x_call (zA (zB rfl) (zA (zB rfl) zD)) hc) zS (show vE (.lst (tps (zc l::L))) (.int ((0:Nat):Int)) s=_ from fE rfl)) (zm (nrT _))
theorem i9(c:si Φ){z n:Nat}(h2:2≤z)(h8:z≤8)(hn:n≤12):run T Φ F55.tH [.int z,.int n] s=.ok (.int (zX z n)) s:=by
 obtain⟨l,hl,hc⟩:=c z n s h2 h8 hn
 rw[post_eq,F55.tH,yb]
 refine⟨rfl,?_⟩
 show (zW Φ T.gl [some (.int z),some (.int n)] _ s).post _
 exact yc (yV (zA (x_call (zA (zB rfl) (zA (zB rfl) zD)) hc) zD) (by rw[rV,List.length_map,List.length_map,(wM.mp hl).2])) (zm vZ)
def ay(Φ:Calls):Prop:=∀(n:Nat) (ls:List Nat) (s:Sto),n≤40→Φ "places_left" 0 [.int n,zG ls] s=.ok (zG (zY n ls)) s
theorem dP{n:Nat}{ls:List Nat}(hn:n≤40):run T Φ F55.yn [.int n,zG ls] s=.ok (zG (zY n ls)) s:=by
 rw[post_eq,F55.yn,yb]
 refine⟨rfl,?_⟩
 show (zW Φ T.gl [some (.int n),some (zG ls)] _ s).post _
 exact yc (d8 (zB rfl) hn rfl) (zm (nrT _))
theorem fq:∀{L:List (List Int)},L≠[]→L2.sN L∈L
 |z::t,_=>by
  have:∀(t:List (List Int)) (m:List Int),t.foldl (fun m y=>if L2.vG y m then y else m) m=m∨t.foldl (fun m y=>if L2.vG y m then y else m) m∈t:=by
   intro t
   induction t with
   |nil=>intro m;exact .inl rfl
   |cons y t ih=>
    intro m
    rw[List.foldl_cons]
    rcases ih (if L2.vG y m then y else m) with h|h
    . rw[h]
      split
      . exact .inr (.head _)
      . exact .inl rfl
    . exact .inr (.tail _ h)
  show t.foldl _ z∈_
  rcases this t z with h|h
  . rw[h];exact .head _
  . exact .tail _ h
def tE(Φ:Calls):Prop:=∀(z n:Nat) (s:Sto),2≤z→z≤8→n≤12→Φ "first_hit" 0 [.int z,.int n] s=.ok (tpI (L2.sN ((amI z n).map fun x=>zc (zY n (x.map Int.toNat))))) s
theorem g9{z n:Nat}:∃l∈wA z n,L2.sN ((amI z n).map fun x=>zc (zY n (x.map Int.toNat)))=zc (zY n l):=by
 have h:=fq (L:=(amI z n).map fun x=>zc (zY n (x.map Int.toNat))) (fun h=>gL (List.map_eq_nil_iff.mp h))
 obtain⟨x,hx,e⟩:=List.mem_map.mp h
 obtain⟨l,hl,rfl⟩:=p7 hx
 refine⟨l,hl,?_⟩
 rw[←e]
 have:=wd l
 unfold unN at this
 rw[kK]at this
 rw[this]
theorem oi(c:uQ Φ)(cL:ay Φ){z n:Nat}(h2:2≤z)(h8:z≤8)(hn:n≤12):run T Φ F55.xA [.int z,.int n] s=.ok (tpI (L2.sN ((amI z n).map fun x=>zc (zY n (x.map Int.toNat))))) s:=by
 rw[post_eq,F55.xA,yb]
 refine⟨rfl,?_⟩
 show (zW Φ T.gl [some (.int z),some (.int n)] _ s).post _
 have hc:evE Φ T.gl [some (.int z),some (.int n)] (.comp false ["lot","length"] [none,some 1] (.call "places_left" 0 (.cons (.var 1) (.cons (.var 0) .nil))) (.nm 0) (.val (.call "all_most" 0 (.cons (.var 0) (.cons (.var 1) .nil)))) .nil) s=.ok (.lst (tps ((amI z n).map fun x=>zc (zY n (x.map Int.toNat))))) s:=by
  rw[post_eq]
  refine y7 (fun e=>∃o,e=[o,some (.int n)]) (fun x=>[zG (zY n (unN x))]) (tps (amI z n)) (s1:=s) (wZ (x_call (zA (zB rfl) (zA (zB rfl) zD)) (c z n s h2 h8 hn)) rfl) ⟨none,rfl⟩ ?_ ?_
  . rintro x hx e ⟨o,rfl⟩
    obtain⟨y,hy,rfl⟩:=List.mem_map.mp hx
    obtain⟨l,hl,rfl⟩:=p7 hy
    refine⟨_,rfl,⟨_,rfl⟩,xj.mpr ⟨rfl,?_⟩⟩
    rw[if_pos rfl]
    show (evE Φ T.gl [some (zG l),some (.int n)] _ s).post _
    rw[x_call (zA (zB rfl) (zA (zB rfl) zD)) (cL n l s (by omega))]
    exact zC.mpr ⟨rfl,by rw[show unN (tpI (zc l))=l from wd l]⟩
  . have e:(tps (amI z n)).flatMap (fun x=>[zG (zY n (unN x))])=tps ((amI z n).map fun x=>zc (zY n (x.map Int.toNat))):=by
     unfold tps
     rw[List.flatMap_map,List.map_map]
     have:(fun x=>[zG (zY n (unN (tpI x)))])=fun(x:List Int)=>[(tpI∘fun x=>zc (zY n (x.map Int.toNat))) x]:=by
      funext x
      unfold unN
      rw[kK];rfl
     rw[this,sD]
    rw[e]
    exact zC.mpr ⟨rfl,rfl⟩
 have hne:(amI z n).map (fun x=>zc (zY n (x.map Int.toNat)))≠[]:=fun h=>gL (List.map_eq_nil_iff.mp h)
 have hmin:blt .minT false [.lst (tps ((amI z n).map fun x=>zc (zY n (x.map Int.toNat))))] s=.ok (tpI (L2.sN ((amI z n).map fun x=>zc (zY n (x.map Int.toNat))))) s:=by
  show (match wc (tps ((amI z n).map fun x=>zc (zY n (x.map Int.toNat)))) with|some zs=>if zs≠[] then Out.ok (tpV (L2.sN zs)) s else .stuck|Option.none=>.stuck)=_
  rw[qN]
  show (if _≠[] then Out.ok (tpV (L2.sN _)) s else .stuck)=_
  rw[if_pos hne];rfl
 exact yc (yV (zA hc zD) hmin) (zm (nrT _))
def kO(Φ:Calls):Prop:=∀(z n:Nat) (s:Sto),2≤z→z≤8→n≤12→Φ "fewest_hits" 0 [.int z,.int n] s=.ok (.int ((n:Int)-zX z n)) s
theorem jB{z n:Nat}(h2:2≤z):((L2.sN ((amI z n).map fun x=>zc (zY n (x.map Int.toNat)))).length:Int)=(n:Int)-zX z n:=by
 obtain⟨l,hl,e⟩:=g9 (z:=z) (n:=n)
 obtain⟨h1,h3⟩:=wM.mp hl
 have b:=wJ h2 h1
 have:=fg (du b.up) b.lt
 rw[e,List.length_map,←h3]
 omega
theorem l5(c:tE Φ){z n:Nat}(h2:2≤z)(h8:z≤8)(hn:n≤12):run T Φ F55.yl [.int z,.int n] s=.ok (.int ((n:Int)-zX z n)) s:=by
 rw[post_eq,F55.yl,yb]
 refine⟨rfl,?_⟩
 show (zW Φ T.gl [some (.int z),some (.int n)] _ s).post _
 exact yc (yV (zA (x_call (zA (zB rfl) (zA (zB rfl) zD)) (c z n s h2 h8 hn)) zD) (by rw[rV,List.length_map,jB h2])) (zm vZ)
def ax(Φ:Calls):Prop:=∀(p:Nat) (s:Sto),qS s p→(Φ "_law_lot" 0 [.ref p] s).post fun v s'=>∃ls,v=zG ls∧Lot ls∧uC s p s'
theorem VJ{r:Nat}(h:r<3):∃m:Nat,([12,40,24]:List Int)[r]?=some (m:Int)∧m≤40:=by
 have:r=0∨r=1∨r=2:=by omega
 rcases this with rfl|rfl|rfl
 . exact⟨12,rfl,by decide⟩
 . exact⟨40,rfl,by decide⟩
 . exact⟨24,rfl,by decide⟩
theorem dQ(cD:mh Φ){p:Nat}(hp:qS s p):(run T Φ F55.xS [.ref p] s).post fun v s'=>∃ls,v=zG ls∧Lot ls∧uC s p s':=by
 have hpl:=hp.lt
 rw[F55.xS,yb]
 refine⟨rfl,?_⟩
 show (zW Φ T.gl [some (.ref p),none,none] _ s).post _
 refine yA.mpr (jW.mpr (vd.mpr (W3.mpr ?_)))
 rw[d9 (zA zS (zA zS (zA zS zD))) (show 3≤zV by decide)]
 refine zC.mpr (wW (zA (zB rfl) (zA zS zD)) (zP (cD p 3 s hp (by omega) (by omega)) ?_))
 rintro v s1 ⟨r,rfl,hr,t1⟩
 obtain⟨n,hn,hn40⟩:=VJ (r:=r) (by omega)
 rw[show vE (.lst [.int 12,.int 40,.int 24]) (.int (r:Int)) s1=.ok (.int (n:Int)) s1 from fk hn]
 refine zC.mpr (vd.mpr (f9.mpr (jV.mpr (wW (zA (zB rfl) (zA zS zD)) (zP (cD p 3 s1 (t1.at_ hpl) (by omega) (by omega)) ?_)))))
 rintro v s2 ⟨q,rfl,hq,t2'⟩
 have t2:=t1.trans t2'
 rw[vP]
 refine zC.mpr (n5.mpr (oZ rfl ?_))
 show (zW Φ T.gl [some (.ref p),some (.int (n:Int)),some (.int ((2:Int)+(q:Int)))] _ s2).post _
 refine yA.mpr (jX.mpr (ZG.mpr (vd.mpr ?_)))
 refine bp (fun rest e s' acc=>(∃o,e=[o,some (.ref p),some (.int ((2:Int)+(q:Int)))])∧uC s2 p s'∧∃i,∃ls:List Nat,i≤n∧rest=(List.range' i (n-i)).map (fun(q:Nat)=>Val.int q)∧acc=(zc ls).map .int∧ls.Pairwise (·<·)∧∀x∈ls,x<i) ?_
 refine⟨⟨yX 0 n,none⟩,_,rT (zB rfl) (by unfold zV;omega),⟨⟨none,rfl⟩,(t2.at_ hpl).refl,0,[],Nat.zero_le _,tZ n,rfl,.nil,fun _ h=>(nomatch h)⟩,fun _ _ _ _ _=>rfl,?_,?_⟩
 . rintro x rest e s' acc ⟨⟨o,rfl⟩,t,i,ls,hi,hr,rfl,hu,hl⟩
   by_cases hin:i=n
   . rw[hin,Nat.sub_self]at hr;cases hr
   . rw[show n-i=n-(i+1)+1 by omega,List.range'_succ,List.map_cons]at hr
     obtain⟨rfl,rfl⟩:=List.cons.inj hr
     refine⟨_,rfl,?_⟩
     show (yh Φ T.gl [some (.int (i:Int)),some (.ref p),some (.int ((2:Int)+(q:Int)))] _ s').post _
     refine mB.mpr (eF.mpr (ZH.mpr (wW (zA (zB rfl) (zA (zB rfl) zD)) (zP (cD p _ s' (t.at_ (by obtain⟨_,_,_,_,e,_⟩:=t2;rw[e,List.length_set];exact hpl)) (by omega) (by omega)) ?_))))
     rintro v s3 ⟨w,rfl,hw,t3⟩
     refine jV.mpr ?_
     rw[eq_int]
     refine zC.mpr ⟨_,zZ,?_⟩
     cases hb:decide ((w:Int)=0) with
     |false=>
      rw[if_neg Bool.false_ne_true,if_neg Bool.false_ne_true]
      exact⟨⟨_,rfl⟩,t.trans t3,i+1,ls,by omega,rfl,rfl,hu,fun x hx=>Nat.lt_succ_of_lt (hl x hx)⟩
     |true=>
      rw[if_pos rfl]
      refine xj.mpr ?_
      rw[if_pos rfl]
      show (evE Φ T.gl [some (.int (i:Int)),some (.ref p),some (.int ((2:Int)+(q:Int)))] (.var 0) s3).post _
      rw[zB rfl]
      refine zC.mpr ⟨⟨_,rfl⟩,t.trans t3,i+1,ls++[i],by omega,rfl,?_,?_,fun x hx=>?_⟩
      . unfold zc
        rw[List.map_append,List.map_append];rfl
      . rw[List.pairwise_append]
        exact⟨hu,List.pairwise_singleton _ _,fun a ha b hb=>by rw[List.mem_singleton.mp hb];exact hl a ha⟩
      . rcases List.mem_append.mp hx with hx|hx
        . exact Nat.lt_succ_of_lt (hl x hx)
        . rw[List.mem_singleton.mp hx];omega
 . rintro e s' acc ⟨⟨o,rfl⟩,t,i,ls,hi,hr,rfl,hu,hl⟩
   refine zC.mpr (n5.mpr (zC.mpr ?_))
   show (yI false s (zG ls) s').post _
   rw[nX (t2.trans t) (nrT _)]
   exact zC.mpr ⟨ls,rfl,⟨hu,fun x hx=>by have:=hl x hx;omega⟩,t2.trans t⟩
end
end M
end
section
namespace M
open PySem Hd
noncomputable def uf(h:Heap):KF:=(List.range h.objs.size).filterMap fun a=>(h.get? a).map fun o=>(a,o)
theorem sU{g:Addr→Option Obj}{a:Addr}:∀{l:List Addr},a∈l→(l.filterMap fun b=>(g b).map fun o=>(b,o)).lookup a=g a
 |b::r,hm=>by
  rw[List.filterMap_cons]
  by_cases e:a=b
  . subst e
    cases hg:g a with
    |none=>
     show (r.filterMap _).lookup a=none
     by_cases m:a∈r
     . rw[sU m,hg]
     . exact List.lookup_eq_none_iff.mpr fun p hp=>by
        obtain⟨c,hc,e⟩:=List.mem_filterMap.mp hp
        obtain⟨o,_,rfl⟩:=Option.map_eq_some_iff.mp e
        have z:a≠c:=fun z=>m (by rw[z];exact hc)
        simpa using z
    |some o=>show (List.lookup a ((a,o)::_))=_;rw[List.lookup_cons,beq_self_eq_true]
  . have m:a∈r:=(List.mem_cons.mp hm).resolve_left e
    cases hg:g b with
    |none=>exact sU m
    |some o=>
     show (List.lookup a ((b,o)::_))=_
     rw[List.lookup_cons,beq_false_of_ne e]
     exact sU m
theorem xK{h:Heap}{a:Addr}(o:Obj)(e:h.get? a=some o):(uf h).lookup a=some o:=by
 rw[←e]
 exact sU (List.mem_range.mpr (Heap.lt_size e))
theorem gr{h:Heap}:(uf h).In h:=fun a o e=>by
 obtain⟨c,_,e⟩:=List.mem_filterMap.mp (rZ e)
 obtain⟨o',e1,e2⟩:=Option.map_eq_some_iff.mp e
 cases e2
 exact e1
theorem rn{h:Heap}{x:Str}{v:Option Value}(e:nsH h x=some v):PySem.W.nsIn (uf h) mainGlobals x=some v:=by
 unfold nsH at e
 split at e
 . rename_i o ho
   unfold PySem.W.nsIn at e ⊢
   rw[xK o ho]
   exact e
 . cases e
theorem gZ{h:Heap}{cd:Value}{x:Str}(e:gY h cd x=true):PySem.W.codeIn (uf h) cd x=true:=by
 unfold gY at e
 split at e
 . split at e
   . rename_i c o ho
     unfold PySem.W.codeIn at e ⊢
     dsimp only at e ⊢
     rw[List.lookup_cons,beq_self_eq_true]at e
     rw[xK o ho]
     exact e
   . cases e
 . cases e
theorem args_eq(st:Stmt):args st=L2.vB st∧body st=L2.xh st∧scope st=L2.yB st:=by cases st<;>exact⟨rfl,rfl,rfl⟩
theorem Zk{h:Heap}{p:Str × Stmt}(e:bW h p.1=ai p):oz (uf h) p.1 p.2:=by
 obtain⟨a1,a2,a3⟩:=args_eq p.2
 unfold ai at e
 rw[a1,a2,a3]at e
 unfold bW at e
 split at e
 . rename_i f hf
   split at e
   . rename_i oc od fd osl ho
     split at e
     . rename_i hc
       have e':=Option.some.inj e
       obtain⟨n,q,ps,b,sc,g,cl,df,kw,dc,pm,an,cd,ct,bl⟩:=fd
       injection e' with e1 e2 e3 e4 e5 e6 e7 e8 _ _ _ _ _ _ e9
       subst e1 e2 e3 e4 e5 e6 e7 e8 e9
       exact Zj (rn hf) (xK _ ho) (gZ hc) (by unfold PySem.W.keepIn;dsimp only;rw[xK _ ho])
     . cases e
   . cases e
 . cases e
noncomputable def gv:G→Val
 |.int i=>.int i
 |.str x=>.str x
 |.ctup ns=>.ctup ns
theorem WQ{h:Heap}{x:Str}{v:G}(e:glB h x v=true):jr (uf h) x (gv v):=by
 cases v with
 |int i=>
  unfold glB at e;dsimp only at e
  split at e
  . rename_i hn;have:=of_decide_eq_true e;subst this;exact int_mk (rn hn)
  . cases e
 |str y=>
  unfold glB at e;dsimp only at e
  split at e
  . rename_i hn;have:=of_decide_eq_true e;subst this;exact str_mk (rn hn)
  . cases e
 |ctup ns=>
  unfold glB at e;dsimp only at e
  split at e
  . rename_i hn
    split at e
    . rename_i n od us k sl ho
      obtain⟨e1,e3⟩:=Bool.and_eq_true_iff.mp e
      obtain⟨e1,e2⟩:=Bool.and_eq_true_iff.mp e1
      have:=of_decide_eq_true e1;subst this
      exact cQ (us:=us.toList) (rn hn) (xK _ ho) (of_decide_eq_true e2) (of_decide_eq_true e3)
    . cases e
  . cases e
theorem WB{h:Heap}{x:Str}(e:blB h x=true):PySem.W.nsIn (uf h) mainGlobals x=some none:=by
 unfold blB at e
 split at e
 . rename_i hn;exact rn hn
 . cases e
def Za(D:List (Str × Stmt))(glL:List (Str × Val))(K:KF)(h:Heap):Prop:=K.In h∧(∀p∈D,oz K p.1 p.2)∧(∀p∈glL,jr K p.1 p.2)∧∀x∈wg,PySem.W.nsIn K mainGlobals x=some none
theorem kn{h:Heap}:∀{D:List (Str × Stmt)},(D.map fun p=>bW h p.1)=D.map ai→∀p∈D,oz (uf h) p.1 p.2
 |p::D,e,q,hq=>by
  rw[List.map_cons,List.map_cons]at e
  obtain⟨e1,e2⟩:=List.cons.inj e
  rcases List.mem_cons.mp hq with rfl|hq
  . exact Zk e1
  . exact kn e2 q hq
theorem aQ{D:List (Str × Stmt)}{gl:List (Str × G)}{s:Shared}(e:Yk D gl s=Xs D):∃K,Za D (gl.map fun p=>(p.1,gv p.2)) K s.heap:=by
 obtain⟨e1,e2⟩:=Prod.mk.inj e
 obtain⟨e2,e3⟩:=Bool.and_eq_true_iff.mp e2
 exact⟨uf s.heap,gr,kn e1,fun p hp=>(by obtain⟨p',h1,rfl⟩:=List.mem_map.mp hp;exact WQ (List.all_eq_true.mp e2 p' h1)),fun x hx=>WB (List.all_eq_true.mp e3 x hx)⟩
theorem close{l:PySem.W.OpenLaw}{q:Program}{d:DefRec}{fnL:List ((Str × Nat) × Fn)}{glL:List (Str × Val)}{gl:List (Str × G)}{D:List (Str × Stmt)}{F:Fn}{n N:Nat}{x:Str}
 (Xa:l.wellSaid=true) (left:PySem.W.LeftO l.row.prog q [] (fun s=>PySem.W.recOk l.row.records s) (Yk D gl) (fun _=>Xs D) N) (hgl:glL=gl.map fun p=>(p.1,gv p.2))
 (Zs:PySem.W.defOf q l.row.name=some (d,[])) (hp:l.row.prog.theDef l.row.name=some (d.params,d.body,d.scope)) (hk:PySem.W.kwWritten? d.params.kwonlyargs d.params.kw_defaults=some [])
 (hwr:(!l.row.writes||l.row.records.isEmpty)=true) (ok:(PySem.W.chainsOk q&&PySem.W.opensWell l.row.prog&&(PySem.W.frees l.row.toRowW&&l.row.within.isEmpty))=true) (hb:l.row.prog.bare) (hw:l.row.toRowW.promised)
 (hn:l.most=some 63) (hdf:d.params.defaults=[]) (hr:L2.y1 n callerA) (hF:(tbl fnL glL).fn d.name 0=some F) (hx:F.ps=[x]) (hc:jm fnL D=true)
 (HL:∀ns:List Int,ns.length≤63→∃s',zF (tbl fnL glL) n d.name 0 [.scr ns] []=.ok (.bool true) s'):l.Holds:=by
 refine PySem.W.holds_law Xa fun said'=>PySem.W.holds_open (q:=q) (loose:=[]) (Xt:=fun s=>PySem.W.recOk l.row.records s) (XP:=fun _ _=>True) (YP:=fun _ h=>∃K,Za D glL K h) left (fun w s e=>hgl▸aQ e)
  (fun w h h' ⟨K,a,b⟩ k=>⟨K,a.keeps k,b⟩) (fun _ _=>trivial) (fun _ _ _ _ _=>trivial) Zs hp hk (fun s e=>PySem.W.recFacts_of e) hwr said' ok hb hw ?_
 intro w s₀ s₁ mg mb G ⟨K,Y⟩
 exact walk (l:=l) (q:=q) (loose:=[]) (XP:=fun _ _=>True) (YP:=fun _ h=>Za D glL K h) (d:=d) (K:=fun _=>K) (T:=tbl fnL glL) hn hdf hr (fun _ _ y=>y.1) hF hx (fun w mg h X g=>Xn X g Y.2.1 Y.2.2.1 Y.2.2.2 hc) HL w s₀ s₁ mg mb G Y
end M
end
section
namespace P55
open PySem M
noncomputable def yK:Fn:=F.yK
noncomputable def yt:Fn:=F75.yt
noncomputable def xS:Fn:=F55.xS
noncomputable def yd:Fn:=F75.yd
noncomputable def xT:Fn:=F55.xT
noncomputable def yv:Fn:=F.yv
noncomputable def y9:Fn:=F55.y9
noncomputable def vm:Fn:=F55.vm
noncomputable def xU:Fn:=F55.xU
noncomputable def yl:Fn:=F55.yl
noncomputable def yw:Fn:=F55.yw
noncomputable def xA:Fn:=F55.xA
noncomputable def yx:Fn:=F55.yx
noncomputable def tG:Fn:=F55.tG
noncomputable def wF:Fn:=F55.wF
noncomputable def xV:Fn:=F55.xV
noncomputable def we:Fn:=F55.we
noncomputable def xB:Fn:=F55.xB
noncomputable def xW:Fn:=F.xW
noncomputable def qm:Fn:=⟨["_law_script","_law_k","_law_pen_here","_law_size","_law_length","_law_short","_law_by","_law_lot_here","_law_rest","_law_top","_law_few","_law_first","_law_soon","_law_place","_law_moved","_law_same","_law_row","_law_due"],["_law_script"],false,(.cons (.forS (.nm 1) (.range1 (.blt .max false (.cons (.lit (.int 1)) (.cons (.blt .min false (.cons (.blt .len false (.cons (.var 0) .nil)) (.cons (.lit (.int 4)) .nil))) .nil)))) (.cons (.asg 2 (.call "_law_pen" 1 (.cons (.call "_law_cell_at" 0 (.cons (.var 0) (.cons (.var 1) .nil))) .nil))) (.cons (.par [3,4,5] (.cons (.bin false .add (.lit (.int 3)) (.call "_law_draw" 0 (.cons (.var 2) (.cons (.lit (.int 6)) .nil)))) (.cons (.call "_law_draw" 0 (.cons (.var 2) (.cons (.lit (.int 41)) .nil))) (.cons (.call "_law_draw" 0 (.cons (.var 2) (.cons (.lit (.int 12)) .nil))) .nil)))) (.cons (.asg 6 (.call "_law_draw" 0 (.cons (.var 2) (.cons (.lit (.int 12)) .nil)))) (.cons (.asg 7 (.call "_law_lot" 0 (.cons (.var 2) .nil))) (.cons (.asg 8 (.blt .tuple false (.cons (.comp false ["_law_place","_law_lot_here"] [none,some 7] (.var 0) (.nm 0) (.range1 (.var 4)) (.cons (.val (.cmp .notIn (.var 0) (.var 1))) .nil)) .nil))) (.cons (.ifS (.val (.cmp .ne (.call "hits" 0 (.cons (.var 3) (.cons (.var 4) (.cons (.var 7) .nil)))) (.call "is_bare" 0 (.cons (.var 3) (.cons (.var 8) .nil))))) (.cons (.ret (.lit (.bool false))) .nil) .nil) (.cons (.par [9,10] (.cons (.call "most" 0 (.cons (.var 3) (.cons (.var 5) .nil))) (.cons (.call "fewest_hits" 0 (.cons (.var 3) (.cons (.var 5) .nil))) .nil))) (.cons (.ifS (.or (.val (.cmp .ne (.bin false .add (.var 9) (.var 10)) (.var 5))) (.cons (.val (.cmp .notIn (.bin false .sub (.call "most" 0 (.cons (.var 3) (.cons (.bin false .add (.var 5) (.lit (.int 1))) .nil))) (.var 9)) (.tup (.cons (.lit (.int 0)) (.cons (.lit (.int 1)) .nil))))) .nil)) (.cons (.ret (.lit (.bool false))) .nil) .nil) (.cons (.asg 11 (.call "first_hit" 0 (.cons (.var 3) (.cons (.var 5) .nil)))) (.cons (.ifS (.or (.val (.cmp .ne (.blt .len false (.cons (.var 11) .nil)) (.var 10))) (.cons (.not (.val (.call "hits" 0 (.cons (.var 3) (.cons (.var 5) (.cons (.var 11) .nil)))))) .nil)) (.cons (.ret (.lit (.bool false))) .nil) .nil) (.cons (.ifS (.val (.cmp .ne (.comp false ["_law_one","_law_top","_law_size"] [none,some 9,some 3] (.var 0) (.nm 0) (.val (.call "all_most" 0 (.cons (.var 3) (.cons (.var 5) .nil)))) (.cons (.or (.val (.cmp .ne (.blt .len false (.cons (.var 0) .nil)) (.var 1))) (.cons (.not (.val (.call "is_bare" 0 (.cons (.var 2) (.cons (.var 0) .nil))))) .nil)) .nil)) (.lst false .nil))) (.cons (.ret (.lit (.bool false))) .nil) .nil) (.cons (.asg 12 (.call "early" 0 (.cons (.var 3) (.cons (.var 4) .nil)))) (.cons (.ifS (.or (.not (.val (.call "is_bare" 0 (.cons (.var 3) (.cons (.var 12) .nil))))) (.cons (.val (.cmp .gt (.blt .len false (.cons (.call "early" 0 (.cons (.var 3) (.cons (.var 5) .nil))) .nil)) (.var 9))) .nil)) (.cons (.ret (.lit (.bool false))) .nil) .nil) (.cons (.forS (.nm 13) (.range1 (.var 4)) (.cons (.ifS (.val (.cmp .ne (.call "is_early" 0 (.cons (.var 3) (.cons (.var 13) .nil))) (.cmp .in_ (.var 13) (.var 12)))) (.cons (.ret (.lit (.bool false))) .nil) .nil) (.cons (.ifS (.and (.val (.cmp .notIn (.var 13) (.var 12))) (.cons (.val (.call "is_bare" 0 (.cons (.var 3) (.cons (.blt .tuple false (.cons (.blt .sortedI false (.cons (.bin false .add (.var 12) (.tup (.cons (.var 13) .nil))) .nil)) .nil)) .nil)))) .nil)) (.cons (.ret (.lit (.bool false))) .nil) .nil) .nil))) (.cons (.asg 14 (.blt .tuple false (.cons (.comp false ["_law_place","_law_by"] [none,some 6] (.bin false .add (.var 0) (.var 1)) (.nm 0) (.val (.var 7)) (.cons (.val (.cmp .lt (.bin false .add (.var 0) (.var 1)) (.lit (.int 40)))) .nil)) .nil))) (.cons (.asg 15 (.blt .tuple false (.cons (.comp false ["_law_place","_law_by"] [none,some 6] (.var 0) (.nm 0) (.val (.var 7)) (.cons (.val (.cmp .lt (.bin false .add (.var 0) (.var 1)) (.lit (.int 40)))) .nil)) .nil))) (.cons (.asg 16 (.call "first_full" 0 (.cons (.var 3) (.cons (.var 15) .nil)))) (.cons (.asg 17 (.ife (.val (.cmp .is (.var 16) (.lit .none))) (.lit .none) (.tup (.cons (.bin false .add (.ix (.var 16) (.lit (.int 0))) (.var 6)) (.cons (.ix (.var 16) (.lit (.int 1))) .nil))))) (.cons (.ifS (.or (.val (.cmp .ne (.blt .repr false (.cons (.call "first_full" 0 (.cons (.var 3) (.cons (.var 14) .nil))) .nil)) (.blt .repr false (.cons (.var 17) .nil)))) (.cons (.val (.cmp .ne (.call "is_bare" 0 (.cons (.var 3) (.cons (.var 14) .nil))) (.cmp .is (.var 17) (.lit .none)))) .nil)) (.cons (.ret (.lit (.bool false))) .nil) .nil) .nil)))))))))))))))))))) (.cons (.ret (.lit (.bool true))) .nil))⟩
noncomputable def tH:Fn:=F55.tH
noncomputable def xC:Fn:=F.xC
noncomputable def yE:Fn:=F55.yE
noncomputable def yy:Fn:=F14.yy
noncomputable def ym:Fn:=F.ym
noncomputable def xX:Fn:=F55.xX
noncomputable def yJ:Fn:=F55.yJ
noncomputable def zw:Fn:=F55.zw
noncomputable def xD:Fn:=F.xD
noncomputable def xE:Fn:=F14.xE
noncomputable def yz:Fn:=F.yz
noncomputable def yn:Fn:=F55.yn
noncomputable def xF:Fn:=F08.xF
noncomputable def wG:Fn:=F75.wG
noncomputable def fnL:List ((Str × Nat) × Fn):=((("_law_cell_at":Str),(0:Nat)),yK)::((("_law_draw":Str),(0:Nat)),yt)::((("_law_lot":Str),(0:Nat)),xS)::((("_law_pen":Str),(1:Nat)),yd)::((("all_most":Str),(0:Nat)),xT)::((("are_wholes":Str),(0:Nat)),yv)::((("bare_lots":Str),(0:Nat)),y9)::((("early":Str),(0:Nat)),vm)::((("ends_row":Str),(0:Nat)),xU)::((("fewest_hits":Str),(0:Nat)),yl)::((("first_full":Str),(0:Nat)),yw)::((("first_hit":Str),(0:Nat)),xA)::((("first_most":Str),(0:Nat)),yx)::((("hits":Str),(0:Nat)),tG)::((("is_bare":Str),(0:Nat)),wF)::((("is_early":Str),(0:Nat)),xV)::((("is_lot":Str),(0:Nat)),we)::((("is_rising":Str),(0:Nat)),xB)::((("is_whole":Str),(0:Nat)),xW)::((("law":Str),(0:Nat)),qm)::((("most":Str),(0:Nat)),tH)::((("most_step":Str),(0:Nat)),xC)::((("need_early_size":Str),(0:Nat)),yE)::((("need_first":Str),(0:Nat)),yy)::((("need_length":Str),(0:Nat)),ym)::((("need_lot":Str),(0:Nat)),xX)::((("need_lot_place":Str),(0:Nat)),yJ)::((("need_short_length":Str),(0:Nat)),zw)::((("need_size":Str),(0:Nat)),xD)::((("need_step":Str),(0:Nat)),xE)::((("need_whole":Str),(0:Nat)),yz)::((("places_left":Str),(0:Nat)),yn)::((("places_of":Str),(0:Nat)),xF)::((("rows_in":Str),(0:Nat)),wG)::[]
noncomputable def glL:List (Str × Val):=[("MOST_PLACES",.int 40),("LEAST_SIZE",.int 2),("MOST_SIZE",.int 8),("LEAST_EARLY_SIZE",.int 3),("MOST_LENGTH",.int 12)]
noncomputable def T:Tbl:=tbl fnL glL
set_option maxHeartbeats 0 in
theorem Xm:jm fnL D=true:=by decide +kernel
end P55
end
section
namespace P55
open PySem M
structure Cs(Φ:Calls):Prop where
 cell:av Φ
 pen:a0 Φ
 draw:mh Φ
 lot:ax Φ
 hits:aw Φ
 bare:gD Φ
 full:gF Φ
 most:gH Φ
 few:kO Φ
 hit:tE Φ
 all:uQ Φ
 early:mi Φ
 isEarly:oy Φ
theorem ne_bool{b:Bool}{s:Sto}:zU .ne (.bool b) (.bool b) s=.ok (.bool false) s:=by cases b<;>rfl
theorem oT{i:Int}{s:Sto}:zU .ne (.int i) (.int i) s=.ok (.bool false) s:=by rw[ne_int,decide_eq_true rfl];rfl
theorem sQ{T:Tbl}{Φ:Calls}{s:Sto}(g:GlL T)(c:xR Φ){i:Int}(h1:0≤i)(h2:i≤40):run T Φ F.ym [.int i] s=.ok .none s:=by
 rw[post_eq]
 simp[F.ym,EVl,yY,zk,g.mp,c i 0 40 s h1 h2]
theorem qb{T:Tbl}{Φ:Calls}{s:Sto}(g:GlL T)(c:xR Φ){i:Int}(h1:2≤i)(h2:i≤8):run T Φ F.xD [.int i] s=.ok .none s:=by
 rw[post_eq]
 simp[F.xD,EVl,yY,zk,g.ls,g.ms,c i 2 8 s h1 h2]
theorem qA{T:Tbl}{Φ:Calls}{s:Sto}(g:GlL T)(c:xR Φ){i:Int}(h1:0≤i)(h2:i≤40):run T Φ F14.yy [.int i] s=.ok .none s:=by
 rw[post_eq]
 simp[F14.yy,EVl,yY,zk,g.mp,c i 0 40 s h1 h2]
theorem qc{T:Tbl}{Φ:Calls}{s:Sto}(g:GlL T)(c:xR Φ){i:Int}(h1:1≤i)(h2:i≤40):run T Φ F14.xE [.int i] s=.ok .none s:=by
 rw[post_eq]
 simp[F14.xE,EVl,yY,zk,g.mp,c i 1 40 s h1 h2]
theorem aL{o:Option (Nat × Nat)}(h:∀r,o=some r→r.1≤1000∧r.2≤1000){s:Sto}:∃t,blt .repr false [ffV o] s=.ok (.str t) s:=by
 cases o with
 |none=>exact⟨_,rfl⟩
 |some r=>exact⟨_,dD (h r rfl)⟩
noncomputable def putN(ls:List Nat)(p:Nat):List Nat:=(sortI (zc (ls++[p]))).map Int.toNat
theorem sg{ls:List Nat}{p:Nat}:sortI (zc (ls++[p]))=zc (putN ls p):=by
 unfold putN zc
 rw[List.map_map]
 have:(sortI ((ls++[p]).map fun(h:Nat)=>(h:Int))).map ((fun(h:Nat)=>(h:Int))∘Int.toNat)=(sortI ((ls++[p]).map fun(h:Nat)=>(h:Int))).map id:=List.map_congr_left fun x hx=>by
  obtain⟨k,_,rfl⟩:=List.mem_map.mp ((sortI_perm _).mem_iff.mp hx)
  show ((k:Int).toNat:Int)=(k:Int)
  rw[Int.toNat_natCast]
 rw[this,List.map_id]
theorem jQ{ls:List Nat}{p x:Nat}:x∈putN ls p↔x∈ls∨x=p:=by
 have h:(x:Int)∈zc (putN ls p)↔(x:Int)∈zc (ls++[p]):=by rw[←sg];exact(sortI_perm _).mem_iff
 have g:∀l:List Nat,(x:Int)∈zc l↔x∈l:=fun l=>by
  rw[List.mem_map]
  exact⟨fun⟨k,hk,e⟩=>by rwa [show x=k by omega],fun h=>⟨x,h,rfl⟩⟩
 rw[g,g,List.mem_append,List.mem_singleton]at h
 exact h
theorem aJ{ls:List Nat}{p:Nat}(h:Lot ls)(hp:p<40)(hn:p ∉ ls):Lot (putN ls p):=by
 have nd:(ls++[p]).Nodup:=by
  rw[List.nodup_append]
  exact⟨du h.up,List.pairwise_singleton _ p,fun a ha b hb e=>hn (by rw[←List.mem_singleton.mp hb,←e];exact ha)⟩
 have ndI:(zc (ls++[p])).Nodup:=vq nd fun a _ b _ e=>by omega
 have nd2:(zc (putN ls p)).Nodup:=by rw[←sg];exact(sortI_perm _).nodup_iff.mpr ndI
 have up:=qC (zc (ls++[p]))
 rw[sg]at up
 refine⟨?_,fun x hx=>?_⟩
 . have h1:=List.pairwise_map.mp up
   have h2:=List.pairwise_map.mp nd2
   exact(List.Pairwise.and h1 h2).imp fun{a b} hab=>by
    have h3:(a:Int)≤(b:Int):=hab.1
    have h4:(a:Int)≠(b:Int):=hab.2
    omega
 . rcases jQ.mp hx with hx|hx
   . exact h.lt x hx
   . rw[hx];exact hp
noncomputable def mvG(b:Nat):Val→List Val
 |.int i=>if decide (i.toNat+b<40) then [.int (i+b)] else []
 |_=>[]
noncomputable def smG(b:Nat):Val→List Val
 |.int i=>if decide (i.toNat+b<40) then [.int i] else []
 |_=>[]
section
variable {Φ:Calls}{s:Sto}
theorem fm{p b:Nat}{s:Sto}:zU .lt (.int ((p:Int)+(b:Int))) (.int 40) s=.ok (.bool (decide (p+b<40))) s:=by
 show Out.ok (Val.bool (decide ((p:Int)+(b:Int)<40))) s=_
 congr 2
 exact decide_eq_decide.mpr (by omega)
theorem aq{G:Str→Option Val}{env:M.Env}{N:List Str}{ls:List Nat}{b:Nat}(h1:env[7]?=some (some (zG ls)))(h0:zk [none,some 6] env=[none,some (.int (b:Int))]) :
 evE Φ G env (.blt .tuple false (.cons (.comp false N [none,some 6] (.bin false .add (.var 0) (.var 1)) (.nm 0) (.val (.var 7)) (.cons (.val (.cmp .lt (.bin false .add (.var 0) (.var 1)) (.lit (.int 40)))) .nil)) .nil)) s=.ok (zG (yL b ls)) s:=by
 have hc:evE Φ G env (.comp false N [none,some 6] (.bin false .add (.var 0) (.var 1)) (.nm 0) (.val (.var 7)) (.cons (.val (.cmp .lt (.bin false .add (.var 0) (.var 1)) (.lit (.int 40)))) .nil)) s=.ok (.lst ((zc (yL b ls)).map .int)) s:=by
  rw[post_eq]
  refine y7 (fun e=>∃o,e=[o,some (.int (b:Int))]) (mvG b) ((zc ls).map .int) (s1:=s) (wZ (zB h1) rfl) ⟨none,h0⟩ ?_ ?_
  . rintro x hx e ⟨o,rfl⟩
    rw[yj]at hx
    obtain⟨p,hp,rfl⟩:=List.mem_map.mp hx
    refine⟨_,rfl,⟨_,rfl⟩,?_⟩
    show (yh Φ G [some (.int (p:Int)),some (.int (b:Int))] _ s).post _
    rw[uP (yO (yZ (zq (zB rfl) (zB rfl) vP) zS fm) zZ)]
    refine zC.mpr ⟨rfl,?_⟩
    have e:mvG b (.int (p:Int))=if decide (p+b<40) then [.int ((p:Int)+(b:Int))] else []:=by
     show (if decide ((p:Int).toNat+b<40) then _ else _)=_
     rw[Int.toNat_natCast]
    rw[e]
    cases decide (p+b<40) with
    |false=>rfl
    |true=>
     show (evE Φ G [some (.int (p:Int)),some (.int (b:Int))] _ s).post _
     rw[zq (zB rfl) (zB rfl) vP]
     exact zC.mpr ⟨rfl,rfl⟩
  . have e:((zc ls).map Val.int).flatMap (mvG b)=(zc (yL b ls)).map .int:=by
     rw[yj,yj,List.flatMap_map]
     unfold yL xH
     rw[List.map_map]
     have:(fun(k:Nat)=>mvG b (.int (k:Int)))=fun k=>if decide (k+b<40) then [((fun(k:Nat)=>Val.int (k:Int))∘fun k=>k+b) k] else []:=by
      funext k
      show (if decide ((k:Int).toNat+b<40) then [Val.int ((k:Int)+(b:Int))] else [])=_
      rw[Int.toNat_natCast]
      show _=if decide (k+b<40) then [Val.int ((k+b:Nat):Int)] else []
      rw[Int.natCast_add]
     rw[this,wu (p:=fun k=>decide (k+b<40)) (f:=(fun(k:Nat)=>Val.int (k:Int))∘fun k=>k+b)]
    rw[e]
    exact zC.mpr ⟨rfl,rfl⟩
 exact yV (zA hc zD) rfl
theorem X1{G:Str→Option Val}{env:M.Env}{N:List Str}{ls:List Nat}{b:Nat}(h1:env[7]?=some (some (zG ls)))(h0:zk [none,some 6] env=[none,some (.int (b:Int))]) :
 evE Φ G env (.blt .tuple false (.cons (.comp false N [none,some 6] (.var 0) (.nm 0) (.val (.var 7)) (.cons (.val (.cmp .lt (.bin false .add (.var 0) (.var 1)) (.lit (.int 40)))) .nil)) .nil)) s=.ok (zG (xH b ls)) s:=by
 have hc:evE Φ G env (.comp false N [none,some 6] (.var 0) (.nm 0) (.val (.var 7)) (.cons (.val (.cmp .lt (.bin false .add (.var 0) (.var 1)) (.lit (.int 40)))) .nil)) s=.ok (.lst ((zc (xH b ls)).map .int)) s:=by
  rw[post_eq]
  refine y7 (fun e=>∃o,e=[o,some (.int (b:Int))]) (smG b) ((zc ls).map .int) (s1:=s) (wZ (zB h1) rfl) ⟨none,h0⟩ ?_ ?_
  . rintro x hx e ⟨o,rfl⟩
    rw[yj]at hx
    obtain⟨p,hp,rfl⟩:=List.mem_map.mp hx
    refine⟨_,rfl,⟨_,rfl⟩,?_⟩
    show (yh Φ G [some (.int (p:Int)),some (.int (b:Int))] _ s).post _
    rw[uP (yO (yZ (zq (zB rfl) (zB rfl) vP) zS fm) zZ)]
    refine zC.mpr ⟨rfl,?_⟩
    have e:smG b (.int (p:Int))=if decide (p+b<40) then [.int (p:Int)] else []:=by
     show (if decide ((p:Int).toNat+b<40) then _ else _)=_
     rw[Int.toNat_natCast]
    rw[e]
    cases decide (p+b<40) with
    |false=>rfl
    |true=>
     show (evE Φ G [some (.int (p:Int)),some (.int (b:Int))] (.var 0) s).post _
     rw[zB rfl]
     exact zC.mpr ⟨rfl,rfl⟩
  . have e:((zc ls).map Val.int).flatMap (smG b)=(zc (xH b ls)).map .int:=by
     rw[yj,yj,List.flatMap_map]
     unfold xH
     have:(fun(k:Nat)=>smG b (.int (k:Int)))=fun k=>if decide (k+b<40) then [(fun(k:Nat)=>Val.int (k:Int)) k] else []:=by
      funext k
      show (if decide ((k:Int).toNat+b<40) then [Val.int (k:Int)] else [])=_
      rw[Int.toNat_natCast]
     rw[this,wu (p:=fun k=>decide (k+b<40)) (f:=fun(k:Nat)=>Val.int (k:Int))]
    rw[e]
    exact zC.mpr ⟨rfl,rfl⟩
 exact yV (zA hc zD) rfl
theorem fe(c:Cs Φ)(ns:List Int):(run T Φ qm [.scr ns] []).post fun v _=>v=.bool true:=by
 rw[qm,yb]
 refine⟨rfl,?_⟩
 show (zW Φ T.gl [some (.scr ns),none,none,none,none,none,none,none,none,none,none,none,none,none,none,none,none,none] _ []).post _
 refine yA.mpr (uM (fun rest e s'=>(∃o1 o2 o3 o4 o5 o6 o7 o8 o9 o10 o11 o12 o13 o14 o15 o16 o17,e=[some (.scr ns),o1,o2,o3,o4,o5,o6,o7,o8,o9,o10,o11,o12,o13,o14,o15,o16,o17])∧∀x∈rest,∃k:Nat,x=.int k) (yX 0 (max 1 (min ns.length 4))) (s1:=[]) (gn (K:=4) rfl (by omega)) ⟨⟨_,_,_,_,_,_,_,_,_,_,_,_,_,_,_,_,_,rfl⟩,?_⟩ ?_ ?_)
 . intro x hx
   obtain⟨k,_,rfl⟩:=vJ hx
   exact⟨k,by congr 1;omega⟩
 . rintro x rest e s' ⟨⟨o1,o2,o3,o4,o5,o6,o7,o8,o9,o10,o11,o12,o13,o14,o15,o16,o17,rfl⟩,hr⟩
   obtain⟨k,rfl⟩:=hr x (.head _)
   have hr':∀x∈rest,∃k:Nat,x=.int k:=fun x hx=>hr x (.tail _ hx)
   refine⟨_,rfl,?_⟩
   obtain⟨cv,hcell⟩:=c.cell ns k s'
   obtain⟨pa,pb,pc,pd,hpen,hb⟩:=c.pen cv s'
   show (zW Φ T.gl [some (.scr ns),some (.int k),o2,o3,o4,o5,o6,o7,o8,o9,o10,o11,o12,o13,o14,o15,o16,o17] _ s').post _
   refine wC (x_call (zA (x_call (zA (zB rfl) (zA (zB rfl) zD)) hcell) zD) hpen) ?_
   have hP:qS (s'++[qX pa pb pc pd]) s'.length:=⟨pa,pb,pc,pd,by simp,hb⟩
   generalize s'++[qX pa pb pc pd]=s1 at hP
   generalize s'.length=p at hP
   refine yA.mpr (jW.mpr (vd.mpr (f9.mpr (jV.mpr (wW (zA (zB rfl) (zA zS zD)) (zP (c.draw p 6 s1 hP (by omega) (by omega)) ?_))))))
   rintro v s2 ⟨z0,rfl,hz6,t2⟩
   have hP2:=t2.at_ hP.lt
   rw[vP,show (3:Int)+(z0:Int)=((z0+3:Nat):Int) by omega]
   refine zC.mpr (vd.mpr (wW (zA (zB rfl) (zA zS zD)) (zP (c.draw p 41 s2 hP2 (by omega) (by omega)) ?_)))
   rintro v s3 ⟨n,rfl,hn41,t3⟩
   have hP3:=t3.at_ hP2.lt
   refine vd.mpr (wW (zA (zB rfl) (zA zS zD)) (zP (c.draw p 12 s3 hP3 (by omega) (by omega)) ?_))
   rintro v s4 ⟨m,rfl,hm12,t4⟩
   have hP4:=t4.at_ hP3.lt
   refine n5.mpr (oZ rfl ?_)
   obtain⟨Z,hZe,hz3,hz8⟩:∃Z:Nat,z0+3=Z∧3≤Z∧Z≤8:=⟨_,rfl,by omega,by omega⟩
   have hz2:2≤Z:=by omega
   have hn:n≤40:=by omega
   have hm:m≤11:=by omega
   rw[hZe]
   show (zW Φ T.gl [some (.scr ns),some (.int k),some (.ref p),some (.int Z),some (.int n),some (.int m),o6,o7,o8,o9,o10,o11,o12,o13,o14,o15,o16,o17] _ s4).post _
   refine dW (wW (zA (zB rfl) (zA zS zD)) (zP (c.draw p 12 s4 hP4 (by omega) (by omega)) ?_))
   rintro v s5 ⟨b,rfl,hb12,t5⟩
   have hP5:=t5.at_ hP4.lt
   refine dW (wW (zA (zB rfl) zD) (zP (c.lot p s5 hP5) ?_))
   rintro v s6 ⟨ls,rfl,hL,t6⟩
   show (zW Φ T.gl [some (.scr ns),some (.int k),some (.ref p),some (.int Z),some (.int n),some (.int m),some (.int b),some (zG ls),o8,o9,o10,o11,o12,o13,o14,o15,o16,o17] _ s6).post _
   refine wC (d8 (zB rfl) hn rfl) ?_
   show (zW Φ T.gl [some (.scr ns),some (.int k),some (.ref p),some (.int Z),some (.int n),some (.int m),some (.int b),some (zG ls),some (zG (zY n ls)),o9,o10,o11,o12,o13,o14,o15,o16,o17] _ s6).post _
   refine xp (yO (yZ (x_call (zA (zB rfl) (zA (zB rfl) (zA (zB rfl) zD))) (c.hits ls n Z s6 hL hn hz2 hz8)) (x_call (zA (zB rfl) (zA (zB rfl) zD)) (c.bare (zY n ls) Z s6 (rW hn) hz2 hz8)) (by rw[g8 hz2 hn];exact ne_bool)) zZ) ?_
   refine yA.mpr (jW.mpr (jU (x_call (zA (zB rfl) (zA (zB rfl) zD)) (c.most Z m s6 hz2 hz8 (by omega))) (jU (x_call (zA (zB rfl) (zA (zB rfl) zD)) (c.few Z m s6 hz2 hz8 (by omega))) (n5.mpr (oZ rfl ?_)))))
   show (zW Φ T.gl [some (.scr ns),some (.int k),some (.ref p),some (.int Z),some (.int n),some (.int m),some (.int b),some (zG ls),some (zG (zY n ls)),some (.int (zX Z m)),some (.int ((m:Int)-zX Z m)),o11,o12,o13,o14,o15,o16,o17] _ s6).post _
   have hm1:=c.most Z (m+1) s6 hz2 hz8 (by omega)
   have hnot:zU .notIn (.int (zX Z (m+1)-zX Z m)) (.tup [.int 0,.int 1]) s6=.ok (.bool false) s6:=by
    rcases bR (z:=Z) (n:=m) with e|e<;>rw[e]<;>rfl
   refine xp (dm (yO (yZ (zq (zB rfl) (zB rfl) (by rw[vP,show zX Z m+((m:Int)-zX Z m)=(m:Int) by omega])) (zB rfl) oT) zZ) (u4 (yO (yZ (zq (x_call (zA (zB rfl) (zA (zq (zB rfl) zS (by rw[vP,show (m:Int)+1=((m+1:Nat):Int) by omega])) zD)) hm1) (zB rfl) Zf) (tD (zA zS (zA zS zD)) (show 2≤zV by decide)) hnot) zZ) qK)) ?_
   obtain⟨hl,hlm,hhit⟩:=g9 (z:=Z) (n:=m)
   have hlb:=wJ hz2 (wM.mp hlm).1
   have chit:=c.hit Z m s6 hz2 hz8 (by omega)
   have hlen1:=jB (z:=Z) (n:=m) hz2
   rw[hhit]at chit hlen1
   refine wC (x_call (zA (zB rfl) (zA (zB rfl) zD)) chit) ?_
   show (zW Φ T.gl [some (.scr ns),some (.int k),some (.ref p),some (.int Z),some (.int n),some (.int m),some (.int b),some (zG ls),some (zG (zY n ls)),some (.int (zX Z m)),some (.int ((m:Int)-zX Z m)),some (zG (zY m hl)),o12,o13,o14,o15,o16,o17] _ s6).post _
   have chh:=c.hits (zY m hl) m Z s6 (rW (by omega)) (by omega) hz2 hz8
   rw[gM hz2 hlb.bare]at chh
   refine xp (dm (yO (yZ (yV (zA (zB rfl) zD) (by rw[rV,List.length_map,hlen1])) (zB rfl) oT) zZ) (u4 (sF (yO (x_call (zA (zB rfl) (zA (zB rfl) (zA (zB rfl) zD))) chh) zZ)) qK)) ?_
   have hnone:evE Φ T.gl [some (.scr ns),some (.int k),some (.ref p),some (.int Z),some (.int n),some (.int m),some (.int b),some (zG ls),some (zG (zY n ls)),some (.int (zX Z m)),some (.int ((m:Int)-zX Z m)),some (zG (zY m hl)),o12,o13,o14,o15,o16,o17] (.comp false ["_law_one","_law_top","_law_size"] [none,some 9,some 3] (.var 0) (.nm 0) (.val (.call "all_most" 0 (.cons (.var 3) (.cons (.var 5) .nil)))) (.cons (.or (.val (.cmp .ne (.blt .len false (.cons (.var 0) .nil)) (.var 1))) (.cons (.not (.val (.call "is_bare" 0 (.cons (.var 2) (.cons (.var 0) .nil))))) .nil)) .nil)) s6=.ok (.lst []) s6:=by
    rw[post_eq]
    refine y7 (fun e=>∃o,e=[o,some (.int (zX Z m)),some (.int Z)]) (fun _=>[]) (tps (amI Z m)) (s1:=s6) (wZ (x_call (zA (zB rfl) (zA (zB rfl) zD)) (c.all Z m s6 hz2 hz8 (by omega))) rfl) ⟨none,rfl⟩ ?_ ?_
    . rintro x hx e ⟨o,rfl⟩
      obtain⟨y,hy,rfl⟩:=List.mem_map.mp hx
      obtain⟨l,hl',rfl⟩:=p7 hy
      obtain⟨g1,g2⟩:=wM.mp hl'
      have bl:=wJ hz2 g1
      have lot:Lot l:=⟨bl.up,fun x hx=>by have:=bl.lt x hx;omega⟩
      have cb:=c.bare l Z s6 lot hz2 hz8
      rw[(uX hz2 lot.lt).mpr bl.bare]at cb
      refine⟨_,rfl,⟨_,rfl⟩,?_⟩
      show (yh Φ T.gl [some (zG l),some (.int (zX Z m)),some (.int Z)] _ s6).post _
      rw[uP (dm (yO (yZ (yV (zA (zB rfl) zD) (by rw[rV,List.length_map,List.length_map,g2])) (zB rfl) oT) zZ) (u4 (sF (yO (x_call (zA (zB rfl) (zA (zB rfl) zD)) cb) zZ)) qK))]
      exact zC.mpr ⟨rfl,rfl⟩
    . rw[(List.flatMap_eq_nil_iff (f:=fun(_:Val)=>([]:List Val)) (l:=tps (amI Z m))).mpr fun _ _=>rfl]
      exact zC.mpr ⟨rfl,rfl⟩
   refine xp (yO (yZ hnone (d9 zD (Nat.zero_le _)) (show zU .ne (.lst []) (.lst []) s6=.ok (.bool false) s6 from rfl)) zZ) ?_
   refine wC (x_call (zA (zB rfl) (zA (zB rfl) zD)) (c.early Z n s6 hz3 hz8 hn)) ?_
   show (zW Φ T.gl [some (.scr ns),some (.int k),some (.ref p),some (.int Z),some (.int n),some (.int m),some (.int b),some (zG ls),some (zG (zY n ls)),some (.int (zX Z m)),some (.int ((m:Int)-zX Z m)),some (zG (zY m hl)),some (zG (zJ Z n)),o13,o14,o15,o16,o17] _ s6).post _
   have eL:=j8 (z:=Z) hn
   have ceb:=c.bare (zJ Z n) Z s6 eL hz2 hz8
   rw[(uX hz2 eL.lt).mpr (uJ hz2 n)]at ceb
   have hgt:zU .gt (.int ((zJ Z m).length:Int)) (.int (zX Z m)) s6=.ok (.bool false) s6:=by
    show Out.ok (Val.bool (decide (zX Z m<((zJ Z m).length:Int)))) s6=_
    have:=(sV (z:=Z) (n:=m)).2 _ (rH m)
    rw[decide_eq_false (by omega)]
   refine xp (dm (sF (yO (x_call (zA (zB rfl) (zA (zB rfl) zD)) ceb) zZ)) (u4 (yO (yZ (yV (zA (x_call (zA (zB rfl) (zA (zB rfl) zD)) (c.early Z m s6 hz3 hz8 (by omega))) zD) (by rw[rV,List.length_map,List.length_map])) (zB rfl) hgt) zZ) qK)) ?_
   refine yA.mpr (uM (fun rest2 e s'=>s'=s6∧(∃o13,e=[some (.scr ns),some (.int k),some (.ref p),some (.int Z),some (.int n),some (.int m),some (.int b),some (zG ls),some (zG (zY n ls)),some (.int (zX Z m)),some (.int ((m:Int)-zX Z m)),some (zG (zY m hl)),some (zG (zJ Z n)),o13,o14,o15,o16,o17])∧∀x∈rest2,∃q:Nat,q<n∧x=.int q) (yX 0 n) (s1:=s6) (rT (zB rfl) (by unfold zV;omega)) ⟨rfl,⟨_,rfl⟩,fun x hx=>?_⟩ ?_ ?_)
   . obtain⟨q,hq,rfl⟩:=vJ hx
     exact⟨q,hq,by rw[Int.zero_add]⟩
   . rintro x rest2 e s7 ⟨rfl,⟨o13,rfl⟩,hr2⟩
     obtain⟨q,hq,rfl⟩:=hr2 x (.head _)
     have hr2':∀x∈rest2,∃q:Nat,q<n∧x=.int q:=fun x hx=>hr2 x (.tail _ hx)
     refine⟨_,rfl,?_⟩
     show (zW Φ T.gl [some (.scr ns),some (.int k),some (.ref p),some (.int Z),some (.int n),some (.int m),some (.int b),some (zG ls),some (zG (zY n ls)),some (.int (zX Z m)),some (.int ((m:Int)-zX Z m)),some (zG (zY m hl)),some (zG (zJ Z n)),some (.int (q:Int)),o14,o15,o16,o17] _ s7).post _
     have hie:=c.isEarly Z q s7 hz3 hz8 (by omega)
     rw[show decide (q∈zJ Z (q+1))=decide (q∈zJ Z n) from decide_eq_decide.mpr (wo hq).symm]at hie
     refine xp (yO (yZ (x_call (zA (zB rfl) (zA (zB rfl) zD)) hie) (yZ (zB rfl) (zB rfl) oN) ne_bool) zZ) ?_
     have t1:=yO (Φ:=Φ) (G:=T.gl) (env:=[some (.scr ns),some (.int k),some (.ref p),some (.int Z),some (.int n),some (.int m),some (.int b),some (zG ls),some (zG (zY n ls)),some (.int (zX Z m)),some (.int ((m:Int)-zX Z m)),some (zG (zY m hl)),some (zG (zJ Z n)),some (.int (q:Int)),o14,o15,o16,o17]) (s:=s7) (yZ (a:=.var 13) (b:=.var 12) (zB rfl) (zB rfl) pR) zZ
     by_cases hmem:q∈zJ Z n
     . rw[decide_eq_true hmem]at t1
       exact xp (Xk t1) (wX ⟨rfl,⟨_,rfl⟩,hr2'⟩)
     . rw[decide_eq_false hmem]at t1
       have pl:=aJ eL (show q<40 by omega) hmem
       have cpb:=c.bare (putN (zJ Z n) q) Z s7 pl hz2 hz8
       have hnb:uW (putN (zJ Z n) q) Z=false:=by
        cases e:uW (putN (zJ Z n) q) Z with
        |false=>rfl
        |true=>exact absurd ((uX hz2 pl.lt).mp e) (lA hz2 hq hmem fun x=>jQ)
       rw[hnb]at cpb
       have hel:=kL (vS (z:=Z) n) fun x hx=>xI hx
       have hsrt:blt .sortedI false [zG (zJ Z n++[q])] s7=.ok (.lst ((zc (putN (zJ Z n) q)).map .int)) s7:=by
        show (match M.intsOf ((zc (zJ Z n++[q])).map .int) with|some ns=>if ns.length<64 then newList false ((sortI ns).map .int) s7 else .stuck|Option.none=>.stuck)=_
        rw[sT]
        show (if (zc (zJ Z n++[q])).length<64 then newList false ((sortI (zc (zJ Z n++[q]))).map .int) s7 else .stuck)=_
        rw[if_pos (by rw[List.length_map,List.length_append,List.length_singleton];omega),sg];rfl
       exact xp (Xl t1 (uP (yO (x_call (zA (zB rfl) (zA (yV (zA (yV (zA (zq (zB rfl) (tD (zA (zB rfl) zD) (show 1≤zV by decide)) (kS (by omega))) zD) hsrt) zD) (show blt .tuple false [.lst ((zc (putN (zJ Z n) q)).map .int)] s7=.ok (zG (putN (zJ Z n) q)) s7 from rfl)) zD)) cpb) zZ))) (wX ⟨rfl,⟨_,rfl⟩,hr2'⟩)
   . rintro e s7 ⟨rfl,⟨o13,rfl⟩,_⟩
     refine wC (aq (ls:=ls) (b:=b) rfl rfl) (wC (X1 (ls:=ls) (b:=b) rfl rfl) ?_)
     show (zW Φ T.gl [some (.scr ns),some (.int k),some (.ref p),some (.int Z),some (.int n),some (.int m),some (.int b),some (zG ls),some (zG (zY n ls)),some (.int (zX Z m)),some (.int ((m:Int)-zX Z m)),some (zG (zY m hl)),some (zG (zJ Z n)),o13,some (zG (yL b ls)),some (zG (xH b ls)),o16,o17] _ s7).post _
     refine wC (x_call (zA (zB rfl) (zA (zB rfl) zD)) (c.full (xH b ls) Z s7 (mT hL) hz2 hz8)) ?_
     show (zW Φ T.gl [some (.scr ns),some (.int k),some (.ref p),some (.int Z),some (.int n),some (.int m),some (.int b),some (zG ls),some (zG (zY n ls)),some (.int (zX Z m)),some (.int ((m:Int)-zX Z m)),some (zG (zY m hl)),some (zG (zJ Z n)),o13,some (zG (yL b ls)),some (zG (xH b ls)),some (ffV (ffO (xH b ls) Z)),o17] _ s7).post _
     have hdue:evE Φ T.gl [some (.scr ns),some (.int k),some (.ref p),some (.int Z),some (.int n),some (.int m),some (.int b),some (zG ls),some (zG (zY n ls)),some (.int (zX Z m)),some (.int ((m:Int)-zX Z m)),some (zG (zY m hl)),some (zG (zJ Z n)),o13,some (zG (yL b ls)),some (zG (xH b ls)),some (ffV (ffO (xH b ls) Z)),o17] (.ife (.val (.cmp .is (.var 16) (.lit .none))) (.lit .none) (.tup (.cons (.bin false .add (.ix (.var 16) (.lit (.int 0))) (.var 6)) (.cons (.ix (.var 16) (.lit (.int 1))) .nil)))) s7=.ok (ffV (ffO (yL b ls) Z)) s7:=by
      rw[ft hz2]
      cases ffO (xH b ls) Z with
      |none=>exact Xz (yO (yZ (zB rfl) zS rfl) zZ) zS
      |some r=>
       refine Xy (yO (yZ (zB rfl) zS rfl) zZ) ?_
       exact tD (zA (zq (qQ (zB rfl) zS (show vE (vN r) (.int ((0:Nat):Int)) s7=_ from fF rfl)) (zB rfl) (by rw[vP,←Int.natCast_add])) (zA (qQ (zB rfl) zS (show vE (vN r) (.int ((1:Nat):Int)) s7=_ from fF rfl)) zD)) (show 2≤zV by decide)
     refine wC hdue ?_
     show (zW Φ T.gl [some (.scr ns),some (.int k),some (.ref p),some (.int Z),some (.int n),some (.int m),some (.int b),some (zG ls),some (zG (zY n ls)),some (.int (zX Z m)),some (.int ((m:Int)-zX Z m)),some (zG (zY m hl)),some (zG (zJ Z n)),o13,some (zG (yL b ls)),some (zG (xH b ls)),some (ffV (ffO (xH b ls) Z)),some (ffV (ffO (yL b ls) Z))] _ s7).post _
     obtain⟨t,ht⟩:=aL (o:=ffO (yL b ls) Z) (s:=s7) fun r hr=>by
      have hm':=List.mem_of_find?_eq_some hr
      obtain⟨g1,g2⟩:=(yu hz2).mp (show (r.1,r.2)∈yS 40 Z from hm')
      have:r.2*1≤r.2*(Z-1):=Nat.mul_le_mul_left _ (by omega)
      omega
     have his:zU .is (ffV (ffO (yL b ls) Z)) .none s7=.ok (.bool (uW (yL b ls) Z)) s7:=by
      show Out.ok (Val.bool (ffV (ffO (yL b ls) Z)).isN) s7=_
      rw[gp];rfl
     exact xp (dm (yO (yZ (yV (zA (x_call (zA (zB rfl) (zA (zB rfl) zD)) (c.full (yL b ls) Z s7 (pO hL) hz2 hz8)) zD) ht) (yV (zA (zB rfl) zD) ht) ne_str) (show truth s7 (.bool !decide (t=t))=some false by rw[decide_eq_true rfl];rfl)) (u4 (yO (yZ (x_call (zA (zB rfl) (zA (zB rfl) zD)) (c.bare (yL b ls) Z s7 (pO hL) hz2 hz8)) (yZ (zB rfl) zS his) ne_bool) zZ) qK)) (wX ⟨⟨_,_,_,_,_,_,_,_,_,_,_,_,_,_,_,_,_,rfl⟩,hr'⟩)
 . rintro e s' ⟨⟨o1,o2,o3,o4,o5,o6,o7,o8,o9,o10,o11,o12,o13,o14,o15,o16,o17,rfl⟩,hr⟩
   refine yc zS ?_
   show (yI false [] (.bool true) s').post _
   rw[leave_top xO]
   exact zC.mpr rfl
end
theorem cs:At T 10 Cs:=fun n hn=>by
 obtain⟨n,rfl⟩:∃m,n=m+10:=⟨n-10,by omega⟩
 have g:GlL T:=⟨rfl,rfl,rfl,rfl,rfl⟩
 have whole:∀m,p5 (zF T (m+1)):=fun m v l k s h=>by rw[zR (F:=F.xW) rfl];exact hJ h
 have wholes:∀m,kQ (zF T (m+2)):=fun m vs l k s h=>by rw[zR (F:=F.yv) rfl];exact l8 (whole m) h
 have needWhole:∀m,xR (zF T (m+2)):=fun m i l k s h1 h2=>by rw[zR (F:=F.yz) rfl];exact qd (whole m) h1 h2
 have needLength:∀m,xk (zF T (m+3)):=fun m i s h1 h2=>by rw[zR (F:=F.ym) rfl];exact sQ g (needWhole m) h1 h2
 have needSize:∀m,wD (zF T (m+3)):=fun m i s h1 h2=>by rw[zR (F:=F.xD) rfl];exact qb g (needWhole m) h1 h2
 have needFirst:∀m,sj (zF T (m+3)):=fun m i s h1 h2=>by rw[zR (F:=F14.yy) rfl];exact qA g (needWhole m) h1 h2
 have needStep:∀m,ql (zF T (m+3)):=fun m i s h1 h2=>by rw[zR (F:=F14.xE) rfl];exact qc g (needWhole m) h1 h2
 have needEarly:∀m,uA (zF T (m+3)):=fun m i s h1 h2=>by rw[zR (F:=F55.yE) rfl];exact qZ g (needWhole m) h1 h2
 have needShort:∀m,sm (zF T (m+4)):=fun m i s h1 h2=>by rw[zR (F:=F55.zw) rfl];exact qa g (needLength m) h1 h2
 have needPlace:∀m,vy (zF T (m+2)):=fun m i s h1 h2=>by rw[zR (F:=F55.yJ) rfl];exact tf g (whole m) h1 h2
 have most1:∀m,az (zF T (m+1)):=fun m a b d s h1 h2 h3=>by rw[zR (F:=F.xC) rfl];exact dR h1 h2 h3
 have rising:∀m,kP (zF T (m+1)):=fun m ls s h=>by rw[zR (F:=F55.xB) rfl];exact l6 h
 have isLot:∀m,gG (zF T (m+3)):=fun m ls s h=>by rw[zR (F:=F55.we) rfl];exact i8 g (wholes m) (rising (m+1)) h
 have needLot:∀m,sk (zF T (m+4)):=fun m ls s h=>by rw[zR (F:=F55.xX) rfl];exact mR (isLot m) h
 have rows:∀m,p4 (zF T (m+4)):=fun m a z s h1 h2 h3=>by rw[zR (F:=F75.wG) rfl];exact l7 (needLength m) (needSize m) (most1 (m+2)) h1 h2 h3
 have places:∀m,tF (zF T (m+4)):=fun m f d z s h1 h2 h3 h4 h5=>by rw[zR (F:=F08.xF) rfl];exact oj (needFirst m) (needStep m) (needSize m) h1 h2 h3 h4 h5
 have full:∀m,gF (zF T (m+5)):=fun m ls z s h1 h2 h3=>by rw[zR (F:=F55.yw) rfl];exact dN g (needSize (m+1)) (needLot m) (rows m) (places m) h1 h2 h3
 have bare:∀m,gD (zF T (m+6)):=fun m ls z s h1 h2 h3=>by rw[zR (F:=F55.wF) rfl];exact i5 (full m) h1 h2 h3
 have hits:∀m,aw (zF T (m+5)):=fun m ls a z s h1 h2 h3 h4=>by rw[zR (F:=F55.tG) rfl];exact dO (needSize (m+1)) (needLength (m+1)) (needLot m) (rows m) (places m) h1 h2 h3 h4
 have ends:∀m,gE (zF T (m+1)):=fun m z ls p s h1 h2 h3=>by rw[zR (F:=F55.xU) rfl];exact dJ h1 h2 h3
 have early:∀m,mi (zF T (m+4)):=fun m z a s h1 h2 h3=>by rw[zR (F:=F55.vm) rfl];exact i7 (needEarly m) (needLength m) (ends (m+2)) h1 h2 h3
 have isEarly:∀m,oy (zF T (m+5)):=fun m z p s h1 h2 h3=>by rw[zR (F:=F55.xV) rfl];exact mQ (needEarly (m+1)) (needPlace (m+2)) (early m) h1 h2 h3
 have bareLots:∀m,qk (zF T (m+5)):=fun m z a s h1 h2 h3=>by rw[zR (F:=F55.y9) rfl];exact oh (needSize (m+1)) (needShort m) (ends (m+3)) h1 h2 h3
 have allMost:∀m,uQ (zF T (m+6)):=fun m z a s h1 h2 h3=>by rw[zR (F:=F55.xT) rfl];exact mP (bareLots m) h1 h2 h3
 have firstMost:∀m,si (zF T (m+7)):=fun m z a s h1 h2 h3=>by
  obtain⟨l,hl,h⟩:=qY (T:=T) (s:=s) (allMost m) h1 h2 h3
  exact⟨l,hl,by rw[zR (F:=F55.yx) rfl];exact h⟩
 have most:∀m,gH (zF T (m+8)):=fun m z a s h1 h2 h3=>by rw[zR (F:=F55.tH) rfl];exact i9 (firstMost m) h1 h2 h3
 have left:∀m,ay (zF T (m+1)):=fun m a ls s h1=>by rw[zR (F:=F55.yn) rfl];exact dP h1
 have hit:∀m,tE (zF T (m+7)):=fun m z a s h1 h2 h3=>by rw[zR (F:=F55.xA) rfl];exact oi (allMost m) (left (m+5)) h1 h2 h3
 have few:∀m,kO (zF T (m+8)):=fun m z a s h1 h2 h3=>by rw[zR (F:=F55.yl) rfl];exact l5 (hit m) h1 h2 h3
 have cell:∀m,av (zF T (m+1)):=fun m ns k s=>by
  obtain⟨c,h⟩:=dI (T:=T) (Φ:=zF T m) (s:=s) ns k
  exact⟨c,by rw[zR (F:=F.yK) rfl];exact h⟩
 have pen:∀m,a0 (zF T (m+1)):=fun m c s=>by
  obtain⟨a,b,e,d,h,h2⟩:=dU (T:=T) (Φ:=zF T m) (s:=s) c
  exact⟨a,b,e,d,by rw[zR (F:=F75.yd) rfl];exact h,h2⟩
 have draw:∀m,mh (zF T (m+1)):=fun m p k s h1 h2 h3=>by rw[zR (F:=F75.yt) rfl];exact i6 h1 h2 h3
 have lot:∀m,ax (zF T (m+2)):=fun m p s h=>by rw[zR (F:=F55.xS) rfl];exact dQ (draw m) h
 exact⟨cell (n+9),pen (n+9),draw (n+9),lot (n+8),hits (n+5),bare (n+4),full (n+5),most (n+2),few (n+2),hit (n+3),allMost (n+4),early (n+6),isEarly (n+5)⟩
theorem Yf(ns:List Int):∃s',zF T 11 "law" 0 [.scr ns] []=.ok (.bool true) s':=by
 obtain⟨v,s',h,rfl⟩:=fe (cs 10 (by omega)) ns
 exact⟨s',by rw[zR (F:=qm) rfl];exact h⟩
end P55
end
section
open PySem PySem.W PyProof.Rows
theorem P55.hx:P55.qm.ps=[("_law_script":Str)]:=by kernel_rfl
theorem P55.hF:(M.tbl P55.fnL P55.glL).fn P55.dd.name 0=some P55.qm:=by kernel_rfl
theorem P55.hgl:P55.glL=P55.gl.map fun p=>(p.1,M.gv p.2):=by kernel_rfl
theorem PySem.Challenge.cw_evenhues_k55_whole_lots_holds : PySem.Challenge.rw_evenhues_k55_whole_lots.Holds := by
 exact M.close (n:=11) P55.Xa P55.left P55.hgl P55.Zs P55.hp P55.hk P55.hwr P55.ok P55.bare P55.hw (by kernel_rfl) P55.hdf ⟨rfl,by decide,by decide,rfl⟩ P55.hF P55.hx P55.Xm (fun ns _=>P55.Yf ns)
end
