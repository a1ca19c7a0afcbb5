import PyProof.Rows.All
import Wide.All
import OpenK.AllK
import Wide.FinOn
import Lean
import PyProof.EqAt
import PyProof.EqKinds
import PyProof.TupleCall
import PyProof.P3Eq
import PyProof.NeData
import PyProof.P3In
import PyProof.Rows.EnumRows
import PyProof.ZipIter
import PySem.Challenge.RW_evenhues_k14_whole_strips_that_fit
set_option genSizeOf false
set_option genSizeOfSpec false
set_option bootstrap.genMatcherCode false
set_option Elab.async false
set_option linter.all false
set_option maxRecDepth 100000
set_option maxHeartbeats 4000000
section
namespace Hd
open PySem
inductive G where
 |int (i:Int)|str (x:Str)|ctup (ns:List Int)
noncomputable def args(s:Stmt):Arguments:=match s with
 |.FunctionDef _ a _ _ _ _ _ _ _ _=>a
 |_=>{posonlyargs:=[],args:=[],vararg:=none,kwonlyargs:=[],kw_defaults:=[],kwarg:=none,defaults:=[]}
noncomputable def body(s:Stmt):List Stmt:=match s with
 |.FunctionDef _ _ b _ _ _ _ _ _ _=>b
 |_=>[]
noncomputable def scope(s:Stmt):Scope:=match s with
 |.FunctionDef _ _ _ _ _ _ sc _ _ _=>sc
 |_=>{kind:=.function,names:=[],isGenerator:=false,isCoroutine:=false}
noncomputable def posOf(s:Stmt):Pos:=match s with
 |.FunctionDef _ _ _ _ _ _ _ _ _ p=>p
 |_=>⟨0,0,0,0⟩
noncomputable def cI(x:Str)(st:Stmt):DefRec:=⟨x,args st,body st,scope st,posOf st⟩
noncomputable def XA:List Str:=["len","all","any","tuple","list","sorted","repr","max","min","sum","int","isinstance","divmod","str","bool","dict","set","range","enumerate","zip"]
noncomputable def qk:List Value→Option (List Int)
 |[]=>some []
 |.int i _::r=>(qk r).map (i::·)
 |_=>none
noncomputable def nsH(h:Heap)(x:Str):Option (Option Value):=match h.get? mainGlobals with
 |some o=>PySem.W.nsIn [(mainGlobals,o)] mainGlobals x
 |none=>none
noncomputable def ZR(fd:FuncData):FuncData:={fd with kwdefaults:=.none,doc:=.none,pyModule:=.none,annotations:=none,code:=.none,closureTuple:=.none}
noncomputable def kB(h:Heap)(cd:Value)(x:Str):Bool:=match cd with
 |.ref c=>(match h.get? c with
  |some o=>PySem.W.codeIn [(c,o)] (.ref c) x
  |none=>false)
 |_=>false
noncomputable def fB(h:Heap)(x:Str):Option FuncData:=match nsH h x with
 |some (some (.ref f))=>(match h.get? f with
  |some ⟨_,_,.func fd,_⟩=>if kB h fd.code x then some (ZR fd) else none
  |_=>none)
 |_=>none
noncomputable def eW(p:Str × Stmt):Option FuncData:=some (PySem.W.fnOf p.1 p.1 (args p.2) (body p.2) (scope p.2) .none .none .none .none none .none .none)
noncomputable def glB(h:Heap)(x:Str):G→Bool
 |.int i=>(match nsH h x with|some (some (.int j _))=>decide (i=j)|_=>false)
 |.str y=>(match nsH h x with|some (some (.str z _))=>decide (y=z)|_=>false)
 |.ctup ns=>(match nsH h x with
  |some (some (.ref a))=>(match h.get? a with
   |some ⟨.type n,_,.seq us _,_⟩=>decide (n="tuple")&&decide (us.toList.length≤1000)&&decide (qk us.toList=some ns)
   |_=>false)
  |_=>false)
noncomputable def blB(h:Heap)(x:Str):Bool:=match nsH h x with|some none=>true|_=>false
noncomputable def b4(D:List (Str × Stmt))(gl:List (Str × G))(s:Shared):List (Option FuncData) × Bool:=(D.map fun p=>fB s.heap p.1,gl.all (fun p=>glB s.heap p.1 p.2)&&XA.all fun x=>blB s.heap x)
noncomputable def ZK(D:List (Str × Stmt)):List (Option FuncData) × Bool:=(D.map eW,true)
end Hd
end
section
set_option maxHeartbeats 0
open PySem PySem.W PyProof.Rows
namespace P14
noncomputable def top(i:Nat):Stmt:=PySem.Challenge.pw_evenhues_k14_whole_strips_that_fit.main.body.getD i (.Pass ⟨0,0,0,0⟩)
noncomputable def D:List (Str × Stmt):=(("is_whole":Str),top 11)::(("are_wholes":Str),top 12)::(("need_whole":Str),top 13)::(("need_length":Str),top 14)::(("need_first":Str),top 15)::(("need_step":Str),top 16)::(("most_step":Str),top 18)::(("is_strip":Str),top 21)::(("need_strip":Str),top 22)::(("is_order":Str),top 23)::(("backward":Str),top 24)::(("exchanged":Str),top 25)::(("thinned":Str),top 26)::(("is_one_hue":Str),top 28)::(("are_sizes":Str),top 30)::(("need_sizes":Str),top 31)::(("fits":Str),top 32)::(("first_wrong":Str),top 33)::(("first_hue_wrong":Str),top 34)::(("first_row_wrong":Str),top 35)::(("product_of":Str),top 38)::(("need_small_sizes":Str),top 39)::(("may_follow":Str),top 40)::(("grown":Str),top 41)::(("tally":Str),top 42)::(("farthest":Str),top 43)::(("all_strips":Str),top 44)::(("strips_many":Str),top 45)::(("first_strip":Str),top 46)::(("_law_cell_at":Str),top 48)::(("_law_pen":Str),top 49)::(("_law_draw":Str),top 50)::(("_law_small":Str),top 51)::(("_law_strip_right":Str),top 54)::(("law":Str),top 55)::[]
noncomputable def gl:List (Str × Hd.G):=[("MOST_PLACES",.int 40),("LEAST_SIZE",.int 2),("MOST_SIZE",.int 8),("HUES",.ctup [0,1,2,3]),("MOST_PRODUCT",.int 12)]
noncomputable def q:Program:={PySem.Challenge.pw_evenhues_k14_whole_strips_that_fit with main:={PySem.Challenge.pw_evenhues_k14_whole_strips_that_fit.main with body:=[1,2,3,4,5,6,8,9,10,11,12,13,14,15,16,18,20,21,22,23,24,25,26,28,30,31,32,33,34,35,37,38,39,40,41,42,43,44,45,46,48,49,50,51,52,53,54,55].map top}}
noncomputable def dd:DefRec:=Hd.cI "law" (top 55)
theorem left:PySem.W.LeftO PySem.Challenge.rw_evenhues_k14_whole_strips_that_fit.row.prog q [] (fun s=>PySem.W.recOk PySem.Challenge.rw_evenhues_k14_whole_strips_that_fit.row.records s) (Hd.b4 D gl) (fun _=>Hd.ZK D) 100000:=by
 intro w
 kernel_rfl
theorem av:PySem.Challenge.rw_evenhues_k14_whole_strips_that_fit.wellSaid=true:=by kernel_rfl
theorem cX:PySem.W.defOf q PySem.Challenge.rw_evenhues_k14_whole_strips_that_fit.row.name=some (dd,[]):=by kernel_rfl
theorem hp:PySem.Challenge.rw_evenhues_k14_whole_strips_that_fit.row.prog.theDef PySem.Challenge.rw_evenhues_k14_whole_strips_that_fit.row.name=some (dd.params,dd.body,dd.scope):=by kernel_rfl
theorem hk:PySem.W.kwWritten? dd.params.kwonlyargs dd.params.kw_defaults=some []:=by kernel_rfl
theorem hwr:(!PySem.Challenge.rw_evenhues_k14_whole_strips_that_fit.row.writes||PySem.Challenge.rw_evenhues_k14_whole_strips_that_fit.row.records.isEmpty)=true:=by kernel_rfl
theorem ok:(PySem.W.chainsOk q&&PySem.W.opensWell PySem.Challenge.rw_evenhues_k14_whole_strips_that_fit.row.prog&&(PySem.W.frees PySem.Challenge.rw_evenhues_k14_whole_strips_that_fit.row.toRowW&&PySem.Challenge.rw_evenhues_k14_whole_strips_that_fit.row.within.isEmpty))=true:=by kernel_rfl
theorem hdf:dd.params.defaults=[]:=by kernel_rfl
theorem bare:PySem.Challenge.rw_evenhues_k14_whole_strips_that_fit.row.prog.bare:=⟨rfl,rfl,rfl,rfl,rfl,by decide +kernel⟩
theorem hw:PySem.Challenge.rw_evenhues_k14_whole_strips_that_fit.row.toRowW.promised:=by w_witness2
end P14
end
section
namespace L2
open PySem PySem.Spec PyProof.Rows
noncomputable abbrev Key:=Sum Int Str
noncomputable def rB:Key→Value→Bool
 |.inl k,v=>Value.isInt k v
 |.inr x,v=>Value.isStrOf x v
noncomputable def XE(w:World):Key→Int
 |.inl k=>hashInt k
 |.inr x=>hashStr w x
theorem zw:∀{k:Key} {v:Value},rB k v=true→(∃i t,k=Sum.inl i∧v=Value.int i t)∨(∃x t,k=Sum.inr x∧v=Value.str x t)
 |.inl i,v,h=>by
  obtain⟨t,e⟩:=Value.isInt_shape (k:=i) (v:=v) h
  exact .inl ⟨i,t,rfl,e⟩
 |.inr x,v,h=>by
  obtain⟨t,e⟩:=Value.isStrOf_shape (x:=x) (v:=v) h
  exact .inr ⟨x,t,rfl,e⟩
theorem ml(i:Int)(t:Tok):rB (.inl i) (.int i t)=true:=by simp[rB,Value.isInt]
theorem mm(x:Str)(t:Tok):rB (.inr x) (.str x t)=true:=by simp[rB,Value.isStrOf]
theorem bf(a b:Int):decide ((Sum.inl a:Key)=Sum.inl b)=(a == b):=by
 by_cases e:a=b
 . subst e;simp
 . have h:¬(Sum.inl a:Key)=Sum.inl b:=fun q=>e (Sum.inl.inj q)
   rw[decide_eq_false h]
   exact(beq_eq_false_iff_ne.mpr e).symm
theorem bj(a b:Str):decide ((Sum.inr a:Key)=Sum.inr b)=decide (a=b):=by
 by_cases e:a=b
 . subst e;simp
 . have h:¬(Sum.inr a:Key)=Sum.inr b:=fun q=>e (Sum.inr.inj q)
   rw[decide_eq_false h,decide_eq_false e]
theorem bg(a:Int)(b:Str):decide ((Sum.inl a:Key)=Sum.inr b)=false:=decide_eq_false (fun q=>nomatch q)
theorem bh(a:Str)(b:Int):decide ((Sum.inr a:Key)=Sum.inl b)=false:=decide_eq_false (fun q=>nomatch q)
noncomputable def yQ(prog:Program)(w:World):PySem.KeyKind prog w Key where
 is:=rB
 hash:=XE w
 inj:=fun v a b ha hb=>by
  rcases zw ha with⟨i,t,rfl,rfl⟩|⟨x,t,rfl,rfl⟩
  . rcases zw hb with⟨j,u,rfl,e⟩|⟨y,u,rfl,e⟩
    . injection e with e1 _;rw[e1]
    . exact nomatch e
  . rcases zw hb with⟨j,u,rfl,e⟩|⟨y,u,rfl,e⟩
    . exact nomatch e
    . injection e with e1 _;rw[e1]
 byValue:=fun k v h=>by
  rcases zw h with⟨i,t,rfl,rfl⟩|⟨x,t,rfl,rfl⟩<;>rfl
 pyHash:=fun hv h=>by
  rcases zw hv with⟨i,t,rfl,rfl⟩|⟨x,t,rfl,rfl⟩
  . exact wpAny_pyHash_int h
  . exact wpAny_pyHash_str h
 eqBool:=fun hu hv h=>by
  rcases zw hu with⟨i,t,rfl,rfl⟩|⟨x,t,rfl,rfl⟩
  . rcases zw hv with⟨j,u,rfl,rfl⟩|⟨y,u,rfl,rfl⟩
    . rw[bf]at h;exact wpAny_eqBool_int h
    . rw[bg]at h;exact SeqAt.EqAt.int_str i t y u _ _ _ _ h
  . rcases zw hv with⟨j,u,rfl,rfl⟩|⟨y,u,rfl,rfl⟩
    . rw[bh]at h;exact SeqAt.EqAt.str_int x t j u _ _ _ _ h
    . rw[bj]at h;exact wpAny_eqBool_str h
 «strs»:=fun k x t v h=>by
  rcases zw h with⟨i,u,rfl,e⟩|⟨y,u,rfl,e⟩
  . exact nomatch e
  . injection e with e1 _
    subst e1
    cases v<;>rfl
theorem q0(prog:Program)(w:World)(i:Int)(t:Tok):(yQ prog w).is (.inl i) (.int i t)=true:=ml i t
theorem pA(prog:Program)(w:World)(x:Str)(t:Tok):(yQ prog w).is (.inr x) (.str x t)=true:=mm x t
end L2
namespace L2
open PySem PySem.Spec PyProof.Rows
inductive V where
 |non|bl (b:Bool)|int (i:Int)|str (x:Str)|byt (b:Array UInt8)|flt (b:UInt64)|ref (a:Addr)|ty (n:String)
 deriving DecidableEq
noncomputable def RelV:V→Value→Prop
 |.non,u=>u=Value.none
 |.bl b,u=>u=Value.bool b
 |.int i,u=>∃t,u=Value.int i t
 |.str x,u=>∃t,u=Value.str x t
 |.byt b,u=>∃t,u=Value.bytes b t
 |.flt b,u=>∃t,u=Value.float b t
 |.ref a,u=>u=Value.ref a
 |.ty n,u=>u=Value.type n
noncomputable abbrev Vals:List V→List Value→Prop:=Paired RelV
theorem Vals.length{xs:List V}{us:List Value}(r:Vals xs us):xs.length=us.length:=Paired.length r
theorem Vals.get:∀{xs:List V} {us:List Value} {i:Nat} {x:V},Vals xs us→xs[i]?=some x→∃u,us[i]?=some u∧RelV x u
 |_,_,_,_,.nil,e=>by simp at e
 |_,_,0,_,.cons r _,e=>by simp at e;subst e;exact⟨_,rfl,r⟩
 |_,_,i+1,x,.cons _ t,e=>by
  obtain⟨u,h1,h2⟩:=Vals.get (i:=i) (x:=x) t (by simpa using e)
  exact⟨u,by simpa using h1,h2⟩
theorem Vals.set{x:V}{u:Value}(r:RelV x u):∀{xs:List V} {us:List Value} (i:Nat),Vals xs us→Vals (xs.set i x) (us.set i u)
 |_,_,_,.nil=>.nil
 |_,_,0,.cons _ t=>.cons r t
 |_,_,i+1,.cons q t=>.cons q (Vals.set r i t)
theorem Vals.append:∀{xs ys:List V} {us ws:List Value},Vals xs us→Vals ys ws→Vals (xs++ys) (us++ws)
 |_,_,_,_,.nil,s=>s
 |_,_,_,_,.cons r t,s=>.cons r (Vals.append t s)
theorem Vals.take:∀{xs:List V} {us:List Value} (n:Nat),Vals xs us→Vals (xs.take n) (us.take n)
 |_,_,0,_=>.nil
 |_,_,_+1,.nil=>.nil
 |_,_,n+1,.cons r t=>.cons r (Vals.take n t)
theorem Vals.drop:∀{xs:List V} {us:List Value} (n:Nat),Vals xs us→Vals (xs.drop n) (us.drop n)
 |_,_,0,r=>r
 |_,_,_+1,.nil=>.nil
 |_,_,n+1,.cons _ t=>Vals.drop n t
theorem Vals.none_of:∀{xs:List V} {us:List Value} {i:Nat},Vals xs us→xs[i]?=none→us[i]?=none:=fun{xs us i} r e=>by
 have h1:=r.length
 have h2:xs.length≤i:=List.getElem?_eq_none_iff.mp e
 exact List.getElem?_eq_none_iff.mpr (by omega)
noncomputable def uk:Option V→Option Value→Prop
 |some v,some u=>RelV v u
 |none,none=>True
 |_,_=>False
noncomputable def KV{κ:Type}:List (κ × V)→List (κ × Value)→Prop:=Paired fun(p:κ × V) (q:κ × Value)=>p.1=q.1∧RelV p.2 q.2
noncomputable def kV:Key→V
 |.inl i=>.int i
 |.inr x=>.str x
inductive HO where
 /-- a list -/
 |lst (xs:List V)
 /-- a tuple (never changes) -/
 |tup (xs:List V)
 /-- a dict whose keys are ints and texts;one whose keys are tuples of ints and texts (the empty one is both) -/
 |dK (kvs:List (Key × V))|dT (kvs:List (List Key × V))
 /-- a set of ints: its members,its size -/
 |set (S:Int→Bool) (n:Nat)
 /-- an instance of the class at C,its dict at dx,its attributes -/
 |ins (C dx:Addr) (fs:List (Str × V))
 /-- the dict of the instance at x -/
 |own (x:Addr)
 /-- the dict of an exception -/
 |xd (fs:List (Str × V))
 /-- a bound method,f of x -/
 |met (f x:Addr)
 /-- a range object lo,lo+1,.. below hi -/
 |rng (lo hi:Int)
 /-- a thing that is known to the object (the script;a dict while a loop walks it): read,never written while it is so -/
 |frz (o:Obj) (u:HO)
 /-- a code object's table -/
 |tbl (ps:Array Value)
 /-- any other thing,by what is true of its one object (a def of one's own: SetO a S n:=HO.ext fun h=>..) -/
 |ext (φ:Heap→Prop)
noncomputable abbrev Hp:=Addr→Option HO
def vC(h:Heap)(a:Addr)(items:Array Value):Prop:=∃o,h.get? a=some o∧o.cls=.type "tuple"∧∃n,o.data=.seq items n∧o.dict=none
theorem vC.tup{h:Heap}{a:Addr}{items:Array Value}(x:vC h a items):IsTup h a items:=let ⟨o,e,c,n,d,_⟩:=x;⟨o,e,c,n,d⟩
theorem vC.lt{h:Heap}{a:Addr}{items:Array Value}(x:vC h a items):a<h.objs.size:=let ⟨_,e,_⟩:=x;Heap.lt_size e
theorem vC.new(h:Heap)(items:Array Value):vC (h.push {cls:=.type "tuple",data:=.seq items}) h.objs.size items:=⟨_,Heap.get?_push_size _ rfl,rfl,_,rfl,rfl⟩
noncomputable def upd(H:Hp)(a:Addr)(o:HO):Hp:=fun b=>if b=a then some o else H b
theorem zV{H:Hp}{a:Addr}{o:HO}:upd H a o a=some o:=by unfold upd;rw[if_pos rfl]
theorem zP{H:Hp}{a b:Addr}{o:HO}(h:b≠a):upd H a o b=H b:=by unfold upd;rw[if_neg h]
theorem dI{H:Hp}{a b:Addr}{o u:HO}(h:H a=some o)(h':H b=some u)(d:o≠u):a≠b:=by
 intro e;subst e;rw[h]at h';exact d (Option.some.inj h')
theorem zT{H:Hp}{a b:Addr}{o:HO}(h:H a=some o)(h':H b=none):a≠b:=by
 intro e;subst e;rw[h]at h';cases h'
section
variable (P:Program)(w:World)
noncomputable def zc(H:Hp)(h:Heap)(a:Addr):HO→Prop
 |.lst xs=>xs.length≤sizeLine∧∃(its:List Value) (n:Nat),Vals xs its∧h.get? a=some {cls:=.type "list",data:=.seq its.toArray n}
 |.tup xs=>xs.length≤sizeLine∧∃its:List Value,Vals xs its∧vC h a its.toArray
 |.dK kvs=>kvs.length≤sizeLine∧(a == sysModules)=false∧∃vs,KV kvs vs∧h.DictOf (yQ P w) a vs
 |.dT kvs=>kvs.length≤sizeLine∧(a == sysModules)=false∧∃xs:List (List Key × Addr × Value),
  Paired (fun(p:List Key × V) (q:List Key × Addr × Value)=>p.1=q.1∧H q.2.1=some (.tup (p.1.map kV))∧RelV p.2 q.2.2) kvs xs ∧
  ∃o es ep,h.get? a=some o∧o.ExactDict∧o.data=.dict es ep∧es.toList=xs.map (entryOfKey (tupleKind (yQ P w)))∧(xs.map (·.1)).Nodup
 |.set S n=>h.SetOf (intKind P w) a S n
 |.ins C dx fs=>H dx=some (.own a)∧fs.length≤1000∧dx≠a∧h.get? a=some (PySem.W.instObj C dx) ∧
  ∃mA,h.Ns1 dx mA∧(∀f,uk (fs.lookup f) (mA f))∧PySem.Within mA (fs.map (·.1))
 |.own _=>∃o,h.get? a=some o
 |.xd fs=>∃mA,h.Ns1 a mA∧∀f,uk (fs.lookup f) (mA f)
 |.rng lo hi=>∃t u v,h.get? a=some {cls:=.type "range",data:=.fields #[.int lo t,.int hi u,.int 1 v]}
 |.frz o u=>h.get? a=some o∧zc H h a u
 |.tbl ps=>h.get? a=some {cls:=.none,data:=.fields ps}
 |.met f x=>h.get? a=some (PySem.W.methodObj (.ref f) (.ref x))
 |.ext φ=>φ h∧(∃o,h.get? a=some o)∧∀h1 h2:Heap,φ h1→(∀o,h1.get? a=some o→h2.get? a=some o)→φ h2
def HOk(H:Hp)(h:Heap):Prop:=∀a o,H a=some o→zc P w H h a o
end
section
variable {P:Program}{w:World}{H H':Hp}{h h':Heap}{a:Addr}{o:HO}
theorem zc.lt(x:zc P w H h a o):a<h.objs.size:=by
 cases o with
 |lst xs=>obtain⟨_,_,_,_,e⟩:=x;exact Heap.lt_size e
 |tup xs=>obtain⟨_,_,_,p⟩:=x;exact p.lt
 |dK kvs=>obtain⟨_,_,_,_,o,_,_,e,_⟩:=x;exact Heap.lt_size e
 |dT kvs=>obtain⟨_,_,_,_,o,_,_,e,_⟩:=x;exact Heap.lt_size e
 |set S n=>obtain⟨o,_,_,_,e,_⟩:=x;exact Heap.lt_size e
 |ins C dx fs=>obtain⟨_,_,_,e,_⟩:=x;exact Heap.lt_size e
 |own y=>obtain⟨_,e⟩:=x;exact Heap.lt_size e
 |xd fs=>obtain⟨_,⟨_,_,_,e,_⟩,_⟩:=x;exact Heap.lt_size e
 |rng lo hi=>obtain⟨_,_,_,e⟩:=x;exact Heap.lt_size e
 |frz ob u=>obtain⟨e,_⟩:=x;exact Heap.lt_size e
 |tbl ps=>exact Heap.lt_size (show h.get? a=some _ from x)
 |met f y=>exact Heap.lt_size (show h.get? a=some _ from x)
 |ext φ=>obtain⟨_,⟨_,e⟩,_⟩:=x;exact Heap.lt_size e
theorem Paired.bw{α β:Type}{F G:α→β→Prop}:∀{l₁:List α} {l₂:List β},Paired F l₁ l₂→(∀a b,F a b→G a b)→Paired G l₁ l₂
 |_,_,.nil,_=>.nil
 |_,_,.cons r t,f=>.cons (f _ _ r) (Paired.bw t f)
theorem zc.oz(x:zc P w H h a o)(k:∀b u,(b=a∨H b=some (.own a))→h.get? b=some u→h'.get? b=some u)
 (ho:∀b,H b=some (.own a)→H' b=some (.own a)) (ht:∀b xs,H b=some (.tup xs)→H' b=some (.tup xs)):zc P w H' h' a o:=by
 induction o with
 |lst xs=>obtain⟨z,its,n,r,e⟩:=x;exact⟨z,its,n,r,k _ _ (.inl rfl) e⟩
 |tup xs=>obtain⟨z,its,r,ob,e,c⟩:=x;exact⟨z,its,r,ob,k _ _ (.inl rfl) e,c⟩
 |dK kvs=>obtain⟨z,y,vs,r,ob,es,ep,e,c⟩:=x;exact⟨z,y,vs,r,ob,es,ep,k _ _ (.inl rfl) e,c⟩
 |dT kvs=>
  obtain⟨z,y,xs,r,ob,es,ep,e,c⟩:=x
  exact⟨z,y,xs,Paired.bw r fun p q z=>⟨z.1,ht _ _ z.2.1,z.2.2⟩,ob,es,ep,k _ _ (.inl rfl) e,c⟩
 |set S n=>obtain⟨ob,es,ep,t,e,c⟩:=x;exact⟨ob,es,ep,t,k _ _ (.inl rfl) e,c⟩
 |ins C dx fs=>
  obtain⟨d,z,ne,e,mA,⟨od,es,ep,e2,c⟩,r⟩:=x
  exact⟨ho _ d,z,ne,k _ _ (.inl rfl) e,mA,⟨od,es,ep,k _ _ (.inr d) e2,c⟩,r⟩
 |own y=>obtain⟨ob,e⟩:=x;exact⟨ob,k _ _ (.inl rfl) e⟩
 |xd fs=>obtain⟨mA,⟨od,es,ep,e,c⟩,r⟩:=x;exact⟨mA,⟨od,es,ep,k _ _ (.inl rfl) e,c⟩,r⟩
 |rng lo hi=>obtain⟨t,u,v,e⟩:=x;exact⟨t,u,v,k _ _ (.inl rfl) e⟩
 |frz ob u ih=>obtain⟨e,q⟩:=x;exact⟨k _ _ (.inl rfl) e,ih q⟩
 |tbl ps=>
  have e:h.get? a=some {cls:=.none,data:=.fields ps}:=x
  show h'.get? a=some {cls:=.none,data:=.fields ps}
  exact k a _ (.inl rfl) e
 |met f y=>
  have e:h.get? a=some (PySem.W.methodObj (.ref f) (.ref y)):=x
  show h'.get? a=some (PySem.W.methodObj (.ref f) (.ref y))
  exact k a _ (.inl rfl) e
 |ext φ=>obtain⟨p,⟨o,e⟩,st⟩:=x;exact⟨st _ _ p fun o q=>k _ _ (.inl rfl) q,⟨o,k _ _ (.inl rfl) e⟩,st⟩
theorem HOk.lt(x:HOk P w H h)(e:H a=some o):a<h.objs.size:=(x a o e).lt
theorem HOk.fresh(x:HOk P w H h)(e:h.objs.size≤a):H a=none:=by
 cases q:H a with
 |none=>rfl
 |some u=>exact absurd (Nat.lt_of_lt_of_le (x.lt q) e) (Nat.lt_irrefl _)
theorem HOk.kept(x:HOk P w H h)(k:∀b u,h.get? b=some u→h'.get? b=some u):HOk P w H h':=fun a o e=>
 (x a o e).oz (fun b u _ q=>k b u q) (fun _ q=>q) fun _ _ q=>q
theorem HOk.laid(x:HOk P w H h)(k:∀b u,h.get? b=some u→h'.get? b=some u)(hp:h.objs.size≤a)(new:zc P w (upd H a o) h' a o):HOk P w (upd H a o) h':=fun b u e=>by
 have hn:=x.fresh hp
 by_cases hb:b=a
 . subst hb;rw[zV]at e;cases e;exact new
 . rw[zP hb]at e
   exact(x b u e).oz (fun c v _ q=>k c v q) (fun c q=>by rw[zP (zT q hn)];exact q) fun c xs q=>by rw[zP (zT q hn)];exact q
end
def Rd(H:Hp)(a:Addr)(u:HO):Prop:=H a=some u∨∃o,H a=some (.frz o u)
theorem Rd.ok{P:Program}{w:World}{H:Hp}{h:Heap}{a:Addr}{u:HO}(r:Rd H a u)(x:HOk P w H h):zc P w H h a u:=by
 rcases r with r|⟨o,r⟩
 . exact x a u r
 . obtain⟨_,q⟩:=x a _ r
   exact q
noncomputable def Mut:Option HO→Prop
 |some (.lst _)=>True
 |some (.dK _)=>True
 |some (.dT _)=>True
 |some (.set _ _)=>True
 |some (.ins _ _ _)=>True
 |some (.ext _)=>True
 |_=>False
section
variable {P:Program}{w:World}{H:Hp}{h h':Heap}{x e:Addr}{o':HO}
theorem HOk.write(ok:HOk P w H h)(mu:Mut (H x))(he:e=x∨H e=some (.own x))(k:∀b u,b≠e→h.get? b=some u→h'.get? b=some u)(heo:∃u,h'.get? e=some u)
 (new:zc P w (upd H x o') h' x o'):HOk P w (upd H x o') h':=fun b u q=>by
 have nown:∀c y,H c=some (.own y)→c≠x:=fun c y r z=>by subst z;rw[r]at mu;exact mu
 have ntup:∀c xs,H c=some (.tup xs)→c≠x:=fun c xs r z=>by subst z;rw[r]at mu;exact mu
 by_cases hb:b=x
 . subst hb;rw[zV]at q;cases q;exact new
 . rw[zP hb]at q
   by_cases hbe:b=e
   . have q':H b=some (.own x):=by
      rcases he with z|z
      . exact absurd (hbe.trans z) hb
      . rw[hbe];exact z
     rw[q]at q';cases q'
     obtain⟨v,hv⟩:=heo
     exact⟨v,by rw[hbe];exact hv⟩
   . refine(ok b u q).oz (fun c v hc r=>k c v ?_ r) (fun c r=>by rw[zP (nown c b r)];exact r) fun c xs r=>by rw[zP (ntup c xs r)];exact r
     rcases hc with rfl|hc
     . exact hbe
     . rintro rfl
       rcases he with z|z
       . exact nown c b hc z
       . rw[hc]at z;cases z;exact hb rfl
end
structure Un(fs ex:List Addr)(H H':Hp)(h h':Heap):Prop where
 keep:∀b o,h.get? b=some o→H b=none→b ∉ fs→b ∉ ex→h'.get? b=some o
 slot:∀b o,h.get? b=some o→H b=none→b∈fs→b ∉ ex→∃sl,h'.get? b=some {o with slots:=sl}
 free:∀b o,h.get? b=some o→H b=none→b ∉ ex→H' b=none
 there:∀b o,h.get? b=some o→b ∉ ex→∃o',h'.get? b=some o'
 tups:∀b xs,H b=some (.tup xs)→H' b=some (.tup xs)
 frzs:∀b o u,H b=some (.frz o u)→H' b=some (.frz o u)
 tbls:∀b ps,H b=some (.tbl ps)→∃more,H' b=some (.tbl (ps++more))
section
variable {fs fs' ex ex':List Addr}{H H1 H2:Hp}{h h1 h2 h':Heap}{a x e:Addr}{o:HO}
theorem Un.any(u:Un fs ex H H1 h h1){b:Addr}{ob:Obj}(q:h.get? b=some ob)(n:H b=none)(hx:b ∉ ex):∃sl,h1.get? b=some {ob with slots:=sl}:=by
 by_cases hb:b∈fs
 . exact u.slot b ob q n hb hx
 . exact⟨ob.slots,u.keep b ob q n hb hx⟩
theorem Un.kept(k:∀b u,h.get? b=some u→h'.get? b=some u):Un fs ex H H h h':=
 ⟨fun b ob q _ _ _=>k b ob q,fun b ob q _ _ _=>⟨ob.slots,k b ob q⟩,fun _ _ _ n _=>n,fun b ob q _=>⟨ob,k b ob q⟩,fun _ _ q=>q,fun _ _ _ q=>q,fun _ ps q=>⟨#[],by rw[q];simp⟩⟩
theorem Un.refl:Un fs ex H H h h:=Un.kept fun _ _ q=>q
theorem Un.laid(k:∀b u,h.get? b=some u→h'.get? b=some u)(hp:h.objs.size≤a)(hn:H a=none):Un fs ex H (upd H a o) h h' where
 keep:=fun b u q _ _ _=>k b u q
 slot:=fun b u q _ _ _=>⟨u.slots,k b u q⟩
 free:=fun b u q n _=>by rw[zP (Nat.ne_of_lt (Nat.lt_of_lt_of_le (Heap.lt_size q) hp))];exact n
 there:=fun b u q _=>⟨u,k b u q⟩
 tups:=fun b xs q=>by rw[zP (zT q hn)];exact q
 frzs:=fun b u xs q=>by rw[zP (zT q hn)];exact q
 tbls:=fun b ps q=>⟨#[],by rw[zP (zT q hn),q];simp⟩
theorem Un.write(mu:Mut (H x))(he:e=x∨H e=some (.own x))(k:∀b u,b≠e→h.get? b=some u→h'.get? b=some u)(heo:∃u,h'.get? e=some u):Un fs ex H (upd H x o) h h':=by
 have hx:∀b,H b=none→b≠x:=fun b n z=>by subst z;rw[n]at mu;exact mu
 have hb:∀b,H b=none→b≠e:=fun b n z=>by
  subst z
  rcases he with r|r
  . exact hx b n r
  . rw[n]at r;cases r
 have hm:∀b u,H b=some u→¬Mut (some u)→b≠x:=fun b u q nm z=>by subst z;rw[q]at mu;exact nm mu
 refine⟨fun b u q n _ _=>k b u (hb b n) q,fun b u q n _ _=>⟨u.slots,k b u (hb b n) q⟩,fun b u q n _=>by rw[zP (hx b n)];exact n,fun b u q _=>?_,
  fun b xs q=>by rw[zP (hm b _ q fun z=>z)];exact q,fun b u xs q=>by rw[zP (hm b _ q fun z=>z)];exact q,fun b ps q=>⟨#[],by rw[zP (hm b _ q fun z=>z),q];simp⟩⟩
 by_cases hbe:b=e
 . subst hbe;exact heo
 . exact⟨u,k b u hbe q⟩
end
noncomputable def trk(h:Heap)(H:Hp):List Addr:=(List.range h.objs.size).filter fun a=>(H a).isSome
noncomputable def qA(h:Heap)(H:Hp):Heap:=PySem.W.hideAll h (trk h H)
theorem mX(h:Heap)(H:Hp):(qA h H).objs.size=h.objs.size:=PySem.W.hideAll_size _ _
theorem kX{h:Heap}{H:Hp}{b:Addr}{o:Obj}(e:h.get? b=some o)(n:H b=none):(qA h H).get? b=some o:=
 PySem.W.hideAll_get _ e fun hm=>by
  have q:(H b).isSome=true:=(List.mem_filter.mp hm).2
  rw[n]at q;simp at q
theorem fC{h:Heap}{H:Hp}{b:Addr}{o:Obj}(e:(qA h H).get? b=some o):h.get? b=some o∧H b=none:=by
 have e':h.get? b=some o:=PySem.W.of_hideAll (trk h H) e
 refine⟨e',?_⟩
 cases q:H b with
 |none=>rfl
 |some x=>
  have hm:b∈trk h H:=List.mem_filter.mpr ⟨List.mem_range.mpr (Heap.lt_size e'),by simp[q]⟩
  have z:(qA h H).get? b=none:=PySem.W.hideAll_none (trk h H) hm
  rw[z]at e;cases e
end L2
namespace L2
open PySem PySem.Spec PyProof.Rows
structure Mod(K:PySem.W.Frag)(mg:Str→Option Value)(base:Heap):Prop where
 kin:K.In base
 glob:base.Ns mainGlobals mg
 blt:∃mb,base.Ns builtinsNs mb∧∀x:Str,x≠"__name__"→mb x=bootBuiltins x
 nolimit:base.NoLimit
structure Cx where
 prog:Program
 w:World
 K:PySem.W.Frag
 mg:Str→Option Value
 base:Heap
 A:Around
 N:List Str
 s₀:Shared
 H₀:Hp
 env:Env
 outer:List Env
 stack:List Env
 ex:List Addr
 fn:Str→Bool
 calm:Bool
 pn:List (Addr × Obj)
 xe:Value→Shared→Prop
noncomputable def frs(l:List Env):List Addr:=l.filterMap (·.frame)
noncomputable abbrev Cx.fs(X:Cx):List Addr:=frs X.outer
def Vis(sc:Scope)(x:Str):Prop:=sc.names.lookup x=some .local∨sc.names.lookup x=some .cell∨sc.names.lookup x=some .free
def Loc(sc:Scope)(x:Str):Prop:=sc.names.lookup x=some .local∨sc.names.lookup x=some .cell
def Look(env:Env)(h:Heap)(m:Str→Option Value)(x:Str)(u:Value):Prop:=
 (env.kindOf x=some .local∧m x=some u)∨((env.kindOf x=some .cell∨env.kindOf x=some .free)∧∃c,env.cells.lookup x=some c∧h.IsCell c (some u))
structure Cx.Ok(X:Cx):Prop where
 mod:Mod X.K X.mg X.base
 kind:X.env.scope.kind=.function
 glob:X.env.globals=mainGlobals
 blt:X.env.builtins=builtinsNs
 above:X.s₀.heap.objs.size≤X.env.locals
 inj:∀x y c,X.env.cells.lookup x=some c→X.env.cells.lookup y=some c→x=y
 has:∀x,(X.env.kindOf x=some .cell∨X.env.kindOf x=some .free)→∃c,X.env.cells.lookup x=some c
 cab:∀x c,X.fn x=true→X.env.cells.lookup x=some c→X.s₀.heap.objs.size≤c
 hd:X.calm=true→X.A.handled=none
 frames:X.A.frames=some X.stack
 stk:X.stack=X.outer∨(X.stack=X.env::X.outer∧X.env.frame=some X.env.locals)
 exf:∀b∈X.ex,b≠X.env.locals∧∀x c,X.env.cells.lookup x=some c→c≠b
 bs:∀b o,X.base.get? b=some o→X.s₀.heap.get? b=some o∧X.H₀ b=none
 bsz:X.base.objs.size≤X.s₀.heap.objs.size
 noex:∀b o,X.base.get? b=some o→b ∉ X.ex
 exfs:∀b∈X.ex,b ∉ X.fs
 u5:X.s₀.heap.FunFrames X.base X.outer
 frf:∀b∈X.fs,X.H₀ b=none
structure Inv(X:Cx)(pins:List (Addr × Obj))(σ:List (Option V))(H:Hp)(s:Shared):Prop where
 ok:X.Ok
 os:s.os=X.s₀.os
 bare:AllBare s.gens
 base:Un X.fs X.ex X.H₀ H X.s₀.heap s.heap
 loc:∃m,s.heap.Ns X.env.locals m∧∀(i:Nat) (x:Str) (v:V),X.N[i]?=some x→σ[i]?=some (some v)→Vis X.env.scope x→∃u,RelV v u∧Look X.env s.heap m x u
 cell:∀x c,X.env.cells.lookup x=some c→∃v,s.heap.IsCell c v
 free:H X.env.locals=none
 freeC:∀x c,X.env.cells.lookup x=some c→H c=none
 pin:∀p∈X.pn++pins,s.heap.get? p.1=some p.2∧H p.1=none∧p.1≠X.env.locals∧p.1 ∉ X.fs∧∀v,p.2.data≠.cell v
 hok:HOk X.prog X.w H s.heap
 len:σ.length=X.N.length
section
variable {X:Cx}{pins:List (Addr × Obj)}{σ:List (Option V)}{H H':Hp}{s:Shared}{h':Heap}
theorem Cx.Ok.XF(ok:X.Ok){b:Addr}{o:Obj}(e:X.base.get? b=some o):b ∉ X.fs:=fun hb=>by
 have:=(ok.u5.mem hb).1
 rw[e]at this;cases this
theorem Inv.bs(I:Inv X pins σ H s):∀b o,X.base.get? b=some o→s.heap.get? b=some o∧H b=none:=fun b o e=>
 ⟨I.base.keep b o (I.ok.bs b o e).1 (I.ok.bs b o e).2 (I.ok.XF e) (I.ok.noex b o e),I.base.free b o (I.ok.bs b o e).1 (I.ok.bs b o e).2 (I.ok.noex b o e)⟩
theorem Inv.bk(I:Inv X pins σ H s):∀b o,X.base.get? b=some o→s.heap.get? b=some o:=fun b o e=>(I.bs b o e).1
theorem Inv.mod(I:Inv X pins σ H s):Mod X.K X.mg X.base:=I.ok.mod
theorem Inv.kIn(I:Inv X pins σ H s):X.K.In s.heap:=I.ok.mod.kin.keeps I.bk
theorem Inv.lt(I:Inv X pins σ H s):X.env.locals<s.heap.objs.size:=let ⟨_,hn,_⟩:=I.loc;hn.lt
theorem Inv.sz(I:Inv X pins σ H s):X.s₀.heap.objs.size≤s.heap.objs.size:=Nat.le_trans I.ok.above (Nat.le_of_lt I.lt)
theorem Inv.XG(I:Inv X pins σ H s){a:Addr}(h:s.heap.objs.size≤a):a ∉ X.fs:=fun hb=>by
 obtain⟨_,o,ho,_⟩:=I.ok.u5.mem hb
 exact absurd (Nat.lt_of_lt_of_le (Heap.lt_size ho) (Nat.le_trans I.sz h)) (Nat.lt_irrefl _)
theorem Inv.cne(I:Inv X pins σ H s):∀x c,X.env.cells.lookup x=some c→c≠X.env.locals:=fun x c e z=>by
 obtain⟨v,o,ho,hd⟩:=I.cell x c e
 obtain⟨m,⟨o',es,ep,ho',hd',_⟩,_⟩:=I.loc
 rw[z,ho']at ho;cases ho;rw[hd']at hd;cases hd
theorem Inv.u5(I:Inv X pins σ H s):s.heap.FunFrames X.base X.outer:=by
 have all:∀(l:List Env),(∀b∈frs l,b∈X.fs)→X.s₀.heap.FunFrames X.base l→s.heap.FunFrames X.base l:=by
  intro l
  induction l with
  |nil=>intro _ _;trivial
  |cons env r ih=>
   intro hs hl
   obtain⟨hk,⟨L,o,hf,hn,ho,hd⟩,hr⟩:=hl
   have hL:L∈X.fs:=hs L (by unfold frs;rw[List.filterMap_cons,hf];exact List.mem_cons_self)
   obtain⟨sl,e⟩:=I.base.slot L o ho (I.ok.frf L hL) hL fun z=>I.ok.exfs L z hL
   exact⟨hk,⟨L,_,hf,hn,e,hd⟩,ih (fun b hb=>hs b (by unfold frs;rw[List.filterMap_cons,hf];exact List.mem_cons_of_mem _ hb)) hr⟩
 exact all X.outer (fun _ hb=>hb) I.ok.u5
theorem Inv.stack(I:Inv X pins σ H s):s.heap.FunFrames X.base X.stack:=by
 rcases I.ok.stk with e|⟨e,hf⟩
 . rw[e];exact I.u5
 . rw[e]
   obtain⟨m,hn,_⟩:=I.loc
   refine .cons (by rw[I.ok.kind];decide) hf hn ?_ I.u5
   exact Heap.get?_none_of_le (Nat.le_trans I.ok.bsz I.ok.above)
theorem Inv.nA(I:Inv X pins σ H s):∀b∈frs X.stack,b∈X.env.locals::X.fs:=fun b hb=>by
 rcases I.ok.stk with e|⟨e,hf⟩
 . rw[e]at hb;exact List.mem_cons_of_mem _ hb
 . rw[e]at hb
   unfold frs at hb
   rw[List.filterMap_cons,hf]at hb
   exact hb
theorem Inv.mG(I:Inv X pins σ H s):∀b∈frs X.stack,H b=none:=fun b hb=>by
 rcases List.mem_cons.mp (I.nA b hb) with e|hb
 . rw[e];exact I.free
 . obtain⟨_,o,ho,_⟩:=I.ok.u5.mem hb
   exact I.base.free b o ho (I.ok.frf b hb) fun z=>I.ok.exfs b z hb
theorem Inv.step{g':Array GenState}{t':Nat}{d':Drawn}{ch:List Addr}(I:Inv X pins σ H s)
 (hch:∀b∈ch,(b∈X.ex∨X.s₀.heap.objs.size≤b)∧b≠X.env.locals∧(∀x c,X.env.cells.lookup x=some c→c≠b)∧∀p∈X.pn++pins,p.1≠b)
 (keep:∀b o,b≠X.env.locals→b ∉ X.fs→b ∉ ch→s.heap.get? b=some o→H b=none→h'.get? b=some o)
 (slot:∀b o,b≠X.env.locals→b∈X.fs→b ∉ ch→s.heap.get? b=some o→H b=none→∃sl,h'.get? b=some {o with slots:=sl}) (free:∀b o,b ∉ ch→s.heap.get? b=some o→H b=none→H' b=none)
 (there:∀b o,b ∉ ch→s.heap.get? b=some o→∃o',h'.get? b=some o')
 (tups:∀b xs,H b=some (.tup xs)→H' b=some (.tup xs)) (frzs:∀b o u,H b=some (.frz o u)→H' b=some (.frz o u)) (tbls:∀b ps,H b=some (.tbl ps)→∃more,H' b=some (.tbl (ps++more)))
 (ns:∀m,s.heap.Ns X.env.locals m→h'.Ns X.env.locals m) (hok:HOk X.prog X.w H' h') (hg:AllBare g') :
 Inv X pins σ H' {s with heap:=h',gens:=g',drawn:=d',toks:=t'}:=by
 have neL:∀b o,X.s₀.heap.get? b=some o→b≠X.env.locals:=fun b o e=>Nat.ne_of_lt (Nat.lt_of_lt_of_le (Heap.lt_size e) I.ok.above)
 have neC:∀b o,X.s₀.heap.get? b=some o→b ∉ X.ex→b ∉ ch:=fun b o e hx hb=>by
  rcases (hch b hb).1 with z|z
  . exact hx z
  . exact absurd (Nat.lt_of_lt_of_le (Heap.lt_size e) z) (Nat.lt_irrefl _)
 have cellK:∀x c,X.env.cells.lookup x=some c→∀v,s.heap.IsCell c v→h'.IsCell c v:=fun x c e v ⟨o,ho,hd⟩=>by
  have nch:c ∉ ch:=fun z=>(hch c z).2.2.1 x c e rfl
  by_cases hc:c∈X.fs
  . obtain⟨sl,q⟩:=slot c o (I.cne x c e) hc nch ho (I.freeC x c e)
    exact⟨_,q,hd⟩
  . exact⟨o,keep c o (I.cne x c e) hc nch ho (I.freeC x c e),hd⟩
 refine⟨I.ok,I.os,hg,⟨fun b o e n hb hx=>?_,fun b o e n hb hx=>?_,fun b o e n hx=>?_,fun b o e hx=>?_,fun b xs e=>tups b xs (I.base.tups b xs e),fun b o xs e=>frzs b o xs (I.base.frzs b o xs e),fun b ps e=>?_⟩,?_,fun x c e=>?_,?_,fun x c e=>?_,fun p hp=>?_,hok,I.len⟩
 . exact keep b o (neL b o e) hb (neC b o e hx) (I.base.keep b o e n hb hx) (I.base.free b o e n hx)
 . obtain⟨sl,e1⟩:=I.base.slot b o e n hb hx
   obtain⟨sl',e2⟩:=slot b _ (neL b o e) hb (neC b o e hx) e1 (I.base.free b o e n hx)
   exact⟨sl',e2⟩
 . obtain⟨o',e1⟩:=I.base.there b o e hx
   exact free b o' (neC b o e hx) e1 (I.base.free b o e n hx)
 . obtain⟨o',e1⟩:=I.base.there b o e hx
   exact there b o' (neC b o e hx) e1
 . obtain⟨m1,e1⟩:=I.base.tbls b ps e
   obtain⟨m2,e2⟩:=tbls b _ e1
   exact⟨m1++m2,by rw[e2,Array.append_assoc]⟩
 . obtain⟨m,hn,hl⟩:=I.loc
   refine⟨m,ns m hn,fun i x v e1 e2 e3=>?_⟩
   obtain⟨u,r,l⟩:=hl i x v e1 e2 e3
   refine⟨u,r,?_⟩
   rcases l with l|⟨k,c,e,z⟩
   . exact .inl l
   . exact .inr ⟨k,c,e,cellK x c e _ z⟩
 . obtain⟨v,z⟩:=I.cell x c e
   exact⟨v,cellK x c e v z⟩
 . obtain⟨m,⟨o,_,_,ho,_⟩,_⟩:=I.loc
   exact free _ o (fun z=>(hch _ z).2.1 rfl) ho I.free
 . obtain⟨v,o,ho,hd⟩:=I.cell x c e
   exact free c o (fun z=>(hch c z).2.2.1 x c e rfl) ho (I.freeC x c e)
 . obtain⟨e,n,ne,nf,d⟩:=I.pin p hp
   have nch:p.1 ∉ ch:=fun z=>(hch p.1 z).2.2.2 p hp rfl
   exact⟨keep p.1 p.2 ne nf nch e n,free p.1 p.2 nch e n,ne,nf,d⟩
theorem Inv.un{t':Nat}(I:Inv X pins σ H s)(u:Un X.fs [] H H' s.heap h')(hok:HOk X.prog X.w H' h'):Inv X pins σ H' {s with heap:=h',toks:=t'}:=by
 obtain⟨m,⟨o,es,ep,ho,r⟩,_⟩:=id I.loc
 obtain⟨sl,hL⟩:=u.any ho I.free (by simp)
 exact I.step (g':=s.gens) (d':=s.drawn) (ch:=[]) (fun _ z=>nomatch z) (fun b o _ hb _ e n=>u.keep b o e n hb (by simp)) (fun b o _ hb _ e n=>u.slot b o e n hb (by simp)) (fun b o _ e n=>u.free b o e n (by simp)) (fun b o _ e=>u.there b o e (by simp)) u.tups u.frzs u.tbls (fun m' hm=>by
  obtain⟨o',es',ep',ho',r'⟩:=hm
  rw[ho]at ho';cases ho'
  exact⟨_,es',ep',hL,r'⟩) hok I.bare
theorem Inv.call{g':Array GenState}{t':Nat}{d':Drawn}{ch:List Addr}(I:Inv X pins σ H s)(u:Un (frs X.stack) ch H H' s.heap h')(hok:HOk X.prog X.w H' h')(hg:AllBare g')
 (hch:∀b∈ch,(b∈X.ex∨X.s₀.heap.objs.size≤b)∧b≠X.env.locals∧(∀x c,X.env.cells.lookup x=some c→c≠b)∧∀p∈X.pn++pins,p.1≠b) :
 Inv X pins σ H' {s with heap:=h',gens:=g',drawn:=d',toks:=t'}:=by
 obtain⟨m,⟨o,es,ep,ho,r⟩,_⟩:=id I.loc
 obtain⟨sl,hL⟩:=u.any ho I.free fun z=>(hch _ z).2.1 rfl
 exact I.step (ch:=ch) hch (fun b o hL hb hc e n=>u.keep b o e n (fun z=>(List.mem_cons.mp (I.nA b z)).elim hL hb) hc) (fun b o _ _ hc e n=>u.any e n hc) (fun b o hc e n=>u.free b o e n hc) (fun b o hc e=>u.there b o e hc) u.tups u.frzs u.tbls (fun m' hm=>by
  obtain⟨o',es',ep',ho',r'⟩:=hm
  rw[ho]at ho';cases ho'
  exact⟨_,es',ep',hL,r'⟩) hok hg
theorem Inv.turned{t':Nat}{it:Addr}(I:Inv X pins σ H s)(k:∀b o,b≠it→s.heap.get? b=some o→h'.get? b=some o)(hn:H it=none)(hL:it≠X.env.locals)
 (h1:it∈X.ex∨X.s₀.heap.objs.size≤it) (h2:∀x c,X.env.cells.lookup x=some c→c≠it) (h3:∀p∈X.pn++pins,p.1≠it):Inv X pins σ H {s with heap:=h',toks:=t'}:=by
 have nit:∀b u,H b=some u→b≠it:=fun b u e z=>by rw[z,hn]at e;cases e
 refine I.step (g':=s.gens) (d':=s.drawn) (ch:=[it]) (fun b hb=>?_) (fun b o _ _ hc e _=>k b o (fun z=>hc (by simp[z])) e) (fun b o _ _ hc e _=>⟨o.slots,k b o (fun z=>hc (by simp[z])) e⟩) (fun _ _ _ _ n=>n)
  (fun b o hc e=>⟨o,k b o (fun z=>hc (by simp[z])) e⟩) (fun _ _ e=>e) (fun _ _ _ e=>e) (fun b ps e=>⟨#[],by rw[e];simp⟩) (fun m hm=>?_) (fun b u e=>?_) I.bare
 . have e:b=it:=by simpa using hb
   subst e
   exact⟨h1,hL,h2,h3⟩
 . obtain⟨o,es,ep,ho,r⟩:=hm
   exact⟨o,es,ep,k _ o (Ne.symm hL) ho,r⟩
 . refine(I.hok b u e).oz (fun c v hc q=>k c v ?_ q) (fun _ q=>q) fun _ _ q=>q
   rcases hc with z|z
   . rw[z];exact nit b u e
   . exact nit c _ z
theorem Inv.tok(I:Inv X pins σ H s)(t:Nat):Inv X pins σ H {s with toks:=t}:=I.un (h':=s.heap) (t':=t) Un.refl I.hok
theorem Inv.kept{t':Nat}(I:Inv X pins σ H s)(k:∀b u,s.heap.get? b=some u→h'.get? b=some u):Inv X pins σ H {s with heap:=h',toks:=t'}:=I.un (Un.kept k) (I.hok.kept k)
theorem Inv.laid{a:Addr}{o:HO}{t':Nat}(I:Inv X pins σ H s)(k:∀b u,s.heap.get? b=some u→h'.get? b=some u)(hp:s.heap.objs.size≤a)(new:zc X.prog X.w (upd H a o) h' a o) :
 Inv X pins σ (upd H a o) {s with heap:=h',toks:=t'}:=I.un (Un.laid k hp (I.hok.fresh hp)) (I.hok.laid k hp new)
theorem Inv.write{x e:Addr}{o:HO}{t':Nat}(I:Inv X pins σ H s)(mu:Mut (H x))(he:e=x∨H e=some (.own x))(k:∀b u,b≠e→s.heap.get? b=some u→h'.get? b=some u)(heo:∃u,h'.get? e=some u)
 (new:zc X.prog X.w (upd H x o) h' x o):Inv X pins σ (upd H x o) {s with heap:=h',toks:=t'}:=I.un (Un.write mu he k heo) (I.hok.write mu he k heo new)
theorem Inv.mC{pins':List (Addr × Obj)}(I:Inv X pins σ H s)(h:∀p∈pins',s.heap.get? p.1=some p.2∧H p.1=none∧p.1≠X.env.locals∧p.1 ∉ X.fs∧∀v,p.2.data≠.cell v):Inv X pins' σ H s:=
 ⟨I.ok,I.os,I.bare,I.base,I.loc,I.cell,I.free,I.freeC,fun p hp=>(List.mem_append.mp hp).elim (fun z=>I.pin p (List.mem_append_left _ z)) (h p),I.hok,I.len⟩
theorem pC{N:List Str}(hN:N.Nodup){i j:Nat}{x:Str}(a:N[i]?=some x)(b:N[j]?=some x):i=j:=by
 obtain⟨h1,e1⟩:=List.getElem?_eq_some_iff.mp a
 obtain⟨h2,e2⟩:=List.getElem?_eq_some_iff.mp b
 exact(List.getElem_inj hN).mp (e1.trans e2.symm)
theorem rN{M:Model}{A:Around}{E:Value→Shared→Prop}{i:Nat}{x:Str}{v:V}{u:Value}{Q:Unit→Shared→Prop}(I:Inv X pins σ H s)(hN:X.N.Nodup)(hi:X.N[i]?=some x)(hx:Loc X.env.scope x)(r:RelV v u)
 (h:∀s',Inv X pins (σ.set i (some v)) H s'→(∃a,Heap.SameBut a s.heap s'.heap∧(a=X.env.locals∨X.env.cells.lookup x=some a))→Q () s') (hf:X.fn x=true∨X.env.scope.names.lookup x=some .local:=by first|exact .inl rfl|exact .inr rfl|assumption):wpAny M A (storeName X.env x u) Q E s:=by
 obtain⟨m,hn,hl⟩:=id I.loc
 have hcls:(X.env.scope.kind == .class||(X.env.scope.kind == .module&&X.env.locals != X.env.globals))=false:=by rw[I.ok.kind];rfl
 have hiσ:i<σ.length:=by rw[I.len];exact(List.getElem?_eq_some_iff.mp hi).1
 have cne:=I.cne
 have tracked:∀{a:Addr} {h':Heap},(∃o,s.heap.get? a=some o∧H a=none)→Heap.SameBut a s.heap h'→HOk X.prog X.w H h':=fun{a h'} ha hs b ob e=>by
  obtain⟨_,_,hfree⟩:=ha
  refine(I.hok b ob e).oz (fun c w' hc q=>(hs.2 c ?_).trans q) (fun _ q=>q) fun _ _ q=>q
  rintro rfl
  rcases hc with rfl|hc
  . rw[hfree]at e;cases e
  . rw[hfree]at hc;cases hc
 rcases hx with hk|hk
 . refine wpAny_storeName_local hk hn (fun h' hn' hs=>?_) hcls
   obtain⟨oL,_,_,hoL,_⟩:=id hn
   refine h _ ⟨I.ok,I.os,I.bare,⟨fun b o e n hb hx=>?_,fun b o e n hb hx=>?_,I.base.free,fun b o e hx=>?_,I.base.tups,I.base.frzs,I.base.tbls⟩,⟨_,hn',fun j y v' e1 e2 e3=>?_⟩,fun y c e=>?_,I.free,I.freeC,fun p hp=>?_,tracked ⟨oL,hoL,I.free⟩ hs,by simpa using I.len⟩ ⟨_,hs,.inl rfl⟩
   . exact(hs.2 b (Nat.ne_of_lt (Nat.lt_of_lt_of_le (Heap.lt_size e) I.ok.above))).trans (I.base.keep b o e n hb hx)
   . obtain⟨sl,e1⟩:=I.base.slot b o e n hb hx
     exact⟨sl,(hs.2 b (Nat.ne_of_lt (Nat.lt_of_lt_of_le (Heap.lt_size e) I.ok.above))).trans e1⟩
   . obtain⟨o',e1⟩:=I.base.there b o e hx
     exact⟨o',(hs.2 b (Nat.ne_of_lt (Nat.lt_of_lt_of_le (Heap.lt_size e) I.ok.above))).trans e1⟩
   . by_cases hj:j=i
     . subst hj
       rw[hi]at e1;cases e1
       rw[List.getElem?_set_self hiσ]at e2
       cases e2
       exact⟨u,r,.inl ⟨hk,by simp⟩⟩
     . rw[List.getElem?_set_ne (Ne.symm hj)]at e2
       obtain⟨u',r',q⟩:=hl j y v' e1 e2 e3
       refine⟨u',r',?_⟩
       rcases q with⟨k,e⟩|⟨k,c,e,z⟩
       . refine .inl ⟨k,?_⟩
         have:y≠x:=fun e=>hj (pC hN e1 (e▸hi))
         simp[this,e]
       . exact .inr ⟨k,c,e,z.sameBut hs (cne y c e)⟩
   . obtain⟨w',z⟩:=I.cell y c e
     exact⟨w',z.sameBut hs (cne y c e)⟩
   . obtain⟨e,n,ne,nf,d⟩:=I.pin p hp
     exact⟨(hs.2 p.1 ne).trans e,n,ne,nf,d⟩
 . have hfn:X.fn x=true:=by
    rcases hf with z|z
    . exact z
    . rw[z]at hk;cases hk
   obtain⟨c,hc⟩:=I.ok.has x (.inl hk)
   obtain⟨w',z⟩:=I.cell x c hc
   refine wpAny_storeName_cell I.ok.kind hk hc z (fun h' hc' hs=>?_)
   obtain⟨oc,hoc,hocd⟩:=id z
   refine h {s with heap:=h'} ⟨I.ok,I.os,I.bare,⟨fun b o e n hb hx=>?_,fun b o e n hb hx=>?_,I.base.free,fun b o e hx=>?_,I.base.tups,I.base.frzs,I.base.tbls⟩,⟨m,hn.sameBut hs (Ne.symm (cne x c hc)),fun j y v' e1 e2 e3=>?_⟩,fun y c' e=>?_,I.free,I.freeC,fun p hp=>?_,tracked ⟨oc,hoc,I.freeC x c hc⟩ hs,by simpa using I.len⟩ ⟨c,hs,.inr hc⟩
   . exact(hs.2 b (Nat.ne_of_lt (Nat.lt_of_lt_of_le (Heap.lt_size e) (I.ok.cab x c hfn hc)))).trans (I.base.keep b o e n hb hx)
   . obtain⟨sl,e1⟩:=I.base.slot b o e n hb hx
     exact⟨sl,(hs.2 b (Nat.ne_of_lt (Nat.lt_of_lt_of_le (Heap.lt_size e) (I.ok.cab x c hfn hc)))).trans e1⟩
   . obtain⟨o',e1⟩:=I.base.there b o e hx
     exact⟨o',(hs.2 b (Nat.ne_of_lt (Nat.lt_of_lt_of_le (Heap.lt_size e) (I.ok.cab x c hfn hc)))).trans e1⟩
   . by_cases hj:j=i
     . subst hj
       rw[hi]at e1;cases e1
       rw[List.getElem?_set_self hiσ]at e2
       cases e2
       exact⟨u,r,.inr ⟨.inl hk,c,hc,hc'⟩⟩
     . rw[List.getElem?_set_ne (Ne.symm hj)]at e2
       obtain⟨u',r',q⟩:=hl j y v' e1 e2 e3
       refine⟨u',r',?_⟩
       rcases q with q|⟨k,c',e,z'⟩
       . exact .inl q
       . refine .inr ⟨k,c',e,z'.sameBut hs ?_⟩
         rintro rfl
         exact hj (pC hN e1 (I.ok.inj _ _ _ e hc▸hi))
   . by_cases hcc:c'=c
     . subst hcc;exact⟨_,hc'⟩
     . obtain⟨w2,z2⟩:=I.cell y c' e
       exact⟨w2,z2.sameBut hs hcc⟩
   . obtain⟨e,n,ne,nf,d⟩:=I.pin p hp
     refine⟨(hs.2 p.1 ?_).trans e,n,ne,nf,d⟩
     intro q
     rw[q,hoc]at e
     have q':oc=p.2:=Option.some.inj e
     exact d w' (by rw[←q'];exact hocd)
theorem y7{M:Model}{A:Around}{E:Value→Shared→Prop}{i:Nat}{x:Str}{v:V}{u:Value}{Q:Unit→Shared→Prop}(I:Inv X pins σ H s)(hN:X.N.Nodup)(hi:X.N[i]?=some x)(hx:Loc X.env.scope x)(r:RelV v u)
 (h:∀s',Inv X pins (σ.set i (some v)) H s'→Q () s') (hf:X.fn x=true∨X.env.scope.names.lookup x=some .local:=by first|exact .inl rfl|exact .inr rfl|assumption):wpAny M A (storeName X.env x u) Q E s:=
 rN I hN hi hx r (fun s' I' _=>h s' I') hf
theorem Inv.ZV{s':Shared}{ch:List Addr}(I:Inv X pins σ H s)(ho:s'.os=s.os)(u:Un (frs X.stack) ch H H' s.heap s'.heap)(hok:HOk X.prog X.w H' s'.heap)(hg:AllBare s'.gens)
 (hch:∀b∈ch,(b∈X.ex∨X.s₀.heap.objs.size≤b)∧b≠X.env.locals∧(∀x c,X.env.cells.lookup x=some c→c≠b)∧∀p∈X.pn++pins,p.1≠b):Inv X pins σ H' s':=by
 obtain⟨h',g',d',t',o'⟩:=s'
 have e:o'=s.os:=ho
 subst e
 exact I.call (g':=g') (t':=t') (d':=d') u hok hg hch
end
noncomputable abbrev XK:=Value→Option Addr→Hp→Prop
noncomputable abbrev St:=List (Option V)
noncomputable abbrev VK:=V→Hp→Prop
noncomputable abbrev TE:=St→Hp→VK→Prop
noncomputable abbrev TT:=St→Hp→(Bool→Hp→Prop)→Prop
noncomputable abbrev TA:=St→Hp→(List V→Hp→Prop)→Prop
structure Ends where
 nx:St→Hp→Prop
 rt:VK
 bk:St→Hp→Prop:=fun _ _=>False
 ct:St→Hp→Prop:=fun _ _=>False
noncomputable abbrev TS:=Ends→St→Hp→Prop
def EP(X:Cx)(pins:List (Addr × Obj))(σ:St)(Q:VK)(u:Value)(s':Shared):Prop:=∃v H',Inv X pins σ H' s'∧RelV v u∧Q v H'
def TP(X:Cx)(pins:List (Addr × Obj))(σ:St)(Q:Bool→Hp→Prop)(b:Bool)(s':Shared):Prop:=∃H',Inv X pins σ H' s'∧Q b H'
def AP(X:Cx)(pins:List (Addr × Obj))(σ:St)(Q:List V→Hp→Prop)(us:List Value)(s':Shared):Prop:=∃vs H',Inv X pins σ H' s'∧Vals vs us∧Q vs H'
def SP(X:Cx)(pins:List (Addr × Obj))(D:Ends)(f:Flow)(s':Shared):Prop:=
 match f with
 |.next=>∃σ' H',Inv X pins σ' H' s'∧D.nx σ' H'
 |.brk=>∃σ' H',Inv X pins σ' H' s'∧D.bk σ' H'
 |.cont=>∃σ' H',Inv X pins σ' H' s'∧D.ct σ' H'
 |.ret u=>∃v σ' H',Inv X pins σ' H' s'∧RelV v u∧D.rt v H'
def PE(X:Cx)(e:Expr)(t:TE):Prop:=
 ∀(pins:List (Addr × Obj)) (s:Shared) (σ:St) (H:Hp) (Q:VK),Inv X pins σ H s→t σ H Q→wpAny (model X.prog X.w) X.A (eval e X.env) (EP X pins σ Q) X.xe s
def PT(X:Cx)(e:Expr)(t:TT):Prop:=
 ∀(pins:List (Addr × Obj)) (s:Shared) (σ:St) (H:Hp) (Q:Bool→Hp→Prop),Inv X pins σ H s→t σ H Q→wpAny (model X.prog X.w) X.A (isTrue e X.env (eval e X.env)) (TP X pins σ Q) X.xe s
def PW(X:Cx)(e:Expr)(t:TT):Prop:=
 ∀(whole:Sem Value) (pins:List (Addr × Obj)) (s:Shared) (σ:St) (H:Hp) (Q:Bool→Hp→Prop),Inv X pins σ H s→t σ H Q→wpAny (model X.prog X.w) X.A (isTrue e X.env whole) (TP X pins σ Q) X.xe s
theorem PW.pt{X:Cx}{e:Expr}{t:TT}(h:PW X e t):PT X e t:=h _
def PA(X:Cx)(es:List Expr)(t:TA):Prop:=
 ∀(pos:Pos) (pins:List (Addr × Obj)) (s:Shared) (σ:St) (H:Hp) (Q:List V→Hp→Prop),Inv X pins σ H s→t σ H Q→wpAny (model X.prog X.w) X.A (spliced (backTo pos (starEach es X.env))) (AP X pins σ Q) X.xe s
def PS(X:Cx)(st:Stmt)(t:TS):Prop:=
 ∀(pins:List (Addr × Obj)) (s:Shared) (σ:St) (H:Hp) (D:Ends),Inv X pins σ H s→t D σ H→wpAny (model X.prog X.w) X.A (exec st X.env) (SP X pins D) X.xe s
def PSs(X:Cx)(st:List Stmt)(t:TS):Prop:=
 ∀(pins:List (Addr × Obj)) (s:Shared) (σ:St) (H:Hp) (D:Ends),Inv X pins σ H s→t D σ H→wpAny (model X.prog X.w) X.A (execs st X.env) (SP X pins D) X.xe s
theorem thn{α:Type}{t:Sem α}{Q Q':α→Shared→Prop}{M:Model}{A:Around}{E:Value→Shared→Prop}{s:Shared}(h:wpAny M A t Q E s)(hQ:∀a s,Q a s→Q' a s):wpAny M A t Q' E s:=wpAny_mono h hQ fun _ _ x=>x
end L2
namespace L2
open PySem PySem.Spec PyProof.Rows
section
variable {X:Cx}
theorem bin{a b:Expr}{ta tb:TE}(ha:PE X a ta)(hb:PE X b tb){pins:List (Addr × Obj)}{s:Shared}{σ:St}{H:Hp}{R:V→V→Hp→Prop}(I:Inv X pins σ H s)(h:ta σ H fun x H1=>tb σ H1 fun y H2=>R x y H2)
 {α:Type} {Q:α→Shared→Prop} {f:Value→Value→Sem α}
 (hf:∀v u s2 x y H2,Inv X pins σ H2 s2→RelV x v→RelV y u→R x y H2→wpAny (model X.prog X.w) X.A (f v u) Q X.xe s2) :
 wpAny (model X.prog X.w) X.A (eval a X.env) (fun v s₁=>wpAny (model X.prog X.w) X.A (eval b X.env) (fun u s₂=>wpAny (model X.prog X.w) X.A (f v u) Q X.xe s₂) X.xe s₁) X.xe s:=by
 refine thn (ha pins s σ H _ I h) fun v s1 ⟨x,H1,I1,r1,q1⟩=>?_
 refine thn (hb pins s1 σ H1 _ I1 q1) fun u s2 ⟨y,H2,I2,r2,q2⟩=>?_
 exact hf v u s2 x y H2 I2 r1 r2 q2
noncomputable def Xf(i:Nat):TE:=fun σ H Q=>∃v,σ[i]?=some (some v)∧Q v H
noncomputable def tC(v:V):TE:=fun _ H Q=>Q v H
theorem ae{i:Nat}{x:Str}{pos:Pos}(hN:X.N[i]?=some x)(hv:Vis X.env.scope x)(hd:(x == ("__debug__":Str))=false:=by decide)(hcd:(x == ("__classdict__":Str))=false:=by decide):PE X (.Name x pos) (Xf i):=by
 intro pins s σ H Q I h
 obtain⟨v,e,h⟩:=h
 obtain⟨m,hn,hl⟩:=I.loc
 obtain⟨u,r,l⟩:=hl i x v hN e hv
 have fin:EP X pins σ Q u s:=⟨v,H,I,r,h⟩
 rcases l with⟨hk,hm⟩|⟨hk,c,hc,hcell⟩
 . exact wpAny_Name (wpAny_loadName_local I.ok.kind hk hn hm fin) hd
 . rcases hk with hk|hk
   . exact wpAny_Name (wpAny_loadName_cell I.ok.kind hk hc hcell fin) hd
   . exact wpAny_Name (wpAny_loadName_free I.ok.kind hk hc hcell fin hcd) hd
theorem aV{i j pos}:PE X (.Constant (.int i) j pos) (tC (.int i)):=fun _ _ _ H _ I h=>wpAny_Constant_int ⟨.int i,H,I.tok _,⟨_,rfl⟩,h⟩
theorem YQ{b j pos}:PE X (.Constant (.bool b) j pos) (tC (.bl b)):=fun _ _ _ H _ I h=>Constant_bool ⟨.bl b,H,I,rfl,h⟩
theorem aX{j pos}:PE X (.Constant .none j pos) (tC .non):=fun _ _ _ H _ I h=>Constant_none ⟨.non,H,I,rfl,h⟩
theorem aa{x j pos}:PE X (.Constant (.str x) j pos) (tC (.str x)):=fun _ _ _ H _ I h=>Calls.Constant_str ⟨.str x,H,I.tok _,⟨_,rfl⟩,h⟩
def Gl(X:Cx)(x:Str):Prop:=X.env.kindOf x=some .globalImplicit
theorem qF{E:Value→Shared→Prop}{pins:List (Addr × Obj)}{s:Shared}{σ:St}{H:Hp}{x:Str}{u:Value}{pos:Pos}{Q:Value→Shared→Prop}(I:Inv X pins σ H s)(hg:Gl X x)(hm:X.mg x=some u)(h:Q u s)
 (hd:(x == ("__debug__":Str))=false:=by decide):wpAny (model X.prog X.w) X.A (eval (.Name x pos) X.env) Q E s:=
 Calls.Name_function_global I.ok.kind hg (Calls.loadGlobal_global (by rw[I.ok.glob];exact I.mod.glob.keeps I.bk) hm h) hd
theorem xA{E:Value→Shared→Prop}{pins:List (Addr × Obj)}{s:Shared}{σ:St}{H:Hp}{x:Str}{u:Value}{pos:Pos}{Q:Value→Shared→Prop}(I:Inv X pins σ H s)(hg:Gl X x)(hm:X.mg x=none)(hv:bootBuiltins x=some u)(h:Q u s)
 (hn:x≠"__name__":=by decide) (hd:(x == ("__debug__":Str))=false:=by decide):wpAny (model X.prog X.w) X.A (eval (.Name x pos) X.env) Q E s:=by
 obtain⟨mb,h1,h2⟩:=I.mod.blt
 exact Calls.Name_function_global I.ok.kind hg (Calls.loadGlobal_builtin (by rw[I.ok.glob];exact I.mod.glob.keeps I.bk) hm (by rw[I.ok.blt];exact h1.keeps I.bk) ((h2 x hn).trans hv) h) hd
theorem fc{x:Str}{v:V}{u:Value}{pos:Pos}(hg:Gl X x)(hm:X.mg x=some u)(r:RelV v u)(hd:(x == ("__debug__":Str))=false:=by decide):PE X (.Name x pos) (tC v):=
 fun _ _ _ H _ I h=>qF I hg hm ⟨v,H,I,r,h⟩ hd
theorem fX{x:Str}{v:V}{u:Value}{pos:Pos}(hg:Gl X x)(hm:X.mg x=none)(hv:bootBuiltins x=some u)(r:RelV v u)(hn:x≠"__name__":=by decide)(hd:(x == ("__debug__":Str))=false:=by decide):PE X (.Name x pos) (tC v):=
 fun _ _ _ H _ I h=>xA I hg hm hv ⟨v,H,I,r,h⟩ hn hd
variable {a b:Expr}{ta tb:TE}{pos:Pos}
variable {tA tB':TT}{rest:List Expr}
noncomputable def Xa(t:TT):TT:=fun σ H Q=>t σ H fun c H1=>Q (!c) H1
theorem ak(ha:PT X a tA):PT X (.UnaryOp .Not a pos) (Xa tA):=by
 intro pins s σ H Q I h
 exact isTrue_not (ha pins s σ H (fun c H1=>Q (!c) H1) I h)
noncomputable def Yp(ta tb:TE):TE:=fun σ H Q=>ta σ H fun x H1=>∃c,x=.bl c∧if c=true then tb σ H1 Q else Q (.bl false) H1
noncomputable def Yu(ta:TE):TE:=fun σ H Q=>ta σ H fun x H1=>∃c,x=.bl c∧Q (.bl (!c)) H1
theorem oZ{op}{t:TE}(h:PE X a t):PE X (.BoolOp op [a] pos) t:=fun pins s σ H Q I hw=>BoolOp_one (h pins s σ H Q I hw)
theorem aU(ha:PE X a ta)(hb:PE X (.BoolOp .And (b::rest) pos) tb):PE X (.BoolOp .And (a::b::rest) pos) (Yp ta tb):=by
 intro pins s σ H Q I h
 refine BoolOp_and (thn (ha pins s σ H _ I h) fun v s1 ⟨x,H1,I1,r1,q1⟩=>?_)
 obtain⟨c,rfl,q1⟩:=q1
 cases r1
 refine wpAny_truthy_bool ?_
 cases c with
 |true=>exact hb pins s1 σ H1 Q I1 q1
 |false=>exact⟨.bl false,H1,I1,rfl,q1⟩
theorem aY(ha:PE X a ta):PE X (.UnaryOp .Not a pos) (Yu ta):=by
 intro pins s σ H Q I h
 refine UnaryOp_ (thn (ha pins s σ H _ I h) fun v s1 ⟨x,H1,I1,r1,q1⟩=>?_)
 obtain⟨c,rfl,q1⟩:=q1
 cases r1
 exact not_of (wpAny_truthy_bool ⟨.bl (!c),H1,I1,rfl,q1⟩)
noncomputable def tIf(t:TT)(ta tb:TE):TE:=fun σ H Q=>t σ H fun c H1=>if c=true then ta σ H1 Q else tb σ H1 Q
theorem j4{c:Expr}(hc:PT X c tA)(ha:PE X a ta)(hb:PE X b tb):PE X (.IfExp c a b pos) (tIf tA ta tb):=by
 intro pins s σ H Q I h
 refine wpAny_IfExp (thn (hc pins s σ H _ I h) fun d s1 ⟨H1,I1,q1⟩=>?_)
 cases d with
 |true=>exact ha pins s1 σ H1 Q I1 q1
 |false=>exact hb pins s1 σ H1 Q I1 q1
end
end L2
namespace L2
open PySem PySem.Spec PyProof.Rows
def SqL(K:PySem.W.Frag)(H:Hp)(a:Addr)(xs:List V):Prop:=
 Rd H a (.lst xs) ∨
  ∃(o:Obj) (its:Array Value) (n:Nat),K.lookup a=some o∧o.cls=.type "list"∧o.dict=none∧o.data=.seq its n∧its.size≤sizeLine∧Vals xs its.toList
def SqT(K:PySem.W.Frag)(H:Hp)(a:Addr)(xs:List V):Prop:=
 Rd H a (.tup xs) ∨
  ∃(o:Obj) (its:Array Value) (n:Nat),K.lookup a=some o∧o.cls=.type "tuple"∧o.data=.seq its n∧its.size≤sizeLine∧Vals xs its.toList
noncomputable def Y9:Value→Option V
 |.none=>some .non
 |.bool b=>some (.bl b)
 |.int i _=>some (.int i)
 |.str x _=>some (.str x)
 |.bytes b _=>some (.byt b)
 |.float b _=>some (.flt b)
 |.ref a=>some (.ref a)
 |.type n=>some (.ty n)
 |_=>none
theorem RelV.abs{x:V}{u:Value}(r:RelV x u):Y9 u=some x:=by
 cases x with
 |non=>cases r;rfl
 |bl _=>cases r;rfl
 |int _=>obtain⟨t,rfl⟩:=r;rfl
 |str _=>obtain⟨t,rfl⟩:=r;rfl
 |byt _=>obtain⟨t,rfl⟩:=r;rfl
 |flt _=>obtain⟨t,rfl⟩:=r;rfl
 |ref _=>cases r;rfl
 |ty _=>cases r;rfl
theorem RelV.inj{x y:V}{u:Value}(r:RelV x u)(q:RelV y u):x=y:=Option.some.inj (r.abs.symm.trans q.abs)
theorem Vals.inj:∀{xs ys:List V} {us:List Value},Vals xs us→Vals ys us→xs=ys
 |_,_,_,.nil,.nil=>rfl
 |_,_,_,.cons r t,.cons r' t'=>by rw[r.inj r',Vals.inj t t']
section
variable {X:Cx}{pins:List (Addr × Obj)}{σ:St}{H:Hp}{s:Shared}{a:Addr}{xs ys:List V}
theorem SqL.of{K:PySem.W.Frag}(h:H a=some (.lst xs)):SqL K H a xs:=.inl (.inl h)
theorem SqT.of{K:PySem.W.Frag}(h:H a=some (.tup xs)):SqT K H a xs:=.inl (.inl h)
theorem Inv.list(I:Inv X pins σ H s)(h:SqL X.K H a xs):∃its:List Value,Vals xs its∧PlainL s.heap a its.toArray∧xs.length≤sizeLine:=by
 rcases h with h|⟨o,its,n,hk,hc,hd,hs,hz,r⟩
 . obtain⟨z,its,n,r,e⟩:=h.ok I.hok
   exact⟨its,r,⟨_,n,e,rfl,rfl,rfl⟩,z⟩
 . refine⟨its.toList,r,⟨o,n,I.kIn a o hk,hc,hd,by simpa using hs⟩,?_⟩
   have e:=r.length
   simp only[Array.length_toList]at e
   omega
theorem Inv.tuple(I:Inv X pins σ H s)(h:SqT X.K H a xs):∃its:List Value,Vals xs its∧IsTup s.heap a its.toArray∧xs.length≤sizeLine:=by
 rcases h with h|⟨o,its,n,hk,hc,hs,hz,r⟩
 . obtain⟨z,its,r,p⟩:=h.ok I.hok
   exact⟨its,r,p.tup,z⟩
 . refine⟨its.toList,r,⟨o,I.kIn a o hk,hc,n,by simpa using hs⟩,?_⟩
   have e:=r.length
   simp only[Array.length_toList]at e
   omega
theorem Inv.qw(I:Inv X pins σ H s)(h:SqL X.K H a xs)(h':SqL X.K H a ys):xs=ys:=by
 obtain⟨its,r,⟨o,n,e,_,_,d⟩,_⟩:=I.list h
 obtain⟨its',r',⟨o',n',e',_,_,d'⟩,_⟩:=I.list h'
 rw[e]at e';cases e'
 rw[d]at d'
 injection d' with d1 _
 have:its=its':=by simpa using congrArg Array.toList d1
 subst this
 exact r.inj r'
theorem Inv.rQ(I:Inv X pins σ H s)(h:SqT X.K H a xs)(h':SqT X.K H a ys):xs=ys:=by
 obtain⟨its,r,⟨o,e,_,n,d⟩,_⟩:=I.tuple h
 obtain⟨its',r',⟨o',e',_,n',d'⟩,_⟩:=I.tuple h'
 rw[e]at e';cases e'
 rw[d]at d'
 injection d' with d1 _
 have:its=its':=by simpa using congrArg Array.toList d1
 subst this
 exact r.inj r'
end
noncomputable abbrev Cx.sY(X:Cx)(E:Value→Shared→Prop):Cx:={X with xe:=E}
noncomputable abbrev Cx.nox(X:Cx):Cx:=X.sY fun _ _=>False
theorem Cx.Ok.sY{X:Cx}(ok:X.Ok)(E:Value→Shared→Prop):(X.sY E).Ok:=
 ⟨ok.mod,ok.kind,ok.glob,ok.blt,ok.above,ok.inj,ok.has,ok.cab,ok.hd,ok.frames,ok.stk,ok.exf,ok.bs,ok.bsz,ok.noex,ok.exfs,ok.u5,ok.frf⟩
theorem Cx.Ok.wR{X:Cx}{E:Value→Shared→Prop}(ok:(X.sY E).Ok):X.Ok:=
 ⟨ok.mod,ok.kind,ok.glob,ok.blt,ok.above,ok.inj,ok.has,ok.cab,ok.hd,ok.frames,ok.stk,ok.exf,ok.bs,ok.bsz,ok.noex,ok.exfs,ok.u5,ok.frf⟩
section
variable {X:Cx}{pins:List (Addr × Obj)}{σ:St}{H:Hp}{s:Shared}{E:Value→Shared→Prop}
theorem Inv.sY(I:Inv X pins σ H s)(E:Value→Shared→Prop):Inv (X.sY E) pins σ H s:=⟨I.ok.sY E,I.os,I.bare,I.base,I.loc,I.cell,I.free,I.freeC,I.pin,I.hok,I.len⟩
theorem Inv.wR(I:Inv (X.sY E) pins σ H s):Inv X pins σ H s:=⟨I.ok.wR,I.os,I.bare,I.base,I.loc,I.cell,I.free,I.freeC,I.pin,I.hok,I.len⟩
theorem SP.wR{D:Ends}{f:Flow}{s':Shared}(h:SP (X.sY E) pins D f s'):SP X pins D f s':=by
 cases f with
 |next=>obtain⟨σ',H',I,q⟩:=h;exact⟨σ',H',I.wR,q⟩
 |brk=>obtain⟨σ',H',I,q⟩:=h;exact⟨σ',H',I.wR,q⟩
 |cont=>obtain⟨σ',H',I,q⟩:=h;exact⟨σ',H',I.wR,q⟩
 |ret u=>obtain⟨v,σ',H',I,r,q⟩:=h;exact⟨v,σ',H',I.wR,r,q⟩
theorem PSs.nox{st:List Stmt}{t:TS}(h:PSs X.nox st t):PSs X st t:=fun pins s σ H D I hw=>
 wpAny_mono (h pins s σ H D (I.sY _) hw) (fun _ _ q=>q.wR) fun _ _ z=>False.elim z
end
section
variable {X:Cx}{st:Stmt}{rest:List Stmt}{t u:TS}{e:Expr}{te:TE}{pos:Pos}
noncomputable def Yt:TS:=fun D σ H=>D.nx σ H
noncomputable def Xd(t u:TS):TS:=fun D σ H=>t {D with nx:=u D} σ H
theorem fz:PSs X [] Yt:=fun _ _ σ H _ I h=>wpAny_execs_nil ⟨σ,H,I,h⟩
theorem iE(h1:PS X st t)(h2:PSs X rest u):PSs X (st::rest) (Xd t u):=by
 intro pins s σ H D I h
 refine wpAny_execs_cons (thn (h1 pins s σ H {D with nx:=u D} I h) fun f s1 q=>?_)
 cases f with
 |next=>
  obtain⟨σ',H',I',q⟩:=q
  exact h2 pins s1 σ' H' D I' q
 |ret v=>exact q
 |brk=>exact q
 |cont=>exact q
theorem Inv.quiet{pins:List (Addr × Obj)}{σ:St}{H:Hp}{s:Shared}(I:Inv X pins σ H s):interactive X.env=false:=by simp[interactive,I.ok.kind]
noncomputable def Ys(te:TE):TS:=fun D σ H=>te σ H fun _ H1=>D.nx σ H1
theorem fv(he:PE X e te)(hs:swapsWith e none pos.line X.env=pure false:=by rfl):PS X (.Expr e pos) (Ys te):=by
 intro pins s σ H D I h
 exact wpAny_Expr_any (thn (he pins s σ H _ I h) fun v s1 ⟨x,H1,I1,r1,q1⟩=>⟨σ,H1,I1,q1⟩) I.quiet hs
noncomputable def Xc(te:TE):TS:=fun D σ H=>te σ H D.rt
theorem aj(he:PE X e te):PS X (.Return (some e) pos) (Xc te):=by
 intro pins s σ H D I h
 exact wpAny_Return_some (thn (he pins s σ H _ I h) fun v s1 ⟨x,H1,I1,r1,q1⟩=>⟨x,σ,H1,I1,r1,q1⟩)
noncomputable def XY(c:TT)(t u:TS):TS:=fun D σ H=>c σ H fun b H1=>if b=true then t D σ H1 else u D σ H1
theorem YX{c:Expr}{a b:List Stmt}{tc:TT}(hc:PT X c tc)(ha:PSs X a t)(hb:PSs X b u):PS X (.If c a b pos) (XY tc t u):=by
 intro pins s σ H D I h
 refine wpAny_If (thn (hc pins s σ H _ I h) fun d s1 ⟨H1,I1,q1⟩=>?_)
 cases d with
 |true=>exact ha pins s1 σ H1 D I1 q1
 |false=>exact hb pins s1 σ H1 D I1 q1
end
noncomputable abbrev TG:=V→St→Hp→(St→Hp→Prop)→Prop
noncomputable abbrev TGs:=List V→St→Hp→(St→Hp→Prop)→Prop
def PG(X:Cx)(target:Expr)(t:TG):Prop:=
 ∀(pins:List (Addr × Obj)) (s:Shared) (σ:St) (H:Hp) (v:V) (u:Value) (Q:St→Hp→Prop),Inv X pins σ H s→RelV v u→t v σ H Q →
  wpAny (model X.prog X.w) X.A (assign target X.env u) (fun _ s'=>∃σ' H',Inv X pins σ' H' s'∧Q σ' H') X.xe s
def PGs(X:Cx)(ts:List Expr)(t:TGs):Prop:=
 ∀(pins:List (Addr × Obj)) (s:Shared) (σ:St) (H:Hp) (vs:List V) (us:List Value) (Q:St→Hp→Prop),Inv X pins σ H s→Vals vs us→t vs σ H Q →
  wpAny (model X.prog X.w) X.A (assignInOrder ((assignEach ts X.env).map (·.2)) us) (fun _ s'=>∃σ' H',Inv X pins σ' H' s'∧Q σ' H') X.xe s
noncomputable abbrev d7:=V→V→V→Hp→(Hp→Prop)→Prop
def ZQ(X:Cx)(t:d7):Prop:=
 ∀(pins:List (Addr × Obj)) (s:Shared) (σ:St) (H:Hp) (o i v:V) (ov iv u:Value) (Q:Hp→Prop),Inv X pins σ H s→RelV o ov→RelV i iv→RelV v u→t o i v H Q →
  wpAny (model X.prog X.w) X.A (setItem ov iv u) (fun _ s'=>∃H',Inv X pins σ H' s'∧Q H') X.xe s
noncomputable abbrev TIp:=V→V→Hp→VK→Prop
def PIp(X:Cx)(op:Operator)(t:TIp):Prop:=
 ∀(pins:List (Addr × Obj)) (s:Shared) (σ:St) (H:Hp) (x y:V) (v u:Value) (Q:VK),Inv X pins σ H s→RelV x v→RelV y u→t x y H Q →
  wpAny (model X.prog X.w) X.A (inplaceOp op v u) (EP X pins σ Q) X.xe s
section
variable {X:Cx}{pos:Pos}
noncomputable def wJ(i:Nat):TG:=fun v σ H Q=>Q (σ.set i (some v)) H
theorem fg{i:Nat}{x:Str}(hN:X.N.Nodup)(hi:X.N[i]?=some x)(hx:Loc X.env.scope x)(hf:X.fn x=true∨X.env.scope.names.lookup x=some .local:=by first|exact .inl rfl|exact .inr rfl|assumption):PG X (.Name x pos) (wJ i):=by
 intro pins s σ H v u Q I r h
 exact wpAny_assign_Name (y7 I hN hi hx r (fun s' I'=>⟨_,H,I',h⟩) hf)
noncomputable def Za:TGs:=fun vs σ H Q=>vs=[]∧Q σ H
noncomputable def dD(t:TG)(u:TGs):TGs:=fun vs σ H Q=>∃v r,vs=v::r∧t v σ H fun σ' H'=>u r σ' H' Q
theorem fh:PGs X [] Za:=by
 intro pins s σ H vs us Q I r h
 obtain⟨e,h⟩:=h
 subst e
 cases r
 exact assignInOrder_nil ⟨σ,H,I,h⟩
theorem j6{e:Expr}{es:List Expr}{t:TG}{u:TGs}(h1:PG X e t)(h2:PGs X es u)
 (hs:(assignEach (e::es) X.env).map (·.2)=assign e X.env::(assignEach es X.env).map (·.2):=by rfl):PGs X (e::es) (dD t u):=by
 intro pins s σ H vs us Q I r h
 obtain⟨v,vr,e1,h⟩:=h
 subst e1
 cases r with
 |cons r rr=>
  rw[hs]
  refine assignInOrder_cons (thn (h1 pins s σ H _ _ _ I r h) fun _ s1 ⟨σ1,H1,I1,q1⟩=>?_)
  exact h2 pins s1 σ1 H1 _ _ Q I1 rr q1
noncomputable def Zc(K:PySem.W.Frag)(n:Nat)(t:TGs):TG:=fun v σ H Q=>∃a xs,v=.ref a∧SqT K H a xs∧xs.length=n∧t xs σ H Q
theorem vK{es:List Expr}{k:Nat}{t:TGs}{n:Nat}(hc:X.calm=true)(h:PGs X es t)
 (hn:(assignEach es X.env).length=n:=by rfl) (hst:(assignEach es X.env).findIdx? (·.1)=none:=by rfl):PG X (.Tuple es k pos) (Zc X.K n t):=by
 intro pins s σ H v u Q I r hw
 obtain⟨a,xs,e1,hq,hl,hw⟩:=hw
 subst e1
 cases r
 obtain⟨its,rv,ht,hz⟩:=I.tuple hq
 refine assign_Tuple_tuple (I.ok.hd hc) ht (by simp[hn,←hl,rv.length]) hst fun h' hx=>?_
 have I1:Inv X pins σ H {s with heap:=h'}:=I.kept (t':=s.toks) fun b o e=>hx b o (Nat.ne_of_lt (Heap.lt_size e)) e
 exact h pins _ σ H xs _ Q I1 (by simpa using rv) hw
noncomputable def Zb(to ti:TE)(t:d7):TG:=fun v σ H Q=>to σ H fun o H1=>ti σ H1 fun i H2=>t o i v H2 fun H3=>Q σ H3
theorem af{o i:Expr}{to ti:TE}{t:d7}(ho:PE X o to)(hi:PE X i ti)(hs:ZQ X t)
 (ha:∀v,assign (.Subscript o i pos) X.env v=(do
  let ov ←holding [v] (eval o X.env)
  let iv ←holding [v,ov] (eval i X.env)
  standAt pos
  holding [v,ov,iv] (setItem ov iv v)
  release [v,ov,iv] []):=by intro _;rfl):PG X (.Subscript o i pos) (Zb to ti t):=by
 intro pins s σ H v u Q I r h
 rw[ha]
 refine wpAny_bind (wpAny_holding (thn (ho pins s σ H _ I h) fun ov s1 ⟨x,H1,I1,r1,q1⟩=>?_))
 refine wpAny_bind (wpAny_holding (thn (hi pins s1 σ H1 _ I1 q1) fun iv s2 ⟨y,H2,I2,r2,q2⟩=>?_))
 refine wpAny_bind (wpAny_standAt (wpAny_bind (wpAny_holding (thn (hs pins s2 σ H2 x y v ov iv u _ I2 r1 r2 r q2) fun _ s3 ⟨H3,I3,q3⟩=>?_))))
 exact wpAny_release ⟨σ,H3,I3,q3⟩
noncomputable def sW(te:TE)(g:TG):TS:=fun D σ H=>te σ H fun x H1=>g x σ H1 D.nx
theorem oi{tg e:Expr}{te:TE}{g:TG}(he:PE X e te)(hg:PG X tg g)(hs:swapsWithSole [tg] e pos.line X.env=pure false:=by rfl)(hw:swappedStores [tg] e X.env=pure none:=by rfl)
 (h1:(assignEach [tg] X.env).map (·.2)=[assign tg X.env]:=by rfl):PS X (.Assign [tg] e pos) (sW te g):=by
 intro pins s σ H D I h
 refine wpAny_Assign_stores (thn (he pins s σ H _ I h) fun v s1 ⟨x,H1,I1,r1,q1⟩=>?_) hs hw
 rw[h1]
 exact thn (hg pins s1 σ H1 x v _ I1 r1 q1) fun _ s2 q=>q
theorem oj{i:Nat}{x:Str}{e:Expr}{te:TE}{pos':Pos}(hN:X.N.Nodup)(hi:X.N[i]?=some x)(hx:Loc X.env.scope x)(he:PE X e te)(hs:swapsWith e (some (.Name x pos')) pos.line X.env=pure false:=by rfl)(hf:X.fn x=true∨X.env.scope.names.lookup x=some .local:=by first|exact .inl rfl|exact .inr rfl|assumption) :
 PS X (.Assign [.Name x pos'] e pos) (sW te (wJ i)):=by
 intro pins s σ H D I h
 refine wpAny_Assign_Name (thn (he pins s σ H _ I h) fun v s1 ⟨y,H1,I1,r1,q1⟩=>?_) hs
 exact y7 I1 hN hi hx r1 (fun s2 I2=>⟨_,H1,I2,q1⟩) hf
noncomputable def Yw(i j:Nat)(ta:TA):TS:=fun D σ H=>ta σ H fun vs H1=>∃v w,vs=[v,w]∧D.nx ((σ.set i (some v)).set j (some w)) H1
theorem ai{i j:Nat}{x y:Str}{a b:Expr}{ta:TA}{px py pt:Pos}{kt k2 pt2}(hc:X.calm=true)(hN:X.N.Nodup)(hi:X.N[i]?=some x)(hj:X.N[j]?=some y)(hij:i≠j)
 (hx:X.env.scope.names.lookup x=some .local) (hy:X.env.scope.names.lookup y=some .local) (ha:PA X [a,b] ta)
 (hw:swappedStores [.Tuple [.Name x px,.Name y py] kt pt] (.Tuple [a,b] k2 pt2) X.env=pure (some [x,y]))
 (hs:swapsWithSole [.Tuple [.Name x px,.Name y py] kt pt] (.Tuple [a,b] k2 pt2) pos.line X.env=pure false:=by rfl) :
 PS X (.Assign [.Tuple [.Name x px,.Name y py] kt pt] (.Tuple [a,b] k2 pt2) pos) (Yw i j ta):=by
 intro pins s σ H D I h
 rw[exec_Assign_arm]
 refine wpAny_bind (wpAny_standAt ?_)
 rw[hs]
 refine wpAny_bind (wpAny_pure ?_)
 rw[if_neg (by decide)]
 refine wpAny_bind (Tuple_ (thn (ha _ pins s σ H _ I h) fun us s1 ⟨vs,H1,I1,r1,q1⟩=>?_))
 obtain⟨v,w,e1,q1⟩:=q1
 subst e1
 obtain⟨u1,u2,rfl,rv,rw'⟩:∃u1 u2,us=[u1,u2]∧RelV v u1∧RelV w u2:=by
  cases r1 with
  |cons p q=>
   cases q with
   |cons p' q'=>
    cases q'
    exact⟨_,_,rfl,p,p'⟩
 refine wpAny_newObj_type ?_ (by show 2≤sizeLine;decide)
 have I2:Inv X pins σ H1 {s1 with heap:=s1.heap.push {cls:=.type "tuple",data:=.seq [u1,u2].toArray}}:=I1.kept (t':=s1.toks) fun b o e=>Heap.get?_push_of_some _ e
 rw[hw]
 refine wpAny_bind (wpAny_pure ?_)
 show wpAny (model X.prog X.w) X.A (do rule "assign.swapped-stores";let items ←unpackItems (.ref s1.heap.objs.size) 2 none;assignInOrder [fun v=>bindName X.env y v,fun v=>bindName X.env x v] items.reverse;pure Flow.next) _ _ _
 refine wpAny_bind (wpAny_rule (wpAny_bind (unpackItems_tuple (items:=#[u1,u2]) (I.ok.hd hc) (IsTup.new s1.heap _) fun h' hx'=>?_)))
 have I3:=I2.kept (h':=h') (t':=s1.toks) fun b o e=>hx' b o (Nat.ne_of_lt (Heap.lt_size e)) e
 show wpAny _ _ (assignInOrder [fun v=>bindName X.env y v,fun v=>bindName X.env x v] [u2,u1] >>= fun _=>pure Flow.next) _ _ _
 refine wpAny_bind (assignInOrder_cons (wpAny_bindName (y7 I3 hN hj (.inl hy) rw' (fun s2 I4=>?_) (.inr hy))))
 refine assignInOrder_cons (wpAny_bindName (y7 I4 hN hi (.inl hx) rv (fun s3 I5=>assignInOrder_nil (wpAny_pure ?_)) (.inr hx)))
 rw[List.set_comm _ _ (Ne.symm hij)]at I5
 exact⟨_,H1,I5,q1⟩
noncomputable def XW(i:Nat)(te:TE)(ti:TIp):TS:=fun D σ H=>∃x,σ[i]?=some (some x)∧te σ H fun y H1=>ti x y H1 fun z H2=>D.nx (σ.set i (some z)) H2
theorem iB{i:Nat}{x:Str}{e:Expr}{te:TE}{op:Operator}{ti:TIp}{pos':Pos}(hN:X.N.Nodup)(hi:X.N[i]?=some x)(hx:Loc X.env.scope x)(he:PE X e te)(ho:PIp X op ti)(hf:X.fn x=true∨X.env.scope.names.lookup x=some .local:=by first|exact .inl rfl|exact .inr rfl|assumption) :
 PS X (.AugAssign (.Name x pos') op e pos) (XW i te ti):=by
 intro pins s σ H D I h
 obtain⟨v,e1,h⟩:=h
 obtain⟨m,hn,hl⟩:=I.loc
 have vis:Vis X.env.scope x:=by rcases hx with k|k;exact .inl k;exact .inr (.inl k)
 obtain⟨u,r,l⟩:=hl i x v hi e1 vis
 refine wpAny_AugAssign_Name ?_
 have go:wpAny (model X.prog X.w) X.A (eval e X.env) (fun w s₂=>wpAny (model X.prog X.w) X.A (inplaceOp op u w) (fun r s₃=>wpAny (model X.prog X.w) X.A (storeName X.env x r) (fun _=>SP X pins D .next) X.xe s₃) X.xe s₂) X.xe s:=by
  refine thn (he pins s σ H _ I h) fun w s1 ⟨y,H1,I1,r1,q1⟩=>?_
  refine thn (ho pins s1 σ H1 v y u w _ I1 r r1 q1) fun z s2 ⟨zv,H2,I2,r2,q2⟩=>?_
  exact y7 I2 hN hi hx r2 (fun s3 I3=>⟨_,H2,I3,q2⟩) hf
 rcases l with⟨hk,hm⟩|⟨hk,c,hc,hcell⟩
 . exact wpAny_loadName_local I.ok.kind hk hn hm go
 . rcases hk with hk|hk
   . exact wpAny_loadName_cell I.ok.kind hk hc hcell go
   . rcases hx with k|k
     . have:X.env.scope.names.lookup x=some .free:=hk
       rw[k]at this;cases this
     . have:X.env.scope.names.lookup x=some .free:=hk
       rw[k]at this;cases this
end
section
variable {X:Cx}{pos:Pos}
noncomputable def iw(c:TT)(tb:TS):TS:=fun D σ H=>∃W:Nat→St→Hp→Prop,(∃m,W m σ H)∧∀m σ H,W m σ H →
 c σ H fun b H1=>if b=true then ∃N:St→Hp→Prop,(∀σ' H',N σ' H'→∃m',m'<m∧W m' σ' H')∧tb {D with nx:=N,ct:=N,bk:=D.nx} σ H1 else D.nx σ H1
theorem iD{c:Expr}{body:List Stmt}{tc:TT}{tb:TS}(hp:PassesOwn (model X.prog X.w) X.A X.env X.xe)(hc:PT X c tc)(hb:PSs X body tb):PS X (.While c body [] pos) (iw tc tb):=by
 intro pins s σ H D I h
 obtain⟨W,⟨m0,w0⟩,turn⟩:=h
 refine wpAny_While (codeAny_whileLoop (fun n s'=>∃σ' H',Inv X pins σ' H' s'∧W n σ' H') ?_ m0 ⟨σ,H,I,w0⟩)
 rintro n s1 ⟨σ1,H1,I1,w1⟩
 refine wpAny_passesOwn hp (thn (hc pins s1 σ1 H1 _ I1 (turn n σ1 H1 w1)) fun b s2 ⟨H2,I2,q2⟩=>?_)
 cases b with
 |true=>
  obtain⟨N,hN,q2⟩:=q2
  rw[if_pos rfl]
  refine wpAny_passesOwn hp (thn (hb pins s2 σ1 H2 _ I2 q2) fun f s3 q3=>?_)
  cases f with
  |next=>
   obtain⟨σ3,H3,I3,n3⟩:=q3
   obtain⟨m',hm,w3⟩:=hN σ3 H3 n3
   exact⟨m',hm,σ3,H3,I3,w3⟩
  |cont=>
   obtain⟨σ3,H3,I3,n3⟩:=q3
   obtain⟨m',hm,w3⟩:=hN σ3 H3 n3
   exact⟨m',hm,σ3,H3,I3,w3⟩
  |brk=>exact q3
  |ret v=>exact q3
 |false=>
  rw[if_neg Bool.false_ne_true]
  exact wpAny_execs_nil ⟨σ1,H2,I2,q2⟩
end
structure It where
 go:Nat→Hp→Prop
 yld:Nat→Hp→V→Hp→Prop
 stop:Nat→Hp→Prop
def wk(X:Cx)(pins:List (Addr × Obj))(H:Hp)(b:Addr):Prop:=
 H b=none∧b≠X.env.locals∧b ∉ X.fs∧(b∈X.ex∨X.s₀.heap.objs.size≤b)∧(∀x c,X.env.cells.lookup x=some c→c≠b)∧∀p∈X.pn++pins,p.1≠b
theorem Inv.gQ{X:Cx}{pins:List (Addr × Obj)}{σ:St}{H H':Hp}{s:Shared}{b:Addr}(I:Inv X pins σ H s)(hb:s.heap.objs.size≤b)(hn:H' b=none):wk X pins H' b:=by
 refine⟨hn,Nat.ne_of_gt (Nat.lt_of_lt_of_le I.lt hb),I.XG hb,.inr (Nat.le_trans I.sz hb),fun x c e z=>?_,fun p hp z=>?_⟩
 . obtain⟨v,q⟩:=I.cell x c e
   exact absurd (Nat.lt_of_lt_of_le q.lt (by rw[z];exact hb)) (Nat.lt_irrefl _)
 . exact absurd (Nat.lt_of_lt_of_le (Heap.lt_size (I.pin p hp).1) (by rw[z];exact hb)) (Nat.lt_irrefl _)
structure Turn(P:Program)(w:World)(K:PySem.W.Frag)(tg:Expr)(J:It)(fp:List Addr)(it:Addr)(tn:Nat→Heap→Prop):Prop where
 mem:it∈fp
 obj:∀i h,tn i h→∀b∈fp,∃o,h.get? b=some o∧∀v,o.data≠.cell v
 keep:∀i h h',tn i h→(∀b∈fp,∀o,h.get? b=some o→h'.get? b=some o)→tn i h'
 item:∀(X:Cx),X.prog=P→X.w=w→X.K=K→X.calm=true→∀(i:Nat) (pins:List (Addr × Obj)) (s:Shared) (σ:St) (H:Hp) (E:Value→Shared→Prop),Inv X pins σ H s→(∀b∈fp,wk X pins H b)→tn i s.heap→J.go i H →
  wpAny (model P w) X.A (pyNext (.ref it)) (fun r s1=>∃u,r=some u ∧
   wpAny (model P w) X.A (letOwnedTupleGo tg (.ref it) u) (fun _ s2=>∃x H',Inv X pins σ H' s2∧RelV x u∧J.yld i H x H'∧tn (i+1) s2.heap∧∀b∈fp,H' b=none) E s1) E s
 done:∀(X:Cx),X.prog=P→X.w=w→X.K=K→X.calm=true→∀(i:Nat) (pins:List (Addr × Obj)) (s:Shared) (σ:St) (H:Hp) (E:Value→Shared→Prop),Inv X pins σ H s→(∀b∈fp,wk X pins H b)→tn i s.heap→J.stop i H →
  wpAny (model P w) X.A (pyNext (.ref it)) (fun r s1=>r=none∧Inv X pins σ H s1) E s
 self:∀(A:Around) (i:Nat) (s:Shared) (Q:Value→Shared→Prop) (E:Value→Shared→Prop),tn i s.heap→Q (.ref it) s→wpAny (model P w) A (pyIter (.ref it)) Q E s
noncomputable abbrev TI:=St→Hp→(It→Hp→Prop)→Prop
def PIE(X:Cx)(pins:List (Addr × Obj))(σ:St)(tg:Expr)(R:It→Hp→Prop)(itv:Value)(s2:Shared):Prop:=
 ∃(it:Addr) (fp:List Addr) (tn:Nat→Heap→Prop) (J:It) (H':Hp),itv=.ref it∧Inv X pins σ H' s2∧Turn X.prog X.w X.K tg J fp it tn∧tn 0 s2.heap∧(∀b∈fp,wk X pins H' b)∧R J H'
def PI(X:Cx)(tg iter:Expr)(wi:TI):Prop:=
 ∀(pins:List (Addr × Obj)) (s:Shared) (σ:St) (H:Hp) (R:It→Hp→Prop),Inv X pins σ H s→wi σ H R →
  wpAny (model X.prog X.w) X.A (eval iter X.env) (fun v s1=>wpAny (model X.prog X.w) X.A (pyIter v) (PIE X pins σ tg R) X.xe s1) X.xe s
theorem kW{M:Model}{A:Around}{E:Value→Shared→Prop}{s:Shared}{tg:Expr}{it:Addr}{u:Value}{o:Obj}{n:String}{vs:Array Value}{Q:Unit→Shared→Prop}(ho:s.heap.get? it=some o)(hc:o.cls=.type n)(hd:o.data=.fields vs)
 (hn:["enumerate","zip","dict_itemiterator","dict_reverseitemiterator","odict_iterator","itertools.zip_longest","itertools.pairwise"].contains n=false) (hQ:Q () s):wpAny M A (letOwnedTupleGo tg (.ref it) u) Q E s:=by
 unfold letOwnedTupleGo
 cases tg<;>first
  |exact wpAny_pure hQ
  |(cases u<;>first
   |exact wpAny_pure hQ
   |(refine wpAny_bind (wpAny_load ho ?_)
     rw[hc,hd]
     show wpAny M A (if (["enumerate","zip","dict_itemiterator","dict_reverseitemiterator","odict_iterator","itertools.zip_longest","itertools.pairwise"].contains n&&vs[0]? == some (rawInt _))=true then _ else _) Q E s
     rw[if_neg (by intro h;rw[hn,Bool.false_and]at h;cases h)]
     exact wpAny_pure hQ))
noncomputable def Itl(K:PySem.W.Frag)(a:Addr):It:=
 ⟨fun i H=>∃xs x,SqL K H a xs∧xs[i]?=some x,fun i H x H'=>H'=H∧∀xs,SqL K H a xs→xs[i]?=some x,fun i H=>∃xs,SqL K H a xs∧xs.length≤i⟩
noncomputable def Itt(K:PySem.W.Frag)(a:Addr):It:=
 ⟨fun i H=>∃xs x,SqT K H a xs∧xs[i]?=some x,fun i H x H'=>H'=H∧∀xs,SqT K H a xs→xs[i]?=some x,fun i H=>∃xs,SqT K H a xs∧xs.length≤i⟩
noncomputable def Itr(lo:Int)(n:Nat):It:=⟨fun i _=>i<n,fun i H x H'=>H'=H∧x=.int (lo+i),fun i _=>n≤i⟩
theorem lX{P:Program}{w:World}{K:PySem.W.Frag}{tg:Expr}(a it:Addr):Turn P w K tg (Itl K a) [it] it (fun i h=>h.IsListIter it a i) where
 mem:=by simp
 obj:=fun i h st b hb=>by
  have e:b=it:=by simpa using hb
  subst e
  obtain⟨o,e,c,d⟩:=st
  exact⟨o,e,fun v z=>by rw[d]at z;cases z⟩
 keep:=fun i h h' st k=>st.at fun o e=>k it (by simp) o e
 item:=by
  intro X hP hw hK hc i pins s σ H E I hf st hg
  subst hP hw hK
  obtain⟨xs,x,hq,hx⟩:=hg
  obtain⟨its,rv,p,hz⟩:=I.list hq
  obtain⟨u,hu,ru⟩:=rv.get hx
  obtain⟨f0,f1,f2,f3,f4,f5⟩:=hf it (by simp)
  refine wpAny_pyNext_list_item st p.isList (x:=u) (by simpa using hu) fun h' st' sb=>?_
  have I1:Inv X pins σ H {s with heap:=h'}:=I.turned (t':=s.toks) (fun b o hb e=>(sb.2 b hb).trans e) f0 f1 f3 f4 f5
  obtain⟨o,e,c,d⟩:=id st'
  exact⟨u,rfl,kW (s:={s with heap:=h'}) e c d (by decide) ⟨x,H,I1,ru,⟨rfl,fun ys hy=>by rw[I.qw hy hq];exact hx⟩,st',fun b hb=>(hf b hb).1⟩⟩
 done:=by
  intro X hP hw hK hc i pins s σ H E I hf st hg
  subst hP hw hK
  obtain⟨xs,hq,hx⟩:=hg
  obtain⟨its,rv,p,hz⟩:=I.list hq
  obtain⟨f0,f1,f2,f3,f4,f5⟩:=hf it (by simp)
  have hl:=rv.length
  exact wpAny_pyNext_list_end (I.ok.hd hc) st p.isList (by simp;omega) fun h' eb=>⟨rfl,I.turned (t':=s.toks) (fun b o hb e=>eb b o hb e) f0 f1 f3 f4 f5⟩
 self:=fun _ _ _ _ _ st h=>wpAny_pyIter_listiter st h
theorem nJ{P:Program}{w:World}{K:PySem.W.Frag}{tg:Expr}(a it:Addr):Turn P w K tg (Itt K a) [it] it (fun i h=>h.IsTupleIter it a i) where
 mem:=by simp
 obj:=fun i h st b hb=>by
  have e:b=it:=by simpa using hb
  subst e
  obtain⟨o,e,c,d⟩:=st
  exact⟨o,e,fun v z=>by rw[d]at z;cases z⟩
 keep:=fun i h h' st k=>st.at fun o e=>k it (by simp) o e
 item:=by
  intro X hP hw hK hc i pins s σ H E I hf st hg
  subst hP hw hK
  obtain⟨xs,x,hq,hx⟩:=hg
  obtain⟨its,rv,p,hz⟩:=I.tuple hq
  obtain⟨u,hu,ru⟩:=rv.get hx
  obtain⟨f0,f1,f2,f3,f4,f5⟩:=hf it (by simp)
  refine wpAny_pyNext_tuple_item st (show s.heap.IsTuple a its.toArray from p) (x:=u) (by simpa using hu) fun h' st' sb=>?_
  have I1:Inv X pins σ H {s with heap:=h'}:=I.turned (t':=s.toks) (fun b o hb e=>(sb.2 b hb).trans e) f0 f1 f3 f4 f5
  obtain⟨o,e,c,d⟩:=id st'
  exact⟨u,rfl,kW (s:={s with heap:=h'}) e c d (by decide) ⟨x,H,I1,ru,⟨rfl,fun ys hy=>by rw[I.rQ hy hq];exact hx⟩,st',fun b hb=>(hf b hb).1⟩⟩
 done:=by
  intro X hP hw hK hc i pins s σ H E I hf st hg
  subst hP hw hK
  obtain⟨xs,hq,hx⟩:=hg
  obtain⟨its,rv,p,hz⟩:=I.tuple hq
  obtain⟨f0,f1,f2,f3,f4,f5⟩:=hf it (by simp)
  have hl:=rv.length
  exact wpAny_pyNext_tuple_end (I.ok.hd hc) st (show s.heap.IsTuple a its.toArray from p) (by simp;omega) fun h' eb=>⟨rfl,I.turned (t':=s.toks) (fun b o hb e=>eb b o hb e) f0 f1 f3 f4 f5⟩
 self:=fun _ _ _ _ _ st h=>wpAny_pyIter_tupleiter st h
theorem nI{P:Program}{w:World}{K:PySem.W.Frag}{tg:Expr}(it:Addr)(lo:Int)(n:Nat):Turn P w K tg (Itr lo n) [it] it (fun i h=>IsRangeIter h it (lo+(i:Nat)*1) ((n:Int)-(i:Nat)) 1) where
 mem:=by simp
 obj:=fun i h st b hb=>by
  have e:b=it:=by simpa using hb
  subst e
  exact⟨_,st,fun v z=>by
   have z':Data.fields _=Data.cell v:=z
   cases z'⟩
 keep:=fun i h h' st k=>k it (by simp) _ st
 item:=by
  intro X hP hw hK hc i pins s σ H E I hf st hg
  subst hP hw hK
  obtain⟨f0,f1,f2,f3,f4,f5⟩:=hf it (by simp)
  have W:=Walks.range (prog:=X.prog) (w:=X.w) (I.ok.hd hc) it lo 1 n
  refine W.item i s _ _ hg st fun v h' tk hv st' kk=>?_
  obtain⟨t,rfl⟩:=hv
  have I1:Inv X pins σ H {s with heap:=h',toks:=tk}:=I.turned (fun b o hb e=>kk b o (by simpa using hb) e) f0 f1 f3 f4 f5
  refine⟨_,rfl,kW (s:={s with heap:=h',toks:=tk}) (n:="range_iterator") st' rfl rfl (by decide) ⟨.int (lo+i),H,I1,⟨t,?_⟩,⟨rfl,rfl⟩,st',fun b hb=>(hf b hb).1⟩⟩
  rw[Int.mul_one]
 done:=by
  intro X hP hw hK hc i pins s σ H E I hf st hg
  subst hP hw hK
  obtain⟨f0,f1,f2,f3,f4,f5⟩:=hf it (by simp)
  exact wpAny_pyNext_range_end (I.ok.hd hc) st (by have:n≤i:=hg;omega) fun h' eb=>⟨rfl,I.turned (t':=s.toks) (fun b o hb e=>eb b o hb e) f0 f1 f3 f4 f5⟩
 self:=fun _ _ _ _ _ st h=>wpAny_pyIter_rangeiter st h
end L2
namespace L2
open PySem PySem.Spec PyProof.Rows
section
variable {X:Cx}{tg:Expr}
noncomputable def Zf(K:PySem.W.Frag)(tl:TE):TI:=fun σ H R=>tl σ H fun x H1=>∃a,x=.ref a∧(∃xs,SqL K H1 a xs)∧R (Itl K a) H1
noncomputable def XD(K:PySem.W.Frag)(tl:TE):TI:=fun σ H R=>tl σ H fun x H1=>∃a,x=.ref a∧(∃xs,SqT K H1 a xs)∧R (Itt K a) H1
theorem mB{l:Expr}{tl:TE}(hl:PE X l tl):PI X tg l (Zf X.K tl):=by
 intro pins s σ H R I h
 refine thn (hl pins s σ H _ I h) fun v s1 ⟨x,H1,I1,r1,q1⟩=>?_
 obtain⟨a,e,⟨xs,hq⟩,q⟩:=q1
 subst e
 cases r1
 obtain⟨its,rv,p,hz⟩:=I1.list hq
 refine wpAny_pyIter_list p.isList ?_
 refine⟨s1.heap.objs.size,[s1.heap.objs.size],_,_,H1,rfl,I1.kept (t':=s1.toks) fun b o e=>Heap.get?_push_of_some _ e,lX a _,⟨_,Heap.get?_push_size _ rfl,rfl,rfl⟩,fun b hb=>?_,q⟩
 have e:b=s1.heap.objs.size:=by simpa using hb
 subst e
 exact I1.gQ (Nat.le_refl _) (I1.hok.fresh (Nat.le_refl _))
theorem j7{l:Expr}{tl:TE}(hl:PE X l tl):PI X tg l (XD X.K tl):=by
 intro pins s σ H R I h
 refine thn (hl pins s σ H _ I h) fun v s1 ⟨x,H1,I1,r1,q1⟩=>?_
 obtain⟨a,e,⟨xs,hq⟩,q⟩:=q1
 subst e
 cases r1
 obtain⟨its,rv,p,hz⟩:=I1.tuple hq
 refine wpAny_pyIter_tuple (show s1.heap.IsTuple a its.toArray from p) ?_
 refine⟨s1.heap.objs.size,[s1.heap.objs.size],_,_,H1,rfl,I1.kept (t':=s1.toks) fun b o e=>Heap.get?_push_of_some _ e,nJ a _,⟨_,Heap.get?_push_size _ rfl,rfl,rfl⟩,fun b hb=>?_,q⟩
 have e:b=s1.heap.objs.size:=by simpa using hb
 subst e
 exact I1.gQ (Nat.le_refl _) (I1.hok.fresh (Nat.le_refl _))
theorem pT{pins:List (Addr × Obj)}{σ:St}{H:Hp}{s:Shared}{R:It→Hp→Prop}{E:Value→Shared→Prop}{lo hi:Int}{t u v:Tok}{tk:Nat}(I:Inv X pins σ H s)(h1:-(2 ^ 62)≤lo)(h2:lo<2 ^ 62)(h3:-(2 ^ 62)≤hi)(h4:hi<2 ^ 62)
 (q:R (Itr lo (hi-lo).toNat) H):wpAny (model X.prog X.w) X.A (pyIter (.ref s.heap.objs.size)) (PIE X pins σ tg R) E {s with heap:=s.heap.push {cls:=.type "range",data:=.fields #[.int lo t,.int hi u,.int 1 v]},toks:=tk}:=by
 refine wpAny_pyIter_range (IsRange.new ..) (small_one h1 h2 h3 h4) ?_
 have I1:Inv X pins σ H {s with heap:=s.heap.push {cls:=.type "range",data:=.fields #[.int lo t,.int hi u,.int 1 v]},toks:=tk}:=I.kept fun b o e=>Heap.get?_push_of_some _ e
 refine⟨(s.heap.push {cls:=.type "range",data:=.fields #[.int lo t,.int hi u,.int 1 v]}).objs.size,[(s.heap.push {cls:=.type "range",data:=.fields #[.int lo t,.int hi u,.int 1 v]}).objs.size],_,_,H,rfl,
  I1.kept (t':=tk) fun b o e=>Heap.get?_push_of_some _ e,nI _ lo (hi-lo).toNat,?_,fun b hb=>?_,q⟩
 . have e1:lo+((0:Nat):Int)*1=lo:=by simp
   have e2:(((hi-lo).toNat:Nat):Int)-((0:Nat):Int)=Builtin.Range.rangeSize lo hi 1:=by rw[rangeSize_one];split<;>omega
   show IsRangeIter _ _ (lo+((0:Nat):Int)*1) ((((hi-lo).toNat:Nat):Int)-((0:Nat):Int)) 1
   rw[e1,e2]
   exact Heap.get?_push_size _ rfl
 . have e:b=(s.heap.push {cls:=.type "range",data:=.fields #[.int lo t,.int hi u,.int 1 v]}).objs.size:=by simpa using hb
   subst e
   exact I1.gQ (Nat.le_refl _) (I1.hok.fresh (Nat.le_refl _))
noncomputable def Zg(ta:TA):TI:=fun σ H R=>ta σ H fun vs H1=>∃j:Int,vs=[.int j]∧-(2 ^ 62)≤j∧j<2 ^ 62∧R (Itr 0 j.toNat) H1
noncomputable def Zh(ta:TA):TI:=fun σ H R=>ta σ H fun vs H1=>∃i j:Int,vs=[.int i,.int j]∧(-(2 ^ 62)≤i∧i<2 ^ 62∧-(2 ^ 62)≤j∧j<2 ^ 62)∧R (Itr i (j-i).toNat) H1
theorem lH{a:Expr}{ta:TA}{p pos:Pos}(hg:Gl X "range")(hm:X.mg "range"=none)(ha:PA X [a] ta)(hs:starEach [a] X.env=[(false,eval a X.env)]:=by rfl):PI X tg (.Call (.Name "range" p) [a] [] pos) (Zg ta):=by
 intro pins s σ H R I h
 refine Call_ (xA I hg hm boot_range (PyProof.Rows.callWith_type1 (thn (ha pos pins s σ H _ I h) fun us s1 ⟨vs,H1,I1,r1,q1⟩=>?_) hs rfl))
 obtain⟨j,e,q1,q2,q⟩:=q1
 subst e
 cases r1 with
 |cons r rr=>
  cases rr
  obtain⟨t,rfl⟩:=r
  exact call_range_1 (pT I1 (by omega) (by omega) q1 q2 (by simpa using q))
theorem lI{a b:Expr}{ta:TA}{p pos:Pos}(hg:Gl X "range")(hm:X.mg "range"=none)(ha:PA X [a,b] ta)(hs:starEach [a,b] X.env=[(false,eval a X.env),(false,eval b X.env)]:=by rfl)(hs2:starEach [b] X.env=[(false,eval b X.env)]:=by rfl) :
 PI X tg (.Call (.Name "range" p) [a,b] [] pos) (Zh ta):=by
 intro pins s σ H R I h
 refine Call_ (xA I hg hm boot_range (PyProof.Rows.callWith_type1 (thn (ha pos pins s σ H _ I h) fun us s1 ⟨vs,H1,I1,r1,q1⟩=>?_) (by rw[hs,hs2]) (by rw[hs2];rfl)))
 obtain⟨i,j,e,⟨q1,q2,q3,q4⟩,q⟩:=q1
 subst e
 cases r1 with
 |cons r rr=>
  cases rr with
  |cons r' rr=>
   cases rr
   obtain⟨t,rfl⟩:=r
   obtain⟨t',rfl⟩:=r'
   exact call_range_2 (pT I1 q1 q2 q3 q4 q)
noncomputable def XX(wi:TI)(g:TG)(tb:TS):TS:=fun D σ H=>wi σ H fun J H1=>∃W:Nat→Nat→St→Hp→Prop,(∃m,W 0 m σ H1)∧∀i m σ H,W i m σ H →
 (J.stop i H∧D.nx σ H)∨(J.go i H∧∃N:St→Hp→Prop,(∀σ' H',N σ' H'→∃m',m'<m∧W (i+1) m' σ' H')∧∀x H',J.yld i H x H'→g x σ H' fun σ2 H2=>tb {D with nx:=N,ct:=N,bk:=D.nx} σ2 H2)
noncomputable def tQ(fp:List Addr)(h:Heap):List (Addr × Obj):=fp.filterMap fun b=>(h.get? b).map fun o=>(b,o)
theorem xw{fp:List Addr}{h:Heap}{b:Addr}{o:Obj}(hb:b∈fp)(e:h.get? b=some o):(b,o)∈tQ fp h:=List.mem_filterMap.mpr ⟨b,hb,by rw[e];rfl⟩
theorem m3{fp:List Addr}{h:Heap}{p:Addr × Obj}(hp:p∈tQ fp h):p.1∈fp∧h.get? p.1=some p.2:=by
 obtain⟨b,hb,e⟩:=List.mem_filterMap.mp hp
 cases q:h.get? b with
 |none=>rw[q]at e;cases e
 |some o=>
  rw[q]at e
  have e':(b,o)=p:=Option.some.inj e
  subst e'
  exact⟨hb,q⟩
theorem Inv.pinned{pins:List (Addr × Obj)}{σ:St}{H:Hp}{s:Shared}{fp:List Addr}(I:Inv X pins σ H s)(hf:∀b∈fp,wk X pins H b)(ho:∀b∈fp,∃o,s.heap.get? b=some o∧∀v,o.data≠.cell v):Inv X (pins++tQ fp s.heap) σ H s:=
 I.mC fun p hp=>(List.mem_append.mp hp).elim (fun z=>I.pin p (List.mem_append_right _ z)) fun z=>by
   obtain⟨hb,e⟩:=m3 z
   obtain⟨f0,f1,f2,_⟩:=hf p.1 hb
   obtain⟨o,e',d⟩:=ho p.1 hb
   rw[e]at e';cases e'
   exact⟨e,f0,f1,f2,d⟩
theorem Inv.vk{pins pl:List (Addr × Obj)}{σ:St}{H:Hp}{s:Shared}(I:Inv X (pins++pl) σ H s):Inv X pins σ H s:=I.mC fun p hp=>I.pin p (List.mem_append_right _ (List.mem_append_left _ hp))
theorem ah{iter:Expr}{body:List Stmt}{wi:TI}{g:TG}{tb:TS}{pos:Pos}(hp:PassesOwn (model X.prog X.w) X.A X.env X.xe)(hc:X.calm=true)(hi:PI X tg iter wi)(hg:PG X tg g)(hb:PSs X body tb)
 (hs:∀x,foldedSetIterable iter X.env x=pure x:=by intro _;rfl):PS X (.For tg iter body [] pos) (XX wi g tb):=by
 intro pins s σ H D I h
 refine wpAny_For (thn (hi pins s σ H _ I h) fun v s1 h1=>thn h1 fun itv s2 h2=>?_) hs
 obtain⟨it,fp,tn,J,H2,e,I2,T,st2,f2,W,⟨m0,w0⟩,turn⟩:=h2
 subst e
 -- what stays true of the iterator's objects through the loop
 have stat:∀{H':Hp},(∀b∈fp,H' b=none)→∀b∈fp,wk X pins H' b:=fun hn b hb=>⟨hn b hb,(f2 b hb).2⟩
 refine codeAny_forLoop_any (fun n s'=>∃i σ' H',Inv X pins σ' H' s'∧tn i s'.heap∧(∀b∈fp,H' b=none)∧W i n σ' H') ?_ m0 ⟨0,σ,H2,I2,st2,fun b hb=>(f2 b hb).1,w0⟩
 rintro n s3 ⟨i,σ3,H3,I3,st3,fr3,w3⟩
 rcases turn i n σ3 H3 w3 with⟨stop,qn⟩|⟨go,N,hN,step⟩
 . refine wpAny_passesOwn hp (thn (T.done X rfl rfl rfl hc i pins s3 σ3 H3 X.xe I3 (stat fr3) st3 stop) fun r s4 ⟨hr,I4⟩=>?_)
   subst hr
   exact wpAny_execs_nil ⟨σ3,H3,I4,qn⟩
 . refine wpAny_passesOwn hp (thn (T.item X rfl rfl rfl hc i pins s3 σ3 H3 X.xe I3 (stat fr3) st3 go) fun r s4 ⟨u,hr,h4⟩=>?_)
   subst hr
   refine wpAny_passesOwn hp (thn h4 fun _ s5 ⟨x,H5,I5,r5,y5,st5,fr5⟩=>?_)
   have I5':=I5.pinned (stat fr5) (T.obj _ _ st5)
   refine wpAny_passesOwn hp (thn (hg _ s5 σ3 H5 x u _ I5' r5 (step x H5 y5)) fun _ s6 ⟨σ6,H6,I6,q6⟩=>?_)
   refine wpAny_passesOwn hp (thn (hb _ s6 σ6 H6 _ I6 q6) fun f s7 q7=>?_)
   have again:∀{σ7:St} {H7:Hp},Inv X (pins++tQ fp s5.heap) σ7 H7 s7→N σ7 H7→∃m,m<n∧∃i σ' H',Inv X pins σ' H' s7∧tn i s7.heap∧(∀b∈fp,H' b=none)∧W i m σ' H':=fun{σ7 H7} I7 n7=>by
    obtain⟨m',hm,w7⟩:=hN σ7 H7 n7
    refine⟨m',hm,i+1,σ7,H7,I7.vk,T.keep _ _ _ st5 fun b hb o e=>(I7.pin (b,o) (List.mem_append_right _ (List.mem_append_right _ (xw hb e)))).1,fun b hb=>?_,w7⟩
    obtain⟨o,e,d⟩:=T.obj _ _ st5 b hb
    exact(I7.pin (b,o) (List.mem_append_right _ (List.mem_append_right _ (xw hb e)))).2.1
   cases f with
   |next=>obtain⟨σ7,H7,I7,n7⟩:=q7;exact again I7 n7
   |cont=>obtain⟨σ7,H7,I7,n7⟩:=q7;exact again I7 n7
   |brk=>obtain⟨σ7,H7,I7,q7⟩:=q7;exact⟨σ7,H7,I7.vk,q7⟩
   |ret v=>obtain⟨x7,σ7,H7,I7,r7,q7⟩:=q7;exact⟨x7,σ7,H7,I7.vk,r7,q7⟩
end
end L2
namespace L2
open PySem PySem.Spec PyProof.Rows
noncomputable abbrev R2:=V→V→Hp→VK→Prop
def OpR(X:Cx)(f:Value→Value→Sem Value)(r:R2):Prop:=
 ∀(pins:List (Addr × Obj)) (s:Shared) (σ:St) (H:Hp) (x y:V) (v u:Value) (Q:VK),Inv X pins σ H s→RelV x v→RelV y u→r x y H Q →
  wpAny (model X.prog X.w) X.A (f v u) (EP X pins σ Q) X.xe s
def UnR(X:Cx)(f:Value→Sem Value)(r:V→Hp→VK→Prop):Prop:=
 ∀(pins:List (Addr × Obj)) (s:Shared) (σ:St) (H:Hp) (x:V) (v:Value) (Q:VK),Inv X pins σ H s→RelV x v→r x H Q →
  wpAny (model X.prog X.w) X.A (f v) (EP X pins σ Q) X.xe s
def yN(X:Cx)(f:Value)(r:List V→Hp→VK→Prop):Prop:=
 ∀(pins:List (Addr × Obj)) (s:Shared) (σ:St) (H:Hp) (xs:List V) (us:List Value) (Q:VK),Inv X pins σ H s→Vals xs us→r xs H Q →
  wpAny (model X.prog X.w) X.A (call f us) (EP X pins σ Q) X.xe s
def Y8(X:Cx)(r:V→Hp→(Bool→Hp→Prop)→Prop):Prop:=
 ∀(pins:List (Addr × Obj)) (s:Shared) (σ:St) (H:Hp) (x:V) (v:Value) (Q:Bool→Hp→Prop),Inv X pins σ H s→RelV x v→r x H Q →
  wpAny (model X.prog X.w) X.A (truthy v) (TP X pins σ Q) X.xe s
noncomputable def tOp(r:R2)(ta tb:TE):TE:=fun σ H Q=>ta σ H fun x H1=>tb σ H1 fun y H2=>r x y H2 Q
noncomputable def tUn(r:V→Hp→VK→Prop)(ta:TE):TE:=fun σ H Q=>ta σ H fun x H1=>r x H1 Q
noncomputable def rI(C:Int→Int→Prop)(g:Int→Int→V):R2:=fun x y H Q=>∃i j,x=.int i∧y=.int j∧C i j∧Q (g i j) H
noncomputable def rI0(g:Int→Int→V):R2:=fun x y H Q=>∃i j,x=.int i∧y=.int j∧Q (g i j) H
noncomputable def rU(g:Int→V):V→Hp→VK→Prop:=fun x H Q=>∃i,x=.int i∧Q (g i) H
section
variable {X:Cx}{a b c:Expr}{ta tb tc:TE}{pos:Pos}
theorem cC(ha:PE X a ta)(hb:PE X b tb){pins:List (Addr × Obj)}{s:Shared}{σ:St}{H:Hp}{R:V→V→Hp→Prop}(I:Inv X pins σ H s)
 (h:ta σ H fun x H1=>tb σ H1 fun y H2=>R x y H2) {Q:Value→Shared→Prop} {f:Value→Value→Sem Value}
 (hf:∀v u s2 x y H2,Inv X pins σ H2 s2→RelV x v→RelV y u→R x y H2→wpAny (model X.prog X.w) X.A (f v u) Q X.xe s2) :
 wpAny (model X.prog X.w) X.A (eval a X.env) (fun v s₁=>wpAny (model X.prog X.w) X.A (eval b X.env) (fun u s₂=>wpAny (model X.prog X.w) X.A (f v u) Q X.xe s₂) X.xe s₁) X.xe s:=by
 refine thn (ha pins s σ H _ I h) fun v s1 ⟨x,H1,I1,r1,q1⟩=>?_
 refine thn (hb pins s1 σ H1 _ I1 q1) fun u s2 ⟨y,H2,I2,r2,q2⟩=>?_
 exact hf v u s2 x y H2 I2 r1 r2 q2
theorem YT{op:Operator}{r:R2}(ho:OpR X (binaryOp op) r)(ha:PE X a ta)(hb:PE X b tb):PE X (.BinOp a op b pos) (tOp r ta tb):=by
 intro pins s σ H Q I h
 exact wpAny_BinOp (cC ha hb I h fun v u s2 x y H2 I2 rx ry q=>ho pins s2 σ H2 x y v u Q I2 rx ry q)
theorem YV{op:UnaryOp}{r:V→Hp→VK→Prop}(ho:UnR X (unaryOp op) r)(ha:PE X a ta):PE X (.UnaryOp op a pos) (tUn r ta):=by
 intro pins s σ H Q I h
 exact UnaryOp_ (thn (ha pins s σ H _ I h) fun v s1 ⟨x,H1,I1,r1,q1⟩=>ho pins s1 σ H1 x v Q I1 r1 q1)
theorem opI{f:Value→Value→Sem Value}{C:Int→Int→Prop}{g:Int→Int→Int}
 (rule:∀(i j:Int) (t u:Tok) (s:Shared) (Q:Value→Shared→Prop) (E:Value→Shared→Prop),C i j→Q (.int (g i j) s.toks) {s with toks:=s.toks+1}→wpAny (model X.prog X.w) X.A (f (.int i t) (.int j u)) Q E s) :
 OpR X f (rI C fun i j=>.int (g i j)):=by
 intro pins s σ H x y v u Q I rx ry h
 obtain⟨i,j,rfl,rfl,hc,q⟩:=h
 obtain⟨t,rfl⟩:=rx
 obtain⟨t',rfl⟩:=ry
 exact rule i j t t' s _ _ hc ⟨.int (g i j),H,I.tok _,⟨_,rfl⟩,q⟩
theorem fF{f:Value→Value→Sem Value}{g:Int→Int→Int}
 (rule:∀(i j:Int) (t u:Tok) (s:Shared) (Q:Value→Shared→Prop) (E:Value→Shared→Prop),Q (.int (g i j) s.toks) {s with toks:=s.toks+1}→wpAny (model X.prog X.w) X.A (f (.int i t) (.int j u)) Q E s) :
 OpR X f (rI0 fun i j=>.int (g i j)):=by
 intro pins s σ H x y v u Q I rx ry h
 obtain⟨i,j,rfl,rfl,q⟩:=h
 obtain⟨t,rfl⟩:=rx
 obtain⟨t',rfl⟩:=ry
 exact rule i j t t' s _ _ ⟨.int (g i j),H,I.tok _,⟨_,rfl⟩,q⟩
theorem fE{f:Value→Value→Sem Value}{g:Int→Int→Bool}
 (rule:∀(i j:Int) (t u:Tok) (s:Shared) (Q:Value→Shared→Prop) (E:Value→Shared→Prop),Q (.bool (g i j)) s→wpAny (model X.prog X.w) X.A (f (.int i t) (.int j u)) Q E s) :
 OpR X f (rI0 fun i j=>.bl (g i j)):=by
 intro pins s σ H x y v u Q I rx ry h
 obtain⟨i,j,rfl,rfl,q⟩:=h
 obtain⟨t,rfl⟩:=rx
 obtain⟨t',rfl⟩:=ry
 exact rule i j t t' s _ _ ⟨.bl (g i j),H,I,rfl,q⟩
def dw(i j:Int):Prop:=0<j∧j<1073741824
def Y7(i j:Int):Prop:=0≤j∧j≤1000000∧i.natAbs<2 ^ 64
def gA(i j:Int):Prop:=(-(2 ^ 64)<i∧i<2 ^ 64)∨(-(2 ^ 64)<j∧j<2 ^ 64)
theorem gA.ok{i j:Int}(h:gA i j):IntMulOk i j:=by
 rcases h with⟨h1,h2⟩|⟨h1,h2⟩
 . exact .of_left (intBits_le_64 h1 h2)
 . exact .of_right (intBits_le_64 h1 h2)
theorem b8:OpR X (binaryOp .Add) (rI0 fun i j=>.int (i+j)):=fF fun _ _ _ _ _ _ _ q=>add_int q
theorem aG:OpR X (binaryOp .Sub) (rI0 fun i j=>.int (i-j)):=fF fun _ _ _ _ _ _ _ q=>sub_int q
theorem aD:OpR X (binaryOp .Mult) (rI gA fun i j=>.int (i*j)):=opI fun _ _ _ _ _ _ _ hc q=>mul_int q hc.ok
theorem fH:OpR X (binaryOp .FloorDiv) (rI dw fun i j=>.int (i/j)):=opI fun i j _ _ _ _ _ hc q=>by
 have h1:(0:Int)<j:=hc.1
 have h2:j<1073741824:=hc.2
 exact floordiv_int (by omega) (by rw[Int.fdiv_eq_ediv_of_nonneg i (by omega)];exact q) (.inl (PyProof.noPylong_small (by omega)))
theorem aC:OpR X (binaryOp .Mod) (rI (fun _ j=>0<j) fun i j=>.int (i%j)):=opI fun i j _ _ _ _ _ hc q=>by
 have h1:(0:Int)<j:=hc
 exact mod_int' (by omega) (by rw[Int.fmod_eq_emod_of_nonneg i (by omega)];exact q)
theorem aE:OpR X (binaryOp .Pow) (rI Y7 fun i j=>.int (i ^ j.toNat)):=opI fun _ _ _ _ _ _ _ hc q=>pow_int_small hc.1 hc.2.1 hc.2.2 q
theorem gU:OpR X (inplaceOp .Add) (rI0 fun i j=>.int (i+j)):=fF fun _ _ _ _ _ _ _ q=>iadd_int q
theorem gX:OpR X (inplaceOp .Sub) (rI0 fun i j=>.int (i-j)):=fF fun _ _ _ _ _ _ _ q=>isub_int q
theorem gW:OpR X (inplaceOp .Mult) (rI gA fun i j=>.int (i*j)):=opI fun _ _ _ _ _ _ _ hc q=>imul_int q hc.ok
theorem kZ:OpR X (inplaceOp .FloorDiv) (rI dw fun i j=>.int (i/j)):=opI fun i j _ _ _ _ _ hc q=>by
 have h1:(0:Int)<j:=hc.1
 have h2:j<1073741824:=hc.2
 exact ifloordiv_int (by omega) (by rw[Int.fdiv_eq_ediv_of_nonneg i (by omega)];exact q) (.inl (PyProof.noPylong_small (by omega)))
theorem gV:OpR X (inplaceOp .Mod) (rI (fun _ j=>0<j) fun i j=>.int (i%j)):=opI fun i j _ _ _ _ _ hc q=>by
 have h1:(0:Int)<j:=hc
 exact imod_int (by omega) (by rw[Int.fmod_eq_emod_of_nonneg i (by omega)];exact q)
theorem unI{f:Value→Sem Value}{g:Int→Int}
 (rule:∀(i:Int) (t:Tok) (s:Shared) (Q:Value→Shared→Prop) (E:Value→Shared→Prop),Q (.int (g i) s.toks) {s with toks:=s.toks+1}→wpAny (model X.prog X.w) X.A (f (.int i t)) Q E s) :
 UnR X f (rU fun i=>.int (g i)):=by
 intro pins s σ H x v Q I rx h
 obtain⟨i,rfl,q⟩:=h
 obtain⟨t,rfl⟩:=rx
 exact rule i t s _ _ ⟨.int (g i),H,I.tok _,⟨_,rfl⟩,q⟩
theorem ZJ:UnR X (unaryOp .USub) (rU fun i=>.int (-i)):=unI fun _ _ _ _ _ q=>neg_int q
end
noncomputable def Yl:V→V→Bool
 |.non,.non=>true|.non,.int _=>true|.int _,.non=>true|.non,.bl _=>true|.bl _,.non=>true|.non,.str _=>true|.str _,.non=>true
 |.int _,.int _=>true|.bl _,.bl _=>true|.str _,.str _=>true|.byt _,.byt _=>true
 |.int _,.str _=>true|.str _,.int _=>true|.bl _,.str _=>true|.str _,.bl _=>true
 |_,_=>false
noncomputable def rEq:R2:=fun x y H Q=>Yl x y=true∧Q (.bl (decide (x=y))) H
noncomputable def rNe:R2:=fun x y H Q=>Yl x y=true∧Q (.bl (!decide (x=y))) H
theorem nZ{i j:Int}:decide (V.int i=V.int j)=(i == j):=by
 rw[Bool.eq_iff_iff]
 simp
theorem kG{i j:Bool}:decide (V.bl i=V.bl j)=(i == j):=by
 rw[Bool.eq_iff_iff]
 simp
theorem nc{i j:Str}:decide (V.str i=V.str j)=(i == j):=by
 rw[Bool.eq_iff_iff]
 simp
theorem nY{i j:Array UInt8}:decide (V.byt i=V.byt j)=(i.toList == j.toList):=by
 rw[Bool.eq_iff_iff]
 cases i
 cases j
 simp
section
variable {X:Cx}{a b c:Expr}{ta tb tc:TE}{pos:Pos}
theorem za{pins:List (Addr × Obj)}{σ:St}{H:Hp}{s:Shared}{Q:VK}{k k':Bool}(I:Inv X pins σ H s)(q:Q (.bl k) H)(e:k=k'):EP X pins σ Q (.bool k') s:=by
 subst e
 exact⟨.bl k,H,I,rfl,q⟩
theorem Z4:OpR X (compareOp .Eq) rEq:=by
 intro pins s σ H x y v u Q I rx ry h
 obtain⟨hs,q⟩:=h
 cases x with
 |non=>
  cases rx
  cases y with
  |non=>cases ry;exact PySem.EqNone.eq_none_none (za I q (by simp))
  |bl j=>cases ry;exact PySem.EqNone.eq_none_bool (za I q (by simp))
  |int j=>obtain⟨t',rfl⟩:=ry;exact PySem.EqNone.eq_none_int (za I q (by simp))
  |str j=>obtain⟨t',rfl⟩:=ry;exact PySem.EqNone.eq_none_str (za I q (by simp))
  |_=>exact absurd (show false=true from hs) Bool.false_ne_true
 |bl i=>
  cases rx
  cases y with
  |non=>cases ry;exact PySem.EqNone.eq_bool_none (za I q (by simp))
  |bl j=>cases ry;exact eq_bool (za I q kG)
  |str j=>obtain⟨t',rfl⟩:=ry;exact PySem.EqMixed.eq_bool_str (za I q (by simp))
  |_=>exact absurd (show false=true from hs) Bool.false_ne_true
 |int i=>
  obtain⟨t,rfl⟩:=rx
  cases y with
  |non=>cases ry;exact PySem.EqNone.eq_int_none (za I q (by simp))
  |int j=>obtain⟨t',rfl⟩:=ry;exact eq_int (za I q nZ)
  |str j=>obtain⟨t',rfl⟩:=ry;exact PySem.EqMixed.eq_int_str (za I q (by simp))
  |_=>exact absurd (show false=true from hs) Bool.false_ne_true
 |str i=>
  obtain⟨t,rfl⟩:=rx
  cases y with
  |non=>cases ry;exact PySem.EqNone.eq_str_none (za I q (by simp))
  |bl j=>cases ry;exact PySem.EqMixed.eq_str_bool (za I q (by simp))
  |int j=>obtain⟨t',rfl⟩:=ry;exact PySem.EqMixed.eq_str_int (za I q (by simp))
  |str j=>obtain⟨t',rfl⟩:=ry;exact eq_str (za I q nc)
  |_=>exact absurd (show false=true from hs) Bool.false_ne_true
 |byt i=>
  obtain⟨t,rfl⟩:=rx
  cases y with
  |byt j=>obtain⟨t',rfl⟩:=ry;exact PySem.W.eq_bytes (za I q nY)
  |_=>exact absurd (show false=true from hs) Bool.false_ne_true
 |_=>cases y<;>exact absurd (show false=true from hs) Bool.false_ne_true
theorem Z9:OpR X (compareOp .NotEq) rNe:=by
 intro pins s σ H x y v u Q I rx ry h
 obtain⟨hs,q⟩:=h
 cases x with
 |non=>
  cases rx
  cases y with
  |non=>cases ry;exact PySem.EqNone.ne_none_none (za I q (by simp))
  |bl j=>cases ry;exact PySem.EqNone.ne_none_bool (za I q (by simp))
  |int j=>obtain⟨t',rfl⟩:=ry;exact PySem.EqNone.ne_none_int (za I q (by simp))
  |str j=>obtain⟨t',rfl⟩:=ry;exact PySem.EqNone.ne_none_str (za I q (by simp))
  |_=>exact absurd (show false=true from hs) Bool.false_ne_true
 |bl i=>
  cases rx
  cases y with
  |non=>cases ry;exact PySem.EqNone.ne_bool_none (za I q (by simp))
  |bl j=>cases ry;exact ne_bool (za I q (congrArg not kG))
  |str j=>obtain⟨t',rfl⟩:=ry;exact PySem.EqMixed.ne_bool_str (za I q (by simp))
  |_=>exact absurd (show false=true from hs) Bool.false_ne_true
 |int i=>
  obtain⟨t,rfl⟩:=rx
  cases y with
  |non=>cases ry;exact PySem.EqNone.ne_int_none (za I q (by simp))
  |int j=>obtain⟨t',rfl⟩:=ry;exact ne_int (za I q (congrArg not nZ))
  |str j=>obtain⟨t',rfl⟩:=ry;exact PySem.EqMixed.ne_int_str (za I q (by simp))
  |_=>exact absurd (show false=true from hs) Bool.false_ne_true
 |str i=>
  obtain⟨t,rfl⟩:=rx
  cases y with
  |non=>cases ry;exact PySem.EqNone.ne_str_none (za I q (by simp))
  |bl j=>cases ry;exact PySem.EqMixed.ne_str_bool (za I q (by simp))
  |int j=>obtain⟨t',rfl⟩:=ry;exact PySem.EqMixed.ne_str_int (za I q (by simp))
  |str j=>obtain⟨t',rfl⟩:=ry;exact ne_str (za I q (congrArg not nc))
  |_=>exact absurd (show false=true from hs) Bool.false_ne_true
 |byt i=>
  obtain⟨t,rfl⟩:=rx
  cases y with
  |byt j=>obtain⟨t',rfl⟩:=ry;exact PySem.W.ne_bytes (za I q (congrArg not nY))
  |_=>exact absurd (show false=true from hs) Bool.false_ne_true
 |_=>cases y<;>exact absurd (show false=true from hs) Bool.false_ne_true
theorem Z8:OpR X (compareOp .Lt) (rI0 fun i j=>.bl (decide (i<j))):=fE fun _ _ _ _ _ _ _ q=>lt_int q
theorem Z7:OpR X (compareOp .LtE) (rI0 fun i j=>.bl (decide (i≤j))):=fE fun _ _ _ _ _ _ _ q=>le_int q
theorem Z6:OpR X (compareOp .Gt) (rI0 fun i j=>.bl (decide (j<i))):=fE fun _ _ _ _ _ _ _ q=>gt_int q
theorem Z5:OpR X (compareOp .GtE) (rI0 fun i j=>.bl (decide (j≤i))):=fE fun _ _ _ _ _ _ _ q=>ge_int q
theorem aB:OpR X (compareOp .Is) (fun x y H Q=>y=.non∧Q (.bl (decide (x=.non))) H):=by
 intro pins s σ H x y v u Q I rx ry h
 obtain⟨rfl,q⟩:=h
 cases ry
 refine is_none_gen (za I q ?_)
 cases x<;>first
  |(cases rx;rfl)
  |(obtain⟨t,rfl⟩:=rx;rfl)
theorem fI:OpR X (compareOp .IsNot) (fun x y H Q=>y=.non∧Q (.bl (!decide (x=.non))) H):=by
 intro pins s σ H x y v u Q I rx ry h
 obtain⟨rfl,q⟩:=h
 cases ry
 refine isnot_none_gen (za I q ?_)
 cases x<;>first
  |(cases rx;rfl)
  |(obtain⟨t,rfl⟩:=rx;rfl)
theorem fZ{op:CmpOp}{r:R2}(ho:OpR X (compareOp op) r)(ha:PE X a ta)(hb:PE X b tb)(hm:behindInMarks op b=false):PE X (.Compare a [op] [b] pos) (tOp r ta tb):=by
 intro pins s σ H Q I h
 exact wpAny_Compare1 (cC ha hb I h fun v u s2 x y H2 I2 rx ry q=>ho pins s2 σ H2 x y v u Q I2 rx ry q) hm
noncomputable def di(t:TE):TT:=fun σ H Q=>t σ H fun x H'=>∃k,x=.bl k∧Q k H'
theorem f6{op:CmpOp}{r:R2}(ho:OpR X (compareOp op) r)(ha:PE X a ta)(hb:PE X b tb)(hm:behindInMarks op b=false):PT X (.Compare a [op] [b] pos) (di (tOp r ta tb)):=by
 intro pins s σ H Q I h
 refine wpAny_isTrue_Compare1 (thn (ha pins s σ H _ I h) fun v s1 ⟨x,H1,I1,r1,q1⟩=>thn (hb pins s1 σ H1 _ I1 q1) fun u s2 ⟨y,H2,I2,r2,q2⟩=>
  thn (ho pins s2 σ H2 x y v u _ I2 r1 r2 q2) fun c s3 ⟨z,H3,I3,r3,k,e,q3⟩=>?_) hm
 subst e
 cases r3
 exact wpAny_truthy_bool ⟨H3,I3,q3⟩
noncomputable def iu(r r':R2)(ta tb tc:TE):TE:=fun σ H Q=>ta σ H fun x H1=>tb σ H1 fun y H2=>r x y H2 fun z H3=>∃k,z=.bl k ∧
 (if k=true then tc σ H3 fun w' H4=>r' y w' H4 Q else Q (.bl false) H3)
theorem jw{op op':CmpOp}{r r':R2}(ho:OpR X (compareOp op) r)(ho':OpR X (compareOp op') r')(ha:PE X a ta)(hb:PE X b tb)(hc:PE X c tc)
 (hm:lastMarks [op,op'] [b,c]=false:=by with_unfolding_all rfl):PE X (.Compare a [op,op'] [b,c] pos) (iu r r' ta tb tc):=by
 intro pins s σ H Q I h
 refine Compare_chain (thn (ha pins s σ H _ I h) fun v s1 ⟨x,H1,I1,r1,q1⟩=>chain_link (thn (hb pins s1 σ H1 _ I1 q1) fun u s2 ⟨y,H2,I2,r2,q2⟩=>
  thn (ho pins s2 σ H2 x y v u _ I2 r1 r2 q2) fun d s3 ⟨z,H3,I3,r3,k,e,q3⟩=>?_)) hm
 subst e
 cases r3
 refine wpAny_truthy_bool ?_
 cases k with
 |false=>exact ite_ff ⟨.bl false,H3,I3,rfl,q3⟩
 |true=>exact ite_tt (chain_last (thn (hc pins s3 σ H3 _ I3 q3) fun w' s4 ⟨z',H4,I4,r4,q4⟩=>ho' pins s4 σ H4 y z' u w' Q I4 r2 r4 q4))
theorem iF{op op':CmpOp}{r r':R2}(ho:OpR X (compareOp op) r)(ho':OpR X (compareOp op') r')(ha:PE X a ta)(hb:PE X b tb)(hc:PE X c tc)
 (hm:lastMarks [op,op'] [b,c]=false:=by with_unfolding_all rfl):PT X (.Compare a [op,op'] [b,c] pos) (di (iu r r' ta tb tc)):=by
 intro pins s σ H Q I h
 refine isTrue_chain (thn (ha pins s σ H _ I h) fun v s1 ⟨x,H1,I1,r1,q1⟩=>test_link (thn (hb pins s1 σ H1 _ I1 q1) fun u s2 ⟨y,H2,I2,r2,q2⟩=>
  thn (ho pins s2 σ H2 x y v u _ I2 r1 r2 q2) fun d s3 ⟨z,H3,I3,r3,k,e,q3⟩=>?_)) hm
 subst e
 cases r3
 refine wpAny_truthy_bool ?_
 cases k with
 |false=>
  obtain⟨k',e',q'⟩:=q3
  cases e'
  exact ite_ff ⟨H3,I3,q'⟩
 |true=>
  refine ite_tt (test_last (thn (hc pins s3 σ H3 _ I3 q3) fun w' s4 ⟨z',H4,I4,r4,q4⟩=>thn (ho' pins s4 σ H4 y z' u w' _ I4 r2 r4 q4) fun d' s5 ⟨z2,H5,I5,r5,k2,e2,q5⟩=>?_))
  subst e2
  cases r5
  exact wpAny_truthy_bool ⟨H5,I5,q5⟩
def gC(K:PySem.W.Frag)(x:V)(H:Hp)(k:Bool):Prop:=
 match x with
 |.non=>k=false
 |.bl b=>k=b
 |.int i=>k=(i != 0)
 |.str y=>y.length≤sizeLine∧k=((y.length:Int) != 0)
 |.byt y=>y.size≤sizeLine∧k=((y.size:Int) != 0)
 |.ref p=>(∃xs,SqL K H p xs∧k=!xs.isEmpty)∨(∃xs,SqT K H p xs∧k=!xs.isEmpty)∨∃kvs,H p=some (.dK kvs)∧k=!kvs.isEmpty
 |_=>False
theorem oB{κ:Type}{kvs:List (κ × V)}{vs:List (κ × Value)}(r:KV kvs vs):(!vs.isEmpty)=!kvs.isEmpty:=by
 cases r<;>rfl
theorem u9{xs:List V}{its:List Value}(r:Vals xs its):(!its.toArray.isEmpty)=!xs.isEmpty:=by
 cases r<;>simp
theorem vH:(sizeLine:Nat)<2 ^ 63:=by rw[sizeLine_eq];decide
theorem i8:Y8 X (fun x H Q=>∃k,gC X.K x H k∧Q k H):=by
 intro pins s σ H x v Q I rx h
 obtain⟨k,e,q⟩:=h
 have hl:=vH
 have hs:sizeLine=16777216:=sizeLine_eq
 cases x with
 |non=>
  cases rx
  have e':k=false:=e
  subst e'
  exact truthy_none ⟨H,I,q⟩
 |bl b=>
  cases rx
  have e':k=b:=e
  subst e'
  exact wpAny_truthy_bool ⟨H,I,q⟩
 |int i=>
  obtain⟨t,rfl⟩:=rx
  have e':k=(i != 0):=e
  subst e'
  exact PySem.P.truthy_int ⟨H,I,q⟩
 |str y=>
  obtain⟨t,rfl⟩:=rx
  obtain⟨hy,e'⟩:y.length≤sizeLine∧k=((y.length:Int) != 0):=e
  subst e'
  exact PySem.P.truthy_str (by omega) ⟨H,I.tok _,q⟩
 |byt y=>
  obtain⟨t,rfl⟩:=rx
  obtain⟨hy,e'⟩:y.size≤sizeLine∧k=((y.size:Int) != 0):=e
  subst e'
  exact PySem.W.truthy_bytes (by omega) ⟨H,I.tok _,q⟩
 |ref p=>
  cases rx
  have e':(∃xs,SqL X.K H p xs∧k=!xs.isEmpty)∨(∃xs,SqT X.K H p xs∧k=!xs.isEmpty)∨∃kvs,H p=some (.dK kvs)∧k=!kvs.isEmpty:=e
  rcases e' with⟨xs,hx,e'⟩|⟨xs,hx,e'⟩|⟨kvs,hx,e'⟩
  . subst e'
    obtain⟨its,r,pl,hz⟩:=I.list hx
    have hlen:=r.length
    exact wpAny_truthy_list pl.isList (by simp only[List.size_toArray];omega) ⟨H,I.tok _,by rw[u9 r];exact q⟩
  . subst e'
    obtain⟨its,r,pl,hz⟩:=I.tuple hx
    have hlen:=r.length
    exact truthy_tuple pl (by simp only[List.size_toArray];omega) ⟨H,I.tok _,by rw[u9 r];exact q⟩
  . subst e'
    obtain⟨hz,hS,vs,r,m⟩:kvs.length≤sizeLine∧(p == sysModules)=false∧∃vs,KV kvs vs∧s.heap.DictOf (yQ X.prog X.w) p vs:=I.hok p _ hx
    have hlen:kvs.length=vs.length:=Paired.length r
    exact wpAny_truthy_dict hS m (by omega) ⟨H,I.tok _,by rw[oB r];exact q⟩
 |_=>exact(show False from e).elim
theorem iG(ha:PE X a ta)(he:∀whole,isTrue a X.env whole=(do let v ←whole;standAt a.pos;holding [v] (truthy v))) :
 PT X a (fun σ H Q=>ta σ H fun x H'=>∃k,gC X.K x H' k∧Q k H'):=by
 intro pins s σ H Q I h
 exact isTrue_plain (thn (ha pins s σ H _ I h) fun v s1 ⟨x,H1,I1,r1,q1⟩=>i8 pins s1 σ H1 x v Q I1 r1 q1) (he _)
theorem oQ:OpR X (binaryOp .Add) (fun x y H Q=>∃i j,x=.str i∧y=.str j∧i.length+j.length≤sizeLine∧Q (.str (i++j)) H):=by
 intro pins s σ H x y v u Q I rx ry h
 obtain⟨i,j,rfl,rfl,hz,q⟩:=h
 obtain⟨t,rfl⟩:=rx
 obtain⟨t',rfl⟩:=ry
 exact add_str (fun t' tk=>⟨.str (i++j),H,I.tok _,⟨_,rfl⟩,q⟩) hz
theorem vals1{x:V}{us:List Value}(r:Vals [x] us):∃u,us=[u]∧RelV x u:=by
 cases r with
 |cons r1 r2=>cases r2;exact⟨_,rfl,r1⟩
theorem vals2{x y:V}{us:List Value}(r:Vals [x,y] us):∃u w',us=[u,w']∧RelV x u∧RelV y w':=by
 cases r with
 |cons r1 r2=>
  cases r2 with
  |cons r3 r4=>cases r4;exact⟨_,_,rfl,r1,r3⟩
theorem mM(hc:X.calm=true):yN X (.builtin "max") (fun xs H Q=>∃i j,xs=[.int i,.int j]∧Q (.int (if j > i then j else i)) H):=by
 intro pins s σ H xs us Q I r h
 obtain⟨i,j,rfl,q⟩:=h
 obtain⟨u,w',rfl,⟨t,rfl⟩,⟨t',rfl⟩⟩:=vals2 r
 refine max_two_ints (I.ok.hd hc) fun h' tk k=>⟨_,H,I.kept k,?_,q⟩
 by_cases hj:j > i
 . rw[if_pos hj,if_pos hj];exact⟨_,rfl⟩
 . rw[if_neg hj,if_neg hj];exact⟨_,rfl⟩
theorem mO(hc:X.calm=true):yN X (.builtin "min") (fun xs H Q=>∃i j,xs=[.int i,.int j]∧Q (.int (if j<i then j else i)) H):=by
 intro pins s σ H xs us Q I r h
 obtain⟨i,j,rfl,q⟩:=h
 obtain⟨u,w',rfl,⟨t,rfl⟩,⟨t',rfl⟩⟩:=vals2 r
 refine min_two_ints (I.ok.hd hc) fun h' tk k=>⟨_,H,I.kept k,?_,q⟩
 by_cases hj:j<i
 . rw[if_pos hj,if_pos hj];exact⟨_,rfl⟩
 . rw[if_neg hj,if_neg hj];exact⟨_,rfl⟩
theorem sr:yN X (.type "int") (fun xs H Q=>(∃i,xs=[.int i]∧Q (.int i) H)∨∃k,xs=[.bl k]∧Q (.int (if k then 1 else 0)) H):=by
 intro pins s σ H xs us Q I r h
 rcases h with⟨i,rfl,q⟩|⟨k,rfl,q⟩
 . obtain⟨u,rfl,t,rfl⟩:=vals1 r
   exact call_int_int ⟨.int i,H,I,⟨_,rfl⟩,q⟩
 . obtain⟨u,rfl,r1⟩:=vals1 r
   cases r1
   exact call_int_bool ⟨.int (if k then 1 else 0),H,I.tok _,⟨_,rfl⟩,q⟩
theorem wG:yN X (.builtin "divmod") (fun xs H Q=>∃i j,xs=[.int i,.int j]∧dw i j∧∀p,H p=none→Q (.ref p) (upd H p (.tup [.int (i/j),.int (i%j)]))):=by
 intro pins s σ H xs us Q I r h
 obtain⟨i,j,rfl,⟨h1,h2⟩,q⟩:=h
 obtain⟨u,w',rfl,⟨t,rfl⟩,⟨t',rfl⟩⟩:=vals2 r
 refine divmod_int (by omega) ?_ (.inl (PyProof.noPylong_small (by omega)))
 rw[Int.fdiv_eq_ediv_of_nonneg i (by omega),Int.fmod_eq_emod_of_nonneg i (by omega)]
 have hn:H s.heap.objs.size=none:=I.hok.fresh (Nat.le_refl _)
 refine⟨.ref s.heap.objs.size,_,?_,rfl,q _ hn⟩
 refine I.laid (fun b o e=>Heap.get?_push_of_some _ e) (Nat.le_refl _) ⟨by simp only[List.length_cons,List.length_nil];rw[sizeLine_eq];decide,[.int (i/j) s.toks,.int (i%j) (s.toks+1)],.cons ⟨_,rfl⟩ (.cons ⟨_,rfl⟩ .nil),?_⟩
 exact⟨_,Heap.get?_push_size s.heap rfl,rfl,0,rfl,rfl⟩
end
end L2
namespace L2
open PySem PySem.Spec PyProof.Rows
structure d4(h:Heap)(x dx C:Addr)(mA:Str→Option Value):Prop where
 obj:h.get? x=some (PySem.W.instObj C dx)
 ns:h.Ns1 dx mA
 ne:dx≠x
theorem mr{h:Heap}{dx:Addr}{mA:Str→Option Value}(n:h.Ns1 dx mA):∃od,h.get? dx=some od∧∀name,PySem.W.lookIn name od=some (mA name):=by
 obtain⟨o,es,ep,ho,hd,hk,_,hm⟩:=n
 refine⟨o,ho,fun name=>?_⟩
 have e:=hm name
 unfold nsFind findBy at e
 rw[←Array.find?_toList]at e
 unfold PySem.W.lookIn
 rw[hd]
 dsimp only
 split
 . rename_i y q
   rw[q]at e
   exact congrArg some e
 . rename_i q
   rw[q]at e
   have a:es.toList.any (·.refKey)=false:=by
    rw[List.any_eq_false]
    intro y hy
    obtain⟨z,t,hkey⟩:=hk y (Array.mem_toList_iff.mp hy)
    simp[DictEntry.refKey,hkey]
   have a':¬es.toList.any (·.refKey)=true:=by rw[a];exact Bool.false_ne_true
   rw[if_neg a']
   exact congrArg some e
theorem d4.look{h:Heap}{x dx C:Addr}{mA:Str→Option Value}(I:d4 h x dx C mA):∃od,PySem.W.InstAt h x (PySem.W.instObj C dx) C (some od)∧∀name,PySem.W.lookIn name od=some (mA name):=
 let ⟨od,ho,hl⟩:=mr I.ns
 ⟨od,⟨I.obj,rfl,rfl,ho⟩,hl⟩
theorem uk.some_of{v:V}{o:Option Value}(r:uk (some v) o):∃u,o=some u∧RelV v u:=by
 cases o with
 |none=>exact(show False from r).elim
 |some u=>exact⟨u,rfl,r⟩
section
variable {P:Program}{w:World}{H H':Hp}{h h':Heap}{a C dx:Addr}{fs fs':List (Str × V)}
theorem gT(hok:HOk P w H h)(e:H a=some (.ins C dx fs)):∃mA,d4 h a dx C mA∧(∀f,uk (fs.lookup f) (mA f))∧PySem.Within mA (fs.map (·.1))∧fs.length≤1000∧H dx=some (.own a):=by
 obtain⟨d,z,ne,ob,mA,n,r,q⟩:=(show zc P w H h a (.ins C dx fs) from hok a _ e)
 exact⟨mA,⟨ob,n,ne⟩,r,q,z,d⟩
end
structure Cls(K:PySem.W.Frag)(C:Addr):Prop where
 pg:PySem.W.plainGet K C Str.empty=true
 hd:PySem.W.hasDictIn K C=true
 po:PySem.W.plainOver K C=true
 sa:PySem.W.findIn K (.ref C) "__setattr__"=some (some (.builtin "object.__setattr__"))
theorem Cls.get{K:PySem.W.Frag}{C:Addr}(c:Cls K C)(f:Str):PySem.W.plainGet K C f=true:=c.pg
section
variable {X:Cx}{pins:List (Addr × Obj)}{σ:St}{H:Hp}{s:Shared}{A:Around}{E:Value→Shared→Prop}{Q:Value→Shared→Prop}{c:Value}{b:Bool}
inductive vN(K:PySem.W.Frag)(H:Hp):V→Value→Prop where
 |non:vN K H .non (.type "NoneType")
 |bl (x:Bool):vN K H (.bl x) (.type "bool")
 |int (i:Int):vN K H (.int i) (.type "int")
 |str (x:Str):vN K H (.str x) (.type "str")
 |flt (x:UInt64):vN K H (.flt x) (.type "float")
 |lst {a:Addr} {xs:List V} (e:H a=some (.lst xs)):vN K H (.ref a) (.type "list")
 |frz {a:Addr} {o:Obj} {xs:List V} (e:H a=some (.frz o (.lst xs))):vN K H (.ref a) (.type "list")
 |tup {a:Addr} {xs:List V} (e:H a=some (.tup xs)):vN K H (.ref a) (.type "tuple")
 |dK {a:Addr} {kvs:List (Key × V)} (e:H a=some (.dK kvs)):vN K H (.ref a) (.type "dict")
 |dT {a:Addr} {kvs:List (List Key × V)} (e:H a=some (.dT kvs)):vN K H (.ref a) (.type "dict")
 |ins {a C dx:Addr} {fs:List (Str × V)} (e:H a=some (.ins C dx fs)) (cl:Cls K C) (ha:PySem.W.findIn K (.ref C) "__class__"=some (some (.builtin "object.__class__")))
  (hn:PySem.W.specialIn K (.builtin "object.__class__") "__get__"=some (some (.builtin "getset_descriptor.__get__"))) (htk:PySem.W.takesIn K (.builtin "object.__class__")=some true)
  (hm:PySem.W.mroIn K C (.type "object")=some true):vN K H (.ref a) (.ref C)
theorem ma{x:V}{u t:Value}(I:Inv X pins σ H s)(rx:RelV x u)(ty:vN X.K H x t)(e:PySem.W.kitOne X.K t c=some b)(h:∀tk,Q (.bool b) {s with toks:=tk}) :
 wpAny (model X.prog X.w) A (call (.builtin "isinstance") [u,c]) Q E s:=by
 cases ty with
 |non=>cases (show u=Value.none from rx);exact PySem.W.kia_one PySem.W.kitx_none I.kIn True.intro e (fun z=>nomatch z) h
 |bl y=>cases (show u=Value.bool y from rx);exact PySem.W.kia_one PySem.W.kitx_bool I.kIn True.intro e (fun z=>nomatch z) h
 |int i=>obtain⟨t,q⟩:=(show ∃t,u=Value.int i t from rx);cases q;exact PySem.W.kia_one PySem.W.kitx_int I.kIn True.intro e (fun z=>nomatch z) h
 |str y=>obtain⟨t,q⟩:=(show ∃t,u=Value.str y t from rx);cases q;exact PySem.W.kia_one PySem.W.kitx_str I.kIn True.intro e (fun z=>nomatch z) h
 |flt y=>obtain⟨t,q⟩:=(show ∃t,u=Value.float y t from rx);cases q;exact PySem.W.kia_one PySem.W.kitx_float I.kIn True.intro e (fun z=>nomatch z) h
 |@lst a xs ea=>
  cases (show u=Value.ref a from rx)
  obtain⟨_,_,n,_,h1⟩:=(show zc X.prog X.w H s.heap a (.lst xs) from I.hok a _ ea)
  exact PySem.W.kia_one PySem.W.kitx_list I.kIn ⟨_,h1,rfl⟩ e (fun z=>nomatch z) h
 |@frz a ob xs ea=>
  cases (show u=Value.ref a from rx)
  obtain⟨_,_,_,n,_,h1⟩:=(show zc X.prog X.w H s.heap a (.frz ob (.lst xs)) from I.hok a _ ea)
  exact PySem.W.kia_one PySem.W.kitx_list I.kIn ⟨_,h1,rfl⟩ e (fun z=>nomatch z) h
 |@tup a xs ea=>
  cases (show u=Value.ref a from rx)
  obtain⟨_,_,_,p⟩:=(show zc X.prog X.w H s.heap a (.tup xs) from I.hok a _ ea)
  obtain⟨o,h1,h2,_⟩:=p
  exact PySem.W.kia_one PySem.W.kitx_tuple I.kIn ⟨o,h1,h2⟩ e (fun z=>nomatch z) h
 |@dK a kvs ea=>
  cases (show u=Value.ref a from rx)
  obtain⟨_,_,vs,_,p⟩:=(show zc X.prog X.w H s.heap a (.dK kvs) from I.hok a _ ea)
  obtain⟨o,es,ep,h1,h2,_⟩:=p
  exact PySem.W.kia_one PySem.W.kitx_dict I.kIn ⟨o,h1,h2.1⟩ e (fun z=>nomatch z) h
 |@dT a kvs ea=>
  cases (show u=Value.ref a from rx)
  obtain⟨_,_,xs,_,o,es,ep,h1,h2,_⟩:=(show zc X.prog X.w H s.heap a (.dT kvs) from I.hok a _ ea)
  exact PySem.W.kia_one PySem.W.kitx_dict I.kIn ⟨o,h1,h2.1⟩ e (fun z=>nomatch z) h
 |@ins a C dx fs ea cl ha hn htk hm=>
  cases (show u=Value.ref a from rx)
  obtain⟨mA,O,_⟩:=gT I.hok ea
  obtain⟨od,J,_⟩:=O.look
  exact PySem.W.kia_one (PySem.W.kitx_own (cl.get _) cl.hd ha hn htk hm) I.kIn J e (fun z=>nomatch z) h
end
end L2
namespace L2
open PySem PySem.Spec PyProof.Rows
structure yn(k:Nat)(A:Around):Prop where
 hd:A.handled=none
 dp:A.depth+3*k+5<recursionLimit
 un:A.units+16*k+200<cLine
 gd:A.guards=some []
theorem yn.deeper{k:Nat}{A:Around}(r:yn (k+1) A)(env:Env):yn k (A.deeper env):=
 ⟨r.hd,by have:=r.dp;show A.depth+1+3*k+5<_;omega,by have:=r.un;show A.units+3+16*k+200<_;omega,r.gd⟩
theorem yn.depth{k:Nat}{A:Around}(r:yn k A):A.depth<recursionLimit:=by have:=r.dp;omega
noncomputable def nD:TA:=fun _ H Q=>Q [] H
noncomputable def tw(ta:TE)(tr:TA):TA:=fun σ H Q=>ta σ H fun x H1=>tr σ H1 fun xs H2=>Q (x::xs) H2
section
variable {X:Cx}{e:Expr}{es:List Expr}{te:TE}{t:TA}{pos:Pos}
theorem xB:PA X [] nD:=fun _ _ _ _ H Q I h=>Calls.spliced_nil ⟨[],H,I,.nil,h⟩
theorem fV(ha:PE X e te)(hr:PA X es t)(hs:starEach (e::es) X.env=(false,eval e X.env)::starEach es X.env:=by rfl):PA X (e::es) (tw te t):=by
 intro pos pins s σ H Q I h
 rw[hs]
 show wpAny _ _ (spliced ((false,eval e X.env)::backTo pos (starEach es X.env))) _ _ s
 refine Calls.spliced_cons (thn (ha pins s σ H _ I h) fun u s1 ⟨x,H1,I1,r1,q1⟩=>?_)
 exact thn (hr pos pins s1 σ H1 _ I1 q1) fun us s2 ⟨xs,H2,I2,r2,q2⟩=>⟨x::xs,H2,I2,.cons r1 r2,q2⟩
noncomputable def Xe(t:TA):TE:=fun σ H Q=>t σ H fun xs H1=>xs.length≤sizeLine∧∀p,H1 p=none→Q (.ref p) (upd H1 p (.tup xs))
noncomputable def XZ(t:TA):TE:=fun σ H Q=>t σ H fun xs H1=>xs.length≤sizeLine∧∀p,H1 p=none→Q (.ref p) (upd H1 p (.lst xs))
theorem ab{x1}(h:PA X es t):PE X (.Tuple es x1 pos) (Xe t):=by
 intro pins s σ H Q I hq
 refine wpAny_Tuple_spliced (thn (h pos pins s σ H _ I hq) fun us s1 ⟨xs,H1,I1,r,z,q⟩=>⟨by rw[←r.length];exact z,?_⟩)
 have hf:H1 s1.heap.objs.size=none:=I1.hok.fresh (Nat.le_refl _)
 refine⟨.ref s1.heap.objs.size,upd H1 s1.heap.objs.size (.tup xs),I1.laid (t':=s1.toks) (fun b u e=>Heap.get?_push_of_some _ e) (Nat.le_refl _) ?_,rfl,q _ hf⟩
 exact⟨z,us,r,⟨_,Heap.get?_push_size _ rfl,rfl,_,rfl,rfl⟩⟩
theorem aW(h:PA X es t):PE X (.List es pos) (XZ t):=by
 intro pins s σ H Q I hq
 refine wpAny_List_spliced (thn (h pos pins s σ H _ I hq) fun us s1 ⟨xs,H1,I1,r,z,q⟩=>⟨by rw[←r.length];exact z,?_⟩)
 have hf:H1 s1.heap.objs.size=none:=I1.hok.fresh (Nat.le_refl _)
 refine⟨.ref s1.heap.objs.size,upd H1 s1.heap.objs.size (.lst xs),I1.laid (t':=s1.toks) (fun b u e=>Heap.get?_push_of_some _ e) (Nat.le_refl _) ?_,rfl,q _ hf⟩
 exact⟨z,us,0,r,Heap.get?_push_size _ rfl⟩
end
noncomputable abbrev Sp:=List V→Hp→VK→XK→Prop
noncomputable abbrev CXT:=List Env→Hp→Shared→XK→Value→Shared→Prop
structure gB(P:Program)(w:World)(K:PySem.W.Frag)(mg:Str→Option Value)(base:Heap)(A:Around)(outer:List Env)(s:Shared)(H:Hp):Prop where
 frames:A.frames=some outer
 mod:Mod K mg base
 bs:∀b o,base.get? b=some o→s.heap.get? b=some o∧H b=none
 bsz:base.objs.size≤s.heap.objs.size
 u5:s.heap.FunFrames base outer
 frf:∀b∈frs outer,H b=none
 hok:HOk P w H s.heap
 bare:AllBare s.gens
def CE(outer:List Env)(P:Program)(w:World)(H:Hp)(s:Shared)(Q:VK)(u:Value)(s':Shared):Prop:=
 ∃v H',s'.os=s.os∧AllBare s'.gens∧Un (frs outer) [] H H' s.heap s'.heap∧HOk P w H' s'.heap∧RelV v u∧Q v H'
def CR(CX:CXT)(outer:List Env)(P:Program)(w:World)(H:Hp)(s:Shared)(Q:VK)(E:XK)(r:Result)(s':Shared):Prop:=
 match r with
 |.ok (.ret u)=>CE outer P w H s Q u s'
 |.ok _=>False
 |.error e=>CX outer H s E e s'
structure uU(P:Program)(w:World)(K:PySem.W.Frag)(mg:Str→Option Value)(base:Heap)(CX:CXT)(k:Nat)(f:Addr)(fd:FuncData)(ps:List Str)(sp:Sp):Prop where
 len:∀vs H Q E,sp vs H Q E→vs.length=ps.length
 run:∀(A:Around) (outer:List Env) (s:Shared) (H:Hp) (args:Args) (us:List Value) (vs:List V) (Q:VK) (E:XK),yn k A→gB P w K mg base A outer s H→BindsTo s fd args (ps.zip us)→Vals vs us→sp vs H Q E →
  codeAny (model P w) A (.call (.ref f) args) (CR CX outer P w H s Q E) s
theorem uU.imp{P:Program}{w:World}{K:PySem.W.Frag}{mg:Str→Option Value}{base:Heap}{CX:CXT}{k:Nat}{f:Addr}{fd:FuncData}{ps:List Str}{sp sp':Sp}(F:uU P w K mg base CX k f fd ps sp)
 (h:∀vs H Q E,sp' vs H Q E→sp vs H Q E):uU P w K mg base CX k f fd ps sp':=
 ⟨fun vs H Q E q=>F.len vs H Q E (h _ _ _ _ q),fun A outer s H args us vs Q E hr he hb hv hs=>F.run A outer s H args us vs Q E hr he hb hv (h _ _ _ _ hs)⟩
section
variable {X:Cx}{pins:List (Addr × Obj)}{σ:St}{H:Hp}{s s':Shared}
theorem Inv.XC(I:Inv X pins σ H s):gB X.prog X.w X.K X.mg X.base X.A X.stack s H:=
 ⟨I.ok.frames,I.ok.mod,I.bs,Nat.le_trans I.ok.bsz I.sz,I.stack,I.mG,I.hok,I.bare⟩
theorem Inv.after{Q:VK}{u:Value}(I:Inv X pins σ H s)(h:CE X.stack X.prog X.w H s Q u s'):EP X pins σ Q u s':=by
 obtain⟨v,H',os,bare,un,hok,r,q⟩:=h
 obtain⟨hh,g,d,t,os'⟩:=s'
 obtain rfl:os'=s.os:=os
 exact⟨v,H',I.call (h':=hh) (g':=g) (d':=d) (t':=t) (ch:=[]) un hok bare (fun b z=>absurd z (by simp)),r,q⟩
end
noncomputable def de(sp:Sp)(dvs:List V)(E:XK)(t:TA):TE:=fun σ H Q=>t σ H fun vs H1=>sp (vs++dvs) H1 Q E
def Binds(K:PySem.W.Frag)(fd:FuncData)(ps:List Str)(ds:List Value):Prop:=
 ∀(s:Shared) (us:List Value),K.In s.heap→(us++ds).length=ps.length→BindsTo s fd ⟨us,[]⟩ (ps.zip (us++ds))
theorem Binds.all{K:PySem.W.Frag}{fd:FuncData}{ps:List Str}(h:∀us:List Value,us.length=ps.length→bindArgs fd ⟨us,[]⟩=pure (ps.zip us)):Binds K fd ps []:=fun s us _ hl=>by
 rw[List.append_nil]at hl ⊢
 exact .of_eq (h us hl)
def Passes(CX:CXT)(X:Cx)(E:XK):Prop:=∀(pins:List (Addr × Obj)) (σ:St) (H:Hp) (s:Shared) (e:Value) (s':Shared),Inv X pins σ H s→CX X.stack H s E e s'→X.xe e s'
section
variable {X:Cx}{CX:CXT}{k:Nat}{f C:Addr}{fd:FuncData}{ps:List Str}{sp:Sp}{dvs:List V}{ds:List Value}{E:XK}{x m:Str}{p pos apos:Pos}{e o:Expr}{es:List Expr}{ta:TE}{t:TA}
theorem iW{pins:List (Addr × Obj)}{σ:St}{H:Hp}{s:Shared}{Q:VK}{us:List Value}{vs:List V}(F:uU X.prog X.w X.K X.mg X.base CX k f fd ps sp)(hr:yn k X.A)(hb:Binds X.K fd ps ds)(hd:Vals dvs ds)(hx:Passes CX X E)
 (I:Inv X pins σ H s) (r:Vals vs us) (h:sp (vs++dvs) H Q E):wpAny (model X.prog X.w) X.A (call (.ref f) us) (EP X pins σ Q) X.xe s:=by
 have r2:Vals (vs++dvs) (us++ds):=r.append hd
 have hl:(us++ds).length=ps.length:=by rw[←r2.length];exact F.len _ _ _ _ h
 refine wpAny_call (codeAny_mono (F.run X.A X.stack s H ⟨us,[]⟩ (us++ds) (vs++dvs) Q E hr I.XC (hb s us I.kIn hl) r2 h) fun r s' hq=>?_)
 cases r with
 |error e=>exact hx pins σ H s e s' I hq
 |ok fl=>
  cases fl with
  |ret u=>exact I.after hq
  |next=>exact False.elim hq
  |brk=>exact False.elim hq
  |cont=>exact False.elim hq
theorem fY(F:uU X.prog X.w X.K X.mg X.base CX k f fd ps sp)(hr:yn k X.A)(hg:Gl X x)(hm:X.mg x=some (.ref f))(hk:PySem.W.keepIn X.K (.ref f)=true)(hb:Binds X.K fd ps ds)(hd:Vals dvs ds)(hx:Passes CX X E)
 (ha:PA X (e::es) t) (hdb:(x == ("__debug__":Str))=false:=by decide) (he:starEach (e::es) X.env=(false,eval e X.env)::starEach es X.env:=by rfl) (hpl:(backTo pos (starEach es X.env)).any (·.1)=false:=by rfl) :
 PE X (.Call (.Name x p) (e::es) [] pos) (de sp dvs E t):=by
 intro pins s σ H Q I h
 refine wpAny_Call_Name_kw (qF I hg hm ?_ hdb)
 refine PySem.W.callWith_K (h₀:=X.base) I.ok.mod.kin hk (thn (ha pos pins s σ H _ I h) fun us s1 ⟨vs,H1,I1,r,q⟩=>⟨I1.kIn,?_⟩) he hpl
 exact iW F hr hb hd hx I1 r q
theorem ju(F:uU X.prog X.w X.K X.mg X.base CX k f fd ps sp)(hr:yn k X.A)(hg:Gl X x)(hm:X.mg x=some (.ref f))(hk:PySem.W.keepIn X.K (.ref f)=true)(hb:Binds X.K fd ps ds)(hd:Vals dvs ds)(hx:Passes CX X E)
 (hdb:(x == ("__debug__":Str))=false:=by decide):PE X (.Call (.Name x p) [] [] pos) (de sp dvs E nD):=by
 intro pins s σ H Q I h
 refine wpAny_Call_Name_kw (qF I hg hm ?_ hdb)
 exact PySem.W.callWith_K0 I.kIn hk (iW (us:=[]) F hr hb hd hx I .nil h)
end
structure ub(N P:List Str)(sc:Scope):Prop where
 kind:sc.kind=.function
 co:sc.isCoroutine=false
 gen:sc.isGenerator=false
 nd:N.Nodup
 pre:N.take P.length=P
 par:∀x∈P,sc.names.lookup x=some .local∨sc.names.lookup x=some .cell
 nofree:∀y∈sc.names,y.2≠.free
theorem sq{kindOf:Str→Option NameKind}{x:Str}:∀{binds:List (Str × Value)} {m:Str→Option Value},(∀v,(x,v) ∉ binds)→bindL kindOf binds m x=m x
 |[],_,_=>rfl
 |(n,v)::r,m,h=>by
  unfold bindL
  rw[sq fun w hw=>h w (List.mem_cons_of_mem _ hw)]
  split
  . have:x≠n:=by rintro rfl;exact h v List.mem_cons_self
    simp[this]
  . rfl
theorem sk{kindOf:Str→Option NameKind}{x:Str}:∀{binds:List (Str × Value)} {m:Str→Option Value},(∀v,(x,v) ∉ binds)→bindC kindOf binds m x=m x
 |[],_,_=>rfl
 |(n,v)::r,m,h=>by
  unfold bindC
  rw[sk fun w hw=>h w (List.mem_cons_of_mem _ hw)]
  split
  . rfl
  . have:x≠n:=by rintro rfl;exact h v List.mem_cons_self
    simp[this]
theorem sm{kindOf:Str→Option NameKind}{x:Str}{v:Value}:∀{P:List Str} {vs:List Value} {i:Nat} {m:Str→Option Value},P.Nodup→P[i]?=some x→vs[i]?=some v→kindOf x=some .local →
 bindL kindOf (P.zip vs) m x=some v
 |[],_,_,_,_,h,_,_=>by simp at h
 |_::_,[],_,_,_,_,h,_=>by simp at h
 |p::P,w::vs,0,m,nd,h1,h2,hk=>by
  simp at h1 h2;subst h1;subst h2
  show bindL kindOf ((p,w)::P.zip vs) m p=_
  unfold bindL
  rw[sq fun v hv=>(List.nodup_cons.mp nd).1 (List.of_mem_zip hv).1,if_pos hk]
  simp
 |p::P,w::vs,i+1,m,nd,h1,h2,hk=>by
  show bindL kindOf ((p,w)::P.zip vs) m x=_
  unfold bindL
  exact sm (i:=i) (List.nodup_cons.mp nd).2 (by simpa using h1) (by simpa using h2) hk
theorem sj{kindOf:Str→Option NameKind}{x:Str}{v:Value}:∀{P:List Str} {vs:List Value} {i:Nat} {m:Str→Option Value},P.Nodup→P[i]?=some x→vs[i]?=some v→kindOf x≠some .local →
 bindC kindOf (P.zip vs) m x=some v
 |[],_,_,_,_,h,_,_=>by simp at h
 |_::_,[],_,_,_,_,h,_=>by simp at h
 |p::P,w::vs,0,m,nd,h1,h2,hk=>by
  simp at h1 h2;subst h1;subst h2
  show bindC kindOf ((p,w)::P.zip vs) m p=_
  unfold bindC
  rw[sk fun v hv=>(List.nodup_cons.mp nd).1 (List.of_mem_zip hv).1,if_neg hk]
  simp
 |p::P,w::vs,i+1,m,nd,h1,h2,hk=>by
  show bindC kindOf ((p,w)::P.zip vs) m x=_
  unfold bindC
  exact sj (i:=i) (List.nodup_cons.mp nd).2 (by simpa using h1) (by simpa using h2) hk
noncomputable def start(N:List Str)(vs:List V):St:=vs.map some++List.replicate (N.length-vs.length) none
noncomputable def p5(CX:CXT)(P:Program)(w:World)(K:PySem.W.Frag)(mg:Str→Option Value)(base:Heap)(N:List Str)(qual:Str)(scope:Scope)(f:Addr)(cd:Value)(A:Around)(outer:List Env)(s:Shared)(H:Hp)(E:XK):Cx where
 prog:=P
 w:=w
 K:=K
 mg:=mg
 base:=base
 A:=A.deeper (envOfC qual scope s.heap.objs.size f cd)
 N:=N
 s₀:=s
 H₀:=H
 env:=envOfC qual scope s.heap.objs.size f cd
 outer:=outer
 stack:=envOfC qual scope s.heap.objs.size f cd::outer
 ex:=[]
 calm:=true
 fn:=fun _=>true
 pn:=[]
 xe:=fun e s'=>wpAny (model P w) (A.deeper (envOfC qual scope s.heap.objs.size f cd)) (leaving (envOfC qual scope s.heap.objs.size f cd) e) (fun _ s''=>CX outer H s E e s'') (fun e' s''=>CX outer H s E e' s'') s'
theorem qb{sc:Scope}{n:Nat}{x:Str}(h:sc.names.lookup x=some .cell):∃c,(cellsFrom n sc.names []).lookup x=some c:=by
 have q:=PySem.W.cellsFrom_some sc.names n [] (.inl h)
 exact Option.isSome_iff_exists.mp q
theorem mY{CX:CXT}{P:Program}{w:World}{K:PySem.W.Frag}{mg:Str→Option Value}{base:Heap}{N ps:List Str}{qual:Str}{scope:Scope}{f:Addr}{cd:Value}{A:Around}{outer:List Env}{s s1:Shared}{H:Hp}{E:XK}{us:List Value}{vs:List V}
 (S:ub N ps scope) (hd:A.handled=none) (e0:gB P w K mg base A outer s H) (hl:vs.length=ps.length) (r:Vals vs us)
 (x:InCallC s s.heap.objs.size (bindL (envOfC qual scope s.heap.objs.size f cd).kindOf (ps.zip us) fun _=>none) (cellsFrom (s.heap.objs.size+1) scope.names []) (bindC (envOfC qual scope s.heap.objs.size f cd).kindOf (ps.zip us) fun _=>none) s1) :
 Inv (p5 CX P w K mg base N qual scope f cd A outer s H E) [] (start N vs) H s1:=by
 have hpl:ps.length≤N.length:=by have:=congrArg List.length S.pre;rw[List.length_take]at this;omega
 obtain⟨h1,tk,rfl,hk⟩:=x.done
 have noA:∀b:Addr,b ∉ (p5 CX P w K mg base N qual scope f cd A outer s H E).ex:=fun b z=>absurd (show b∈([]:List Addr) from z) (by simp)
 refine⟨⟨e0.mod,S.kind,rfl,rfl,Nat.le_refl _,fun y z c h1 h2=>?_,fun y hy=>?_,fun y c _ h=>?_,fun _=>hd,Around.frames_deeper e0.frames,.inr ⟨rfl,rfl⟩,fun b z=>absurd z (noA b),e0.bs,e0.bsz,fun b _ _=>noA b,fun b z=>absurd z (noA b),e0.u5,e0.frf⟩,
  rfl,e0.bare,Un.kept hk,⟨_,x.toInCall.ns,fun i y v h1 h2 h3=>?_⟩,fun y c h=>⟨_,x.cell y c h⟩,e0.hok.fresh (Nat.le_refl _),fun y c h=>?_,fun p hp=>absurd (show p∈([]:List (Addr × Obj)) from hp) (by simp),e0.hok.kept hk,?_⟩
 . exact name_of_addr x.apart (PySem.mem_of_lookup h1) (PySem.mem_of_lookup h2)
 . have hy:scope.names.lookup y=some .cell∨scope.names.lookup y=some .free:=hy
   rcases hy with hy|hy
   . exact qb hy
   . exact absurd rfl (S.nofree _ (PySem.mem_of_lookup hy))
 . exact Nat.le_of_lt (x.above y c (PySem.mem_of_lookup h))
 . have hi:i<vs.length:=by
    unfold start at h2
    by_cases hi:i<vs.length
    . exact hi
    . rw[List.getElem?_append_right (by simpa using hi)]at h2
      rw[List.getElem?_replicate]at h2
      split at h2<;>cases h2
   have ha:vs[i]?=some v:=by
    unfold start at h2
    rw[List.getElem?_append_left (by simpa using hi),List.getElem?_map]at h2
    cases e:vs[i]? with
    |none=>rw[e]at h2;cases h2
    |some a=>rw[e]at h2;cases h2;rfl
   obtain⟨u,hu,rv⟩:=r.get ha
   have hp:ps[i]?=some y:=by
    rw[←S.pre,List.getElem?_take_of_lt (by omega)];exact h1
   have ndP:ps.Nodup:=by rw[←S.pre];exact S.nd.sublist (List.take_sublist _ _)
   refine⟨u,rv,?_⟩
   rcases S.par y (List.mem_of_getElem? hp) with k|k
   . exact .inl ⟨k,sm ndP hp hu k⟩
   . obtain⟨c,e⟩:=qb (n:=s.heap.objs.size+1) k
     refine .inr ⟨.inl k,c,e,?_⟩
     have q:=x.cell y c e
     rw[sj ndP hp hu (by show scope.names.lookup y≠_;rw[k];decide)]at q
     exact q
 . exact e0.hok.fresh (Nat.le_of_lt (x.above y c (PySem.mem_of_lookup h)))
 . unfold start
   show _=N.length
   rw[List.length_append,List.length_map,List.length_replicate]
   omega
theorem ZZ{CX:CXT}{P:Program}{w:World}{K:PySem.W.Frag}{mg:Str→Option Value}{base:Heap}{k:Nat}{f:Addr}{name qual:Str}{params:Arguments}{body:List Stmt}{scope:Scope}{dV kV doc pm cdv ct oc:Value}{an od:Option Addr}
 {osl:Array (Option Value)} {N ps:List Str} {sp:Sp} (lk:K.lookup f=some ⟨oc,od,.func (PySem.W.fnOf name qual params body scope dV kV doc pm an cdv ct),osl⟩) (hcd:PySem.W.codeIn K cdv qual=true) (S:ub N ps scope)
 (len:∀vs H Q E,sp vs H Q E→vs.length=ps.length)
 (hbody:∀(A:Around) (outer:List Env) (s:Shared) (H:Hp) (vs:List V) (Q:VK) (E:XK),yn k (A.deeper (envOfC qual scope s.heap.objs.size f cdv))→sp vs H Q E →
  ∃t,PSs (p5 CX P w K mg base N qual scope f cdv A outer s H E) body t∧t {nx:=fun _ H'=>Q .non H',rt:=Q} (start N vs) H) :
 uU P w K mg base CX (k+1) f (PySem.W.fnOf name qual params body scope dV kV doc pm an cdv ct) ps sp:=by
 refine⟨len,fun A outer s H args us vs Q E hr e0 hb r hsp=>?_⟩
 have hl:=len _ _ _ _ hsp
 have KX:K.In s.heap:=e0.mod.kin.keeps fun b o e=>(e0.bs b o e).1
 have lim:s.heap.NoLimit:=e0.mod.nolimit.keeps fun b o e=>(e0.bs b o e).1
 have hkind:∀y∈ps.zip us,scope.names.lookup y.1=some .local∨(scope.names.lookup y.1=some .cell∧((cellsFrom (s.heap.objs.size+1) scope.names []).lookup y.1).isSome=true):=fun⟨n,v⟩ hy=>by
  rcases S.par n (List.of_mem_zip hy).1 with q|q
  . exact .inl q
  . exact .inr ⟨q,PySem.W.cellsFrom_some _ _ _ (.inl q)⟩
 refine codeAny_call_function hr.depth (KX _ _ lk) rfl S.co S.gen rfl (PySem.W.codeRec_of KX hcd) (hb _ _ _ _ ?_)
 refine wpAny_newFunctionEnv_cells S.kind hkind fun env he s1 x=>?_
 subst he
 refine⟨lim.keeps x.toInCall.keep,codeAny_func ?_⟩
 obtain⟨t,ht,hq⟩:=hbody A outer s H vs Q E (hr.deeper _) hsp
 have I:Inv (p5 CX P w K mg base N qual scope f cdv A outer s H E) [] (start N vs) H s1:=mY S hr.hd e0 hl r x
 refine wpAny_mono (ht [] s1 (start N vs) H _ I hq) (fun fl s' hs=>?_) fun e s' hs=>hs
 have fin:∀{σ':St} {H':Hp} {v:V} {u:Value},Inv (p5 CX P w K mg base N qual scope f cdv A outer s H E) [] σ' H' s'→RelV v u→Q v H'→CE outer P w H s Q u s':=
  fun{σ' H' v u} J rv q=>⟨v,H',J.os,J.bare,J.base,J.hok,rv,q⟩
 cases fl with
 |ret u=>
  obtain⟨v,σ',H',J,rv,q⟩:=hs
  exact fin J rv q
 |next=>
  obtain⟨σ',H',J,q⟩:=hs
  exact fin (v:=V.non) (u:=Value.none) J rfl q
 |brk=>
  obtain⟨_,_,_,q⟩:=hs
  exact False.elim q
 |cont=>
  obtain⟨_,_,_,q⟩:=hs
  exact False.elim q
end L2
namespace L2
open PySem PySem.Spec PyProof.Rows
section
variable {X:Cx}{x:Str}{p pos:Pos}{e:Expr}{es:List Expr}{t:TA}{id T:String}{r:List V→Hp→VK→Prop}
noncomputable def tCB(r:List V→Hp→VK→Prop)(t:TA):TE:=fun σ H Q=>t σ H fun vs H1=>r vs H1 Q
theorem jv(hc:yN X (.builtin id) r)(hg:Gl X x)(hm:X.mg x=none)(hv:bootBuiltins x=some (.builtin id))(ha:PA X (e::es) t)(hn:x≠"__name__":=by decide)(hdb:(x == ("__debug__":Str))=false:=by decide)
 (he:starEach (e::es) X.env=(false,eval e X.env)::starEach es X.env:=by rfl) (hpl:(backTo pos (starEach es X.env)).any (·.1)=false:=by rfl):PE X (.Call (.Name x p) (e::es) [] pos) (tCB r t):=by
 intro pins s σ H Q I h
 refine wpAny_Call_Name_kw (xA I hg hm hv ?_ hn hdb)
 exact PyProof.Rows.callWith_builtin1 (thn (ha pos pins s σ H _ I h) fun us s1 ⟨vs,H1,I1,r1,q1⟩=>hc pins s1 σ H1 vs us Q I1 r1 q1) he hpl
theorem we(hc:yN X (.type T) r)(hg:Gl X x)(hm:X.mg x=none)(hv:bootBuiltins x=some (.type T))(ha:PA X (e::es) t)(hn:x≠"__name__":=by decide)(hdb:(x == ("__debug__":Str))=false:=by decide)
 (he:starEach (e::es) X.env=(false,eval e X.env)::starEach es X.env:=by rfl) (hpl:(backTo pos (starEach es X.env)).any (·.1)=false:=by rfl):PE X (.Call (.Name x p) (e::es) [] pos) (tCB r t):=by
 intro pins s σ H Q I h
 refine wpAny_Call_Name_kw (xA I hg hm hv ?_ hn hdb)
 exact PyProof.Rows.callWith_type1 (thn (ha pos pins s σ H _ I h) fun us s1 ⟨vs,H1,I1,r1,q1⟩=>hc pins s1 σ H1 vs us Q I1 r1 q1) he hpl
end
end L2
namespace HT
open PySem PyProof.Rows
section
variable {prog:Program}{w:World}{A:Around}{E:Value→Shared→Prop}{s:Shared}
theorem gJ{t b:Addr}{vs ws:List Value}{Q:Value→Shared→Prop}(ht:IsTup s.heap t vs.toArray)(hb:IsTup s.heap b ws.toArray)(hv:vs≠[])
 (h1:ws=[]→Q (.ref t) s) (h2:ws≠[]→Q (.ref s.heap.objs.size) {s with heap:=s.heap.push {cls:=.type "tuple",data:=.seq (vs++ws).toArray}})
 (hsz:vs.length+ws.length≤sizeLine):wpAny (model prog w) A (binaryOp .Add (.ref t) (.ref b)) Q E s:=by
 obtain⟨⟨cls,dd,data,sl⟩,ho,hc,n,hd⟩:=id ht
 obtain⟨⟨cls2,dd2,data2,sl2⟩,ho2,hc2,n2,hd2⟩:=id hb
 simp only at hc hd hc2 hd2
 subst hc hd hc2 hd2
 have e:vs.toArray++ws.toArray=(vs++ws).toArray:=by simp
 by_cases hw:ws=[]
 . exact concat_meets ⟨_,ho,rfl⟩ ⟨_,ho2,rfl⟩ noFill_tuple_add seq_tuple_add PySem.F.slot_tuple_add PySem.F.entry_tuple_add (PySem.F.args_tuple_add_2 _ _)
    (tuple_addW1 t b vs.toArray ws.toArray n n2 dd dd2 sl sl2 (by simpa using hv) (by simp[hw])) ⟨ho,ho2,h1 hw⟩
 . refine concat_meets ⟨_,ho,rfl⟩ ⟨_,ho2,rfl⟩ noFill_tuple_add seq_tuple_add PySem.F.slot_tuple_add PySem.F.entry_tuple_add (PySem.F.args_tuple_add_2 _ _)
    (tuple_addW2 t b vs.toArray ws.toArray n n2 dd dd2 sl sl2 (by simpa using hv) (by simpa using hw) (by rw[List.size_toArray,List.size_toArray];exact hsz)) ⟨ho,ho2,?_⟩
   rw[e]
   exact h2 hw
noncomputable def sIx(n d:Nat):Option Int→Nat
 |none=>d
 |some v=>if v<0 then (v+(n:Int)).toNat else min v.toNat n
theorem au(n d:Nat)(hd:d≤n)(o:Option Int):sIx n d o≤n:=by
 cases o with
 |none=>exact hd
 |some v=>
  show (if v<0 then (v+(n:Int)).toNat else min v.toNat n)≤n
  by_cases hv:v<0
  . rw[if_pos hv];omega
  . rw[if_neg hv];exact Nat.min_le_right _ _
theorem nT(v:Int)(n d:Nat):(if v<0 then max (v+(n:Int)) 0 else min v (n:Int))=((sIx n d (some v):Nat):Int):=by
 show (if v<0 then max (v+(n:Int)) 0 else min v (n:Int))=(((if v<0 then (v+(n:Int)).toNat else min v.toNat n):Nat):Int)
 by_cases hv:v<0
 . simp only[if_pos hv];omega
 . simp only[if_neg hv];omega
theorem ph(lo hi:Option Int)(n:Nat):Builtin.Slice.sliceAdjust lo hi 1 (n:Int)=(((sIx n 0 lo:Nat):Int),((sIx n n hi:Nat):Int)):=by
 have h1:¬((1:Int)<0):=by omega
 unfold Builtin.Slice.sliceAdjust
 simp only[h1,if_false]
 refine Prod.ext ?_ ?_
 . cases lo with
   |none=>rfl
   |some v=>exact nT v n 0
 . cases hi with
   |none=>rfl
   |some v=>exact nT v n n
theorem oh(i j:Nat):Builtin.Slice.slicePlaces (i:Int) (j:Int) 1=j-i:=by
 unfold Builtin.Slice.slicePlaces
 have h1:(1:Int) > 0:=by omega
 simp only[h1,if_true,Int.ediv_one]
 split<;>omega
theorem xO{v:Value}{o:Option Int}{Q:Option Int→Shared→Prop}(p:IsPart v o)(h:Q o s):wpAny (model prog w) A (Builtin.Slice.slicePartIndex v) Q E s:=by
 cases p with
 |none=>exact slicePart_none h
 |int i t=>exact slicePart_int h
theorem xk{sl:Addr}{vl vu:Value}{lo hi:Option Int}{n:Nat}{Q:Int × Int × Nat→Shared→Prop}(hs:s.heap.IsSliceOf sl vl vu .none)(pl:IsPart vl lo)(pu:IsPart vu hi)
 (h:Q (((sIx n 0 lo:Nat):Int),1,sIx n n hi-sIx n 0 lo) s):wpAny (model prog w) A (Builtin.Slice.sliceApplied (.ref sl) (pure (n:Int))) Q E s:=by
 obtain⟨os,hos,hcs,hds⟩:=id hs
 unfold Builtin.Slice.sliceApplied Builtin.Slice.sliceFields
 refine wpAny_bind (wpAny_bind (wpAny_field hos hds (x:=vl) rfl (wpAny_bind (wpAny_field hos hds (x:=vu) rfl (wpAny_bind (wpAny_field hos hds (x:=.none) rfl (wpAny_pure ?_)))))))
 refine wpAny_bind (slicePart_none ?_)
 show wpAny _ _ (if ((1:Int) == 0)=true then _ else _) _ _ s
 rw[if_neg (by decide)]
 refine wpAny_bind (xO pl (wpAny_bind (xO pu (wpAny_bind (wpAny_pure ?_)))))
 show wpAny _ _ (match Builtin.Slice.sliceAdjust lo hi 1 (n:Int) with|(lo,hi)=>pure (lo,(1:Int),Builtin.Slice.slicePlaces lo hi 1)) _ _ s
 rw[ph lo hi n]
 show wpAny _ _ (pure (((sIx n 0 lo:Nat):Int),(1:Int),Builtin.Slice.slicePlaces ((sIx n 0 lo:Nat):Int) ((sIx n n hi:Nat):Int) 1)) _ _ s
 rw[oh]
 exact wpAny_pure h
theorem j8(xs:Array Value)(i k:Nat):((List.range k).filterMap fun(m:Nat)=>xs[((i:Int)+(m:Int)*1).toNat]?).toArray=((xs.toList.drop i).take k).toArray:=by
 have e:(fun(m:Nat)=>xs[((i:Int)+(m:Int)*1).toNat]?)=fun m=>xs[i+m]?:=by
  funext m
  have:((i:Int)+(m:Int)*1).toNat=i+m:=by omega
  rw[this]
 rw[e]
 have:=pick_run xs i k
 rw[List.filterMap_map]at this
 have e2:((fun x=>xs[x]?)∘fun x=>i+x)=fun m=>xs[i+m]?:=rfl
 rw[e2]at this
 rw[this]
theorem vU{t sl:Addr}{items:Array Value}{vl vu:Value}{lo hi:Option Int}{Q:Value→Shared→Prop}(ht:IsTup s.heap t items)(hs:s.heap.IsSliceOf sl vl vu .none)(pl:IsPart vl lo)(pu:IsPart vu hi)
 (hw:¬(sIx items.size 0 lo=0∧sIx items.size items.size hi=items.size))
 (h:Q (.ref s.heap.objs.size) {s with heap:=s.heap.push {cls:=.type "tuple",data:=.seq ((items.toList.drop (sIx items.size 0 lo)).take (sIx items.size items.size hi-sIx items.size 0 lo)).toArray}})
 (hsz:items.size≤sizeLine):wpAny (model prog w) A (getItem (.ref t) (.ref sl)) Q E s:=by
 have htake:sizeOk (.seq ((items.toList.drop (sIx items.size 0 lo)).take (sIx items.size items.size hi-sIx items.size 0 lo)).toArray):=by
  show ((items.toList.drop (sIx items.size 0 lo)).take (sIx items.size items.size hi-sIx items.size 0 lo)).toArray.size≤sizeLine
  rw[List.size_toArray,List.length_take,List.length_drop,Array.length_toList]
  omega
 have hj:sIx items.size items.size hi≤items.size:=au _ _ (Nat.le_refl _) hi
 obtain⟨os,hos,hcs,hds⟩:=id hs
 have hTs:s.TypeIs (.ref sl) "slice":=⟨os,hos,hcs⟩
 unfold getItem
 try with_reducible refine wpAny_holding ?_
 first|refine wpAny_bind (wpAny_pure ?_)|skip
 refine wpAny_bind (wpAny_sequenceKey ht.typeIs (by decide) ?_)
 refine wpAny_bind (wpAny_callSpecial?_slot (name:=Str.ofString "__getitem__") ht.typeIs PyProof.Rows.slot_tuple_getitem
  (wpAny_call_entry PyProof.Rows.slot_tuple_getitem ht.typeIs entry_tuple_getitem ?_ (args_tuple_getitem _ _)))
 show wpAny _ _ (Builtin.Tuple.tupleItemsOf (.ref t) >>= _) _ _ s
 refine wpAny_bind (tupleItemsOf_ ht ?_)
 refine wpAny_bind (wpAny_typeOf hTs ?_)
 rw[if_pos (by decide)]
 refine wpAny_bind (xk hs pl pu ?_)
 have hno:¬((((sIx items.size 0 lo:Nat):Int) == 0&&(1:Int) == 1&&(sIx items.size items.size hi-sIx items.size 0 lo) == items.size)=true):=by
  intro q
  rw[Bool.and_eq_true,Bool.and_eq_true]at q
  have q1:((sIx items.size 0 lo:Nat):Int)=0:=eq_of_beq q.1.1
  have q2:sIx items.size items.size hi-sIx items.size 0 lo=items.size:=eq_of_beq q.2
  exact hw ⟨by omega,by omega⟩
 show wpAny _ _ (if (((sIx items.size 0 lo:Nat):Int) == 0&&(1:Int) == 1&&(sIx items.size items.size hi-sIx items.size 0 lo) == items.size)=true then _ else _) _ _ s
 rw[if_neg hno,j8]
 first
  |exact wpAny_bind (m:=Builtin.Tuple.tupleExact _) (wpAny_newObj_type (wpAny_pure ⟨_,rfl,wpAny_pure h⟩) htake)
  |exact wpAny_bind (m:=Builtin.Tuple.tupleExact _) (wpAny_newObj_type (wpAny_bind (wpAny_pure (wpAny_pure ⟨_,rfl,wpAny_pure h⟩))) htake)
  |exact wpAny_bind (wpAny_bind (m:=Builtin.Tuple.tupleExact _) (wpAny_newObj_type (wpAny_pure (wpAny_pure ⟨_,rfl,wpAny_pure h⟩)) htake))
  |exact wpAny_bind (wpAny_bind (m:=Builtin.Tuple.tupleExact _) (wpAny_newObj_type (wpAny_pure ⟨_,rfl,wpAny_pure h⟩) htake))
end
end HT
namespace L2
open PySem PySem.Spec PyProof.Rows
noncomputable abbrev TO:=St→Hp→(Option Int→Hp→Prop)→Prop
def PO(X:Cx)(e:Option Expr)(t:TO):Prop:=
 ∀(pins:List (Addr × Obj)) (s:Shared) (σ:St) (H:Hp) (Q:Option Int→Hp→Prop),Inv X pins σ H s→t σ H Q →
  wpAny (model X.prog X.w) X.A (evalPart e X.env) (fun u s'=>∃o H',Inv X pins σ H' s'∧IsPart u o∧Q o H') X.xe s
noncomputable def eQ:TO:=fun _ H Q=>Q none H
noncomputable def Yx(t:TE):TO:=fun σ H Q=>t σ H fun x H1=>∃i,x=.int i∧Q (some i) H1
section
variable {X:Cx}{e:Expr}{te:TE}{lo hi:Option Expr}{tl th:TO}{pos p2:Pos}
theorem fm:PO X none eQ:=by
 intro pins s σ H Q I h
 rw[evalPart_none]
 exact wpAny_pure ⟨none,H,I,.none,h⟩
theorem fo(h:PE X e te):PO X (some e) (Yx te):=by
 intro pins s σ H Q I hw
 rw[evalPart_some]
 refine thn (h pins s σ H _ I hw) fun u s1 ⟨x,H1,I1,r1,q1⟩=>?_
 obtain⟨i,rfl,q⟩:=q1
 obtain⟨t,rfl⟩:=r1
 exact⟨some i,H1,I1,.int i t,q⟩
def SlR(X:Cx)(r:V→Option Int→Option Int→Hp→VK→Prop):Prop:=
 ∀(pins:List (Addr × Obj)) (s:Shared) (σ:St) (H:Hp) (x:V) (v vl vu:Value) (lo hi:Option Int) (sl:Addr) (Q:VK),Inv X pins σ H s→RelV x v→s.heap.IsSliceOf sl vl vu .none→IsPart vl lo→IsPart vu hi→r x lo hi H Q →
  ∃T id,typeLookup (.type T) "__getitem__"=pure (some (.builtin id))∧s.TypeIs v T∧wpAny (model X.prog X.w) X.A (getItem v (.ref sl)) (EP X pins σ Q) X.xe s
noncomputable def tSl(r:V→Option Int→Option Int→Hp→VK→Prop)(te:TE)(tl th:TO):TE:=fun σ H Q=>te σ H fun x H1=>tl σ H1 fun l H2=>th σ H2 fun u H3=>r x l u H3 Q
theorem j5{r:V→Option Int→Option Int→Hp→VK→Prop}(hr:SlR X r)(he:PE X e te)(hl:PO X lo tl)(hu:PO X hi th):PE X (.Subscript e (.Slice lo hi none p2) pos) (tSl r te tl th):=by
 intro pins s σ H Q I h
 refine Subscript_ (thn (he pins s σ H _ I h) fun v s1 ⟨x,H1,I1,r1,q1⟩=>?_)
 refine wpAny_Slice (thn (hl pins s1 σ H1 _ I1 q1) fun vl s2 ⟨l,H2,I2,pl,q2⟩=>thn (hu pins s2 σ H2 _ I2 q2) fun vu s3 ⟨u,H3,I3,pu,q3⟩=>?_)
 rw[evalPart_none]
 refine wpAny_pure ?_
 have I4:Inv X pins σ H3 {s3 with heap:=s3.heap.push {cls:=.type "slice",data:=.fields #[vl,vu,.none]}}:=I3.kept (t':=s3.toks) fun b ob q=>Heap.get?_push_of_some _ q
 obtain⟨T,id,hT,ht,hg⟩:=hr pins {s3 with heap:=s3.heap.push {cls:=.type "slice",data:=.fields #[vl,vu,.none]}} σ H3 x v vl vu l u s3.heap.objs.size Q I4 r1 (Heap.IsSliceOf.new ..) pl pu q3
 show wpAny (model X.prog X.w) X.A (subscriptTail e (.Slice lo hi none p2) v (.ref s3.heap.objs.size)) (EP X pins σ Q) X.xe {s3 with heap:=s3.heap.push {cls:=.type "slice",data:=.fields #[vl,vu,.none]}}
 exact tail_any (ops:=[.ref s3.heap.objs.size,v]) ht hT hg (by with_unfolding_all rfl)
noncomputable def sF(xs:List V)(lo hi:Option Int):List V:=(xs.drop (HT.sIx xs.length 0 lo)).take (HT.sIx xs.length xs.length hi-HT.sIx xs.length 0 lo)
theorem uL(xs:List V)(lo hi:Option Int):(sF xs lo hi).length≤xs.length:=by
 unfold sF
 rw[List.length_take,List.length_drop]
 omega
noncomputable def XT(K:PySem.W.Frag):V→Option Int→Option Int→Hp→VK→Prop:=fun x lo hi H Q=>∃a xs,x=.ref a∧SqT K H a xs ∧
 ¬(HT.sIx xs.length 0 lo=0∧HT.sIx xs.length xs.length hi=xs.length)∧∀p,H p=none→Q (.ref p) (upd H p (.tup (sF xs lo hi)))
theorem aw:SlR X (XT X.K):=by
 intro pins s σ H x v vl vu lo hi sl Q I rx hs pl pu h
 obtain⟨a,xs,rfl,hx,hw,q⟩:=h
 cases rx
 obtain⟨its,r,ht,hz⟩:=I.tuple hx
 have hlen:its.toArray.size=xs.length:=by rw[List.size_toArray];exact r.length.symm
 refine⟨"tuple",_,PyProof.Rows.slot_tuple_getitem.lookup,ht.typeIs,?_⟩
 refine HT.vU ht hs pl pu (by rw[hlen];exact hw) ?_ (by rw[hlen];exact hz)
 rw[hlen]
 refine⟨.ref s.heap.objs.size,_,I.laid (t':=s.toks) (o:=.tup (sF xs lo hi)) (fun b ob q=>Heap.get?_push_of_some _ q) (Nat.le_refl _) ?_,rfl,q _ (I.hok.fresh (Nat.le_refl _))⟩
 exact⟨Nat.le_trans (uL xs lo hi) hz,_,(r.drop (HT.sIx xs.length 0 lo)).take (HT.sIx xs.length xs.length hi-HT.sIx xs.length 0 lo),vC.new _ _⟩
noncomputable def Yd(K:PySem.W.Frag):R2:=fun x y H Q=>∃a b xs ys,x=.ref a∧y=.ref b∧SqT K H a xs∧SqT K H b ys∧xs≠[]∧xs.length+ys.length≤sizeLine ∧
 (ys=[]→Q (.ref a) H)∧(ys≠[]→∀p,H p=none→Q (.ref p) (upd H p (.tup (xs++ys))))
theorem Vals.xU{xs:List V}{us:List Value}(r:Vals xs us):us=[]↔xs=[]:=by
 cases r with
 |nil=>simp
 |cons _ _=>simp
theorem fG:OpR X (binaryOp .Add) (Yd X.K):=by
 intro pins s σ H x y v u Q I rx ry h
 obtain⟨a,b,xs,ys,rfl,rfl,ha,hb,hx,hz,q1,q2⟩:=h
 cases rx
 cases ry
 obtain⟨its,r1,p1,_⟩:=I.tuple ha
 obtain⟨its2,r2,p2,_⟩:=I.tuple hb
 refine HT.gJ p1 p2 (fun z=>hx (r1.xU.mp z)) (fun z=>⟨.ref a,H,I,rfl,q1 (r2.xU.mp z)⟩) (fun z=>?_) (by rw[←r1.length,←r2.length];exact hz)
 refine⟨.ref s.heap.objs.size,_,I.laid (t':=s.toks) (o:=.tup (xs++ys)) (fun b ob q=>Heap.get?_push_of_some _ q) (Nat.le_refl _) ?_,rfl,q2 (fun w=>z (r2.xU.mpr w)) _ (I.hok.fresh (Nat.le_refl _))⟩
 exact⟨by rw[List.length_append];exact hz,_,r1.append r2,vC.new _ _⟩
end
end L2
namespace L2
open PySem PySem.Spec PyProof.Rows
noncomputable def ixN(n:Nat)(i:Int):Option Nat:=if 0≤i then (if i<n then some i.toNat else none) else if -(n:Int)≤i then some (i+n).toNat else none
noncomputable def atI{α:Type}(xs:List α)(i:Int):Option α:=(ixN xs.length i).bind fun j=>xs[j]?
theorem nv{n:Nat}{i:Int}{j:Nat}(h:ixN n i=some j):seqIndex? i n=some j∧j<n∧-(n:Int)≤i∧i<n:=by
 unfold ixN at h
 by_cases h0:0≤i
 . rw[if_pos h0]at h
   by_cases h1:i<n
   . rw[if_pos h1]at h
     have e:i.toNat=j:=Option.some.inj h
     exact⟨by rw[seqIndex_of h0 h1,e],by omega,by omega,h1⟩
   . rw[if_neg h1]at h;cases h
 . rw[if_neg h0]at h
   by_cases h1:-(n:Int)≤i
   . rw[if_pos h1]at h
     have e:(i+n).toNat=j:=Option.some.inj h
     exact⟨by rw[seqIndex_neg (by omega) h1,e],by omega,h1,by omega⟩
   . rw[if_neg h1]at h;cases h
theorem rY{α:Type}{xs:List α}{i:Int}{v:α}(h:atI xs i=some v):∃j,seqIndex? i xs.length=some j∧xs[j]?=some v∧j<xs.length∧-(xs.length:Int)≤i∧i<xs.length:=by
 unfold atI at h
 cases e:ixN xs.length i with
 |none=>rw[e]at h;cases h
 |some j=>
  rw[e]at h
  obtain⟨h1,h2,h3,h4⟩:=nv e
  exact⟨j,h1,h,h2,h3,h4⟩
theorem uc{α:Type}{xs:List α}{j:Nat}{v:α}(h:xs[j]?=some v):atI xs (j:Int)=some v:=by
 have hj:j<xs.length:=(List.getElem?_eq_some_iff.mp h).1
 have e:ixN xs.length (j:Int)=some j:=by
  unfold ixN
  rw[if_pos (by omega),if_pos (by omega)];simp
 unfold atI;rw[e];exact h
def nQ(b:Expr):Prop:=∀o i,subscripted b false o i=operate [o,i] (getItem o i)
def IxR(X:Cx)(r:R2):Prop:=
 ∀(value slice:Expr) (pins:List (Addr × Obj)) (s:Shared) (σ:St) (H:Hp) (x y:V) (v u:Value) (Q:VK),Inv X pins σ H s→RelV x v→RelV y u→r x y H Q →
  subscripted slice false v u=operate [v,u] (getItem v u)→wpAny (model X.prog X.w) X.A (subscriptTail value slice v u) (EP X pins σ Q) X.xe s
def MtR(X:Cx)(id:String)(r:V→List V→Hp→VK→Prop):Prop:=
 ∀(pins:List (Addr × Obj)) (s:Shared) (σ:St) (H:Hp) (x:V) (xs:List V) (v:Value) (us:List Value) (Q:VK),Inv X pins σ H s→RelV x v→Vals xs us→r x xs H Q →
  wpAny (model X.prog X.w) X.A (call (.builtin id) (v::us)) (EP X pins σ Q) X.xe s
section
variable {X:Cx}{a b:Expr}{ta tb:TE}{pos:Pos}
theorem IxR.or{r r':R2}(h:IxR X r)(h':IxR X r'):IxR X (fun x y H Q=>r x y H Q∨r' x y H Q):=by
 intro value slice pins s σ H x y v u Q I rx ry q hs
 rcases q with q|q
 . exact h value slice pins s σ H x y v u Q I rx ry q hs
 . exact h' value slice pins s σ H x y v u Q I rx ry q hs
theorem YR{r:R2}(hr:IxR X r)(ha:PE X a ta)(hb:PE X b tb)(hs:nQ b):PE X (.Subscript a b pos) (tOp r ta tb):=by
 intro pins s σ H Q I h
 exact Subscript_ (cC ha hb I h fun v u s2 x y H2 I2 rx ry q=>hr a b pins s2 σ H2 x y v u Q I2 rx ry q (hs _ _))
noncomputable def Ye(K:PySem.W.Frag):R2:=fun x y H Q=>∃p xs i v,x=.ref p∧y=.int i∧SqL K H p xs∧atI xs i=some v∧Q v H
noncomputable def Yg(K:PySem.W.Frag):R2:=fun x y H Q=>∃p xs i v,x=.ref p∧y=.int i∧SqT K H p xs∧atI xs i=some v∧Q v H
noncomputable def Yf:R2:=fun x y H Q=>∃z i c,x=.str z∧y=.int i∧z.length≤sizeLine∧atI z.cps.toList i=some c∧Q (.str ⟨#[c]⟩) H
theorem gY:IxR X (Ye X.K):=by
 intro value slice pins s σ H x y v u Q I rx ry h hs
 obtain⟨p,xs,i,z,rfl,rfl,hq,he,q⟩:=h
 cases rx
 obtain⟨t,rfl⟩:=ry
 obtain⟨its,r,pl,hz⟩:=I.list hq
 obtain⟨j,h1,h2,h3,h4,h5⟩:=rY he
 obtain⟨w,ew,rw'⟩:=r.get h2
 have hl:=r.length
 have hn:=vH
 have fin:EP X pins σ Q w s:=⟨z,H,I,rw',q⟩
 by_cases h0:0≤i
 . have hj:i.toNat=j:=by
    rw[seqIndex_of h0 h5]at h1
    exact Option.some.inj h1
   exact item_listR pl.isList h0 (by omega) (by rw[hj];simpa using ew) fin hs
 . have hj:(i+(its.toArray.size:Int)).toNat=j:=by
    rw[seqIndex_neg (by omega) h4]at h1
    rw[List.size_toArray,←hl]
    exact Option.some.inj h1
   exact subscriptTail_builtinR (x:=w) pl.isList.typeIs slot_list_getitem.lookup
    (wpAny_getItem_list_neg (Q:=fun r s'=>r=w∧EP X pins σ Q r s') pl.isList (by omega) (by rw[List.size_toArray]<;>omega) (by omega) (by rw[hj];simpa using ew) ⟨rfl,fin⟩) hs
theorem cm:IxR X (Yg X.K):=by
 intro value slice pins s σ H x y v u Q I rx ry h hs
 obtain⟨p,xs,i,z,rfl,rfl,hq,he,q⟩:=h
 cases rx
 obtain⟨t,rfl⟩:=ry
 obtain⟨its,r,pl,hz⟩:=I.tuple hq
 obtain⟨j,h1,h2,h3,h4,h5⟩:=rY he
 obtain⟨w,ew,rw'⟩:=r.get h2
 have hl:=r.length
 have hn:=vH
 have fin:EP X pins σ Q w s:=⟨z,H,I,rw',q⟩
 exact subscriptTail_builtinR (x:=w) pl.typeIs slot_tuple_getitem.lookup
  (getItem_tuple (j:=j) (Q:=fun r s'=>r=w∧EP X pins σ Q r s') pl (by omega) (by omega) (by rw[List.size_toArray,←hl];exact h1) (by simpa using ew) ⟨rfl,fin⟩) hs
theorem cj:IxR X Yf:=by
 intro value slice pins s σ H x y v u Q I rx ry h hs
 obtain⟨z,i,c,rfl,rfl,hz,he,q⟩:=h
 obtain⟨t,rfl⟩:=rx
 obtain⟨t',rfl⟩:=ry
 obtain⟨j,h1,h2,h3,h4,h5⟩:=rY he
 have hl:z.cps.toList.length=z.length:=by simp[Str.length]
 rw[hl]at h1 h4 h5
 have hn:=vH
 exact tail_any (typeIs_str s z t) slot_str_getitem.lookup (getItem_str (c:=c) (by
  have e1:decide (i < -(2 ^ 63:Int))=false:=decide_eq_false (by omega)
  have e2:decide (i ≥ 2 ^ 63)=false:=decide_eq_false (by omega)
  rw[e1,e2,Bool.or_false]) (by rw[h1];simpa using h2) ⟨.str ⟨#[c]⟩,H,I.tok _,⟨_,rfl⟩,q⟩) hs
noncomputable def rIx(K:PySem.W.Frag):R2:=fun x y H Q=>Ye K x y H Q∨Yg K x y H Q∨Yf x y H Q
theorem cg:IxR X (rIx X.K):=gY.or (cm.or cj)
theorem oJ(its:List Value)(n j:Nat)(u:Value):Obj.mapSeq (·.setIfInBounds j u) {cls:=.type "list",data:=.seq its.toArray n}={cls:=.type "list",data:=.seq (its.set j u).toArray n}:=by
 simp[Obj.mapSeq]
theorem Inv.lst{pins:List (Addr × Obj)}{σ:St}{H:Hp}{s:Shared}{p:Addr}{xs:List V}(I:Inv X pins σ H s)(h:H p=some (.lst xs)) :
 ∃(its:List Value) (n:Nat),Vals xs its∧s.heap.get? p=some {cls:=.type "list",data:=.seq its.toArray n}∧xs.length≤sizeLine:=by
 obtain⟨z,its,n,r,e⟩:=I.hok p _ h
 exact⟨its,n,r,e,z⟩
theorem Inv.bu{pins:List (Addr × Obj)}{σ:St}{H:Hp}{s:Shared}{p:Addr}{xs ys:List V}{its its':List Value}{n n':Nat}{f:Obj→Obj}(I:Inv X pins σ H s)(h:H p=some (.lst xs))
 (ho:s.heap.get? p=some {cls:=.type "list",data:=.seq its.toArray n}) (hf:f {cls:=.type "list",data:=.seq its.toArray n}={cls:=.type "list",data:=.seq its'.toArray n'}) (r:Vals ys its') (hz:ys.length≤sizeLine) (t:Nat) :
 Inv X pins σ (upd H p (.lst ys)) {s with heap:=s.heap.update p f,toks:=t}:=by
 have e:(s.heap.update p f).get? p=some {cls:=.type "list",data:=.seq its'.toArray n'}:=by
  rw[Heap.get?_update_self f ho (by rw[hf]<;>rfl),hf]
 refine I.write (x:=p) (e:=p) (by rw[h];trivial) (.inl rfl) (fun b u hb q=>(Heap.get?_update_other _ _ (Ne.symm hb)).trans q) ⟨_,e⟩ ?_
 exact⟨hz,its',n',r,e⟩
noncomputable def dW:V→V→V→Hp→(Hp→Prop)→Prop:=fun o i v H Q=>∃p xs k j,o=.ref p∧i=.int k∧H p=some (.lst xs)∧ixN xs.length k=some j∧Q (upd H p (.lst (xs.set j v)))
theorem set_list:ZQ X dW:=by
 intro pins s σ H o i v ov iv u Q I ro ri rv h
 obtain⟨p,xs,k,j,rfl,rfl,hp,hj,q⟩:=h
 cases ro
 obtain⟨t,rfl⟩:=ri
 obtain⟨its,n,r,ho,hz⟩:=I.lst hp
 obtain⟨h1,h2,h3,h4⟩:=nv hj
 have hl:=r.length
 have hn:=vH
 have I':Inv X pins σ (upd H p (.lst (xs.set j v))) {s with heap:=s.heap.update p (Obj.mapSeq (·.setIfInBounds j u))}:=
  I.bu hp ho (oJ its n j u) (r.set rv j) (by rw[List.length_set];exact hz) s.toks
 by_cases h0:0≤k
 . have hk:k.toNat=j:=by
    rw[seqIndex_of h0 h4]at h1
    exact Option.some.inj h1
   exact PySem.W.ki_setAt ho h0 (by omega) (by rw[List.size_toArray,←hl];exact h4) (by rw[hk];exact⟨_,I',q⟩)
 . have hk:(k+(its.toArray.size:Int)).toNat=j:=by
    rw[seqIndex_neg (by omega) h3]at h1
    rw[List.size_toArray,←hl]
    exact Option.some.inj h1
   exact PySem.W.ki_setBack ho (by omega) (by rw[List.size_toArray,←hl];exact h3) (by omega) (by rw[hk];exact⟨_,I',q⟩)
theorem qQ(lo hi:Option Int)(n:Nat):(sliceBounds lo hi none n).1=((HT.sIx n 0 lo:Nat):Int)∧(sliceBounds lo hi none n).2.1=((HT.sIx n n hi:Nat):Int)∧(sliceBounds lo hi none n).2.2=1:=by
 refine⟨?_,?_,rfl⟩
 . cases lo with
   |none=>simp[sliceBounds,HT.sIx]
   |some i=>
    simp only[sliceBounds,HT.sIx,Option.getD_none,show (1:Int) > 0 by decide,if_true]
    by_cases h:i<0
    . simp only[h,if_true]<;>omega
    . simp only[h,if_false]<;>omega
 . cases hi with
   |none=>simp[sliceBounds,HT.sIx]
   |some i=>
    simp only[sliceBounds,HT.sIx,Option.getD_none,show (1:Int) > 0 by decide,if_true]
    by_cases h:i<0
    . simp only[h,if_true]<;>omega
    . simp only[h,if_false]<;>omega
theorem sU(its:List Value)(lo hi:Option Int):slicePick its.toArray lo hi none=((its.drop (HT.sIx its.length 0 lo)).take (HT.sIx its.length its.length hi-HT.sIx its.length 0 lo)).toArray:=by
 obtain⟨h1,h2,h3⟩:=qQ lo hi its.toArray.size
 unfold slicePick
 rw[h1,h2,h3]
 simp only[sliceRange_one,pick_run,List.size_toArray]<;>rfl
noncomputable def XS(K:PySem.W.Frag):V→Option Int→Option Int→Hp→VK→Prop:=fun x lo hi H Q=>∃a xs,x=.ref a∧SqL K H a xs∧∀p,H p=none→Q (.ref p) (upd H p (.lst (sF xs lo hi)))
theorem eG:SlR X (XS X.K):=by
 intro pins s σ H x v vl vu lo hi sl Q I rx hs pl pu h
 obtain⟨a,xs,rfl,hx,q⟩:=h
 cases rx
 obtain⟨its,r,ht,hz⟩:=I.list hx
 have hlen:=r.length
 refine⟨"list",_,slot_list_getitem.lookup,ht.isList.typeIs,?_⟩
 refine wpAny_getItem_list_slice ht.isList hs pl pu .none (by simp) ?_ (by rw[List.size_toArray]<;>omega)
 rw[sU,←hlen]
 refine⟨.ref s.heap.objs.size,_,I.laid (t':=s.toks) (o:=.lst (sF xs lo hi)) (fun b ob q=>Heap.get?_push_of_some _ q) (Nat.le_refl _) ?_,rfl,q _ (I.hok.fresh (Nat.le_refl _))⟩
 exact⟨Nat.le_trans (uL xs lo hi) hz,_,0,(r.drop (HT.sIx xs.length 0 lo)).take (HT.sIx xs.length xs.length hi-HT.sIx xs.length 0 lo),Heap.get?_push_size _ rfl⟩
noncomputable def xR:V→Bool
 |.non=>true
 |.bl _=>true
 |.int _=>true
 |.str _=>true
 |_=>false
noncomputable def eqV:V→V→Bool
 |.non,.non=>true
 |.bl a,.bl b=>a == b
 |.bl a,.int b=>(if a then 1 else 0) == b
 |.int a,.bl b=>a == (if b then 1 else 0)
 |.int a,.int b=>a == b
 |.str a,.str b=>a == b
 |_,_=>false
theorem cP{A:Around}{s:Shared}{y x:V}{u v:Value}(ry:RelV y u)(rx:RelV x v)(fy:xR y=true)(fx:xR x=true):SeqAt.EqAt A s u v (eqV y x):=by
 cases y with
 |non=>
  cases ry
  cases x with
  |non=>cases rx;exact SeqAt.EqAt.same _
  |bl b=>cases rx;exact SeqAt.EqAt.none_bool b
  |int b=>obtain⟨t,rfl⟩:=rx;exact SeqAt.EqAt.none_int b t
  |str b=>obtain⟨t,rfl⟩:=rx;exact SeqAt.EqAt.none_str b t
  |_=>exact absurd (show false=true from fx) Bool.false_ne_true
 |bl a=>
  cases ry
  cases x with
  |non=>cases rx;exact SeqAt.EqAt.bool_none a
  |bl b=>cases rx;exact SeqAt.EqAt.bool_bool a b
  |int b=>obtain⟨t,rfl⟩:=rx;exact SeqAt.EqAt.bool_int a b t
  |str b=>obtain⟨t,rfl⟩:=rx;exact SeqAt.EqAt.bool_str a b t
  |_=>exact absurd (show false=true from fx) Bool.false_ne_true
 |int a=>
  obtain⟨t',rfl⟩:=ry
  cases x with
  |non=>cases rx;exact SeqAt.EqAt.int_none a t'
  |bl b=>cases rx;exact SeqAt.EqAt.int_bool a t' b
  |int b=>obtain⟨t,rfl⟩:=rx;exact SeqAt.EqAt.int_int a t' b t
  |str b=>obtain⟨t,rfl⟩:=rx;exact SeqAt.EqAt.int_str a t' b t
  |_=>exact absurd (show false=true from fx) Bool.false_ne_true
 |str a=>
  obtain⟨t',rfl⟩:=ry
  cases x with
  |non=>cases rx;exact SeqAt.EqAt.str_none a t'
  |bl b=>cases rx;exact SeqAt.EqAt.str_bool a t' b
  |int b=>obtain⟨t,rfl⟩:=rx;exact SeqAt.EqAt.str_int a t' b t
  |str b=>obtain⟨t,rfl⟩:=rx;exact SeqAt.EqAt.str_str a t' b t
  |_=>exact absurd (show false=true from fx) Bool.false_ne_true
 |_=>exact absurd (show false=true from fy) Bool.false_ne_true
noncomputable def eqU(x:V)(u:Value):Bool:=match u with
 |.none=>eqV .non x
 |.bool b=>eqV (.bl b) x
 |.int i _=>eqV (.int i) x
 |.str z _=>eqV (.str z) x
 |_=>false
theorem p7{x y:V}{u:Value}(r:RelV y u)(f:xR y=true):eqU x u=eqV y x:=by
 cases y with
 |non=>cases r;rfl
 |bl b=>cases r;rfl
 |int i=>obtain⟨t,rfl⟩:=r;rfl
 |str z=>obtain⟨t,rfl⟩:=r;rfl
 |_=>exact absurd (show false=true from f) Bool.false_ne_true
theorem vX{A:Around}{s:Shared}{x:V}{v:Value}(rx:RelV x v)(fx:xR x=true):∀{xs:List V} {us:List Value},Vals xs us→xs.all xR=true→∀u∈us,SeqAt.EqAt A s u v (eqU x u)
 |_,_,.nil,_=>fun u hu=>by cases hu
 |y::xs,u::us,.cons r t,f=>fun u' hu=>by
  rw[List.all_cons,Bool.and_eq_true]at f
  rcases List.mem_cons.mp hu with rfl|hu
  . rw[p7 r f.1];exact cP r rx f.1 fx
  . exact vX rx fx t f.2 u' hu
theorem rg:yN X (.builtin "len") (fun xs H Q=>∃p ys,xs=[.ref p]∧(SqL X.K H p ys∨SqT X.K H p ys)∧Q (.int ys.length) H):=by
 intro pins s σ H xs us Q I r h
 obtain⟨p,ys,rfl,hq,q⟩:=h
 obtain⟨u,rfl,rx⟩:=vals1 r
 cases rx
 have hn:=vH
 rcases hq with hq|hq
 . obtain⟨its,r',pl,hz⟩:=I.list hq
   have hlen:=r'.length
   exact Calls.call_len_list pl.isList (by simp only[List.size_toArray]<;>omega) ⟨.int ys.length,H,I.tok _,⟨s.toks+1,by rw[List.size_toArray,hlen]⟩,q⟩
 . obtain⟨its,r',pl,hz⟩:=I.tuple hq
   have hlen:=r'.length
   exact len_tuple pl (by simp only[List.size_toArray]<;>omega) ⟨.int ys.length,H,I.tok _,⟨s.toks+1,by rw[List.size_toArray,hlen]⟩,q⟩
theorem rh:yN X (.builtin "len") (fun xs H Q=>∃z,xs=[.str z]∧z.length≤sizeLine∧Q (.int z.length) H):=by
 intro pins s σ H xs us Q I r h
 obtain⟨z,rfl,hz,q⟩:=h
 obtain⟨u,rfl,t,rfl⟩:=vals1 r
 have hn:=vH
 exact len_str (by omega) ⟨.int z.length,H,I.tok _,⟨_,rfl⟩,q⟩
theorem wy:yN X (.type "tuple") (fun xs H Q=>∃p ys,xs=[.ref p]∧((SqL X.K H p ys∧∀l,H l=none→Q (.ref l) (upd H l (.tup ys)))∨(SqT X.K H p ys∧Q (.ref p) H))):=by
 intro pins s σ H xs us Q I r h
 obtain⟨p,ys,rfl,h⟩:=h
 obtain⟨u,rfl,rx⟩:=vals1 r
 cases rx
 rcases h with⟨hq,q⟩|⟨hq,q⟩
 . obtain⟨its,r',pl,hz⟩:=I.list hq
   have hlen:=r'.length
   refine call_tuple_list pl.isList (fun h' kp=>?_) (by simp only[List.size_toArray]<;>omega)
   have I1:Inv X pins σ H {s with heap:=h'}:=I.kept (t':=s.toks) kp
   have I2:Inv X pins σ (upd H h'.objs.size (.tup ys)) {s with heap:=h'.push {cls:=.type "tuple",data:=.seq its.toArray}}:=
    I1.laid (t':=s.toks) (fun b o e=>Heap.get?_push_of_some _ e) (Nat.le_refl _) (show zc X.prog X.w _ _ _ (.tup ys) from ⟨hz,its,r',vC.new _ _⟩)
   exact⟨.ref h'.objs.size,_,I2,rfl,q _ (I1.hok.fresh (Nat.le_refl _))⟩
 . obtain⟨its,r',pl,hz⟩:=I.tuple hq
   exact call_tuple_same pl ⟨.ref p,H,I,rfl,q⟩
def tyV(K:PySem.W.Frag)(T:String)(x:V)(H:Hp):Prop:=match x with
 |.str _=>T="str"
 |.int _=>T="int"
 |.ref p=>(T="list"∧∃xs,SqL K H p xs)∨(T="tuple"∧∃o,K.lookup p=some o∧o.cls=.type "tuple"∧o.dict=none) ∨
  (T="dict"∧((∃kvs,H p=some (.dK kvs))∨∃kvs,H p=some (.dT kvs)))∨(T="set"∧∃S n,H p=some (.set S n))
 |_=>False
theorem ZI{pins:List (Addr × Obj)}{σ:St}{H:Hp}{s:Shared}{T:String}{x:V}{v:Value}(I:Inv X pins σ H s)(r:RelV x v)(ty:tyV X.K T x H) :
 s.TypeIs v T∧∀a,v=.ref a→∃ob,s.heap.get? a=some ob∧ob.dict=none:=by
 cases x with
 |str z=>
  obtain⟨t,rfl⟩:=r
  cases (show T="str" from ty)
  exact⟨typeIs_str s z t,fun _ e=>nomatch e⟩
 |int i=>
  obtain⟨t,rfl⟩:=r
  cases (show T="int" from ty)
  exact⟨typeIs_int s i t,fun _ e=>nomatch e⟩
 |ref p=>
  cases r
  rcases ty with⟨rfl,xs,hq⟩|⟨rfl,o,hk,hc,hd⟩|⟨rfl,hk⟩|⟨rfl,S,n,hk⟩
  . obtain⟨its,_,pl,_⟩:=I.list hq
    refine⟨pl.isList.typeIs,fun a e=>?_⟩
    cases e
    obtain⟨o,n,e,c,hd,_⟩:=pl
    exact⟨o,e,hd⟩
  . refine⟨⟨o,I.kIn p o hk,hc⟩,fun a e=>?_⟩
    cases e
    exact⟨o,I.kIn _ o hk,hd⟩
  . have z:∃o,s.heap.get? p=some o∧o.ExactDict:=by
     rcases hk with⟨kvs,hk⟩|⟨kvs,hk⟩
     . obtain⟨_,_,_,_,o,_,_,e,ex,_⟩:=I.hok p _ hk
       exact⟨o,e,ex⟩
     . obtain⟨_,_,_,_,o,_,_,e,ex,_⟩:=I.hok p _ hk
       exact⟨o,e,ex⟩
    obtain⟨o,e,ex⟩:=z
    refine⟨⟨o,e,ex.1⟩,fun a e2=>?_⟩
    cases e2
    exact⟨o,e,ex.2.1⟩
  . obtain⟨o,_,_,_,e,ex,_⟩:=I.hok p _ hk
    refine⟨⟨o,e,ex.1⟩,fun a e2=>?_⟩
    cases e2
    exact⟨o,e,ex.2.1⟩
 |_=>exact False.elim ty
noncomputable def tBM(K:PySem.W.Frag)(T:String)(r:V→List V→Hp→VK→Prop)(to:TE)(t:TA):TE:=fun σ H Q=>to σ H fun x H1=>tyV K T x H1∧t σ H1 fun xs H2=>r x xs H2 Q
variable {o e:Expr}{es:List Expr}{to:TE}{t:TA}{name:Str}{apos cpos:Pos}{T id:String}{r:V→List V→Hp→VK→Prop}
theorem jt(pa:PlainAttrs T)(slot:Slot T name id)(hty:typeOf (.builtin id)=pure (.type "method_descriptor"))(hm:MtR X id r)(ho:PE X o to)(ha:PA X (e::es) t)
 (hbase:attributeBase o name X.env (eval o X.env)=eval o X.env:=by rfl)
 (hfew:((backTo cpos (starEach (e::es) X.env)).all (fun x=>!x.1)&&(backToKw cpos (keywordEach [] X.env)).all (fun x=>x.1.isSome)
  && decide ((e::es).length+([]:List Keyword).length+(if ([]:List Keyword).isEmpty then 0 else 1)<30))=true:=by rfl)
 (hline:(apos.endLine == cpos.line)=true:=by rfl) (hs:starEach (e::es) X.env=(false,eval e X.env)::starEach es X.env:=by rfl) (hplain:(backTo cpos (starEach es X.env)).any (·.1)=false:=by rfl) :
 PE X (.Call (.Attribute o name apos) (e::es) [] cpos) (tBM X.K T r to t):=by
 intro pins s σ H Q I h
 refine wpAny_Call_method_late hbase hfew hline rfl (thn (ho pins s σ H _ I h) fun v s1 ⟨x,H1,I1,r1,ty,q1⟩=>?_)
 obtain⟨h1,h2⟩:=ZI I1 r1 ty
 refine⟨T,id,pa,slot,hty,h1,h2,?_⟩
 have hA:=ha cpos pins s1 σ H1 _ I1 q1
 rw[hs]at hA ⊢
 refine Calls.callWith_builtin (by show (false||(backTo cpos (starEach es X.env)).any (·.1))=false;rw[hplain]<;>rfl) (Calls.evalArgs_plain ?_)
 exact thn hA fun us s2 ⟨vs,H2,I2,r2,q2⟩=>hm pins s2 σ H2 x vs v us Q I2 r1 r2 q2
/- xs.append(e),list.index on a module's tuple .. are MtR facts of 06m -/
end
end L2
namespace L2
open PySem PySem.Spec PyProof.Rows
def MtM(X:Cx)(id:String)(r:V→List V→Hp→VK→Prop):Prop:=
 ∀(pins:List (Addr × Obj)) (s:Shared) (σ:St) (H:Hp) (x:V) (xs:List V) (v:Value) (us:List Value) (Q:VK),Inv X pins σ H s→RelV x v→Vals xs us→r x xs H Q →
  wpAny (model X.prog X.w) X.A (call (.builtin id) (v::us)) (EP X pins σ Q) X.xe s
theorem Vals.one:∀{x:V} {us:List Value},Vals [x] us→∃u,us=[u]∧RelV x u
 |_,_,.cons r .nil=>⟨_,rfl,r⟩
theorem Vals.eraseIdx:∀{xs:List V} {us:List Value} (i:Nat),Vals xs us→Vals (xs.eraseIdx i) (us.eraseIdx i)
 |_,_,_,.nil=>.nil
 |_,_,0,.cons _ t=>t
 |_,_,i+1,.cons r t=>.cons r (Vals.eraseIdx i t)
theorem Vals.rep{xs:List V}{us:List Value}(h:Vals xs us):∀k:Nat,Vals (List.replicate k xs).flatten (List.replicate k us).flatten
 |0=>.nil
 |k+1=>by
  rw[List.replicate_succ,List.replicate_succ,List.flatten_cons,List.flatten_cons]
  exact Vals.append h (Vals.rep h k)
theorem rC{α:Type}:∀(l:List α) (i:Nat),(l.eraseIdx i).length≤l.length
 |[],_=>Nat.le_refl _
 |_::_,0=>Nat.le_succ _
 |_::r,i+1=>Nat.succ_le_succ (rC r i)
theorem foldl_rep(its:List Value):∀(k:Nat) (acc:List Value),
 List.foldl (fun x1 x2=>x1++x2) acc.toArray (List.replicate k its.toArray)=(acc++(List.replicate k its).flatten).toArray
 |0,acc=>by simp
 |k+1,acc=>by
  have e:acc.toArray++its.toArray=(acc++its).toArray:=by simp
  have e2:(acc++its)++(List.replicate k its).flatten=acc++(List.replicate (k+1) its).flatten:=by
   rw[List.replicate_succ,List.flatten_cons,List.append_assoc]
  rw[←e2,←foldl_rep its k (acc++its),←e,List.replicate_succ,List.foldl_cons]
section
variable {X:Cx}{pins:List (Addr × Obj)}{σ:St}{H:Hp}{s:Shared}{l b:Addr}{xs ys zs:List V}
theorem Inv.Z2{its its':List Value}{n:Nat}{f:Array Value→Array Value}{t':Nat}(I:Inv X pins σ H s)(hH:H l=some (.lst xs))
 (e:s.heap.get? l=some {cls:=.type "list",data:=.seq its.toArray n}) (hf:f its.toArray=its'.toArray) (hv:Vals ys its') (hz:ys.length≤sizeLine) :
 Inv X pins σ (upd H l (.lst ys)) {s with heap:=s.heap.update l (Obj.mapSeq f),toks:=t'}:=by
 have q:=PySem.IsL.update e f
 rw[hf]at q
 refine I.write (x:=l) (e:=l) (by rw[hH];exact trivial) (.inl rfl) (fun b' u hb hu=>(Heap.get?_update_other s.heap (Obj.mapSeq f) (Ne.symm hb)).trans hu) ⟨_,q⟩ ?_
 exact⟨hz,its',_,hv,q⟩
theorem Inv.Z1{its:List Value}{t':Nat}(I:Inv X pins σ H s)(hv:Vals ys its)(hz:ys.length≤sizeLine) :
 Inv X pins σ (upd H s.heap.objs.size (.lst ys)) {s with heap:=s.heap.push {cls:=.type "list",data:=.seq its.toArray},toks:=t'}:=
 I.laid (fun _ _ q=>Heap.get?_push_of_some _ q) (Nat.le_refl _) ⟨hz,its,0,hv,Heap.get?_push_size _ rfl⟩
theorem Inv.fresh(I:Inv X pins σ H s):H s.heap.objs.size=none:=I.hok.fresh (Nat.le_refl _)
theorem Inv.jQ(I:Inv X pins σ H s)(hH:H l=some (.lst xs)):xs.length≤sizeLine∧∃(its:List Value) (n:Nat),Vals xs its∧xs.length=its.length∧s.heap.get? l=some {cls:=.type "list",data:=.seq its.toArray n}:=by
 obtain⟨z,its,n,r,e⟩:=I.hok l _ hH
 exact⟨z,its,n,r,r.length,e⟩
theorem jW{n:Nat}(h:n≤sizeLine):Builtin.List.listTooLong n=false:=by
 unfold Builtin.List.listTooLong
 exact decide_eq_false (by omega)
end
section
variable {X:Cx}
noncomputable def mE:V→List V→Hp→VK→Prop:=fun x vs H Q=>∃l xs y,x=.ref l∧vs=[y]∧H l=some (.lst xs)∧xs.length<sizeLine∧Q .non (upd H l (.lst (xs++[y])))
theorem rH:MtM X "list.append" mE:=by
 intro pins s σ H x vs v us Q I rx rv h
 obtain⟨l,xs,y,rfl,rfl,hH,hz,q⟩:=h
 cases rx
 obtain⟨u,rfl,ru⟩:=rv.one
 obtain⟨z,its,n,r,hl,e⟩:=I.jQ hH
 refine call_meets F.slot_list_append ⟨_,e,rfl⟩ F.entry_list_append (F.args_list_append_2 _ _) (PySem.list_append l its.toArray n u (by rw[List.size_toArray];omega)) ⟨e,?_⟩
 refine⟨.non,_,I.Z2 (its':=its++[u]) hH e (by simp) (r.append (.cons ru .nil)) ?_,rfl,q⟩
 rw[List.length_append,List.length_singleton]
 omega
noncomputable def iI:V→List V→Hp→VK→Prop:=fun x vs H Q=>∃l xs i k y,x=.ref l∧vs=[.int i]∧H l=some (.lst xs)∧-(2 ^ 63)≤i∧i<2 ^ 63∧seqIndex? i xs.length=some k∧xs[k]?=some y∧Q y (upd H l (.lst (xs.eraseIdx k)))
theorem jU:MtM X "list.pop" iI:=by
 intro pins s σ H x vs v us Q I rx rv h
 obtain⟨l,xs,i,k,y,rfl,rfl,hH,h1,h2,hk,hy,q⟩:=h
 cases rx
 obtain⟨u,rfl,ru⟩:=rv.one
 obtain⟨t,rfl⟩:=ru
 obtain⟨z,its,n,r,hl,e⟩:=I.jQ hH
 obtain⟨w,hw,rw'⟩:=r.get hy
 refine call_meets F.slot_list_pop ⟨_,e,rfl⟩ F.entry_list_pop (F.args_list_pop_2 _ _)
  (MeetsSeq.list_pop_at l its.toArray n i t k w (fitsIndex_both h1 h2) (by rw[List.size_toArray,←hl];exact hk) (by rw[←Array.getElem?_toList];exact hw) (by rw[List.size_toArray];omega)) ⟨e,?_⟩
 refine⟨y,_,I.Z2 (its':=its.eraseIdx k) hH e ?_ (r.eraseIdx k) ?_,rw',q⟩
 . show its.toArray.eraseIdxIfInBounds k=(its.eraseIdx k).toArray
   rw[List.eraseIdxIfInBounds_toArray]
 . have:=rC xs k
   omega
noncomputable def XN:R2:=fun x y H Q=>∃l b xs zs,x=.ref l∧y=.ref b∧H l=some (.lst xs)∧H b=some (.lst zs)∧xs.length+zs.length≤sizeLine∧∀p,H p=none→Q (.ref p) (upd H p (.lst (xs++zs)))
theorem aA:OpR X (binaryOp .Add) XN:=by
 intro pins s σ H x y v u Q I rx ry h
 obtain⟨l,b,xs,zs,rfl,rfl,hH,hB,hz,q⟩:=h
 cases rx
 cases ry
 obtain⟨z,its,n,r,hl,e⟩:=I.jQ hH
 obtain⟨z2,its2,n2,r2,hl2,e2⟩:=I.jQ hB
 refine PySem.P.add_list e e2 ?_ (by rw[List.size_toArray,List.size_toArray];omega)
 have ea:its.toArray++its2.toArray=(its++its2).toArray:=by simp
 rw[ea]
 exact⟨.ref _,_,I.Z1 (t':=s.toks) (r.append r2) (by rw[List.length_append];omega),rfl,q _ I.fresh⟩
noncomputable def XO:R2:=fun x y H Q=>∃l k xs,x=.ref l∧y=.int k∧H l=some (.lst xs)∧-(2 ^ 63)≤k∧k<2 ^ 63∧xs.length*k.toNat≤sizeLine ∧
 ∀p,H p=none→Q (.ref p) (upd H p (.lst (List.replicate k.toNat xs).flatten))
theorem len_rep{α:Type}(xs:List α)(k:Nat):(List.replicate k xs).flatten.length=k*xs.length:=by
 induction k with
 |zero=>simp
 |succ k ih=>rw[List.replicate_succ,List.flatten_cons,List.length_append,ih,Nat.succ_mul,Nat.add_comm]
theorem aF:OpR X (binaryOp .Mult) XO:=by
 intro pins s σ H x y v u Q I rx ry h
 obtain⟨l,k,xs,rfl,rfl,hH,h1,h2,hz,q⟩:=h
 cases rx
 obtain⟨t,rfl⟩:=ry
 obtain⟨z,its,n,r,hl,e⟩:=I.jQ hH
 have hlen:its.toArray.size*k.toNat≤sizeLine:=by rw[List.size_toArray,←hl];exact hz
 have hcap:¬its.toArray.size*k.toNat > (2 ^ 63-1)/8:=by
  have:(sizeLine:Nat)≤(2 ^ 63-1)/8:=by decide
  omega
 have hfit:¬(!Builtin.List.listFitsIndex k)=true:=by
  rw[fitsIndex_both h1 h2]
  exact Bool.false_ne_true
 have hlong:¬Builtin.List.listTooLong (its.toArray.size*k.toNat)=true:=by
  rw[jW hlen]
  exact Bool.false_ne_true
 have hnew:List.foldl (fun x1 x2=>x1++x2) #[] (List.replicate (if its.toArray.isEmpty=true then 0 else k.toNat) its.toArray)=(List.replicate k.toNat its).flatten.toArray:=by
  have f0:∀m:Nat,List.foldl (fun x1 x2=>x1++x2) #[] (List.replicate m its.toArray)=(List.replicate m its).flatten.toArray:=fun m=>by
   have:=foldl_rep its m []
   rw[List.nil_append]at this
   exact this
  rw[f0]
  cases its with
  |nil=>simp
  |cons a r'=>rw[if_neg (by simp)]
 refine wpAny_binaryOp_repeat_ref (T:="list") (U:="int") (by decide) ⟨_,e,rfl⟩ (fun s'=>typeIs_int s' k t) noFill_list_mul F.fills_int_mul F.slot_int_rmul repeat_list F.slot_int_index.lookup
  (call_meets F.slot_int_rmul (typeIs_int s k t) F.entry_int_rmul (F.args_int_rmul_2 _ _) (int___rmul___int_list k t l its.toArray n)
   ⟨e,rfl,⟨_,e,rfl⟩,call_meets F.slot_list_mul ⟨_,e,rfl⟩ F.entry_list_mul (F.args_list_mul_2 _ _) (AutoListH.list___mul___list_int_3 l its.toArray n k t hfit hcap hlong) ⟨e,?_⟩⟩)
 rw[hnew]
 exact⟨.ref _,_,I.Z1 (t':=s.toks) (r.rep k.toNat) (by rw[len_rep,Nat.mul_comm];exact hz),rfl,q _ I.fresh⟩
end
end L2
namespace Att
open PySem PySem.W PySem.Calls PyProof.Rows
theorem uV{P:Params}{h:Heap}:∀(ns:List Int) (vs:List Value),WellAll P h vs (ns.map WData.int)→IntsAre vs ns:=by
 intro ns
 induction ns with
 |nil=>
  intro vs w
  rw[List.map_nil]at w
  cases w
  exact .nil
 |cons n ns ih=>
  intro vs w
  rw[List.map_cons]at w
  cases w with
  |cons a b=>
   cases a
   exact .cons _ _ (ih _ b)
theorem lT{l:OpenLaw}{n:Nat}(hn:l.most=some n){P:Params}{h:Heap}{args:List WData}{vals:List Value}
 (hpre:l.row.toRowW.claim.pre args=true) (hwl:WellAll P h vals args) :
 ∃a vs ns,vals=[Value.ref a]∧args=[WData.list (ns.map WData.int)]∧h.get? a=some {cls:=.type "list",data:=.seq vs.toArray}∧IntsAre vs ns∧ns.length≤n:=by
 have hsh:WShape.hasAll [] args [.list .int]=true:=(pre_splitW hpre).1
 have hc:l.pre.holds [] {args:=args}=true:=(pre_splitW hpre).2
 obtain⟨d,r,rfl,h1,h2⟩:=hasAllW_cons hsh
 obtain rfl:=hasAllW_nil h2
 obtain⟨xs,rfl,h3⟩:=hasW_list h1
 obtain⟨ns,rfl⟩:=items_int h3
 have hlen:ns.length≤n:=by
  unfold OpenLaw.pre at hc
  have h4:(WTm.not (.lt (.lit (.int (n:Int))) (.len (.arg 0)))).holds [] {args:=[.list (ns.map .int)]}=true:=by
   have h4:=(holds_andW hc).1
   rw[hn]at h4
   exact h4
  have h5:=condW_of h4 (w_not (w_lt w_lit (w_len_list (w_arg rfl))))
  rw[List.length_map]at h5
  refine Nat.le_of_not_lt fun q=>?_
  have q':(n:Int)<((ns.length:Nat):Int):=by omega
  first
   |(rw[decide_eq_true q']at h5;exact absurd h5 (by decide))
   |(simp at h5;omega)
 cases hwl with
 |cons w1 w2=>
  cases w2
  cases w1 with
  |list ho hall=>exact⟨_,_,ns,rfl,rfl,ho,uV ns _ hall,hlen⟩
theorem lK(l:OpenLaw)(args:List WData):l.row.toRowW.claim.post args (.bool true) args=true:=
 postW_of (r:=l.row.toRowW) (X:=(true == true))
  (show WShape.has [] (.bool true) .bool=true by first|rfl|decide|simp[WShape.has,WShape.arms,WShape.armsAll])
  (show (WTm.eq .res (.lit (.bool true))).value [] {args:=args,res:=some (.bool true),after:=args}=some (.bool (true == true)) from w_eq_bool (w_res rfl) w_lit) rfl
theorem qY{l:OpenLaw}{n:Nat}{q:Program}{loose:List Str}{XP:(Str→Option Value)→Heap→Prop}{YP:World→Heap→Prop}{d:DefRec}
 (hn:l.most=some n) (hdf:d.params.defaults=[])
 (call:∀(w:World) (s₀ s₁:Shared) (mg mb:Str→Option Value) (fa:Addr) (o:Obj) (pm cd doc:Value) (a:Addr) (vs:List Value) (ns:List Int),
  Ground q loose [] XP w s₀ mg mb s₁.heap→YP w s₁.heap →
  s₁.heap.get? fa=some o→o.data=.func (docDef d.name d.params d.body d.scope pm cd doc)→s₁.heap.CodeRec cd d.name→mg d.name=some (.ref fa) →
  s₁.heap.get? a=some {cls:=.type "list",data:=.seq vs.toArray}→IntsAre vs ns→ns.length≤n→s₁.gens=#[] →
  codeAny (model l.prog w) callerA (.call (.ref fa) ⟨[.ref a],[]⟩) (fun r s'=>r=.ok (.ret (.bool true))∧OldK s₁.heap s'.heap∧s'.os=s₁.os∧AllBare s'.gens) s₁) :
 WalkO q loose XP YP l.row.toRowW d [] (fun f vs=>PySem.call f vs):=by
 intro w s₀ s₁ mg mb G Y fa o pm cd doc dV kV ho hd hcd hD hmg hg args vals as hpre hlay hrd hwl hlo
 obtain rfl:dV=.none:=Dflts.none hD hdf
 obtain rfl:kV=.none:=Dflts.noKw hD
 obtain⟨a,vs,ns,rfl,rfl,hobj,hints,hlen⟩:=lT hn hpre hwl
 refine enter_call (codeAny_mono (call w s₀ s₁ mg mb fa o pm cd doc a vs ns G Y ho (fd_plain hd) hcd hmg hobj hints hlen hg) fun r s' hq=>?_)
 obtain⟨rfl,h2,h3,h4⟩:=hq
 exact⟨.inl ⟨.bool true,.bool true,[],rfl,fun _=>rfl,.bool true,lK l _,fun _=>⟨List.Pairwise.nil,fun _ hm=>(nomatch hm)⟩⟩,h2,h3,h4⟩
end Att
namespace L2
open PySem PySem.Spec PyProof.Rows
theorem rS:∀{vs:List Value} {ns:List Int},IntsAre vs ns→Vals (ns.map V.int) vs
 |_,_,.nil=>.nil
 |_,_,.cons n t h=>.cons ⟨t,rfl⟩ (rS h)
def d5(H:Hp):Prop:=∀b,H b=none∨∃o xs,H b=some (.frz o (.lst xs))
theorem jN{P:Program}{w:World}{K:PySem.W.Frag}{mg mb:Str→Option Value}{CX:CXT}{k:Nat}{fa a:Addr}{fd:FuncData}{x:Str}{sp:Sp}{s₁:Shared}{vs:List Value}{ns:List Int}
 (KX:K.In s₁.heap) (hns:s₁.heap.Ns mainGlobals mg) (hb:s₁.heap.Ns builtinsNs mb) (hbb:∀x:Str,x≠"__name__"→mb x=bootBuiltins x) (hlim:s₁.heap.NoLimit) (hg:s₁.gens=#[])
 (ha:s₁.heap.get? a=some {cls:=.type "list",data:=.seq vs.toArray}) (hi:IntsAre vs ns) (hl:ns.length≤sizeLine) (hr:yn k callerA)
 (F:∀base:Heap,K.In base→base.Ns mainGlobals mg→uU P w K mg base CX k fa fd [x] sp) (hbind:∀(s:Shared) (u:Value),BindsTo s fd ⟨[u],[]⟩ [(x,u)])
 (hsp:∀H:Hp,d5 H→SqL K H a (ns.map V.int)→sp [.ref a] H (fun v _=>v=.bl true) fun _ _ _=>False)
 (hCX:∀H e s',CX [] H s₁ (fun _ _ _=>False) e s'→False) :
 codeAny (model P w) callerA (.call (.ref fa) ⟨[.ref a],[]⟩) (fun r s'=>r=.ok (.ret (.bool true))∧OldK s₁.heap s'.heap∧s'.os=s₁.os∧AllBare s'.gens) s₁:=by
 have rv:=rS hi
 have lenV:=hi.length
 -- from an abstract heap in which nothing but the script may be tracked
 have core:∀H:Hp,d5 H→SqL K H a (ns.map V.int)→HOk P w H s₁.heap→(∀b,H b≠none→b=a)→(H a≠none→K.lookup a=none) →
  codeAny (model P w) callerA (.call (.ref fa) ⟨[.ref a],[]⟩) (fun r s'=>r=.ok (.ret (.bool true))∧OldK s₁.heap s'.heap∧s'.os=s₁.os∧AllBare s'.gens) s₁:=by
  intro H hO hS hok hA hK
  have xQ:∀{b:Addr} {o:Obj},s₁.heap.get? b=some o→H b=none→(qA s₁.heap H).get? b=some o:=fun e n=>kX e n
  have noA:∀{b:Addr} {o:Obj} {es:Array DictEntry} {ep:Nat},s₁.heap.get? b=some o→o.data=.dict es ep→H b=none:=fun{b o es ep} e d=>by
   cases q:H b with
   |none=>rfl
   |some u=>
    have e':b=a:=hA b (by rw[q];simp)
    subst e'
    rw[ha]at e;cases e
    have d':Data.seq vs.toArray _=Data.dict es ep:=d
    cases d'
  have nsK:∀{b:Addr} {m:Str→Option Value},s₁.heap.Ns b m→(qA s₁.heap H).Ns b m:=fun{b m} ⟨o,es,ep,e,d,r⟩=>⟨o,es,ep,xQ e (noA e d),d,r⟩
  have hKb:K.In (qA s₁.heap H):=fun b o e=>xQ (KX b o e) (by
   cases q:H b with
   |none=>rfl
   |some u=>
    have e':b=a:=hA b (by rw[q];simp)
    subst e'
    rw[hK (by rw[q];simp)]at e;cases e)
  have hM:Mod K mg (qA s₁.heap H):=⟨hKb,nsK hns,⟨mb,nsK hb,hbb⟩,let ⟨mc,h1,h2⟩:=hlim;⟨mc,nsK h1,h2⟩⟩
  have e0:gB P w K mg (qA s₁.heap H) callerA [] s₁ H:=⟨rfl,hM,fun b o e=>fC e,Nat.le_of_eq (mX _ _),trivial,fun b hb=>absurd (show b∈([]:List Addr) from hb) (by simp),hok,.of_eq hg⟩
  refine codeAny_mono ((F _ hKb (nsK hns)).run callerA [] s₁ H ⟨[.ref a],[]⟩ [.ref a] [.ref a] _ _ hr e0 (hbind s₁ (.ref a)) (.cons rfl .nil) (hsp H hO hS)) fun r s' h=>?_
  cases r with
  |error e=>exact(hCX H e s' h).elim
  |ok fl=>
   cases fl with
   |next=>exact False.elim h
   |brk=>exact False.elim h
   |cont=>exact False.elim h
   |ret u=>
    obtain⟨v,H',os,bare,un,hok',r',q⟩:=h
    have q':v=.bl true:=q
    subst q'
    obtain rfl:u=Value.bool true:=r'
    refine⟨rfl,OldK.of_keep fun b o e=>?_,os,bare⟩
    cases q:H b with
    |none=>exact un.keep b o e q (by intro z;exact absurd (show b∈([]:List Addr) from z) (by simp)) (by simp)
    |some u=>
     rcases hO b with z|⟨ob,xs,z⟩
     . rw[q]at z;cases z
     . have z2:=un.frzs b ob _ z
       obtain⟨e1,_⟩:=hok b _ z
       obtain⟨e2,_⟩:=hok' b _ z2
       rw[e]at e1;cases e1
       exact e2
 cases hk:K.lookup a with
 |some o=>
  -- the script is one of the module's own objects
  have e:=KX a o hk
  rw[ha]at e
  cases e
  refine core (fun _=>none) (fun _=>.inl rfl) (.inr ⟨_,vs.toArray,_,hk,rfl,rfl,rfl,by rw[List.size_toArray,lenV];exact hl,by simpa using rv⟩) (fun b u z=>by have z':(none:Option HO)=some u:=z;cases z') (fun b z=>absurd rfl z) fun z=>absurd rfl z
 |none=>
  refine core (fun b=>if b=a then some (.frz {cls:=.type "list",data:=.seq vs.toArray} (.lst (ns.map V.int))) else none) (fun b=>?_) (.inl (.inr ⟨{cls:=.type "list",data:=.seq vs.toArray},if_pos rfl⟩)) (fun b u z=>?_) (fun b z=>?_) fun _=>hk
  . by_cases hb:b=a
    . exact .inr ⟨_,_,if_pos hb⟩
    . exact .inl (if_neg hb)
  . by_cases hb:b=a
    . have z':=(if_pos hb).symm.trans z
      cases z'
      subst hb
      exact⟨ha,by rw[List.length_map];exact hl,vs,_,rv,ha⟩
    . have z':=(if_neg hb).symm.trans z
      cases z'
  . by_cases hb:b=a
    . exact hb
    . exact absurd (if_neg hb) z
end L2
namespace L2
open PySem PySem.Spec PyProof.Rows
theorem eX{l:PySem.W.OpenLaw}{n k:Nat}{q:Program}{loose:List Str}{XP:(Str→Option Value)→Heap→Prop}{YP:World→Heap→Prop}{d:DefRec}{K:Params→PySem.W.Frag}{CX:World→CXT}{sp:World→Sp}{x:Str}
 (hn:l.most=some n) (hn2:n≤sizeLine) (hdf:d.params.defaults=[]) (hr:yn k callerA)
 (hY:∀(w:World) (h:Heap),YP w h→(K w.params).In h)
 (F:∀(w:World) (mg:Str→Option Value) (fa:Addr) (h:Heap),(K w.params).In h→h.Ns mainGlobals mg→mg d.name=some (.ref fa) →
  ∃fd:FuncData,(∀(s:Shared) (u:Value),BindsTo s fd ⟨[u],[]⟩ [(x,u)]) ∧
   ∀base:Heap,(K w.params).In base→base.Ns mainGlobals mg→uU l.prog w (K w.params) mg base (CX w) k fa fd [x] (sp w))
 (hsp:∀(w:World) (H:Hp) (a:Addr) (ns:List Int),ns.length≤n→d5 H→SqL (K w.params) H a (ns.map V.int)→sp w [.ref a] H (fun v _=>v=.bl true) fun _ _ _=>False)
 (hCX:∀(w:World) (H:Hp) (s:Shared) (e:Value) (s':Shared),CX w [] H s (fun _ _ _=>False) e s'→False) :
 PySem.W.WalkO q loose XP YP l.row.toRowW d [] (fun f vs=>PySem.call f vs):=by
 refine Att.qY hn hdf fun w s₀ s₁ mg mb fa o pm cd doc a vs ns G Y ho hd hcd hmg hobj hints hlen hg=>?_
 have KX:=hY w _ Y
 obtain⟨fd,hb,hF⟩:=F w mg fa _ KX G.T.g hmg
 exact jN KX G.T.g G.T.b G.T.builtins G.T.nolimit hg hobj hints (Nat.le_trans hlen hn2) hr hF hb (fun H hO hS=>hsp w H a ns hlen hO hS) fun H e s'=>hCX w H s₁ e s'
end L2
/- THE LAST THEOREM (shape;LID,My.* are yours):
   My.Adr: a structure of the addresses that your layer names (classes,functions);My.Txt K t: a structure (Prop) of the equations over K;
   My.txt_mk:{K} {implicit addresses ..} (e1:nsIn K mainGlobals "law"=some (some (.ref f))) (e2:K.lookup f=some ⟨oc,od,.func (fnOf "law" "law" params body scope dV kV doc pm an cdv ct),sl⟩) (e3:codeIn K cdv "law"=true) ..:∃t,My.Txt K t
(the tactic k_is has no namespace: write k_is) -/
namespace L2
open PySem PySem.Spec PyProof.Rows
noncomputable def xr(s:Stmt):Arguments:=match s with
 |.FunctionDef _ a _ _ _ _ _ _ _ _=>a
 |_=>{posonlyargs:=[],args:=[],vararg:=none,kwonlyargs:=[],kw_defaults:=[],kwarg:=none,defaults:=[]}
noncomputable def y4(s:Stmt):List Stmt:=match s with
 |.FunctionDef _ _ b _ _ _ _ _ _ _=>b
 |_=>[]
noncomputable def zj(s:Stmt):Scope:=match s with
 |.FunctionDef _ _ _ _ _ _ sc _ _ _=>sc
 |_=>{kind:=.function,names:=[],isGenerator:=false,isCoroutine:=false}
noncomputable abbrev CX0:CXT:=fun _ _ _ _ _ _=>False
noncomputable abbrev E0:XK:=fun _ _ _=>False
theorem dP{X:Cx}:Passes CX0 X E0:=fun _ _ _ _ _ _ _ h=>h.elim
structure Fun(K:PySem.W.Frag)(x qual:Str)(st:Stmt)(f:Addr)(fd:FuncData):Prop where
 ex:∃(oc:Value) (od:Option Addr) (kV doc pm:Value) (an:Option Addr) (cdv ct:Value) (osl:Array (Option Value)),
  fd=PySem.W.fnOf x qual (xr st) (y4 st) (zj st) .none kV doc pm an cdv ct∧K.lookup f=some ⟨oc,od,.func fd,osl⟩∧PySem.W.codeIn K cdv qual=true
 kp:PySem.W.keepIn K (.ref f)=true
section
variable {P:Program}{w:World}{K:PySem.W.Frag}{mg:Str→Option Value}{base:Heap}
theorem Fun.ok{x qual:Str}{st:Stmt}{f:Addr}{fd:FuncData}{N ps:List Str}{k:Nat}{sp:Sp}(F:Fun K x qual st f fd)(S:ub N ps (zj st))(len:∀vs H Q E,sp vs H Q E→vs.length=ps.length)
 (hbody:∀(cdv:Value) (A:Around) (outer:List Env) (s:Shared) (H:Hp) (vs:List V) (Q:VK) (E:XK),yn k (A.deeper (envOfC qual (zj st) s.heap.objs.size f cdv))→sp vs H Q E →
  ∃t,PSs (p5 CX0 P w K mg base N qual (zj st) f cdv A outer s H E).nox (y4 st) t∧t {nx:=fun _ H'=>Q .non H',rt:=Q} (start N vs) H):uU P w K mg base CX0 (k+1) f fd ps sp:=by
 obtain⟨oc,od,kV,doc,pm,an,cdv,ct,osl,rfl,lk,hcd⟩:=F.ex
 refine ZZ lk hcd S len fun A outer s H vs Q E hr hsp=>?_
 obtain⟨t,h,q⟩:=hbody cdv A outer s H vs Q E hr hsp
 exact⟨t,h.nox,q⟩
theorem Fun.binds{x qual:Str}{st:Stmt}{f:Addr}{fd:FuncData}{ps:List Str}(F:Fun K x qual st f fd)
 (h:∀(kV doc pm:Value) (an:Option Addr) (cdv ct:Value) (us:List Value),us.length=ps.length→bindArgs (PySem.W.fnOf x qual (xr st) (y4 st) (zj st) .none kV doc pm an cdv ct) ⟨us,[]⟩=pure (ps.zip us)):Binds K fd ps []:=by
 obtain⟨oc,od,kV,doc,pm,an,cdv,ct,osl,rfl,lk,hcd⟩:=F.ex
 exact .all (h kV doc pm an cdv ct)
theorem cV{x qual:Str}{st:Stmt}{f:Addr}{oc:Value}{od an:Option Addr}{osl:Array (Option Value)}{kV doc pm cdv ct:Value}(l:K.lookup f=some ⟨oc,od,.func (PySem.W.fnOf x qual (xr st) (y4 st) (zj st) .none kV doc pm an cdv ct),osl⟩)
 (c:PySem.W.codeIn K cdv qual=true) (k:PySem.W.keepIn K (.ref f)=true):Fun K x qual st f (PySem.W.fnOf x qual (xr st) (y4 st) (zj st) .none kV doc pm an cdv ct):=⟨⟨oc,od,kV,doc,pm,an,cdv,ct,osl,rfl,l,c⟩,k⟩
end
theorem sH{A B:Prop}(h:B):if false=true then A else B:=by
 rw[if_neg Bool.false_ne_true]
 exact h
theorem sI{A B:Prop}(h:A):if true=true then A else B:=by
 rw[if_pos rfl]
 exact h
def vp(H H':Hp):Prop:=∀b o,H b=some o→H' b=some o
theorem vp.refl(H:Hp):vp H H:=fun _ _ h=>h
end L2
end
section
namespace L2
open PySem PySem.Spec PyProof.Rows
noncomputable def vF(cells:List (Str × Addr)):List (Str × NameKind)→List (Str × Addr)→List (Str × Addr)
 |[],acc=>acc
 |(n,k)::r,acc=>if k == .free then (match cells.lookup n with|some c=>vF cells r ((n,c)::acc)|none=>vF cells r acc) else vF cells r acc
theorem vG{env:Env}:∀(names:List (Str × NameKind)) (acc:List (Str × Addr)),(∀x∈names,x.2=.free→∃c,env.cells.lookup x.1=some c) →
 (forIn names acc fun(x:Str × NameKind) (cs:List (Str × Addr))=>(if x.2 == .free then do let a ←cellOf env x.1;pure (ForInStep.yield ((x.1,a)::cs)) else pure (ForInStep.yield cs):Sem (ForInStep (List (Str × Addr)))))=pure (vF env.cells names acc)
 |[],acc,_=>rfl
 |(n,k)::r,acc,h=>by
  rw[List.forIn_cons]
  dsimp only
  unfold vF
  by_cases hk:(k == NameKind.free)=true
  . have hk':k=.free:=by simpa using hk
    obtain⟨c,hc⟩:=h (n,k) List.mem_cons_self hk'
    have hc':env.cells.lookup n=some c:=hc
    have hcell:cellOf env n=pure c:=by unfold cellOf;rw[hc']
    rw[if_pos hk,if_pos hk,hcell,hc',pure_bind,pure_bind]
    exact vG r _ fun x hx=>h x (List.mem_cons_of_mem _ hx)
  . rw[if_neg hk,if_neg hk,pure_bind]
    exact vG r _ fun x hx=>h x (List.mem_cons_of_mem _ hx)
theorem wz{scope:Scope}{env:Env}(h:∀x∈scope.names,x.2=.free→∃c,env.cells.lookup x.1=some c):closureFor scope env=pure (vF env.cells scope.names []):=by
 have e:=vG (env:=env) scope.names [] h
 show (do let cs ←forIn scope.names [] _;pure cs)=_
 refine Eq.trans ?_ e
 refine Eq.trans (bind_pure _) ?_
 congr 1
theorem wH{cells:List (Str × Addr)}:∀(names:List (Str × NameKind)) (acc:List (Str × Addr)),(∀x c,acc.lookup x=some c→cells.lookup x=some c)→∀x c,(vF cells names acc).lookup x=some c→cells.lookup x=some c
 |[],acc,h,x,c,e=>h x c e
 |(n,k)::r,acc,h,x,c,e=>by
  unfold vF at e
  by_cases hk:(k == NameKind.free)=true
  . rw[if_pos hk]at e
    cases hc:cells.lookup n with
    |none=>rw[hc]at e;exact wH r acc h x c e
    |some d=>
     rw[hc]at e
     refine wH r _ (fun y z q=>?_) x c e
     rw[List.lookup_cons]at q
     cases hy:(y == n) with
     |true=>rw[hy]at q;have hy':y=n:=by simpa using hy
            cases q;rw[hy'];exact hc
     |false=>rw[hy]at q;exact h y z q
  . rw[if_neg hk]at e;exact wH r acc h x c e
theorem xa{cells:List (Str × Addr)}:∀(names:List (Str × NameKind)) (acc:List (Str × Addr)) (x:Str) (c:Addr),cells.lookup x=some c→(acc.lookup x=some c∨(x,NameKind.free)∈names)→(∀y d,acc.lookup y=some d→cells.lookup y=some d)→(vF cells names acc).lookup x=some c
 |[],acc,x,c,_,h,_=>by
  rcases h with h|h
  . exact h
  . cases h
 |(n,k)::r,acc,x,c,hc,h,ha=>by
  unfold vF
  by_cases hk:(k == NameKind.free)=true
  . rw[if_pos hk]
    cases hn:cells.lookup n with
    |none=>
     refine xa r acc x c hc ?_ ha
     rcases h with h|h
     . exact .inl h
     . rcases List.mem_cons.mp h with e|e
       . cases e;rw[hn]at hc;cases hc
       . exact .inr e
    |some d=>
     have ha':∀y z,((n,d)::acc).lookup y=some z→cells.lookup y=some z:=fun y z q=>by
      rw[List.lookup_cons]at q
      cases hy:(y == n) with
      |true=>rw[hy]at q;have hy':y=n:=by simpa using hy
             cases q;rw[hy'];exact hn
      |false=>rw[hy]at q;exact ha y z q
     by_cases hx:x=n
     . subst hx
       refine xa r _ x c hc (.inl ?_) ha'
       rw[hn]at hc;cases hc
       simp[List.lookup_cons]
     . refine xa r _ x c hc ?_ ha'
       rcases h with h|h
       . refine .inl ?_
         have:(x == n)=false:=by simpa using hx
         rw[List.lookup_cons,this];exact h
       . rcases List.mem_cons.mp h with e|e
         . cases e;exact absurd rfl hx
         . exact .inr e
  . rw[if_neg hk]
    refine xa r acc x c hc ?_ ha
    rcases h with h|h
    . exact .inl h
    . rcases List.mem_cons.mp h with e|e
      . cases e;exact absurd (by decide) hk
      . exact .inr e
noncomputable abbrev Cx.comp(X:Cx)(N:List Str)(sc:Scope)(C:Addr)(s:Shared)(H:Hp)(ex:List Addr):Cx:=
 {X with N:=N,s₀:=s,H₀:=H,env:=compEnvC sc (vF X.env.cells sc.names []) C X.env,outer:=X.stack,ex:=ex,fn:=fun _=>false,pn:=[],xe:=fun _ _=>False}
structure zk(X:Cx)(N:List Str)(sc:Scope)(fr:List (Option Nat)):Prop where
 kind:sc.kind=.function
 nocell:∀x∈sc.names,x.2≠.cell
 locals:∀x∈sc.names,x.2=.local→sc.names.lookup x.1=some .local
 free:∀x∈sc.names,x.2=.free→X.env.kindOf x.1=some .cell∨X.env.kindOf x.1=some .free
 len:fr.length=N.length
 from_:∀(i j:Nat) (x:Str),N[i]?=some x→fr[i]?=some (some j)→X.N[j]?=some x∧(x,NameKind.free)∈sc.names
 one:∀x,sc.names.lookup x=some .local→(x,NameKind.free)∈sc.names→False
noncomputable def zE(fr:List (Option Nat))(σ:St):St:=fr.map fun o=>match o with|some j=>(σ[j]?).join|none=>none
theorem qN{sc:Scope}{env:Env}{x:Str}(hn:∀y∈sc.names,y.2≠.cell)(h:(relabel sc env).names.lookup x=some .cell∨(relabel sc env).names.lookup x=some .free):(x,NameKind.free)∈sc.names:=by
 have key:∀(names:List (Str × NameKind)),(∀y∈names,y.2≠.cell)→((names.map fun(n,k)=>if (k == NameKind.free&&env.scope.kind == .function&&env.kindOf n == some .cell) then (n,NameKind.cell) else (n,k)).lookup x=some .cell ∨
  (names.map fun(n,k)=>if (k == NameKind.free&&env.scope.kind == .function&&env.kindOf n == some .cell) then (n,NameKind.cell) else (n,k)).lookup x=some .free)→(x,NameKind.free)∈names:=by
  intro names
  induction names with
  |nil=>intro _ h;simp at h
  |cons p r ih=>
   obtain⟨n,k⟩:=p
   intro hn h
   have hr:=fun y hy=>hn y (List.mem_cons_of_mem _ hy)
   have hk:=hn (n,k) List.mem_cons_self
   rw[List.map_cons]at h
   dsimp only at h
   by_cases hx:x=n
   . subst hx
     by_cases hf:k=.free
     . subst hf;exact List.mem_cons_self
     . have hf':(k == NameKind.free)=false:=by simpa using hf
       rw[hf']at h
       simp only[Bool.false_and,Bool.false_eq_true,if_false,List.lookup_cons,beq_self_eq_true]at h
       rcases h with h|h
       . cases h;exact absurd rfl hk
       . cases h;exact absurd rfl hf
   . refine List.mem_cons_of_mem _ (ih hr ?_)
     have hx':(x == n)=false:=by simpa using hx
     split at h<;>simpa only[List.lookup_cons,hx'] using h
 exact key sc.names hn h
theorem vg{sc:Scope}{env:Env}{x:Str}(hl:∀y∈sc.names,y.2=.local→sc.names.lookup y.1=some .local)(h:sc.names.lookup x=some .free) :
 (relabel sc env).names.lookup x=some .cell∨(relabel sc env).names.lookup x=some .free:=by
 have key:∀(names:List (Str × NameKind)),names.lookup x=some .free→((names.map fun(n,k)=>if (k == NameKind.free&&env.scope.kind == .function&&env.kindOf n == some .cell) then (n,NameKind.cell) else (n,k)).lookup x=some .cell ∨
  (names.map fun(n,k)=>if (k == NameKind.free&&env.scope.kind == .function&&env.kindOf n == some .cell) then (n,NameKind.cell) else (n,k)).lookup x=some .free):=by
  intro names
  induction names with
  |nil=>intro h;simp at h
  |cons p r ih=>
   obtain⟨n,k⟩:=p
   intro h
   rw[List.map_cons]
   dsimp only
   cases hx:(x == n) with
   |true=>
    rw[List.lookup_cons,hx]at h
    cases h
    split
    . left;simp only[List.lookup_cons,hx]
    . right;simp only[List.lookup_cons,hx]
   |false=>
    rw[List.lookup_cons,hx]at h
    have:=ih h
    split<;>simpa only[List.lookup_cons,hx] using this
 exact key sc.names h
section
variable {X:Cx}{pins:List (Addr × Obj)}{σ:St}{H:Hp}{s:Shared}{N:List Str}{sc:Scope}{fr:List (Option Nat)}{fp:List Addr}
theorem zk.cells(S:zk X N sc fr)(ok:X.Ok):∀x∈sc.names,x.2=.free→∃c,X.env.cells.lookup x.1=some c:=fun x hx hk=>ok.has x.1 (S.free x hx hk)
theorem gK(I:Inv X pins σ H s)(S:zk X N sc fr)(hf:∀b∈fp,wk X pins H b)(hlt:∀b∈fp,b<s.heap.objs.size):(X.comp N sc s.heap.objs.size s H fp).Ok:=by
 have sub:∀x c,(vF X.env.cells sc.names []).lookup x=some c→X.env.cells.lookup x=some c:=wH sc.names [] (fun x c e=>by simp at e)
 refine⟨I.ok.mod,S.kind,I.ok.glob,I.ok.blt,Nat.le_refl _,fun x y c e1 e2=>I.ok.inj x y c (sub x c e1) (sub y c e2),fun x h=>?_,fun x c h=>(nomatch h),I.ok.hd,I.ok.frames,.inl rfl,fun b hb=>?_,fun b o e=>I.bs b o e,?_,fun b o e hb=>?_,fun b hb z=>?_,I.stack,I.mG⟩
 . have m:(x,NameKind.free)∈sc.names:=qN S.nocell h
   obtain⟨c,hc⟩:=S.cells I.ok (x,.free) m rfl
   exact⟨c,xa sc.names [] x c hc (.inr m) (fun y d e=>by simp at e)⟩
 . obtain⟨f0,f1,f2,f3,f4,f5⟩:=hf b hb
   exact⟨Nat.ne_of_lt (hlt b hb),fun x c e=>f4 x c (sub x c e)⟩
 . exact Nat.le_trans I.ok.bsz I.sz
 . obtain⟨f0,f1,f2,f3,f4,f5⟩:=hf b hb
   rcases f3 with f3|f3
   . exact I.ok.noex b o e f3
   . exact absurd (Nat.lt_of_lt_of_le (Heap.lt_size e) (Nat.le_trans I.ok.bsz f3)) (Nat.lt_irrefl _)
 . obtain⟨f0,f1,f2,f3,f4,f5⟩:=hf b hb
   rcases List.mem_cons.mp (I.nA b z) with e|e
   . exact f1 e
   . exact f2 e
theorem p4{h':Heap}{tk:Nat}(I:Inv X pins σ H s)(S:zk X N sc fr)(hf:∀b∈fp,wk X pins H b)(hlt:∀b∈fp,b<s.heap.objs.size)
 (hns:h'.Ns s.heap.objs.size (fun _=>none)) (k:∀b o,s.heap.get? b=some o→h'.get? b=some o):Inv (X.comp N sc s.heap.objs.size s H fp) [] (zE fr σ) H {s with heap:=h',toks:=tk}:=by
 have sub:∀x c,(vF X.env.cells sc.names []).lookup x=some c→X.env.cells.lookup x=some c:=wH sc.names [] (fun x c e=>by simp at e)
 refine⟨gK I S hf hlt,rfl,I.bare,Un.kept k,⟨_,hns,fun i x v e1 e2 e3=>?_⟩,fun x c e=>?_,I.hok.fresh (Nat.le_refl _),fun x c e=>I.freeC x c (sub x c e),fun p hp=>(by simp at hp),I.hok.kept k,?_⟩
 . have e2':(fr.map fun o=>match o with|some j=>(σ[j]?).join|none=>none)[i]?=some (some v):=e2
   rw[List.getElem?_map]at e2'
   cases hfi:fr[i]? with
   |none=>rw[hfi]at e2';cases e2'
   |some o=>
    rw[hfi]at e2'
    cases o with
    |none=>cases e2'
    |some j=>
     obtain⟨n1,n2⟩:=S.from_ i j x e1 hfi
     have e3':σ[j]?=some (some v):=by
      have q:(σ[j]?).join=some v:=Option.some.inj e2'
      cases hσ:σ[j]? with
      |none=>rw[hσ]at q;cases q
      |some w=>rw[hσ]at q;cases w with
       |none=>cases q
       |some w'=>have:w'=v:=Option.some.inj q
                 rw[this]
     have hk:=S.free (x,.free) n2 rfl
     obtain⟨m,hn,hl⟩:=I.loc
     obtain⟨u,r,l⟩:=hl j x v n1 e3' (hk.elim (fun z=>.inr (.inl z)) fun z=>.inr (.inr z))
     refine⟨u,r,?_⟩
     rcases l with⟨hk',_⟩|⟨_,c,hc,z⟩
     . rcases hk with hk|hk<;>(rw[hk]at hk';cases hk')
     . refine .inr ⟨?_,c,xa sc.names [] x c hc (.inr n2) (fun y d e=>by simp at e),?_⟩
       . rcases e3 with e3|e3|e3
         . -- a local of that name: cannot be,the name is free in the block
           exfalso
           have hloc:sc.names.lookup x=some .local:=by
            have key:∀(names:List (Str × NameKind)),(names.map fun(n,k)=>if (k == NameKind.free&&X.env.scope.kind == .function&&X.env.kindOf n == some .cell) then (n,NameKind.cell) else (n,k)).lookup x=some .local→names.lookup x=some .local:=by
             intro names
             induction names with
             |nil=>intro h;simp at h
             |cons p r ih=>
              obtain⟨n,kk⟩:=p
              intro h
              rw[List.map_cons]at h
              dsimp only at h
              cases hx:(x == n) with
              |true=>
               split at h
               . simp only[List.lookup_cons,hx]at h;cases h
               . simp only[List.lookup_cons,hx]at h ⊢;exact h
              |false=>
               rw[List.lookup_cons,hx]
               refine ih ?_
               split at h<;>simpa only[List.lookup_cons,hx] using h
            exact key sc.names e3
           exact S.one x hloc n2
         . exact .inl e3
         . exact .inr e3
       . obtain⟨o,ho,hd⟩:=z
         exact⟨o,k _ _ ho,hd⟩
 . obtain⟨v,o,ho,hd⟩:=I.cell x c (sub x c e)
   exact⟨v,o,k _ _ ho,hd⟩
 . show (fr.map _).length=N.length
   rw[List.length_map];exact S.len
end
end L2
end
section
namespace L2
open PySem PySem.Spec PyProof.Rows
noncomputable def qS:List TT→TT
 |[]=>fun _ H Q=>Q true H
 |t::ts=>fun σ H Q=>t σ H fun c H1=>if c=true then qS ts σ H1 Q else Q false H1
inductive PTs(X:Cx):List Expr→List TT→Prop
 |nil:PTs X [] []
 |cons {c:Expr} {cs:List Expr} {t:TT} {ts:List TT}:PT X c t→PTs X cs ts→PTs X (c::cs) (t::ts)
theorem uR{X:Cx}{Q:Bool→Shared→Prop}{E:Value→Shared→Prop}{s:Shared}(h:Q false s):∀cs:List Expr,
 wpAny (model X.prog X.w) X.A (forIn cs false fun c r=>if r=true then do let ok ←isTrue c X.env (eval c X.env);pure (ForInStep.yield ok) else pure (ForInStep.yield r)) Q E s
 |[]=>wpAny_pure h
 |c::cs=>by
  rw[List.forIn_cons]
  exact wpAny_bind (wpAny_pure (uR h cs))
theorem PTs.run{X:Cx}:∀{cs:List Expr} {ts:List TT},PTs X cs ts→∀{pins:List (Addr × Obj)} {s:Shared} {σ:St} {H:Hp} {Q:Bool→Hp→Prop},Inv X pins σ H s→qS ts σ H Q →
 wpAny (model X.prog X.w) X.A (forIn cs true fun c r=>if r=true then do let ok ←isTrue c X.env (eval c X.env);pure (ForInStep.yield ok) else pure (ForInStep.yield r)) (TP X pins σ Q) X.xe s
 |_,_,.nil,pins,s,σ,H,Q,I,h=>wpAny_pure ⟨H,I,h⟩
 |_,_,.cons hc hs,pins,s,σ,H,Q,I,h=>by
  rw[List.forIn_cons]
  refine wpAny_bind (wpAny_bind (thn (hc pins s σ H _ I h) fun c s1 ⟨H1,I1,q1⟩=>wpAny_pure ?_))
  cases c with
  |true=>exact hs.run I1 q1
  |false=>exact uR ⟨H1,I1,q1⟩ _
noncomputable abbrev TB:=(St→Hp→Prop)→St→Hp→Prop
def PB(X:Cx)(B:Sem PUnit)(tb:TB):Prop:=
 ∀(pins:List (Addr × Obj)) (s:Shared) (σ:St) (H:Hp) (Nx:St→Hp→Prop),Inv X pins σ H s→tb Nx σ H→wpAny (model X.prog X.w) X.A B (fun _ s'=>∃σ' H',Inv X pins σ' H' s'∧Nx σ' H') X.xe s
noncomputable def tTB(ts:List TT)(tb:TB):TS:=fun D σ H=>qS ts σ H fun c H1=>if c=true then tb D.nx σ H1 else D.nx σ H1
def rL(J:It)(g:TG)(tb:TS)(D:Ends)(σ:St)(H:Hp):Prop:=∃W:Nat→Nat→St→Hp→Prop,(∃m,W 0 m σ H)∧∀i m σ H,W i m σ H →
 (J.stop i H∧D.nx σ H)∨(J.go i H∧∃N:St→Hp→Prop,(∀σ' H',N σ' H'→∃m',m'<m∧W (i+1) m' σ' H')∧∀x H',J.yld i H x H'→g x σ H' fun σ2 H2=>tb {D with nx:=N,ct:=N,bk:=D.nx} σ2 H2)
theorem xb{X:Cx}{elt:Expr}{gens:List Comprehension}{csc:Scope}{cpos:Pos}{d:Nat}{tg:Expr}{p:Pos}{ifs:List Expr}{B:Sem PUnit}{acc:Value}{it:Addr}{fp:List Addr}{tn:Nat→Heap→Prop}{J:It}{g:TG}{ts:List TT}{tb:TB}{D:Ends}
 {pins:List (Addr × Obj)} {σ:St} {H:Hp} {s:Shared} {R:Result→Shared→Prop}
 (heq:compTurn (.ListComp elt gens csc cpos) d (.ref it) acc X.env=(do
  standAt p
  match ←pyNext (.ref it) with
  |none=>pure (.done .next)
  |some v=>
   letOwnedTupleGo tg (.ref it) v
   assign tg X.env v
   let mut ok:=true
   for c in ifs do
    if ok then ok ←isTrue c X.env (eval c X.env)
   if ok then B
   again (.compLoop (.ListComp elt gens csc cpos) d (.ref it) acc X.env)))
 (hx:X.xe=fun _ _=>False) (hc:X.calm=true) (T:Turn X.prog X.w X.K tg J fp it tn) (hg:PG X tg g) (ht:PTs X ifs ts) (hb:PB X B tb)
 (I:Inv X pins σ H s) (st:tn 0 s.heap) (f:∀b∈fp,wk X pins H b) (h:rL J g (tTB ts tb) D σ H)
 (hR:∀σ' H' s',Inv X pins σ' H' s'→D.nx σ' H'→(∀b∈fp,H' b=none)→R (.ok .next) s') :
 codeAny (model X.prog X.w) X.A (.compLoop (.ListComp elt gens csc cpos) d (.ref it) acc X.env) R s:=by
 obtain⟨W,⟨m0,w0⟩,turn⟩:=h
 have stat:∀{H':Hp},(∀b∈fp,H' b=none)→∀b∈fp,wk X pins H' b:=fun hn b hb=>⟨hn b hb,(f b hb).2⟩
 have no:∀{α:Type} {t:Sem α} {Q:α→Shared→Prop} {E':Value→Shared→Prop} {s:Shared},wpAny (model X.prog X.w) X.A t Q X.xe s→wpAny (model X.prog X.w) X.A t Q E' s:=fun h=>wpAny_mono h (fun _ _ q=>q) fun _ _ z=>by rw[hx]at z;exact z.elim
 refine codeAny_loop rfl (fun n s'=>∃i σ' H',Inv X pins σ' H' s'∧tn i s'.heap∧(∀b∈fp,H' b=none)∧W i n σ' H') (fun n s3 hI=>?_) m0 ⟨0,σ,H,I,st,fun b hb=>(f b hb).1,w0⟩
 obtain⟨i,σ3,H3,I3,st3,fr3,w3⟩:=hI
 show wpAny _ _ ((compTurn (.ListComp elt gens csc cpos) d (.ref it) acc X.env).onRaise (fun x=>do noteFrame x X.env;theTreesLotGoes x)) _ _ s3
 refine wpAny_noted ?_
 rw[heq]
 refine wpAny_bind (wpAny_standAt (wpAny_bind ?_))
 rcases turn i n σ3 H3 w3 with⟨stop,qn⟩|⟨go,N,hN,step⟩
 . refine no (thn (T.done X rfl rfl rfl hc i pins s3 σ3 H3 X.xe I3 (stat fr3) st3 stop) fun r s4 ⟨hr,I4⟩=>?_)
   subst hr
   exact wpAny_pure (hR σ3 H3 s4 I4 qn fr3)
 . refine no (thn (T.item X rfl rfl rfl hc i pins s3 σ3 H3 X.xe I3 (stat fr3) st3 go) fun r s4 ⟨u,hr,h4⟩=>?_)
   subst hr
   refine wpAny_bind (no (thn h4 fun _ s5 ⟨x,H5,I5,r5,y5,st5,fr5⟩=>?_))
   have I5':=I5.pinned (stat fr5) (T.obj _ _ st5)
   refine wpAny_bind (no (thn (hg _ s5 σ3 H5 x u _ I5' r5 (step x H5 y5)) fun _ s6 ⟨σ6,H6,I6,q6⟩=>?_))
   refine wpAny_bind (no (thn (ht.run I6 q6) fun ok s7 ⟨H7,I7,q7⟩=>?_))
   have again':∀{σ7:St} {H7:Hp} {s7:Shared},Inv X (pins++tQ fp s5.heap) σ7 H7 s7→N σ7 H7→∃m,m<n∧∃i σ' H',Inv X pins σ' H' s7∧tn i s7.heap∧(∀b∈fp,H' b=none)∧W i m σ' H':=fun{σ7 H7 s7} I7 n7=>by
    obtain⟨m',hm,w7⟩:=hN σ7 H7 n7
    refine⟨m',hm,i+1,σ7,H7,I7.vk,T.keep _ _ _ st5 fun b hb o e=>(I7.pin (b,o) (List.mem_append_right _ (List.mem_append_right _ (xw hb e)))).1,fun b hb=>?_,w7⟩
    obtain⟨o,e,d⟩:=T.obj _ _ st5 b hb
    exact(I7.pin (b,o) (List.mem_append_right _ (List.mem_append_right _ (xw hb e)))).2.1
   cases ok with
   |false=>exact wpAny_pure ⟨rfl,again' I7 q7⟩
   |true=>exact wpAny_bind (no (thn (hb _ s7 σ6 H7 N I7 q7) fun _ s8 ⟨σ8,H8,I8,n8⟩=>wpAny_pure ⟨rfl,again' I8 n8⟩))
noncomputable def w5(acc:Addr)(te:TE):TB:=fun Nx σ H=>te σ H fun y H1=>∃ys,H1 acc=some (.lst ys)∧ys.length<sizeLine∧Nx σ (upd H1 acc (.lst (ys++[y])))
theorem uh{X:Cx}{acc:Addr}{elt:Expr}{te:TE}(he:PE X elt te):PB X (do let _ ←call (.builtin "list.append") [.ref acc,←eval elt X.env]) (w5 acc te):=by
 intro pins s σ H Nx I h
 refine wpAny_bind (thn (he pins s σ H _ I h) fun u s1 ⟨y,H1,I1,r1,ys,hl,hz,q⟩=>?_)
 refine wpAny_bind (thn (rH pins s1 σ H1 (.ref acc) [y] (.ref acc) [u] (fun _ H'=>Nx σ H') I1 rfl (.cons r1 .nil) ⟨acc,ys,y,rfl,rfl,hl,hz,q⟩) fun _ s2 ⟨_,H2,I2,_,q2⟩=>?_)
 exact wpAny_pure ⟨σ,H2,I2,q2⟩
end L2
end
section
namespace L2
open PySem PySem.Spec PyProof.Rows
def wO(fr:List (Option Nat))(wi:TI)(g:TG)(ts:List TT)(tb:Addr→TB)(σ:St)(H:Hp)(Q:VK):Prop:=
 wi σ H fun J H1=>∀acc,H1 acc=none→rL J g (tTB ts (tb acc)) ⟨fun _ H'=>Q (.ref acc) H',fun _ _=>False,fun _ _=>False,fun _ _=>False⟩ (zE fr σ) (upd H1 acc (.lst []))
section
variable {X:Cx}{pins:List (Addr × Obj)}{σ:St}{H:Hp}{s:Shared}{N:List Str}{csc:Scope}{fr:List (Option Nat)}{elt tg iter:Expr}{ifs:List Expr}{rest:List Comprehension}{cpos:Pos}{wi:TI}{g:TG}{ts:List TT}{tb:Addr→TB}
theorem sx{use:Option (Value→Sem Unit)}{QQ:Value→Shared→Prop}{Qv:VK}{B:Value→Env→Sem PUnit}{E:Value→Shared→Prop}(hE:E=X.xe)(hc:X.calm=true)(S:zk X N csc fr)(hi:PI X tg iter wi)
 (hturn:∀(it:Addr) (acc:Value) (env:Env),compTurn (.ListComp elt (⟨tg,iter,ifs,0⟩::rest) csc cpos) 0 (.ref it) acc env=(do
  standAt iter.pos
  match ←pyNext (.ref it) with
  |none=>pure (.done .next)
  |some v=>
   letOwnedTupleGo tg (.ref it) v
   assign tg env v
   let mut ok:=true
   for c in ifs do
    if ok then ok ←isTrue c env (eval c env)
   if ok then B acc env
   again (.compLoop (.ListComp elt (⟨tg,iter,ifs,0⟩::rest) csc cpos) 0 (.ref it) acc env)))
 (hg:∀C s0 H0 ex,PG (X.comp N csc C s0 H0 ex) tg g) (ht:∀C s0 H0 ex,PTs (X.comp N csc C s0 H0 ex) ifs ts)
 (hb:∀C s0 H0 ex acc,PB (X.comp N csc C s0 H0 ex) (B (.ref acc) (X.comp N csc C s0 H0 ex).env) (tb acc))
 (I:Inv X pins σ H s) (h:wO fr wi g ts tb σ H Qv)
 (hfin:∀acc C H' s',Inv X pins σ H' s'→Qv (.ref acc) H'→(∃m,s'.heap.Ns C m)→H' C=none→C≠X.env.locals→X.s₀.heap.objs.size≤C→(∀x c,X.env.cells.lookup x=some c→c≠C)→(∀p∈X.pn++pins,p.1≠C) →
  compPost (model X.prog X.w) X.A X.xe use QQ (.ref acc) C (.ok .next) s') :
 wpAny (model X.prog X.w) X.A (eval iter X.env) (fun x s₁=>wpAny (model X.prog X.w) X.A (pyIter x) (fun it s₂=>wpAny (model X.prog X.w) X.A (newList []) (fun acc s₃=>
  wpAny (model X.prog X.w) X.A (newFunctionEnv csc X.env.globals (vF X.env.cells csc.names []) [] X.env.qual none .none (some X.env)) (fun cenv s₄=>
   codeAny (model X.prog X.w) X.A (.compStart (.ListComp elt (⟨tg,iter,ifs,0⟩::rest) csc cpos) 0 it acc {cenv with scope:=relabel csc X.env}) (compPost (model X.prog X.w) X.A E use QQ acc cenv.locals) s₄) E s₃) E s₂) E s₁) E s:=by
 subst hE
 refine thn (hi pins s σ H _ I h) fun v s1 h1=>thn h1 fun itv s2 h2=>?_
 obtain⟨it,fp,tn,J,H2,e,I2,T,st2,f2,q2⟩:=h2
 subst e
 refine wpAny_newObj_type ?_
 have hfr:H2 s2.heap.objs.size=none:=I2.hok.fresh (Nat.le_refl _)
 have q3:=q2 s2.heap.objs.size hfr
 generalize hs3:({s2 with heap:=s2.heap.push {cls:=.type "list",dict:=none,data:=.seq ([]:List Value).toArray}}:Shared)=s3
 have k23:∀b u,s2.heap.get? b=some u→s3.heap.get? b=some u:=fun b u e=>by rw[←hs3];exact Heap.get?_push_of_some _ e
 have new3:s3.heap.get? s2.heap.objs.size=some {cls:=.type "list",dict:=none,data:=.seq ([]:List Value).toArray}:=by rw[←hs3];exact Heap.get?_push_size _ rfl
 have I3:Inv X pins σ (upd H2 s2.heap.objs.size (.lst [])) s3:=by
  rw[←hs3]
  exact I2.laid (t':=s2.toks) (fun b u e=>Heap.get?_push_of_some _ e) (Nat.le_refl _) ⟨Nat.zero_le _,[],0,.nil,Heap.get?_push_size _ rfl⟩
 have lt2:∀b∈fp,b<s2.heap.objs.size:=fun b hb=>by obtain⟨o,e,_⟩:=T.obj _ _ st2 b hb;exact Heap.lt_size e
 have hsz:s3.heap.objs.size=s2.heap.objs.size+1:=by rw[←hs3];exact Heap.size_push ..
 have f3:∀b∈fp,wk X pins (upd H2 s2.heap.objs.size (.lst [])) b:=fun b hb=>⟨by rw[zP (Nat.ne_of_lt (lt2 b hb))];exact(f2 b hb).1,(f2 b hb).2⟩
 have lt3:∀b∈fp,b<s3.heap.objs.size:=fun b hb=>by rw[hsz];exact Nat.lt_succ_of_lt (lt2 b hb)
 refine wpAny_newFunctionEnv S.nocell (by intro y hy;simp at hy) (fun h4 hns4 hsb4=>?_) S.kind
 have k34:∀b o,s3.heap.get? b=some o→h4.get? b=some o:=fun b o e=>hsb4.extBut b o (Nat.ne_of_lt (Heap.lt_size e)) (Heap.get?_push_of_some _ e)
 have hns4':h4.Ns s3.heap.objs.size (fun _=>none):=by simpa using hns4
 have I4:=p4 (tk:=s3.toks+([]:List (Str × Value)).length) I3 S f3 lt3 hns4' k34
 have st4:tn 0 h4:=T.keep _ _ _ st2 fun b hb o e=>k34 b o (k23 b o e)
 have f4:∀b∈fp,wk (X.comp N csc s3.heap.objs.size s3 (upd H2 s2.heap.objs.size (.lst [])) fp) [] (upd H2 s2.heap.objs.size (.lst [])) b:=fun b hb=>by
  have ok:=I4.ok
  obtain⟨g1,g2⟩:=ok.exf b hb
  exact⟨(f3 b hb).1,g1,ok.exfs b hb,.inl hb,g2,fun p hp=>by simp at hp⟩
 have fin:∀σ' H' s',Inv (X.comp N csc s3.heap.objs.size s3 (upd H2 s2.heap.objs.size (.lst [])) fp) [] σ' H' s'→Qv (.ref s2.heap.objs.size) H'→(∀b∈fp,H' b=none) →
  compPost (model X.prog X.w) X.A X.xe use QQ (.ref s2.heap.objs.size) s3.heap.objs.size (.ok .next) s':=fun σ' H' s' I' q' _=>by
  have IX:Inv X pins σ H' s':=I3.ZV I'.os I'.base I'.hok I'.bare fun b hb=>by
   obtain⟨g0,g1,g2,g3,g4,g5⟩:=f3 b hb
   exact⟨g3,g1,g4,g5⟩
  obtain⟨m,hn,_⟩:=I'.loc
  refine hfin _ _ H' s' IX q' ⟨m,hn⟩ I'.free (Nat.ne_of_gt I3.lt) I3.sz (fun x c e=>?_) fun p hp=>?_
  . obtain⟨w',z⟩:=I3.cell x c e
    exact Nat.ne_of_lt z.lt
  . exact Nat.ne_of_lt (Heap.lt_size (I3.pin p hp).1)
 have loop:codeAny (model X.prog X.w) X.A (.compLoop (.ListComp elt (⟨tg,iter,ifs,0⟩::rest) csc cpos) 0 (.ref it) (.ref s2.heap.objs.size) (compEnvC csc (vF X.env.cells csc.names []) s3.heap.objs.size X.env))
  (compPost (model X.prog X.w) X.A X.xe use QQ (.ref s2.heap.objs.size) s3.heap.objs.size) {s3 with heap:=h4,toks:=s3.toks+([]:List (Str × Value)).length}:=
  xb (X:=X.comp N csc s3.heap.objs.size s3 (upd H2 s2.heap.objs.size (.lst [])) fp) (hturn it _ _) rfl hc T (hg _ _ _ _) (ht _ _ _ _) (hb _ _ _ _ _) I4 st4 f4 q3 fin
 exact codeAny_compStart_list loop (T.self X.A 0 _ _ _ st4 loop)
theorem pL{B:Value→Env→Sem PUnit}(hc:X.calm=true)(S:zk X N csc fr)(hi:PI X tg iter wi)
 (hturn:∀(it:Addr) (acc:Value) (env:Env),compTurn (.ListComp elt (⟨tg,iter,ifs,0⟩::rest) csc cpos) 0 (.ref it) acc env=(do
  standAt iter.pos
  match ←pyNext (.ref it) with
  |none=>pure (.done .next)
  |some v=>
   letOwnedTupleGo tg (.ref it) v
   assign tg env v
   let mut ok:=true
   for c in ifs do
    if ok then ok ←isTrue c env (eval c env)
   if ok then B acc env
   again (.compLoop (.ListComp elt (⟨tg,iter,ifs,0⟩::rest) csc cpos) 0 (.ref it) acc env)))
 (hg:∀C s0 H0 ex,PG (X.comp N csc C s0 H0 ex) tg g) (ht:∀C s0 H0 ex,PTs (X.comp N csc C s0 H0 ex) ifs ts)
 (hb:∀C s0 H0 ex acc,PB (X.comp N csc C s0 H0 ex) (B (.ref acc) (X.comp N csc C s0 H0 ex).env) (tb acc))
 (hs:∀x,foldedSetIterable iter X.env x=pure x:=by intro _;rfl) :
 PE X (.ListComp elt (⟨tg,iter,ifs,0⟩::rest) csc cpos) (wO fr wi g ts tb):=by
 intro pins s σ H Q I h
 rw[eval_ListComp]
 refine wpAny_comprehension_free (use:=none) rfl hs (wz (S.cells I.ok)) S.kind S.locals ?_
 refine sx (use:=none) rfl hc S hi hturn hg ht hb I h fun acc C H' s' I' q' hn hC hL h0 hcl hpn=>?_
 obtain⟨m,hn⟩:=hn
 refine⟨m,hn,fun h' sb=>⟨.ref acc,H',?_,rfl,q'⟩⟩
 exact I'.turned (t':=s'.toks) (fun b o hb e=>(sb.2 b hb).trans e) hC (Ne.symm (Ne.symm hL)) (.inr h0) hcl hpn
theorem pR{B:Value→Env→Sem PUnit}{y:Str}{py spos:Pos}{i:Nat}(hc:X.calm=true)(S:zk X N csc fr)(hi:PI X tg iter wi)
 (hturn:∀(it:Addr) (acc:Value) (env:Env),compTurn (.ListComp elt (⟨tg,iter,ifs,0⟩::rest) csc cpos) 0 (.ref it) acc env=(do
  standAt iter.pos
  match ←pyNext (.ref it) with
  |none=>pure (.done .next)
  |some v=>
   letOwnedTupleGo tg (.ref it) v
   assign tg env v
   let mut ok:=true
   for c in ifs do
    if ok then ok ←isTrue c env (eval c env)
   if ok then B acc env
   again (.compLoop (.ListComp elt (⟨tg,iter,ifs,0⟩::rest) csc cpos) 0 (.ref it) acc env)))
 (hg:∀C s0 H0 ex,PG (X.comp N csc C s0 H0 ex) tg g) (ht:∀C s0 H0 ex,PTs (X.comp N csc C s0 H0 ex) ifs ts)
 (hb:∀C s0 H0 ex acc,PB (X.comp N csc C s0 H0 ex) (B (.ref acc) (X.comp N csc C s0 H0 ex).env) (tb acc))
 (hN:X.N.Nodup) (hy:X.N[i]?=some y) (hx:Loc X.env.scope y)
 (hsw:swapsWith (.ListComp elt (⟨tg,iter,ifs,0⟩::rest) csc cpos) (some (.Name y py)) spos.line X.env=pure true:=by rfl)
 (hf:X.fn y=true∨X.env.scope.names.lookup y=some .local:=by first|exact .inl rfl|exact .inr rfl|assumption)
 (hs:∀x,foldedSetIterable iter X.env x=pure x:=by intro _;rfl) :
 PS X (.Assign [.Name y py] (.ListComp elt (⟨tg,iter,ifs,0⟩::rest) csc cpos) spos) (sW (wO fr wi g ts tb) (wJ i)):=by
 intro pins s σ H D I h
 rw[exec_Assign_Name_used _ _ _ _ hsw]
 refine wpAny_bind (wpAny_standAt (wpAny_bind ?_))
 show wpAny _ X.A (do let _ ←comprehension (.ListComp elt (⟨tg,iter,ifs,0⟩::rest) csc cpos) csc X.env _ (newList []) false (eval iter X.env) (some (assign (.Name y py) X.env))) _ _ s
 refine wpAny_bind (wpAny_mono (wpAny_comprehension_free (use:=some (assign (.Name y py) X.env)) (Q:=fun _ s'=>SP X pins D .next s') rfl hs (wz (S.cells I.ok)) S.kind S.locals ?_) (fun _ s' hq=>wpAny_pure (wpAny_pure hq)) fun _ _ e=>e)
 refine sx (use:=some (assign (.Name y py) X.env)) rfl hc S hi hturn hg ht hb I h fun acc C H' s' I' q' hn hC hL h0 hcl hpn=>?_
 obtain⟨m,hn⟩:=hn
 show wpAny _ X.A (assign (.Name y py) X.env (.ref acc)) _ _ _
 refine wpAny_assign_Name (rN I' hN hy hx (show RelV (.ref acc) (.ref acc) from rfl) (fun s2 I2 ⟨a,sb,ha⟩=>?_) hf)
 have haC:C≠a:=by
  rcases ha with ha|ha
  . rw[ha];exact hL
  . exact Ne.symm (hcl y a ha)
 refine⟨m,hn.sameBut sb haC,fun h' sb'=>⟨_,H',?_,q'⟩⟩
 exact I2.turned (t':=s2.toks) (fun b o hb e=>(sb'.2 b hb).trans e) hC hL (.inr h0) hcl hpn
theorem dj(elt tg iter:Expr)(ifs:List Expr)(csc:Scope)(cpos:Pos)(it:Addr)(acc:Value)(env:Env) :
 compTurn (.ListComp elt [⟨tg,iter,ifs,0⟩] csc cpos) 0 (.ref it) acc env=(do
  standAt iter.pos
  match ←pyNext (.ref it) with
  |none=>pure (.done .next)
  |some v=>
   letOwnedTupleGo tg (.ref it) v
   assign tg env v
   let mut ok:=true
   for c in ifs do
    if ok then ok ←isTrue c env (eval c env)
   if ok then (do let _ ←call (.builtin "list.append") [acc,←eval elt env])
   again (.compLoop (.ListComp elt [⟨tg,iter,ifs,0⟩] csc cpos) 0 (.ref it) acc env)):=by rfl
theorem dk(elt tg iter:Expr)(ifs:List Expr)(tg2 iter2:Expr)(ifs2:List Expr)(csc:Scope)(cpos:Pos)(it:Addr)(acc:Value)(env:Env) :
 compTurn (.ListComp elt [⟨tg,iter,ifs,0⟩,⟨tg2,iter2,ifs2,0⟩] csc cpos) 0 (.ref it) acc env=(do
  standAt iter.pos
  match ←pyNext (.ref it) with
  |none=>pure (.done .next)
  |some v=>
   letOwnedTupleGo tg (.ref it) v
   assign tg env v
   let mut ok:=true
   for c in ifs do
    if ok then ok ←isTrue c env (eval c env)
   if ok then (do
    let x ←eval iter2 env
    standAt iter2.pos
    let x ←foldedSetIterable iter2 env x
    let _ ←runOwn (.compStart (.ListComp elt [⟨tg,iter,ifs,0⟩,⟨tg2,iter2,ifs2,0⟩] csc cpos) 1 (←holding [x] (pyIter x)) acc env) env)
   again (.compLoop (.ListComp elt [⟨tg,iter,ifs,0⟩,⟨tg2,iter2,ifs2,0⟩] csc cpos) 0 (.ref it) acc env)):=by
 have e:compTurn (.ListComp elt [⟨tg,iter,ifs,0⟩,⟨tg2,iter2,ifs2,0⟩] csc cpos) 0 (.ref it) acc env=(do
  standAt iter.pos
  match ←pyNext (.ref it) with
  |none=>pure (.done .next)
  |some v=>
   letOwnedTupleGo tg (.ref it) v
   assign tg env v
   let mut ok:=true
   for c in ifs do
    if ok then ok ←isTrue c env (eval c env)
   if ok then
    let x ←eval iter2 env
    standAt iter2.pos
    let x ←foldedSetIterable iter2 env x
    let _ ←runOwn (.compStart (.ListComp elt [⟨tg,iter,ifs,0⟩,⟨tg2,iter2,ifs2,0⟩] csc cpos) 1 (←holding [x] (pyIter x)) acc env) env
   again (.compLoop (.ListComp elt [⟨tg,iter,ifs,0⟩,⟨tg2,iter2,ifs2,0⟩] csc cpos) 0 (.ref it) acc env)):=by rfl
 rw[e]
 simp only[bind_assoc,pure_bind]
theorem ZG(elt tg iter:Expr)(ifs:List Expr)(tg2 iter2:Expr)(ifs2:List Expr)(csc:Scope)(cpos:Pos)(it:Addr)(acc:Value)(env:Env) :
 compTurn (.ListComp elt [⟨tg,iter,ifs,0⟩,⟨tg2,iter2,ifs2,0⟩] csc cpos) 1 (.ref it) acc env=(do
  standAt iter2.pos
  match ←pyNext (.ref it) with
  |none=>pure (.done .next)
  |some v=>
   letOwnedTupleGo tg2 (.ref it) v
   assign tg2 env v
   let mut ok:=true
   for c in ifs2 do
    if ok then ok ←isTrue c env (eval c env)
   if ok then (do let _ ←call (.builtin "list.append") [acc,←eval elt env])
   again (.compLoop (.ListComp elt [⟨tg,iter,ifs,0⟩,⟨tg2,iter2,ifs2,0⟩] csc cpos) 1 (.ref it) acc env)):=by rfl
end
end L2
end
section
namespace L2
open PySem PySem.Spec PyProof.Rows
theorem pw{prog:Program}{w:World}{A:Around}{R:Result→Shared→Prop}{s:Shared}{elt tg iter tg2 iter2:Expr}{ifs ifs2:List Expr}{csc:Scope}{cpos:Pos}{it acc:Value}{env:Env}
 (h0:codeAny (model prog w) A (.compLoop (.ListComp elt [⟨tg,iter,ifs,0⟩,⟨tg2,iter2,ifs2,0⟩] csc cpos) 1 it acc env) R s)
 (h:wpAny (model prog w) A (pyIter it) (fun it' s'=>codeAny (model prog w) A (.compLoop (.ListComp elt [⟨tg,iter,ifs,0⟩,⟨tg2,iter2,ifs2,0⟩] csc cpos) 1 it' acc env) R s')
  (notedBy (model prog w) A env fun x s'=>R (.error x) s') s) :
 codeAny (model prog w) A (.compStart (.ListComp elt [⟨tg,iter,ifs,0⟩,⟨tg2,iter2,ifs2,0⟩] csc cpos) 1 it acc env) R s:=by
 refine codeAny_of_tree ?_
 show wpAny _ _ ((compStart (.ListComp elt [⟨tg,iter,ifs,0⟩,⟨tg2,iter2,ifs2,0⟩] csc cpos) 1 it acc env).onRaise (fun x=>do noteFrame x env;standAt theWindowsPlace)) _ _ s
 refine wpAny_notedAt ?_
 unfold compStart
 show wpAny _ _ (ask >>= _) _ _ s
 refine wpAny_bind (wpAny_askSetting (wpAny_ite ?_))
 split
 . first
    |exact wpAny_bind (wpAny_pure (wpAny_pure (And.intro rfl h0)))
    |exact wpAny_pure (And.intro rfl h0)
 . first
    |exact wpAny_bind (wpAny_rule (wpAny_bind (wpAny_standAt (wpAny_bind (wpAny_mono h (fun it' s' h'=>wpAny_pure (And.intro rfl h')) fun _ _ x=>x)))))
    |(refine wpAny_bind (wpAny_rule ?_);show wpAny _ _ (standAt iter2.pos >>= _) _ _ s;exact wpAny_bind (wpAny_standAt (wpAny_bind (wpAny_mono h (fun it' s' h'=>wpAny_pure (And.intro rfl h')) fun _ _ x=>x))))
noncomputable def tx(wi:TI)(g:TG)(ts:List TT)(tb:TB):TB:=fun Nx σ H=>wi σ H fun J H1=>rL J g (tTB ts tb) ⟨Nx,fun _ _=>False,fun _ _=>False,fun _ _=>False⟩ σ H1
theorem pJ{X:Cx}{acc:Addr}{elt tg iter tg2 iter2:Expr}{ifs ifs2:List Expr}{csc:Scope}{cpos:Pos}{wi:TI}{g:TG}{ts:List TT}{tb:TB}
 (hx:X.xe=fun _ _=>False) (hc:X.calm=true) (hi:PI X tg2 iter2 wi) (hg:PG X tg2 g) (ht:PTs X ifs2 ts) (hb:PB X (do let _ ←call (.builtin "list.append") [.ref acc,←eval elt X.env]) tb)
 (hs:∀x,foldedSetIterable iter2 X.env x=pure x:=by intro _;rfl) :
 PB X (do
       let x ←eval iter2 X.env
       standAt iter2.pos
       let x ←foldedSetIterable iter2 X.env x
       let _ ←runOwn (.compStart (.ListComp elt [⟨tg,iter,ifs,0⟩,⟨tg2,iter2,ifs2,0⟩] csc cpos) 1 (←holding [x] (pyIter x)) (.ref acc) X.env) X.env) (tx wi g ts tb):=by
 intro pins s σ H Nx I h
 refine wpAny_bind (thn (hi pins s σ H _ I h) fun v s1 h1=>wpAny_bind (wpAny_standAt (wpAny_bind (wpAny_of_eq (hs v) (wpAny_bind (wpAny_holding (thn h1 fun itv s2 h2=>?_)))))))
 obtain⟨it,fp,tn,J,H2,e,I2,T,st2,f2,q2⟩:=h2
 subst e
 refine wpAny_bind (wpAny_runOwn ?_)
 have loop:codeAny (model X.prog X.w) X.A (.compLoop (.ListComp elt [⟨tg,iter,ifs,0⟩,⟨tg2,iter2,ifs2,0⟩] csc cpos) 1 (.ref it) (.ref acc) X.env)
  (fun r s'=>match r with|.ok f=>wpAny (model X.prog X.w) X.A (pure PUnit.unit:Sem PUnit) (fun _ s'=>∃σ' H',Inv X pins σ' H' s'∧Nx σ' H') X.xe s'|.error e=>cameBackBy (model X.prog X.w) X.A X.env X.xe e s') s2:=
  xb (ZG ..) hx hc T hg ht hb I2 st2 f2 q2 fun σ' H' s' I' n' _=>wpAny_pure ⟨σ',H',I',n'⟩
 exact pw loop (T.self X.A 0 _ _ _ st2 loop)
section
variable {X:Cx}{N:List Str}{csc:Scope}{fr:List (Option Nat)}{elt tg iter tg2 iter2:Expr}{ifs ifs2:List Expr}{cpos:Pos}{wi wi2:TI}{g g2:TG}{ts ts2:List TT}{te:TE}
theorem n9(hc:X.calm=true)(S:zk X N csc fr)(hi:PI X tg iter wi)(hg:∀C s0 H0 ex,PG (X.comp N csc C s0 H0 ex) tg g)(ht:∀C s0 H0 ex,PTs (X.comp N csc C s0 H0 ex) ifs ts)
 (he:∀C s0 H0 ex,PE (X.comp N csc C s0 H0 ex) elt te) (hs:∀x,foldedSetIterable iter X.env x=pure x:=by intro _;rfl) :
 PE X (.ListComp elt [⟨tg,iter,ifs,0⟩] csc cpos) (wO fr wi g ts fun acc=>w5 acc te):=
 pL hc S hi (B:=fun acc env=>(do let _ ←call (.builtin "list.append") [acc,←eval elt env])) (dj elt tg iter ifs csc cpos) hg ht (fun C s0 H0 ex acc=>uh (he C s0 H0 ex)) hs
theorem fq{y:Str}{py spos:Pos}{i:Nat}(hc:X.calm=true)(S:zk X N csc fr)(hi:PI X tg iter wi)(hg:∀C s0 H0 ex,PG (X.comp N csc C s0 H0 ex) tg g)(ht:∀C s0 H0 ex,PTs (X.comp N csc C s0 H0 ex) ifs ts)
 (he:∀C s0 H0 ex,PE (X.comp N csc C s0 H0 ex) elt te) (hN:X.N.Nodup) (hy:X.N[i]?=some y) (hx:Loc X.env.scope y)
 (hsw:swapsWith (.ListComp elt [⟨tg,iter,ifs,0⟩] csc cpos) (some (.Name y py)) spos.line X.env=pure true:=by rfl)
 (hf:X.fn y=true∨X.env.scope.names.lookup y=some .local:=by first|exact .inl rfl|exact .inr rfl|assumption)
 (hs:∀x,foldedSetIterable iter X.env x=pure x:=by intro _;rfl) :
 PS X (.Assign [.Name y py] (.ListComp elt [⟨tg,iter,ifs,0⟩] csc cpos) spos) (sW (wO fr wi g ts fun acc=>w5 acc te) (wJ i)):=
 pR hc S hi (B:=fun acc env=>(do let _ ←call (.builtin "list.append") [acc,←eval elt env])) (dj elt tg iter ifs csc cpos) hg ht (fun C s0 H0 ex acc=>uh (he C s0 H0 ex)) hN hy hx hsw hf hs
theorem pK(hc:X.calm=true)(S:zk X N csc fr)(hi:PI X tg iter wi)(hg:∀C s0 H0 ex,PG (X.comp N csc C s0 H0 ex) tg g)(ht:∀C s0 H0 ex,PTs (X.comp N csc C s0 H0 ex) ifs ts)
 (hi2:∀C s0 H0 ex,PI (X.comp N csc C s0 H0 ex) tg2 iter2 wi2) (hg2:∀C s0 H0 ex,PG (X.comp N csc C s0 H0 ex) tg2 g2) (ht2:∀C s0 H0 ex,PTs (X.comp N csc C s0 H0 ex) ifs2 ts2)
 (he:∀C s0 H0 ex,PE (X.comp N csc C s0 H0 ex) elt te) (hs:∀x,foldedSetIterable iter X.env x=pure x:=by intro _;rfl)
 (hs2:∀env x,foldedSetIterable iter2 env x=pure x:=by intro _ _;rfl) :
 PE X (.ListComp elt [⟨tg,iter,ifs,0⟩,⟨tg2,iter2,ifs2,0⟩] csc cpos) (wO fr wi g ts fun acc=>tx wi2 g2 ts2 (w5 acc te)):=
 pL hc S hi (B:=fun acc env=>(do
         let x ←eval iter2 env
         standAt iter2.pos
         let x ←foldedSetIterable iter2 env x
         let _ ←runOwn (.compStart (.ListComp elt [⟨tg,iter,ifs,0⟩,⟨tg2,iter2,ifs2,0⟩] csc cpos) 1 (←holding [x] (pyIter x)) acc env) env)) (dk elt tg iter ifs tg2 iter2 ifs2 csc cpos) hg ht
  (fun C s0 H0 ex acc=>pJ rfl hc (hi2 C s0 H0 ex) (hg2 C s0 H0 ex) (ht2 C s0 H0 ex) (uh (he C s0 H0 ex)) (hs2 _)) hs
end
end L2
end
section
namespace L2
open PySem PySem.Spec PyProof.Rows
section
variable {X:Cx}
theorem ur:yN X (.builtin "isinstance") (fun xs H Q=>∃x c t b,xs=[x,.ty c]∧vN X.K H x (.type t)∧PySem.W.kitOne X.K (.type t) (.type c)=some b∧Q (.bl b) H):=by
 intro pins s σ H xs us Q I r h
 obtain⟨x,c,t,b,rfl,ty,e,q⟩:=h
 obtain⟨u,w',rfl,rx,rc⟩:=vals2 r
 cases (show w'=Value.type c from rc)
 exact ma I rx ty e fun tk=>⟨.bl b,H,I.tok _,rfl,q⟩
end
inductive Kd where
 |non|bl|int|str|lst|tup|dct
 deriving DecidableEq
noncomputable def Kd.nm:Kd→String
 |.non=>"NoneType"|.bl=>"bool"|.int=>"int"|.str=>"str"|.lst=>"list"|.tup=>"tuple"|.dct=>"dict"
noncomputable def Kd.sub(a c:Kd):Bool:=decide (a=c)||(decide (a=.bl)&&decide (c=.int))
theorem bp(K:PySem.W.Frag)(a c:Kd)(hc:c≠.non):PySem.W.kitOne K (.type a.nm) (.type c.nm)=some (a.sub c):=by
 cases c with
 |non=>exact absurd rfl hc
 |bl=>cases a<;>rfl
 |int=>cases a<;>rfl
 |str=>cases a<;>rfl
 |lst=>cases a<;>rfl
 |tup=>cases a<;>rfl
 |dct=>cases a<;>rfl
section
variable {X:Cx}
theorem all_range:∀(bs:List Bool),((List.range bs.length).all fun i=>bs.getD i false)=bs.all id:=by
 intro bs
 induction bs with
 |nil=>rfl
 |cons b bs ih=>
  rw[List.length_cons,List.range_succ_eq_map,List.all_cons,List.all_cons,List.all_map]
  exact congrArg (b&&·) (Eq.trans (by congr 1) ih)
theorem Vals.bools:∀{bs:List Bool} {us:List Value},Vals (bs.map V.bl) us→us=bs.map Value.bool
 |[],us,r=>by cases r;rfl
 |b::bs,us,r=>by
  rw[List.map_cons]at r
  cases r with
  |cons r1 r2=>
   cases (show _=Value.bool b from r1)
   rw[Vals.bools r2,List.map_cons]
theorem uq(hc:X.calm=true):yN X (.builtin "all") (fun xs H Q=>∃(a:Addr) (bs:List Bool),xs=[.ref a]∧SqL X.K H a (bs.map V.bl)∧Q (.bl (bs.all id)) H):=by
 intro pins s σ H xs us Q I r h
 obtain⟨a,bs,rfl,ha,q⟩:=h
 obtain⟨u,rfl,ru⟩:=vals1 r
 cases ru
 obtain⟨its,rv,pl,hz⟩:=I.list ha
 have hits:=rv.bools
 have alt:a<s.heap.objs.size:=by obtain⟨o,ho,_⟩:=pl.isList;exact Heap.lt_size ho
 refine call_all_walk (wpAny_pyIter_list pl.isList ?_)
 refine⟨s.heap.objs.size,_,_,_,_,_,fun i=>bs.getD i false,rfl,Walks.list (A:=X.A.in1) (I.ok.hd hc) s.heap.objs.size a (Nat.ne_of_lt alt) its.toArray,⟨⟨_,Heap.get?_push_size _ rfl,rfl,rfl⟩,?_⟩,?_,fun h' tk hk=>?_⟩
 . obtain⟨o,ho,hc',n,hd⟩:=pl.isList
   exact⟨o,Heap.get?_push_of_some _ ho,hc',n,hd⟩
 . intro i v s' Q' E' hv hq
   have hv':(bs.map Value.bool)[i]?=some v:=by rw[←hits];simpa using hv
   rw[List.getElem?_map]at hv'
   cases hb:bs[i]? with
   |none=>rw[hb]at hv';cases hv'
   |some b=>
    rw[hb]at hv'
    have:v=Value.bool b:=(Option.some.inj hv').symm
    subst this
    have e:bs.getD i false=b:=by rw[List.getD_eq_getElem?_getD,hb];rfl
    have hq':Q' (bs.getD i false) s':=hq
    rw[e]at hq'
    exact wpAny_truthy_bool hq'
 . have e:(List.range its.toArray.size).all (fun i=>bs.getD i false)=bs.all id:=by
    rw[List.size_toArray,hits,List.length_map];exact all_range bs
   rw[e]
   refine⟨.bl (bs.all id),H,I.kept fun b o ho=>hk b o ?_ (Heap.get?_push_of_some _ ho),rfl,q⟩
   simpa using Nat.ne_of_lt (Heap.lt_size ho)
end
end L2
end
section
namespace L2
open PySem PySem.Spec PyProof.Rows
theorem ig{H:Hp}{p:Addr}(h:H p=none)(o:HO):vp H (upd H p o):=fun b u q=>by rw[zP (zT q h)];exact q
def uJ(H:Hp)(ys:List V)(Q:VK):Prop:=∀p H',vp H H'→H' p=some (.tup ys)→Q (.ref p) H'
theorem uJ.new{H:Hp}{ys:List V}{Q:VK}(g:uJ H ys Q):∀p,H p=none→Q (.ref p) (upd H p (.tup ys)):=fun p hp=>g p _ (ig hp _) zV
noncomputable def XQ:V→Option Int→Option Int→Hp→VK→Prop:=fun x lo hi H Q=>∃a xs,x=.ref a∧H a=some (.tup xs)∧uJ H (sF xs lo hi) Q
noncomputable def dU:R2:=fun x y H Q=>∃a b xs ys,x=.ref a∧y=.ref b∧H a=some (.tup xs)∧H b=some (.tup ys)∧xs.length+ys.length≤sizeLine∧uJ H (xs++ys) Q
noncomputable def Yh:R2:=fun x y H Q=>∃a k xs,x=.ref a∧y=.int k∧H a=some (.tup xs)∧2≤k∧k≤1000∧xs≠[]∧xs.length≤1000∧uJ H (List.replicate k.toNat xs).flatten Q
section
variable {X:Cx}
theorem mS{t sl:Addr}{items:Array Value}{vl vu:Value}{lo hi:Option Int}{Q:Value→Shared→Prop}{A:Around}{E:Value→Shared→Prop}{s:Shared}{prog:Program}{w:World}(ht:IsTup s.heap t items)(hs:s.heap.IsSliceOf sl vl vu .none)(pl:IsPart vl lo)(pu:IsPart vu hi)
 (h0:HT.sIx items.size 0 lo=0) (h1:HT.sIx items.size items.size hi=items.size) (h:Q (.ref t) s):wpAny (model prog w) A (getItem (.ref t) (.ref sl)) Q E s:=by
 obtain⟨os,hos,hcs,hds⟩:=id hs
 have hTs:s.TypeIs (.ref sl) "slice":=⟨os,hos,hcs⟩
 unfold getItem
 try with_reducible refine wpAny_holding ?_
 first|refine wpAny_bind (wpAny_pure ?_)|skip
 refine wpAny_bind (wpAny_sequenceKey ht.typeIs (by decide) ?_)
 refine wpAny_bind (wpAny_callSpecial?_slot (name:=Str.ofString "__getitem__") ht.typeIs PyProof.Rows.slot_tuple_getitem
  (wpAny_call_entry PyProof.Rows.slot_tuple_getitem ht.typeIs entry_tuple_getitem ?_ (args_tuple_getitem _ _)))
 show wpAny _ _ (Builtin.Tuple.tupleItemsOf (.ref t) >>= _) _ _ s
 refine wpAny_bind (tupleItemsOf_ ht ?_)
 refine wpAny_bind (wpAny_typeOf hTs ?_)
 rw[if_pos (by decide)]
 refine wpAny_bind (HT.xk hs pl pu ?_)
 have hyes:(((HT.sIx items.size 0 lo:Nat):Int) == 0&&(1:Int) == 1&&(HT.sIx items.size items.size hi-HT.sIx items.size 0 lo) == items.size)=true:=by
  rw[h0,h1];simp
 show wpAny _ _ (if (((HT.sIx items.size 0 lo:Nat):Int) == 0&&(1:Int) == 1&&(HT.sIx items.size items.size hi-HT.sIx items.size 0 lo) == items.size)=true then _ else _) _ _ s
 rw[if_pos hyes]
 unfold Builtin.Tuple.tupleIsExact
 refine wpAny_bind (wpAny_bind (wpAny_typeOf ht.typeIs (wpAny_pure ?_)))
 rw[if_pos (by decide)]
 exact wpAny_bind (wpAny_rule (wpAny_pure ⟨_,rfl,wpAny_pure h⟩))
theorem eI:SlR X XQ:=by
 intro pins s σ H x v vl vu lo hi sl Q I rx hs pl pu h
 obtain⟨a,xs,rfl,hx,g⟩:=h
 by_cases hw:HT.sIx xs.length 0 lo=0∧HT.sIx xs.length xs.length hi=xs.length
 . cases rx
   obtain⟨its,r,ht,hz⟩:=I.tuple (.inl (.inl hx))
   have hlen:its.toArray.size=xs.length:=by rw[List.size_toArray];exact r.length.symm
   refine⟨"tuple",_,PyProof.Rows.slot_tuple_getitem.lookup,ht.typeIs,?_⟩
   refine mS ht hs pl pu (by rw[hlen];exact hw.1) (by rw[hlen];exact hw.2) ⟨.ref a,H,I,rfl,g a H (vp.refl H) ?_⟩
   rw[hx]
   unfold sF
   rw[hw.1,hw.2,List.drop_zero,Nat.sub_zero,List.take_length]
 . exact aw pins s σ H (.ref a) v vl vu lo hi sl Q I rx hs pl pu ⟨a,xs,rfl,.inl (.inl hx),hw,g.new⟩
theorem jd:OpR X (binaryOp .Add) dU:=by
 intro pins s σ H x y v u Q I rx ry h
 obtain⟨a,b,xs,ys,rfl,rfl,ha,hb,hz,g⟩:=h
 by_cases hx:xs=[]
 . cases rx
   cases ry
   subst hx
   obtain⟨its,r1,p1,_⟩:=I.tuple (.inl (.inl ha))
   obtain⟨its2,r2,p2,_⟩:=I.tuple (.inl (.inl hb))
   cases r1
   obtain⟨⟨cls,dd,data,sl⟩,ho,hc,n,hd⟩:=id p1
   obtain⟨⟨cls2,dd2,data2,sl2⟩,ho2,hc2,n2,hd2⟩:=id p2
   simp only at hc hd hc2 hd2
   subst hc hd hc2 hd2
   exact concat_meets ⟨_,ho,rfl⟩ ⟨_,ho2,rfl⟩ noFill_tuple_add seq_tuple_add PySem.F.slot_tuple_add PySem.F.entry_tuple_add (PySem.F.args_tuple_add_2 _ _)
    (tuple_addW0 a b #[] its2.toArray n n2 dd dd2 sl sl2 rfl) ⟨ho,ho2,⟨.ref b,H,I,rfl,g b H (vp.refl H) hb⟩⟩
 . refine fG pins s σ H (.ref a) (.ref b) v u Q I rx ry ⟨a,b,xs,ys,rfl,rfl,.inl (.inl ha),.inl (.inl hb),hx,hz,fun e=>?_,fun _=>g.new⟩
   subst e
   rw[List.append_nil]at g
   exact g a H (vp.refl H) ha
theorem y2:fillsNumberSlot (.type "tuple") "mul"=pure false:=
 PySem.fillsNumberSlot_seq (id:="tuple.__mul__") (r:=some (.builtin "tuple.__rmul__")) F.slot_tuple_mul.lookup (by decide +kernel) F.slot_tuple_rmul.lookup (by decide +kernel)
theorem x9:seqRepeat? (.type "tuple")=pure (some (.builtin "tuple.__mul__")):=by
 unfold seqRepeat?
 rw[PySem.seqSlot_of (T:="tuple") (name:="__mul__") (id:="tuple.__mul__") F.slot_tuple_mul.lookup (by decide +kernel),PySem.seqSlot_of (T:="tuple") (name:="__rmul__") (id:="tuple.__rmul__") F.slot_tuple_rmul.lookup (by decide +kernel)]
 rfl
theorem xK(a:Int)(t:Tok)(l:Addr)(items:Array Value)(n:Nat)(dd:Option Addr)(sl:Array (Option Value)) :
 Meets (Builtin.«int.__rmul__» ⟨[.int a t,.ref l],[]⟩) (fun _ R s=>s.heap.get? l=some {cls:=.type "tuple",dict:=dd,data:=.seq items n,slots:=sl}∧R (.ok (.ret Value.notImplemented)) s):=
 .of_wp fun prog w A R s h=>by obtain⟨hp,g,d,tk,os⟩:=s;obtain⟨hl,h⟩:=h;wp_walk;exact⟨_,rfl,h⟩
theorem nG(l:Addr)(items:Array Value)(n:Nat)(x:Int)(u:Tok)(dd:Option Addr)(sl:Array (Option Value))(h1:2≤x)(h2:x≤1000)(h3:¬items.isEmpty=true)(h4:items.size≤1000) :
 Meets (Builtin.«tuple.__mul__» ⟨[.ref l,.int x u],[]⟩) (fun _ R s=>s.heap.get? l=some {cls:=.type "tuple",dict:=dd,data:=.seq items n,slots:=sl} ∧
  R (.ok (.ret (Value.ref s.heap.objs.size))) {s with heap:=s.heap.push {cls:=Value.type "tuple",data:=Data.seq (List.foldl (fun x1 x2=>x1++x2) #[] (List.replicate x.toNat items))},toks:=s.toks}):=
 .of_wp fun prog w A R s h=>by
  obtain⟨hp,g,d,tk,os⟩:=s;obtain⟨hl,h⟩:=h
  have f1:=AutoSeq1.idx_int
  have c1:¬((decide (x < -(2 ^ 63))||decide (x ≥ 2 ^ 63))=true):=by simp;omega
  have c2:¬((items.isEmpty||x == 1)=true):=by simp at h3 ⊢;exact⟨h3,by omega⟩
  have c3:¬((decide (x≤0)||items.isEmpty)=true):=by simp at h3 ⊢;exact⟨by omega,h3⟩
  have hprod:(items.size:Int)*x≤1000*1000:=Int.mul_le_mul (by omega) h2 (by omega) (by omega)
  have c4:¬((items.size:Int)*x > (2 ^ 63-1)/8):=by omega
  have hL:sizeLine=16777216:=sizeLine_eq
  have c5:¬(Builtin.Tuple.tupleTooMany ((items.size:Int)*x)=true):=by
   unfold Builtin.Tuple.tupleTooMany
   rw[hL]
   simp only[decide_eq_true_eq]
   omega
  have hn:(List.foldl (fun x1 x2=>x1++x2) #[] (List.replicate x.toNat items)).size=x.toNat*items.size:=by
   have e:=foldl_rep items.toList x.toNat []
   simp only[Array.toArray_toList,List.nil_append]at e
   rw[e,List.size_toArray,len_rep,Array.length_toList]
  have htake:sizeOk (.seq (List.foldl (fun x1 x2=>x1++x2) #[] (List.replicate x.toNat items))):=by
   show (List.foldl (fun x1 x2=>x1++x2) #[] (List.replicate x.toNat items)).size≤sizeLine
   rw[hn,hL]
   have:x.toNat*items.size≤1000*1000:=Nat.mul_le_mul (by omega) h4
   omega
  wp_walk using wpAny_loadPart' hl
  rw[if_neg c1]
  refine wpAny_bind (tupleItemsOf_ (items:=items) ⟨_,hl,rfl,n,rfl⟩ ?_)
  rw[if_neg c2]
  show wpAny _ _ (if (decide (x≤0)||items.isEmpty)=true then _ else _) _ _ _
  rw[if_neg c3]
  show wpAny _ _ (if (items.size:Int)*x > (2 ^ 63-1)/8 then _ else _) _ _ _
  rw[if_neg c4]
  show wpAny _ _ (if Builtin.Tuple.tupleTooMany ((items.size:Int)*x)=true then _ else _) _ _ _
  rw[if_neg c5]
  exact wpAny_bind (m:=Builtin.Tuple.tupleExact _) (wpAny_newObj_type (wpAny_pure ⟨_,rfl,h⟩) htake)
theorem fK:OpR X (binaryOp .Mult) Yh:=by
 intro pins s σ H x y v u Q I rx ry h
 obtain⟨a,k,xs,rfl,rfl,ha,h1,h2,h3,h4,g⟩:=h
 cases rx
 obtain⟨t,rfl⟩:=ry
 obtain⟨its,r,p1,_⟩:=I.tuple (.inl (.inl ha))
 obtain⟨⟨cls,dd,data,sl⟩,ho,hc,n,hd⟩:=id p1
 simp only at hc hd
 subst hc hd
 have hl:=r.length
 have hne:¬its.toArray.isEmpty=true:=by
  simp
  intro e
  exact h3 (r.xU.mp e)
 refine wpAny_binaryOp_repeat_ref (T:="tuple") (U:="int") (by decide) ⟨_,ho,rfl⟩ (fun s'=>typeIs_int s' k t) y2 F.fills_int_mul F.slot_int_rmul x9 F.slot_int_index.lookup
  (call_meets F.slot_int_rmul (typeIs_int s k t) F.entry_int_rmul (F.args_int_rmul_2 _ _) (xK k t a its.toArray n dd sl)
   ⟨ho,rfl,⟨_,ho,rfl⟩,call_meets F.slot_tuple_mul ⟨_,ho,rfl⟩ F.entry_tuple_mul (F.args_tuple_mul_2 _ _) (nG a its.toArray n k t dd sl h1 h2 hne (by rw[List.size_toArray,←hl];exact h4)) ⟨ho,?_⟩⟩)
 have e:=foldl_rep its k.toNat []
 rw[List.nil_append]at e
 have hz:(List.replicate k.toNat xs).flatten.length≤sizeLine:=by
  rw[len_rep,sizeLine_eq]
  have:k.toNat*xs.length≤1000*1000:=Nat.mul_le_mul (by omega) h4
  omega
 refine⟨.ref s.heap.objs.size,_,I.laid (t':=s.toks) (o:=.tup (List.replicate k.toNat xs).flatten) (fun b ob q=>Heap.get?_push_of_some _ q) (Nat.le_refl _) ⟨hz,(List.replicate k.toNat its).flatten,r.rep k.toNat,?_⟩,rfl,g.new _ (I.hok.fresh (Nat.le_refl _))⟩
 rw[show (#[]:Array Value)=([]:List Value).toArray from rfl,e]
 exact vC.new _ _
end
end L2
end
section
namespace L2
open PySem PySem.Spec PyProof.Rows
section
variable {X:Cx}{pos:Pos}
noncomputable def dg(i j k:Nat)(ta:TA):TS:=fun D σ H=>ta σ H fun vs H1=>∃v w z,vs=[v,w,z]∧D.nx (((σ.set i (some v)).set j (some w)).set k (some z)) H1
theorem vals3{x y z:V}{us:List Value}(r:Vals [x,y,z] us):∃u1 u2 u3,us=[u1,u2,u3]∧RelV x u1∧RelV y u2∧RelV z u3:=by
 cases r with
 |cons r1 r2=>
  cases r2 with
  |cons r3 r4=>
   cases r4 with
   |cons r5 r6=>cases r6;exact⟨_,_,_,rfl,r1,r3,r5⟩
theorem fw{i j k:Nat}{x y z:Str}{a b c:Expr}{ta:TA}{px py pz pt:Pos}{kt k2 pt2}(hc:X.calm=true)(hN:X.N.Nodup)(hi:X.N[i]?=some x)(hj:X.N[j]?=some y)(hk:X.N[k]?=some z)(hij:i≠j)(hik:i≠k)(hjk:j≠k)
 (hx:X.env.scope.names.lookup x=some .local) (hy:X.env.scope.names.lookup y=some .local) (hz:X.env.scope.names.lookup z=some .local) (ha:PA X [a,b,c] ta)
 (hw:swappedStores [.Tuple [.Name x px,.Name y py,.Name z pz] kt pt] (.Tuple [a,b,c] k2 pt2) X.env=pure (some [x,y,z]))
 (hs:swapsWithSole [.Tuple [.Name x px,.Name y py,.Name z pz] kt pt] (.Tuple [a,b,c] k2 pt2) pos.line X.env=pure false:=by rfl) :
 PS X (.Assign [.Tuple [.Name x px,.Name y py,.Name z pz] kt pt] (.Tuple [a,b,c] k2 pt2) pos) (dg i j k ta):=by
 intro pins s σ H D I h
 rw[exec_Assign_arm]
 refine wpAny_bind (wpAny_standAt ?_)
 rw[hs]
 refine wpAny_bind (wpAny_pure ?_)
 rw[if_neg (by decide)]
 refine wpAny_bind (Tuple_ (thn (ha _ pins s σ H _ I h) fun us s1 ⟨vs,H1,I1,r1,q1⟩=>?_))
 obtain⟨v,w,zz,e1,q1⟩:=q1
 subst e1
 obtain⟨u1,u2,u3,rfl,rv,rw',rz⟩:=vals3 r1
 refine wpAny_newObj_type ?_ (by show 3≤sizeLine;decide)
 have I2:Inv X pins σ H1 {s1 with heap:=s1.heap.push {cls:=.type "tuple",data:=.seq [u1,u2,u3].toArray}}:=I1.kept (t':=s1.toks) fun b o e=>Heap.get?_push_of_some _ e
 rw[hw]
 refine wpAny_bind (wpAny_pure ?_)
 show wpAny (model X.prog X.w) X.A (do rule "assign.swapped-stores";let items ←unpackItems (.ref s1.heap.objs.size) 3 none;assignInOrder [fun v=>bindName X.env z v,fun v=>bindName X.env y v,fun v=>bindName X.env x v] items.reverse;pure Flow.next) _ _ _
 refine wpAny_bind (wpAny_rule (wpAny_bind (unpackItems_tuple (items:=#[u1,u2,u3]) (I.ok.hd hc) (IsTup.new s1.heap _) fun h' hx'=>?_)))
 have I3:=I2.kept (h':=h') (t':=s1.toks) fun b o e=>hx' b o (Nat.ne_of_lt (Heap.lt_size e)) e
 show wpAny _ _ (assignInOrder [fun v=>bindName X.env z v,fun v=>bindName X.env y v,fun v=>bindName X.env x v] [u3,u2,u1] >>= fun _=>pure Flow.next) _ _ _
 refine wpAny_bind (assignInOrder_cons (wpAny_bindName (y7 I3 hN hk (.inl hz) rz (fun s2 I4=>?_) (.inr hz))))
 refine assignInOrder_cons (wpAny_bindName (y7 I4 hN hj (.inl hy) rw' (fun s3 I5=>?_) (.inr hy)))
 refine assignInOrder_cons (wpAny_bindName (y7 I5 hN hi (.inl hx) rv (fun s4 I6=>assignInOrder_nil (wpAny_pure ?_)) (.inr hx)))
 refine⟨_,H1,?_,q1⟩
 have e:((σ.set k (some zz)).set j (some w)).set i (some v)=((σ.set i (some v)).set j (some w)).set k (some zz):=by
  rw[List.set_comm _ _ (Ne.symm hij),List.set_comm _ _ (Ne.symm hik),List.set_comm _ _ (Ne.symm hjk)]
 rw[←e]
 exact I6
end
end L2
namespace L2
open PySem PySem.Spec PyProof.Rows
mutual
inductive DD(H:Hp)(p:Addr):V→PyData→Prop
 |non:DD H p .non .none
 |bl (b:Bool):DD H p (.bl b) (.bool b)
 |int (i:Int):DD H p (.int i) (.int i)
 |str (x:Str):DD H p (.str x) (.str x)
 |lst {a:Addr} {xs:List V} {ds:List PyData}:H a=some (.lst xs)→a≠p→DDs H p xs ds→DD H p (.ref a) (.list ds)
 |tup {a:Addr} {xs:List V} {ds:List PyData}:H a=some (.tup xs)→a≠p→DDs H p xs ds→DD H p (.ref a) (.tuple ds)
 |dct {a:Addr}:H a=some (.dK [])→a≠p→DD H p (.ref a) (.dict [])
inductive DDs(H:Hp)(p:Addr):List V→List PyData→Prop
 |nil:DDs H p [] []
 |cons {x:V} {xs:List V} {d:PyData} {ds:List PyData}:DD H p x d→DDs H p xs ds→DDs H p (x::xs) (d::ds)
end
theorem DDs.length{H:Hp}{p:Addr}:∀{vs:List V} {ds:List PyData},DDs H p vs ds→vs.length=ds.length
 |_,_,.nil=>rfl
 |_,_,.cons _ rs=>by rw[List.length_cons,List.length_cons,rs.length]
theorem DDs.append{H:Hp}{p:Addr}:∀{vs ws:List V} {ds es:List PyData},DDs H p vs ds→DDs H p ws es→DDs H p (vs++ws) (ds++es)
 |_,_,_,_,.nil,r=>r
 |_,_,_,_,.cons r rs,q=>.cons r (rs.append q)
mutual
noncomputable def xE:PyData→Bool
 |.none|.bool _|.int _|.str _=>false
 |.list _=>true
 |.tuple xs=>y0 xs
 |.dict _=>false
noncomputable def y0:List PyData→Bool
 |[]=>false
 |x::xs=>xE x||y0 xs
end
end L2
end
section
namespace L2
open PySem PySem.Spec PyProof.Rows
theorem si{k:Nat}:∀{ds:List PyData},(∀d∈ds,d.depth≤k)→PyData.depthAll ds≤k
 |[],_=>Nat.zero_le _
 |d::ds,h=>by rw[PyData.depthAll];exact Nat.max_le.mpr ⟨h d List.mem_cons_self,si fun x hx=>h x (List.mem_cons_of_mem _ hx)⟩
end L2
end
section
namespace L2
open PySem PySem.Spec PyProof.Rows
section
variable {X:Cx}{pos:Pos}
theorem YU{x:Str}{n:String}(hg:Gl X x)(hm:X.mg x=none)(hv:bootBuiltins x=some (.type n))(hn:x≠"__name__":=by decide)(hd:(x == ("__debug__":Str))=false:=by decide):PE X (.Name x pos) (tC (.ty n)):=
 fX hg hm hv (show RelV (.ty n) (.type n) from rfl) hn hd
noncomputable def noStar:Expr→Bool
 |.Starred ..=>false
 |_=>true
theorem zZ{e:Expr}{es:List Expr}{env:Env}(h:noStar e=true):starEach (e::es) env=(false,eval e env)::starEach es env:=by
 cases e<;>first|rfl|cases h
theorem pac{X:Cx}{e:Expr}{es:List Expr}{te:TE}{t:TA}(ha:PE X e te)(hr:PA X es t)(hs:noStar e=true:=by rfl):PA X (e::es) (tw te t):=fV ha hr (zZ hs)
noncomputable def rl(sc0:Scope)(N0 N:List Str)(csc:Scope)(fr:List (Option Nat)):Bool:=
 decide (csc.kind=.function)&&csc.names.all (fun x=>decide (x.2≠.cell))&&csc.names.all (fun x=>decide (x.2≠.local)||decide (csc.names.lookup x.1=some .local)) &&
 csc.names.all (fun x=>decide (x.2≠.free)||(decide (sc0.names.lookup x.1=some .cell)||decide (sc0.names.lookup x.1=some .free)))&&decide (fr.length=N.length) &&
 (List.range N.length).all (fun i=>match fr[i]?,N[i]? with|some (some j),some x=>decide (N0[j]?=some x)&&csc.names.any (fun y=>decide (y.1=x)&&decide (y.2=.free))|_,_=>true) &&
 csc.names.all (fun x=>decide (x.2≠.free)||decide (csc.names.lookup x.1≠some .local))
end
end L2
end
section
namespace L2
open PySem PySem.Spec PyProof.Rows
noncomputable def zW{α:Type}(xs:List α)(lo st:Int)(n:Nat):List α:=(List.range n).filterMap fun(k:Nat)=>xs[(lo+(k:Int)*st).toNat]?
theorem Vals.pick{xs:List V}{us:List Value}(r:Vals xs us):∀(is:List Nat),Vals (is.filterMap fun i=>xs[i]?) (is.filterMap fun i=>us[i]?)
 |[]=>.nil
 |i::is=>by
  rw[List.filterMap_cons,List.filterMap_cons]
  cases hx:xs[i]? with
  |none=>rw[r.none_of hx];exact Vals.pick r is
  |some x=>
   obtain⟨u,hu,ru⟩:=r.get hx
   rw[hu]
   exact .cons ru (Vals.pick r is)
theorem Vals.zW{xs:List V}{us:List Value}(r:Vals xs us)(lo st:Int)(n:Nat):Vals (zW xs lo st n) (L2.zW us lo st n):=by
 have h:=r.pick ((List.range n).map fun(k:Nat)=>(lo+(k:Int)*st).toNat)
 rw[List.filterMap_map,List.filterMap_map]at h
 exact h
theorem pM{α:Type}(xs:List α)(lo st:Int)(n:Nat):(zW xs lo st n).length≤n:=by
 have:=List.length_filterMap_le (fun(k:Nat)=>xs[(lo+(k:Int)*st).toNat]?) (List.range n)
 rw[List.length_range]at this
 exact this
noncomputable def zu(n:Nat)(lo hi:Option Int)(st:Int):Int × Nat:=((Builtin.Slice.sliceAdjust lo hi st (n:Int)).1,Builtin.Slice.slicePlaces (Builtin.Slice.sliceAdjust lo hi st (n:Int)).1 (Builtin.Slice.sliceAdjust lo hi st (n:Int)).2 st)
section
variable {prog:Program}{w:World}{A:Around}{E:Value→Shared→Prop}{s:Shared}
theorem sT{sl:Addr}{vl vu vc:Value}{lo hi:Option Int}{st:Int}{n:Nat}{Q:Int × Int × Nat→Shared→Prop}(hs:s.heap.IsSliceOf sl vl vu vc)(pl:IsPart vl lo)(pu:IsPart vu hi)(pc:IsPart vc (some st))(h0:st≠0)
 (h:Q ((zu n lo hi st).1,st,(zu n lo hi st).2) s):wpAny (model prog w) A (Builtin.Slice.sliceApplied (.ref sl) (pure (n:Int))) Q E s:=by
 obtain⟨os,hos,hcs,hds⟩:=id hs
 unfold Builtin.Slice.sliceApplied Builtin.Slice.sliceFields
 refine wpAny_bind (wpAny_bind (wpAny_field hos hds (x:=vl) rfl (wpAny_bind (wpAny_field hos hds (x:=vu) rfl (wpAny_bind (wpAny_field hos hds (x:=vc) rfl (wpAny_pure ?_)))))))
 refine wpAny_bind (HT.xO pc ?_)
 show wpAny _ _ (if (st == 0)=true then _ else _) _ _ s
 rw[if_neg (by simpa using h0)]
 exact wpAny_bind (HT.xO pl (wpAny_bind (HT.xO pu (wpAny_bind (wpAny_pure (wpAny_pure h))))))
theorem i9{t sl:Addr}{items:Array Value}{vl vu vc:Value}{lo hi:Option Int}{st:Int}{Q:Value→Shared→Prop}(ht:IsTup s.heap t items)(hs:s.heap.IsSliceOf sl vl vu vc)(pl:IsPart vl lo)(pu:IsPart vu hi)(pc:IsPart vc (some st))(h0:st≠0)
 (hq1:(zu items.size lo hi st).1=0→st=1→(zu items.size lo hi st).2=items.size→Q (.ref t) s)
 (hq2:Q (.ref s.heap.objs.size) {s with heap:=s.heap.push {cls:=.type "tuple",data:=.seq (zW items.toList (zu items.size lo hi st).1 st (zu items.size lo hi st).2).toArray}})
 (hsz:(zu items.size lo hi st).2≤sizeLine):wpAny (model prog w) A (getItem (.ref t) (.ref sl)) Q E s:=by
 obtain⟨os,hos,hcs,hds⟩:=id hs
 have hTs:s.TypeIs (.ref sl) "slice":=⟨os,hos,hcs⟩
 have htake:sizeOk (.seq (zW items.toList (zu items.size lo hi st).1 st (zu items.size lo hi st).2).toArray):=by
  show (zW items.toList (zu items.size lo hi st).1 st (zu items.size lo hi st).2).toArray.size≤sizeLine
  rw[List.size_toArray]
  exact Nat.le_trans (pM _ _ _ _) hsz
 have epick:((List.range (zu items.size lo hi st).2).filterMap fun(k:Nat)=>items[((zu items.size lo hi st).1+(k:Int)*st).toNat]?).toArray=(zW items.toList (zu items.size lo hi st).1 st (zu items.size lo hi st).2).toArray:=by
  unfold zW
  simp only[Array.getElem?_toList]
 unfold getItem
 try with_reducible refine wpAny_holding ?_
 first|refine wpAny_bind (wpAny_pure ?_)|skip
 refine wpAny_bind (wpAny_sequenceKey ht.typeIs (by decide) ?_)
 refine wpAny_bind (wpAny_callSpecial?_slot (name:=Str.ofString "__getitem__") ht.typeIs PyProof.Rows.slot_tuple_getitem
  (wpAny_call_entry PyProof.Rows.slot_tuple_getitem ht.typeIs entry_tuple_getitem ?_ (args_tuple_getitem _ _)))
 show wpAny _ _ (Builtin.Tuple.tupleItemsOf (.ref t) >>= _) _ _ s
 refine wpAny_bind (tupleItemsOf_ ht ?_)
 refine wpAny_bind (wpAny_typeOf hTs ?_)
 rw[if_pos (by decide)]
 refine wpAny_bind (sT (n:=items.size) hs pl pu pc h0 ?_)
 by_cases hw:((zu items.size lo hi st).1 == 0&&st == 1&&(zu items.size lo hi st).2 == items.size)=true
 . show wpAny _ _ (if ((zu items.size lo hi st).1 == 0&&st == 1&&(zu items.size lo hi st).2 == items.size)=true then _ else _) _ _ s
   rw[if_pos hw]
   simp only[Bool.and_eq_true,beq_iff_eq]at hw
   unfold Builtin.Tuple.tupleIsExact
   refine wpAny_bind (wpAny_bind (wpAny_typeOf ht.typeIs (wpAny_pure ?_)))
   rw[if_pos (by decide)]
   exact wpAny_bind (wpAny_rule (wpAny_pure ⟨_,rfl,wpAny_pure (hq1 hw.1.1 hw.1.2 hw.2)⟩))
 . show wpAny _ _ (if ((zu items.size lo hi st).1 == 0&&st == 1&&(zu items.size lo hi st).2 == items.size)=true then _ else _) _ _ s
   rw[if_neg hw,epick]
   first
    |exact wpAny_bind (m:=Builtin.Tuple.tupleExact _) (wpAny_newObj_type (wpAny_pure ⟨_,rfl,wpAny_pure hq2⟩) htake)
    |exact wpAny_bind (wpAny_bind (m:=Builtin.Tuple.tupleExact _) (wpAny_newObj_type (wpAny_pure ⟨_,rfl,wpAny_pure hq2⟩) htake))
end
theorem pN{α:Type}:∀xs:List α,(List.range xs.length).filterMap (fun k=>xs[k]?)=xs
 |[]=>rfl
 |x::xs=>by
  rw[List.length_cons,List.range_succ_eq_map,List.filterMap_cons,List.filterMap_map]
  show x::_=_
  refine congrArg (x::·) (Eq.trans ?_ (pN xs))
  congr 1
theorem og{α:Type}(xs:List α):zW xs 0 1 xs.length=xs:=by
 unfold zW
 have e:(fun(k:Nat)=>xs[(0+(k:Int)*1).toNat]?)=fun k=>xs[k]?:=by
  funext k
  rw[show (0+(k:Int)*1).toNat=k by omega]
 rw[e]
 exact pN xs
noncomputable def XR:V→Option Int→Option Int→Option Int→Hp→VK→Prop:=fun x lo hi st H Q=>∃a xs c,x=.ref a∧H a=some (.tup xs)∧st=some c∧c≠0∧(zu xs.length lo hi c).2≤sizeLine∧uJ H (zW xs (zu xs.length lo hi c).1 c (zu xs.length lo hi c).2) Q
noncomputable def Yy(r:V→Option Int→Option Int→Option Int→Hp→VK→Prop)(te:TE)(tl th tc:TO):TE:=fun σ H Q=>te σ H fun x H1=>tl σ H1 fun l H2=>th σ H2 fun u H3=>tc σ H3 fun c H4=>r x l u c H4 Q
theorem lG{X:Cx}{e:Expr}{te:TE}{lo hi:Option Expr}{st:Expr}{tl th tc:TO}{pos p2:Pos}(he:PE X e te)(hl:PO X lo tl)(hu:PO X hi th)(hc:PO X (some st) tc):PE X (.Subscript e (.Slice lo hi (some st) p2) pos) (Yy XR te tl th tc):=by
 intro pins s σ H Q I h
 refine Subscript_ (thn (he pins s σ H _ I h) fun v s1 ⟨x,H1,I1,r1,q1⟩=>?_)
 refine wpAny_Slice (thn (hl pins s1 σ H1 _ I1 q1) fun vl s2 ⟨l,H2,I2,pl,q2⟩=>thn (hu pins s2 σ H2 _ I2 q2) fun vu s3 ⟨u,H3,I3,pu,q3⟩=>thn (hc pins s3 σ H3 _ I3 q3) fun vc s4 ⟨c,H4,I4,pc,q4⟩=>?_)
 obtain⟨a,xs,cc,rfl,hx,ec,h0,hsz,g⟩:=q4
 subst ec
 cases r1
 have I5:Inv X pins σ H4 {s4 with heap:=s4.heap.push {cls:=.type "slice",data:=.fields #[vl,vu,vc]}}:=I4.kept (t':=s4.toks) fun b ob q=>Heap.get?_push_of_some _ q
 obtain⟨its,r,ht,hz⟩:=I5.tuple (.inl (.inl hx))
 have hlen:its.toArray.size=xs.length:=by rw[List.size_toArray];exact r.length.symm
 show wpAny (model X.prog X.w) X.A (subscriptTail e (.Slice lo hi (some st) p2) (.ref a) (.ref s4.heap.objs.size)) (EP X pins σ Q) X.xe {s4 with heap:=s4.heap.push {cls:=.type "slice",data:=.fields #[vl,vu,vc]}}
 refine tail_any (ops:=[.ref a,.ref s4.heap.objs.size]) ht.typeIs PyProof.Rows.slot_tuple_getitem.lookup (i9 ht (Heap.IsSliceOf.new ..) pl pu pc h0 (fun z1 z2 z3=>?_) ?_ (by rw[hlen];exact hsz)) (by with_unfolding_all rfl)
 . refine⟨.ref a,H4,I5,rfl,g a H4 (vp.refl H4) ?_⟩
   rw[hlen]at z1 z3
   rw[hx,z1,z3,z2,og]
 . rw[hlen]
   refine⟨.ref _,_,I5.laid (t':=s4.toks) (o:=.tup (zW xs (zu xs.length l u cc).1 cc (zu xs.length l u cc).2)) (fun b ob q=>Heap.get?_push_of_some _ q) (Nat.le_refl _) ?_,rfl,g.new _ (I5.hok.fresh (Nat.le_refl _))⟩
   refine⟨Nat.le_trans (pM _ _ _ _) hsz,_,r.zW _ _ _,?_⟩
   exact vC.new _ _
end L2
end
section
namespace L2
open PySem PyProof.Rows
section
variable {X:Cx}
noncomputable def uP(d:Int):List Int→Int
 |[]=>d
 |n::ns=>ns.foldl (fun a b=>if b > a then b else a) n
theorem uy:∀(ns:List Int) (a:Int),a≤ns.foldl (fun a b=>if b > a then b else a) a∧(∀x∈ns,x≤ns.foldl (fun a b=>if b > a then b else a) a)∧(ns.foldl (fun a b=>if b > a then b else a) a=a∨ns.foldl (fun a b=>if b > a then b else a) a∈ns)
 |[],a=>⟨Int.le_refl _,fun _ h=>(nomatch h),.inl rfl⟩
 |n::ns,a=>by
  obtain⟨h1,h2,h3⟩:=uy ns (if n > a then n else a)
  show a≤ns.foldl _ (if n > a then n else a)∧_
  have hc:a≤(if n > a then n else a)∧n≤(if n > a then n else a):=by split<;>omega
  refine⟨Int.le_trans hc.1 h1,fun x hx=>?_,?_⟩
  . rcases List.mem_cons.mp hx with e|hx
    . rw[e];exact Int.le_trans hc.2 h1
    . exact h2 x hx
  . rcases h3 with h3|h3
    . show ns.foldl _ (if n > a then n else a)=a∨ns.foldl _ (if n > a then n else a)∈n::ns
      rw[h3]
      split
      . exact .inr (List.mem_cons_self ..)
      . exact .inl rfl
    . exact .inr (List.mem_cons_of_mem _ h3)
theorem oK{d:Int}{ns:List Int}(h:ns≠[]):uP d ns∈ns∧∀x∈ns,x≤uP d ns:=by
 cases ns with
 |nil=>exact absurd rfl h
 |cons n ns=>
  obtain⟨h1,h2,h3⟩:=uy ns n
  refine⟨?_,fun x hx=>?_⟩
  . rcases h3 with h3|h3
    . show ns.foldl _ n∈_;rw[h3];exact List.mem_cons_self ..
    . exact List.mem_cons_of_mem _ h3
  . rcases List.mem_cons.mp hx with e|hx
    . rw[e];exact h1
    . exact h2 x hx
theorem jR{d M:Int}{ns:List Int}(h1:M∈ns)(h2:∀x∈ns,x≤M):uP d ns=M:=by
 have hne:ns≠[]:=fun e=>by rw[e]at h1;exact nomatch h1
 obtain⟨a,b⟩:=oK (d:=d) hne
 exact Int.le_antisymm (h2 _ a) (b _ h1)
theorem Vals.ints:∀{ns:List Int} {us:List Value},Vals (ns.map V.int) us→∀{i:Nat} {v:Value},us[i]?=some v→∃t,v=.int (ns.getD i 0) t
 |[],_,.nil,_,_,h=>by cases h
 |n::ns,_,.cons r rs,0,v,h=>by
  obtain⟨t,e⟩:=r
  have:v=.int n t:=(Option.some.inj h).symm.trans e
  exact⟨t,this⟩
 |n::ns,_,.cons r rs,i+1,v,h=>by
  have:=Vals.ints rs (i:=i) (v:=v) h
  exact this
end
end L2
end
section
namespace L2
open PySem PyProof PyProof.Rows
section
variable {X:Cx}
theorem nF(l:Addr)(items:Array Value)(n:Nat)(u:Tok)(dd:Option Addr)(sl:Array (Option Value)) :
 Meets (Builtin.«tuple.__mul__» ⟨[.ref l,.int 1 u],[]⟩) (fun _ R s=>s.heap.get? l=some {cls:=.type "tuple",dict:=dd,data:=.seq items n,slots:=sl}∧R (.ok (.ret (Value.ref l))) s):=
 .of_wp fun prog w A R s h=>by
  obtain⟨hp,g,d,tk,os⟩:=s;obtain⟨hl,h⟩:=h
  have f1:=AutoSeq1.idx_int
  have c1:¬((decide ((1:Int) < -(2 ^ 63))||decide ((1:Int) ≥ 2 ^ 63))=true):=by decide
  have c2:((items.isEmpty||((1:Int) == 1))=true):=by simp
  wp_walk using wpAny_loadPart' hl
  exact⟨_,rfl,h⟩
theorem nE(l:Addr)(items:Array Value)(n:Nat)(x:Int)(u:Tok)(dd:Option Addr)(sl:Array (Option Value))(h1:x≤0)(h2:-1000≤x)(h3:¬items.isEmpty=true) :
 Meets (Builtin.«tuple.__mul__» ⟨[.ref l,.int x u],[]⟩) (fun _ R s=>s.heap.get? l=some {cls:=.type "tuple",dict:=dd,data:=.seq items n,slots:=sl} ∧
  R (.ok (.ret (Value.ref s.heap.objs.size))) {s with heap:=s.heap.push {cls:=Value.type "tuple",data:=Data.seq #[]},toks:=s.toks}):=
 .of_wp fun prog w A R s h=>by
  obtain⟨hp,g,d,tk,os⟩:=s;obtain⟨hl,h⟩:=h
  have f1:=AutoSeq1.idx_int
  have c1:¬((decide (x < -(2 ^ 63))||decide (x ≥ 2 ^ 63))=true):=by simp;omega
  have c2:¬((items.isEmpty||x == 1)=true):=by simp at h3 ⊢;exact⟨h3,by omega⟩
  have c3:((decide (x≤0)||items.isEmpty)=true):=by simp;exact .inl h1
  wp_walk using wpAny_loadPart' hl
  rw[if_neg c1]
  refine wpAny_bind (tupleItemsOf_ (items:=items) ⟨_,hl,rfl,n,rfl⟩ ?_)
  rw[if_neg c2]
  show wpAny _ _ (if (decide (x≤0)||items.isEmpty)=true then _ else _) _ _ _
  rw[if_pos c3]
  exact wpAny_bind (m:=Builtin.Tuple.tupleExact _) (wpAny_newObj_type (wpAny_pure ⟨_,rfl,h⟩))
noncomputable def Yi:R2:=fun x y H Q=>∃a k xs,x=.ref a∧y=.int k∧H a=some (.tup xs)∧-1000≤k∧k≤1000∧xs≠[]∧xs.length≤1000∧uJ H (List.replicate k.toNat xs).flatten Q
theorem fJ:OpR X (binaryOp .Mult) Yi:=by
 intro pins s σ H x y v u Q I rx ry h
 obtain⟨a,k,xs,rfl,rfl,ha,h1,h2,h3,h4,g⟩:=h
 by_cases hk2:2≤k
 . exact fK pins s σ H _ _ v u Q I rx ry ⟨a,k,xs,rfl,rfl,ha,hk2,h2,h3,h4,g⟩
 cases rx
 obtain⟨t,rfl⟩:=ry
 obtain⟨its,r,p1,_⟩:=I.tuple (.inl (.inl ha))
 obtain⟨⟨cls,dd,data,sl⟩,ho,hc,n,hd⟩:=id p1
 simp only at hc hd
 subst hc hd
 by_cases hk1:k=1
 . subst hk1
   refine wpAny_binaryOp_repeat_ref (T:="tuple") (U:="int") (by decide) ⟨_,ho,rfl⟩ (fun s'=>typeIs_int s' 1 t) y2 F.fills_int_mul F.slot_int_rmul x9 F.slot_int_index.lookup
    (call_meets F.slot_int_rmul (typeIs_int s 1 t) F.entry_int_rmul (F.args_int_rmul_2 _ _) (xK 1 t a its.toArray n dd sl)
     ⟨ho,rfl,⟨_,ho,rfl⟩,call_meets F.slot_tuple_mul ⟨_,ho,rfl⟩ F.entry_tuple_mul (F.args_tuple_mul_2 _ _) (nF a its.toArray n t dd sl) ⟨ho,?_⟩⟩)
   refine⟨.ref a,H,I,rfl,g a H (vp.refl H) ?_⟩
   rw[ha];simp
 . have hne:¬its.toArray.isEmpty=true:=by
    simp
    intro e
    exact h3 (r.xU.mp e)
   have e0:k.toNat=0:=by omega
   refine wpAny_binaryOp_repeat_ref (T:="tuple") (U:="int") (by decide) ⟨_,ho,rfl⟩ (fun s'=>typeIs_int s' k t) y2 F.fills_int_mul F.slot_int_rmul x9 F.slot_int_index.lookup
    (call_meets F.slot_int_rmul (typeIs_int s k t) F.entry_int_rmul (F.args_int_rmul_2 _ _) (xK k t a its.toArray n dd sl)
     ⟨ho,rfl,⟨_,ho,rfl⟩,call_meets F.slot_tuple_mul ⟨_,ho,rfl⟩ F.entry_tuple_mul (F.args_tuple_mul_2 _ _) (nE a its.toArray n k t dd sl (by omega) h1 hne) ⟨ho,?_⟩⟩)
   rw[e0]at g
   refine⟨.ref s.heap.objs.size,_,I.laid (t':=s.toks) (o:=.tup []) (fun b ob q=>Heap.get?_push_of_some _ q) (Nat.le_refl _) ⟨Nat.zero_le _,[],.nil,vC.new _ _⟩,rfl,g.new _ (I.hok.fresh (Nat.le_refl _))⟩
noncomputable def zb(a b c:Int):List Int:=(List.range (Builtin.Range.rangeSize a b c).toNat).map fun(i:Nat)=>a+(i:Int)*c
theorem vy:∀{ns:List Int} {us:List Value},ns.length=us.length→(∀(i:Nat) (v:Value),us[i]?=some v→∃t,v=.int (ns.getD i 0) t)→Vals (ns.map V.int) us
 |[],[],_,_=>.nil
 |[],_::_,h,_=>by cases h
 |_::_,[],h,_=>by cases h
 |n::ns,u::us,h,hv=>.cons (by obtain⟨t,e⟩:=hv 0 u rfl;exact⟨t,e⟩) (vy (Nat.succ.inj h) fun i v e=>hv (i+1) v e)
theorem x8(a b c:Int)(hc:0<c):0≤Builtin.Range.rangeSize a b c:=by
 unfold Builtin.Range.rangeSize
 rw[if_pos hc]
 split
 . have:=Int.ediv_nonneg (a:=b-a-1) (b:=c) (by omega) (by omega);omega
 . omega
theorem sL{x y:Str}{a:Expr}{ta:TA}{p pos p2 pos2:Pos}(hcalm:X.calm=true)(hx:x="list")(hy:y="range")(hg:Gl X x)(hm:X.mg x=none)(hg2:Gl X y)(hm2:X.mg y=none)(ha:PA X [a] ta)
 (hs:starEach [a] X.env=[(false,eval a X.env)]:=by rfl) :
 PE X (.Call (.Name x p) [.Call (.Name y p2) [a] [] pos2] [] pos) (fun σ H Q=>ta σ H fun vs H1=>∃j:Int,vs=[.int j]∧-(2 ^ 30)≤j∧j≤2 ^ 30∧(Builtin.Range.rangeSize 0 j 1)≤1000∧∀l,H1 l=none→Q (.ref l) (upd H1 l (.lst ((zb 0 j 1).map V.int)))):=by
 intro pins s σ H Q I h
 subst hx hy
 refine wpAny_Call_Name_kw (xA I hg hm PyProof.Rows.boot_list ?_ (by decide) (by decide))
 refine PyProof.Rows.callWith_type1 (PyProof.Rows.spliced_more (Call_ (xA I hg2 hm2 boot_range (PyProof.Rows.callWith_type1 (thn (ha pos2 pins s σ H _ I h) fun us s1 ⟨vs,H1,I1,r1,q1⟩=>?_) hs rfl) (by decide) (by decide))))
 obtain⟨j,rfl,j0,j1,hz,q⟩:=q1
 cases r1 with
 |cons r rr=>
  cases rr
  obtain⟨t,rfl⟩:=r
  have hn0:=x8 0 j 1 (by omega)
  refine call_range_1 ?_
  refine PyProof.Rows.spliced_none ?_
  have I2:Inv X pins σ H1 {s1 with heap:=s1.heap.push {cls:=.type "range",data:=.fields #[.int 0 s1.toks,.int j t,.int 1 (s1.toks+1)]},toks:=s1.toks+1+1}:=I1.kept fun b o e=>Heap.get?_push_of_some _ e
  refine call_list_range (n:=(Builtin.Range.rangeSize 0 j 1).toNat) (I1.ok.hd hcalm) (IsRange.new ..) ?_ (by omega) (by omega) fun h' tk acc' c' kp e hit=>?_
  . unfold Builtin.Range.small
    rw[if_pos (by omega)]
    simp only[Builtin.Range.rangeFitsLong,Bool.and_eq_true,Bool.or_eq_true,decide_eq_true_eq,beq_iff_eq]
    omega
  . obtain⟨hs1,hs2⟩:=hit
    have hl:(zb 0 j 1).length=acc'.toList.length:=by unfold zb;rw[List.length_map,List.length_range];simpa using hs1.symm
    have hv:Vals ((zb 0 j 1).map V.int) acc'.toList:=by
     refine vy hl fun m v hm=>?_
     have hm':acc'[m]?=some v:=by simpa using hm
     obtain⟨t,e⟩:=hs2 m v hm'
     have hlt:m<(Builtin.Range.rangeSize 0 j 1).toNat:=by
      have:=(Array.getElem?_eq_some_iff.mp hm').1;omega
     refine⟨t,?_⟩
     rw[e]
     congr 1
     unfold zb
     rw[List.getD_eq_getElem?_getD,List.getElem?_map,List.getElem?_range hlt];rfl
    have hz2:((zb 0 j 1).map V.int).length≤sizeLine:=by
     unfold zb;rw[List.length_map,List.length_map,List.length_range,sizeLine_eq];omega
    exact⟨.ref _,_,I2.laid (t':=tk) (o:=.lst ((zb 0 j 1).map V.int)) kp (Nat.le_refl _) ⟨hz2,acc'.toList,c',hv,by simpa using e⟩,rfl,q _ (I2.hok.fresh (Nat.le_refl _))⟩
end
end L2
end
section
namespace L2
open PySem PyProof PyProof.Rows
section
variable {X:Cx}
theorem vw{x:V}:∀{xs:List V} {us:List Value},Vals xs us→xs.all xR=true→us.countP (eqU x)=xs.countP fun y=>eqV y x
 |_,_,.nil,_=>rfl
 |y::ys,u::us,.cons r rs,h=>by
  rw[List.all_cons,Bool.and_eq_true]at h
  rw[List.countP_cons,List.countP_cons,vw rs h.2,p7 r h.1]
noncomputable def qM(K:PySem.W.Frag)(tup:Bool):V→List V→Hp→VK→Prop:=fun x vs H Q=>∃t xs y,x=.ref t∧vs=[y]∧(if tup=true then SqT K H t xs else SqL K H t xs)∧xR y=true∧xs.all xR=true∧Q (.int (xs.countP fun z=>eqV z y:Nat)) H
theorem my:MtR X "tuple.count" (qM X.K true):=by
 intro pins s σ H x xs v us Q I rx rs h
 obtain⟨t,ys,y,rfl,rfl,ht,fy,fs,q⟩:=h
 cases rx
 obtain⟨u,rfl,ru⟩:=vals1 rs
 obtain⟨its,r,p1,_⟩:=I.tuple ht
 obtain⟨⟨cls,dd,data,sl⟩,ho,hc,n,hd⟩:=id p1
 simp only at hc hd
 subst hc hd
 refine call_meets F.slot_tuple_count ⟨_,ho,rfl⟩ F.entry_tuple_count (F.args_tuple_count_2 _ _) (SeqAt.tuple_countAt t its.toArray n dd sl u (eqU y)) ⟨ho,fun w hw=>vX ru fy r fs w (by simpa using hw),?_⟩
 rw[show its.toArray.toList=its from rfl,vw r fs]
 exact⟨.int _,H,I.tok _,⟨s.toks,rfl⟩,q⟩
theorem mx:MtR X "list.count" (qM X.K false):=by
 intro pins s σ H x xs v us Q I rx rs h
 obtain⟨t,ys,y,rfl,rfl,ht,fy,fs,q⟩:=h
 cases rx
 obtain⟨u,rfl,ru⟩:=vals1 rs
 obtain⟨its,r,p1,_⟩:=I.list ht
 obtain⟨⟨cls,dd,data,sl⟩,ho,hc,n,hd⟩:=id p1.isList
 simp only at hc hd
 subst hc hd
 refine call_meets F.slot_list_count ⟨_,ho,rfl⟩ F.entry_list_count (F.args_list_count_2 _ _) (SeqAt.list_countAt t its.toArray n dd sl u (eqU y)) ⟨ho,fun w hw=>vX ru fy r fs w (by simpa using hw),?_⟩
 rw[show its.toArray.toList=its from rfl,vw r fs]
 exact⟨.int _,H,I.tok _,⟨s.toks,rfl⟩,q⟩
theorem xq(h:Int):∀ns:List Int,((ns.map V.int).countP fun z=>eqV z (.int h))=ns.count h
 |[]=>rfl
 |n::ns=>by
  rw[List.map_cons,List.countP_cons,xq h ns,List.count_cons]
  rfl
theorem wZ:∀ns:List Int,(ns.map V.int).all xR=true
 |[]=>rfl
 |n::ns=>by rw[List.map_cons,List.all_cons,wZ ns];rfl
noncomputable def tJ(d:Int):List Int→Int
 |[]=>d
 |n::ns=>ns.foldl (fun a b=>if b<a then b else a) n
theorem uz:∀(ns:List Int) (a:Int),ns.foldl (fun a b=>if b<a then b else a) a≤a∧(∀x∈ns,ns.foldl (fun a b=>if b<a then b else a) a≤x)∧(ns.foldl (fun a b=>if b<a then b else a) a=a∨ns.foldl (fun a b=>if b<a then b else a) a∈ns)
 |[],a=>⟨Int.le_refl _,fun _ h=>(nomatch h),.inl rfl⟩
 |n::ns,a=>by
  obtain⟨h1,h2,h3⟩:=uz ns (if n<a then n else a)
  show ns.foldl _ (if n<a then n else a)≤a∧_
  have hc:(if n<a then n else a)≤a∧(if n<a then n else a)≤n:=by split<;>omega
  refine⟨Int.le_trans h1 hc.1,fun x hx=>?_,?_⟩
  . rcases List.mem_cons.mp hx with e|hx
    . rw[e];exact Int.le_trans h1 hc.2
    . exact h2 x hx
  . rcases h3 with h3|h3
    . show ns.foldl _ (if n<a then n else a)=a∨ns.foldl _ (if n<a then n else a)∈n::ns
      rw[h3]
      split
      . exact .inr (List.mem_cons_self ..)
      . exact .inl rfl
    . exact .inr (List.mem_cons_of_mem _ h3)
theorem oM{d:Int}{ns:List Int}(h:ns≠[]):tJ d ns∈ns∧∀x∈ns,tJ d ns≤x:=by
 cases ns with
 |nil=>exact absurd rfl h
 |cons n ns=>
  obtain⟨h1,h2,h3⟩:=uz ns n
  refine⟨?_,fun x hx=>?_⟩
  . rcases h3 with h3|h3
    . show ns.foldl _ n∈_;rw[h3];exact List.mem_cons_self ..
    . exact List.mem_cons_of_mem _ h3
  . rcases List.mem_cons.mp hx with e|hx
    . rw[e];exact h1
    . exact h2 x hx
theorem jT{d M:Int}{ns:List Int}(h1:M∈ns)(h2:∀x∈ns,M≤x):tJ d ns=M:=by
 have hne:ns≠[]:=fun e=>by rw[e]at h1;exact nomatch h1
 obtain⟨a,b⟩:=oM (d:=d) hne
 exact Int.le_antisymm (b _ h1) (h2 _ a)
noncomputable def dR(K:PySem.W.Frag)(g:List Int→Int):List V→Hp→VK→Prop:=fun xs H Q=>∃(a:Addr) (ns:List Int),xs=[.ref a]∧SqL K H a (ns.map V.int)∧ns≠[]∧Q (.int (g ns)) H
theorem mN(hc:X.calm=true):yN X (.builtin "max") (dR X.K (uP 0)):=by
 intro pins s σ H xs us Q I r h
 obtain⟨a,ns,rfl,ha,hne,q⟩:=h
 obtain⟨u,rfl,ru⟩:=vals1 r
 cases ru
 obtain⟨its,rv,pl,hz⟩:=I.list ha
 have hlen:=rv.length
 have alt:a<s.heap.objs.size:=by obtain⟨o,ho,_⟩:=pl.isList;exact Heap.lt_size ho
 have hl:its.toArray.size=ns.length:=by rw[List.size_toArray,←hlen,List.length_map]
 have hpos:0<ns.length:=List.length_pos_iff.mpr hne
 have hat:∀(i:Nat) (v:Value),its.toArray[i]?=some v→∃t,v=.int (ns.getD i 0) t:=fun i v hv=>rv.ints (by simpa using hv)
 refine call_max_walk (wpAny_pyIter_list pl.isList ?_)
 refine⟨s.heap.objs.size,_,_,_,_,_,_,rfl,Walks.list (A:=X.A.in1) (I.ok.hd hc) s.heap.objs.size a (Nat.ne_of_lt alt) its.toArray,⟨⟨_,Heap.get?_push_size _ rfl,rfl,rfl⟩,?_⟩,fun b hb=>?_,by omega,CmpOf.ints_gt (fun i=>ns.getD i 0) hat,fun v h' tk hP hk=>?_⟩
 . obtain⟨o,ho,hc',n,hd⟩:=pl.isList
   exact⟨o,Heap.get?_push_of_some _ ho,hc',n,hd⟩
 . rw[Heap.size_push]
   simp only[List.mem_cons,List.not_mem_nil,or_false]at hb
   rcases hb with e|e
   . rw[e];exact Nat.lt_succ_self _
   . rw[e];exact Nat.lt_succ_of_lt alt
 . obtain⟨t,rfl⟩:=hat _ _ hP
   obtain⟨b1,b2⟩:=argBest_gt (fun i=>ns.getD i 0) (its.toArray.size-1)
   have e:uP 0 ns=ns.getD (argBest (fun i j=>decide (ns.getD i 0 > ns.getD j 0)) (its.toArray.size-1)) 0:=by
    refine jR ?_ fun x hx=>?_
    . have:argBest (fun i j=>decide (ns.getD i 0 > ns.getD j 0)) (its.toArray.size-1)<ns.length:=by omega
      rw[List.getD_eq_getElem?_getD,List.getElem?_eq_getElem this];exact List.getElem_mem this
    . obtain⟨i,hi,rfl⟩:=List.getElem_of_mem hx
      have:=b2 i (by omega)
      simpa [List.getD_eq_getElem?_getD,List.getElem?_eq_getElem hi] using this
   refine⟨.int (uP 0 ns),H,I.kept fun b o ho=>hk b o ?_ (Heap.get?_push_of_some _ ho),⟨t,by rw[e]⟩,q⟩
   simpa using Nat.ne_of_lt (Heap.lt_size ho)
theorem mP(hc:X.calm=true):yN X (.builtin "min") (dR X.K (tJ 0)):=by
 intro pins s σ H xs us Q I r h
 obtain⟨a,ns,rfl,ha,hne,q⟩:=h
 obtain⟨u,rfl,ru⟩:=vals1 r
 cases ru
 obtain⟨its,rv,pl,hz⟩:=I.list ha
 have hlen:=rv.length
 have alt:a<s.heap.objs.size:=by obtain⟨o,ho,_⟩:=pl.isList;exact Heap.lt_size ho
 have hl:its.toArray.size=ns.length:=by rw[List.size_toArray,←hlen,List.length_map]
 have hpos:0<ns.length:=List.length_pos_iff.mpr hne
 have hat:∀(i:Nat) (v:Value),its.toArray[i]?=some v→∃t,v=.int (ns.getD i 0) t:=fun i v hv=>rv.ints (by simpa using hv)
 refine call_min_walk (wpAny_pyIter_list pl.isList ?_)
 refine⟨s.heap.objs.size,_,_,_,_,_,_,rfl,Walks.list (A:=X.A.in1) (I.ok.hd hc) s.heap.objs.size a (Nat.ne_of_lt alt) its.toArray,⟨⟨_,Heap.get?_push_size _ rfl,rfl,rfl⟩,?_⟩,fun b hb=>?_,by omega,CmpOf.ints_lt (fun i=>ns.getD i 0) hat,fun v h' tk hP hk=>?_⟩
 . obtain⟨o,ho,hc',n,hd⟩:=pl.isList
   exact⟨o,Heap.get?_push_of_some _ ho,hc',n,hd⟩
 . rw[Heap.size_push]
   simp only[List.mem_cons,List.not_mem_nil,or_false]at hb
   rcases hb with e|e
   . rw[e];exact Nat.lt_succ_self _
   . rw[e];exact Nat.lt_succ_of_lt alt
 . obtain⟨t,rfl⟩:=hat _ _ hP
   obtain⟨b1,b2⟩:=argBest_lt (fun i=>ns.getD i 0) (its.toArray.size-1)
   have e:tJ 0 ns=ns.getD (argBest (fun i j=>decide (ns.getD i 0<ns.getD j 0)) (its.toArray.size-1)) 0:=by
    refine jT ?_ fun x hx=>?_
    . have:argBest (fun i j=>decide (ns.getD i 0<ns.getD j 0)) (its.toArray.size-1)<ns.length:=by omega
      rw[List.getD_eq_getElem?_getD,List.getElem?_eq_getElem this];exact List.getElem_mem this
    . obtain⟨i,hi,rfl⟩:=List.getElem_of_mem hx
      have:=b2 i (by omega)
      simpa [List.getD_eq_getElem?_getD,List.getElem?_eq_getElem hi] using this
   refine⟨.int (tJ 0 ns),H,I.kept fun b o ho=>hk b o ?_ (Heap.get?_push_of_some _ ho),⟨t,by rw[e]⟩,q⟩
   simpa using Nat.ne_of_lt (Heap.lt_size ho)
theorem lC{o e:Expr}{to te:TE}{apos cpos:Pos}{es:List Expr}(ho:PE X o to)(he:PE X e te)(hbase:attributeBase o "append" X.env (eval o X.env)=eval o X.env:=by rfl)(hst:noStar e=true:=by rfl)(hline:(apos.endLine == cpos.line)=true:=by rfl) :
 PE X (.Call (.Attribute o "append" apos) [e] [] cpos) (tBM X.K "list" mE to (tw te nD)):=by
 have hs1:starEach [e] X.env=(false,eval e X.env)::starEach [] X.env:=zZ hst
 refine jt PySem.F.plainAttrs_list PySem.F.slot_list_append PySem.F.type_list_append rH ho (pac he xB hst) hbase ?_ hline hs1 rfl
 rw[hs1];rfl
theorem lD{o e:Expr}{to te:TE}{apos cpos:Pos}(ho:PE X o to)(he:PE X e te)(hbase:attributeBase o "count" X.env (eval o X.env)=eval o X.env:=by rfl)(hst:noStar e=true:=by rfl)(hline:(apos.endLine == cpos.line)=true:=by rfl) :
 PE X (.Call (.Attribute o "count" apos) [e] [] cpos) (tBM X.K "list" (qM X.K false) to (tw te nD)):=by
 have hs1:starEach [e] X.env=(false,eval e X.env)::starEach [] X.env:=zZ hst
 refine jt PySem.F.plainAttrs_list PySem.F.slot_list_count PySem.F.type_list_count mx ho (pac he xB hst) hbase ?_ hline hs1 rfl
 rw[hs1];rfl
noncomputable def Yq(r:V→List V→Hp→VK→Prop)(to:TE)(t:TA):TE:=fun σ H Q=>to σ H fun x H1=>(∃a xs,x=.ref a∧H1 a=some (.tup xs))∧t σ H1 fun xs H2=>r x xs H2 Q
theorem lE{o e:Expr}{to te:TE}{apos cpos:Pos}(ho:PE X o to)(he:PE X e te)(hbase:attributeBase o "count" X.env (eval o X.env)=eval o X.env:=by rfl)(hst:noStar e=true:=by rfl)(hline:(apos.endLine == cpos.line)=true:=by rfl) :
 PE X (.Call (.Attribute o "count" apos) [e] [] cpos) (Yq (qM X.K true) to (tw te nD)):=by
 have hs1:starEach [e] X.env=(false,eval e X.env)::starEach [] X.env:=zZ hst
 intro pins s σ H Q I h
 refine wpAny_Call_method_late hbase (by rw[hs1];rfl) hline rfl (thn (ho pins s σ H _ I h) fun v s1 ⟨x,H1,I1,r1,ty,q1⟩=>?_)
 obtain⟨a,xs,rfl,hx⟩:=ty
 cases r1
 obtain⟨z,its,rv,ob,e1,c1,n,d1,nd⟩:=(show zc X.prog X.w H1 s1.heap a (.tup xs) from I1.hok a _ hx)
 refine⟨"tuple",_,PySem.F.plainAttrs_tuple,PySem.F.slot_tuple_count,PySem.F.type_tuple_count,⟨ob,e1,c1⟩,fun b hb=>?_,?_⟩
 . cases hb;exact⟨ob,e1,nd⟩
 have hA:=(pac he xB hst:PA X [e] _) cpos pins s1 σ H1 _ I1 q1
 rw[hs1]at hA ⊢
 refine Calls.callWith_builtin rfl (Calls.evalArgs_plain ?_)
 exact thn hA fun us s2 ⟨vs,H2,I2,r2,q2⟩=>my pins s2 σ H2 (.ref a) vs _ us Q I2 rfl r2 q2
end
end L2
namespace L2
open PySem
end L2
namespace L2
open PySem
end L2
end
section
namespace L2
open PySem PySem.W PySem.Calls PyProof PyProof.Rows
noncomputable def dB(z:Int × Int):Int:=z.1*1000+z.2
end L2
end
section
namespace L2
open PySem PySem.W PySem.Calls PyProof PyProof.Rows
section
variable {P:Program}{w:World}{H:Hp}{h:Heap}{a:Addr}{o:HO}
theorem zc.got(x:zc P w H h a o):∃u,h.get? a=some u:=by
 cases o with
 |lst xs=>obtain⟨_,_,_,_,e⟩:=x;exact⟨_,e⟩
 |tup xs=>obtain⟨_,_,_,_,e,_⟩:=x;exact⟨_,e⟩
 |dK kvs=>obtain⟨_,_,_,_,o,_,_,e,_⟩:=x;exact⟨_,e⟩
 |dT kvs=>obtain⟨_,_,_,_,o,_,_,e,_⟩:=x;exact⟨_,e⟩
 |set S n=>obtain⟨o,_,_,_,e,_⟩:=x;exact⟨_,e⟩
 |ins C dx fs=>obtain⟨_,_,_,e,_⟩:=x;exact⟨_,e⟩
 |own y=>exact x
 |xd fs=>obtain⟨_,⟨_,_,_,e,_⟩,_⟩:=x;exact⟨_,e⟩
 |rng lo hi=>obtain⟨_,_,_,e⟩:=x;exact⟨_,e⟩
 |frz ob u=>obtain⟨e,_⟩:=x;exact⟨_,e⟩
 |tbl ps=>exact⟨_,x⟩
 |met f y=>exact⟨_,x⟩
 |ext φ=>exact x.2.1
end
end L2
end
section
namespace L2
open PySem PySem.W PySem.Calls PyProof PyProof.Rows
section
variable {X:Cx}{pins:List (Addr × Obj)}{σ:St}{H:Hp}{s:Shared}
theorem Inv.d8{D:Addr}{ys:List V}{its:List Value}{c:Nat}{h':Heap}(I:Inv X pins σ H s)(hz:ys.length≤sizeLine)(r:Vals ys its)(hD:s.heap.get? D=none)(keep:∀b o,b≠X.env.locals→s.heap.get? b=some o→h'.get? b=some o)
 (ns:∀m,s.heap.Ns X.env.locals m→h'.Ns X.env.locals m) (e:h'.get? D=some {cls:=.type "list",data:=.seq its.toArray c}):H D=none∧Inv X pins σ (upd H D (.lst ys)) {s with heap:=h'}:=by
 have hn:H D=none:=by
  cases q:H D with
  |none=>rfl
  |some o=>
   obtain⟨u,hu⟩:=zc.got (I.hok D o q)
   rw[hD]at hu;cases hu
 have ne:∀b o,H b=some o→b≠D:=fun b o q z=>by rw[z,hn]at q;cases q
 have neo:∀b o,s.heap.get? b=some o→b≠D:=fun b o q z=>by rw[z,hD]at q;cases q
 refine⟨hn,I.step (g':=s.gens) (d':=s.drawn) (t':=s.toks) (ch:=[]) (fun _ z=>nomatch z) (fun b o hL _ _ q _=>keep b o hL q) (fun b o hL _ _ q _=>⟨o.slots,keep b o hL q⟩) (fun b o _ q n=>?_) (fun b o _ q=>?_) (fun b xs q=>?_) (fun b o u q=>?_) (fun b ps q=>?_) ns (fun b o q=>?_) I.bare⟩
 . rw[zP (neo b o q)];exact n
 . by_cases hb:b=X.env.locals
   . subst hb
     obtain⟨m,hm,_⟩:=I.loc
     obtain⟨o',_,_,ho',_⟩:=ns m hm
     exact⟨o',ho'⟩
   . exact⟨o,keep b o hb q⟩
 . rw[zP (ne b _ q)];exact q
 . rw[zP (ne b _ q)];exact q
 . exact⟨#[],by rw[zP (ne b _ q),q];simp⟩
 . by_cases hb:b=D
   . subst hb
     rw[zV]at q
     cases q
     exact⟨hz,its,c,r,e⟩
   . rw[zP hb]at q
     refine(I.hok b o q).oz (fun x u hx hu=>keep x u ?_ hu) (fun x hx=>by rw[zP (ne x _ hx)];exact hx) (fun x xs hx=>by rw[zP (ne x _ hx)];exact hx)
     rcases hx with rfl|hx
     . intro z;rw[z,I.free]at q;cases q
     . intro z;rw[z,I.free]at hx;cases hx
end
end L2
end
section
namespace L2
open PySem PySem.W PySem.Calls PyProof PyProof.Rows
noncomputable def qG:List Int→List Int→Bool
 |x::xs,y::ys=>if x=y then qG xs ys else decide (x<y)
 |_,_=>false
end L2
end
section
namespace L2.Tim
open PySem PySem.W PySem.Calls PyProof PyProof.Rows
section
variable {prog:Program}{w:World}{A:Around}{E:Value→Shared→Prop}{s:Shared}{κ:SortKind}{a₀:Array Keyed}{key:Keyed→Int}
theorem dI{i j:Nat}(h:¬(i == j)=true):i≠j:=fun e=>h (beq_iff_eq.mpr e)
end
end L2.Tim
end
section
namespace L2
open PySem PySem.W PySem.Calls PyProof PyProof.Rows
noncomputable def Z0:List Int→List Int→Bool
 |x::xs,y::ys=>if x=y then Z0 xs ys else decide (x<y)
 |[],_::_=>true
 |_,[]=>false
noncomputable def Zj(z:List Int):List (List Int)→List (List Int)
 |[]=>[z]
 |y::ys=>if Z0 y z then y::Zj z ys else z::y::ys
noncomputable def dZ:List (List Int)→List (List Int)
 |[]=>[]
 |z::zs=>Zj z (dZ zs)
end L2
end
section
namespace L2
open PySem PyProof.Rows
section
variable {X:Cx}{N:List Str}{csc:Scope}{fr:List (Option Nat)}{elt tg iter tg2 iter2:Expr}{ifs ifs2:List Expr}{cpos:Pos}{wi wi2:TI}{g g2:TG}{ts ts2:List TT}{te:TE}
theorem iC{y:Str}{py spos:Pos}{i:Nat}(hc:X.calm=true)(S:zk X N csc fr)(hi:PI X tg iter wi)(hg:∀C s0 H0 ex,PG (X.comp N csc C s0 H0 ex) tg g)(ht:∀C s0 H0 ex,PTs (X.comp N csc C s0 H0 ex) ifs ts)
 (hi2:∀C s0 H0 ex,PI (X.comp N csc C s0 H0 ex) tg2 iter2 wi2) (hg2:∀C s0 H0 ex,PG (X.comp N csc C s0 H0 ex) tg2 g2) (ht2:∀C s0 H0 ex,PTs (X.comp N csc C s0 H0 ex) ifs2 ts2)
 (he:∀C s0 H0 ex,PE (X.comp N csc C s0 H0 ex) elt te) (hN:X.N.Nodup) (hy:X.N[i]?=some y) (hx:Loc X.env.scope y)
 (hsw:swapsWith (.ListComp elt [⟨tg,iter,ifs,0⟩,⟨tg2,iter2,ifs2,0⟩] csc cpos) (some (.Name y py)) spos.line X.env=pure true:=by rfl)
 (hf:X.fn y=true∨X.env.scope.names.lookup y=some .local:=by first|exact .inl rfl|exact .inr rfl|assumption)
 (hs:∀x,foldedSetIterable iter X.env x=pure x:=by intro _;rfl)
 (hs2:∀env x,foldedSetIterable iter2 env x=pure x:=by intro _ _;rfl) :
 PS X (.Assign [.Name y py] (.ListComp elt [⟨tg,iter,ifs,0⟩,⟨tg2,iter2,ifs2,0⟩] csc cpos) spos) (sW (wO fr wi g ts fun acc=>tx wi2 g2 ts2 (w5 acc te)) (wJ i)):=
 pR hc S hi (B:=fun acc env=>(do
         let x ←eval iter2 env
         standAt iter2.pos
         let x ←foldedSetIterable iter2 env x
         let _ ←runOwn (.compStart (.ListComp elt [⟨tg,iter,ifs,0⟩,⟨tg2,iter2,ifs2,0⟩] csc cpos) 1 (←holding [x] (pyIter x)) acc env) env)) (dk elt tg iter ifs tg2 iter2 ifs2 csc cpos) hg ht
  (fun C s0 H0 ex acc=>pJ rfl hc (hi2 C s0 H0 ex) (hg2 C s0 H0 ex) (ht2 C s0 H0 ex) (uh (he C s0 H0 ex)) (hs2 _)) hN hy hx hsw hf hs
end
end L2
end
section
namespace L2
open PySem PySem.Calls PyProof PyProof.Rows
open AutoSeq1 (wpAny_loadPart')
section
variable {prog:Program}{w:World}{A:Around}{E:Value→Shared→Prop}{s:Shared}
theorem uW{it t:Addr}{i:Nat}{items:Array Value}{x:Value}{Q:Value→Shared→Prop}(hit:s.heap.IsTupleIter it t i)(ht:s.heap.IsTuple t items)(hx:items[i]?=some x)
 (hQ:∀h',h'.IsTupleIter it t (i+1)→Heap.SameBut it s.heap h'→Q x {s with heap:=h'}):wpAny (model prog w) A (Builtin.SmallTypes.nextOf (.ref it)) Q E s:=by
 obtain⟨o,ho,hc,hd⟩:=id hit
 obtain⟨ol,hol,_,nl,hdl⟩:=ht
 unfold Builtin.SmallTypes.nextOf
 refine wpAny_bind (wpAny_callSpecial?_slot (name:=Str.ofString "__next__") hit.typeIs F.slot_tuple_iterator_next
  (wpAny_call_entry F.slot_tuple_iterator_next hit.typeIs F.entry_tuple_iterator_next ?_ (F.args_tuple_iterator_next_1 _)))
 show wpAny _ _ (field (.ref it) 0 >>= _) _ _ s
 refine wpAny_bind (wpAny_field ho hd (x:=.ref t) rfl ?_)
 show wpAny _ _ (if (Value.ref t == Value.none)=true then _ else _) _ _ s
 rw[if_neg (show ¬((Value.ref t == Value.none)=true) from Bool.false_ne_true)]
 show wpAny _ _ (field (.ref it) 1 >>= _) _ _ s
 refine wpAny_bind (wpAny_field ho hd (x:=.int i 0) rfl ?_)
 show wpAny _ _ (seqItems? (.ref t) >>= _) _ _ s
 refine wpAny_bind (wpAny_seqItems hol hdl ?_)
 simp only[Int.toNat_natCast,hx]
 refine wpAny_bind (wpAny_setField ho hd (by simp) (wpAny_pure ⟨x,rfl,wpAny_pure (hQ _ ?_ (Heap.SameBut.update ..))⟩))
 exact⟨_,Heap.get?_update_self _ ho (Obj.isFreed_of_fields (Obj.data_mapFields hd _)),(Obj.cls_mapFields ..).trans hc,by
  rw[Obj.data_mapFields hd];simp[rawInt]⟩
theorem tK{it t:Addr}{i:Nat}{items:Array Value}{Q:Value→Shared→Prop}(hh:A.handled=none)(hit:s.heap.IsTupleIter it t i)(ht:s.heap.IsTuple t items)(hx:items[i]?=none)
 (hE:∀h' e,Heap.ExtBut it s.heap h'→(∃o,h'.get? e=some o∧o.cls=.type "StopIteration")→E (.ref e) {s with heap:=h'}):wpAny (model prog w) A (Builtin.SmallTypes.nextOf (.ref it)) Q E s:=by
 obtain⟨o,ho,hc,hd⟩:=id hit
 obtain⟨ol,hol,_,nl,hdl⟩:=ht
 unfold Builtin.SmallTypes.nextOf
 refine wpAny_bind (wpAny_callSpecial?_slot (name:=Str.ofString "__next__") hit.typeIs F.slot_tuple_iterator_next
  (wpAny_call_entry F.slot_tuple_iterator_next hit.typeIs F.entry_tuple_iterator_next ?_ (F.args_tuple_iterator_next_1 _)))
 show wpAny _ _ (field (.ref it) 0 >>= _) _ _ s
 refine wpAny_bind (wpAny_field ho hd (x:=.ref t) rfl ?_)
 show wpAny _ _ (if (Value.ref t == Value.none)=true then _ else _) _ _ s
 rw[if_neg (show ¬((Value.ref t == Value.none)=true) from Bool.false_ne_true)]
 show wpAny _ _ (field (.ref it) 1 >>= _) _ _ s
 refine wpAny_bind (wpAny_field ho hd (x:=.int i 0) rfl ?_)
 show wpAny _ _ (seqItems? (.ref t) >>= _) _ _ s
 refine wpAny_bind (wpAny_seqItems hol hdl ?_)
 simp only[Int.toNat_natCast,hx]
 first
  |refine wpAny_bind (wpAny_rule (wpAny_bind (wpAny_setField ho hd (by simp) ?_)))
  |refine wpAny_bind (wpAny_setField ho hd (by simp) ?_)
 first
  |show wpAny _ _ (newExc (.type "StopIteration") [] >>= _) _ _ _
  |(refine wpAny_bind (wpAny_letGo ?_);show wpAny _ _ (newExc (.type "StopIteration") [] >>= _) _ _ _)
 refine wpAny_bind ?_
 simp only[newExc,newTuple]
 refine wpAny_bind (wpAny_newObj_type ?_ (by size_fits))
 refine wpAny_bind (m:=firstArgMember _ _) (wpAny_of_eq (a:=Value.none) (by first|rfl|(simp only[firstArgMember];rfl)) ?_)
 refine wpAny_newObj_type ?_ (by size_fits)
 simp only[raiseNew]
 refine wpAny_bind (wpAny_handled ?_)
 first|rw[show A.in1.handled=none from hh]|rw[hh]
 refine wpAny_bind (wpAny_pure (wpAny_throw ?_))
 exact hE _ _ (((Heap.SameBut.update ..).extBut.push _).push _) ⟨_,Heap.get?_push_size _ rfl,rfl⟩
end
theorem sy{prog:Program}{w:World}{A:Around}(hh:A.handled=none)(it t:Addr)(hne:t≠it)(items:Array Value) :
 Draws prog w A it [it,t] items.size (fun i v=>items[i]?=some v) (fun i h=>h.IsTupleIter it t i∧h.IsTuple t items) where
 live:=fun _ _ st=>let ⟨o,ho,_⟩:=st.1;⟨o,ho⟩
 frame:=fun _ _ _ st hk=>⟨st.1.at fun o e=>hk it (by simp) o e,let ⟨o,ho,r⟩:=st.2;⟨o,hk t (by simp) o ho,r⟩⟩
 item:=fun i s Q E hi st hQ=>by
  refine uW st.1 st.2 (x:=items[i]) (by simp[hi]) fun h' hit' hs'=>?_
  exact hQ _ h' s.toks (by simp[hi]) ⟨hit',let ⟨o,ho,r⟩:=st.2;⟨o,hs'.extBut t o hne ho,r⟩⟩ hs'
 done:=fun s Q E st hE=>tK hh st.1 st.2 (by simp) hE
theorem tG(l:Addr)(items:Array Value)(n:Nat)(dct:Option Addr)(sl:Array (Option Value)) :
 Meets (Builtin.«enumerate.__new__» ⟨[.type "enumerate",.ref l],[]⟩) (fun _ R s=>s.heap.get? l=some {cls:=.type "tuple",dict:=dct,data:=.seq items n,slots:=sl} ∧
  R (.ok (.ret (.ref (s.heap.push {cls:=.type "tuple_iterator",data:=.fields #[.ref l,.int 0 0]}).objs.size)))
    {s with heap:=(s.heap.push {cls:=.type "tuple_iterator",data:=.fields #[.ref l,.int 0 0]}).push {cls:=.type "enumerate",data:=.fields #[.none,.bool false,.ref s.heap.objs.size,rawInt 0,.none,.none]}}):=
 .of_wp fun prog w A R s h=>by
  obtain⟨hp,g,d,tk,os⟩:=s;obtain⟨hl,h⟩:=h
  have hsub:=sub_enumerate
  have hL:Heap.IsTuple (Shared.heap ⟨hp,g,d,tk,os⟩) l items:=⟨_,hl,rfl,n,rfl⟩
  wp_walk using wpAny_loadPart' hl
  refine wpAny_stack_any fun st=>wpAny_pure ?_
  split
  . rename_i c _ _ _ _ _
    cases (c == Value.type "enumerate")
    . wp_walk using wpAny_loadPart' hl,wpAny_pyIter_tuple hL
      exact⟨_,rfl,h⟩
    . wp_walk using wpAny_loadPart' hl,wpAny_pyIter_tuple hL
      exact⟨_,rfl,h⟩
  . wp_walk using wpAny_loadPart' hl,wpAny_pyIter_tuple hL
    exact⟨_,rfl,h⟩
section
variable {prog:Program}{w:World}{A:Around}{E:Value→Shared→Prop}{s:Shared}
theorem sC{l:Addr}{items:Array Value}{Q:Value→Shared→Prop}(hL:s.heap.IsTuple l items)
 (h:∀h',IsEnum h' (s.heap.objs.size+1) s.heap.objs.size 0 .none→h'.IsTupleIter s.heap.objs.size l 0→h'.objs.size=s.heap.objs.size+2 →
  (∀b o,s.heap.get? b=some o→h'.get? b=some o)→Q (.ref (s.heap.objs.size+1)) {s with heap:=h'}) :
 wpAny (model prog w) A (call (.type "enumerate") [.ref l]) Q E s:=by
 obtain⟨⟨c,dct,dt,sl⟩,hl,hc,n,hd⟩:=hL
 replace hc:c=.type "tuple":=hc
 replace hd:dt=.seq items n:=hd
 subst hc hd
 refine callType_new F.called_enumerate (by decide) (F.typeCall_enumerate_1 _) (F.newCall_enumerate_1 _) (fun obj=>F.args_object_init_2 obj _) F.entry_enumerate_new
  (tG l items n dct sl) ⟨hl,?_⟩
 have hz:(s.heap.push {cls:=.type "tuple_iterator",data:=.fields #[.ref l,.int 0 0]}).objs.size=s.heap.objs.size+1:=Heap.size_push ..
 show _∧_
 rw[hz]
 have he:IsEnum ((s.heap.push {cls:=.type "tuple_iterator",data:=.fields #[.ref l,.int 0 0]}).push
  {cls:=.type "enumerate",data:=.fields #[.none,.bool false,.ref s.heap.objs.size,rawInt 0,.none,.none]}) (s.heap.objs.size+1) s.heap.objs.size 0 .none:=by
  have:=Heap.get?_push_size (s.heap.push {cls:=.type "tuple_iterator",data:=.fields #[.ref l,.int 0 0]})
   (o:={cls:=.type "enumerate",data:=.fields #[.none,.bool false,.ref s.heap.objs.size,rawInt 0,.none,.none]}) rfl
  rw[hz]at this;exact this
 refine⟨⟨_,he,rfl⟩,h _ he ⟨_,Heap.get?_push_of_some _ (Heap.get?_push_size _ rfl),rfl,rfl⟩ (by rw[Heap.size_push,hz]) fun b o x=>Heap.get?_push_of_some _ (Heap.get?_push_of_some _ x)⟩
end
end L2
end
section
namespace L2
open PySem PySem.Calls PyProof PyProof.Rows
noncomputable def Ite(K:PySem.W.Frag)(a:Addr):It:=
 ⟨fun i H=>∃xs x,SqT K H a xs∧xs[i]?=some x,fun i H x H'=>∃t y,H t=none∧x=.ref t∧(∀xs,SqT K H a xs→xs[i]?=some y)∧H'=upd H t (.tup [.int (i:Nat),y]),fun i H=>∃xs,SqT K H a xs∧xs.length=i⟩
theorem Inv.mK{X:Cx}{pins:List (Addr × Obj)}{σ:St}{H:Hp}{s:Shared}{h':Heap}{t':Nat}{e it T:Addr}{ys:List V}{its:List Value}{n:Nat}(I:Inv X pins σ H s)(fe:wk X pins H e)(fi:wk X pins H it)
 (k:∀b o,b≠e→b≠it→s.heap.get? b=some o→h'.get? b=some o) (hT:s.heap.objs.size≤T) (hz:ys.length≤sizeLine) (r:Vals ys its) (ho:h'.get? T=some {cls:=.type "tuple",data:=.seq its.toArray n}) :
 Inv X pins σ (upd H T (.tup ys)) {s with heap:=h',toks:=t'}:=by
 obtain⟨e0,e1,e2,e3,e4,e5⟩:=fe
 obtain⟨i0,i1,i2,i3,i4,i5⟩:=fi
 have hn:H T=none:=I.hok.fresh hT
 have neT:∀b u,H b=some u→b≠T:=fun b u q z=>by rw[z,hn]at q;cases q
 have nee:∀b u,H b=some u→b≠e:=fun b u q z=>by rw[z,e0]at q;cases q
 have nei:∀b u,H b=some u→b≠it:=fun b u q z=>by rw[z,i0]at q;cases q
 have neoT:∀b o,s.heap.get? b=some o→b≠T:=fun b o q z=>absurd (Nat.lt_of_lt_of_le (Heap.lt_size q) hT) (by rw[z];exact Nat.lt_irrefl _)
 refine I.step (g':=s.gens) (d':=s.drawn) (ch:=[e,it]) (fun b hb=>?_) (fun b o _ _ hc q _=>k b o (fun z=>hc (by simp[z])) (fun z=>hc (by simp[z])) q) (fun b o _ _ hc q _=>⟨o.slots,k b o (fun z=>hc (by simp[z])) (fun z=>hc (by simp[z])) q⟩)
  (fun b o _ q m=>by rw[zP (neoT b o q)];exact m) (fun b o hc q=>⟨o,k b o (fun z=>hc (by simp[z])) (fun z=>hc (by simp[z])) q⟩) (fun b xs q=>by rw[zP (neT b _ q)];exact q) (fun b o u q=>by rw[zP (neT b _ q)];exact q)
  (fun b ps q=>⟨#[],by rw[zP (neT b _ q),q];simp⟩) (fun m hm=>?_) (fun b u q=>?_) I.bare
 . rcases List.mem_cons.mp hb with z|hb
   . subst z;exact⟨e3,e1,e4,e5⟩
   . have z:=List.mem_singleton.mp hb
     subst z;exact⟨i3,i1,i4,i5⟩
 . obtain⟨o,es,ep,ho,r⟩:=hm
   exact⟨o,es,ep,k _ o (Ne.symm e1) (Ne.symm i1) ho,r⟩
 . by_cases hb:b=T
   . subst hb
     rw[zV]at q
     cases q
     exact⟨hz,its,r,_,ho,rfl,n,rfl,rfl⟩
   . rw[zP hb]at q
     refine(I.hok b u q).oz (fun c v hc w=>k c v ?_ ?_ w) (fun c hc=>by rw[zP (neT c _ hc)];exact hc) fun c xs hc=>by rw[zP (neT c _ hc)];exact hc
     . rcases hc with z|z
       . rw[z];exact nee b u q
       . exact nee c _ z
     . rcases hc with z|z
       . rw[z];exact nei b u q
       . exact nei c _ z
theorem Inv.mJ{X:Cx}{pins:List (Addr × Obj)}{σ:St}{H:Hp}{s:Shared}{h':Heap}{t':Nat}{it:Addr}(I:Inv X pins σ H s)(fi:wk X pins H it)(k:∀b o,b≠it→s.heap.get? b=some o→h'.get? b=some o):Inv X pins σ H {s with heap:=h',toks:=t'}:=by
 obtain⟨i0,i1,i2,i3,i4,i5⟩:=fi
 exact I.turned k i0 i1 i3 i4 i5
theorem lW{P:Program}{w:World}{K:PySem.W.Frag}{elts:List Expr}{x1:Nat}{pos:Pos}(a e it:Addr)(hei:e≠it):Turn P w K (.Tuple elts x1 pos) (Ite K a) [e,it] e (fun i h=>(∃old,IsEnum h e it (i:Nat) old)∧h.IsTupleIter it a i) where
 mem:=by simp
 obj:=fun i h st b hb=>by
  rcases List.mem_cons.mp hb with z|hb
  . subst z
    obtain⟨old,he⟩:=st.1
    exact⟨_,he,fun v z=>by cases (show Data.fields _=Data.cell v from z)⟩
  . have z:=List.mem_singleton.mp hb
    subst z
    obtain⟨o,q,c,d⟩:=st.2
    exact⟨o,q,fun v z=>by rw[d]at z;cases z⟩
 keep:=fun i h h' st k=>⟨let ⟨old,he⟩:=st.1;⟨old,k e (by simp) _ he⟩,st.2.at fun o q=>k it (by simp) o q⟩
 item:=by
  intro X hP hw hK hc i pins s σ H E I hf st hg
  subst hP hw hK
  obtain⟨xs,x,hq,hx⟩:=hg
  obtain⟨⟨old,he⟩,hit⟩:=st
  obtain⟨its,rv,p,hz⟩:=I.tuple hq
  obtain⟨u,hu,ru⟩:=rv.get hx
  have hlen:=rv.length
  have hi:i<xs.length:=(List.getElem?_eq_some_iff.mp hx).1
  have hai:a≠it:=fun z=>by
   obtain⟨o1,q1,c1,_⟩:=id p
   obtain⟨o2,q2,c2,_⟩:=id hit
   rw[z,q2]at q1;cases q1
   rw[c2]at c1;exact absurd (Value.type.inj c1) (by decide)
  have hae:a≠e:=fun z=>by
   obtain⟨o1,q1,c1,_⟩:=id p
   have he':s.heap.get? e=_:=he
   rw[z,he']at q1;cases q1
   exact absurd (Value.type.inj c1) (by decide)
  have D:=sy (prog:=X.prog) (w:=X.w) (A:=X.A.in1) (I.ok.hd hc) it a hai its.toArray
  refine wpAny_pyNext_enum_itemD D he ⟨hit,p⟩ (by rw[List.size_toArray];omega) hei (fun m=>?_) fun v h1 tk hP ho hs1 hT hsz hk=>?_
  . rcases List.mem_cons.mp m with z|m
    . exact hei z
    . exact hae (List.mem_singleton.mp m).symm
  . have hP:its.toArray[i]?=some v:=hP
    have ev:v=u:=by
     rw[List.getElem?_toArray,hu]at hP
     exact(Option.some.inj hP).symm
    subst ev
    refine⟨_,rfl,wpAny_letOwnedTupleGo_enum (s:={s with heap:=h1,toks:=tk+1}) ho fun h2 he2 sb=>?_⟩
    have sz:s.heap.objs.size≠e:=Nat.ne_of_gt (Heap.lt_size he)
    refine⟨.ref s.heap.objs.size,_,Inv.mK (s:=s) (h':=h2) (t':=tk+1) (T:=s.heap.objs.size) (ys:=[.int (i:Nat),x]) (its:=[.int (i:Nat) tk,v]) (n:=0) I (hf e (by simp)) (hf it (by simp)) (fun b o h1' h2' q=>(sb.2 b h1').trans (hk b o h1' h2' q)) (Nat.le_refl _) (by rw[sizeLine_eq];show 2≤_;decide) (.cons ⟨tk,rfl⟩ (.cons ru .nil)) ((sb.2 _ sz).trans hT),rfl,
     ⟨s.heap.objs.size,x,I.hok.fresh (Nat.le_refl _),rfl,fun ys hy=>by rw[I.rQ hy hq];exact hx,rfl⟩,⟨⟨v,by simpa using he2⟩,hs1.1.at fun o q=>(sb.2 it (Ne.symm hei)).trans q⟩,fun b hb=>?_⟩
    rw[zP (fun z=>?_)]
    . exact(hf b hb).1
    . have hlt:b<s.heap.objs.size:=by
       rcases List.mem_cons.mp hb with y|hb
       . rw[y];exact Heap.lt_size he
       . rw[List.mem_singleton.mp hb];obtain⟨o,q,_⟩:=hit;exact Heap.lt_size q
      exact absurd z (Nat.ne_of_lt hlt)
 done:=by
  intro X hP hw hK hc i pins s σ H E I hf st hg
  subst hP hw hK
  obtain⟨xs,hq,hx⟩:=hg
  obtain⟨⟨old,he⟩,hit⟩:=st
  obtain⟨its,rv,p,hz⟩:=I.tuple hq
  have hlen:=rv.length
  have hai:a≠it:=fun z=>by
   obtain⟨o1,q1,c1,_⟩:=id p
   obtain⟨o2,q2,c2,_⟩:=id hit
   rw[z,q2]at q1;cases q1
   rw[c2]at c1;exact absurd (Value.type.inj c1) (by decide)
  have D:=sy (prog:=X.prog) (w:=X.w) (A:=X.A.in1) (I.ok.hd hc) it a hai its.toArray
  have en:its.toArray.size=i:=by rw[List.size_toArray];omega
  exact wpAny_pyNext_enum_endD D he ⟨by rw[en];exact hit,p⟩ fun h' eb=>⟨rfl,I.mJ (t':=s.toks) (hf it (by simp)) fun b o hb q=>eb b o hb q⟩
 self:=fun _ _ _ _ _ st h=>let ⟨old,he⟩:=st.1;wpAny_pyIter_enum he h
noncomputable def dz(K:PySem.W.Frag)(a:Addr):It:=
 ⟨fun i H=>∃xs x,SqL K H a xs∧xs[i]?=some x,fun i H x H'=>∃t y,H t=none∧x=.ref t∧(∀xs,SqL K H a xs→xs[i]?=some y)∧H'=upd H t (.tup [.int (i:Nat),y]),fun i H=>∃xs,SqL K H a xs∧xs.length=i⟩
theorem nH{P:Program}{w:World}{K:PySem.W.Frag}{elts:List Expr}{x1:Nat}{pos:Pos}(a e it:Addr)(hei:e≠it):Turn P w K (.Tuple elts x1 pos) (dz K a) [e,it] e (fun i h=>(∃old,IsEnum h e it (i:Nat) old)∧h.IsListIter it a i) where
 mem:=by simp
 obj:=fun i h st b hb=>by
  rcases List.mem_cons.mp hb with z|hb
  . subst z
    obtain⟨old,he⟩:=st.1
    exact⟨_,he,fun v z=>by cases (show Data.fields _=Data.cell v from z)⟩
  . have z:=List.mem_singleton.mp hb
    subst z
    obtain⟨o,q,c,d⟩:=st.2
    exact⟨o,q,fun v z=>by rw[d]at z;cases z⟩
 keep:=fun i h h' st k=>⟨let ⟨old,he⟩:=st.1;⟨old,k e (by simp) _ he⟩,st.2.at fun o q=>k it (by simp) o q⟩
 item:=by
  intro X hP hw hK hc i pins s σ H E I hf st hg
  subst hP hw hK
  obtain⟨xs,x,hq,hx⟩:=hg
  obtain⟨⟨old,he⟩,hit⟩:=st
  obtain⟨its,rv,p0,hz⟩:=I.list hq
  have p:=p0.isList
  obtain⟨u,hu,ru⟩:=rv.get hx
  have hlen:=rv.length
  have hi:i<xs.length:=(List.getElem?_eq_some_iff.mp hx).1
  have hai:a≠it:=fun z=>by
   obtain⟨o1,q1,c1,_⟩:=id p
   obtain⟨o2,q2,c2,_⟩:=id hit
   rw[z,q2]at q1;cases q1
   rw[c2]at c1;exact absurd (Value.type.inj c1) (by decide)
  have hae:a≠e:=fun z=>by
   obtain⟨o1,q1,c1,_⟩:=id p
   have he':s.heap.get? e=_:=he
   rw[z,he']at q1;cases q1
   exact absurd (Value.type.inj c1) (by decide)
  have D:=Draws.list (prog:=X.prog) (w:=X.w) (A:=X.A.in1) (I.ok.hd hc) it a hai its.toArray
  refine wpAny_pyNext_enum_itemD D he ⟨hit,p⟩ (by rw[List.size_toArray];omega) hei (fun m=>?_) fun v h1 tk hP ho hs1 hT hsz hk=>?_
  . rcases List.mem_cons.mp m with z|m
    . exact hei z
    . exact hae (List.mem_singleton.mp m).symm
  . have hP:its.toArray[i]?=some v:=hP
    have ev:v=u:=by
     rw[List.getElem?_toArray,hu]at hP
     exact(Option.some.inj hP).symm
    subst ev
    refine⟨_,rfl,wpAny_letOwnedTupleGo_enum (s:={s with heap:=h1,toks:=tk+1}) ho fun h2 he2 sb=>?_⟩
    have sz:s.heap.objs.size≠e:=Nat.ne_of_gt (Heap.lt_size he)
    refine⟨.ref s.heap.objs.size,_,Inv.mK (s:=s) (h':=h2) (t':=tk+1) (T:=s.heap.objs.size) (ys:=[.int (i:Nat),x]) (its:=[.int (i:Nat) tk,v]) (n:=0) I (hf e (by simp)) (hf it (by simp)) (fun b o h1' h2' q=>(sb.2 b h1').trans (hk b o h1' h2' q)) (Nat.le_refl _) (by rw[sizeLine_eq];show 2≤_;decide) (.cons ⟨tk,rfl⟩ (.cons ru .nil)) ((sb.2 _ sz).trans hT),rfl,
     ⟨s.heap.objs.size,x,I.hok.fresh (Nat.le_refl _),rfl,fun ys hy=>by rw[I.qw hy hq];exact hx,rfl⟩,⟨⟨v,by simpa using he2⟩,hs1.1.at fun o q=>(sb.2 it (Ne.symm hei)).trans q⟩,fun b hb=>?_⟩
    rw[zP (fun z=>?_)]
    . exact(hf b hb).1
    . have hlt:b<s.heap.objs.size:=by
       rcases List.mem_cons.mp hb with y|hb
       . rw[y];exact Heap.lt_size he
       . rw[List.mem_singleton.mp hb];obtain⟨o,q,_⟩:=hit;exact Heap.lt_size q
      exact absurd z (Nat.ne_of_lt hlt)
 done:=by
  intro X hP hw hK hc i pins s σ H E I hf st hg
  subst hP hw hK
  obtain⟨xs,hq,hx⟩:=hg
  obtain⟨⟨old,he⟩,hit⟩:=st
  obtain⟨its,rv,p0,hz⟩:=I.list hq
  have p:=p0.isList
  have hlen:=rv.length
  have hai:a≠it:=fun z=>by
   obtain⟨o1,q1,c1,_⟩:=id p
   obtain⟨o2,q2,c2,_⟩:=id hit
   rw[z,q2]at q1;cases q1
   rw[c2]at c1;exact absurd (Value.type.inj c1) (by decide)
  have D:=Draws.list (prog:=X.prog) (w:=X.w) (A:=X.A.in1) (I.ok.hd hc) it a hai its.toArray
  have en:its.toArray.size=i:=by rw[List.size_toArray];omega
  exact wpAny_pyNext_enum_endD D he ⟨by rw[en];exact hit,p⟩ fun h' eb=>⟨rfl,I.mJ (t':=s.toks) (hf it (by simp)) fun b o hb q=>eb b o hb q⟩
 self:=fun _ _ _ _ _ st h=>let ⟨old,he⟩:=st.1;wpAny_pyIter_enum he h
noncomputable def Ze(K:PySem.W.Frag)(ta:TA):TI:=fun σ H R=>ta σ H fun vs H1=>∃a,vs=[.ref a]∧(((∃xs,SqT K H1 a xs)∧R (Ite K a) H1)∨((∃xs,SqL K H1 a xs)∧R (dz K a) H1))
theorem fj{X:Cx}{elts:List Expr}{x1:Nat}{tpos:Pos}{a:Expr}{ta:TA}{p pos:Pos}(hg:Gl X "enumerate")(hm:X.mg "enumerate"=none)(ha:PA X [a] ta)(hs:starEach [a] X.env=[(false,eval a X.env)]:=by rfl):PI X (.Tuple elts x1 tpos) (.Call (.Name "enumerate" p) [a] [] pos) (Ze X.K ta):=by
 intro pins s σ H R I h
 refine Call_ (xA I hg hm boot_enumerate (PyProof.Rows.callWith_type1 (thn (ha pos pins s σ H _ I h) fun us s1 ⟨vs,H1,I1,r1,q1⟩=>?_) hs rfl))
 obtain⟨c,e,q⟩:=q1
 subst e
 cases r1 with
 |cons r rr=>
  cases rr
  cases r
  have fp:∀b∈[s1.heap.objs.size+1,s1.heap.objs.size],wk X pins H1 b:=fun b hb=>by
   have hb':s1.heap.objs.size≤b:=by
    rcases List.mem_cons.mp hb with z|hb
    . rw[z];exact Nat.le_succ _
    . rw[List.mem_singleton.mp hb];exact Nat.le_refl _
   exact I1.gQ hb' (I1.hok.fresh hb')
  rcases q with⟨⟨xs,hq⟩,q⟩|⟨⟨xs,hq⟩,q⟩
  . obtain⟨its,rv,pt,hz⟩:=I1.tuple hq
    refine sC (show s1.heap.IsTuple c its.toArray from pt) fun h' he hit hsz hk=>wpAny_pyIter_enum he ?_
    exact⟨s1.heap.objs.size+1,[s1.heap.objs.size+1,s1.heap.objs.size],_,_,H1,rfl,I1.kept (t':=s1.toks) hk,lW c _ _ (Nat.succ_ne_self _),⟨⟨_,he⟩,hit⟩,fp,q⟩
  . obtain⟨its,rv,pt,hz⟩:=I1.list hq
    refine call_enumerate_list pt.isList fun h' he hit hsz hk=>wpAny_pyIter_enum he ?_
    exact⟨s1.heap.objs.size+1,[s1.heap.objs.size+1,s1.heap.objs.size],_,_,H1,rfl,I1.kept (t':=s1.toks) hk,nH c _ _ (Nat.succ_ne_self _),⟨⟨_,he⟩,hit⟩,fp,q⟩
end L2
end
section
namespace L2
open PySem PyProof.Rows
noncomputable def intsOf:List Expr→Option (List Int)
 |[]=>some []
 |.Constant (.int i) _ _::es=>(intsOf es).map fun r=>i::r
 |.UnaryOp .USub (.Constant (.int i) _ _) _::es=>(intsOf es).map fun r=>-i::r
 |_=>none
end L2
end
section
namespace L2
open PySem PyProof.Rows
section
variable {X:Cx}{a b:Expr}{rest:List Expr}{ta tb:TE}{pos:Pos}
noncomputable def Xb(K:PySem.W.Frag)(ta tb:TE):TE:=fun σ H Q=>ta σ H fun x H1=>∃c,gC K x H1 c∧if c=true then Q x H1 else tb σ H1 Q
theorem aZ(ha:PE X a ta)(hb:PE X (.BoolOp .Or (b::rest) pos) tb):PE X (.BoolOp .Or (a::b::rest) pos) (Xb X.K ta tb):=by
 intro pins s σ H Q I h
 refine BoolOp_or (thn (ha pins s σ H _ I h) fun v s1 ⟨x,H1,I1,r1,c,ht,q1⟩=>?_)
 refine thn (i8 pins s1 σ H1 x v (fun k H2=>if k=true then Q x H2 else tb σ H2 Q) I1 r1 ⟨c,ht,q1⟩) fun k s2 ⟨H2,I2,q2⟩=>?_
 cases k with
 |false=>exact hb pins s2 σ H2 Q I2 q2
 |true=>exact⟨x,H2,I2,r1,q2⟩
end
noncomputable def wI(n:Nat)(lo hi:Option Int)(c:Int):Int × Nat:=((sliceBounds lo hi (some c) n).1,(if c > 0 then (if (sliceBounds lo hi (some c) n).1<(sliceBounds lo hi (some c) n).2.1 then ((sliceBounds lo hi (some c) n).2.1-(sliceBounds lo hi (some c) n).1+c-1)/c else 0) else (if (sliceBounds lo hi (some c) n).1 > (sliceBounds lo hi (some c) n).2.1 then ((sliceBounds lo hi (some c) n).1-(sliceBounds lo hi (some c) n).2.1-c-1)/(-c) else 0):Int).toNat)
theorem wQ(its:List Value)(lo hi:Option Int)(c:Int):slicePick its.toArray lo hi (some c)=(zW its (wI its.length lo hi c).1 c (wI its.length lo hi c).2).toArray:=by
 unfold slicePick sliceRange zW wI
 rw[List.filterMap_map]
 refine congrArg List.toArray ?_
 have e:(sliceBounds lo hi (some c) its.toArray.size).2.2=c:=rfl
 rw[e]
 simp only[List.size_toArray]
 refine congrArg (fun f=>List.filterMap f _) ?_
 funext k
 show its.toArray[_]?=_
 rw[List.getElem?_toArray,Int.mul_comm]
noncomputable def Yj(K:PySem.W.Frag):V→Option Int→Option Int→Option Int→Hp→VK→Prop:=fun x lo hi st H Q=>∃a xs c,x=.ref a∧SqL K H a xs∧st=some c∧c≠0∧∀p,H p=none→Q (.ref p) (upd H p (.lst (zW xs (wI xs.length lo hi c).1 c (wI xs.length lo hi c).2)))
theorem oa{X:Cx}{e:Expr}{te:TE}{lo hi:Option Expr}{st:Expr}{tl th tc:TO}{pos p2:Pos}(he:PE X e te)(hl:PO X lo tl)(hu:PO X hi th)(hc:PO X (some st) tc):PE X (.Subscript e (.Slice lo hi (some st) p2) pos) (Yy (Yj X.K) te tl th tc):=by
 intro pins s σ H Q I h
 refine Subscript_ (thn (he pins s σ H _ I h) fun v s1 ⟨x,H1,I1,r1,q1⟩=>?_)
 refine wpAny_Slice (thn (hl pins s1 σ H1 _ I1 q1) fun vl s2 ⟨l,H2,I2,pl,q2⟩=>thn (hu pins s2 σ H2 _ I2 q2) fun vu s3 ⟨u,H3,I3,pu,q3⟩=>thn (hc pins s3 σ H3 _ I3 q3) fun vc s4 ⟨c,H4,I4,pc,q4⟩=>?_)
 obtain⟨a,xs,cc,rfl,hx,ec,h0,g⟩:=q4
 subst ec
 cases r1
 have I5:Inv X pins σ H4 {s4 with heap:=s4.heap.push {cls:=.type "slice",data:=.fields #[vl,vu,vc]}}:=I4.kept (t':=s4.toks) fun b ob q=>Heap.get?_push_of_some _ q
 obtain⟨its,r,ht,hz⟩:=I5.list hx
 have hlen:=r.length
 show wpAny (model X.prog X.w) X.A (subscriptTail e (.Slice lo hi (some st) p2) (.ref a) (.ref s4.heap.objs.size)) (EP X pins σ Q) X.xe {s4 with heap:=s4.heap.push {cls:=.type "slice",data:=.fields #[vl,vu,vc]}}
 refine tail_any (ops:=[.ref a,.ref s4.heap.objs.size]) ht.isList.typeIs slot_list_getitem.lookup (wpAny_getItem_list_slice ht.isList (Heap.IsSliceOf.new ..) pl pu pc (fun z=>h0 (Option.some.inj z)) ?_ (by rw[List.size_toArray]<;>omega)) (by with_unfolding_all rfl)
 rw[wQ,←hlen]
 refine⟨.ref _,_,I5.laid (t':=s4.toks) (o:=.lst (zW xs (wI xs.length l u cc).1 cc (wI xs.length l u cc).2)) (fun b ob q=>Heap.get?_push_of_some _ q) (Nat.le_refl _) ?_,rfl,g _ (I5.hok.fresh (Nat.le_refl _))⟩
 have rp:=r.zW (wI xs.length l u cc).1 cc (wI xs.length l u cc).2
 have bound:(zW xs (wI xs.length l u cc).1 cc (wI xs.length l u cc).2).length≤xs.length:=by
  have:=slicePick_size_le its.toArray l u (some cc)
  rw[wQ,List.size_toArray,List.size_toArray,←hlen,←rp.length]at this
  exact this
 exact⟨Nat.le_trans bound hz,_,0,rp,Heap.get?_push_size _ rfl⟩
end L2
end
section
namespace L2
open PySem PyProof PyProof.Rows
section
variable {X:Cx}
noncomputable def Zx(z:Str)(ys:List Str):Str:=Txt.join z ys
end
end L2
end
section
namespace L2
open PySem PySem.Spec PyProof PyProof.Rows
theorem pB:typeLookup (.type "tuple") (dunderI "add")=(pure none:Sem (Option Value)):=rfl
section
variable {X:Cx}
theorem mZ:OpR X (inplaceOp .Add) dU:=by
 intro pins s σ H x y v u Q I rx ry h
 obtain⟨a,b,xs,ys,rfl,rfl,ha,hb,hz,g⟩:=h
 cases rx
 cases ry
 obtain⟨its,r1,p1,_⟩:=I.tuple (.inl (.inl ha))
 obtain⟨its2,r2,p2,_⟩:=I.tuple (.inl (.inl hb))
 obtain⟨⟨cls,dd,data,sl⟩,ho,hc,n,hd⟩:=id p1
 obtain⟨⟨cls2,dd2,data2,sl2⟩,ho2,hc2,n2,hd2⟩:=id p2
 simp only at hc hd hc2 hd2
 subst hc hd hc2 hd2
 have e:its.toArray++its2.toArray=(its++its2).toArray:=by simp
 have tA:s.TypeIs (.ref a) "tuple":=⟨_,ho,rfl⟩
 have tB:s.TypeIs (.ref b) "tuple":=⟨_,ho2,rfl⟩
 refine inplaceOp_concat tA tB pB noFill_tuple_add seq_tuple_add ?_
 by_cases hx:xs=[]
 . subst hx
   cases r1
   exact call_meets PySem.F.slot_tuple_add tA PySem.F.entry_tuple_add (PySem.F.args_tuple_add_2 _ _) (tuple_addW0 a b #[] its2.toArray n n2 dd dd2 sl sl2 rfl) ⟨ho,ho2,⟨.ref b,H,I,rfl,g b H (vp.refl H) hb⟩⟩
 . have hv:its≠[]:=fun z=>hx (r1.xU.mp z)
   by_cases hy:ys=[]
   . have hw:its2=[]:=r2.xU.mpr hy
     subst hy
     rw[List.append_nil]at g
     exact call_meets PySem.F.slot_tuple_add tA PySem.F.entry_tuple_add (PySem.F.args_tuple_add_2 _ _) (tuple_addW1 a b its.toArray its2.toArray n n2 dd dd2 sl sl2 (by simpa using hv) (by simp[hw])) ⟨ho,ho2,⟨.ref a,H,I,rfl,g a H (vp.refl H) ha⟩⟩
   . have hw:its2≠[]:=fun z=>hy (r2.xU.mp z)
     refine call_meets PySem.F.slot_tuple_add tA PySem.F.entry_tuple_add (PySem.F.args_tuple_add_2 _ _) (tuple_addW2 a b its.toArray its2.toArray n n2 dd dd2 sl sl2 (by simpa using hv) (by simpa using hw) (by rw[List.size_toArray,List.size_toArray,←r1.length,←r2.length];exact hz)) ⟨ho,ho2,?_⟩
     rw[e]
     refine⟨.ref s.heap.objs.size,_,I.laid (t':=s.toks) (o:=.tup (xs++ys)) (fun b ob q=>Heap.get?_push_of_some _ q) (Nat.le_refl _) ?_,rfl,g.new _ (I.hok.fresh (Nat.le_refl _))⟩
     exact⟨by rw[List.length_append];exact hz,_,r1.append r2,vC.new _ _⟩
noncomputable def Yo(ns:List Int):Bool:=decide (ns.length≤1000)&&ns.all fun n=>decide (-1000000≤n)&&decide (n≤1000000)
end
end L2
end
section
namespace L2
open PySem PySem.W PySem.Calls PyProof PyProof.Rows
open AutoSeq1 (wpAny_loadPart')
open SeqAt
theorem uY{M:Model}{A:Around}{E:Value→Shared→Prop}{s:Shared}{β:Type}(f:Nat→β→Sem (ForInStep β))(I:List Nat→β→Shared→Prop)(Q:β→Shared→Prop)
 (turn:∀x rest b s,I (x::rest) b s→wpAny M A (f x b) (fun r s'=>match r with|.yield b'=>I rest b' s'|.done b'=>Q b' s') E s)
 (fin:∀b s,I [] b s→Q b s) (r:Std.Legacy.Range) (b:β) (h:I (List.range' r.start r.size r.step) b s):wpAny M A (forIn r b f) Q E s:=by
 rw[Std.Legacy.Range.forIn_eq_forIn_range']
 exact wpAny_forIn_list f I Q turn fin _ b h
theorem sX(l:Addr)(items:Array Value)(n:Nat)(dd:Option Addr)(sl:Array (Option Value))(x:Value)(e:Value→Bool)(j:Nat)(hj:j<items.size)(hit:e items[j]=true)(hno:∀m (hm:m<items.size),m<j→e items[m]=false) :
 Meets (Builtin.«tuple.index» ⟨[.ref l,x],[]⟩)
  (fun A R s=>s.heap.get? l=some {cls:=.type "tuple",dict:=dd,data:=.seq items n,slots:=sl}∧(∀y,y∈items→EqAt A.in1 s y x (e y))∧R (.ok (.ret (.int j s.toks))) {s with toks:=s.toks+1}):=
 .of_wp fun prog w A R s h=>by
  obtain⟨hp,g,d,tk,os⟩:=s;obtain⟨hl,he,h⟩:=h
  wp_walk using wpAny_loadPart' hl,uY _ (fun rest b s'=>b.1=none∧s'=⟨hp,g,d,tk,os⟩∧∃i,i≤j∧rest=List.range' i (items.size-i)) _
  case turn=>
   rintro y rest b s' ⟨hb,rfl,i,hij,hr⟩
   have hlt:i<items.size:=Nat.lt_of_le_of_lt hij hj
   rw[show items.size-i=(items.size-(i+1))+1 by omega,List.range'_succ]at hr
   obtain⟨rfl,rfl⟩:=List.cons.inj hr
   simp only[Array.getElem?_eq_getElem hlt]
   refine wpAny_bind (he _ (Array.getElem_mem hlt) prog w _ _ ?_)
   by_cases hy:y=j
   . subst hy
     rw[hit]
     wp_walk
     exact⟨_,rfl,h⟩
   . rw[hno y hlt (by omega)]
     wp_walk
     exact⟨rfl,rfl,y+1,by omega,rfl⟩
  case fin=>
   rintro b s' ⟨hb,rfl,i,hij,hr⟩
   rw[show items.size-i=(items.size-(i+1))+1 by omega,List.range'_succ]at hr
   cases hr
  case h=>
   refine⟨rfl,rfl,0,Nat.zero_le _,?_⟩
   simp[Std.Legacy.Range.size]
noncomputable def iH(K:PySem.W.Frag):V→List V→Hp→VK→Prop:=fun x vs H Q=>∃t xs y j,x=.ref t∧vs=[y]∧SqT K H t xs∧xR y=true∧xs.all xR=true∧xs.findIdx? (fun z=>eqV z y)=some j∧Q (.int (j:Nat)) H
theorem kL{x:V}:∀{xs:List V} {us:List Value},Vals xs us→xs.all xR=true→us.map (eqU x)=xs.map fun y=>eqV y x
 |_,_,.nil,_=>rfl
 |y::ys,u::us,.cons r rs,h=>by
  rw[List.all_cons,Bool.and_eq_true]at h
  rw[List.map_cons,List.map_cons,kL rs h.2,p7 r h.1]
section
variable {X:Cx}
theorem mz:MtR X "tuple.index" (iH X.K):=by
 intro pins s σ H x xs v us Q I rx rs h
 obtain⟨t,ys,y,j,rfl,rfl,ht,fy,fs,hx,q⟩:=h
 cases rx
 obtain⟨u,rfl,ru⟩:=vals1 rs
 obtain⟨its,r,p1,_⟩:=I.tuple ht
 obtain⟨⟨cls,dd,data,sl⟩,ho,hc,n,hd⟩:=id p1
 simp only at hc hd
 subst hc hd
 have hm:=kL (x:=y) r fs
 have at_:∀(i:Nat) (h1:i<its.length) (h2:i<ys.length),eqU y its[i]=eqV ys[i] y:=fun i h1 h2=>by
  have:=congrArg (·[i]?) hm
  simp only[List.getElem?_map,List.getElem?_eq_getElem h1,List.getElem?_eq_getElem h2,Option.map_some,Option.some.injEq]at this
  exact this
 have hl:=r.length
 obtain⟨hj,hit,hno⟩:=List.findIdx?_eq_some_iff_getElem.mp hx
 refine call_meets F.slot_tuple_index ⟨_,ho,rfl⟩ F.entry_tuple_index (F.args_tuple_index_2 _ _) (sX t its.toArray n dd sl u (eqU y) j (by rw[List.size_toArray];omega) ?_ fun m hm hmj=>?_) ⟨ho,fun w hw=>vX ru fy r fs w (by simpa using hw),?_⟩
 . rw[List.getElem_toArray,at_ j (by omega) hj];exact hit
 . rw[List.size_toArray]at hm
   rw[List.getElem_toArray,at_ m hm (by omega)]
   have:=hno m hmj
   simpa using this
 . exact⟨.int _,H,I.tok _,⟨s.toks,rfl⟩,q⟩
end
section
variable {prog:Program}{w:World}{A:Around}{E:Value→Shared→Prop}{s:Shared}
theorem qR{l:Addr}{T:String}{o:Obj}{vs:List Value}{n:Nat}{ns:List Int}{Q:Value→Shared→Prop}(hT:T="list"∨T="tuple")(ho:s.heap.get? l=some o)(hc:o.cls=.type T)(hd:o.data=.seq vs.toArray n)(hI:IntsAre vs ns)(h64:vs.length<64)
 (h:∀(D:Addr) (h':Heap) (out:Array Value) (ns':List Int) (c:Nat),s.heap.get? D=none→(∀b o,s.heap.get? b=some o→h'.get? b=some o)→h'.get? D=some (seqObj "list" out c)→IntsAre out.toList ns'→ns'.Perm ns→ns'.Pairwise (·≤·)→Q (.ref D) {s with heap:=h'}) :
 wpAny (model prog w) A (call (.builtin "sorted") [.ref l]) Q E s:=by
 refine Calls.call_function_entry kind_sorted plain_sorted entry_sorted (args_sorted1 _) ?_
 unfold Builtin.«sorted»
 refine wpAny_bind (m:=checkCount "sorted" 1 1 _) (wpAny_pure ?_)
 refine wpAny_bind (wpAny_collect_seq l hT ho hc hd (fun h1 kp=>?_) (by rw[List.size_toArray,sizeLine_eq];omega))
 refine wpAny_bind (wpAny_newList ?_ (by rw[sizeLine_eq];simp;omega))
 have hoL:(h1.push (seqObj "list" vs.toArray 0)).get? h1.objs.size=some (seqObj "list" vs.toArray 0):=Heap.get?_push_size _ rfl
 show wpAny _ _ _ _ _ {s with heap:=h1.push (seqObj "list" vs.toArray 0)}
 refine wpAny_bind (wpAny_holding (wpAny_call_entry slot_list_sort ⟨_,hoL,rfl⟩ entry_list_sort (list_sort_tree hoL hI h64 fun out ns' a1 a2 a3=>⟨_,rfl,?_⟩) (args_list_sort _)))
 obtain⟨c,ec⟩:=sortedHeap_at (out:=out) hoL
 refine wpAny_pure ⟨_,rfl,h h1.objs.size _ out ns' c ?_ (fun b o e=>?_) ec a1 a2 a3⟩
 . cases e:s.heap.get? h1.objs.size with
   |none=>rfl
   |some o'=>exact absurd (Heap.lt_size (kp _ _ e)) (Nat.lt_irrefl _)
 . have hb:=Heap.lt_size (kp b o e)
   rw[sortedHeap_old (Nat.ne_of_lt hb) (by rw[size_push'];exact Nat.lt_succ_of_lt hb),Heap.get?_push_ne _ _ _ (Nat.ne_of_lt hb)]
   exact kp b o e
end
theorem ql:∀{ns:List Int} {us:List Value},Vals (ns.map V.int) us→IntsAre us ns
 |[],_,.nil=>.nil
 |n::ns,_,.cons ⟨t,e⟩ r=>by subst e;exact .cons _ _ (ql r)
theorem qX:∀{ns:List Int} {us:List Value},IntsAre us ns→Vals (ns.map V.int) us
 |_,_,.nil=>.nil
 |_,_,.cons _ _ r=>.cons ⟨_,rfl⟩ (qX r)
theorem pq{X:Cx}:yN X (.builtin "sorted") (fun xs H Q=>∃p ns,xs=[.ref p]∧(SqL X.K H p (ns.map V.int)∨SqT X.K H p (ns.map V.int))∧ns.length<64 ∧
 ∀(l:Addr) (ns':List Int),H l=none→ns'.Perm ns→ns'.Pairwise (·≤·)→Q (.ref l) (upd H l (.lst (ns'.map V.int)))):=by
 intro pins s σ H xs us Q I r h
 obtain⟨p,ns,rfl,hq,h64,q⟩:=h
 obtain⟨u,rfl,rx⟩:=vals1 r
 cases rx
 have go:∀{its:List Value} {T:String} {o:Obj} {n:Nat},Vals (ns.map V.int) its→(T="list"∨T="tuple")→s.heap.get? p=some o→o.cls=.type T→o.data=.seq its.toArray n →
  wpAny (model X.prog X.w) X.A (call (.builtin "sorted") [.ref p]) (fun v s'=>∃x H',Inv X pins σ H' s'∧RelV x v∧Q x H') X.xe s:=fun{its T o n} rv hT ho hc hd=>by
  have hl:=rv.length
  rw[List.length_map]at hl
  refine qR hT ho hc hd (ql rv) (by omega) fun D h' out ns' c hD keep e hi hp ho=>?_
  have hln:=hp.length_eq
  obtain⟨hn',I'⟩:=I.d8 (h':=h') (ys:=ns'.map V.int) (its:=out.toList) (c:=c) (by rw[List.length_map,sizeLine_eq];omega) (qX hi) hD (fun b o _ e=>keep b o e) (fun m ⟨o,es,ep,ho,r⟩=>⟨o,es,ep,keep _ o ho,r⟩) (by rw[e])
  exact⟨V.ref _,_,I',rfl,q _ _ hn' hp ho⟩
 rcases hq with hq|hq
 . obtain⟨its,rv,pl,hz⟩:=I.list hq
   obtain⟨o,ho,hc,n,hd⟩:=id pl.isList
   exact go rv (.inl rfl) ho hc hd
 . obtain⟨its,rv,p1,_⟩:=I.tuple hq
   obtain⟨o,ho,hc,n,hd⟩:=id p1
   exact go rv (.inr rfl) ho hc hd
section
variable {prog:Program}{w:World}{A:Around}{E:Value→Shared→Prop}{s:Shared}
theorem sE{Q:List Value→Shared→Prop}{it:Addr}{a b c:Int}{t u v:Tok}{n:Nat}(hh:A.handled=none)(hr:IsRange s.heap it a b c t u v)(hsmall:Builtin.Range.small a b c=true)(hn:Builtin.Range.rangeSize a b c=n)(hlen:n≤2 ^ 24)
 (hQ:∀h' tk (acc:Array Value),(∀b o',s.heap.get? b=some o'→h'.get? b=some o')→ItemsOf (fun i v=>∃t,v=.int (a+i*c) t) acc n→Q acc.toList {s with heap:=h',toks:=tk}) :
 wpAny (model prog w) A (collect (.ref it)) Q E s:=by
 unfold collect
 refine wpAny_bind (wpAny_runValue (codeAny_builtin F.entry_proto_collect ?_))
 rw[Around.under_plainId F.plain_proto_collect _]
 show wpAny _ A.in1 (newList [] >>= fun l=>again (.builtin "list.__iadd__" ⟨[l,.ref it],[]⟩)) _ _ s
 refine wpAny_bind (wpAny_newObj_type ?_)
 refine wpAny_pure ⟨plainId_quiet F.plain_list_iadd _,codeAny_builtin F.entry_list_iadd ?_⟩
 rw[Around.under_plainId F.plain_list_iadd _]
 show wpAny _ A.in1 (Builtin.List.listExtendWith (.ref s.heap.objs.size) (.ref it) (.ref s.heap.objs.size)) _ _ _
 have hS:(s.heap.push {cls:=.type "list",data:=.seq ([]:List Value).toArray}).get? s.heap.objs.size=some {cls:=.type "list",data:=.seq #[] 0}:=Heap.get?_push_size _ rfl
 refine wpAny_mono (wpAny_extend_range (A:=A) (s:={s with heap:=s.heap.push {cls:=.type "list",data:=.seq ([]:List Value).toArray}}) (R:=fun r s'=>r=.ok (.ret (.ref s.heap.objs.size))∧∃h' tk acc c',s'={s with heap:=h',toks:=tk}∧(∀b o',s.heap.get? b=some o'→h'.get? b=some o')∧h'.get? s.heap.objs.size=some {cls:=.type "list",dict:=none,data:=.seq acc c',slots:=#[]}∧ItemsOf (fun i v=>∃t,v=.int (a+i*c) t) acc n)
  hh (Heap.get?_push_of_some _ hr) hsmall hn hlen s.heap.objs.size _ 0 hS fun h' tk acc c' kp e hi=>⟨rfl,h',tk,acc,c',rfl,fun b o' e'=>kp b o' (Nat.ne_of_lt (Heap.lt_size e')) (Heap.get?_push_of_some _ e'),e,hi⟩) (fun fin s' h=>?_) (fun e s' h=>?_)
 . have fin':∀{s'},(∃h' tk acc c',s'={s with heap:=h',toks:=tk}∧(∀b o',s.heap.get? b=some o'→h'.get? b=some o')∧h'.get? s.heap.objs.size=some {cls:=.type "list",dict:=none,data:=.seq acc c',slots:=#[]}∧ItemsOf (fun i v=>∃t,v=.int (a+i*c) t) acc n)→wpAny (model prog w) A (match Value.ref s.heap.objs.size with
    |Value.ref a=>do
     match (←load a).data with
      |Data.seq xs _=>pure xs.toList
      |_=>unsupported "internal:collect"
    |_=>unsupported "internal:collect") Q E s':=by
    rintro s' ⟨h',tk,acc,c',rfl,kp,e,hi⟩
    show wpAny _ A (load s.heap.objs.size >>= _) _ _ _
    refine wpAny_bind (wpAny_load e ?_)
    exact wpAny_pure (hQ h' tk acc kp hi)
   cases fin with
   |done f=>
    obtain⟨e,h⟩:=h
    cases e
    exact fin' h
   |again c'=>exact⟨h.1,codeAny_mono h.2 fun r s'' hr=>by obtain⟨rfl,hr⟩:=hr;exact fin' hr⟩
 . exact absurd h.1 (by simp)
end
theorem wD(l:Addr)(a b c:Int)(t u v:Tok)(n:Nat)(hsmall:Builtin.Range.small a b c=true)(hn:Builtin.Range.rangeSize a b c=n)(hlen:n≤1000) :
 Meets (Builtin.«tuple.__new__» ⟨[.type "tuple",.ref l],[]⟩)
  (fun A R s=>A.handled=none∧IsRange s.heap l a b c t u v∧∀(h':Heap) (tk:Nat) (acc:Array Value),(∀b o',s.heap.get? b=some o'→h'.get? b=some o')→ItemsOf (fun i v=>∃t,v=.int (a+i*c) t) acc n→R (.ok (.ret (.ref h'.objs.size))) {s with heap:=h'.push {cls:=.type "tuple",data:=.seq acc},toks:=tk}):=
 .of_wp fun prog w A R s h=>by
  obtain⟨hp,g,d,tk,os⟩:=s;obtain⟨hh,ht,h⟩:=h
  have hsub:=sub_tuple_self
  have hinit:=init_tuple_lookup
  have hmh:=madeHere_tuple
  have hT:Shared.TypeIs ⟨hp,g,d,tk,os⟩ (.ref l) "range":=⟨_,ht,rfl⟩
  wp_walk using wpAny_loadPart' ht,wpAny_typeOf hT,sE (A:=A.in1) hh ht hsmall hn (Nat.le_trans hlen (by decide))
  intro h' tk' acc hk hi
  show wpAny _ _ (Builtin.Tuple.tupleExact acc.toList.toArray >>= fun v=>ret v) _ _ _
  unfold Builtin.Tuple.tupleExact
  refine wpAny_bind (wpAny_newObj_type ?_ (by show acc.toList.toArray.size≤sizeLine;rw[sizeLine_eq];have:=hi.1;simp;omega))
  refine wpAny_pure ⟨_,rfl,?_⟩
  have e:acc.toList.toArray=acc:=by simp
  rw[e]
  exact h h' tk' acc hk hi
section
variable {prog:Program}{w:World}{A:Around}{E:Value→Shared→Prop}{s:Shared}
theorem vv{l:Addr}{a b c:Int}{t u v:Tok}{n:Nat}{Q:Value→Shared→Prop}(hh:A.handled=none)(hr:IsRange s.heap l a b c t u v)(hsmall:Builtin.Range.small a b c=true)(hn:Builtin.Range.rangeSize a b c=n)(hlen:n≤1000)
 (h:∀(h':Heap) (tk:Nat) (acc:Array Value),(∀b o',s.heap.get? b=some o'→h'.get? b=some o')→ItemsOf (fun i v=>∃t,v=.int (a+i*c) t) acc n→Q (.ref h'.objs.size) {s with heap:=h'.push {cls:=.type "tuple",data:=.seq acc},toks:=tk}) :
 wpAny (model prog w) A (call (.type "tuple") [.ref l]) Q E s:=
 callType_new F.called_tuple (by decide) (F.typeCall_tuple_1 _) (F.newCall_tuple_1 _) (fun obj=>F.args_object_init_2 obj _) F.entry_tuple_new
  (wD l a b c t u v n hsmall hn hlen) ⟨hh,hr,fun h' tk acc hk hi=>⟨⟨_,Heap.get?_push_size _ rfl,rfl⟩,h h' tk acc hk hi⟩⟩
end
theorem tR{i j:Int}{acc:Array Value}(hn0:0≤Builtin.Range.rangeSize i j 1)(hit:ItemsOf (fun k v=>∃t,v=.int (i+k*1) t) acc (Builtin.Range.rangeSize i j 1).toNat):Vals ((zb i j 1).map V.int) acc.toList:=by
 obtain⟨hs1,hs2⟩:=hit
 have hl:(zb i j 1).length=acc.toList.length:=by unfold zb;rw[List.length_map,List.length_range];simpa using hs1.symm
 refine vy hl fun m v hm=>?_
 have hm':acc[m]?=some v:=by simpa using hm
 obtain⟨t,e⟩:=hs2 m v hm'
 have hlt:m<(Builtin.Range.rangeSize i j 1).toNat:=by
  have:=(Array.getElem?_eq_some_iff.mp hm').1;omega
 refine⟨t,?_⟩
 rw[e]
 congr 1
 unfold zb
 rw[List.getD_eq_getElem?_getD,List.getElem?_map,List.getElem?_range hlt];rfl
section
variable {X:Cx}
theorem qK{x y:Str}{a b:Expr}{ta:TA}{p pos p2 pos2:Pos}(hcalm:X.calm=true)(hx:x="tuple")(hy:y="range")(hg:Gl X x)(hm:X.mg x=none)(hg2:Gl X y)(hm2:X.mg y=none)(ha:PA X [a,b] ta)
 (hs:starEach [a,b] X.env=(false,eval a X.env)::starEach [b] X.env:=by rfl) (hpl:(backTo pos2 (starEach [b] X.env)).any (·.1)=false:=by rfl) :
 PE X (.Call (.Name x p) [.Call (.Name y p2) [a,b] [] pos2] [] pos) (fun σ H Q=>ta σ H fun vs H1=>∃i j:Int,vs=[.int i,.int j]∧-(2 ^ 30)≤i∧i≤2 ^ 30∧-(2 ^ 30)≤j∧j≤2 ^ 30∧(Builtin.Range.rangeSize i j 1)≤1000∧∀l,H1 l=none→Q (.ref l) (upd H1 l (.tup ((zb i j 1).map V.int)))):=by
 intro pins s σ H Q I h
 subst hx hy
 refine wpAny_Call_Name_kw (xA I hg hm PyProof.Rows.boot_tuple ?_ (by decide) (by decide))
 refine PyProof.Rows.callWith_type1 (PyProof.Rows.spliced_more (Call_ (xA I hg2 hm2 boot_range (PyProof.Rows.callWith_type1 (thn (ha pos2 pins s σ H _ I h) fun us s1 ⟨vs,H1,I1,r1,q1⟩=>?_) hs hpl) (by decide) (by decide))))
 obtain⟨i,j,rfl,i0,i1,j0,j1,hz,q⟩:=q1
 cases r1 with
 |cons r rr=>
  cases rr with
  |cons r2 rr=>
   cases rr
   obtain⟨t1,rfl⟩:=r
   obtain⟨t2,rfl⟩:=r2
   have hn0:=x8 i j 1 (by omega)
   refine call_range_2 ?_
   refine PyProof.Rows.spliced_none ?_
   have I2:Inv X pins σ H1 {s1 with heap:=s1.heap.push {cls:=.type "range",data:=.fields #[.int i t1,.int j t2,.int 1 s1.toks]},toks:=s1.toks+1}:=I1.kept fun b o e=>Heap.get?_push_of_some _ e
   refine vv (n:=(Builtin.Range.rangeSize i j 1).toNat) (I1.ok.hd hcalm) (IsRange.new ..) ?_ (by omega) (by omega) fun h' tk acc' kp hit=>?_
   . unfold Builtin.Range.small
     rw[if_pos (by omega)]
     simp only[Builtin.Range.rangeFitsLong,Bool.and_eq_true,Bool.or_eq_true,decide_eq_true_eq,beq_iff_eq]
     omega
   . have hz2:((zb i j 1).map V.int).length≤sizeLine:=by
      unfold zb;rw[List.length_map,List.length_map,List.length_range,sizeLine_eq];omega
     have I3:Inv X pins σ H1 {s1 with heap:=h',toks:=tk}:=I2.kept (t':=tk) kp
     exact⟨.ref h'.objs.size,_,I3.laid (t':=tk) (o:=.tup ((zb i j 1).map V.int)) (fun b o e=>Heap.get?_push_of_some _ e) (Nat.le_refl _) (show zc X.prog X.w _ _ _ (.tup ((zb i j 1).map V.int)) from ⟨hz2,acc'.toList,tR hn0 hit,by simpa using vC.new h' acc'⟩),rfl,q _ (I3.hok.fresh (Nat.le_refl _))⟩
theorem lF{o e:Expr}{to te:TE}{apos cpos:Pos}(ho:PE X o to)(he:PE X e te)(hbase:attributeBase o "index" X.env (eval o X.env)=eval o X.env:=by rfl)(hst:noStar e=true:=by rfl)(hline:(apos.endLine == cpos.line)=true:=by rfl) :
 PE X (.Call (.Attribute o "index" apos) [e] [] cpos) (Yq (iH X.K) to (tw te nD)):=by
 have hs1:starEach [e] X.env=(false,eval e X.env)::starEach [] X.env:=zZ hst
 intro pins s σ H Q I h
 refine wpAny_Call_method_late hbase (by rw[hs1];rfl) hline rfl (thn (ho pins s σ H _ I h) fun v s1 ⟨x,H1,I1,r1,ty,q1⟩=>?_)
 obtain⟨a,xs,rfl,hx⟩:=ty
 cases r1
 obtain⟨z,its,rv,ob,e1,c1,n,d1,nd⟩:=(show zc X.prog X.w H1 s1.heap a (.tup xs) from I1.hok a _ hx)
 refine⟨"tuple",_,PySem.F.plainAttrs_tuple,PySem.F.slot_tuple_index,PySem.F.type_tuple_index,⟨ob,e1,c1⟩,fun b hb=>?_,?_⟩
 . cases hb;exact⟨ob,e1,nd⟩
 have hA:=(pac he xB hst:PA X [e] _) cpos pins s1 σ H1 _ I1 q1
 rw[hs1]at hA ⊢
 refine Calls.callWith_builtin rfl (Calls.evalArgs_plain ?_)
 exact thn hA fun us s2 ⟨vs,H2,I2,r2,q2⟩=>mz pins s2 σ H2 (.ref a) vs _ us Q I2 rfl r2 q2
end
section
variable {X:Cx}
theorem sM{x y:Str}{a b:Expr}{ta:TA}{p pos p2 pos2:Pos}(hcalm:X.calm=true)(hx:x="list")(hy:y="range")(hg:Gl X x)(hm:X.mg x=none)(hg2:Gl X y)(hm2:X.mg y=none)(ha:PA X [a,b] ta)
 (hs:starEach [a,b] X.env=(false,eval a X.env)::starEach [b] X.env:=by rfl) (hpl:(backTo pos2 (starEach [b] X.env)).any (·.1)=false:=by rfl) :
 PE X (.Call (.Name x p) [.Call (.Name y p2) [a,b] [] pos2] [] pos) (fun σ H Q=>ta σ H fun vs H1=>∃i j:Int,vs=[.int i,.int j]∧-(2 ^ 30)≤i∧i≤2 ^ 30∧-(2 ^ 30)≤j∧j≤2 ^ 30∧(Builtin.Range.rangeSize i j 1)≤1000∧∀l,H1 l=none→Q (.ref l) (upd H1 l (.lst ((zb i j 1).map V.int)))):=by
 intro pins s σ H Q I h
 subst hx hy
 refine wpAny_Call_Name_kw (xA I hg hm PyProof.Rows.boot_list ?_ (by decide) (by decide))
 refine PyProof.Rows.callWith_type1 (PyProof.Rows.spliced_more (Call_ (xA I hg2 hm2 boot_range (PyProof.Rows.callWith_type1 (thn (ha pos2 pins s σ H _ I h) fun us s1 ⟨vs,H1,I1,r1,q1⟩=>?_) hs hpl) (by decide) (by decide))))
 obtain⟨i,j,rfl,i0,i1,j0,j1,hz,q⟩:=q1
 cases r1 with
 |cons r rr=>
  cases rr with
  |cons r2 rr=>
   cases rr
   obtain⟨t1,rfl⟩:=r
   obtain⟨t2,rfl⟩:=r2
   have hn0:=x8 i j 1 (by omega)
   refine call_range_2 ?_
   refine PyProof.Rows.spliced_none ?_
   have I2:Inv X pins σ H1 {s1 with heap:=s1.heap.push {cls:=.type "range",data:=.fields #[.int i t1,.int j t2,.int 1 s1.toks]},toks:=s1.toks+1}:=I1.kept fun b o e=>Heap.get?_push_of_some _ e
   refine call_list_range (n:=(Builtin.Range.rangeSize i j 1).toNat) (I1.ok.hd hcalm) (IsRange.new ..) ?_ (by omega) (by omega) fun h' tk acc' c' kp e hit=>?_
   . unfold Builtin.Range.small
     rw[if_pos (by omega)]
     simp only[Builtin.Range.rangeFitsLong,Bool.and_eq_true,Bool.or_eq_true,decide_eq_true_eq,beq_iff_eq]
     omega
   . have hz2:((zb i j 1).map V.int).length≤sizeLine:=by
      unfold zb;rw[List.length_map,List.length_map,List.length_range,sizeLine_eq];omega
     exact⟨.ref _,_,I2.laid (t':=tk) (o:=.lst ((zb i j 1).map V.int)) kp (Nat.le_refl _) ⟨hz2,acc'.toList,c',tR hn0 hit,by simpa using e⟩,rfl,q _ (I2.hok.fresh (Nat.le_refl _))⟩
end
end L2
end
section
namespace M
open PySem
inductive Val where
 |none|bool (b:Bool)|int (i:Int)|str (x:Str)
 |tup (vs:List Val)|lst (vs:List Val)|dct0
 |ctup (ns:List Int)|scr (ns:List Int)
 |ref (i:Nat)|fn (x:Str)|ty (n:String)|dref (i:Nat)
 deriving Inhabited
inductive Cel where
 |lst (vs:List Val)
 |dS (kvs:List (Str × Val))
 |dT (kvs:List (List Int × Val))
 deriving Inhabited
noncomputable abbrev Sto:=List Cel
noncomputable abbrev Env:=List (Option Val)
inductive Out(α:Type) where
 |ok (a:α) (s:Sto)
 |exc (c:Str) (args:List Val) (s:Sto)
 |stuck
noncomputable def Out.bind{α β:Type}(o:Out α)(f:α→Sto→Out β):Out β:=
 match o with
 |.ok a s=>f a s
 |.exc c as s=>.exc c as s
 |.stuck=>.stuck
@[simp] theorem zM{α β:Type}(a:α)(s:Sto)(f:α→Sto→Out β):(Out.ok a s).bind f=f a s:=rfl
@[simp] theorem xn{α β:Type}(f:α→Sto→Out β):(Out.stuck:Out α).bind f=.stuck:=rfl
@[simp] theorem uo{α β:Type}(c:Str)(as:List Val)(s:Sto)(f:α→Sto→Out β):(Out.exc c as s:Out α).bind f=.exc c as s:=rfl
mutual
noncomputable def Val.isD:Val→Bool
 |.none|.bool _|.int _=>true
 |.str x=>PyData.strOk x
 |.tup vs=>vz vs
 |.lst vs=>vz vs
 |.dct0|.ctup _|.scr _|.ref _|.fn _|.ty _|.dref _=>false
noncomputable def vz:List Val→Bool
 |[]=>true
 |v::vs=>v.isD&&vz vs
end
mutual
noncomputable def Val.isR:Val→Bool
 |.none|.bool _|.int _|.str _|.dct0=>true
 |.tup vs=>qD vs
 |.lst vs=>qD vs
 |.ctup _|.scr _|.ref _|.fn _|.ty _|.dref _=>false
noncomputable def qD:List Val→Bool
 |[]=>true
 |v::vs=>v.isR&&qD vs
end
mutual
noncomputable def Val.d:Val→PyData
 |.none=>.none
 |.bool b=>.bool b
 |.int i=>.int i
 |.str x=>.str x
 |.tup vs=>.tuple (ds vs)
 |.lst vs=>.list (ds vs)
 |.dct0=>.dict []
 |.ctup _|.scr _|.ref _|.fn _|.ty _|.dref _=>.none
noncomputable def ds:List Val→List PyData
 |[]=>[]
 |v::vs=>v.d::ds vs
end
mutual
noncomputable def Val.noRef:Val→Bool
 |.ref _|.dref _=>false
 |.tup vs=>ze vs
 |.lst vs=>ze vs
 |.none|.bool _|.int _|.str _|.dct0|.ctup _|.scr _|.fn _|.ty _=>true
noncomputable def ze:List Val→Bool
 |[]=>true
 |v::vs=>v.noRef&&ze vs
end
noncomputable def Cel.noRef:Cel→Bool
 |.lst vs=>ze vs
 |.dS kvs=>ze (kvs.map (·.2))
 |.dT kvs=>ze (kvs.map (·.2))
mutual
noncomputable def Val.beq:Val→Val→Bool
 |.none,.none=>true
 |.bool a,.bool b=>a == b
 |.int a,.int b=>a == b
 |.str a,.str b=>a == b
 |.tup a,.tup b=>vt a b
 |.lst a,.lst b=>vt a b
 |.dct0,.dct0=>true
 |.ctup a,.ctup b=>a == b
 |.scr a,.scr b=>a == b
 |.ref a,.ref b=>a == b
 |.fn a,.fn b=>a == b
 |.ty a,.ty b=>a == b
 |.dref a,.dref b=>a == b
 |_,_=>false
noncomputable def vt:List Val→List Val→Bool
 |[],[]=>true
 |a::as,b::bs=>a.beq b&&vt as bs
 |_,_=>false
end
noncomputable def Cel.beq:Cel→Cel→Bool
 |.lst a,.lst b=>vt a b
 |.dS a,.dS b=>decide (a.map (·.1)=b.map (·.1))&&vt (a.map (·.2)) (b.map (·.2))
 |.dT a,.dT b=>decide (a.map (·.1)=b.map (·.1))&&vt (a.map (·.2)) (b.map (·.2))
 |_,_=>false
noncomputable def xD:Sto→Sto→Bool
 |[],_=>true
 |o::r,o'::r'=>(o'.noRef||o'.beq o)&&xD r r'
 |_::_,[]=>false
mutual
noncomputable def xS(n0:Nat)(s:Sto):Nat→Val→Option Val
 |_,.dref i=>if i<n0 then some (.dref i) else Option.none
 |_,.ref i=>if i<n0 then some (.ref i) else match s[i]? with
  |some (.lst vs)=>if ze vs then some (.lst vs) else Option.none
  |_=>Option.none
 |k+1,.tup vs=>(vT n0 s k vs).map .tup
 |_,v=>if v.noRef then some v else Option.none
noncomputable def vT(n0:Nat)(s:Sto):Nat→List Val→Option (List Val)
 |_,[]=>some []
 |0,_::_=>Option.none
 |k+1,v::vs=>match (if v.noRef then some v else xS n0 s k v),vT n0 s k vs with
  |some v',some vs'=>some (v'::vs')
  |_,_=>Option.none
end
noncomputable def freeze(n0:Nat)(s:Sto)(v:Val):Option Val:=if v.noRef then some v else xS n0 s 20 v
inductive Bop|add|sub|mul|fdiv|mod|pow|shl|shr|band
 deriving DecidableEq
inductive Cop|eq|ne|lt|le|gt|ge|is|isNot|in_|notIn|inD|notInD
 deriving DecidableEq
inductive Bf|len|all|any|tuple|list|sorted|repr|max|min|sum|int|isi|divmod|str|sortedI
 deriving DecidableEq
inductive Mf|count|append|extend|pop|index|join
 deriving DecidableEq
inductive Tgt
 |nm (i:Nat)
 |nms (is:List Nat)
mutual
inductive Ex
 |lit (v:Val)|var (i:Nat)|gl (x:Str)|ty (x:Str) (n:String)
 |bin (m:Bool) (op:Bop) (a b:Ex)|neg (a:Ex)|not (a:Ex)
 |cmp (op:Cop) (a b:Ex)|chain (op op':Cop) (a b c:Ex)
 |andE (a:Ex) (es:Exs)|orE (a:Ex) (es:Exs)|ife (c:Cn) (a b:Ex)
 |tup (es:Exs)|lst (m:Bool) (es:Exs)|dct0
 |call (f:Str) (ver:Nat) (es:Exs)|blt (f:Bf) (m:Bool) (es:Exs)|maxD (a d:Ex)
 |zy (f:Mf) (m:Bool) (o:Ex) (es:Exs)
 |ix (a b:Ex)|sl (m:Bool) (a:Ex) (lo hi st:OEx)
 |comp (m:Bool) (N:List Str) (fr:List (Option Nat)) (elt:Ex) (t:Tgt) (it:Itb) (ifs:Cns)
 |comp2 (m:Bool) (N:List Str) (fr:List (Option Nat)) (elt:Ex) (t:Tgt) (it:Itb) (ifs:Cns) (t2:Tgt) (it2:Itb) (ifs2:Cns)
 |listRange (m:Bool) (a b c:Ex)
 |dctN (t:Bool)|ixD (a b:Ex)
inductive Exs
 |nil|cons (e:Ex) (es:Exs)
inductive OEx
 |no|yes (e:Ex)
inductive Cn
 |val (e:Ex)|not (c:Cn)|and (c:Cn) (cs:Cns)|or (c:Cn) (cs:Cns)
inductive Cns
 |nil|cons (c:Cn) (cs:Cns)
inductive Itb
 |val (e:Ex)|range1 (a:Ex)|range2 (a b:Ex)|enum (e:Ex)|zip (a b:Ex)
end
mutual
inductive Sm
 |expr (e:Ex)|ret (e:Ex)|retN|asg (i:Nat) (e:Ex)|asgT (is:List Nat) (e:Ex)|par (is:List Nat) (es:Exs)
 |aug (i:Nat) (op:Bop) (e:Ex)|setIx (o i e:Ex)
 |ifS (c:Cn) (a b:Sms)|forS (t:Tgt) (it:Itb) (b:Sms)|whileS (c:Cn) (b:Sms)
 |pass|brk|cont|raise (e:Ex)|setD (o i e:Ex)
inductive Sms
 |nil|cons (s:Sm) (ss:Sms)
end
structure Fn where
 N:List Str
 ps:List Str
 keep:Bool
 body:Sms
noncomputable abbrev Calls:=Str→Nat→List Val→Sto→Out Val
noncomputable def zR:Nat:=16777216
noncomputable def newList(m:Bool)(vs:List Val)(s:Sto):Out Val:=if m then .ok (.ref s.length) (s++[.lst vs]) else .ok (.lst vs) s
noncomputable def xN(s:Sto):Val→Option (List Val)
 |.tup vs=>some vs
 |.lst vs=>some vs
 |.ctup ns=>some (ns.map .int)
 |.scr ns=>some (ns.map .int)
 |.ref i=>match s[i]? with
  |some (.lst vs)=>some vs
  |_=>Option.none
 |_=>Option.none
noncomputable def yP(s:Sto):Val→Option (List Val)
 |.lst vs=>some vs
 |.ref i=>match s[i]? with
  |some (.lst vs)=>some vs
  |_=>Option.none
 |_=>Option.none
noncomputable def truth(s:Sto):Val→Option Bool
 |.none=>some false
 |.bool b=>some b
 |.int i=>some (i != 0)
 |.str x=>if x.length≤zR then some ((x.length:Int) != 0) else Option.none
 |.tup vs=>some !vs.isEmpty
 |.lst vs=>some !vs.isEmpty
 |.dct0=>some false
 |.ref i=>match s[i]? with
  |some (.lst vs)=>some !vs.isEmpty
  |_=>Option.none
 |_=>Option.none
noncomputable def Out.truth(o:Out Val):Out Bool:=o.bind fun v s=>match M.truth s v with
 |some b=>.ok b s
 |Option.none=>.stuck
noncomputable def yz(s:Sto):Val→Val
 |.ref i=>match s[i]? with
  |some (.lst vs)=>.lst vs
  |_=>.ref i
 |v=>v
noncomputable def zp(s:Sto):Val→Val
 |.tup vs=>.tup (vs.map (yz s))
 |v=>yz s v
noncomputable def b6(d:PyData):Bool:=d.showable&&d.leavesShort 40&&decide (d.depth≤50)&&decide (d.weight≤300000)&&(!d.hasDict||!L2.xE d)
noncomputable def flat:Val→Bool
 |.none|.bool _|.int _|.str _=>true
 |_=>false
noncomputable def eqF:Val→Val→Bool
 |.none,.none=>true
 |.bool a,.bool b=>a == b
 |.bool a,.int b=>(if a then 1 else 0) == b
 |.int a,.bool b=>a == (if b then 1 else 0)
 |.int a,.int b=>a == b
 |.str a,.str b=>a == b
 |_,_=>false
noncomputable def sG(a b:Val):Option Bool:=if a.isD&&b.isD&&decide (b.d.depth≤60) then some (PyData.eqv a.d b.d) else Option.none
noncomputable def intsOf:List Val→Option (List Int)
 |[]=>some []
 |.int i::vs=>(intsOf vs).map (i::·)
 |_=>Option.none
noncomputable def Val.isN:Val→Bool
 |.none=>true
 |_=>false
noncomputable def inD(x:Val)(vs:List Val):Bool:=x.isD&&vz vs&&decide (x.d.depth≤60)
noncomputable def p6{κ:Type} [DecidableEq κ]:List (κ × Val)→κ→Option Val
 |[],_=>Option.none
 |p::r,k=>if p.1=k then some p.2 else p6 r k
noncomputable def kE{κ:Type} [DecidableEq κ] (kvs:List (κ × Val))(k:κ)(v:Val):List (κ × Val):=
 if (p6 kvs k).isSome then kvs.map (fun p=>if p.1=k then (p.1,v) else p) else kvs++[(k,v)]
noncomputable def nX(s:Sto):Val→Option (Nat × Cel)
 |.dref i=>(s[i]?).map fun c=>(i,c)
 |_=>Option.none
noncomputable def cH:Cel→Val→Option (Option Val)
 |.dS kvs,.str k=>some (p6 kvs k)
 |.dT kvs,.tup vs=>(intsOf vs).map fun k=>p6 kvs k
 |_,_=>Option.none
noncomputable def l7:Cel→Val→Val→Option Cel
 |.dS kvs,.str k,v=>if kvs.length<zR then some (.dS (kE kvs k v)) else Option.none
 |.dT kvs,.tup vs,v=>(intsOf vs).bind fun k=>if kvs.length<zR then some (.dT (kE kvs k v)) else Option.none
 |_,_,_=>Option.none
noncomputable def getD(d y:Val)(s:Sto):Option (Option Val):=(nX s d).bind fun c=>cH c.2 y
noncomputable def ixD(d y:Val)(s:Sto):Out Val:=match getD d y s with
 |some (some v)=>.ok v s
 |_=>.stuck
noncomputable def putD(d y v:Val)(s:Sto):Option Sto:=(nX s d).bind fun c=>(l7 c.2 y v).map fun c'=>s.set c.1 c'
noncomputable def strsOf:List Val→Option (List Str)
 |[]=>some []
 |.str x::vs=>(strsOf vs).map (x::·)
 |_=>Option.none
noncomputable def zS(op:Cop)(x y:Val)(s:Sto):Out Val:=
 match op with
 |.eq=>match x,y with
  |.str a,.str b=>.ok (.bool (decide (a=b))) s
  |.tup a,.ctup ns=>match sG (zp s (.tup a)) (.tup (ns.map .int)) with|some b=>.ok (.bool b) s|Option.none=>.stuck
  |_,_=>match sG (zp s x) (zp s y) with|some b=>.ok (.bool b) s|Option.none=>.stuck
 |.ne=>match x,y with
  |.str a,.str b=>.ok (.bool !(decide (a=b))) s
  |_,_=>match sG (zp s x) (zp s y) with|some b=>.ok (.bool !b) s|Option.none=>.stuck
 |.is=>match y with|.none=>.ok (.bool x.isN) s|.bool b=>(match x with|.bool a=>.ok (.bool (decide (a=b))) s|_=>.stuck)|_=>.stuck
 |.isNot=>match y with|.none=>.ok (.bool !x.isN) s|.bool b=>(match x with|.bool a=>.ok (.bool !(decide (a=b))) s|_=>.stuck)|_=>.stuck
 |.in_=>match xN s y with
  |some vs=>if flat x&&vs.all flat then .ok (.bool (vs.any fun z=>eqF z x)) s else if inD x vs then .ok (.bool (vs.any fun z=>PyData.eqv z.d x.d)) s else .stuck
  |Option.none=>.stuck
 |.notIn=>match xN s y with
  |some vs=>if flat x&&vs.all flat then .ok (.bool !(vs.any fun z=>eqF z x)) s else if inD x vs then .ok (.bool !(vs.any fun z=>PyData.eqv z.d x.d)) s else .stuck
  |Option.none=>.stuck
 |.inD=>match getD y x s with|some o=>.ok (.bool o.isSome) s|Option.none=>.stuck
 |.notInD=>match getD y x s with|some o=>.ok (.bool !o.isSome) s|Option.none=>.stuck
 |.lt=>match x,y with|.int i,.int j=>.ok (.bool (decide (i<j))) s|_,_=>.stuck
 |.le=>match x,y with|.int i,.int j=>.ok (.bool (decide (i≤j))) s|_,_=>.stuck
 |.gt=>match x,y with|.int i,.int j=>.ok (.bool (decide (j<i))) s|_,_=>.stuck
 |.ge=>match x,y with|.int i,.int j=>.ok (.bool (decide (j≤i))) s|_,_=>.stuck
noncomputable def binOp(m:Bool)(op:Bop)(x y:Val)(s:Sto):Out Val:=
 match op with
 |.add=>match x,y with
  |.int i,.int j=>.ok (.int (i+j)) s
  |.str a,.str b=>if a.length+b.length≤zR then .ok (.str (a++b)) s else .stuck
  |.tup a,.tup b=>if a.length+b.length≤zR then .ok (.tup (a++b)) s else .stuck
  |_,_=>match yP s x,yP s y with
   |some a,some b=>if a.length+b.length≤zR then newList m (a++b) s else .stuck
   |_,_=>.stuck
 |.sub=>match x,y with|.int i,.int j=>.ok (.int (i-j)) s|_,_=>.stuck
 |.mul=>match x,y with
  |.int i,.int j=>if (-(2 ^ 64)<i∧i<2 ^ 64)∨(-(2 ^ 64)<j∧j<2 ^ 64) then .ok (.int (i*j)) s else .stuck
  |.tup a,.int k=>if -1000≤k∧k≤1000∧a≠[]∧a.length≤1000 then .ok (.tup (List.replicate k.toNat a).flatten) s else .stuck
  |_,.int k=>match yP s x with
   |some a=>if -1000≤k∧k≤1000∧a.length*k.toNat≤zR then newList m (List.replicate k.toNat a).flatten s else .stuck
   |Option.none=>.stuck
  |_,_=>.stuck
 |.fdiv=>match x,y with|.int i,.int j=>if 0<j∧j<1073741824 then .ok (.int (i/j)) s else .stuck|_,_=>.stuck
 |.mod=>match x,y with|.int i,.int j=>if 0<j then .ok (.int (i%j)) s else .stuck|_,_=>.stuck
 |.pow=>match x,y with|.int i,.int j=>if 0≤j∧j≤1000000∧i.natAbs<2 ^ 64 then .ok (.int (i ^ j.toNat)) s else .stuck|_,_=>.stuck
 |.shl=>match x,y with|.int i,.int j=>if 0≤j∧j≤1000000∧i.natAbs<2 ^ 64 then .ok (.int (i*2 ^ j.toNat)) s else .stuck|_,_=>.stuck
 |.shr=>match x,y with|.int i,.int j=>if 0≤j then .ok (.int (i/2 ^ j.toNat)) s else .stuck|_,_=>.stuck
 |.band=>match x,y with|.int i,.int j=>.ok (.int (Builtin.bitAnd i j)) s|_,_=>.stuck
noncomputable def kindOf:Val→Option L2.Kd
 |.none=>some .non
 |.bool _=>some .bl
 |.int _=>some .int
 |.str _=>some .str
 |.tup _=>some .tup
 |.lst _=>some .lst
 |.dct0=>some .dct
 |.ref _=>some .lst
 |_=>Option.none
noncomputable def v3:String→Option L2.Kd
 |"bool"=>some .bl
 |"int"=>some .int
 |"str"=>some .str
 |"list"=>some .lst
 |"tuple"=>some .tup
 |"dict"=>some .dct
 |_=>Option.none
noncomputable def boolsOf:List Val→Option (List Bool)
 |[]=>some []
 |.bool b::vs=>(boolsOf vs).map (b::·)
 |_=>Option.none
noncomputable def pairsOf:List Val→Option (List (Int × Int))
 |[]=>some []
 |.tup [.int a,.int b]::vs=>(pairsOf vs).map ((a,b)::·)
 |_=>Option.none
noncomputable def prV(z:Int × Int):Val:=.tup [.int z.1,.int z.2]
noncomputable def Zi(z:Int × Int):List (Int × Int)→List (Int × Int)
 |[]=>[z]
 |y::ys=>if L2.dB z≤L2.dB y then z::y::ys else y::Zi z ys
noncomputable def dY:List (Int × Int)→List (Int × Int)
 |[]=>[]
 |z::zs=>Zi z (dY zs)
noncomputable def hG:List Val→Option (List (List Int))
 |[]=>some []
 |.tup a::vs=>match intsOf a,hG vs with
  |some z,some zs=>some (z::zs)
  |_,_=>Option.none
 |_=>Option.none
noncomputable def tpV(z:List Int):Val:=.tup (z.map .int)
noncomputable def iq(m:Bool)(vs:List Val)(s:Sto):Out Val:=match hG vs with
 |some zs=>if zs.Nodup∧(zs.length<2∨∀z∈zs,z≠[]) then newList m ((L2.dZ zs).map tpV) s else .stuck
 |Option.none=>.stuck
noncomputable def insI(z:Int):List Int→List Int
 |[]=>[z]
 |y::ys=>if z≤y then z::y::ys else y::insI z ys
noncomputable def sortI:List Int→List Int
 |[]=>[]
 |z::zs=>insI z (sortI zs)
noncomputable def blt(f:Bf)(m:Bool)(xs:List Val)(s:Sto):Out Val:=
 match f with
 |.len=>match xs with
  |[.str x]=>if x.length≤zR then .ok (.int x.length) s else .stuck
  |[x]=>match xN s x with|some vs=>.ok (.int vs.length) s|Option.none=>.stuck
  |_=>.stuck
 |.all=>match xs with
  |[x]=>match yP s x with|some vs=>(match boolsOf vs with|some bs=>.ok (.bool (bs.all id)) s|Option.none=>.stuck)|Option.none=>.stuck
  |_=>.stuck
 |.any=>match xs with
  |[x]=>match yP s x with|some vs=>(match boolsOf vs with|some bs=>.ok (.bool (bs.any id)) s|Option.none=>.stuck)|Option.none=>.stuck
  |_=>.stuck
 |.tuple=>match xs with
  |[.tup vs]=>.ok (.tup vs) s
  |[x]=>match yP s x with|some vs=>.ok (.tup vs) s|Option.none=>.stuck
  |_=>.stuck
 |.list=>match xs with
  |[x]=>match xN s x with|some vs=>newList m vs s|Option.none=>.stuck
  |_=>.stuck
 |.repr=>match xs with
  |[x]=>if (zp s x).isR&&b6 (zp s x).d then .ok (.str (zp s x).d.shown) s else .stuck
  |_=>.stuck
 |.max=>match xs with
  |[.int i,.int j]=>.ok (.int (if j > i then j else i)) s
  |[x]=>match yP s x with|some vs=>(match M.intsOf vs with|some ns=>if ns≠[] then .ok (.int (L2.uP 0 ns)) s else .stuck|Option.none=>.stuck)|Option.none=>.stuck
  |_=>.stuck
 |.min=>match xs with
  |[.int i,.int j]=>.ok (.int (if j<i then j else i)) s
  |[x]=>match yP s x with|some vs=>(match M.intsOf vs with|some ns=>if ns≠[] then .ok (.int (L2.tJ 0 ns)) s else .stuck|Option.none=>.stuck)|Option.none=>.stuck
  |_=>.stuck
 |.int=>match xs with
  |[.int i]=>.ok (.int i) s
  |[.bool b]=>.ok (.int (if b then 1 else 0)) s
  |_=>.stuck
 |.isi=>match xs with
  |[x,.ty n]=>match kindOf x,v3 n with|some a,some c=>.ok (.bool (a.sub c)) s|_,_=>.stuck
  |_=>.stuck
 |.divmod=>match xs with
  |[.int i,.int j]=>if 0<j∧j<1073741824 then .ok (.tup [.int (i/j),.int (i%j)]) s else .stuck
  |_=>.stuck
 |.str=>match xs with
  |[.int i]=>if i.natAbs.log2<1920 then .ok (.str (toString i)) s else .stuck
  |_=>.stuck
 |.sum=>match xs with
  |[x]=>match yP s x with|some vs=>(match M.intsOf vs with|some ns=>if L2.Yo ns then .ok (.int ns.sum) s else .stuck|Option.none=>.stuck)|Option.none=>.stuck
  |_=>.stuck
 |.sorted=>match xs with
  |[x]=>match yP s x with
   |some vs=>(match pairsOf vs with
    |some zs=>if zs.Nodup∧∀z∈zs,0≤z.2∧z.2<1000 then newList m ((dY zs).map prV) s else iq m vs s
    |Option.none=>iq m vs s)
   |Option.none=>.stuck
  |_=>.stuck
 |.sortedI=>match xs with
  |[x]=>match xN s x with|some vs=>(match M.intsOf vs with|some ns=>if ns.length<64 then newList m ((sortI ns).map .int) s else .stuck|Option.none=>.stuck)|Option.none=>.stuck
  |_=>.stuck
noncomputable def upd(s:Sto)(i:Nat)(vs:List Val):Sto:=s.set i (.lst vs)
noncomputable def zy(f:Mf)(o:Val)(xs:List Val)(s:Sto):Out Val:=
 match f with
 |.count=>match o,xs with
  |.tup vs,[y]=>if flat y&&vs.all flat then .ok (.int (vs.countP fun z=>eqF z y:Nat)) s else .stuck
  |_,[y]=>match yP s o with|some vs=>if flat y&&vs.all flat then .ok (.int (vs.countP fun z=>eqF z y:Nat)) s else .stuck|Option.none=>.stuck
  |_,_=>.stuck
 |.append=>match o,xs with
  |.ref i,[y]=>match s[i]? with|some (.lst vs)=>if vs.length<zR then .ok .none (upd s i (vs++[y])) else .stuck|_=>.stuck
  |_,_=>.stuck
 |.extend=>match o,xs with
  |.ref i,[y]=>match s[i]?,yP s y with|some (.lst vs),some ws=>if vs.length+ws.length≤zR then .ok .none (upd s i (vs++ws)) else .stuck|_,_=>.stuck
  |_,_=>.stuck
 |.pop=>match o,xs with
  |.ref i,[.int k]=>(match s[i]? with
   |some (.lst vs)=>if -(2 ^ 63)≤k∧k<2 ^ 63 then (match seqIndex? k vs.length with
    |some j=>(match vs[j]? with|some y=>.ok y (upd s i (vs.eraseIdx j))|Option.none=>.stuck)
    |Option.none=>.stuck) else .stuck
   |_=>.stuck)
  |_,_=>.stuck
 |.index=>match o,xs with
  |.tup vs,[y]=>if flat y&&vs.all flat then (match vs.findIdx? fun z=>eqF z y with|some j=>.ok (.int (j:Nat)) s|Option.none=>.stuck) else .stuck
  |_,_=>.stuck
 |.join=>match o,xs with
  |.str z,[y]=>(match yP s y with
   |some vs=>(match strsOf vs with|some ys=>if (ys.map (·.length)).sum+ys.length*z.length≤16777216 then .ok (.str (L2.Zx z ys)) s else .stuck|Option.none=>.stuck)
   |Option.none=>.stuck)
  |_,_=>.stuck
noncomputable def y1(a b:Val)(s:Sto):Out Val:=
 match b with
 |.int i=>match xN s a with|some vs=>(match L2.atI vs i with|some v=>.ok v s|Option.none=>.stuck)|Option.none=>.stuck
 |_=>.stuck
noncomputable def rn{α:Type}(xs:List α)(lo hi:Option Int):List α:=(xs.drop (HT.sIx xs.length 0 lo)).take (HT.sIx xs.length xs.length hi-HT.sIx xs.length 0 lo)
noncomputable def xF(m:Bool)(a:Val)(lo hi st:Option Int)(s:Sto):Out Val:=
 match a,st with
 |.tup vs,Option.none=>.ok (.tup (rn vs lo hi)) s
 |.tup vs,some c=>if c≠0∧(L2.zu vs.length lo hi c).2≤zR then .ok (.tup (L2.zW vs (L2.zu vs.length lo hi c).1 c (L2.zu vs.length lo hi c).2)) s else .stuck
 |_,Option.none=>match yP s a with|some vs=>newList m (rn vs lo hi) s|Option.none=>.stuck
 |_,some c=>match yP s a with|some vs=>if c≠0 then newList m (L2.zW vs (L2.wI vs.length lo hi c).1 c (L2.wI vs.length lo hi c).2) s else .stuck|Option.none=>.stuck
noncomputable def v8(m:Bool)(x y z:Val)(s:Sto):Out Val:=match x,y,z with
 |.int i,.int j,.int k=>if -(2 ^ 30)≤i∧i≤2 ^ 30∧-(2 ^ 30)≤j∧j≤2 ^ 30∧0<k∧k≤2 ^ 29∧Builtin.Range.rangeSize i j k≤1000 then newList m ((L2.zb i j k).map .int) s else .stuck
 |.int i,.int j,.bool _=>if -(2 ^ 30)≤i∧i≤2 ^ 30∧-(2 ^ 30)≤j∧j≤2 ^ 30∧Builtin.Range.rangeSize i j 1≤1000 then newList m ((L2.zb i j 1).map .int) s else .stuck
 |.int i,.int j,.none=>if -(2 ^ 30)≤i∧i≤2 ^ 30∧-(2 ^ 30)≤j∧j≤2 ^ 30∧Builtin.Range.rangeSize i j 1≤1000 then .ok (.tup ((L2.zb i j 1).map .int)) s else .stuck
 |_,_,_=>.stuck
noncomputable def yO(t:Tgt)(v:Val)(env:Env):Option Env:=
 match t with
 |.nm i=>some (env.set i (some v))
 |.nms is=>match v with
  |.tup vs=>if vs.length=is.length then some ((is.zip vs).foldl (fun e p=>e.set p.1 (some p.2)) env) else Option.none
  |_=>Option.none
structure Src where
 xs:List Val
 at_:Option Nat
noncomputable def Src.ok(r:Src)(s:Sto):Bool:=match r.at_ with
 |Option.none=>true
 |some i=>match s[i]? with
  |some (.lst vs)=>vt vs r.xs
  |_=>false
noncomputable def Y6:List Val→List Val→List Val
 |v::vs,w::ws=>.tup [v,w]::Y6 vs ws
 |_,_=>[]
noncomputable def yF(n:Nat):List Val→List Val
 |[]=>[]
 |v::vs=>.tup [.int n,v]::yF (n+1) vs
noncomputable def srcOf(s:Sto):Val→Option Src
 |.tup vs=>some ⟨vs,Option.none⟩
 |.lst vs=>some ⟨vs,Option.none⟩
 |.ctup ns=>some ⟨ns.map .int,Option.none⟩
 |.ref i=>match s[i]? with
  |some (.lst vs)=>some ⟨vs,some i⟩
  |_=>Option.none
 |_=>Option.none
noncomputable def z5(lo:Int)(n:Nat):List Val:=(List.range n).map fun(k:Nat)=>Val.int (lo+k)
noncomputable def yG(r:Src)(t:Tgt)(body:Env→Sto→List Val→Out (List Val × Env)):List Val→Env→Sto→List Val→Out (List Val × Env)
 |[],env,s,acc=>if r.ok s then .ok (acc,env) s else .stuck
 |x::xs,env,s,acc=>if r.ok s then match yO t x env with
    |Option.none=>.stuck
    |some env'=>(body env' s acc).bind fun p s'=>yG r t body xs p.2 s' p.1
  else .stuck
noncomputable def zE(fr:List (Option Nat))(env:Env):Env:=fr.map fun o=>match o with|some j=>(env[j]?).join|Option.none=>Option.none
inductive Fl
 |nx (env:Env)|bk (env:Env)|ct (env:Env)|rt (v:Val)
noncomputable def wB(r:Src)(t:Tgt)(body:Env→Sto→Out Fl):List Val→Env→Sto→Out Fl
 |[],env,s=>if r.ok s then .ok (.nx env) s else .stuck
 |x::xs,env,s=>if r.ok s then match yO t x env with
    |Option.none=>.stuck
    |some env'=>(body env' s).bind fun fl s'=>match fl with
     |.nx e=>wB r t body xs e s'
     |.ct e=>wB r t body xs e s'
     |.bk e=>.ok (.nx e) s'
     |.rt v=>.ok (.rt v) s'
  else .stuck
noncomputable def wM(c:Env→Sto→Out Bool)(body:Env→Sto→Out Fl):Nat→Env→Sto→Out Fl
 |0,_,_=>.stuck
 |n+1,env,s=>(c env s).bind fun b s1=>if b then (body env s1).bind fun fl s2=>match fl with
    |.nx e=>wM c body n e s2
    |.ct e=>wM c body n e s2
    |.bk e=>.ok (.nx e) s2
    |.rt v=>.ok (.rt v) s2
  else .ok (.nx env) s1
noncomputable def qV:Nat:=100000
section
variable (Φ:Calls)(G:Str→Option Val)
mutual
noncomputable def evE(env:Env):Ex→Sto→Out Val
 |.lit v,s=>.ok v s
 |.var i,s=>match env[i]? with|some (some v)=>.ok v s|_=>.stuck
 |.gl x,s=>match G x with|some v=>.ok v s|Option.none=>.stuck
 |.ty _ n,s=>.ok (.ty n) s
 |.bin m op a b,s=>(evE env a s).bind fun x s1=>(evE env b s1).bind fun y s2=>binOp m op x y s2
 |.neg a,s=>(evE env a s).bind fun x s1=>match x with|.int i=>.ok (.int (-i)) s1|_=>.stuck
 |.not a,s=>(evE env a s).bind fun x s1=>match x with|.bool b=>.ok (.bool !b) s1|_=>.stuck
 |.cmp op a b,s=>(evE env a s).bind fun x s1=>(evE env b s1).bind fun y s2=>zS op x y s2
 |.chain op op' a b c,s=>(evE env a s).bind fun x s1=>(evE env b s1).bind fun y s2=>(zS op x y s2).bind fun r s3=>match r with
  |.bool true=>(evE env c s3).bind fun z s4=>zS op' y z s4
  |.bool false=>.ok (.bool false) s3
  |_=>.stuck
 |.andE a es,s=>match es with
  |.nil=>evE env a s
  |.cons _ _=>(evE env a s).bind fun x s1=>match x with
   |.bool true=>uN env es s1
   |.bool false=>.ok (.bool false) s1
   |_=>.stuck
 |.orE a es,s=>match es with
  |.nil=>evE env a s
  |.cons _ _=>(evE env a s).bind fun x s1=>match truth s1 x with
   |some false=>qh env es s1
   |some true=>.ok x s1
   |Option.none=>.stuck
 |.ife c a b,s=>(evT env c s).bind fun t s1=>if t then evE env a s1 else evE env b s1
 |.tup es,s=>(yd env es s).bind fun vs s1=>if vs.length≤zR then .ok (.tup vs) s1 else .stuck
 |.lst m es,s=>(yd env es s).bind fun vs s1=>if vs.length≤zR then newList m vs s1 else .stuck
 |.dct0,s=>.ok .dct0 s
 |.call f ver es,s=>(yd env es s).bind fun vs s1=>Φ f ver vs s1
 |.blt f m es,s=>(yd env es s).bind fun vs s1=>blt f m vs s1
 |.maxD a d,s=>(evE env a s).bind fun x s1=>(evE env d s1).bind fun y s2=>match y with
  |.int k=>(match yP s2 x with|some vs=>(match intsOf vs with|some ns=>.ok (.int (L2.uP k ns)) s2|Option.none=>.stuck)|Option.none=>.stuck)
  |_=>.stuck
 |.zy f _ o es,s=>(evE env o s).bind fun x s1=>(yd env es s1).bind fun vs s2=>zy f x vs s2
 |.ix a b,s=>(evE env a s).bind fun x s1=>(evE env b s1).bind fun y s2=>y1 x y s2
 |.sl m a lo hi st,s=>(evE env a s).bind fun x s1=>(evO env lo s1).bind fun l s2=>(evO env hi s2).bind fun h s3=>(evO env st s3).bind fun c s4=>xF m x l h c s4
 |.comp m _ fr elt t it ifs,s=>(yL env it s).bind fun r s1=>
  (yG r t (fun e s' acc=>(yo e ifs s').bind fun b s2=>if b then (evE e elt s2).bind fun v s3=>.ok (acc++[v],e) s3 else .ok (acc,e) s2) r.xs (zE fr env) s1 []).bind fun p s2=>newList m p.1 s2
 |.comp2 m _ fr elt t it ifs t2 it2 ifs2,s=>(yL env it s).bind fun r s1=>
  (yG r t (fun e s' acc=>(yo e ifs s').bind fun b s2=>if b then (yL e it2 s2).bind fun r2 s3=>
      yG r2 t2 (fun e' s4 acc'=>(yo e' ifs2 s4).bind fun b' s5=>if b' then (evE e' elt s5).bind fun v s6=>.ok (acc'++[v],e') s6 else .ok (acc',e') s5) r2.xs e s3 acc
   else .ok (acc,e) s2) r.xs (zE fr env) s1 []).bind fun p s2=>if p.1.length≤zR then newList m p.1 s2 else .stuck
 |.dctN t,s=>.ok (.dref s.length) (s++[if t then .dT [] else .dS []])
 |.ixD a b,s=>(evE env a s).bind fun x s1=>(evE env b s1).bind fun y s2=>ixD x y s2
 |.listRange m a b c,s=>(evE env a s).bind fun x s1=>(evE env b s1).bind fun y s2=>(evE env c s2).bind fun z s3=>v8 m x y z s3
noncomputable def uN(env:Env):Exs→Sto→Out Val
 |.nil,_=>.stuck
 |.cons a es,s=>match es with
  |.nil=>evE env a s
  |.cons _ _=>(evE env a s).bind fun x s1=>match x with
   |.bool true=>uN env es s1
   |.bool false=>.ok (.bool false) s1
   |_=>.stuck
noncomputable def qh(env:Env):Exs→Sto→Out Val
 |.nil,_=>.stuck
 |.cons a es,s=>match es with
  |.nil=>evE env a s
  |.cons _ _=>(evE env a s).bind fun x s1=>match truth s1 x with
   |some false=>qh env es s1
   |some true=>.ok x s1
   |Option.none=>.stuck
noncomputable def yd(env:Env):Exs→Sto→Out (List Val)
 |.nil,s=>.ok [] s
 |.cons e es,s=>(evE env e s).bind fun v s1=>(yd env es s1).bind fun vs s2=>.ok (v::vs) s2
noncomputable def evO(env:Env):OEx→Sto→Out (Option Int)
 |.no,s=>.ok Option.none s
 |.yes e,s=>(evE env e s).bind fun v s1=>match v with|.int i=>.ok (some i) s1|_=>.stuck
/-- a test -/
noncomputable def evT(env:Env):Cn→Sto→Out Bool
 |.val e,s=>(evE env e s).truth
 |.not a,s=>(evT env a s).bind fun b s1=>.ok (!b) s1
 |.and a es,s=>(evT env a s).bind fun b s1=>if b then yo env es s1 else .ok false s1
 |.or a es,s=>(evT env a s).bind fun b s1=>if b then .ok true s1 else ux env es s1
noncomputable def yo(env:Env):Cns→Sto→Out Bool
 |.nil,s=>.ok true s
 |.cons a es,s=>(evT env a s).bind fun b s1=>if b then yo env es s1 else .ok false s1
noncomputable def ux(env:Env):Cns→Sto→Out Bool
 |.nil,s=>.ok false s
 |.cons a es,s=>(evT env a s).bind fun b s1=>if b then .ok true s1 else ux env es s1
noncomputable def yL(env:Env):Itb→Sto→Out Src
 |.val e,s=>(evE env e s).bind fun v s1=>match srcOf s1 v with|some r=>.ok r s1|Option.none=>.stuck
 |.range1 a,s=>(evE env a s).bind fun x s1=>match x with
  |.int j=>if -(2 ^ 62)≤j∧j≤zR then .ok ⟨z5 0 j.toNat,Option.none⟩ s1 else .stuck
  |_=>.stuck
 |.range2 a b,s=>(evE env a s).bind fun x s1=>(evE env b s1).bind fun y s2=>match x,y with
  |.int i,.int j=>if -(2 ^ 62)≤i∧i<2 ^ 62∧-(2 ^ 62)≤j∧j<2 ^ 62∧j-i≤zR then .ok ⟨z5 i (j-i).toNat,Option.none⟩ s2 else .stuck
  |_,_=>.stuck
 |.enum e,s=>(evE env e s).bind fun v s1=>match v with
  |.tup vs=>.ok ⟨yF 0 vs,Option.none⟩ s1
  |.lst vs=>.ok ⟨yF 0 vs,Option.none⟩ s1
  |_=>.stuck
 |.zip a b,s=>(evE env a s).bind fun x s1=>(evE env b s1).bind fun y s2=>match x,y with
  |.tup vs,.tup ws=>if vs.length=ws.length then .ok ⟨Y6 vs ws,Option.none⟩ s2 else .stuck
  |_,_=>.stuck
end
mutual
noncomputable def exS(env:Env):Sm→Sto→Out Fl
 |.expr e,s=>(evE Φ G env e s).bind fun _ s1=>.ok (.nx env) s1
 |.ret e,s=>(evE Φ G env e s).bind fun v s1=>.ok (.rt v) s1
 |.retN,s=>.ok (.rt .none) s
 |.asg i e,s=>(evE Φ G env e s).bind fun v s1=>.ok (.nx (env.set i (some v))) s1
 |.asgT is e,s=>(evE Φ G env e s).bind fun v s1=>match yO (.nms is) v env with|some env'=>.ok (.nx env') s1|Option.none=>.stuck
 |.par is es,s=>(yd Φ G env es s).bind fun vs s1=>if vs.length=is.length then .ok (.nx ((is.zip vs).foldl (fun e p=>e.set p.1 (some p.2)) env)) s1 else .stuck
 |.aug i op e,s=>match env[i]? with
  |some (some (.int x))=>(evE Φ G env e s).bind fun v s1=>match v with
   |.int y=>(binOp false op (.int x) (.int y) s1).bind fun z s2=>.ok (.nx (env.set i (some z))) s2
   |_=>.stuck
  |some (some (.tup x))=>if op=.add then (evE Φ G env e s).bind fun v s1=>match v with
   |.tup y=>(binOp false .add (.tup x) (.tup y) s1).bind fun z s2=>.ok (.nx (env.set i (some z))) s2
   |_=>.stuck
   else .stuck
  |_=>.stuck
 |.setIx o i e,s=>(evE Φ G env e s).bind fun v s1=>(evE Φ G env o s1).bind fun x s2=>(evE Φ G env i s2).bind fun y s3=>match x,y with
  |.ref r,.int k=>(match s3[r]? with
   |some (.lst vs)=>(match L2.ixN vs.length k with|some j=>.ok (.nx env) (upd s3 r (vs.set j v))|Option.none=>.stuck)
   |_=>.stuck)
  |_,_=>.stuck
 |.ifS c a b,s=>(evT Φ G env c s).bind fun t s1=>if t then zi env a s1 else zi env b s1
 |.forS t it b,s=>(yL Φ G env it s).bind fun r s1=>wB r t (fun e s'=>zi e b s') r.xs env s1
 |.whileS c b,s=>wM (fun e s'=>evT Φ G e c s') (fun e s'=>zi e b s') qV env s
 |.pass,s=>.ok (.nx env) s
 |.brk,s=>.ok (.bk env) s
 |.cont,s=>.ok (.ct env) s
 |.raise _,_=>.stuck
 |.setD o i e,s=>(evE Φ G env e s).bind fun v s1=>(evE Φ G env o s1).bind fun x s2=>(evE Φ G env i s2).bind fun y s3=>match putD x y v s3 with|some s4=>.ok (.nx env) s4|Option.none=>.stuck
noncomputable def zi(env:Env):Sms→Sto→Out Fl
 |.nil,s=>.ok (.nx env) s
 |.cons c cs,s=>(exS env c s).bind fun fl s1=>match fl with
  |.nx e=>zi e cs s1
  |fl=>.ok fl s1
end
end
noncomputable def zH(N:List Str)(vs:List Val):Env:=vs.map some++List.replicate (N.length-vs.length) Option.none
noncomputable def leave(F:Fn)(s0:Sto)(v:Val)(s:Sto):Out Val:=
 if F.keep then .ok v s
 else if xD s0 s then (match freeze s0.length s v with|some v'=>.ok v' (s.take s0.length)|Option.none=>.stuck) else .stuck
structure Tbl where
 fn:Str→Nat→Option Fn
 gl:Str→Option Val
noncomputable def run(T:Tbl)(Φ:Calls)(F:Fn)(vs:List Val)(s:Sto):Out Val:=
 if vs.length=F.ps.length then (zi Φ T.gl (zH F.N vs) F.body s).bind fun fl s1=>match fl with
  |.nx _=>leave F s .none s1
  |.rt v=>leave F s v s1
  |_=>.stuck
 else .stuck
noncomputable def zD(T:Tbl):Nat→Calls
 |0=>fun _ _ _ _=>.stuck
 |n+1=>fun f ver vs s=>match T.fn f ver with|some F=>run T (zD T n) F vs s|Option.none=>.stuck
end M
end
section
namespace M
open PySem
noncomputable abbrev KF:=PySem.W.Frag
structure Own where
 o:List Addr
 h:List Addr
def Own.no(ρ:Own)(a:Addr):Prop:=a ∉ ρ.o∧a ∉ ρ.h
def KT(K:KF)(a:Addr)(xs:List L2.V):Prop:=∃(o:Obj) (its:Array Value) (n:Nat),K.lookup a=some o∧o.cls=.type "tuple"∧o.data=.seq its n∧its.size≤sizeLine∧L2.Vals xs its.toList
def SC(K:KF)(ρ:Own)(H:L2.Hp)(a:Addr)(xs:List L2.V):Prop:=(ρ.no a∧L2.Rd H a (.lst xs)) ∨
 ∃(o:Obj) (its:Array Value) (n:Nat),K.lookup a=some o∧o.cls=.type "list"∧o.dict=none∧o.data=.seq its n∧its.size≤sizeLine∧L2.Vals xs its.toList
noncomputable def hk:Option L2.HO→Nat
 |some (.lst _)=>1
 |some (.dK _)=>2
 |some (.dT _)=>3
 |_=>0
mutual
inductive RD(K:KF)(mg:Str→Option Value)(ρ:Own)(H:L2.Hp):Val→L2.V→Prop
 |none:RD K mg ρ H .none .non
 |bool (b:Bool):RD K mg ρ H (.bool b) (.bl b)
 |int (i:Int):RD K mg ρ H (.int i) (.int i)
 |str (x:Str):RD K mg ρ H (.str x) (.str x)
 |tup {a:Addr} {vs:List Val} {xs:List L2.V}:ρ.no a→H a=some (.tup xs)→RDs K mg ρ H vs xs→RD K mg ρ H (.tup vs) (.ref a)
 |lst {a:Addr} {vs:List Val} {xs:List L2.V}:ρ.no a→H a=some (.lst xs)→RDs K mg ρ H vs xs→RD K mg ρ H (.lst vs) (.ref a)
 |dct0 {a:Addr}:ρ.no a→H a=some (.dK [])→RD K mg ρ H .dct0 (.ref a)
 |ctup {a:Addr} {ns:List Int}:KT K a (ns.map L2.V.int)→RD K mg ρ H (.ctup ns) (.ref a)
 |scr {a:Addr} {ns:List Int}:SC K ρ H a (ns.map L2.V.int)→RD K mg ρ H (.scr ns) (.ref a)
 |ref {a:Addr} {i:Nat}:ρ.o[i]?=some a→hk (H a)=1→RD K mg ρ H (.ref i) (.ref a)
 |dref {a:Addr} {i:Nat}:ρ.o[i]?=some a→1<hk (H a)→RD K mg ρ H (.dref i) (.ref a)
 |fn {x:Str} {f:Addr}:mg x=some (.ref f)→RD K mg ρ H (.fn x) (.ref f)
 |ty (n:String):RD K mg ρ H (.ty n) (.ty n)
inductive RDs(K:KF)(mg:Str→Option Value)(ρ:Own)(H:L2.Hp):List Val→List L2.V→Prop
 |nil:RDs K mg ρ H [] []
 |cons {v:Val} {x:L2.V} {vs:List Val} {xs:List L2.V}:RD K mg ρ H v x→RDs K mg ρ H vs xs→RDs K mg ρ H (v::vs) (x::xs)
end
noncomputable def CR(K:KF)(mg:Str→Option Value)(ρ:Own)(H:L2.Hp)(a:Addr):Cel→Prop
 |.lst vs=>∃xs,H a=some (.lst xs)∧RDs K mg ρ H vs xs
 |.dS kvs=>∃kxs,H a=some (.dK kxs)∧kxs.map (·.1)=kvs.map (fun p=>Sum.inr p.1)∧RDs K mg ρ H (kvs.map (·.2)) (kxs.map (·.2))
 |.dT kvs=>∃kxs,H a=some (.dT kxs)∧kxs.map (·.1)=kvs.map (fun p=>p.1.map Sum.inl)∧RDs K mg ρ H (kvs.map (·.2)) (kxs.map (·.2))
structure HR(K:KF)(mg:Str→Option Value)(ρ:Own)(s:Sto)(H:L2.Hp):Prop where
 len:ρ.o.length=s.length
 nd:ρ.o.Nodup
 cel:∀(i:Nat) (c:Cel),s[i]?=some c→∃a:Addr,ρ.o[i]?=some a∧CR K mg ρ H a c
 hid:∀a∈ρ.h,(∃xs,H a=some (.lst xs))∧a ∉ ρ.o
structure Ext(ρ:Own)(H:L2.Hp)(ρ':Own)(H':L2.Hp):Prop where
 pre:∃new:List Addr,ρ'.o=ρ.o++new∧∀a∈new,H a=none
 hid:ρ'.h=ρ.h
 keep:∀(a:Addr) (o:L2.HO),H a=some o→a ∉ ρ.o→H' a=some o
 kd:∀a∈ρ.o,hk (H' a)=hk (H a)
structure ER(K:KF)(mg:Str→Option Value)(ρ:Own)(H:L2.Hp)(env:Env)(σ:L2.St):Prop where
 len:env.length=σ.length
 at_:∀(i:Nat) (v:Val),env[i]?=some (some v)→∃x:L2.V,σ[i]?=some (some x)∧RD K mg ρ H v x
section
variable {K:KF}{mg:Str→Option Value}{ρ ρ' ρ'':Own}{H H' H'':L2.Hp}{s s':Sto}
theorem HR.obj(h:HR K mg ρ s H)(i:Nat)(vs:List Val)(e:s[i]?=some (Cel.lst vs)):∃(a:Addr) (xs:List L2.V),ρ.o[i]?=some a∧H a=some (.lst xs)∧RDs K mg ρ H vs xs:=by
 obtain⟨a,e1,xs,e2,r⟩:=h.cel i _ e
 exact⟨a,xs,e1,e2,r⟩
theorem CR.there{a:Addr}{c:Cel}(h:CR K mg ρ H a c):∃o,H a=some o:=by
 cases c with
 |lst vs=>obtain⟨xs,e,_⟩:=h;exact⟨_,e⟩
 |dS kvs=>obtain⟨xs,e,_⟩:=h;exact⟨_,e⟩
 |dT kvs=>obtain⟨xs,e,_⟩:=h;exact⟨_,e⟩
theorem CR.hk{a:Addr}{c:Cel}(h:CR K mg ρ H a c):0<hk (H a):=by
 cases c with
 |lst vs=>obtain⟨xs,e,_⟩:=h;rw[e];exact Nat.lt_succ_self 0
 |dS kvs=>obtain⟨xs,e,_⟩:=h;rw[e];exact Nat.lt_of_sub_eq_succ rfl
 |dT kvs=>obtain⟨xs,e,_⟩:=h;rw[e];exact Nat.lt_of_sub_eq_succ rfl
theorem HR.trk(h:HR K mg ρ s H){a:Addr}(ha:a∈ρ.o):∃o,H a=some o:=by
 obtain⟨i,hi,e⟩:=List.getElem_of_mem ha
 have hs:i<s.length:=by rw[←h.len];exact hi
 obtain⟨b,e1,e2⟩:=h.cel i _ (List.getElem?_eq_getElem hs)
 rw[List.getElem?_eq_getElem hi,e]at e1
 cases e1
 exact e2.there
theorem qC{a:Addr}(h:hk (H a)=1):∃xs,H a=some (.lst xs):=by
 cases e:H a with
 |none=>rw[e]at h;cases h
 |some o=>
  rw[e]at h
  cases o with
  |lst xs=>exact⟨xs,rfl⟩
  |_=>cases h
theorem HR.new(h:HR K mg ρ s H){p:Addr}(hp:H p=none):ρ.no p:=by
 refine⟨fun hm=>?_,fun hm=>?_⟩
 . obtain⟨xs,e⟩:=h.trk hm
   rw[hp]at e;cases e
 . obtain⟨⟨xs,e⟩,_⟩:=h.hid p hm
   rw[hp]at e;cases e
theorem Ext.refl:Ext ρ H ρ H:=⟨⟨[],by simp,fun a ha=>by cases ha⟩,rfl,fun a o e _=>e,fun _ _=>rfl⟩
theorem Ext.Z3(x:Ext ρ H ρ' H'){a:Addr}{o:L2.HO}(e:H a=some o)(n:ρ.no a):ρ'.no a:=by
 obtain⟨new,e1,hn⟩:=x.pre
 refine⟨?_,by rw[x.hid];exact n.2⟩
 rw[e1]
 intro hm
 rcases List.mem_append.mp hm with hm|hm
 . exact n.1 hm
 . rw[hn a hm]at e;cases e
theorem Ext.get(x:Ext ρ H ρ' H'){i:Nat}{a:Addr}(e:ρ.o[i]?=some a):ρ'.o[i]?=some a:=by
 obtain⟨new,e1,hn⟩:=x.pre
 have hi:i<ρ.o.length:=(List.getElem?_eq_some_iff.mp e).1
 rw[e1,List.getElem?_append_left hi];exact e
theorem Ext.trans(x:Ext ρ H ρ' H')(h:HR K mg ρ' s H')(y:Ext ρ' H' ρ'' H''):Ext ρ H ρ'' H'':=by
 obtain⟨new,e1,hn⟩:=x.pre
 obtain⟨new2,e2,hn2⟩:=y.pre
 refine⟨⟨new++new2,by rw[e2,e1,List.append_assoc],fun a ha=>?_⟩,y.hid.trans x.hid,fun a o e n=>y.keep a o (x.keep a o e n) ?_,fun a ha=>(y.kd a (by rw[e1];exact List.mem_append_left _ ha)).trans (x.kd a ha)⟩
 . rcases List.mem_append.mp ha with ha|ha
   . exact hn a ha
   . cases q:H a with
     |none=>rfl
     |some o=>
      by_cases hm:a∈ρ.o
      . obtain⟨xs,e⟩:=h.trk (a:=a) (by rw[e1];exact List.mem_append_left _ hm)
        rw[hn2 a ha]at e;cases e
      . have:=x.keep a o q hm
        rw[hn2 a ha]at this;cases this
 . rw[e1]
   intro hm
   rcases List.mem_append.mp hm with hm|hm
   . exact n hm
   . rw[hn a hm]at e;cases e
theorem SC.sql{a:Addr}{xs:List L2.V}(h:SC K ρ H a xs):L2.SqL K H a xs:=by
 rcases h with⟨_,h⟩|h
 . exact .inl h
 . exact .inr h
theorem KT.sqt{a:Addr}{xs:List L2.V}(h:KT K a xs):L2.SqT K H a xs:=.inr h
structure Mv(ρ:Own)(H:L2.Hp)(ρ':Own)(H':L2.Hp):Prop where
 keep:∀(a:Addr) (o:L2.HO),H a=some o→ρ.no a→H' a=some o∧ρ'.no a
 get:∀(i:Nat) (a:Addr),ρ.o[i]?=some a→ρ'.o[i]?=some a
 kd:∀a∈ρ.o,hk (H' a)=hk (H a)
theorem Ext.mv(x:Ext ρ H ρ' H'):Mv ρ H ρ' H':=⟨fun a o e n=>⟨x.keep a o e n.1,x.Z3 e n⟩,fun i a e=>x.get e,x.kd⟩
theorem SC.mv{a:Addr}{xs:List L2.V}(x:Mv ρ H ρ' H')(h:SC K ρ H a xs):SC K ρ' H' a xs:=by
 rcases h with⟨n,h|⟨o,h⟩⟩|h
 . exact .inl ⟨(x.keep _ _ h n).2,.inl (x.keep _ _ h n).1⟩
 . exact .inl ⟨(x.keep _ _ h n).2,.inr ⟨o,(x.keep _ _ h n).1⟩⟩
 . exact .inr h
end
mutual
theorem RD.mv{K:KF}{mg:Str→Option Value}{ρ ρ':Own}{H H':L2.Hp}(x:Mv ρ H ρ' H'){v:Val}{u:L2.V}(q:RD K mg ρ H v u):RD K mg ρ' H' v u:=by
 cases q with
 |none=>exact .none
 |bool b=>exact .bool b
 |int i=>exact .int i
 |str t=>exact .str t
 |tup n e r=>exact .tup (x.keep _ _ e n).2 (x.keep _ _ e n).1 (RDs.mv x r)
 |lst n e r=>exact .lst (x.keep _ _ e n).2 (x.keep _ _ e n).1 (RDs.mv x r)
 |dct0 n e=>exact .dct0 (x.keep _ _ e n).2 (x.keep _ _ e n).1
 |ctup h=>exact .ctup h
 |scr h=>exact .scr (h.mv x)
 |ref e k=>exact .ref (x.get _ _ e) ((x.kd _ (List.mem_of_getElem? e)).trans k)
 |dref e k=>exact .dref (x.get _ _ e) (by rw[x.kd _ (List.mem_of_getElem? e)];exact k)
 |fn e=>exact .fn e
 |ty n=>exact .ty n
theorem RDs.mv{K:KF}{mg:Str→Option Value}{ρ ρ':Own}{H H':L2.Hp}(x:Mv ρ H ρ' H'){vs:List Val}{us:List L2.V}(q:RDs K mg ρ H vs us):RDs K mg ρ' H' vs us:=by
 cases q with
 |nil=>exact .nil
 |cons r rs=>exact .cons (RD.mv x r) (RDs.mv x rs)
end
theorem CR.mv{K:KF}{mg:Str→Option Value}{ρ ρ':Own}{H H':L2.Hp}{a:Addr}{c:Cel}(x:Mv ρ H ρ' H')(e:H' a=H a)(h:CR K mg ρ H a c):CR K mg ρ' H' a c:=by
 cases c with
 |lst vs=>obtain⟨xs,e1,r⟩:=h;exact⟨xs,e.trans e1,RDs.mv x r⟩
 |dS kvs=>obtain⟨xs,e1,k,r⟩:=h;exact⟨xs,e.trans e1,k,RDs.mv x r⟩
 |dT kvs=>obtain⟨xs,e1,k,r⟩:=h;exact⟨xs,e.trans e1,k,RDs.mv x r⟩
theorem RD.mono{K:KF}{mg:Str→Option Value}{ρ ρ':Own}{H H':L2.Hp}{v:Val}{u:L2.V}(r:RD K mg ρ H v u)(x:Ext ρ H ρ' H'):RD K mg ρ' H' v u:=RD.mv x.mv r
theorem RDs.mono{K:KF}{mg:Str→Option Value}{ρ ρ':Own}{H H':L2.Hp}{v:List Val}{u:List L2.V}(r:RDs K mg ρ H v u)(x:Ext ρ H ρ' H'):RDs K mg ρ' H' v u:=RDs.mv x.mv r
end M
end
section
namespace M
open PySem
section
variable {K:KF}{mg:Str→Option Value}{ρ ρ' ρ'':Own}{H H' H'':L2.Hp}{s s':Sto}
theorem RDs.length{vs:List Val}{xs:List L2.V}(q:RDs K mg ρ H vs xs):vs.length=xs.length:=by
 cases q with
 |nil=>rfl
 |cons _ r=>rw[List.length_cons,List.length_cons,r.length]
theorem RDs.get{vs:List Val}{xs:List L2.V}{i:Nat}{v:Val}(q:RDs K mg ρ H vs xs)(e:vs[i]?=some v):∃x,xs[i]?=some x∧RD K mg ρ H v x:=by
 cases q with
 |nil=>cases e
 |cons r rs=>
  cases i with
  |zero=>cases e;exact⟨_,rfl,r⟩
  |succ i=>exact RDs.get (i:=i) rs e
theorem RDs.append{vs ws:List Val}{xs ys:List L2.V}(p:RDs K mg ρ H vs xs)(q:RDs K mg ρ H ws ys):RDs K mg ρ H (vs++ws) (xs++ys):=by
 cases p with
 |nil=>exact q
 |cons r rs=>exact .cons r (rs.append q)
theorem RDs.take{vs:List Val}{xs:List L2.V}(n:Nat)(q:RDs K mg ρ H vs xs):RDs K mg ρ H (vs.take n) (xs.take n):=by
 cases n with
 |zero=>exact .nil
 |succ n=>cases q with
  |nil=>exact .nil
  |cons r rs=>exact .cons r (rs.take n)
theorem RDs.drop{vs:List Val}{xs:List L2.V}(n:Nat)(q:RDs K mg ρ H vs xs):RDs K mg ρ H (vs.drop n) (xs.drop n):=by
 cases n with
 |zero=>exact q
 |succ n=>cases q with
  |nil=>exact .nil
  |cons _ rs=>exact rs.drop n
theorem RDs.set{v:Val}{x:L2.V}(r:RD K mg ρ H v x){vs:List Val}{xs:List L2.V}(i:Nat)(q:RDs K mg ρ H vs xs):RDs K mg ρ H (vs.set i v) (xs.set i x):=by
 cases q with
 |nil=>exact .nil
 |cons q t=>cases i with
  |zero=>exact .cons r t
  |succ i=>exact .cons q (RDs.set r i t)
theorem RDs.rep{vs:List Val}{xs:List L2.V}(r:RDs K mg ρ H vs xs):∀k:Nat,RDs K mg ρ H (List.replicate k vs).flatten (List.replicate k xs).flatten
 |0=>.nil
 |k+1=>by
  rw[List.replicate_succ,List.replicate_succ,List.flatten_cons,List.flatten_cons]
  exact r.append (RDs.rep r k)
theorem RDs.pick{vs:List Val}{xs:List L2.V}(r:RDs K mg ρ H vs xs):∀(is:List Nat),RDs K mg ρ H (is.filterMap fun i=>vs[i]?) (is.filterMap fun i=>xs[i]?)
 |[]=>.nil
 |i::is=>by
  rw[List.filterMap_cons,List.filterMap_cons]
  cases hx:vs[i]? with
  |none=>
   have:xs[i]?=none:=by
    have h2:vs.length≤i:=List.getElem?_eq_none_iff.mp hx
    exact List.getElem?_eq_none_iff.mpr (by rw[←r.length];exact h2)
   rw[this];exact RDs.pick r is
  |some v=>
   obtain⟨u,hu,ru⟩:=r.get hx
   rw[hu]
   exact .cons ru (RDs.pick r is)
theorem RDs.zW{vs:List Val}{xs:List L2.V}(r:RDs K mg ρ H vs xs)(lo st:Int)(n:Nat):RDs K mg ρ H (L2.zW vs lo st n) (L2.zW xs lo st n):=by
 have h:=r.pick ((List.range n).map fun(k:Nat)=>(lo+(k:Int)*st).toNat)
 rw[List.filterMap_map,List.filterMap_map]at h
 exact h
theorem RDs.ints:∀(ns:List Int),RDs K mg ρ H (ns.map .int) (ns.map .int)
 |[]=>.nil
 |n::ns=>.cons (.int n) (RDs.ints ns)
theorem RDs.cut{vs:List Val}{xs:List L2.V}(r:RDs K mg ρ H vs xs)(lo hi:Option Int):RDs K mg ρ H (rn vs lo hi) (L2.sF xs lo hi):=by
 unfold rn L2.sF
 rw[r.length]
 exact(r.drop _).take _
theorem jV{α:Type}:∀{l:List α} {i j:Nat} {x:α},l.Nodup→l[i]?=some x→l[j]?=some x→i=j
 |[],_,_,_,_,e,_=>by simp at e
 |a::l,0,0,_,_,_,_=>rfl
 |a::l,0,j+1,x,nd,e1,e2=>by
  simp at e1 e2;subst e1
  exact absurd (List.mem_of_getElem? e2) (List.nodup_cons.mp nd).1
 |a::l,i+1,0,x,nd,e1,e2=>by
  simp at e1 e2;subst e2
  exact absurd (List.mem_of_getElem? e1) (List.nodup_cons.mp nd).1
 |a::l,i+1,j+1,x,nd,e1,e2=>by
  simp at e1 e2
  rw[jV (List.nodup_cons.mp nd).2 e1 e2]
theorem Ext.new(h:HR K mg ρ s H){p:Addr}(hp:H p=none)(o:L2.HO):Ext ρ H ρ (L2.upd H p o):=
 ⟨⟨[],by simp,fun a ha=>by cases ha⟩,rfl,fun a u e _=>by rw[L2.zP (L2.zT e hp)];exact e,fun a ha=>by rw[L2.zP fun z=>(h.new hp).1 (by rw[←z];exact ha)]⟩
theorem HR.more(h:HR K mg ρ s H){p:Addr}(hp:H p=none)(o:L2.HO):HR K mg ρ s (L2.upd H p o):=by
 refine⟨h.len,h.nd,fun i c e=>?_,fun a ha=>?_⟩
 . obtain⟨a,e1,r⟩:=h.cel i c e
   obtain⟨u,e2⟩:=r.there
   exact⟨a,e1,r.mv (Ext.new h hp o).mv (L2.zP (L2.zT e2 hp))⟩
 . obtain⟨⟨xs,e⟩,n⟩:=h.hid a ha
   exact⟨⟨xs,by rw[L2.zP (L2.zT e hp)];exact e⟩,n⟩
noncomputable def Own.more(ρ:Own)(p:Addr):Own:=⟨ρ.o++[p],ρ.h⟩
theorem Ext.own(h:HR K mg ρ s H){p:Addr}(hp:H p=none)(o:L2.HO):Ext ρ H (ρ.more p) (L2.upd H p o):=
 ⟨⟨[p],rfl,fun a ha=>by rw[List.mem_singleton.mp ha];exact hp⟩,rfl,fun a u e _=>by rw[L2.zP (L2.zT e hp)];exact e,fun a ha=>by rw[L2.zP fun z=>(h.new hp).1 (by rw[←z];exact ha)]⟩
theorem uf(h:HR K mg ρ s H)(p:Addr):(ρ.more p).o[s.length]?=some p:=by
 show (ρ.o++[p])[s.length]?=some p
 rw[←h.len,List.getElem?_append_right (Nat.le_refl _)];simp
theorem HR.aH(h:HR K mg ρ s H){p:Addr}(hp:H p=none){c:Cel}{o:L2.HO}(r:CR K mg (ρ.more p) (L2.upd H p o) p c):HR K mg (ρ.more p) (s++[c]) (L2.upd H p o):=by
 have X:=Ext.own h hp o
 refine⟨by show (ρ.o++[p]).length=_;rw[List.length_append,List.length_append,h.len];rfl,?_,fun i ws q=>?_,fun a ha=>?_⟩
 . show (ρ.o++[p]).Nodup
   rw[List.nodup_append]
   exact⟨h.nd,by simp,fun a ha b hb=>by rw[List.mem_singleton.mp hb];intro z;subst z;exact(h.new hp).1 ha⟩
 . by_cases hi:i<s.length
   . rw[List.getElem?_append_left hi]at q
     obtain⟨a,e1,t⟩:=h.cel i ws q
     obtain⟨u,e2⟩:=t.there
     exact⟨a,X.get e1,t.mv X.mv (L2.zP (L2.zT e2 hp))⟩
   . have hi':i=s.length:=by
      have:=(List.getElem?_eq_some_iff.mp q).1
      rw[List.length_append]at this
      simp at this;omega
     subst hi'
     rw[List.getElem?_append_right (Nat.le_refl _)]at q
     simp at q
     subst q
     exact⟨p,uf h p,r⟩
 . obtain⟨⟨ys,q⟩,n⟩:=h.hid a ha
   refine⟨⟨ys,by rw[L2.zP (L2.zT q hp)];exact q⟩,fun hm=>?_⟩
   rcases List.mem_append.mp hm with hm|hm
   . exact n hm
   . rw[List.mem_singleton.mp hm,hp]at q;cases q
theorem HR.own(h:HR K mg ρ s H){p:Addr}(hp:H p=none){vs:List Val}{xs:List L2.V}(r:RDs K mg ρ H vs xs):HR K mg (ρ.more p) (s++[.lst vs]) (L2.upd H p (.lst xs)):=h.aH hp ⟨xs,L2.zV,r.mono (Ext.own h hp _)⟩
theorem Ext.wU(h:HR K mg ρ s H){i:Nat}{a:Addr}(e:ρ.o[i]?=some a){o:L2.HO}(k:hk (some o)=hk (H a)):Ext ρ H ρ (L2.upd H a o):=
 ⟨⟨[],by simp,fun a ha=>by cases ha⟩,rfl,fun b u q n=>by rw[L2.zP (fun z=>n (by rw[z];exact List.mem_of_getElem? e))];exact q,fun b hb=>by
   by_cases z:b=a
   . subst z;rw[L2.zV];exact k
   . rw[L2.zP z]⟩
theorem Ext.write(h:HR K mg ρ s H){i:Nat}{a:Addr}(e:ρ.o[i]?=some a){ys:List L2.V}(k:H a=some (.lst ys))(xs:List L2.V):Ext ρ H ρ (L2.upd H a (.lst xs)):=Ext.wU h e (by rw[k];rfl)
theorem HR.wU(h:HR K mg ρ s H){i:Nat}{a:Addr}(e:ρ.o[i]?=some a){c:Cel}{o:L2.HO}(k:hk (some o)=hk (H a))(r:CR K mg ρ (L2.upd H a o) a c):HR K mg ρ (s.set i c) (L2.upd H a o):=by
 have X:=Ext.wU h e k
 refine⟨by rw[List.length_set];exact h.len,h.nd,fun j ws q=>?_,fun b hb=>?_⟩
 . skip
   by_cases hij:i=j
   . subst hij
     have hi:i<s.length:=by rw[←h.len];exact(List.getElem?_eq_some_iff.mp e).1
     rw[List.getElem?_set_self hi]at q
     cases q
     exact⟨a,e,r⟩
   . rw[List.getElem?_set_ne hij]at q
     obtain⟨b,e1,t⟩:=h.cel j ws q
     refine⟨b,e1,t.mv X.mv ?_⟩
     have hb:b≠a:=by
      intro z
      subst z
      exact hij (jV h.nd e e1)
     rw[L2.zP hb]
 . obtain⟨⟨ys,q⟩,n⟩:=h.hid b hb
   exact⟨⟨ys,by rw[L2.zP (fun z=>n (by rw[z];exact List.mem_of_getElem? e))];exact q⟩,n⟩
theorem HR.write(h:HR K mg ρ s H){i:Nat}{a:Addr}(e:ρ.o[i]?=some a){ys:List L2.V}(k:H a=some (.lst ys)){vs:List Val}{xs:List L2.V}(r:RDs K mg ρ H vs xs):HR K mg ρ (upd s i vs) (L2.upd H a (.lst xs)):=
 h.wU e (by rw[k];rfl) ⟨xs,L2.zV,r.mono (Ext.write h e k xs)⟩
theorem ER.mono{env:Env}{σ:L2.St}(x:Ext ρ H ρ' H')(h:ER K mg ρ H env σ):ER K mg ρ' H' env σ:=⟨h.len,fun i v e=>by
 obtain⟨u,h1,h2⟩:=h.at_ i v e
 exact⟨u,h1,h2.mono x⟩⟩
theorem ER.set{env:Env}{σ:L2.St}(h:ER K mg ρ H env σ)(i:Nat){v:Val}{x:L2.V}(r:RD K mg ρ H v x):ER K mg ρ H (env.set i (some v)) (σ.set i (some x)):=by
 refine⟨by rw[List.length_set,List.length_set,h.len],fun j w e=>?_⟩
 by_cases hij:i=j
 . subst hij
   by_cases hi:i<env.length
   . rw[List.getElem?_set_self hi]at e
     cases e
     exact⟨x,by rw[List.getElem?_set_self (by rw[←h.len];exact hi)],r⟩
   . rw[List.getElem?_eq_none (by rw[List.length_set];omega)]at e
     cases e
 . rw[List.getElem?_set_ne hij]at e
   rw[List.getElem?_set_ne hij]
   exact h.at_ j w e
end
section
variable (K:KF)(mg:Str→Option Value)
def yC{α β:Type}(R:Own→L2.Hp→α→β→Prop)(ρ:Own)(H:L2.Hp)(o:Out α)(Q:β→L2.Hp→Prop):Prop:=
 match o with
 |.ok v s'=>∀ρ' x H',Ext ρ H ρ' H'→HR K mg ρ' s' H'→R ρ' H' v x→Q x H'
 |_=>False
noncomputable def tV(env:Env)(s:Sto)(o:Out Val):L2.TE:=fun σ H Q=>∃ρ,HR K mg ρ s H∧ER K mg ρ H env σ∧yC K mg (RD K mg) ρ H o Q
noncomputable def tVs(env:Env)(s:Sto)(o:Out (List Val)):L2.TA:=fun σ H Q=>∃ρ,HR K mg ρ s H∧ER K mg ρ H env σ∧yC K mg (RDs K mg) ρ H o Q
noncomputable def tT(env:Env)(s:Sto)(o:Out Bool):L2.TT:=fun σ H Q=>∃ρ,HR K mg ρ s H∧ER K mg ρ H env σ∧yC K mg (fun _ _ a b=>a=b) ρ H o Q
noncomputable def tO(env:Env)(s:Sto)(o:Out (Option Int)):L2.TO:=fun σ H Q=>∃ρ,HR K mg ρ s H∧ER K mg ρ H env σ∧yC K mg (fun _ _ a b=>a=b) ρ H o Q
end
section
variable {X:L2.Cx}{e:Expr}
theorem zX{t t':L2.TE}(h:L2.PE X e t)(i:∀σ H Q,t' σ H Q→t σ H Q):L2.PE X e t':=fun pins s σ H Q I q=>h pins s σ H Q I (i σ H Q q)
theorem qL{t t':L2.TT}(h:L2.PT X e t)(i:∀σ H Q,t' σ H Q→t σ H Q):L2.PT X e t':=fun pins s σ H Q I q=>h pins s σ H Q I (i σ H Q q)
theorem js{es:List Expr}{t t':L2.TA}(h:L2.PA X es t)(i:∀σ H Q,t' σ H Q→t σ H Q):L2.PA X es t':=fun pos pins s σ H Q I q=>h pos pins s σ H Q I (i σ H Q q)
theorem y3{st:Stmt}{t t':L2.TS}(h:L2.PS X st t)(i:∀D σ H,t' D σ H→t D σ H):L2.PS X st t':=fun pins s σ H D I q=>h pins s σ H D I (i D σ H q)
theorem mD{st:List Stmt}{t t':L2.TS}(h:L2.PSs X st t)(i:∀D σ H,t' D σ H→t D σ H):L2.PSs X st t':=fun pins s σ H D I q=>h pins s σ H D I (i D σ H q)
theorem YS{t:L2.TE}(h:∀σ H Q,¬t σ H Q):L2.PE X e t:=fun pins s σ H Q I q=>(h σ H Q q).elim
theorem Ya{t:L2.TT}(h:∀σ H Q,¬t σ H Q):L2.PT X e t:=fun pins s σ H Q I q=>(h σ H Q q).elim
theorem Yc{t:L2.TT}(h:∀σ H Q,¬t σ H Q):L2.PW X e t:=fun wh pins s σ H Q I q=>(h σ H Q q).elim
theorem YO{es:List Expr}{t:L2.TA}(h:∀σ H Q,¬t σ H Q):L2.PA X es t:=fun pos pins s σ H Q I q=>(h σ H Q q).elim
end
section
variable {K:KF}{mg:Str→Option Value}{env:Env}{s:Sto}
theorem Yz{o:Out Val}(h:∀v s',o≠.ok v s'){σ:L2.St}{H:L2.Hp}{Q:L2.VK}:¬tV K mg env s o σ H Q:=by
 rintro ⟨ρ,_,_,w⟩
 cases o with
 |ok v s'=>exact h v s' rfl
 |_=>exact w
theorem a9{o:Out (List Val)}(h:∀v s',o≠.ok v s'){σ:L2.St}{H:L2.Hp}{Q:List L2.V→L2.Hp→Prop}:¬tVs K mg env s o σ H Q:=by
 rintro ⟨ρ,_,_,w⟩
 cases o with
 |ok v s'=>exact h v s' rfl
 |_=>exact w
theorem dh{o:Out Bool}(h:∀v s',o≠.ok v s'){σ:L2.St}{H:L2.Hp}{Q:Bool→L2.Hp→Prop}:¬tT K mg env s o σ H Q:=by
 rintro ⟨ρ,_,_,w⟩
 cases o with
 |ok v s'=>exact h v s' rfl
 |_=>exact w
end
end M
end
section
namespace M
open PySem
theorem z6:zR=sizeLine:=by rw[sizeLine_eq];rfl
section
variable {K:KF}{mg:Str→Option Value}{ρ ρ':Own}{H H':L2.Hp}{s s':Sto}
theorem xW(hr:HR K mg ρ s H){v:Val}{x:L2.V}{vs:List Val}(r:RD K mg ρ H v x)(e:yP s v=some vs):∃a xs,x=.ref a∧H a=some (.lst xs)∧RDs K mg ρ H vs xs:=by
 cases r with
 |lst n h q=>cases e;exact⟨_,_,rfl,h,q⟩
 |@ref a i h _=>
  simp only[yP]at e
  split at e
  . rename_i ws hw
    cases e
    obtain⟨b,xs,e1,e2,q⟩:=hr.obj i _ hw
    rw[h]at e1;cases e1
    exact⟨_,_,rfl,e2,q⟩
  . cases e
 |_=>cases e
theorem ox(hr:HR K mg ρ s H){v:Val}{x:L2.V}{vs:List Val}(r:RD K mg ρ H v x)(e:xN s v=some vs):∃a xs,x=.ref a∧(L2.SqL K H a xs∨L2.SqT K H a xs)∧RDs K mg ρ H vs xs:=by
 cases r with
 |lst n h q=>cases e;exact⟨_,_,rfl,.inl (.of h),q⟩
 |tup n h q=>cases e;exact⟨_,_,rfl,.inr (.of h),q⟩
 |ctup h=>cases e;exact⟨_,_,rfl,.inr h.sqt,RDs.ints _⟩
 |scr h=>cases e;exact⟨_,_,rfl,.inl h.sql,RDs.ints _⟩
 |@ref a i h _=>
  simp only[xN]at e
  split at e
  . rename_i ws hw
    cases e
    obtain⟨b,xs,e1,e2,q⟩:=hr.obj i _ hw
    rw[h]at e1;cases e1
    exact⟨_,_,rfl,.inl (.of e2),q⟩
  . cases e
 |_=>cases e
mutual
theorem RD.reads{P:Program}{w:World}{h:Heap}(ok:L2.HOk P w H h){v:Val}{x:L2.V}{u:Value}(q:RD K mg ρ H v x)(hv:v.isR=true)(r:L2.RelV x u):∃as,Reads h u v.d as∧(L2.xE v.d=false→sysModules ∉ as):=by
 cases q with
 |none=>cases (show u=Value.none from r);exact⟨[],.none,fun _=>by simp⟩
 |bool b=>cases (show u=Value.bool b from r);exact⟨[],.bool b,fun _=>by simp⟩
 |int i=>obtain⟨t,q⟩:=(show ∃t,u=Value.int i t from r);cases q;exact⟨[],.int i t,fun _=>by simp⟩
 |str x=>obtain⟨t,q⟩:=(show ∃t,u=Value.str x t from r);cases q;exact⟨[],.str x t,fun _=>by simp⟩
 |@lst a vs xs n ha rs=>
  cases (show u=Value.ref a from r)
  obtain⟨z,its,n,rv,e⟩:=(show L2.zc P w H h a (.lst xs) from ok a _ ha)
  obtain⟨as,q,_⟩:=RDs.reads ok rs (by simpa only[Val.isR] using hv) rv
  exact⟨a::as,.list e rfl rfl (by simpa using q),fun z=>by simp[Val.d,L2.xE]at z⟩
 |@tup a vs xs n ha rs=>
  cases (show u=Value.ref a from r)
  obtain⟨z,its,rv,o,e,c,n,dd⟩:=(show L2.zc P w H h a (.tup xs) from ok a _ ha)
  obtain⟨as,q,q2⟩:=RDs.reads ok rs (by simpa only[Val.isR] using hv) rv
  exact⟨as,.tuple e c dd.1 (by simpa using q),fun z=>q2 (by simpa [Val.d,L2.xE] using z)⟩
 |@dct0 a n ha=>
  cases (show u=Value.ref a from r)
  obtain⟨z,y,vs,rv,o,es,ep,e,c,dd,k⟩:=(show L2.zc P w H h a (.dK []) from ok a _ ha)
  cases rv
  have hes:es=#[]:=by
   have h2:=k.2.1
   cases hl:es.toList with
   |nil=>simpa using hl
   |cons a r=>rw[hl]at h2;cases h2
  subst hes
  refine⟨[a]++[],Reads.dict (as:=[]) (bs:=[]) e c.1 dd .nil .nil,fun _=>?_⟩
  have:a≠sysModules:=by simpa using y
  simpa using Ne.symm this
 |ctup _=>cases hv
 |scr _=>cases hv
 |ref _ _=>cases hv
 |dref _ _=>cases hv
 |fn _=>cases hv
 |ty _=>cases hv
theorem RDs.reads{P:Program}{w:World}{h:Heap}(ok:L2.HOk P w H h){vs:List Val}{xs:List L2.V}{us:List Value}(p:RDs K mg ρ H vs xs)(hv:qD vs=true)(q:L2.Vals xs us):∃as,ReadsAll h us (ds vs) as∧(L2.y0 (ds vs)=false→sysModules ∉ as):=by
 cases p with
 |nil=>cases q;exact⟨[],.nil,fun _=>by simp⟩
 |cons r rs=>
  cases q with
  |cons q1 q2=>
   rw[qD,Bool.and_eq_true]at hv
   obtain⟨as,h1,h2⟩:=RD.reads ok r hv.1 q1
   obtain⟨bs,h3,h4⟩:=RDs.reads ok rs hv.2 q2
   refine⟨as++bs,.cons h1 h3,fun z=>?_⟩
   rw[ds,L2.y0,Bool.or_eq_false_iff]at z
   intro hm
   rcases List.mem_append.mp hm with hm|hm
   . exact h2 z.1 hm
   . exact h4 z.2 hm
end
theorem vP{P:Program}{w:World}{h:Heap}(ok:L2.HOk P w H h)(hr:HR K mg ρ s H){v:Val}{x:L2.V}{u:Value}(hv:(yz s v).isR=true)(r:RD K mg ρ H v x)(ru:L2.RelV x u) :
 ∃as,Reads h u (yz s v).d as∧(L2.xE (yz s v).d=false→sysModules ∉ as):=by
 cases v with
 |ref i=>
  cases r with
  |@ref a _ e0=>
  simp only[yz]at hv ⊢
  split at hv
  . rename_i ws hw
    obtain⟨b,xs,e1,e2,q⟩:=hr.obj i _ hw
    rw[e0]at e1;cases e1
    cases (show u=Value.ref a from ru)
    obtain⟨z,its,n,rv,e⟩:=(show L2.zc P w H h a (.lst xs) from ok a _ e2)
    obtain⟨as,q,_⟩:=RDs.reads ok q (by simpa only[Val.isR] using hv) rv
    exact⟨a::as,.list e rfl rfl (by simpa using q),fun z=>by simp[Val.d,L2.xE]at z⟩
  . cases hv
 |_=>exact RD.reads ok r hv ru
theorem RDs.iJ{P:Program}{w:World}{h:Heap}(ok:L2.HOk P w H h)(hr:HR K mg ρ s H):∀{vs:List Val} {xs:List L2.V} {us:List Value},RDs K mg ρ H vs xs→qD (vs.map (yz s))=true→L2.Vals xs us→∃as,ReadsAll h us (ds (vs.map (yz s))) as∧(L2.y0 (ds (vs.map (yz s)))=false→sysModules ∉ as)
 |_,_,_,.nil,_,r=>by cases r;exact⟨[],.nil,fun _=>by simp⟩
 |_,_,_,.cons r rs,hv,q=>by
  cases q with
  |cons q1 q2=>
   rw[List.map_cons,qD,Bool.and_eq_true]at hv
   obtain⟨as,h1,h2⟩:=vP ok hr hv.1 r q1
   obtain⟨bs,h3,h4⟩:=RDs.iJ ok hr rs hv.2 q2
   rw[List.map_cons]
   refine⟨as++bs,.cons h1 h3,fun z=>?_⟩
   rw[ds,L2.y0,Bool.or_eq_false_iff]at z
   intro hm
   rcases List.mem_append.mp hm with hm|hm
   . exact h2 z.1 hm
   . exact h4 z.2 hm
theorem kH{v:Val}(h:∀vs,v≠.tup vs):zp s v=yz s v:=by
 cases v<;>first|rfl|exact absurd rfl (h _)
theorem y6{P:Program}{w:World}{h:Heap}(ok:L2.HOk P w H h)(hr:HR K mg ρ s H){v:Val}{x:L2.V}{u:Value}(hv:(zp s v).isR=true)(r:RD K mg ρ H v x)(ru:L2.RelV x u) :
 ∃as,Reads h u (zp s v).d as∧(L2.xE (zp s v).d=false→sysModules ∉ as):=by
 cases v with
 |tup vs=>
  cases r with
  |@tup a _ xs n ha rs=>
   cases (show u=Value.ref a from ru)
   obtain⟨z,its,rv,o,e,c,n,dd⟩:=(show L2.zc P w H h a (.tup xs) from ok a _ ha)
   obtain⟨as,q,q2⟩:=RDs.iJ ok hr rs (by simpa only[zp,Val.isR] using hv) rv
   exact⟨as,.tuple e c dd.1 (by simpa using q),fun z=>q2 (by simpa [zp,Val.d,L2.xE] using z)⟩
 |_=>exact(show _ from by rw[kH (fun _ h=>by cases h)]at hv ⊢;exact vP ok hr hv r ru)
mutual
theorem ye:∀{v:Val},v.isD=true→v.isR=true
 |.none,_=>rfl
 |.bool _,_=>rfl
 |.int _,_=>rfl
 |.str _,_=>rfl
 |.tup vs,h=>by rw[Val.isR];exact xt (by simpa only[Val.isD] using h)
 |.lst vs,h=>by rw[Val.isR];exact xt (by simpa only[Val.isD] using h)
 |.dct0,h=>by cases h
 |.ctup _,h=>by cases h
 |.scr _,h=>by cases h
 |.ref _,h=>by cases h
 |.fn _,h=>by cases h
 |.ty _,h=>by cases h
theorem xt:∀{vs:List Val},vz vs=true→qD vs=true
 |[],_=>rfl
 |v::vs,h=>by
  rw[vz,Bool.and_eq_true]at h
  rw[qD,ye h.1,xt h.2];rfl
end
mutual
theorem zx:∀{v:Val},v.isD=true→v.d.canLay0=true
 |.none,_=>rfl
 |.bool _,_=>rfl
 |.int _,_=>rfl
 |.str _,h=>by simpa only[Val.isD,Val.d,PyData.canLay0] using h
 |.tup vs,h=>by rw[Val.d,PyData.canLay0];exact y8 (by simpa only[Val.isD] using h)
 |.lst vs,h=>by rw[Val.d,PyData.canLay0];exact y8 (by simpa only[Val.isD] using h)
 |.dct0,h=>by cases h
 |.ctup _,h=>by cases h
 |.scr _,h=>by cases h
 |.ref _,h=>by cases h
 |.fn _,h=>by cases h
 |.ty _,h=>by cases h
theorem y8:∀{vs:List Val},vz vs=true→PyData.canLayAll0 (ds vs)=true
 |[],_=>rfl
 |v::vs,h=>by
  rw[vz,Bool.and_eq_true]at h
  rw[ds,PyData.canLayAll0,zx h.1,y8 h.2];rfl
end
theorem xT(hr:HR K mg ρ s H){m:Bool}{vs:List Val}{xs:List L2.V}(r:RDs K mg ρ H vs xs){Q:L2.VK}(w:yC K mg (RD K mg) ρ H (newList m vs s) Q):∀p,H p=none→Q (.ref p) (L2.upd H p (.lst xs)):=fun p hp=>by
 cases m with
 |true=>exact w _ _ _ (Ext.own hr hp _) (hr.own hp r) (.ref (uf hr p) (by rw[L2.zV];rfl))
 |false=>exact w _ _ _ (Ext.new hr hp _) (hr.more hp _) (.lst (hr.new hp) L2.zV (r.mono (Ext.new hr hp _)))
theorem ue(hr:HR K mg ρ s H){vs:List Val}{xs:List L2.V}(r:RDs K mg ρ H vs xs){Q:L2.VK}(w:yC K mg (RD K mg) ρ H (.ok (.tup vs) s) Q):∀p,H p=none→Q (.ref p) (L2.upd H p (.tup xs)):=fun p hp=>
 w _ _ _ (Ext.new hr hp _) (hr.more hp _) (.tup (hr.new hp) L2.zV (r.mono (Ext.new hr hp _)))
theorem Ext.same(hr:HR K mg ρ s H)(e:L2.vp H H'):Ext ρ H ρ H':=⟨⟨[],by simp,fun a ha=>by cases ha⟩,rfl,fun a o h _=>e a o h,fun a ha=>by
 obtain⟨o,q⟩:=hr.trk ha
 rw[q,e a o q]⟩
theorem HR.same(hr:HR K mg ρ s H)(e:L2.vp H H'):HR K mg ρ s H':=⟨hr.len,hr.nd,fun i c q=>by
 obtain⟨a,e1,r⟩:=hr.cel i c q
 obtain⟨o,e2⟩:=r.there
 exact⟨a,e1,r.mv (Ext.same hr e).mv ((e a _ e2).trans e2.symm)⟩,fun a ha=>by
 obtain⟨⟨ys,q⟩,n⟩:=hr.hid a ha
 exact⟨⟨ys,e a _ q⟩,n⟩⟩
theorem wK(hr:HR K mg ρ s H){vs:List Val}{xs:List L2.V}(r:RDs K mg ρ H vs xs){Q:L2.VK}(w:yC K mg (RD K mg) ρ H (.ok (.tup vs) s) Q):L2.uJ H xs Q:=fun p H' e h=>by
 have hr':=hr.same e
 refine w _ _ _ (Ext.same hr e) hr' (.tup ⟨fun hm=>?_,fun hm=>?_⟩ h (r.mono (Ext.same hr e)))
 . obtain⟨i,hi,q⟩:=List.getElem_of_mem hm
   have hs:i<s.length:=by rw[←hr'.len];exact hi
   obtain⟨b,e1,e2⟩:=hr'.cel i _ (List.getElem?_eq_getElem hs)
   rw[List.getElem?_eq_getElem hi,q]at e1
   cases e1
   have:=e2.hk
   rw[h]at this
   exact absurd this (Nat.lt_irrefl 0)
 . obtain⟨⟨ys,q⟩,_⟩:=hr'.hid _ hm
   rw[h]at q;cases q
end
section
variable (K:KF)(mg:Str→Option Value)
noncomputable def rM2(g:Val→Val→Sto→Out Val):L2.R2:=fun x y H Q=>∃ρ s v w,HR K mg ρ s H∧RD K mg ρ H v x∧RD K mg ρ H w y∧yC K mg (RD K mg) ρ H (g v w s) Q
noncomputable def rMc(g:List Val→Sto→Out Val):List L2.V→L2.Hp→L2.VK→Prop:=fun xs H Q=>∃ρ s vs,HR K mg ρ s H∧RDs K mg ρ H vs xs∧yC K mg (RD K mg) ρ H (g vs s) Q
end
section
variable {X:L2.Cx}{k:Nat}
theorem zK{K:KF}{mg:Str→Option Value}{ρ:Own}{H:L2.Hp}{s:Sto}(hr:HR K mg ρ s H){v:Val}{x:L2.V}(r:RD K mg ρ H v x){Q:L2.VK}(w:yC K mg (RD K mg) ρ H (.ok v s) Q):Q x H:=w _ _ _ Ext.refl hr r
theorem oR(m:Bool):L2.OpR X (binaryOp .Add) (rM2 X.K X.mg (binOp m .add)):=by
 intro pins s σ H x y v u Q I rx ry h
 obtain⟨ρ,t,a,b,hr,ra,rb,w⟩:=h
 simp only[binOp]at w
 split at w
 . cases ra;cases rb
   exact L2.b8 pins s σ H _ _ v u Q I rx ry ⟨_,_,rfl,rfl,zK hr (.int _) w⟩
 . split at w
   . rename_i hz
     cases ra;cases rb
     exact L2.oQ pins s σ H _ _ v u Q I rx ry ⟨_,_,rfl,rfl,by rw[←z6];exact hz,zK hr (.str _) w⟩
   . exact w.elim
 . split at w
   . rename_i hz
     cases ra with
     |tup n1 h1 q1=>
      cases rb with
      |tup n2 h2 q2=>
       refine L2.jd pins s σ H _ _ v u Q I rx ry ⟨_,_,_,_,rfl,rfl,h1,h2,?_,wK hr (q1.append q2) w⟩
       rw[←q1.length,←q2.length,←z6];exact hz
   . exact w.elim
 . split at w
   . rename_i ea eb
     split at w
     . rename_i hz
       obtain⟨p1,xs,rfl,h1,q1⟩:=xW hr ra ea
       obtain⟨p2,ys,rfl,h2,q2⟩:=xW hr rb eb
       refine L2.aA pins s σ H _ _ v u Q I rx ry ⟨_,_,_,_,rfl,rfl,h1,h2,?_,xT hr (q1.append q2) w⟩
       rw[←q1.length,←q2.length,←z6];exact hz
     . exact w.elim
   . exact w.elim
theorem oV(m:Bool):L2.OpR X (binaryOp .Sub) (rM2 X.K X.mg (binOp m .sub)):=by
 intro pins s σ H x y v u Q I rx ry h
 obtain⟨ρ,t,a,b,hr,ra,rb,w⟩:=h
 simp only[binOp]at w
 split at w
 . cases ra;cases rb
   exact L2.aG pins s σ H _ _ v u Q I rx ry ⟨_,_,rfl,rfl,zK hr (.int _) w⟩
 . exact w.elim
theorem oT(m:Bool):L2.OpR X (binaryOp .Mult) (rM2 X.K X.mg (binOp m .mul)):=by
 intro pins s σ H x y v u Q I rx ry h
 obtain⟨ρ,t,a,b,hr,ra,rb,w⟩:=h
 simp only[binOp]at w
 split at w
 . split at w
   . rename_i hz
     cases ra;cases rb
     exact L2.aD pins s σ H _ _ v u Q I rx ry ⟨_,_,rfl,rfl,hz,zK hr (.int _) w⟩
   . exact w.elim
 . split at w
   . rename_i hz
     obtain⟨z1,z2,z3,z4⟩:=hz
     cases ra with
     |tup n1 h1 q1=>
      cases rb
      refine L2.fJ pins s σ H _ _ v u Q I rx ry ⟨_,_,_,rfl,rfl,h1,z1,z2,?_,?_,wK hr (q1.rep _) w⟩
      . intro e;subst e;cases q1;exact z3 rfl
      . rw[←q1.length];exact z4
   . exact w.elim
 . split at w
   . rename_i ea
     split at w
     . rename_i hz
       obtain⟨z1,z2,z3⟩:=hz
       obtain⟨p1,xs,rfl,h1,q1⟩:=xW hr ra ea
       cases rb
       refine L2.aF pins s σ H _ _ v u Q I rx ry ⟨_,_,_,rfl,rfl,h1,by omega,by omega,?_,xT hr (q1.rep _) w⟩
       rw[←q1.length,←z6];exact z3
     . exact w.elim
   . exact w.elim
 . exact w.elim
theorem pF(m:Bool):L2.OpR X (binaryOp .FloorDiv) (rM2 X.K X.mg (binOp m .fdiv)):=by
 intro pins s σ H x y v u Q I rx ry h
 obtain⟨ρ,t,a,b,hr,ra,rb,w⟩:=h
 simp only[binOp]at w
 split at w
 . split at w
   . rename_i hz
     cases ra;cases rb
     exact L2.fH pins s σ H _ _ v u Q I rx ry ⟨_,_,rfl,rfl,hz,zK hr (.int _) w⟩
   . exact w.elim
 . exact w.elim
theorem oS(m:Bool):L2.OpR X (binaryOp .Mod) (rM2 X.K X.mg (binOp m .mod)):=by
 intro pins s σ H x y v u Q I rx ry h
 obtain⟨ρ,t,a,b,hr,ra,rb,w⟩:=h
 simp only[binOp]at w
 split at w
 . split at w
   . rename_i hz
     cases ra;cases rb
     exact L2.aC pins s σ H _ _ v u Q I rx ry ⟨_,_,rfl,rfl,hz,zK hr (.int _) w⟩
   . exact w.elim
 . exact w.elim
theorem oU(m:Bool):L2.OpR X (binaryOp .Pow) (rM2 X.K X.mg (binOp m .pow)):=by
 intro pins s σ H x y v u Q I rx ry h
 obtain⟨ρ,t,a,b,hr,ra,rb,w⟩:=h
 simp only[binOp]at w
 split at w
 . split at w
   . rename_i hz
     cases ra;cases rb
     exact L2.aE pins s σ H _ _ v u Q I rx ry ⟨_,_,rfl,rfl,hz,zK hr (.int _) w⟩
   . exact w.elim
 . exact w.elim
end
end M
end
section
namespace L2
open PySem PyProof PyProof.Rows
section
variable {κ:Type} [DecidableEq κ]
noncomputable def uG(kvs:List (κ × V))(k:κ):Option V:=(kvs.find? fun kv=>decide (kv.1=k)).map (·.2)
noncomputable def putK(kvs:List (κ × V))(k:κ)(v:V):List (κ × V):=
 if (kvs.any fun kv=>decide (kv.1=k))=true then kvs.map (fun kv=>if kv.1=k then (kv.1,v) else kv) else kvs++[(k,v)]
theorem vn{p:κ × V}{r:List (κ × V)}{k:κ}(e:p.1=k):uG (p::r) k=some p.2:=by simp[uG,List.find?_cons,e]
theorem vm{p:κ × V}{r:List (κ × V)}{k:κ}(e:¬p.1=k):uG (p::r) k=uG r k:=by simp[uG,List.find?_cons,e]
theorem sA(k:κ):∀kvs:List (κ × V),(kvs.any fun kv=>decide (kv.1=k))=(uG kvs k).isSome
 |[]=>rfl
 |p::r=>by
  rw[List.any_cons]
  by_cases e:p.1=k
  . simp only[vn e,decide_eq_true e,Bool.true_or,Option.isSome_some]
  . rw[vm e,decide_eq_false e,Bool.false_or];exact sA k r
theorem uO(kvs:List (κ × V))(k:κ)(v:V):(putK kvs k v).length≤kvs.length+1:=by
 unfold putK
 split
 . rw[List.length_map];omega
 . rw[List.length_append,List.length_cons,List.length_nil];omega
theorem uk.xg{o:Option V}{u:Option Value}(r:uk o u):o.isSome=u.isSome:=by
 cases o with
 |none=>cases u with
  |none=>rfl
  |some _=>exact(show False from r).elim
 |some _=>cases u with
  |none=>exact(show False from r).elim
  |some _=>rfl
theorem KV.val{kvs:List (κ × V)}{vs:List (κ × Value)}(r:KV kvs vs)(k:κ):uk (uG kvs k) (valueAt vs k):=by
 unfold KV at r
 induction r with
 |nil=>exact True.intro
 |@cons p q ps qs h t ih=>
  obtain⟨h1,h2⟩:=h
  by_cases e:p.1=k
  . have e':q.1=k:=h1.symm.trans e
    have b:valueAt (q::qs) k=some q.2:=by simp[valueAt,List.find?_cons,e']
    rw[vn e,b];exact h2
  . have e':¬q.1=k:=fun z=>e (h1.trans z)
    have b:valueAt (q::qs) k=valueAt qs k:=by simp[valueAt,List.find?_cons,e']
    rw[vm e,b];exact ih
theorem KV.any{kvs:List (κ × V)}{vs:List (κ × Value)}(r:KV kvs vs)(k:κ):(kvs.any fun kv=>decide (kv.1=k))=vs.any fun kv=>decide (kv.1=k):=by
 unfold KV at r
 induction r with
 |nil=>rfl
 |cons h t ih=>rw[List.any_cons,List.any_cons,ih,h.1]
theorem KV.ao{kvs:List (κ × V)}{vs:List (κ × Value)}(r:KV kvs vs)(k:κ){y:V}{u:Value}(ry:RelV y u) :
 KV (kvs.map fun kv=>if kv.1=k then (kv.1,y) else kv) (vs.map fun kv=>if kv.1=k then (kv.1,u) else kv):=by
 unfold KV at r ⊢
 induction r with
 |nil=>exact .nil
 |@cons p q ps qs h t ih=>
  rw[List.map_cons,List.map_cons]
  refine .cons ?_ ih
  obtain⟨h1,h2⟩:=h
  by_cases e:p.1=k
  . rw[if_pos e,if_pos (h1.symm.trans e)];exact⟨h1,ry⟩
  . rw[if_neg e,if_neg (fun z=>e (h1.trans z))];exact⟨h1,h2⟩
theorem KV.put{kvs:List (κ × V)}{vs:List (κ × Value)}(r:KV kvs vs)(k:κ){y:V}{u:Value}(ry:RelV y u):KV (putK kvs k y) (stored vs k u):=by
 unfold putK stored
 rw[r.any k]
 by_cases e:(vs.any fun kv=>decide (kv.1=k))=true
 . rw[if_pos e,if_pos e];exact r.ao k ry
 . rw[if_neg e,if_neg e];exact Paired.snoc r ⟨rfl,ry⟩
theorem KV.length{kvs:List (κ × V)}{vs:List (κ × Value)}(r:KV kvs vs):kvs.length=vs.length:=Paired.length r
end
theorem qo{P:Program}{w:World}{k:Key}{u:Value}(r:RelV (kV k) u):(yQ P w).is k u=true:=by
 cases k with
 |inl i=>obtain⟨t,e⟩:=(show ∃t,u=Value.int i t from r);subst e;exact q0 P w i t
 |inr x=>obtain⟨t,e⟩:=(show ∃t,u=Value.str x t from r);subst e;exact pA P w x t
theorem rA{P:Program}{w:World}:∀{ks:List Key} {us:List Value},Vals (ks.map kV) us→ItemsAre (yQ P w) ks us
 |[],_,r=>by rw[List.map_nil]at r;cases r;exact .nil
 |k::ks,_,r=>by
  rw[List.map_cons]at r
  cases r with
  |cons h t=>exact .cons (qo h) (rA t)
noncomputable abbrev KT(H:Hp):List (List Key × V)→List (List Key × Addr × Value)→Prop:=Paired fun p q=>p.1=q.1∧H q.2.1=some (.tup (p.1.map kV))∧RelV p.2 q.2.2
theorem KT.val{H:Hp}{kvs:List (List Key × V)}{xs:List (List Key × Addr × Value)}(r:KT H kvs xs)(k:List Key):uk (uG kvs k) ((atKey xs k).map (·.2)):=by
 induction r with
 |nil=>exact True.intro
 |@cons p q ps qs h t ih=>
  obtain⟨h1,_,h2⟩:=h
  by_cases e:p.1=k
  . have e':q.1=k:=h1.symm.trans e
    have b:atKey (q::qs) k=some q.2:=by simp[atKey,List.find?_cons,e']
    rw[vn e,b];exact h2
  . have e':¬q.1=k:=fun z=>e (h1.trans z)
    have b:atKey (q::qs) k=atKey qs k:=by simp[atKey,List.find?_cons,e']
    rw[vm e,b];exact ih
theorem KT.ao{H:Hp}{kvs:List (List Key × V)}{xs:List (List Key × Addr × Value)}(r:KT H kvs xs)(k:List Key){y:V}{u:Value}(ry:RelV y u) :
 KT H (kvs.map fun kv=>if kv.1=k then (kv.1,y) else kv) (xs.map (putAt k u)):=by
 induction r with
 |nil=>exact .nil
 |@cons p q ps qs h t ih=>
  rw[List.map_cons,List.map_cons]
  refine .cons ?_ ih
  obtain⟨h1,h2,h3⟩:=h
  unfold putAt
  by_cases e:p.1=k
  . rw[if_pos e,if_pos (h1.symm.trans e)];exact⟨h1,h2,ry⟩
  . rw[if_neg e,if_neg (fun z=>e (h1.trans z))];exact⟨h1,h2,h3⟩
theorem KT.put{H:Hp}{kvs:List (List Key × V)}{xs:List (List Key × Addr × Value)}(r:KT H kvs xs)(k:List Key){b:Addr}{y:V}{u:Value}(hb:H b=some (.tup (k.map kV)))(ry:RelV y u) :
 KT H (putK kvs k y) (storedH xs k b u):=by
 have e:(kvs.any fun kv=>decide (kv.1=k))=(atKey xs k).isSome:=by
  rw[sA,(r.val k).xg,Option.isSome_map]
 unfold putK storedH
 rw[e]
 by_cases q:(atKey xs k).isSome=true
 . rw[if_pos q,if_pos q];exact r.ao k ry
 . rw[if_neg q,if_neg q];exact Paired.snoc r ⟨rfl,hb,ry⟩
theorem KT.keeps{H H':Hp}{kvs:List (List Key × V)}{xs:List (List Key × Addr × Value)}(r:KT H kvs xs)(ht:∀b ys,H b=some (.tup ys)→H' b=some (.tup ys)):KT H' kvs xs:=
 Paired.bw r fun _ _ z=>⟨z.1,ht _ _ z.2.1,z.2.2⟩
section
variable {P:Program}{w:World}{H:Hp}{h:Heap}{a:Addr}
theorem dX{u:HO}(ok:HOk P w H h)(e:Rd H a u):zc P w H h a u:=e.ok ok
theorem qe{kvs:List (Key × V)}(ok:HOk P w H h)(e:Rd H a (.dK kvs)):kvs.length≤sizeLine∧(a == sysModules)=false∧∃vs,KV kvs vs∧h.DictOf (yQ P w) a vs:=
 show zc P w H h a (.dK kvs) from dX ok e
theorem ZW{kvs:List (Key × V)}(ok:HOk P w H h)(e:H a=some (.dK kvs)):kvs.length≤sizeLine∧(a == sysModules)=false∧∃vs,KV kvs vs∧h.DictOf (yQ P w) a vs:=qe ok (.inl e)
theorem tE{ks:List Key}(ok:HOk P w H h)(e:H a=some (.tup (ks.map kV))):(tupleKind (yQ P w)).is h ks a:=by
 obtain⟨_,its,r,o,h1,h2,n,h3,_⟩:=(show zc P w H h a (.tup (ks.map kV)) from ok a _ e)
 exact⟨o,its.toArray,n,h1,h2,h3,by simpa using rA r⟩
theorem qg{kvs:List (List Key × V)}(ok:HOk P w H h)(e:Rd H a (.dT kvs)):kvs.length≤sizeLine∧(a == sysModules)=false ∧
 ∃xs,KT H kvs xs∧h.DictOfH (tupleKind (yQ P w)) a xs:=by
 obtain⟨z,y,xs,r,o,es,ep,h1,h2,h3,h4,h5⟩:=(show zc P w H h a (.dT kvs) from dX ok e)
 refine⟨z,y,xs,r,o,es,ep,h1,h2,h3,h4,fun x hx=>?_,h5⟩
 have all:∀{l:List (List Key × V)} {m:List (List Key × Addr × Value)},KT H l m→∀x∈m,(tupleKind (yQ P w)).is h x.1 x.2.1:=by
  intro l m q
  induction q with
  |nil=>intro x hx;exact nomatch hx
  |@cons p q ps qs hq t ih=>
   intro x hx
   rcases List.mem_cons.mp hx with e|hx
   . subst e
     exact tE ok (by rw[←hq.1];exact hq.2.1)
   . exact ih x hx
 exact all r x hx
theorem ZX{kvs:List (List Key × V)}(ok:HOk P w H h)(e:H a=some (.dT kvs)):kvs.length≤sizeLine∧(a == sysModules)=false ∧
 ∃xs,KT H kvs xs∧h.DictOfH (tupleKind (yQ P w)) a xs:=qg ok (.inl e)
end
def uS(H:Hp)(a:Addr)(y:V)(r:Option V):Prop:=
 (∃kvs k,Rd H a (.dK kvs)∧y=kV k∧r=uG kvs k)∨∃kvs k b,Rd H a (.dT kvs)∧y=.ref b∧H b=some (.tup (k.map kV))∧r=uG kvs k
def rX(H:Hp)(a:Addr)(y v:V)(H':Hp):Prop:=
 (∃kvs k,H a=some (.dK kvs)∧y=kV k∧kvs.length<sizeLine∧H'=upd H a (.dK (putK kvs k v))) ∨
 ∃kvs k b,H a=some (.dT kvs)∧y=.ref b∧H b=some (.tup (k.map kV))∧kvs.length<sizeLine∧H'=upd H a (.dT (putK kvs k v))
theorem uS.k{H:Hp}{a:Addr}{kvs:List (Key × V)}{k:Key}(e:H a=some (.dK kvs)):uS H a (kV k) (uG kvs k):=.inl ⟨kvs,k,.inl e,rfl,rfl⟩
theorem uS.t{H:Hp}{a b:Addr}{kvs:List (List Key × V)}{k:List Key}(e:H a=some (.dT kvs))(eb:H b=some (.tup (k.map kV))):uS H a (.ref b) (uG kvs k):=.inr ⟨kvs,k,b,.inl e,rfl,eb,rfl⟩
theorem rX.k{H:Hp}{a:Addr}{kvs:List (Key × V)}{k:Key}{v:V}(e:H a=some (.dK kvs))(hl:kvs.length<sizeLine):rX H a (kV k) v (upd H a (.dK (putK kvs k v))):=.inl ⟨kvs,k,e,rfl,hl,rfl⟩
theorem rX.t{H:Hp}{a b:Addr}{kvs:List (List Key × V)}{k:List Key}{v:V}(e:H a=some (.dT kvs))(eb:H b=some (.tup (k.map kV)))(hl:kvs.length<sizeLine) :
 rX H a (.ref b) v (upd H a (.dT (putK kvs k v))):=.inr ⟨kvs,k,b,e,rfl,eb,hl,rfl⟩
section
variable {X:Cx}{pins:List (Addr × Obj)}{σ:St}{H:Hp}{s:Shared}{a:Addr}{y v:V}{u r:Value}{o:Option V}{A:Around}{E:Value→Shared→Prop}
theorem Inv.big(I:Inv X pins σ H s):sysModules<s.heap.objs.size:=by
 have h:mainGlobals<s.heap.objs.size:=(I.mod.glob.keeps I.bk).lt
 exact Nat.lt_trans (by decide) h
theorem mT{Q:Value→Shared→Prop}(hu:A.units+1<cLine)(I:Inv X pins σ H s)(g:uS H a y (some v))(ry:RelV y u)(h:∀w' s',Inv X pins σ H s'→RelV v w'→Q w' s') :
 wpAny (model X.prog X.w) A (getItem (.ref a) u) Q E s:=by
 rcases g with⟨kvs,k,e,ey,l⟩|⟨kvs,k,b,e,ey,eb,l⟩
 . subst ey
   obtain⟨z,hd,vs,rel,dd⟩:=qe I.hok e
   obtain⟨w',hw,rw'⟩:=uk.some_of (v:=v) (o:=valueAt vs k) (by rw[l];exact rel.val k)
   exact wpAny_getItem_of (qo ry) dd.mapOf hw (h w' _ (I.tok _) rw')
 . subst ey
   cases (show u=Value.ref b from ry)
   obtain⟨z,hd,xs,rel,dd⟩:=qg I.hok e
   obtain⟨w',hw,rw'⟩:=uk.some_of (v:=v) (o:=(atKey xs k).map (·.2)) (by rw[l];exact rel.val k)
   obtain⟨p,hp,hp2⟩:=Option.map_eq_some_iff.mp hw
   refine wpAny_getItem_heap (tupleKind_room_in1 hu) (tE I.hok eb) dd hp ?_
   rw[hp2]
   exact h w' _ (I.tok _) rw'
theorem XB{Q:Value→Shared→Prop}(hu:A.units+1<cLine)(I:Inv X pins σ H s)(g:uS H a y o)(ry:RelV y u)(h:∀s',Inv X pins σ H s'→Q (.bool o.isSome) s') :
 wpAny (model X.prog X.w) A (compareOp .In u (.ref a)) Q E s:=by
 rcases g with⟨kvs,k,e,ey,l⟩|⟨kvs,k,b,e,ey,eb,l⟩
 . subst ey
   obtain⟨z,hd,vs,rel,dd⟩:=qe I.hok e
   refine wpAny_in_of (qo ry) hd dd.mapOf ?_
   rw[←(rel.val k).xg,←l]
   exact h _ (I.tok _)
 . subst ey
   cases (show u=Value.ref b from ry)
   obtain⟨z,hd,xs,rel,dd⟩:=qg I.hok e
   refine wpAny_in_heap (tupleKind_room_in1 hu) (tE I.hok eb) hd dd ?_
   have q:=(rel.val k).xg
   rw[Option.isSome_map]at q
   rw[←q,←l]
   exact h _ (I.tok _)
theorem gO{Q:Value→Shared→Prop}(hu:A.units+1<cLine)(I:Inv X pins σ H s)(g:uS H a y o)(ry:RelV y u)(h:∀s',Inv X pins σ H s'→Q (.bool (!o.isSome)) s') :
 wpAny (model X.prog X.w) A (compareOp .NotIn u (.ref a)) Q E s:=by
 rcases g with⟨kvs,k,e,ey,l⟩|⟨kvs,k,b,e,ey,eb,l⟩
 . subst ey
   obtain⟨z,hd,vs,rel,dd⟩:=qe I.hok e
   refine wpAny_notIn_of (qo ry) hd dd.mapOf ?_
   rw[←(rel.val k).xg,←l]
   exact h _ (I.tok _)
 . subst ey
   cases (show u=Value.ref b from ry)
   obtain⟨z,hd,xs,rel,dd⟩:=qg I.hok e
   refine wpAny_notIn_heap (tupleKind_room_in1 hu) (tE I.hok eb) hd dd ?_
   have q:=(rel.val k).xg
   rw[Option.isSome_map]at q
   rw[←q,←l]
   exact h _ (I.tok _)
theorem nW{h':Heap}{t':Nat}{ob:HO}(I:Inv X pins σ H s)(mu:Mut (H a))(hs:Heap.SameBut a s.heap h')(he:∃q,h'.get? a=some q)(new:zc X.prog X.w (upd H a ob) h' a ob) :
 Inv X pins σ (upd H a ob) {s with heap:=h',toks:=t'}:=
 I.write (x:=a) (e:=a) mu (.inl rfl) (fun b q hb z=>(hs.2 b hb).trans z) he new
theorem cL{P:Program}{w:World}{H':Hp}{h':Heap}{kvs:List (Key × V)}{vs:List (Key × Value)}(z:kvs.length≤sizeLine)(hd:(a == sysModules)=false)(rel:KV kvs vs)(dd:h'.DictOf (yQ P w) a vs) :
 zc P w H' h' a (.dK kvs):=⟨z,hd,vs,rel,dd⟩
theorem mU{H':Hp}{Q:Unit→Shared→Prop}(hu:A.units+1<cLine)(I:Inv X pins σ H s)(g:rX H a y v H')(ry:RelV y u)(rv:RelV v r)(h:∀s',Inv X pins σ H' s'→Q () s') :
 wpAny (model X.prog X.w) A (setItem (.ref a) u r) Q E s:=by
 rcases g with⟨kvs,k,e,ey,l,eH⟩|⟨kvs,k,b,e,ey,eb,l,eH⟩
 . subst ey eH
   obtain⟨z,hd,vs,rel,dd⟩:=ZW I.hok e
   have hz:vs.length≤sizeLine:=by rw[←rel.length];exact z
   have hl:(putK kvs k v).length≤sizeLine:=by have:=uO kvs k v;omega
   refine wpAny_setItem_pairs (hsz:=hz) (qo ry) dd fun h' dd' hs=>h _ ?_
   have he:∃q,h'.get? a=some q:=let ⟨q,_,_,hq,_⟩:=dd';⟨q,hq⟩
   exact nW I (by rw[e];exact True.intro) hs he (cL hl hd (rel.put k rv) dd')
 . subst ey eH
   cases (show u=Value.ref b from ry)
   obtain⟨z,hd,xs,rel,dd⟩:=ZX I.hok e
   have hz:xs.length≤sizeLine:=by rw[←Paired.length rel];exact z
   have hl:(putK kvs k v).length≤sizeLine:=by have:=uO kvs k v;omega
   refine wpAny_setItem_heap (hsz:=hz) (tupleKind_room_in1 hu) (tE I.hok eb) dd fun h' dd' hs=>h _ ?_
   obtain⟨q,es,ep,hq,h2,h3,h4,_,h5⟩:=dd'
   refine nW I (by rw[e];exact True.intro) hs ⟨q,hq⟩ ⟨hl,hd,_,(rel.put k eb rv).keeps fun c ys ec=>?_,q,es,ep,hq,h2,h3,h4,h5⟩
   rw[zP (dI ec e (fun z=>nomatch z))]
   exact ec
end
def ZP(i:Expr):Prop:=∀ov iv,subscripted i false ov iv=operate [ov,iv] (getItem ov iv)
theorem eP{prog:Program}{w:World}{A:Around}{E:Value→Shared→Prop}{s:Shared}{env:Env}{value slice:Expr}{pos:Pos}{T id:String}{Q:Value→Shared→Prop}
 (hl:typeLookup (.type T) "__getitem__"=pure (some (.builtin id))) (hs:ZP slice)
 (h:wpAny (model prog w) A (eval value env) (fun o s₁=>wpAny (model prog w) A (eval slice env) (fun i s₂=>s₂.TypeIs o T∧wpAny (model prog w) A (getItem o i) Q E s₂) E s₁) E s) :
 wpAny (model prog w) A (eval (.Subscript value slice pos) env) Q E s:=by
 refine Subscript_ (wpAny_mono h (fun o s₁ h₁=>wpAny_mono h₁ (fun i s₂ h₂=>?_) fun _ _ x=>x) fun _ _ x=>x)
 obtain⟨hT,h₂⟩:=h₂
 unfold subscriptTail
 refine wpAny_bind ?_
 rw[getitemInPython_of_ne hT.not_modules]
 refine wpAny_bind (wpAny_specialOf hT hl ?_)
 have fin:wpAny (model prog w) A (subscripted slice false o i) (fun r s₃=>wpAny (model prog w) A (letTemporaryGo value o r >>= fun _=>pure r) Q E s₃) E s₂:=by
  rw[hs o i]
  exact wpAny_operating (wpAny_mono h₂ (fun r s₃ h₃=>wpAny_bind (wpAny_letTemporaryGo (wpAny_pure h₃))) fun _ _ x=>x)
 first
  |exact wpAny_pure (wpAny_bind fin)
  |exact wpAny_bind (wpAny_pure (wpAny_bind fin))
  |exact wpAny_bind fin
theorem qd{X:Cx}{pins:List (Addr × Obj)}{σ:St}{H:Hp}{s:Shared}{a:Addr}{y:V}{o:Option V}(I:Inv X pins σ H s)(g:uS H a y o):s.TypeIs (.ref a) "dict":=by
 rcases g with⟨kvs,k,e,_,_⟩|⟨kvs,k,b,e,_,_,_⟩
 . obtain⟨_,_,vs,_,dd⟩:=qe I.hok e
   exact dd.typeIs
 . obtain⟨_,_,xs,_,dd⟩:=qg I.hok e
   exact dd.typeIs
noncomputable def Yr(td ty:TE):TE:=fun σ H Q=>td σ H fun x H1=>ty σ H1 fun y H2=>∃a v,x=.ref a∧uS H2 a y (some v)∧Q v H2
noncomputable def Yk(td ty tv:TE):TS:=fun D σ H=>tv σ H fun v H1=>td σ H1 fun x H2=>ty σ H2 fun y H3=>∃a H4,x=.ref a∧rX H3 a y v H4∧D.nx σ H4
section
variable {X:Cx}{o i e value:Expr}{pos pos' tpos:Pos}{td ty tv:TE}
theorem fb(hu:X.A.units+1<cLine)(ho:PE X o td)(hi:PE X i ty)(hs:ZP i):PE X (.Subscript o i pos) (Yr td ty):=by
 intro pins s σ H Q I h
 refine eP PySem.F.slot_dict_getitem.lookup hs (thn (ho pins s σ H _ I h) fun u s1 ⟨x,H1,I1,rx,q1⟩=>thn (hi pins s1 σ H1 _ I1 q1) fun iv s2 ⟨y,H2,I2,ry,a,v,ex,g,q2⟩=>?_)
 subst ex
 obtain rfl:u=Value.ref a:=rx
 exact⟨qd I2 g,mT hu I2 g ry fun w' s3 I3 rw'=>⟨v,H2,I3,rw',q2⟩⟩
theorem fu(hu:X.A.units+1<cLine)(ho:PE X o td)(hi:PE X i ty)(hv:PE X value tv)(hs:swapsWith value (some (.Subscript o i pos')) pos.line X.env=pure false) :
 PS X (.Assign [.Subscript o i pos'] value pos) (Yk td ty tv):=by
 intro pins s σ H D I h
 refine wpAny_Assign_Subscript (thn (hv pins s σ H _ I h) fun r s1 ⟨v,H1,I1,rv,q1⟩=>thn (ho pins s1 σ H1 _ I1 q1) fun u s2 ⟨x,H2,I2,rx,q2⟩=>thn (hi pins s2 σ H2 _ I2 q2) fun iv s3 ⟨y,H3,I3,ry,a,H4,ex,g,q3⟩=>?_) hs
 subst ex
 obtain rfl:u=Value.ref a:=rx
 exact mU hu I3 g ry rv fun s4 I4=>⟨σ,H4,I4,q3⟩
end
theorem kJ{P:Program}{w:World}{H:Hp}(h:Heap)(hb:sysModules<h.objs.size):zc P w H (h.push {cls:=.type "dict",data:=.dict #[]}) h.objs.size (.dK []):=
 ⟨Nat.zero_le _,beq_eq_false_iff_ne.mpr (Ne.symm (Nat.ne_of_lt hb)),[],.nil,Heap.DictOf.new h⟩
theorem kK{P:Program}{w:World}{H:Hp}(h:Heap)(hb:sysModules<h.objs.size):zc P w H (h.push {cls:=.type "dict",data:=.dict #[]}) h.objs.size (.dT []):=
 ⟨Nat.zero_le _,beq_eq_false_iff_ne.mpr (Ne.symm (Nat.ne_of_lt hb)),[],.nil,_,#[],0,Heap.get?_push_size _ rfl,⟨rfl,rfl,rfl⟩,rfl,rfl,List.nodup_nil⟩
noncomputable def az:TE:=fun _ H Q=>∀p,H p=none→Q (.ref p) (upd H p (.dK []))
noncomputable def a0:TE:=fun _ H Q=>∀p,H p=none→Q (.ref p) (upd H p (.dT []))
section
variable {X:Cx}{pos:Pos}
theorem jx:PE X (.Dict [] [] pos) az:=fun pins s σ H Q I h=>
 wpAny_Dict_empty ⟨.ref s.heap.objs.size,_,I.laid (a:=s.heap.objs.size) (o:=.dK []) (t':=s.toks) (fun _ _ q=>Heap.get?_push_of_some _ q) (Nat.le_refl _) (kJ s.heap I.big),rfl,h _ (I.hok.fresh (Nat.le_refl _))⟩
theorem jy:PE X (.Dict [] [] pos) a0:=fun pins s σ H Q I h=>
 wpAny_Dict_empty ⟨.ref s.heap.objs.size,_,I.laid (a:=s.heap.objs.size) (o:=.dT []) (t':=s.toks) (fun _ _ q=>Heap.get?_push_of_some _ q) (Nat.le_refl _) (kK s.heap I.big),rfl,h _ (I.hok.fresh (Nat.le_refl _))⟩
end
end L2
end
section
namespace M
open PySem
section
variable {K:KF}{mg:Str→Option Value}{ρ:Own}{H:L2.Hp}{s:Sto}
noncomputable def RO(K:KF)(mg:Str→Option Value)(ρ:Own)(H:L2.Hp):Option Val→Option L2.V→Prop
 |none,none=>True
 |some v,some x=>RD K mg ρ H v x
 |_,_=>False
theorem RO.isSome{o:Option Val}{o':Option L2.V}(h:RO K mg ρ H o o'):o'.isSome=o.isSome:=by
 cases o with
 |none=>cases o' with|none=>rfl|some _=>exact h.elim
 |some v=>cases o' with|none=>exact h.elim|some _=>rfl
theorem vQ{κ κ':Type} [DecidableEq κ] [DecidableEq κ'] {f:κ→κ'}(inj:∀a b,f a=f b→a=b)(k:κ):∀{kvs:List (κ × Val)} {kxs:List (κ' × L2.V)},kxs.map (·.1)=kvs.map (fun p=>f p.1)→RDs K mg ρ H (kvs.map (·.2)) (kxs.map (·.2))→RO K mg ρ H (p6 kvs k) (L2.uG kxs (f k))
 |[],[],_,_=>trivial
 |[],_::_,e,_=>by cases e
 |_::_,[],e,_=>by cases e
 |p::kvs,q::kxs,e,r=>by
  rw[List.map_cons,List.map_cons]at e r
  injection e with e1 e2
  cases r with
  |cons r1 r2=>
   show RO K mg ρ H (if p.1=k then some p.2 else p6 kvs k) _
   by_cases h:p.1=k
   . rw[if_pos h,L2.vn (by rw[e1,h])];exact r1
   . rw[if_neg h,L2.vm (fun z=>h (inj _ _ (e1.symm.trans z)))]
     exact vQ inj k e2 r2
theorem pU{κ κ':Type} [DecidableEq κ] [DecidableEq κ'] {f:κ→κ'}(inj:∀a b,f a=f b→a=b)(k:κ){v:Val}{x:L2.V}(rv:RD K mg ρ H v x):∀{kvs:List (κ × Val)} {kxs:List (κ' × L2.V)},kxs.map (·.1)=kvs.map (fun p=>f p.1)→RDs K mg ρ H (kvs.map (·.2)) (kxs.map (·.2)) →
 (kxs.map fun kv=>if kv.1=f k then (kv.1,x) else kv).map (·.1)=(kvs.map fun p=>if p.1=k then (p.1,v) else p).map (fun p=>f p.1)∧RDs K mg ρ H ((kvs.map fun p=>if p.1=k then (p.1,v) else p).map (·.2)) ((kxs.map fun kv=>if kv.1=f k then (kv.1,x) else kv).map (·.2))
 |[],[],_,_=>⟨rfl,.nil⟩
 |[],_::_,e,_=>by cases e
 |_::_,[],e,_=>by cases e
 |p::kvs,q::kxs,e,r=>by
  rw[List.map_cons,List.map_cons]at e r
  injection e with e1 e2
  cases r with
  |cons r1 r2=>
   obtain⟨i1,i2⟩:=pU inj k rv e2 r2
   simp only[List.map_cons]
   by_cases h:p.1=k
   . have h':q.1=f k:=by rw[e1,h]
     rw[if_pos h,if_pos h']
     exact⟨by rw[i1,e1],.cons rv i2⟩
   . have h':¬q.1=f k:=fun z=>h (inj _ _ (e1.symm.trans z))
     rw[if_neg h,if_neg h']
     exact⟨by rw[i1,e1],.cons r1 i2⟩
theorem qf{κ κ':Type} [DecidableEq κ] [DecidableEq κ'] {f:κ→κ'}(inj:∀a b,f a=f b→a=b)(k:κ){v:Val}{x:L2.V}(rv:RD K mg ρ H v x){kvs:List (κ × Val)}{kxs:List (κ' × L2.V)}(e:kxs.map (·.1)=kvs.map (fun p=>f p.1))(r:RDs K mg ρ H (kvs.map (·.2)) (kxs.map (·.2))) :
 (L2.putK kxs (f k) x).map (·.1)=(kE kvs k v).map (fun p=>f p.1)∧RDs K mg ρ H ((kE kvs k v).map (·.2)) ((L2.putK kxs (f k) x).map (·.2)):=by
 unfold L2.putK kE
 rw[L2.sA,(vQ inj k e r).isSome]
 by_cases h:(p6 kvs k).isSome=true
 . rw[if_pos h,if_pos h];exact pU inj k rv e r
 . rw[if_neg h,if_neg h]
   refine⟨by rw[List.map_append,List.map_append,e];rfl,?_⟩
   rw[List.map_append,List.map_append]
   exact r.append (.cons rv .nil)
theorem nq(a b:Str)(h:(Sum.inr a:L2.Key)=Sum.inr b):a=b:=by injection h
theorem u6:∀a b:List Int,a.map (Sum.inl:Int→L2.Key)=b.map Sum.inl→a=b
 |[],[],_=>rfl
 |[],_::_,h=>by cases h
 |_::_,[],h=>by cases h
 |x::xs,y::ys,h=>by
  rw[List.map_cons,List.map_cons]at h
  injection h with h1 h2
  injection h1 with h1
  rw[h1,u6 xs ys h2]
theorem oA:∀{vs:List Val} {ns:List Int} {xs:List L2.V},intsOf vs=some ns→RDs K mg ρ H vs xs→xs=(ns.map Sum.inl).map L2.kV
 |[],_,_,h,.nil=>by cases h;rfl
 |v::vs,ns,_,h,.cons r rs=>by
  cases v with
  |int i=>
   simp only[intsOf,Option.map_eq_some_iff]at h
   obtain⟨ms,h1,rfl⟩:=h
   cases r
   rw[oA h1 rs];rfl
  |_=>cases h
theorem kF(hr:HR K mg ρ s H){d:Val}{xd:L2.V}{j:Nat}{c:Cel}(rd:RD K mg ρ H d xd)(e:nX s d=some (j,c)):∃a,xd=.ref a∧ρ.o[j]?=some a∧s[j]?=some c∧CR K mg ρ H a c:=by
 cases rd with
 |@dref a i h _=>
  simp only[nX,Option.map_eq_some_iff]at e
  obtain⟨c',h1,h2⟩:=e
  cases h2
  obtain⟨b,e1,e2⟩:=hr.cel _ _ h1
  rw[h]at e1;cases e1
  exact⟨_,rfl,h,h1,e2⟩
 |_=>cases e
theorem getD_at(hr:HR K mg ρ s H){d y:Val}{xd xy:L2.V}{o:Option Val}(rd:RD K mg ρ H d xd)(ry:RD K mg ρ H y xy)(e:getD d y s=some o):∃a o',xd=.ref a∧L2.uS H a xy o'∧RO K mg ρ H o o':=by
 unfold getD at e
 obtain⟨⟨j,c⟩,e1,e2⟩:=Option.bind_eq_some_iff.mp e
 obtain⟨a,rfl,_,_,cr⟩:=kF hr rd e1
 cases c with
 |lst vs=>cases e2
 |dS kvs=>
  cases ry with
  |str k=>
   cases e2
   obtain⟨kxs,h1,h2,h3⟩:=cr
   exact⟨a,_,rfl,L2.uS.k (k:=Sum.inr k) h1,vQ nq k h2 h3⟩
  |_=>cases e2
 |dT kvs=>
  cases ry with
  |tup n hb r=>
   obtain⟨ns,h4,h5⟩:=Option.map_eq_some_iff.mp e2
   subst h5
   rw[oA h4 r]at hb
   obtain⟨kxs,h1,h2,h3⟩:=cr
   exact⟨a,_,rfl,L2.uS.t h1 hb,vQ u6 ns h2 h3⟩
  |_=>cases e2
theorem f7(hr:HR K mg ρ s H){d y v:Val}{xd xy xv:L2.V}{s':Sto}(rd:RD K mg ρ H d xd)(ry:RD K mg ρ H y xy)(rv:RD K mg ρ H v xv)(e:putD d y v s=some s'):∃a H',xd=.ref a∧L2.rX H a xy xv H'∧Ext ρ H ρ H'∧HR K mg ρ s' H':=by
 unfold putD at e
 obtain⟨⟨j,c⟩,e1,e2⟩:=Option.bind_eq_some_iff.mp e
 obtain⟨c',e3,e4⟩:=Option.map_eq_some_iff.mp e2
 subst e4
 obtain⟨a,rfl,ho,hs,cr⟩:=kF hr rd e1
 cases c with
 |lst vs=>cases e3
 |dS kvs=>
  cases ry with
  |str k=>
   simp only[l7]at e3
   split at e3
   . rename_i hl
     cases e3
     obtain⟨kxs,h1,h2,h3⟩:=cr
     have hz:kxs.length<sizeLine:=by
      have:=congrArg List.length h2
      rw[List.length_map,List.length_map]at this
      rw[this,←z6];exact hl
     obtain⟨q1,q2⟩:=qf (H:=H) nq k rv h2 h3
     have X:Ext ρ H ρ (L2.upd H a (.dK (L2.putK kxs (Sum.inr k) xv))):=Ext.wU hr ho (by rw[h1];rfl)
     exact⟨a,_,rfl,L2.rX.k (k:=Sum.inr k) h1 hz,X,hr.wU ho (by rw[h1];rfl) ⟨_,L2.zV,q1,q2.mono X⟩⟩
   . cases e3
  |_=>cases e3
 |dT kvs=>
  cases ry with
  |tup n hb r=>
   obtain⟨ns,h4,h5⟩:=Option.bind_eq_some_iff.mp e3
   split at h5
   . rename_i hl
     cases h5
     rw[oA h4 r]at hb
     obtain⟨kxs,h1,h2,h3⟩:=cr
     have hz:kxs.length<sizeLine:=by
      have:=congrArg List.length h2
      rw[List.length_map,List.length_map]at this
      rw[this,←z6];exact hl
     obtain⟨q1,q2⟩:=qf (H:=H) u6 ns rv h2 h3
     have X:Ext ρ H ρ (L2.upd H a (.dT (L2.putK kxs (ns.map Sum.inl) xv))):=Ext.wU hr ho (by rw[h1];rfl)
     exact⟨a,_,rfl,L2.rX.t h1 hb hz,X,hr.wU ho (by rw[h1];rfl) ⟨_,L2.zV,q1,q2.mono X⟩⟩
   . cases h5
  |_=>cases e3
end
end M
end
section
namespace M
open PySem
section
variable {K:KF}{mg:Str→Option Value}{ρ ρ':Own}{H H':L2.Hp}{s s':Sto}
theorem RD.flat{v:Val}{x:L2.V}(r:RD K mg ρ H v x)(h:flat v=true):L2.xR x=true:=by
 cases r<;>first|rfl|cases h
theorem RD.eqF{v w:Val}{x y:L2.V}(r:RD K mg ρ H v x)(q:RD K mg ρ H w y)(h:M.flat v=true)(h':M.flat w=true):L2.eqV x y=M.eqF v w:=by
 cases r<;>first|(cases h;done)|(cases q<;>first|rfl|(cases h';done))
theorem RDs.flat:∀{vs:List Val} {xs:List L2.V},RDs K mg ρ H vs xs→vs.all flat=true→xs.all L2.xR=true
 |_,_,.nil,_=>rfl
 |_,_,.cons r rs,h=>by
  rw[List.all_cons,Bool.and_eq_true]at h
  rw[List.all_cons,r.flat h.1,rs.flat h.2];rfl
theorem RDs.countP{w:Val}{y:L2.V}(q:RD K mg ρ H w y)(hw:M.flat w=true):∀{vs:List Val} {xs:List L2.V},RDs K mg ρ H vs xs→vs.all M.flat=true→(xs.countP fun z=>L2.eqV z y)=vs.countP fun z=>M.eqF z w
 |_,_,.nil,_=>rfl
 |_,_,.cons r rs,h=>by
  rw[List.all_cons,Bool.and_eq_true]at h
  rw[List.countP_cons,List.countP_cons,r.eqF q h.1 hw,RDs.countP q hw rs h.2]
theorem RDs.findIdx{w:Val}{y:L2.V}(q:RD K mg ρ H w y)(hw:M.flat w=true):∀{vs:List Val} {xs:List L2.V},RDs K mg ρ H vs xs→vs.all M.flat=true→(xs.findIdx? fun z=>L2.eqV z y)=vs.findIdx? fun z=>M.eqF z w
 |_,_,.nil,_=>rfl
 |_,_,.cons r rs,h=>by
  rw[List.all_cons,Bool.and_eq_true]at h
  rw[List.findIdx?_cons,List.findIdx?_cons,r.eqF q h.1 hw,RDs.findIdx q hw rs h.2]
theorem RDs.bools:∀{vs:List Val} {xs:List L2.V} {bs:List Bool},RDs K mg ρ H vs xs→boolsOf vs=some bs→xs=bs.map L2.V.bl
 |_,_,_,.nil,h=>by cases h;rfl
 |_,_,_,.cons r rs,h=>by
  cases r with
  |bool b=>
   simp only[boolsOf,Option.map_eq_some_iff]at h
   obtain⟨bs',h1,h2⟩:=h
   subst h2
   rw[rs.bools h1];rfl
  |_=>cases h
theorem RDs.nt:∀{vs:List Val} {xs:List L2.V} {ns:List Int},RDs K mg ρ H vs xs→intsOf vs=some ns→xs=ns.map L2.V.int
 |_,_,_,.nil,h=>by cases h;rfl
 |_,_,_,.cons r rs,h=>by
  cases r with
  |int b=>
   simp only[intsOf,Option.map_eq_some_iff]at h
   obtain⟨bs',h1,h2⟩:=h
   subst h2
   rw[rs.nt h1];rfl
  |_=>cases h
theorem gF{vs:List Val}{xs:List L2.V}{i:Int}{v:Val}(r:RDs K mg ρ H vs xs)(h:L2.atI vs i=some v):∃x,L2.atI xs i=some x∧RD K mg ρ H v x:=by
 unfold L2.atI at h ⊢
 rw[←r.length]
 obtain⟨j,h1,h2⟩:=Option.bind_eq_some_iff.mp h
 obtain⟨x,h3,h4⟩:=r.get h2
 exact⟨x,by rw[h1];exact h3,h4⟩
theorem i7(hr:HR K mg ρ s H){v:Val}{x:L2.V}{b:Bool}(r:RD K mg ρ H v x)(h:truth s v=some b):L2.gC K x H b:=by
 have hz:∀{vs:List Val} {xs:List L2.V},RDs K mg ρ H vs xs→vs.isEmpty=xs.isEmpty:=fun r=>by cases r<;>rfl
 cases r with
 |none=>cases h;rfl
 |bool b=>cases h;rfl
 |int i=>cases h;rfl
 |str x=>
  simp only[truth]at h
  split at h
  . cases h
    rename_i q
    exact⟨by rw[←z6];exact q,rfl⟩
  . cases h
 |tup n e q=>cases h;exact .inr (.inl ⟨_,.of e,by rw[hz q]⟩)
 |lst n e q=>cases h;exact .inl ⟨_,.of e,by rw[hz q]⟩
 |dct0 n e=>cases h;exact .inr (.inr ⟨_,e,rfl⟩)
 |ctup _=>cases h
 |scr _=>cases h
 |@ref a i e _=>
  simp only[truth]at h
  split at h
  . rename_i ws hw
    cases h
    obtain⟨c,xs,e1,e2,q⟩:=hr.obj i _ hw
    rw[e]at e1;cases e1
    exact .inl ⟨_,.of e2,by rw[hz q]⟩
  . cases h
 |fn _=>cases h
 |ty _=>cases h
 |dref _ _=>cases h
theorem Y1(hr:HR K mg ρ s H){v:Val}{x:L2.V}{a:L2.Kd}(r:RD K mg ρ H v x)(h:kindOf v=some a):(L2.vN K H x (.type a.nm)):=by
 cases r with
 |none=>cases h;exact .non
 |bool b=>cases h;exact .bl b
 |int i=>cases h;exact .int i
 |str x=>cases h;exact .str x
 |tup n e q=>cases h;exact .tup e
 |lst n e q=>cases h;exact .lst e
 |dct0 n e=>cases h;exact .dK e
 |ref e k=>
  cases h
  obtain⟨xs,q⟩:=qC k
  exact .lst q
 |_=>cases h
theorem Zz{n:String}{c:L2.Kd}(h:v3 n=some c):n=c.nm∧c≠.non:=by
 unfold v3 at h
 split at h<;>first|(cases h;exact⟨rfl,by decide⟩)|cases h
end
section
variable {X:L2.Cx}{k:Nat}
theorem m5(hr0:L2.yn k X.A):L2.OpR X (compareOp .Eq) (rM2 X.K X.mg (zS .eq)):=by
 intro pins s σ H x y v u Q I rx ry h
 obtain⟨ρ,t,a,b,hr,ra,rb,w⟩:=h
 simp only[zS,sG]at w
 split at w
 . rename_i p q
   cases ra;cases rb
   have e:decide (L2.V.str p=L2.V.str q)=decide (p=q):=by
    rw[Bool.eq_iff_iff];simp
   refine L2.Z4 pins s σ H _ _ v u Q I rx ry ⟨rfl,?_⟩
   rw[e]
   exact zK hr (.bool _) w
 . rename_i a ns
   cases rb with
   |ctup g=>
    by_cases hc:((zp t (.tup a)).isD&&(Val.tup (ns.map .int)).isD&&decide ((Val.tup (ns.map .int)).d.depth≤60))=true
    . rw[if_pos hc]at w
      simp only[Bool.and_eq_true,decide_eq_true_eq]at hc
      obtain⟨as,r1,_⟩:=y6 I.hok hr (ye hc.1.1) ra rx
      obtain⟨its,rv,p1,_⟩:=I.tuple g.sqt
      obtain⟨o,ho,hcl,n,hd⟩:=id p1
      obtain⟨bs,q,_⟩:=RDs.reads I.hok (RDs.ints (K:=X.K) (mg:=X.mg) (ρ:=ρ) (H:=H) ns) (ye hc.1.2) rv
      have r2:Reads s.heap u (Val.tup (ns.map .int)).d bs:=by cases ry;exact .tuple ho hcl hd (by simpa using q)
      have hu:=hr0.un
      have hm:=Nat.min_le_right (zp t (.tup a)).d.depth (Val.tup (ns.map .int)).d.depth
      exact SeqAt.compareEq_reads r1 r2 (zx hc.1.1) (zx hc.1.2) (by omega) ⟨.bl _,H,I,rfl,zK hr (.bool _) w⟩
    . rw[if_neg hc]at w;exact w.elim
 . by_cases hc:((zp t a).isD&&(zp t b).isD&&decide ((zp t b).d.depth≤60))=true
   . rw[if_pos hc]at w
     simp only[Bool.and_eq_true,decide_eq_true_eq]at hc
     obtain⟨as,r1,_⟩:=y6 I.hok hr (ye hc.1.1) ra rx
     obtain⟨bs,r2,_⟩:=y6 I.hok hr (ye hc.1.2) rb ry
     have hu:=hr0.un
     have hm:=Nat.min_le_right (zp t a).d.depth (zp t b).d.depth
     exact SeqAt.compareEq_reads r1 r2 (zx hc.1.1) (zx hc.1.2) (by omega) ⟨.bl _,H,I,rfl,zK hr (.bool _) w⟩
   . rw[if_neg hc]at w;exact w.elim
theorem lB(hr0:L2.yn k X.A):L2.OpR X (compareOp .NotEq) (rM2 X.K X.mg (zS .ne)):=by
 intro pins s σ H x y v u Q I rx ry h
 obtain⟨ρ,t,a,b,hr,ra,rb,w⟩:=h
 simp only[zS,sG]at w
 split at w
 . rename_i p q
   cases ra;cases rb
   have e:decide (L2.V.str p=L2.V.str q)=decide (p=q):=by
    rw[Bool.eq_iff_iff];simp
   refine L2.Z9 pins s σ H _ _ v u Q I rx ry ⟨rfl,?_⟩
   rw[e]
   exact zK hr (.bool _) w
 . by_cases hc:((zp t a).isD&&(zp t b).isD&&decide ((zp t b).d.depth≤60))=true
   . rw[if_pos hc]at w
     simp only[Bool.and_eq_true,decide_eq_true_eq]at hc
     obtain⟨as,r1,_⟩:=y6 I.hok hr (ye hc.1.1) ra rx
     obtain⟨bs,r2,_⟩:=y6 I.hok hr (ye hc.1.2) rb ry
     have hu:=hr0.un
     have hm:=Nat.min_le_right (zp t a).d.depth (zp t b).d.depth
     exact SeqAt.compareNe_reads r1 r2 (zx hc.1.1) (zx hc.1.2) (by omega) ⟨.bl _,H,I,rfl,zK hr (.bool _) w⟩
   . rw[if_neg hc]at w;exact w.elim
theorem RD.isNone{K:KF}{mg:Str→Option Value}{ρ:Own}{H:L2.Hp}{v:Val}{x:L2.V}(r:RD K mg ρ H v x):decide (x=.non)=v.isN:=by
 cases r<;>first|rfl|exact decide_eq_false (fun z=>nomatch z)
theorem m8:L2.OpR X (compareOp .Is) (rM2 X.K X.mg (zS .is)):=by
 intro pins s σ H x y v u Q I rx ry h
 obtain⟨ρ,t,a,b,hr,ra,rb,w⟩:=h
 cases rb with
 |none=>
  refine L2.aB pins s σ H _ _ v u Q I rx ry ⟨rfl,?_⟩
  rw[ra.isNone]
  exact zK hr (.bool _) w
 |bool c=>
  cases ra with
  |bool d=>cases rx;cases ry;cases c<;>cases d<;>exact wpAny_pure ⟨.bl _,H,I,rfl,zK hr (.bool _) w⟩
  |_=>exact w.elim
 |_=>exact w.elim
theorem qI:L2.OpR X (compareOp .IsNot) (rM2 X.K X.mg (zS .isNot)):=by
 intro pins s σ H x y v u Q I rx ry h
 obtain⟨ρ,t,a,b,hr,ra,rb,w⟩:=h
 cases rb with
 |none=>
  refine L2.fI pins s σ H _ _ v u Q I rx ry ⟨rfl,?_⟩
  rw[ra.isNone]
  exact zK hr (.bool _) w
 |bool c=>
  cases ra with
  |bool d=>cases rx;cases ry;cases c<;>cases d<;>exact wpAny_pure ⟨.bl _,H,I,rfl,zK hr (.bool _) w⟩
  |_=>exact w.elim
 |_=>exact w.elim
theorem lA:L2.OpR X (compareOp .Lt) (rM2 X.K X.mg (zS .lt)):=by
 intro pins s σ H x y v u Q I rx ry h
 obtain⟨ρ,t,a,b,hr,ra,rb,w⟩:=h
 simp only[zS]at w
 split at w
 . cases ra;cases rb
   exact L2.Z8 pins s σ H _ _ v u Q I rx ry ⟨_,_,rfl,rfl,zK hr (.bool _) w⟩
 . exact w.elim
theorem m9:L2.OpR X (compareOp .LtE) (rM2 X.K X.mg (zS .le)):=by
 intro pins s σ H x y v u Q I rx ry h
 obtain⟨ρ,t,a,b,hr,ra,rb,w⟩:=h
 simp only[zS]at w
 split at w
 . cases ra;cases rb
   exact L2.Z7 pins s σ H _ _ v u Q I rx ry ⟨_,_,rfl,rfl,zK hr (.bool _) w⟩
 . exact w.elim
theorem m7:L2.OpR X (compareOp .Gt) (rM2 X.K X.mg (zS .gt)):=by
 intro pins s σ H x y v u Q I rx ry h
 obtain⟨ρ,t,a,b,hr,ra,rb,w⟩:=h
 simp only[zS]at w
 split at w
 . cases ra;cases rb
   exact L2.Z6 pins s σ H _ _ v u Q I rx ry ⟨_,_,rfl,rfl,zK hr (.bool _) w⟩
 . exact w.elim
theorem m6:L2.OpR X (compareOp .GtE) (rM2 X.K X.mg (zS .ge)):=by
 intro pins s σ H x y v u Q I rx ry h
 obtain⟨ρ,t,a,b,hr,ra,rb,w⟩:=h
 simp only[zS]at w
 split at w
 . cases ra;cases rb
   exact L2.Z5 pins s σ H _ _ v u Q I rx ry ⟨_,_,rfl,rfl,zK hr (.bool _) w⟩
 . exact w.elim
noncomputable def Cop.op:Cop→CmpOp
 |.eq=>.Eq|.ne=>.NotEq|.lt=>.Lt|.le=>.LtE|.gt=>.Gt|.ge=>.GtE|.is=>.Is|.isNot=>.IsNot|.in_=>.In|.notIn=>.NotIn|.inD=>.In|.notInD=>.NotIn
theorem oW(hr0:L2.yn k X.A):L2.OpR X (compareOp .In) (rM2 X.K X.mg (zS .inD)):=by
 intro pins s σ H x y v u Q I rx ry h
 obtain⟨ρ,t,a,b,hr,ra,rb,w⟩:=h
 simp only[zS]at w
 split at w
 . rename_i o e
   obtain⟨p,o',rfl,g,ro⟩:=getD_at hr rb ra e
   cases (show u=Value.ref p from ry)
   exact L2.XB (by have:=hr0.un;omega) I g rx fun s3 I3=>⟨.bl o'.isSome,H,I3,rfl,by rw[ro.isSome];exact zK hr (.bool _) w⟩
 . exact w.elim
theorem sJ(hr0:L2.yn k X.A):L2.OpR X (compareOp .NotIn) (rM2 X.K X.mg (zS .notInD)):=by
 intro pins s σ H x y v u Q I rx ry h
 obtain⟨ρ,t,a,b,hr,ra,rb,w⟩:=h
 simp only[zS]at w
 split at w
 . rename_i o e
   obtain⟨p,o',rfl,g,ro⟩:=getD_at hr rb ra e
   cases (show u=Value.ref p from ry)
   exact L2.gO (by have:=hr0.un;omega) I g rx fun s3 I3=>⟨.bl !o'.isSome,H,I3,rfl,by rw[ro.isSome];exact zK hr (.bool _) w⟩
 . exact w.elim
noncomputable def okC:Cop→Bool
 |.in_|.notIn=>false
 |_=>true
theorem uA(hr0:L2.yn k X.A):∀op:Cop,okC op=true→L2.OpR X (compareOp op.op) (rM2 X.K X.mg (zS op))
 |.eq,_=>m5 hr0
 |.ne,_=>lB hr0
 |.lt,_=>lA
 |.le,_=>m9
 |.gt,_=>m7
 |.ge,_=>m6
 |.is,_=>m8
 |.isNot,_=>qI
 |.in_,h=>by cases h
 |.notIn,h=>by cases h
 |.inD,_=>oW hr0
 |.notInD,_=>sJ hr0
noncomputable def Bop.op:Bop→Operator
 |.add=>.Add|.sub=>.Sub|.mul=>.Mult|.fdiv=>.FloorDiv|.mod=>.Mod|.pow=>.Pow|.shl=>.LShift|.shr=>.RShift|.band=>.BitAnd
noncomputable def okB:Bop→Bool
 |.shl|.shr|.band=>false
 |_=>true
theorem b9(m:Bool):∀op:Bop,okB op=true→L2.OpR X (binaryOp op.op) (rM2 X.K X.mg (binOp m op))
 |.add,_=>oR m
 |.sub,_=>oV m
 |.mul,_=>oT m
 |.fdiv,_=>pF m
 |.mod,_=>oS m
 |.pow,_=>oU m
 |.shl,h=>by cases h
 |.shr,h=>by cases h
 |.band,h=>by cases h
theorem Zl:L2.IxR X (rM2 X.K X.mg y1):=by
 intro value slice pins s σ H x y v u Q I rx ry h hs
 obtain⟨ρ,t,a,b,hr,ra,rb,w⟩:=h
 simp only[y1]at w
 split at w
 . split at w
   . rename_i vs e
     split at w
     . rename_i z hz
       obtain⟨p,xs,rfl,hq,q⟩:=ox hr ra e
       cases rb
       obtain⟨xz,h1,h2⟩:=gF q hz
       refine L2.cg value slice pins s σ H _ _ v u Q I rx ry ?_ hs
       rcases hq with hq|hq
       . exact .inl ⟨p,xs,_,xz,rfl,rfl,hq,h1,zK hr h2 w⟩
       . exact .inr (.inl ⟨p,xs,_,xz,rfl,rfl,hq,h1,zK hr h2 w⟩)
     . exact w.elim
   . exact w.elim
 . exact w.elim
end
end M
end
section
namespace M
open PySem
noncomputable def Bf.nm:Bf→Str
 |.len=>"len"|.all=>"all"|.any=>"any"|.tuple=>"tuple"|.list=>"list"|.sorted=>"sorted"|.repr=>"repr"|.max=>"max"|.min=>"min"|.sum=>"sum"|.int=>"int"|.isi=>"isinstance"|.divmod=>"divmod"|.str=>"str"|.sortedI=>"sorted"
noncomputable def Bf.val:Bf→Value
 |.len=>.builtin "len"|.all=>.builtin "all"|.any=>.builtin "any"|.tuple=>.type "tuple"|.list=>.type "list"|.sorted=>.builtin "sorted"|.repr=>.builtin "repr"|.max=>.builtin "max"|.min=>.builtin "min"|.sum=>.builtin "sum"|.int=>.type "int"
 |.isi=>.builtin "isinstance"|.divmod=>.builtin "divmod"|.str=>.type "str"|.sortedI=>.builtin "sorted"
theorem Bf.boot:∀f:Bf,bootBuiltins f.nm=some f.val
 |.len=>boot_len|.all=>PyProof.Rows.boot_all|.any=>PyProof.Rows.boot_any|.tuple=>PyProof.Rows.boot_tuple|.list=>PyProof.Rows.boot_list|.sorted=>PyProof.Rows.boot_sorted|.repr=>PyProof.Rows.boot_repr|.max=>PyProof.Rows.boot_max|.min=>PyProof.Rows.boot_min
 |.sum=>PyProof.Rows.boot_sum|.int=>PyProof.Rows.boot_int|.isi=>PyProof.Rows.boot_isinstance|.divmod=>PyProof.Rows.boot_divmod|.str=>PyProof.Rows.boot_str|.sortedI=>PyProof.Rows.boot_sorted
section
variable {X:L2.Cx}{k:Nat}{m:Bool}
theorem tS{K:KF}{mg:Str→Option Value}{ρ:Own}{H:L2.Hp}{v:Val}{xs:List L2.V}(r:RDs K mg ρ H [v] xs):∃x,xs=[x]∧RD K mg ρ H v x:=by
 cases r with
 |cons r1 r2=>cases r2;exact⟨_,rfl,r1⟩
theorem lL{K:KF}{mg:Str→Option Value}{ρ:Own}{H:L2.Hp}{v w:Val}{xs:List L2.V}(r:RDs K mg ρ H [v,w] xs):∃x y,xs=[x,y]∧RD K mg ρ H v x∧RD K mg ρ H w y:=by
 cases r with
 |cons r1 r2=>
  obtain⟨y,rfl,r3⟩:=tS r2
  exact⟨_,_,rfl,r1,r3⟩
theorem l0:L2.yN X (.builtin "len") (rMc X.K X.mg (blt .len m)):=by
 intro pins s σ H xs us Q I r h
 obtain⟨ρ,t,vs,hr,rv,w⟩:=h
 simp only[blt]at w
 split at w
 . split at w
   . rename_i hz
     obtain⟨x,rfl,rx⟩:=tS rv
     cases rx
     exact L2.rh pins s σ H _ us Q I r ⟨_,rfl,by rw[←z6];exact hz,zK hr (.int _) w⟩
   . exact w.elim
 . split at w
   . rename_i e
     obtain⟨x,rfl,rx⟩:=tS rv
     obtain⟨p,ys,rfl,hq,q⟩:=ox hr rx e
     refine L2.rg pins s σ H _ us Q I r ⟨p,ys,rfl,hq,?_⟩
     rw[←q.length]
     exact zK hr (.int _) w
   . exact w.elim
 . exact w.elim
theorem uq(hc:X.calm=true):L2.yN X (.builtin "all") (rMc X.K X.mg (blt .all m)):=by
 intro pins s σ H xs us Q I r h
 obtain⟨ρ,t,vs,hr,rv,w⟩:=h
 simp only[blt]at w
 split at w
 . split at w
   . rename_i e
     split at w
     . rename_i bs eb
       obtain⟨x,rfl,rx⟩:=tS rv
       obtain⟨p,ys,rfl,hq,q⟩:=xW hr rx e
       rw[q.bools eb]at hq
       exact L2.uq hc pins s σ H _ us Q I r ⟨p,bs,rfl,.of hq,zK hr (.bool _) w⟩
     . exact w.elim
   . exact w.elim
 . exact w.elim
theorem pv:L2.yN X (.type "tuple") (rMc X.K X.mg (blt .tuple m)):=by
 intro pins s σ H xs us Q I r h
 obtain⟨ρ,t,vs,hr,rv,w⟩:=h
 simp only[blt]at w
 split at w
 . obtain⟨x,rfl,rx⟩:=tS rv
   cases rx with
   |tup n e q=>exact L2.wy pins s σ H _ us Q I r ⟨_,_,rfl,.inr ⟨.of e,zK hr (.tup n e q) w⟩⟩
 . split at w
   . rename_i e
     obtain⟨x,rfl,rx⟩:=tS rv
     obtain⟨p,ys,rfl,hq,q⟩:=xW hr rx e
     exact L2.wy pins s σ H _ us Q I r ⟨p,ys,rfl,.inl ⟨.of hq,ue hr q w⟩⟩
   . exact w.elim
 . exact w.elim
theorem l5(hc:X.calm=true):L2.yN X (.builtin "max") (rMc X.K X.mg (blt .max m)):=by
 intro pins s σ H xs us Q I r h
 obtain⟨ρ,t,vs,hr,rv,w⟩:=h
 simp only[blt]at w
 split at w
 . obtain⟨x,y,rfl,rx,ry⟩:=lL rv
   cases rx;cases ry
   exact L2.mM hc pins s σ H _ us Q I r ⟨_,_,rfl,zK hr (.int _) w⟩
 . split at w
   . rename_i e
     split at w
     . rename_i ns en
       split at w
       . rename_i hn
         obtain⟨x,rfl,rx⟩:=tS rv
         obtain⟨p,ys,rfl,hq,q⟩:=xW hr rx e
         rw[q.nt en]at hq
         exact L2.mN hc pins s σ H _ us Q I r ⟨p,ns,rfl,.of hq,hn,zK hr (.int _) w⟩
       . exact w.elim
     . exact w.elim
   . exact w.elim
 . exact w.elim
theorem l6(hc:X.calm=true):L2.yN X (.builtin "min") (rMc X.K X.mg (blt .min m)):=by
 intro pins s σ H xs us Q I r h
 obtain⟨ρ,t,vs,hr,rv,w⟩:=h
 simp only[blt]at w
 split at w
 . obtain⟨x,y,rfl,rx,ry⟩:=lL rv
   cases rx;cases ry
   exact L2.mO hc pins s σ H _ us Q I r ⟨_,_,rfl,zK hr (.int _) w⟩
 . split at w
   . rename_i e
     split at w
     . rename_i ns en
       split at w
       . rename_i hn
         obtain⟨x,rfl,rx⟩:=tS rv
         obtain⟨p,ys,rfl,hq,q⟩:=xW hr rx e
         rw[q.nt en]at hq
         exact L2.mP hc pins s σ H _ us Q I r ⟨p,ns,rfl,.of hq,hn,zK hr (.int _) w⟩
       . exact w.elim
     . exact w.elim
   . exact w.elim
 . exact w.elim
theorem lz:L2.yN X (.type "int") (rMc X.K X.mg (blt .int m)):=by
 intro pins s σ H xs us Q I r h
 obtain⟨ρ,t,vs,hr,rv,w⟩:=h
 simp only[blt]at w
 split at w
 . obtain⟨x,rfl,rx⟩:=tS rv
   cases rx
   exact L2.sr pins s σ H _ us Q I r (.inl ⟨_,rfl,zK hr (.int _) w⟩)
 . obtain⟨x,rfl,rx⟩:=tS rv
   cases rx
   exact L2.sr pins s σ H _ us Q I r (.inr ⟨_,rfl,zK hr (.int _) w⟩)
 . exact w.elim
theorem ur:L2.yN X (.builtin "isinstance") (rMc X.K X.mg (blt .isi m)):=by
 intro pins s σ H xs us Q I r h
 obtain⟨ρ,t,vs,hr,rv,w⟩:=h
 simp only[blt]at w
 split at w
 . split at w
   . rename_i ea ec
     obtain⟨x,y,rfl,rx,ry⟩:=lL rv
     cases ry
     obtain⟨e1,e2⟩:=Zz ec
     subst e1
     exact L2.ur pins s σ H _ us Q I r ⟨_,_,_,_,rfl,Y1 hr rx ea,L2.bp X.K _ _ e2,zK hr (.bool _) w⟩
   . exact w.elim
 . exact w.elim
theorem wG:L2.yN X (.builtin "divmod") (rMc X.K X.mg (blt .divmod m)):=by
 intro pins s σ H xs us Q I r h
 obtain⟨ρ,t,vs,hr,rv,w⟩:=h
 simp only[blt]at w
 split at w
 . split at w
   . rename_i hz
     obtain⟨x,y,rfl,rx,ry⟩:=lL rv
     cases rx;cases ry
     exact L2.wG pins s σ H _ us Q I r ⟨_,_,rfl,hz,ue hr (.cons (.int _) (.cons (.int _) .nil)) w⟩
   . exact w.elim
 . exact w.elim
theorem insI_perm(z:Int):∀l:List Int,(insI z l).Perm (z::l)
 |[]=>.refl _
 |y::ys=>by
  unfold insI
  split
  . exact .refl _
  . exact((insI_perm z ys).cons y).trans (.swap z y ys)
theorem sortI_perm:∀l:List Int,(sortI l).Perm l
 |[]=>.refl _
 |z::zs=>(insI_perm z _).trans ((sortI_perm zs).cons z)
theorem nr(z:Int):∀{l:List Int},l.Pairwise (·≤·)→(insI z l).Pairwise (·≤·)
 |[],_=>List.pairwise_singleton _ _
 |y::ys,h=>by
  rw[List.pairwise_cons]at h
  unfold insI
  split
  . rename_i hz
    exact .cons (fun x hx=>by rcases List.mem_cons.mp hx with rfl|hx;exact hz;exact Int.le_trans hz (h.1 x hx)) (.cons h.1 h.2)
  . rename_i hz
    exact .cons (fun x hx=>by rcases List.mem_cons.mp ((insI_perm z ys).mem_iff.mp hx) with rfl|hx;omega;exact h.1 x hx) (nr z h.2)
theorem tm:∀l:List Int,(sortI l).Pairwise (·≤·)
 |[]=>.nil
 |z::zs=>nr z (tm zs)
theorem rj:L2.yN X (.builtin "sorted") (rMc X.K X.mg (blt .sortedI m)):=by
 intro pins s σ H xs us Q I r h
 obtain⟨ρ,t,vs,hr,rv,w⟩:=h
 simp only[blt]at w
 split at w
 . split at w
   . rename_i e
     split at w
     . rename_i ns ei
       split at w
       . rename_i hz
         obtain⟨x,rfl,rx⟩:=tS rv
         obtain⟨p,ys,rfl,hq,q⟩:=ox hr rx e
         obtain rfl:=RDs.nt q ei
         refine L2.pq pins s σ H _ us Q I r ⟨p,ns,rfl,hq,hz,fun l ns' hl hp ho=>?_⟩
         obtain rfl:ns'=sortI ns:=List.Perm.eq_of_pairwise (fun a b _ _ h1 h2=>Int.le_antisymm h1 h2) ho (tm ns) (hp.trans (sortI_perm ns).symm)
         exact xT hr (RDs.ints _) w l hl
       . exact w.elim
     . exact w.elim
   . exact w.elim
 . exact w.elim
noncomputable def okF:Bf→Bool
 |.any|.list|.sorted|.repr|.sum|.str=>false
 |_=>true
theorem gI(hc:X.calm=true)(hr0:L2.yn k X.A):∀(f:Bf) (m:Bool),okF f=true→L2.yN X f.val (rMc X.K X.mg (blt f m))
 |.len,_,_=>l0
 |.all,_,_=>uq hc
 |.any,_,h=>by cases h
 |.tuple,_,_=>pv
 |.list,_,h=>by cases h
 |.sorted,_,h=>by cases h
 |.repr,_,h=>by cases h
 |.max,_,_=>l5 hc
 |.min,_,_=>l6 hc
 |.sum,_,h=>by cases h
 |.int,_,_=>lz
 |.isi,_,_=>ur
 |.divmod,_,_=>wG
 |.str,_,h=>by cases h
 |.sortedI,_,_=>rj
end
end M
end
section
namespace M
open PySem
noncomputable def Out.isOk{α:Type}:Out α→Bool
 |.ok _ _=>true
 |.exc _ _ _|.stuck=>false
theorem zC{α:Type}{o:Out α}(h:o.isOk=false)(v:α)(s:Sto):o≠.ok v s:=fun e=>by subst e;cases h
noncomputable def plain:Expr→Bool
 |.Starred ..|.Set ..|.Slice ..|.SetComp ..=>false
 |_=>true
theorem zO{e:Expr}(h:plain e=true):L2.noStar e=true:=by cases e<;>first|rfl|cases h
theorem x6{op:CmpOp}{e:Expr}(h:plain e=true):behindInMarks op e=false:=by cases e<;>first|rfl|cases h
theorem pP{e:Expr}(h:plain e=true):L2.nQ e:=by
 intro o i
 cases e<;>first|rfl|cases h
theorem z0{e:Expr}{env:PySem.Env}(h:plain e=true)(x:Value):foldedSetIterable e env x=pure x:=by cases e<;>first|rfl|cases h
noncomputable def qH:Expr→Bool
 |.Call (.Name _ _) [] [] _=>false
 |_=>true
theorem xQ{o:Expr}{name:Str}{env:PySem.Env}(h:qH o=true):attributeBase o name env (eval o env)=eval o env:=by
 unfold attributeBase
 split
 . cases h
 . rfl
noncomputable def plainT:Expr→Bool
 |.UnaryOp .Not _ _|.BoolOp ..|.IfExp ..|.Compare ..=>false
 |_=>true
theorem lJ{e:Expr}{env:PySem.Env}(h:plainT e=true)(whole:Sem Value):isTrue e env whole=(do let v ←whole;standAt e.pos;holding [v] (truthy v)):=by
 cases e with
 |UnaryOp op a p=>cases op<;>first|rfl|cases h
 |_=>first|rfl|cases h
noncomputable def yM:List Expr→Bool
 |[]=>true
 |e::es=>plain e&&yM es
theorem vM:∀{es:List Expr} {pos:Pos} {env:PySem.Env},yM es=true→(backTo pos (starEach es env)).any (·.1)=false
 |[],_,_,_=>rfl
 |e::es,pos,env,h=>by
  rw[yM,Bool.and_eq_true]at h
  rw[L2.zZ (zO h.1)]
  show (false||(backTo pos (starEach es env)).any (·.1))=false
  rw[vM h.2];rfl
section
variable {K:KF}{mg:Str→Option Value}{env:Env}{s s1:Sto}{ρ ρ':Own}{H H':L2.Hp}
theorem yC.mono{α β:Type}{R:Own→L2.Hp→α→β→Prop}{o:Out α}{Q:β→L2.Hp→Prop}(w:yC K mg R ρ H o Q)(x:Ext ρ H ρ' H')(h:HR K mg ρ' s1 H'):yC K mg R ρ' H' o Q:=by
 cases o with
 |ok v s'=>exact fun ρ2 y H2 x2 h2 r2=>w ρ2 y H2 (x.trans h x2) h2 r2
 |_=>exact w
end
section
variable {X:L2.Cx}{env:Env}{s:Sto}{E a b c:Expr}
theorem zG{o:Out Val}(h:∀v s',o≠.ok v s'):L2.PE X E (tV X.K X.mg env s o):=YS fun _ _ _=>Yz h
theorem un1{o:Out Val}{r:L2.V→L2.Hp→L2.VK→Prop}{g:Val→Sto→Out Val}(h:L2.PE X a (tV X.K X.mg env s o))(rule:∀ta,L2.PE X a ta→L2.PE X E (L2.tUn r ta))
 (op:∀ρ H s1 v x Q,HR X.K X.mg ρ s1 H→RD X.K X.mg ρ H v x→yC X.K X.mg (RD X.K X.mg) ρ H (g v s1) Q→r x H Q):L2.PE X E (tV X.K X.mg env s (o.bind g)):=by
 cases o with
 |ok v s1=>exact zX (rule _ h) fun σ H Q ⟨ρ,hr,er,w⟩=>⟨ρ,hr,er,fun ρ1 x H1 x1 hr1 r1=>op ρ1 H1 s1 v x Q hr1 r1 (w.mono x1 hr1)⟩
 |exc _ _ _=>exact zG (zC rfl)
 |stuck=>exact zG (zC rfl)
theorem cA{o:Out Val}{f2:Sto→Out Val}{g:Val→Val→Sto→Out Val}(h1:L2.PE X a (tV X.K X.mg env s o))(h2:∀s1,L2.PE X b (tV X.K X.mg env s1 (f2 s1)))
 (rule:∀ta tb,L2.PE X a ta→L2.PE X b tb→L2.PE X E (L2.tOp (rM2 X.K X.mg g) ta tb)):L2.PE X E (tV X.K X.mg env s (o.bind fun x s1=>(f2 s1).bind fun y s2=>g x y s2)):=by
 cases o with
 |ok v s1=>
  show L2.PE X E (tV X.K X.mg env s ((f2 s1).bind fun y s2=>g v y s2))
  have h2':=h2 s1
  cases hb:f2 s1 with
  |ok w s2=>
   rw[hb]at h2'
   exact zX (rule _ _ h1 h2') fun σ H Q ⟨ρ,hr,er,wt⟩=>⟨ρ,hr,er,fun ρ1 x H1 x1 hr1 r1=>⟨ρ1,hr1,er.mono x1,fun ρ2 y H2 x2 hr2 r2=>⟨ρ2,s2,v,w,hr2,r1.mono x2,r2,wt.mono (x1.trans hr1 x2) hr2⟩⟩⟩
  |exc _ _ _=>exact zG (zC rfl)
  |stuck=>exact zG (zC rfl)
 |exc _ _ _=>exact zG (zC rfl)
 |stuck=>exact zG (zC rfl)
theorem kz{op op':Cop}{o:Out Val}{f2 f3:Sto→Out Val}{k:Nat}{pos:Pos}(k1:okC op=true)(k2:okC op'=true)(hr0:L2.yn k X.A)(h1:L2.PE X a (tV X.K X.mg env s o))(h2:∀s1,L2.PE X b (tV X.K X.mg env s1 (f2 s1)))(h3:∀s1,L2.PE X c (tV X.K X.mg env s1 (f3 s1)))(hm:plain c=true) :
 L2.PE X (.Compare a [op.op,op'.op] [b,c] pos) (tV X.K X.mg env s (o.bind fun x s1=>(f2 s1).bind fun y s2=>(zS op x y s2).bind fun r s3=>match r with
  |.bool true=>(f3 s3).bind fun z s4=>zS op' y z s4
  |.bool false=>.ok (.bool false) s3
  |_=>.stuck)):=by
 cases o with
 |ok v s1=>
  have h2':=h2 s1
  show L2.PE X _ (tV X.K X.mg env s ((f2 s1).bind _))
  cases hb:f2 s1 with
  |ok w s2=>
   rw[hb]at h2'
   show L2.PE X _ (tV X.K X.mg env s ((zS op v w s2).bind _))
   cases hc:zS op v w s2 with
   |ok r s3=>
    cases r with
    |bool t=>
     have h3':=h3 s3
     have rule:=L2.jw (pos:=pos) (uA hr0 op k1) (uA hr0 op' k2) h1 h2' h3' (show lastMarks [op.op,op'.op] [b,c]=false from x6 hm)
     refine zX rule fun σ H Q ⟨ρ,hr,er,wt⟩=>⟨ρ,hr,er,fun ρ1 x H1 x1 hr1 r1=>⟨ρ1,hr1,er.mono x1,fun ρ2 y H2 x2 hr2 r2=>⟨ρ2,s2,v,w,hr2,r1.mono x2,r2,?_⟩⟩⟩
     rw[hc]
     intro ρ3 z H3 x3 hr3 r3
     cases r3
     refine⟨t,rfl,?_⟩
     have xx:=(x1.trans hr1 x2).trans hr2 x3
     have wt':=wt.mono xx hr3
     cases t with
     |true=>
      rw[if_pos rfl]
      refine⟨ρ3,hr3,er.mono xx,?_⟩
      have wt2:yC X.K X.mg (RD X.K X.mg) ρ3 H3 ((f3 s3).bind fun z s4=>zS op' w z s4) Q:=wt'
      cases hz:f3 s3 with
      |ok u s4=>
       rw[hz]at wt2
       exact fun ρ4 q H4 x4 hr4 r4=>⟨ρ4,s4,w,u,hr4,(r2.mono x3).mono x4,r4,wt2.mono x4 hr4⟩
      |exc _ _ _=>rw[hz]at wt2;exact wt2
      |stuck=>rw[hz]at wt2;exact wt2
     |false=>
      rw[if_neg Bool.false_ne_true]
      exact zK hr3 (.bool false) wt'
    |_=>exact zG (zC rfl)
   |exc _ _ _=>exact zG (zC rfl)
   |stuck=>exact zG (zC rfl)
  |exc _ _ _=>exact zG (zC rfl)
  |stuck=>exact zG (zC rfl)
 |exc _ _ _=>exact zG (zC rfl)
 |stuck=>exact zG (zC rfl)
theorem bR{o:Out Val}{pos:Pos}(h:L2.PE X a (tV X.K X.mg env s o)):L2.PE X (.UnaryOp .USub a pos) (tV X.K X.mg env s (o.bind fun x s1=>match x with|.int i=>.ok (.int (-i)) s1|_=>.stuck)):=by
 refine un1 h (fun ta q=>L2.YV L2.ZJ q) fun ρ H s1 v x Q hr r w=>?_
 cases r with
 |int i=>exact⟨i,rfl,zK hr (.int _) w⟩
 |_=>exact w.elim
theorem bS{o:Out Val}{pos:Pos}(h:L2.PE X a (tV X.K X.mg env s o)):L2.PE X (.UnaryOp .Not a pos) (tV X.K X.mg env s (o.bind fun x s1=>match x with|.bool b=>.ok (.bool !b) s1|_=>.stuck)):=by
 refine un1 (r:=fun x H Q=>∃c,x=.bl c∧Q (.bl (!c)) H) h (fun ta q=>L2.aY q) fun ρ H s1 v x Q hr r w=>?_
 cases r with
 |bool i=>exact⟨i,rfl,zK hr (.bool _) w⟩
 |_=>exact w.elim
theorem kx{rest:List Expr}{o:Out Val}{f2:Sto→Out Val}{pos:Pos}(h1:L2.PE X a (tV X.K X.mg env s o))(h2:∀s1,L2.PE X (.BoolOp .And (b::rest) pos) (tV X.K X.mg env s1 (f2 s1))) :
 L2.PE X (.BoolOp .And (a::b::rest) pos) (tV X.K X.mg env s (o.bind fun x s1=>match x with|.bool true=>f2 s1|.bool false=>.ok (.bool false) s1|_=>.stuck)):=by
 cases o with
 |ok v s1=>
  refine zX (L2.aU h1 (h2 s1)) fun σ H Q ⟨ρ,hr,er,wt⟩=>⟨ρ,hr,er,fun ρ1 x H1 x1 hr1 r1=>?_⟩
  have wt':=wt.mono x1 hr1
  cases r1 with
  |bool t=>
   refine⟨t,rfl,?_⟩
   cases t with
   |true=>exact L2.sI (⟨ρ1,hr1,er.mono x1,wt'⟩)
   |false=>exact L2.sH (zK hr1 (.bool _) wt')
  |_=>exact wt'.elim
 |exc _ _ _=>exact zG (zC rfl)
 |stuck=>exact zG (zC rfl)
theorem Zt{rest:List Expr}{o:Out Val}{f2:Sto→Out Val}{pos:Pos}(h1:L2.PE X a (tV X.K X.mg env s o))(h2:∀s1,L2.PE X (.BoolOp .Or (b::rest) pos) (tV X.K X.mg env s1 (f2 s1))) :
 L2.PE X (.BoolOp .Or (a::b::rest) pos) (tV X.K X.mg env s (o.bind fun x s1=>match truth s1 x with|some false=>f2 s1|some true=>.ok x s1|Option.none=>.stuck)):=by
 cases o with
 |ok v s1=>
  refine zX (L2.aZ h1 (h2 s1)) fun σ H Q ⟨ρ,hr,er,wt⟩=>⟨ρ,hr,er,fun ρ1 x H1 x1 hr1 r1=>?_⟩
  have wt':yC X.K X.mg (RD X.K X.mg) ρ1 H1 (match truth s1 v with|some false=>f2 s1|some true=>.ok v s1|Option.none=>.stuck) Q:=wt.mono x1 hr1
  cases ht:truth s1 v with
  |none=>rw[ht]at wt';exact wt'.elim
  |some t=>
   rw[ht]at wt'
   refine⟨t,i7 hr1 r1 ht,?_⟩
   cases t with
   |true=>exact L2.sI (zK hr1 r1 wt')
   |false=>exact L2.sH (⟨ρ1,hr1,er.mono x1,wt'⟩)
 |exc _ _ _=>exact zG (zC rfl)
 |stuck=>exact zG (zC rfl)
theorem bO{o:Out Bool}{f2 f3:Sto→Out Val}{pos:Pos}(h1:L2.PT X c (tT X.K X.mg env s o))(h2:∀s1,L2.PE X a (tV X.K X.mg env s1 (f2 s1)))(h3:∀s1,L2.PE X b (tV X.K X.mg env s1 (f3 s1))) :
 L2.PE X (.IfExp c a b pos) (tV X.K X.mg env s (o.bind fun t s1=>if t then f2 s1 else f3 s1)):=by
 cases o with
 |ok v s1=>
  refine zX (L2.j4 h1 (h2 s1) (h3 s1)) fun σ H Q ⟨ρ,hr,er,wt⟩=>⟨ρ,hr,er,fun ρ1 x H1 x1 hr1 r1=>?_⟩
  have wt':=wt.mono x1 hr1
  cases r1
  cases v with
  |true=>exact L2.sI (⟨ρ1,hr1,er.mono x1,wt'⟩)
  |false=>exact L2.sH (⟨ρ1,hr1,er.mono x1,wt'⟩)
 |exc _ _ _=>exact zG (zC rfl)
 |stuck=>exact zG (zC rfl)
theorem vb{es:List Expr}{o:Out (List Val)}(h:∀v s',o≠.ok v s'):L2.PA X es (tVs X.K X.mg env s o):=YO fun _ _ _=>a9 h
theorem gq:L2.PA X [] (tVs X.K X.mg env s (.ok [] s)):=js L2.xB fun σ H Q ⟨ρ,hr,er,wt⟩=>wt ρ [] H Ext.refl hr .nil
theorem jD{es:List Expr}{o:Out Val}{f2:Sto→Out (List Val)}(hp:plain a=true)(h1:L2.PE X a (tV X.K X.mg env s o))(h2:∀s1,L2.PA X es (tVs X.K X.mg env s1 (f2 s1))) :
 L2.PA X (a::es) (tVs X.K X.mg env s (o.bind fun v s1=>(f2 s1).bind fun vs s2=>.ok (v::vs) s2)):=by
 cases o with
 |ok v s1=>
  have h2':=h2 s1
  show L2.PA X _ (tVs X.K X.mg env s ((f2 s1).bind _))
  cases hb:f2 s1 with
  |ok ws s2=>
   rw[hb]at h2'
   exact js (L2.pac h1 h2' (zO hp)) fun σ H Q ⟨ρ,hr,er,wt⟩=>⟨ρ,hr,er,fun ρ1 x H1 x1 hr1 r1=>⟨ρ1,hr1,er.mono x1,fun ρ2 y H2 x2 hr2 r2=>wt ρ2 _ H2 (x1.trans hr1 x2) hr2 (.cons (r1.mono x2) r2)⟩⟩
  |exc _ _ _=>exact vb (zC rfl)
  |stuck=>exact vb (zC rfl)
 |exc _ _ _=>exact vb (zC rfl)
 |stuck=>exact vb (zC rfl)
theorem jB{es:List Expr}{o:Out (List Val)}{k:Nat}{pos:Pos}(h:L2.PA X es (tVs X.K X.mg env s o)):L2.PE X (.Tuple es k pos) (tV X.K X.mg env s (o.bind fun vs s1=>if vs.length≤zR then .ok (.tup vs) s1 else .stuck)):=by
 cases o with
 |ok vs s1=>
  refine zX (L2.ab h) fun σ H Q ⟨ρ,hr,er,wt⟩=>⟨ρ,hr,er,fun ρ1 xs H1 x1 hr1 r1=>?_⟩
  have wt':yC X.K X.mg (RD X.K X.mg) ρ1 H1 (if vs.length≤zR then .ok (.tup vs) s1 else .stuck) Q:=wt.mono x1 hr1
  by_cases hz:vs.length≤zR
  . rw[if_pos hz]at wt'
    exact⟨by rw[←r1.length,←z6];exact hz,ue hr1 r1 wt'⟩
  . rw[if_neg hz]at wt';exact wt'.elim
 |exc _ _ _=>exact zG (zC rfl)
 |stuck=>exact zG (zC rfl)
theorem bQ{es:List Expr}{o:Out (List Val)}{m:Bool}{pos:Pos}(h:L2.PA X es (tVs X.K X.mg env s o)):L2.PE X (.List es pos) (tV X.K X.mg env s (o.bind fun vs s1=>if vs.length≤zR then newList m vs s1 else .stuck)):=by
 cases o with
 |ok vs s1=>
  refine zX (L2.aW h) fun σ H Q ⟨ρ,hr,er,wt⟩=>⟨ρ,hr,er,fun ρ1 xs H1 x1 hr1 r1=>?_⟩
  have wt':yC X.K X.mg (RD X.K X.mg) ρ1 H1 (if vs.length≤zR then newList m vs s1 else .stuck) Q:=wt.mono x1 hr1
  by_cases hz:vs.length≤zR
  . rw[if_pos hz]at wt'
    exact⟨by rw[←r1.length,←z6];exact hz,xT hr1 r1 wt'⟩
  . rw[if_neg hz]at wt';exact wt'.elim
 |exc _ _ _=>exact zG (zC rfl)
 |stuck=>exact zG (zC rfl)
theorem Zr{es:List Expr}{o:Out (List Val)}{g:List Val→Sto→Out Val}(h:L2.PA X es (tVs X.K X.mg env s o))(rule:∀t,L2.PA X es t→L2.PE X E (L2.tCB (rMc X.K X.mg g) t)):L2.PE X E (tV X.K X.mg env s (o.bind g)):=by
 cases o with
 |ok vs s1=>exact zX (rule _ h) fun σ H Q ⟨ρ,hr,er,wt⟩=>⟨ρ,hr,er,fun ρ1 xs H1 x1 hr1 r1=>⟨ρ1,s1,vs,hr1,r1,wt.mono x1 hr1⟩⟩
 |exc _ _ _=>exact zG (zC rfl)
 |stuck=>exact zG (zC rfl)
theorem bN{es:List Expr}{o:Out (List Val)}{f:Bf}{m:Bool}{k:Nat}{p pos:Pos}(k1:okF f=true)(hc:X.calm=true)(hr0:L2.yn k X.A)(hg:L2.Gl X f.nm)(hm:X.mg f.nm=none)(hp:yM (a::es)=true)(h:L2.PA X (a::es) (tVs X.K X.mg env s o)) :
 L2.PE X (.Call (.Name f.nm p) (a::es) [] pos) (tV X.K X.mg env s (o.bind (blt f m))):=by
 rw[yM,Bool.and_eq_true]at hp
 refine Zr h fun t ht=>?_
 have hb:=gI hc hr0 f m k1
 have bo:=f.boot
 have st:=L2.zZ (es:=es) (env:=X.env) (zO hp.1)
 have hn:=vM (pos:=pos) (env:=X.env) hp.2
 cases f with
 |tuple=>exact L2.we hb hg hm bo ht (by decide) (by decide) st hn
 |list=>exact L2.we hb hg hm bo ht (by decide) (by decide) st hn
 |int=>exact L2.we hb hg hm bo ht (by decide) (by decide) st hn
 |str=>exact L2.we hb hg hm bo ht (by decide) (by decide) st hn
 |_=>exact L2.jv hb hg hm bo ht (by decide) (by decide) st hn
theorem zt{o:Out Bool}(h:∀v s',o≠.ok v s'):L2.PT X E (tT X.K X.mg env s o):=Ya fun _ _ _=>dh h
theorem bb{o:Out Val}(hp:plainT a=true)(h:L2.PE X a (tV X.K X.mg env s o)):L2.PT X a (tT X.K X.mg env s o.truth):=by
 cases o with
 |ok v s1=>
  refine qL (L2.iG h (lJ hp)) fun σ H Q ⟨ρ,hr,er,wt⟩=>⟨ρ,hr,er,fun ρ1 x H1 x1 hr1 r1=>?_⟩
  have wt':=wt.mono x1 hr1
  simp only[Out.truth,zM]at wt'
  cases ht:truth s1 v with
  |none=>rw[ht]at wt';exact wt'.elim
  |some b=>rw[ht]at wt';exact⟨b,i7 hr1 r1 ht,wt' _ _ _ Ext.refl hr1 rfl⟩
 |exc _ _ _=>exact zt (zC rfl)
 |stuck=>exact zt (zC rfl)
theorem ba{o:Out Bool}{pos:Pos}(h:L2.PT X a (tT X.K X.mg env s o)):L2.PT X (.UnaryOp .Not a pos) (tT X.K X.mg env s (o.bind fun b s1=>.ok (!b) s1)):=by
 cases o with
 |ok v s1=>exact qL (L2.ak h) fun σ H Q ⟨ρ,hr,er,wt⟩=>⟨ρ,hr,er,fun ρ1 x H1 x1 hr1 r1=>by cases r1;exact wt _ _ _ x1 hr1 rfl⟩
 |exc _ _ _=>exact zt (zC rfl)
 |stuck=>exact zt (zC rfl)
theorem ve{o:Out Bool}(h:∀v s',o≠.ok v s'):L2.PW X E (tT X.K X.mg env s o):=Yc fun _ _ _=>dh h
theorem oF{pos:Pos}:L2.PW X (.BoolOp .And [] pos) (tT X.K X.mg env s (.ok true s)):=fun wh pins sh σ H Q I ⟨ρ,hr,er,wt⟩=>PyProof.Rows.isTrue_and_nil ⟨H,I,wt _ _ _ Ext.refl hr rfl⟩
theorem mj{pos:Pos}:L2.PW X (.BoolOp .Or [] pos) (tT X.K X.mg env s (.ok false s)):=fun wh pins sh σ H Q I ⟨ρ,hr,er,wt⟩=>PyProof.Rows.isTrue_or_nil ⟨H,I,wt _ _ _ Ext.refl hr rfl⟩
theorem jK{rest:List Expr}{o:Out Bool}{f2:Sto→Out Bool}{pos:Pos}(h1:L2.PT X a (tT X.K X.mg env s o))(h2:∀s1,L2.PW X (.BoolOp .And rest pos) (tT X.K X.mg env s1 (f2 s1))) :
 L2.PW X (.BoolOp .And (a::rest) pos) (tT X.K X.mg env s (o.bind fun b s1=>if b then f2 s1 else .ok false s1)):=by
 cases o with
 |ok v s1=>
  intro wh pins sh σ H Q I h
  obtain⟨ρ,hr,er,wt⟩:=h
  refine PyProof.Rows.isTrue_and (L2.thn (h1 pins sh σ H (fun c H1=>if c=true then tT X.K X.mg env s1 (f2 s1) σ H1 Q else Q false H1) I ⟨ρ,hr,er,fun ρ1 x H1 x1 hr1 r1=>?_⟩) fun c s' ⟨H1,I1,q1⟩=>?_)
  . have wt':=wt.mono x1 hr1
    cases r1
    cases v with
    |true=>exact L2.sI (⟨ρ1,hr1,er.mono x1,wt'⟩)
    |false=>exact L2.sH (wt' _ _ _ Ext.refl hr1 rfl)
  . cases c with
    |true=>exact h2 s1 wh pins s' σ H1 Q I1 q1
    |false=>exact⟨H1,I1,q1⟩
 |exc _ _ _=>exact ve (zC rfl)
 |stuck=>exact ve (zC rfl)
theorem dH{rest:List Expr}{o:Out Bool}{f2:Sto→Out Bool}{pos:Pos}(h1:L2.PT X a (tT X.K X.mg env s o))(h2:∀s1,L2.PW X (.BoolOp .Or rest pos) (tT X.K X.mg env s1 (f2 s1))) :
 L2.PW X (.BoolOp .Or (a::rest) pos) (tT X.K X.mg env s (o.bind fun b s1=>if b then .ok true s1 else f2 s1)):=by
 cases o with
 |ok v s1=>
  intro wh pins sh σ H Q I h
  obtain⟨ρ,hr,er,wt⟩:=h
  refine PyProof.Rows.isTrue_or (L2.thn (h1 pins sh σ H (fun c H1=>if c=true then Q true H1 else tT X.K X.mg env s1 (f2 s1) σ H1 Q) I ⟨ρ,hr,er,fun ρ1 x H1 x1 hr1 r1=>?_⟩) fun c s' ⟨H1,I1,q1⟩=>?_)
  . have wt':=wt.mono x1 hr1
    cases r1
    cases v with
    |true=>exact L2.sI (wt' _ _ _ Ext.refl hr1 rfl)
    |false=>exact L2.sH (⟨ρ1,hr1,er.mono x1,wt'⟩)
  . cases c with
    |true=>exact⟨H1,I1,q1⟩
    |false=>exact h2 s1 wh pins s' σ H1 Q I1 q1
 |exc _ _ _=>exact ve (zC rfl)
 |stuck=>exact ve (zC rfl)
end
end M
end
section
namespace M
open PySem
section
variable {X:L2.Cx}{env:Env}{s:Sto}{E a b c:Expr}
theorem iA{e:Option Expr}{t t':L2.TO}(h:L2.PO X e t)(i:∀σ H Q,t' σ H Q→t σ H Q):L2.PO X e t':=fun pins s σ H Q I q=>h pins s σ H Q I (i σ H Q q)
theorem Yv{o:Out (Option Int)}(h:∀v s',o≠.ok v s'){σ:L2.St}{H:L2.Hp}{Q:Option Int→L2.Hp→Prop}:¬tO X.K X.mg env s o σ H Q:=by
 rintro ⟨ρ,_,_,w⟩
 cases o with
 |ok v s'=>exact h v s' rfl
 |_=>exact w
theorem pQ{e:Option Expr}{o:Out (Option Int)}(h:∀v s',o≠.ok v s'):L2.PO X e (tO X.K X.mg env s o):=fun pins sh σ H Q I q=>(Yv h q).elim
theorem Zw:L2.PO X none (tO X.K X.mg env s (.ok none s)):=iA L2.fm fun σ H Q ⟨ρ,hr,er,wt⟩=>wt _ _ _ Ext.refl hr rfl
theorem bV{o:Out Val}(h:L2.PE X a (tV X.K X.mg env s o)):L2.PO X (some a) (tO X.K X.mg env s (o.bind fun v s1=>match v with|.int i=>.ok (some i) s1|_=>.stuck)):=by
 cases o with
 |ok v s1=>
  refine iA (L2.fo h) fun σ H Q ⟨ρ,hr,er,wt⟩=>⟨ρ,hr,er,fun ρ1 x H1 x1 hr1 r1=>?_⟩
  have wt':=wt.mono x1 hr1
  cases r1 with
  |int i=>exact⟨i,rfl,wt' _ _ _ Ext.refl hr1 rfl⟩
  |_=>exact wt'.elim
 |exc _ _ _=>exact pQ (zC rfl)
 |stuck=>exact pQ (zC rfl)
noncomputable def rMs(K:KF)(mg:Str→Option Value)(m:Bool):L2.V→Option Int→Option Int→L2.Hp→L2.VK→Prop:=fun x lo hi H Q=>∃ρ s v,HR K mg ρ s H∧RD K mg ρ H v x∧yC K mg (RD K mg) ρ H (xF m v lo hi none s) Q
theorem Ym(m:Bool):L2.SlR X (rMs X.K X.mg m):=by
 intro pins s σ H x v vl vu lo hi sl Q I rx hs pl pu h
 obtain⟨ρ,t,w,hr,rw',wt⟩:=h
 simp only[xF]at wt
 split at wt
 . cases rw' with
   |tup n e q=>exact L2.eI pins s σ H _ v vl vu lo hi sl Q I rx hs pl pu ⟨_,_,rfl,e,wK hr (q.cut lo hi) wt⟩
 . rename_i heq
   cases heq
 . split at wt
   . rename_i e
     obtain⟨p,xs,rfl,hq,q⟩:=xW hr rw' e
     exact L2.eG pins s σ H _ v vl vu lo hi sl Q I rx hs pl pu ⟨_,_,rfl,.of hq,xT hr (q.cut lo hi) wt⟩
   . exact wt.elim
 . rename_i heq
   cases heq
theorem Zu{lo hi st:Option Expr}{o:Out Val}{f2 f3 f4:Sto→Out (Option Int)}{m:Bool}{p2 pos:Pos}(h1:L2.PE X a (tV X.K X.mg env s o))(h2:∀s1,L2.PO X lo (tO X.K X.mg env s1 (f2 s1)))(h3:∀s1,L2.PO X hi (tO X.K X.mg env s1 (f3 s1)))
 (h4:∀s1,L2.PO X st (tO X.K X.mg env s1 (f4 s1))) (hst:(st=none∧∀s1,f4 s1=.ok none s1)∨∃e,st=some e∧∀s1 s2,f4 s1≠.ok none s2) :
 L2.PE X (.Subscript a (.Slice lo hi st p2) pos) (tV X.K X.mg env s (o.bind fun x s1=>(f2 s1).bind fun l s2=>(f3 s2).bind fun h s3=>(f4 s3).bind fun c s4=>xF m x l h c s4)):=by
 cases o with
 |ok v s1=>
  have h2':=h2 s1
  show L2.PE X _ (tV X.K X.mg env s ((f2 s1).bind _))
  cases hl:f2 s1 with
  |ok l s2=>
   rw[hl]at h2'
   have h3':=h3 s2
   show L2.PE X _ (tV X.K X.mg env s ((f3 s2).bind _))
   cases hh:f3 s2 with
   |ok h s3=>
    rw[hh]at h3'
    have h4':=h4 s3
    show L2.PE X _ (tV X.K X.mg env s ((f4 s3).bind _))
    rcases hst with⟨rfl,e4⟩|⟨e,rfl,e4⟩
    . rw[e4 s3]
      refine zX (L2.j5 (Ym m) h1 h2' h3') fun σ H Q ⟨ρ,hr,er,wt⟩=>⟨ρ,hr,er,fun ρ1 x H1 x1 hr1 r1=>⟨ρ1,hr1,er.mono x1,fun ρ2 y H2 x2 hr2 r2=>?_⟩⟩
      cases r2
      refine⟨ρ2,hr2,(er.mono x1).mono x2,fun ρ3 z H3 x3 hr3 r3=>?_⟩
      cases r3
      exact⟨ρ3,s3,v,hr3,(r1.mono x2).mono x3,wt.mono ((x1.trans hr1 x2).trans hr2 x3) hr3⟩
    . cases hc:f4 s3 with
      |ok cc s4=>
       rw[hc]at h4'
       cases cc with
       |none=>exact absurd hc (e4 s3 s4)
       |some ci=>
        by_cases hv:∃vs,v=.tup vs
        case neg=>
         refine zX (L2.oa h1 h2' h3' h4') fun σ H Q ⟨ρ,hr,er,wt⟩=>⟨ρ,hr,er,fun ρ1 x H1 x1 hr1 r1=>⟨ρ1,hr1,er.mono x1,fun ρ2 y H2 x2 hr2 r2=>?_⟩⟩
         cases r2
         refine⟨ρ2,hr2,(er.mono x1).mono x2,fun ρ3 z H3 x3 hr3 r3=>?_⟩
         cases r3
         refine⟨ρ3,hr3,((er.mono x1).mono x2).mono x3,fun ρ4 z4 H4 x4 hr4 r4=>?_⟩
         cases r4
         have wt':yC X.K X.mg (RD X.K X.mg) ρ4 H4 (xF m v l h (some ci) s4) Q:=wt.mono (((x1.trans hr1 x2).trans hr2 x3).trans hr3 x4) hr4
         have em:xF m v l h (some ci) s4=(match yP s4 v with|some vs=>if ci≠0 then newList m (L2.zW vs (L2.wI vs.length l h ci).1 ci (L2.wI vs.length l h ci).2) s4 else .stuck|Option.none=>.stuck):=by
          cases v with
          |tup vs=>exact absurd ⟨vs,rfl⟩ hv
          |_=>rfl
         rw[em]at wt'
         cases hl:yP s4 v with
         |none=>rw[hl]at wt';exact wt'.elim
         |some vs=>
          rw[hl]at wt'
          dsimp only at wt'
          obtain⟨p,xs,rfl,hq,q⟩:=xW hr4 (((r1.mono x2).mono x3).mono x4) hl
          by_cases c0:ci≠0
          . have wt2:yC X.K X.mg (RD X.K X.mg) ρ4 H4 (newList m (L2.zW vs (L2.wI vs.length l h ci).1 ci (L2.wI vs.length l h ci).2) s4) Q:=by rwa [if_pos c0]at wt'
            refine⟨p,xs,ci,rfl,.of hq,rfl,c0,?_⟩
            rw[←q.length]
            exact xT hr4 (q.zW _ _ _) wt2
          . rw[if_neg c0]at wt';exact wt'.elim
        refine zX (L2.lG h1 h2' h3' h4') fun σ H Q ⟨ρ,hr,er,wt⟩=>⟨ρ,hr,er,fun ρ1 x H1 x1 hr1 r1=>⟨ρ1,hr1,er.mono x1,fun ρ2 y H2 x2 hr2 r2=>?_⟩⟩
        cases r2
        refine⟨ρ2,hr2,(er.mono x1).mono x2,fun ρ3 z H3 x3 hr3 r3=>?_⟩
        cases r3
        refine⟨ρ3,hr3,((er.mono x1).mono x2).mono x3,fun ρ4 z4 H4 x4 hr4 r4=>?_⟩
        cases r4
        have xx:=((x1.trans hr1 x2).trans hr2 x3).trans hr3 x4
        have wt':yC X.K X.mg (RD X.K X.mg) ρ4 H4 (xF m v l h (some ci) s4) Q:=wt.mono xx hr4
        have r:=((r1.mono x2).mono x3).mono x4
        cases r with
        |tup n e q=>
         change yC X.K X.mg (RD X.K X.mg) ρ4 H4 (if ci≠0∧(L2.zu (List.length _) l h ci).2≤zR then .ok (.tup (L2.zW _ (L2.zu (List.length _) l h ci).1 ci (L2.zu (List.length _) l h ci).2)) s4 else .stuck) Q at wt'
         split at wt'
         . rename_i hz
           have hlen:=q.length
           refine⟨_,_,ci,rfl,e,rfl,hz.1,by rw[←hlen,←z6];exact hz.2,?_⟩
           rw[←hlen]
           exact wK hr4 (q.zW _ _ _) wt'
         . exact wt'.elim
        |_=>obtain⟨_,e⟩:=hv;cases e
      |exc _ _ _=>exact zG (zC rfl)
      |stuck=>exact zG (zC rfl)
   |exc _ _ _=>exact zG (zC rfl)
   |stuck=>exact zG (zC rfl)
  |exc _ _ _=>exact zG (zC rfl)
  |stuck=>exact zG (zC rfl)
 |exc _ _ _=>exact zG (zC rfl)
 |stuck=>exact zG (zC rfl)
theorem RDs.erase{K:KF}{mg:Str→Option Value}{ρ:Own}{H:L2.Hp}:∀{vs:List Val} {xs:List L2.V} (n:Nat),RDs K mg ρ H vs xs→RDs K mg ρ H (vs.eraseIdx n) (xs.eraseIdx n)
 |_,_,_,.nil=>.nil
 |_,_,0,.cons _ rs=>rs
 |_,_,n+1,.cons r rs=>.cons r (rs.erase n)
noncomputable def Mf.nm:Mf→Str
 |.count=>"count"|.append=>"append"|.extend=>"extend"|.pop=>"pop"|.index=>"index"|.join=>"join"
noncomputable def okM:Mf→Bool
 |.extend|.join=>false
 |_=>true
theorem jA{f:Mf}{o:Out Val}{f2:Sto→Out Val}{apos cpos:Pos}(hm:okM f=true)(hs:qH a=true)(hp:plain b=true)(hline:(apos.endLine == cpos.line)=true)(h1:L2.PE X a (tV X.K X.mg env s o))(h2:∀s1,L2.PE X b (tV X.K X.mg env s1 (f2 s1))) :
 L2.PE X (.Call (.Attribute a f.nm apos) [b] [] cpos) (tV X.K X.mg env s (o.bind fun x s1=>((f2 s1).bind fun v s2=>(Out.ok [v] s2:Out (List Val))).bind fun vs s2=>zy f x vs s2)):=by
 cases o with
 |ok v s1=>
  have h2':=h2 s1
  show L2.PE X _ (tV X.K X.mg env s (((f2 s1).bind fun v s2=>(Out.ok [v] s2:Out (List Val))).bind fun vs s2=>zy f v vs s2))
  cases hb:f2 s1 with
  |ok w s2=>
   rw[hb]at h2'
   show L2.PE X _ (tV X.K X.mg env s (zy f v [w] s2))
   cases f with
   |count=>
    by_cases hv:∃vs,v=.tup vs
    . obtain⟨vs,rfl⟩:=hv
      refine zX (L2.lE h1 h2' (xQ hs) (zO hp) hline) fun σ H Q ⟨ρ,hr,er,wt⟩=>⟨ρ,hr,er,fun ρ1 x H1 x1 hr1 r1=>?_⟩
      cases r1 with
      |tup n e q=>
       refine⟨⟨_,_,rfl,e⟩,ρ1,hr1,er.mono x1,fun ρ2 y H2 x2 hr2 r2=>?_⟩
       have wt':yC X.K X.mg (RD X.K X.mg) ρ2 H2 (zy .count (.tup vs) [w] s2) Q:=wt.mono (x1.trans hr1 x2) hr2
       simp only[zy]at wt'
       split at wt'
       . rename_i hf
         rw[Bool.and_eq_true]at hf
         have q2:=q.mono x2
         refine⟨_,_,y,rfl,rfl,L2.SqT.of (x2.keep _ _ e n.1),r2.flat hf.1,q2.flat hf.2,?_⟩
         rw[RDs.countP r2 hf.1 q2 hf.2]
         exact zK hr2 (.int _) wt'
       . exact wt'.elim
    . refine zX (L2.lD h1 h2' (xQ hs) (zO hp) hline) fun σ H Q ⟨ρ,hr,er,wt⟩=>⟨ρ,hr,er,fun ρ1 x H1 x1 hr1 r1=>?_⟩
      have wt':yC X.K X.mg (RD X.K X.mg) ρ1 H1 (zy .count v [w] s2) Q:=wt.mono x1 hr1
      have em:zy .count v [w] s2=(match yP s2 v with|some vs=>if M.flat w&&vs.all M.flat then .ok (.int (vs.countP fun z=>eqF z w:Nat)) s2 else .stuck|Option.none=>.stuck):=by
       cases v with
       |tup vs=>exact absurd ⟨vs,rfl⟩ hv
       |_=>rfl
      rw[em]at wt'
      cases hl:yP s2 v with
      |none=>rw[hl]at wt';exact wt'.elim
      |some vs=>
       rw[hl]at wt'
       -- the receiver is a list already ahead of the argument
       have ty:L2.tyV X.K "list" x H1:=by
        cases r1 with
        |lst n e q=>exact .inl ⟨rfl,_,.of e⟩
        |ref e k=>
         obtain⟨xs,q⟩:=qC k
         exact .inl ⟨rfl,_,.of q⟩
        |_=>cases hl
       refine⟨ty,ρ1,hr1,er.mono x1,fun ρ2 y H2 x2 hr2 r2=>?_⟩
       obtain⟨p,xs,rfl,hq,q⟩:=xW hr2 (r1.mono x2) hl
       have wt2:=wt'.mono x2 hr2
       simp only at wt2
       split at wt2
       . rename_i hf
         rw[Bool.and_eq_true]at hf
         refine⟨_,_,y,rfl,rfl,L2.SqL.of hq,r2.flat hf.1,q.flat hf.2,?_⟩
         rw[RDs.countP r2 hf.1 q hf.2]
         exact zK hr2 (.int _) wt2
       . exact wt2.elim
   |append=>
    cases v with
    |ref i=>
     refine zX (L2.lC (es:=[]) h1 h2' (xQ hs) (zO hp) hline) fun σ H Q ⟨ρ,hr,er,wt⟩=>⟨ρ,hr,er,fun ρ1 x H1 x1 hr1 r1=>?_⟩
     cases r1 with
     |ref e k=>
      obtain⟨xs,q⟩:=qC k
      refine⟨.inl ⟨rfl,_,.of q⟩,ρ1,hr1,er.mono x1,fun ρ2 y H2 x2 hr2 r2=>?_⟩
      have wt':yC X.K X.mg (RD X.K X.mg) ρ2 H2 (zy .append (.ref i) [w] s2) Q:=wt.mono (x1.trans hr1 x2) hr2
      simp only[zy]at wt'
      split at wt'
      . rename_i vs hv
        split at wt'
        . rename_i hz
          obtain⟨b',ys,e1,e2,q2⟩:=hr2.obj i _ hv
          have e':=x2.get e
          rw[e']at e1;cases e1
          refine⟨_,ys,y,rfl,rfl,e2,by rw[←q2.length,←z6];exact hz,?_⟩
          exact wt' _ _ _ (Ext.write hr2 e' e2 _) (hr2.write e' e2 (q2.append (.cons r2 .nil))) .none
        . exact wt'.elim
      . exact wt'.elim
    |_=>exact zG (zC rfl)
   |extend=>cases hm
   |pop=>
    cases v with
    |ref i=>
     have hs1:starEach [b] X.env=(false,eval b X.env)::starEach [] X.env:=L2.zZ (zO hp)
     have rule:L2.PE X (.Call (.Attribute a "pop" apos) [b] [] cpos) (L2.tBM X.K "list" L2.iI _ (L2.tw _ L2.nD)):=L2.jt PySem.F.plainAttrs_list PySem.F.slot_list_pop PySem.F.type_list_pop L2.jU h1 (L2.pac h2' L2.xB (zO hp)) (xQ hs) (by rw[hs1];rfl) hline hs1 rfl
     refine zX rule fun σ H Q ⟨ρ,hr,er,wt⟩=>⟨ρ,hr,er,fun ρ1 x H1 x1 hr1 r1=>?_⟩
     cases r1 with
     |ref e k=>
      obtain⟨xs,q⟩:=qC k
      refine⟨.inl ⟨rfl,_,.of q⟩,ρ1,hr1,er.mono x1,fun ρ2 y H2 x2 hr2 r2=>?_⟩
      have wt':yC X.K X.mg (RD X.K X.mg) ρ2 H2 (zy .pop (.ref i) [w] s2) Q:=wt.mono (x1.trans hr1 x2) hr2
      cases w with
      |int j=>
       simp only[zy]at wt'
       split at wt'
       . rename_i vs hv
         split at wt'
         . rename_i hz
           split at wt'
           . rename_i n hn
             split at wt'
             . rename_i u hu
               cases r2
               obtain⟨b',ys,e1,e2,q2⟩:=hr2.obj i _ hv
               have e':=x2.get e
               rw[e']at e1;cases e1
               obtain⟨u',hu',ru⟩:=q2.get hu
               refine⟨_,ys,j,n,u',rfl,rfl,e2,hz.1,hz.2,by rw[←q2.length];exact hn,hu',?_⟩
               exact wt' _ _ _ (Ext.write hr2 e' e2 _) (hr2.write e' e2 (q2.erase n)) (ru.mono (Ext.write hr2 e' e2 _))
             . exact wt'.elim
           . exact wt'.elim
         . exact wt'.elim
       . exact wt'.elim
      |_=>exact wt'.elim
    |_=>exact zG (zC rfl)
   |index=>
    cases v with
    |tup vs=>
     have hs1:starEach [b] X.env=(false,eval b X.env)::starEach [] X.env:=L2.zZ (zO hp)
     refine zX (L2.lF h1 h2' (xQ hs) (zO hp) hline) fun σ H Q ⟨ρ,hr,er,wt⟩=>⟨ρ,hr,er,fun ρ1 x H1 x1 hr1 r1=>?_⟩
     cases r1 with
     |tup n e q=>
      refine⟨⟨_,_,rfl,e⟩,ρ1,hr1,er.mono x1,fun ρ2 y H2 x2 hr2 r2=>?_⟩
      have wt':yC X.K X.mg (RD X.K X.mg) ρ2 H2 (zy .index (.tup vs) [w] s2) Q:=wt.mono (x1.trans hr1 x2) hr2
      simp only[zy]at wt'
      split at wt'
      . rename_i hf
        rw[Bool.and_eq_true]at hf
        have q2:=q.mono x2
        split at wt'
        . rename_i j hj
          exact⟨_,_,y,j,rfl,rfl,L2.SqT.of (x2.keep _ _ e n.1),r2.flat hf.1,q2.flat hf.2,by rw[RDs.findIdx r2 hf.1 q2 hf.2];exact hj,zK hr2 (.int _) wt'⟩
        . exact wt'.elim
      . exact wt'.elim
    |_=>exact zG (zC rfl)
   |join=>cases hm
  |exc _ _ _=>exact zG (zC rfl)
  |stuck=>exact zG (zC rfl)
 |exc _ _ _=>exact zG (zC rfl)
 |stuck=>exact zG (zC rfl)
end
noncomputable def spN(T:Tbl)(K:KF)(mg:Str→Option Value)(n:Nat)(f:Str)(ver:Nat):L2.Sp:=fun vs H Q _=>∃ρ s args,HR K mg ρ s H∧RDs K mg ρ H args vs∧yC K mg (RD K mg) ρ H (zD T n f ver args s) Q
structure Callee(T:Tbl)(n:Nat)(X:L2.Cx)(f:Str)(ver:Nat)(F:Fn):Prop where
 ex:∃fa fd,X.mg f=some (.ref fa)∧PySem.W.keepIn X.K (.ref fa)=true∧L2.Binds X.K fd F.ps []∧L2.uU X.prog X.w X.K X.mg X.base L2.CX0 n fa fd F.ps (spN T X.K X.mg n f ver)
section
variable {X:L2.Cx}{env:Env}{s:Sto}{T:Tbl}{n ver:Nat}{f:Str}{F:Fn}
theorem ky{p pos:Pos}(C:Callee T n X f ver F)(hr0:L2.yn n X.A)(hg:L2.Gl X f)(hd:(f == ("__debug__":Str))=false):L2.PE X (.Call (.Name f p) [] [] pos) (tV X.K X.mg env s (zD T n f ver [] s)):=by
 obtain⟨fa,fd,hm,hk,hb,hf⟩:=C.ex
 exact zX (L2.ju hf hr0 hg hm hk hb .nil L2.dP hd) fun σ H Q ⟨ρ,hr,er,wt⟩=>⟨ρ,s,[],hr,.nil,wt⟩
theorem gn{es:List Expr}{o:Out (List Val)}{p pos:Pos}(C:Callee T n X f ver F)(hr0:L2.yn n X.A)(hg:L2.Gl X f)(hd:(f == ("__debug__":Str))=false)(hp:yM es=true)(hne:es≠[])(h:L2.PA X es (tVs X.K X.mg env s o)) :
 L2.PE X (.Call (.Name f p) es [] pos) (tV X.K X.mg env s (o.bind (zD T n f ver))):=by
 obtain⟨fa,fd,hm,hk,hb,hf⟩:=C.ex
 cases o with
 |ok vs s1=>
  cases es with
  |nil=>exact absurd rfl hne
  |cons e es=>
   rw[yM,Bool.and_eq_true]at hp
   refine zX (L2.fY hf hr0 hg hm hk hb .nil L2.dP h hd (L2.zZ (zO hp.1)) (vM hp.2)) fun σ H Q ⟨ρ,hr,er,wt⟩=>⟨ρ,hr,er,fun ρ1 xs H1 x1 hr1 r1=>?_⟩
   show spN T X.K X.mg n f ver (xs++[]) H1 Q L2.E0
   rw[List.append_nil]
   exact⟨ρ1,s1,vs,hr1,r1,wt.mono x1 hr1⟩
 |exc _ _ _=>exact zG (zC rfl)
 |stuck=>exact zG (zC rfl)
end
end M
end
section
namespace M
open PySem
theorem y9:∀{c:Bool} {p:Prop},(c=true→p)→cond c p True
 |true,_,h=>h rfl
 |false,_,_=>True.intro
theorem uv{c:Bool}{p:Prop}(h:cond c p True)(e:c=true):p:=by subst e;exact h
mutual
theorem ZS:∀(a b:Val),cond (a.beq b) (a=b) True
 |.none,b=>by cases b<;>first|exact(rfl:Val.none=Val.none)|exact True.intro
 |.bool x,b=>by cases b with|bool y=>exact y9 fun h=>congrArg Val.bool (eq_of_beq (show (x == y)=true from h))|_=>exact True.intro
 |.int x,b=>by cases b with|int y=>exact y9 fun h=>congrArg Val.int (eq_of_beq (show (x == y)=true from h))|_=>exact True.intro
 |.str x,b=>by cases b with|str y=>exact y9 fun h=>congrArg Val.str (eq_of_beq (show (x == y)=true from h))|_=>exact True.intro
 |.tup x,b=>by cases b with|tup y=>exact y9 fun h=>congrArg Val.tup (uv (rZ x y) h)|_=>exact True.intro
 |.lst x,b=>by cases b with|lst y=>exact y9 fun h=>congrArg Val.lst (uv (rZ x y) h)|_=>exact True.intro
 |.dct0,b=>by cases b<;>first|exact(rfl:Val.dct0=Val.dct0)|exact True.intro
 |.ctup x,b=>by cases b with|ctup y=>exact y9 fun h=>congrArg Val.ctup (eq_of_beq (show (x == y)=true from h))|_=>exact True.intro
 |.scr x,b=>by cases b with|scr y=>exact y9 fun h=>congrArg Val.scr (eq_of_beq (show (x == y)=true from h))|_=>exact True.intro
 |.ref x,b=>by cases b with|ref y=>exact y9 fun h=>congrArg Val.ref (eq_of_beq (show (x == y)=true from h))|_=>exact True.intro
 |.fn x,b=>by cases b with|fn y=>exact y9 fun h=>congrArg Val.fn (eq_of_beq (show (x == y)=true from h))|_=>exact True.intro
 |.ty x,b=>by cases b with|ty y=>exact y9 fun h=>congrArg Val.ty (eq_of_beq (show (x == y)=true from h))|_=>exact True.intro
 |.dref x,b=>by cases b with|dref y=>exact y9 fun h=>congrArg Val.dref (eq_of_beq (show (x == y)=true from h))|_=>exact True.intro
theorem rZ:∀(a b:List Val),cond (vt a b) (a=b) True
 |[],[]=>(rfl:([]:List Val)=[])
 |[],_::_=>True.intro
 |_::_,[]=>True.intro
 |x::xs,y::ys=>y9 fun h=>by
  have h:(x.beq y&&vt xs ys)=true:=h
  rw[Bool.and_eq_true]at h
  rw[uv (ZS x y) h.1,uv (rZ xs ys) h.2]
end
theorem vO{a b:List Val}(h:vt a b=true):a=b:=uv (rZ a b) h
mutual
theorem beq_refl:∀a:Val,a.beq a=true
 |.none=>rfl
 |.bool x=>(beq_self_eq_true x:(x == x)=true)
 |.int x=>(beq_self_eq_true x:(x == x)=true)
 |.str x=>(beq_self_eq_true x:(x == x)=true)
 |.tup x=>wX x
 |.lst x=>wX x
 |.dct0=>rfl
 |.ctup x=>(beq_self_eq_true x:(x == x)=true)
 |.scr x=>(beq_self_eq_true x:(x == x)=true)
 |.ref x=>(beq_self_eq_true x:(x == x)=true)
 |.fn x=>(beq_self_eq_true x:(x == x)=true)
 |.ty x=>(beq_self_eq_true x:(x == x)=true)
 |.dref x=>(beq_self_eq_true x:(x == x)=true)
theorem wX:∀a:List Val,vt a a=true
 |[]=>rfl
 |x::xs=>by rw[vt,beq_refl x,wX xs];rfl
end
section
variable {K:KF}{mg:Str→Option Value}
theorem Mv.refl{ρ:Own}{H:L2.Hp}:Mv ρ H ρ H:=⟨fun a o e n=>⟨e,n⟩,fun i a e=>e,fun _ _=>rfl⟩
theorem Mv.trans{ρ ρ1 ρ2:Own}{H H1 H2:L2.Hp}(x:Mv ρ H ρ1 H1)(y:Mv ρ1 H1 ρ2 H2):Mv ρ H ρ2 H2:=
 ⟨fun a o e n=>y.keep a o (x.keep a o e n).1 (x.keep a o e n).2,fun i a e=>y.get i a (x.get i a e),fun a ha=>by
  obtain⟨i,hi⟩:=List.getElem?_of_mem ha
  exact(y.kd a (List.mem_of_getElem? (x.get i a hi))).trans (x.kd a ha)⟩
structure Walk(K:KF)(mg:Str→Option Value)(ρ:Own)(H:L2.Hp)(r:Src)(J:L2.It):Prop where
 len:r.xs.length≤zR
 go:∀(ρ2:Own) (H2:L2.Hp) (s2:Sto) (i:Nat) (v:Val),Mv ρ H ρ2 H2→HR K mg ρ2 s2 H2→r.ok s2=true→r.xs[i]?=some v→J.go i H2∧∀x H3,J.yld i H2 x H3→(H3=H2∨∃p o,H2 p=none∧H3=L2.upd H2 p o)∧RD K mg ρ2 H3 v x
 stop:∀(ρ2:Own) (H2:L2.Hp) (s2:Sto) (i:Nat),Mv ρ H ρ2 H2→HR K mg ρ2 s2 H2→r.ok s2=true→i=r.xs.length→J.stop i H2
theorem Walk.mv{ρ ρ1:Own}{H H1:L2.Hp}{r:Src}{J:L2.It}(w:Walk K mg ρ H r J)(x:Mv ρ H ρ1 H1):Walk K mg ρ1 H1 r J:=
 ⟨w.len,fun ρ2 H2 s2 i v y=>w.go ρ2 H2 s2 i v (x.trans y),fun ρ2 H2 s2 i y=>w.stop ρ2 H2 s2 i (x.trans y)⟩
def lr(H:L2.Hp):Prop:=∀a xs,(H a=some (.tup xs)∨H a=some (.lst xs))→xs.length≤sizeLine
theorem vd{X:L2.Cx}{tg it:Expr}{wi:L2.TI}(h:L2.PI X tg it wi):L2.PI X tg it (fun σ H R=>wi σ H fun J H1=>lr H1→R J H1):=fun pins s σ H R I q=>
 L2.thn (h pins s σ H _ I q) fun v s1 h1=>L2.thn h1 fun itv s2 ⟨i,fp,tn,J,H',e,I',T,t0,f,r⟩=>⟨i,fp,tn,J,H',e,I',T,t0,f,r fun a xs hx=>by
  rcases hx with hx|hx
  . obtain⟨z,_⟩:=(show L2.zc X.prog X.w H' s2.heap a (.tup xs) from I'.hok a _ hx);exact z
  . obtain⟨z,_⟩:=(show L2.zc X.prog X.w H' s2.heap a (.lst xs) from I'.hok a _ hx);exact z⟩
theorem hV{ρ:Own}{H:L2.Hp}{a:Addr}{vs:List Val}{xs:List L2.V}(hz:vs.length≤zR)(n:ρ.no a)(e:H a=some (.tup xs))(q:RDs K mg ρ H vs xs):Walk K mg ρ H ⟨vs,none⟩ (L2.Itt K a) where
 len:=hz
 go:=fun ρ2 H2 s2 i v x hr _ hv=>by
  have e2:=(x.keep a _ e n).1
  have q2:=RDs.mv x q
  obtain⟨y,h1,h2⟩:=q2.get hv
  refine⟨⟨xs,y,.of e2,h1⟩,fun z H3 ⟨e3,h3⟩=>⟨.inl e3,?_⟩⟩
  subst e3
  have:=h3 xs (.of e2)
  rw[h1]at this;cases this
  exact h2
 stop:=fun ρ2 H2 s2 i x hr _ hi=>⟨xs,.of (x.keep a _ e n).1,by rw[←q.length];exact Nat.le_of_eq hi.symm⟩
theorem hJ{ρ:Own}{H:L2.Hp}{a:Addr}{vs:List Val}{xs:List L2.V}(hz:vs.length≤zR)(n:ρ.no a)(e:H a=some (.lst xs))(q:RDs K mg ρ H vs xs):Walk K mg ρ H ⟨vs,none⟩ (L2.Itl K a) where
 len:=hz
 go:=fun ρ2 H2 s2 i v x hr _ hv=>by
  have e2:=(x.keep a _ e n).1
  have q2:=RDs.mv x q
  obtain⟨y,h1,h2⟩:=q2.get hv
  refine⟨⟨xs,y,.of e2,h1⟩,fun z H3 ⟨e3,h3⟩=>⟨.inl e3,?_⟩⟩
  subst e3
  have:=h3 xs (.of e2)
  rw[h1]at this;cases this
  exact h2
 stop:=fun ρ2 H2 s2 i x hr _ hi=>⟨xs,.of (x.keep a _ e n).1,by rw[←q.length];exact Nat.le_of_eq hi.symm⟩
theorem lZ{ρ:Own}{H:L2.Hp}{a:Addr}{ns:List Int}(k:KT K a (ns.map L2.V.int)):Walk K mg ρ H ⟨ns.map .int,none⟩ (L2.Itt K a) where
 len:=by
  obtain⟨o,its,n,_,_,_,h4,h5⟩:=k
  have:=h5.length
  simp only[List.length_map,Array.length_toList]at this
  show (ns.map Val.int).length≤_
  rw[List.length_map,z6,this];exact h4
 go:=fun ρ2 H2 s2 i v x hr _ hv=>by
  obtain⟨y,h1,h2⟩:=(RDs.ints (K:=K) (mg:=mg) (ρ:=ρ2) (H:=H2) ns).get hv
  refine⟨⟨_,y,k.sqt,h1⟩,fun z H3 ⟨e3,h3⟩=>⟨.inl e3,?_⟩⟩
  subst e3
  have:=h3 _ k.sqt
  rw[h1]at this;cases this
  exact h2
 stop:=fun ρ2 H2 s2 i x hr _ hi=>⟨_,k.sqt,by rw[List.length_map];rw[hi];simp⟩
theorem hU{ρ:Own}{H:L2.Hp}{i0:Nat}{a:Addr}{vs:List Val}(hz:vs.length≤zR)(e:ρ.o[i0]?=some a):Walk K mg ρ H ⟨vs,some i0⟩ (L2.Itl K a) where
 len:=hz
 go:=fun ρ2 H2 s2 i v x hr ho hv=>by
  simp only[Src.ok]at ho
  split at ho
  . rename_i ws hw
    cases vO ho
    obtain⟨b,xs,e1,e2,q⟩:=hr.obj i0 _ hw
    rw[x.get _ _ e]at e1;cases e1
    obtain⟨y,h1,h2⟩:=q.get hv
    refine⟨⟨xs,y,.of e2,h1⟩,fun z H3 ⟨e3,h3⟩=>⟨.inl e3,?_⟩⟩
    subst e3
    have:=h3 xs (.of e2)
    rw[h1]at this;cases this
    exact h2
  . cases ho
 stop:=fun ρ2 H2 s2 i x hr ho hi=>by
  simp only[Src.ok]at ho
  split at ho
  . rename_i ws hw
    cases vO ho
    obtain⟨b,xs,e1,e2,q⟩:=hr.obj i0 _ hw
    rw[x.get _ _ e]at e1;cases e1
    exact⟨xs,.of e2,by rw[←q.length];exact Nat.le_of_eq hi.symm⟩
  . cases ho
theorem iK{lo:Int}{n i:Nat}:(z5 lo n)[i]?=if i<n then some (.int (lo+i)) else none:=by
 unfold z5
 rw[List.getElem?_map]
 by_cases h:i<n
 . rw[if_pos h,List.getElem?_range h];rfl
 . rw[if_neg h,List.getElem?_eq_none (by rw[List.length_range];omega)];rfl
theorem tU{lo:Int}{n:Nat}:(z5 lo n).length=n:=by unfold z5;rw[List.length_map,List.length_range]
theorem pZ{ρ:Own}{H:L2.Hp}{lo:Int}{n:Nat}(hz:n≤zR):Walk K mg ρ H ⟨z5 lo n,none⟩ (L2.Itr lo n) where
 len:=by show (z5 lo n).length≤_;rw[tU];exact hz
 go:=fun ρ2 H2 s2 i v x hr _ hv=>by
  have hv':(z5 lo n)[i]?=some v:=hv
  rw[iK]at hv'
  split at hv'
  . rename_i hi
    cases hv'
    refine⟨hi,fun z H3 ⟨e3,h3⟩=>⟨.inl e3,?_⟩⟩
    subst h3
    exact .int _
  . cases hv'
 stop:=fun ρ2 H2 s2 i x hr _ hi=>by
  have:i=(z5 lo n).length:=hi
  rw[tU]at this;exact Nat.le_of_eq this.symm
theorem vx:∀{vs:List Val} {n i:Nat},(yF n vs)[i]?=(vs[i]?).map fun v=>.tup [.int ((n+i:Nat):Int),v]
 |[],_,_=>rfl
 |v::vs,n,0=>rfl
 |v::vs,n,i+1=>by
  show (yF (n+1) vs)[i]?=(vs[i]?).map _
  rw[vx]
  rw[show n+1+i=n+(i+1) by omega]
theorem xc:∀{vs:List Val} {n:Nat},(yF n vs).length=vs.length
 |[],_=>rfl
 |v::vs,n=>by show (yF (n+1) vs).length+1=_;rw[xc];rfl
theorem la{ρ:Own}{H:L2.Hp}{a:Addr}{vs:List Val}{xs:List L2.V}(hz:vs.length≤zR)(n:ρ.no a)(e:H a=some (.tup xs))(q:RDs K mg ρ H vs xs):Walk K mg ρ H ⟨yF 0 vs,none⟩ (L2.Ite K a) where
 len:=by show (yF 0 vs).length≤_;rw[xc];exact hz
 go:=fun ρ2 H2 s2 i v x hr _ hv=>by
  have e2:=(x.keep a _ e n).1
  have q2:=RDs.mv x q
  have hv':(yF 0 vs)[i]?=some v:=hv
  rw[vx,Option.map_eq_some_iff]at hv'
  obtain⟨w,h0,rfl⟩:=hv'
  obtain⟨y,h1,h2⟩:=q2.get h0
  refine⟨⟨xs,y,.of e2,h1⟩,fun z H3 ⟨t,y',ht,e3,h3,e4⟩=>⟨.inr ⟨t,_,ht,e4⟩,?_⟩⟩
  subst e3 e4
  have:=h3 xs (.of e2)
  rw[h1]at this;cases this
  have X:=Ext.new hr ht (.tup [.int ((i:Nat):Int),y])
  refine .tup (hr.new ht) L2.zV (.cons ?_ (.cons (h2.mono X) .nil))
  rw[Nat.zero_add];exact .int _
 stop:=fun ρ2 H2 s2 i x hr _ hi=>⟨xs,.of (x.keep a _ e n).1,by rw[←q.length,hi];exact xc.symm⟩
theorem nL{ρ:Own}{H:L2.Hp}{a:Addr}{vs:List Val}{xs:List L2.V}(hz:vs.length≤zR)(n:ρ.no a)(e:H a=some (.lst xs))(q:RDs K mg ρ H vs xs):Walk K mg ρ H ⟨yF 0 vs,none⟩ (L2.dz K a) where
 len:=by show (yF 0 vs).length≤_;rw[xc];exact hz
 go:=fun ρ2 H2 s2 i v x hr _ hv=>by
  have e2:=(x.keep a _ e n).1
  have q2:=RDs.mv x q
  have hv':(yF 0 vs)[i]?=some v:=hv
  rw[vx,Option.map_eq_some_iff]at hv'
  obtain⟨w,h0,rfl⟩:=hv'
  obtain⟨y,h1,h2⟩:=q2.get h0
  refine⟨⟨xs,y,.of e2,h1⟩,fun z H3 ⟨t,y',ht,e3,h3,e4⟩=>⟨.inr ⟨t,_,ht,e4⟩,?_⟩⟩
  subst e3 e4
  have:=h3 xs (.of e2)
  rw[h1]at this;cases this
  have X:=Ext.new hr ht (.tup [.int ((i:Nat):Int),y])
  refine .tup (hr.new ht) L2.zV (.cons ?_ (.cons (h2.mono X) .nil))
  rw[Nat.zero_add];exact .int _
 stop:=fun ρ2 H2 s2 i x hr _ hi=>⟨xs,.of (x.keep a _ e n).1,by rw[←q.length,hi];exact xc.symm⟩
noncomputable def tI(env:Env)(s:Sto)(o:Out Src):L2.TI:=fun σ H R=>∃ρ,HR K mg ρ s H∧ER K mg ρ H env σ∧(match o with
 |.ok r s'=>∀ρ' H' J,Ext ρ H ρ' H'→HR K mg ρ' s' H'→Walk K mg ρ' H' r J→R J H'
 |_=>False)
end
section
variable {X:L2.Cx}{env:Env}{s:Sto}{a b tg:Expr}
theorem vL{it:Expr}{t t':L2.TI}(h:L2.PI X tg it t)(i:∀σ H R,t' σ H R→t σ H R):L2.PI X tg it t':=fun pins s σ H R I q=>h pins s σ H R I (i σ H R q)
theorem yA{it:Expr}{o:Out Src}(h:∀v s',o≠.ok v s'):L2.PI X tg it (tI (K:=X.K) (mg:=X.mg) env s o):=fun pins sh σ H R I q=>by
 obtain⟨ρ,_,_,w⟩:=q
 cases o with
 |ok v s'=>exact(h v s' rfl).elim
 |exc _ _ _=>exact w.elim
 |stuck=>exact w.elim
theorem lr.of{K:KF}{mg:Str→Option Value}{ρ:Own}{H:L2.Hp}(z:lr H){a:Addr}{vs:List Val}{xs:List L2.V}(q:RDs K mg ρ H vs xs)(h:H a=some (.tup xs)∨H a=some (.lst xs)):vs.length≤zR:=by
 rw[q.length,z6];exact z a xs h
theorem bU{o:Out Val}(h:L2.PE X a (tV X.K X.mg env s o)):L2.PI X tg a (tI (K:=X.K) (mg:=X.mg) env s (o.bind fun v s1=>match srcOf s1 v with|some r=>.ok r s1|Option.none=>.stuck)):=by
 cases o with
 |ok v s1=>
  show L2.PI X tg a (tI (K:=X.K) (mg:=X.mg) env s (match srcOf s1 v with|some r=>.ok r s1|Option.none=>.stuck))
  cases v with
  |tup vs=>
   refine vL (vd (L2.j7 h)) fun σ H R ⟨ρ,hr,er,w⟩=>⟨ρ,hr,er,fun ρ1 x H1 x1 hr1 r1=>?_⟩
   cases r1 with
   |tup n e q=>exact⟨_,rfl,⟨_,.of e⟩,fun z=>w ρ1 H1 _ x1 hr1 (hV (z.of q (.inl e)) n e q)⟩
  |lst vs=>
   refine vL (vd (L2.mB h)) fun σ H R ⟨ρ,hr,er,w⟩=>⟨ρ,hr,er,fun ρ1 x H1 x1 hr1 r1=>?_⟩
   cases r1 with
   |lst n e q=>exact⟨_,rfl,⟨_,.of e⟩,fun z=>w ρ1 H1 _ x1 hr1 (hJ (z.of q (.inr e)) n e q)⟩
  |ctup ns=>
   refine vL (L2.j7 h) fun σ H R ⟨ρ,hr,er,w⟩=>⟨ρ,hr,er,fun ρ1 x H1 x1 hr1 r1=>?_⟩
   cases r1 with
   |ctup k=>exact⟨_,rfl,⟨_,k.sqt⟩,w ρ1 H1 _ x1 hr1 (lZ k)⟩
  |ref i=>
   simp only[srcOf]
   cases hs:s1[i]? with
   |none=>exact yA (zC rfl)
   |some cl=>
    cases cl with
    |lst vs=>
     refine vL (vd (L2.mB h)) fun σ H R ⟨ρ,hr,er,w⟩=>⟨ρ,hr,er,fun ρ1 x H1 x1 hr1 r1=>?_⟩
     cases r1 with
     |ref e=>
      obtain⟨b',xs,e1,e2,q⟩:=hr1.obj i _ hs
      rw[e]at e1;cases e1
      exact⟨_,rfl,⟨_,.of e2⟩,fun z=>w ρ1 H1 _ x1 hr1 (hU (z.of q (.inr e2)) e)⟩
    |_=>exact yA (zC rfl)
  |_=>exact yA (zC rfl)
 |exc _ _ _=>exact yA (zC rfl)
 |stuck=>exact yA (zC rfl)
theorem mh{o:Out Val}{p pos:Pos}(hp:plain a=true)(hg:L2.Gl X "range")(hm:X.mg "range"=none)(h:L2.PE X a (tV X.K X.mg env s o)) :
 L2.PI X tg (.Call (.Name "range" p) [a] [] pos) (tI (K:=X.K) (mg:=X.mg) env s (o.bind fun x s1=>match x with
  |.int j=>if -(2 ^ 62)≤j∧j≤zR then .ok ⟨z5 0 j.toNat,Option.none⟩ s1 else .stuck
  |_=>.stuck)):=by
 cases o with
 |ok v s1=>
  have st:starEach [a] X.env=[(false,eval a X.env)]:=L2.zZ (zO hp)
  refine vL (L2.lH hg hm (L2.pac h L2.xB (zO hp)) st) fun σ H R ⟨ρ,hr,er,w⟩=>⟨ρ,hr,er,fun ρ1 x H1 x1 hr1 r1=>?_⟩
  cases r1 with
  |int j=>
   simp only[zM]at w
   by_cases hz:-(2 ^ 62)≤j∧j≤zR
   . rw[if_pos hz]at w
     have hl:(zR:Int)<2 ^ 62:=by decide
     exact⟨j,rfl,hz.1,by omega,w ρ1 H1 _ x1 hr1 (pZ (by omega))⟩
   . rw[if_neg hz]at w;exact w.elim
  |_=>exact w.elim
 |exc _ _ _=>exact yA (zC rfl)
 |stuck=>exact yA (zC rfl)
theorem mi{o:Out Val}{f2:Sto→Out Val}{p pos:Pos}(hp:plain a=true)(hp2:plain b=true)(hg:L2.Gl X "range")(hm:X.mg "range"=none)(h:L2.PE X a (tV X.K X.mg env s o))(h2:∀s1,L2.PE X b (tV X.K X.mg env s1 (f2 s1))) :
 L2.PI X tg (.Call (.Name "range" p) [a,b] [] pos) (tI (K:=X.K) (mg:=X.mg) env s (o.bind fun x s1=>(f2 s1).bind fun y s2=>match x,y with
  |.int i,.int j=>if -(2 ^ 62)≤i∧i<2 ^ 62∧-(2 ^ 62)≤j∧j<2 ^ 62∧j-i≤zR then .ok ⟨z5 i (j-i).toNat,Option.none⟩ s2 else .stuck
  |_,_=>.stuck)):=by
 cases o with
 |ok v s1=>
  have h2':=h2 s1
  simp only[zM]
  cases hb:f2 s1 with
  |ok w s2=>
   rw[hb]at h2'
   have st2:starEach [b] X.env=[(false,eval b X.env)]:=L2.zZ (zO hp2)
   have st:starEach [a,b] X.env=[(false,eval a X.env),(false,eval b X.env)]:=by rw[L2.zZ (zO hp),st2]
   refine vL (L2.lI hg hm (L2.pac h (L2.pac h2' L2.xB (zO hp2)) (zO hp)) st st2) fun σ H R ⟨ρ,hr,er,wt⟩=>⟨ρ,hr,er,fun ρ1 x H1 x1 hr1 r1=>⟨ρ1,hr1,er.mono x1,fun ρ2 y H2 x2 hr2 r2=>?_⟩⟩
   simp only[zM]at wt
   cases r1 with
   |int i=>
    cases r2 with
    |int j=>
     simp only at wt
     by_cases hz:-(2 ^ 62)≤i∧i<2 ^ 62∧-(2 ^ 62)≤j∧j<2 ^ 62∧j-i≤zR
     . rw[if_pos hz]at wt
       exact⟨i,j,rfl,⟨hz.1,hz.2.1,hz.2.2.1,hz.2.2.2.1⟩,wt ρ2 H2 _ (x1.trans hr1 x2) hr2 (pZ (by omega))⟩
     . rw[if_neg hz]at wt;exact wt.elim
    |_=>exact wt.elim
   |_=>exact wt.elim
  |exc _ _ _=>exact yA (zC rfl)
  |stuck=>exact yA (zC rfl)
 |exc _ _ _=>exact yA (zC rfl)
 |stuck=>exact yA (zC rfl)
theorem gr{es:List Expr}{k:Nat}{o:Out Val}{p pos tp:Pos}(hp:plain a=true)(hg:L2.Gl X "enumerate")(hm:X.mg "enumerate"=none)(h:L2.PE X a (tV X.K X.mg env s o)) :
 L2.PI X (.Tuple es k tp) (.Call (.Name "enumerate" p) [a] [] pos) (tI (K:=X.K) (mg:=X.mg) env s (o.bind fun v s1=>match v with
  |.tup vs=>.ok ⟨yF 0 vs,Option.none⟩ s1
  |.lst vs=>.ok ⟨yF 0 vs,Option.none⟩ s1
  |_=>.stuck)):=by
 cases o with
 |ok v s1=>
  have st:starEach [a] X.env=[(false,eval a X.env)]:=L2.zZ (zO hp)
  refine vL (vd (L2.fj hg hm (L2.pac h L2.xB (zO hp)) st)) fun σ H R ⟨ρ,hr,er,w⟩=>⟨ρ,hr,er,fun ρ1 x H1 x1 hr1 r1=>?_⟩
  cases r1 with
  |tup n e q=>exact⟨_,rfl,.inl ⟨⟨_,.of e⟩,fun z=>w ρ1 H1 _ x1 hr1 (la (z.of q (.inl e)) n e q)⟩⟩
  |lst n e q=>exact⟨_,rfl,.inr ⟨⟨_,.of e⟩,fun z=>w ρ1 H1 _ x1 hr1 (nL (z.of q (.inr e)) n e q)⟩⟩
  |_=>exact w.elim
 |exc _ _ _=>exact yA (zC rfl)
 |stuck=>exact yA (zC rfl)
end
end M
end
section
namespace M
open PySem
def vq(K:KF)(mg:Str→Option Value)(t:Tgt)(g:L2.TG):Prop:=∀(ρ:Own) (s:Sto) (H:L2.Hp) (v:Val) (x:L2.V) (env env':Env) (σ:L2.St) (Q:L2.St→L2.Hp→Prop),HR K mg ρ s H→RD K mg ρ H v x→ER K mg ρ H env σ→yO t v env=some env' →
 (∀σ',ER K mg ρ H env' σ'→Q σ' H)→g x σ H Q
theorem vi{K:KF}{mg:Str→Option Value}{i:Nat}:vq K mg (.nm i) (L2.wJ i):=fun ρ s H v x env env' σ Q hr r er e q=>by
 cases e
 exact q _ (er.set i r)
noncomputable def r9:List Nat→L2.TGs
 |[]=>L2.Za
 |i::is=>L2.dD (L2.wJ i) (r9 is)
theorem rJ{K:KF}{mg:Str→Option Value}{ρ:Own}{H:L2.Hp}{Q:L2.St→L2.Hp→Prop}:∀{is:List Nat} {vs:List Val} {xs:List L2.V} {env:Env} {σ:L2.St},RDs K mg ρ H vs xs→ER K mg ρ H env σ→vs.length=is.length →
 (∀σ',ER K mg ρ H ((is.zip vs).foldl (fun e p=>e.set p.1 (some p.2)) env) σ'→Q σ' H)→r9 is xs σ H Q
 |[],[],_,env,σ,.nil,er,_,q=>⟨rfl,q σ er⟩
 |[],_::_,_,_,_,_,_,h,_=>by cases h
 |_::_,[],_,_,_,_,_,h,_=>by cases h
 |i::is,v::vs,x::xs,env,σ,.cons r rs,er,h,q=>⟨x,xs,rfl,rJ rs (er.set i r) (by simpa using h) q⟩
theorem xP{K:KF}{mg:Str→Option Value}{is:List Nat}:vq K mg (.nms is) (L2.Zc K is.length (r9 is)):=fun ρ s H v x env env' σ Q hr r er e q=>by
 simp only[yO]at e
 split at e
 . split at e
   . rename_i hl
     cases e
     cases r with
     |tup n e q2=>exact⟨_,_,rfl,.of e,by rw[←q2.length];exact hl,rJ q2 er hl q⟩
   . cases e
 . cases e
noncomputable def zr(sc:Scope)(N:List Str):List Nat→List Expr→Bool
 |[],[]=>true
 |i::is,.Name x _::es=>decide (N[i]?=some x)&&(decide (sc.names.lookup x=some .local)||decide (sc.names.lookup x=some .cell))&&zr sc N is es
 |_,_=>false
noncomputable def ckT(sc:Scope)(N:List Str):Tgt→Expr→Bool
 |.nm i,.Name x _=>decide (N[i]?=some x)&&(decide (sc.names.lookup x=some .local)||decide (sc.names.lookup x=some .cell))
 |.nms is,.Tuple es _ _=>zr sc N is es&&decide (es≠[])
 |_,_=>false
section
variable {X:L2.Cx}
structure Scp(sc:Scope)(N:List Str)(X:L2.Cx):Prop where
 hN:X.N=N
 nd:N.Nodup
 vis:∀x,sc.names.lookup x=some .local∨sc.names.lookup x=some .cell∨sc.names.lookup x=some .free→L2.Vis X.env.scope x
 loc:∀x,sc.names.lookup x=some .local∨sc.names.lookup x=some .cell→L2.Loc X.env.scope x∧(X.fn x=true∨X.env.scope.names.lookup x=some .local)
 gl:∀x,sc.names.lookup x=some .globalImplicit→L2.Gl X x
 cf:∀x,sc.names.lookup x=some .cell∨sc.names.lookup x=some .free→X.env.kindOf x=some .cell∨X.env.kindOf x=some .free
theorem rK{sc:Scope}{N:List Str}(S:Scp sc N X){i:Nat}{x:Str}{p:Pos}(h1:N[i]?=some x)(h2:sc.names.lookup x=some .local∨sc.names.lookup x=some .cell):L2.PG X (.Name x p) (L2.wJ i):=by
 obtain⟨a,b⟩:=S.loc x h2
 exact L2.fg (by rw[S.hN];exact S.nd) (by rw[S.hN];exact h1) a b
theorem ym{sc:Scope}{N:List Str}(S:Scp sc N X):∀{is:List Nat} {es:List Expr},zr sc N is es=true→L2.PGs X es (r9 is)∧(assignEach es X.env).length=is.length∧(assignEach es X.env).findIdx? (·.1)=none
 |[],[],_=>⟨L2.fh,rfl,rfl⟩
 |[],_::_,h=>by cases h
 |_::_,[],h=>by cases h
 |i::is,e::es,h=>by
  cases e with
  |Name x p=>
   simp only[zr,Bool.and_eq_true,Bool.or_eq_true,decide_eq_true_eq]at h
   obtain⟨a,b,c⟩:=ym S h.2
   refine⟨L2.j6 (rK S h.1.1 h.1.2) a,?_,?_⟩
   . show (assignEach es X.env).length+1=is.length+1
     rw[b]
   . show List.findIdx? (·.1) ((false,assign (.Name x p) X.env)::assignEach es X.env)=none
     rw[List.findIdx?_cons]
     simp only[Bool.false_eq_true,if_false]
     rw[c];rfl
  |_=>cases h
theorem YW{sc:Scope}{N:List Str}(S:Scp sc N X)(hc:X.calm=true){t:Tgt}{e:Expr}(h:ckT sc N t e=true):∃g,L2.PG X e g∧vq X.K X.mg t g:=by
 cases t with
 |nm i=>
  cases e with
  |Name x p=>
   simp only[ckT,Bool.and_eq_true,Bool.or_eq_true,decide_eq_true_eq]at h
   exact⟨_,rK S h.1 h.2,vi⟩
  |_=>cases h
 |nms is=>
  cases e with
  |Tuple es k p=>
   simp only[ckT,Bool.and_eq_true,decide_eq_true_eq]at h
   obtain⟨a,b,c⟩:=ym S h.1
   exact⟨_,L2.vK hc a b c,xP⟩
  |_=>cases h
end
structure Lp(acc:Addr)(ρ:Own)(H:L2.Hp)(ρ':Own)(H':L2.Hp):Prop where
 pre:∃new:List Addr,ρ'.o=ρ.o++new∧∀a∈new,H a=none
 hid:ρ'.h=acc::ρ.h
 keep:∀(a:Addr) (o:L2.HO),H a=some o→a ∉ ρ.o→H' a=some o
 kd:∀a∈ρ.o,hk (H' a)=hk (H a)
section
variable {K:KF}{mg:Str→Option Value}{ρ ρ1 ρ2:Own}{H H1 H2:L2.Hp}{s s1:Sto}{acc:Addr}
noncomputable def Own.hide(ρ:Own)(acc:Addr):Own:=⟨ρ.o,acc::ρ.h⟩
theorem qB(hr:HR K mg ρ s H)(hn:H acc=none)(o:L2.HO):Mv ρ H (ρ.hide acc) (L2.upd H acc o):=
 ⟨fun a u e n=>⟨by rw[L2.zP (L2.zT e hn)];exact e,n.1,fun hm=>by
  rcases List.mem_cons.mp hm with z|z
  . exact L2.zT e hn z
  . exact n.2 z⟩,fun i a e=>e,fun a ha=>by rw[L2.zP fun z=>(hr.new hn).1 (by rw[←z];exact ha)]⟩
theorem HR.hide(hr:HR K mg ρ s H)(hn:H acc=none){xs:List L2.V}:HR K mg (ρ.hide acc) s (L2.upd H acc (.lst xs)):=by
 refine⟨hr.len,hr.nd,fun i c e=>?_,fun a ha=>?_⟩
 . obtain⟨a,e1,q⟩:=hr.cel i c e
   obtain⟨o,e2⟩:=q.there
   exact⟨a,e1,q.mv (qB hr hn _) (L2.zP (L2.zT e2 hn))⟩
 . rcases List.mem_cons.mp ha with z|z
   . subst z;exact⟨⟨xs,L2.zV⟩,(hr.new hn).1⟩
   . obtain⟨⟨ys,e⟩,n⟩:=hr.hid a z
     exact⟨⟨ys,by rw[L2.zP (L2.zT e hn)];exact e⟩,n⟩
theorem Lp.start(hr:HR K mg ρ s H)(hn:H acc=none)(o:L2.HO):Lp acc ρ H (ρ.hide acc) (L2.upd H acc o):=
 ⟨⟨[],by simp[Own.hide],fun a ha=>by cases ha⟩,rfl,fun a u e _=>by rw[L2.zP (L2.zT e hn)];exact e,(qB hr hn o).kd⟩
theorem Lp.step(l:Lp acc ρ H ρ1 H1)(hr:HR K mg ρ1 s1 H1)(x:Ext ρ1 H1 ρ2 H2):Lp acc ρ H ρ2 H2:=by
 obtain⟨new,e1,hn⟩:=l.pre
 obtain⟨new2,e2,hn2⟩:=x.pre
 refine⟨⟨new++new2,by rw[e2,e1,List.append_assoc],fun a ha=>?_⟩,x.hid.trans l.hid,fun a o e n=>x.keep a o (l.keep a o e n) ?_,fun a ha=>(x.kd a (by rw[e1];exact List.mem_append_left _ ha)).trans (l.kd a ha)⟩
 . rcases List.mem_append.mp ha with ha|ha
   . exact hn a ha
   . cases q:H a with
     |none=>rfl
     |some o=>
      by_cases hm:a∈ρ.o
      . obtain⟨xs,e⟩:=hr.trk (a:=a) (by rw[e1];exact List.mem_append_left _ hm)
        rw[hn2 a ha]at e;cases e
      . have:=l.keep a o q hm
        rw[hn2 a ha]at this;cases this
 . rw[e1]
   intro hm
   rcases List.mem_append.mp hm with hm|hm
   . exact n hm
   . rw[hn a hm]at e;cases e
theorem Lp.emit(l:Lp acc ρ H ρ1 H1)(hr:HR K mg ρ1 s1 H1)(hn:H acc=none)(o:L2.HO):Lp acc ρ H ρ1 (L2.upd H1 acc o):=
 ⟨l.pre,l.hid,fun a u e n=>by rw[L2.zP (L2.zT e hn)];exact l.keep a u e n,fun a ha=>by
  obtain⟨new,e1,_⟩:=l.pre
  rw[L2.zP fun z=>(hr.hid acc (by rw[l.hid];exact List.mem_cons_self)).2 (by rw[←z,e1];exact List.mem_append_left _ ha)]
  exact l.kd a ha⟩
theorem Lp.here(l:Lp acc ρ H ρ1 H1):acc∈ρ1.h:=by rw[l.hid];exact List.mem_cons_self
theorem ni(hr:HR K mg ρ1 s1 H1)(ha:acc∈ρ1.h)(o:L2.HO):Mv ρ1 H1 ρ1 (L2.upd H1 acc o):=
 ⟨fun a u e n=>⟨by rw[L2.zP (fun z=>n.2 (by rw[z];exact ha))];exact e,n⟩,fun i a e=>e,fun a h=>by rw[L2.zP fun z=>(hr.hid acc ha).2 (by rw[←z];exact h)]⟩
theorem HR.emit(hr:HR K mg ρ1 s1 H1)(ha:acc∈ρ1.h){xs:List L2.V}:HR K mg ρ1 s1 (L2.upd H1 acc (.lst xs)):=by
 have hno:=(hr.hid acc ha).2
 refine⟨hr.len,hr.nd,fun i c e=>?_,fun a hm=>?_⟩
 . obtain⟨a,e1,q⟩:=hr.cel i c e
   exact⟨a,e1,q.mv (ni hr ha _) (L2.zP (fun z=>hno (by rw[←z];exact List.mem_of_getElem? e1)))⟩
 . obtain⟨⟨ys,e⟩,n⟩:=hr.hid a hm
   by_cases z:a=acc
   . subst z;exact⟨⟨xs,L2.zV⟩,n⟩
   . exact⟨⟨ys,by rw[L2.zP z];exact e⟩,n⟩
theorem Lp.done(l:Lp acc ρ H ρ1 H1)(h0:HR K mg ρ s H)(hn:H acc=none)(hr:HR K mg ρ1 s1 H1){vs:List Val}{ys:List L2.V}(e:H1 acc=some (.lst ys))(q:RDs K mg ρ1 H1 vs ys){m:Bool}{Q:L2.VK}(w:yC K mg (RD K mg) ρ H (newList m vs s1) Q):Q (.ref acc) H1:=by
 have ha:=l.here
 have hacc:=(hr.hid acc ha).2
 have hnh:=(h0.new hn).2
 cases m with
 |false=>
  have mv:Mv ρ1 H1 ⟨ρ1.o,ρ.h⟩ H1:=⟨fun a u e n=>⟨e,n.1,fun z=>n.2 (by rw[l.hid];exact List.mem_cons_of_mem _ z)⟩,fun i a e=>e,fun _ _=>rfl⟩
  refine w ⟨ρ1.o,ρ.h⟩ _ H1 ⟨l.pre,rfl,l.keep,l.kd⟩ ⟨hr.len,hr.nd,fun i ws e=>?_,fun a hm=>?_⟩ (.lst ⟨hacc,hnh⟩ e (RDs.mv mv q))
  . obtain⟨a,e1,t⟩:=hr.cel i ws e
    exact⟨a,e1,t.mv mv rfl⟩
  . exact hr.hid a (by rw[l.hid];exact List.mem_cons_of_mem _ hm)
 |true=>
  have mv:Mv ρ1 H1 ⟨ρ1.o++[acc],ρ.h⟩ H1:=by
   refine⟨fun a u e n=>⟨e,fun hm=>?_,fun z=>n.2 (by rw[l.hid];exact List.mem_cons_of_mem _ z)⟩,fun i a e=>?_,fun _ _=>rfl⟩
   . rcases List.mem_append.mp hm with hm|hm
     . exact n.1 hm
     . rw[List.mem_singleton.mp hm]at n;exact n.2 ha
   . show (ρ1.o++[acc])[i]?=_
     rw[List.getElem?_append_left (List.getElem?_eq_some_iff.mp e).1];exact e
  have rf:(ρ1.o++[acc])[s1.length]?=some acc:=by rw[←hr.len,List.getElem?_append_right (Nat.le_refl _)];simp
  refine w ⟨ρ1.o++[acc],ρ.h⟩ _ H1 ⟨?_,rfl,l.keep,l.kd⟩ ⟨?_,?_,fun i ws q'=>?_,fun a hm=>?_⟩ (.ref rf (by rw[e];rfl))
  . obtain⟨new,e1,hnew⟩:=l.pre
    refine⟨new++[acc],by show ρ1.o++[acc]=_;rw[e1,List.append_assoc],fun a hm=>?_⟩
    rcases List.mem_append.mp hm with hm|hm
    . exact hnew a hm
    . rw[List.mem_singleton.mp hm];exact hn
  . show (ρ1.o++[acc]).length=(s1++[Cel.lst vs]).length
    rw[List.length_append,List.length_append,hr.len];rfl
  . show (ρ1.o++[acc]).Nodup
    rw[List.nodup_append]
    exact⟨hr.nd,by simp,fun a ha' b hb=>by rw[List.mem_singleton.mp hb];intro z;subst z;exact hacc ha'⟩
  . by_cases hi:i<s1.length
    . rw[List.getElem?_append_left hi]at q'
      obtain⟨a,e1,t⟩:=hr.cel i ws q'
      exact⟨a,mv.get i a e1,t.mv mv rfl⟩
    . have hi':i=s1.length:=by
       have:=(List.getElem?_eq_some_iff.mp q').1
       rw[List.length_append]at this
       simp at this;omega
      subst hi'
      rw[List.getElem?_append_right (Nat.le_refl _)]at q'
      simp at q'
      subst q'
      exact⟨acc,rf,ys,e,RDs.mv mv q⟩
  . obtain⟨x,n⟩:=hr.hid a (by rw[l.hid];exact List.mem_cons_of_mem _ hm)
    refine⟨x,fun z=>?_⟩
    rcases List.mem_append.mp z with z|z
    . exact n z
    . rw[List.mem_singleton.mp z]at hm;exact hnh hm
end
end M
end
section
namespace M
open PySem
section
variable {K:KF}{mg:Str→Option Value}
theorem qj{J:L2.It}{g:L2.TG}{tb:L2.TS}{D:L2.Ends}{σ:L2.St}{H:L2.Hp}{n:Nat}(Pv:Nat→L2.St→L2.Hp→Prop)(h0:Pv 0 σ H)(hd:∀σ H,Pv n σ H→J.stop n H∧D.nx σ H)
 (hs:∀i σ H,i<n→Pv i σ H→J.go i H∧∀x H',J.yld i H x H'→g x σ H' fun σ2 H2=>tb {D with nx:=Pv (i+1),ct:=Pv (i+1),bk:=D.nx} σ2 H2):L2.rL J g tb D σ H:=by
 refine⟨fun i m σ H=>m=n-i∧i≤n∧Pv i σ H,⟨n,by simp,Nat.zero_le _,h0⟩,?_⟩
 rintro i m σ H ⟨rfl,hi,p⟩
 by_cases hlt:i<n
 . obtain⟨a,b⟩:=hs i σ H hlt p
   exact .inr ⟨a,Pv (i+1),fun σ' H' p'=>⟨n-(i+1),by omega,rfl,hlt,p'⟩,b⟩
 . have e:i=n:=by omega
   subst e
   exact .inl (hd σ H p)
structure CS(K:KF)(mg:Str→Option Value)(acc:Addr)(ρ0:Own)(H0:L2.Hp)(a:List Val)(s:Sto)(env:Env)(ρ:Own)(σ:L2.St)(H:L2.Hp):Prop where
 lp:Lp acc ρ0 H0 ρ H
 hr:HR K mg ρ s H
 er:ER K mg ρ H env σ
 ac:∃ys,H acc=some (.lst ys)∧RDs K mg ρ H a ys
def Grows(body:Env→Sto→List Val→Out (List Val × Env)):Prop:=∀e s a p s',body e s a=.ok p s'→a.length≤p.1.length
theorem wL{r:Src}{t:Tgt}{body:Env→Sto→List Val→Out (List Val × Env)}(hb:Grows body):∀{xs:List Val} {env:Env} {s:Sto} {a:List Val} {p:List Val × Env} {s':Sto},yG r t body xs env s a=.ok p s'→a.length≤p.1.length
 |[],env,s,a,p,s',h=>by
  rw[yG]at h
  split at h
  . cases h;exact Nat.le_refl _
  . cases h
 |x::xs,env,s,a,p,s',h=>by
  rw[yG]at h
  split at h
  . split at h
    . cases h
    . rename_i env' he
      cases hc:body env' s a with
      |ok q s1=>
       rw[hc]at h
       exact Nat.le_trans (hb _ _ _ _ _ hc) (wL hb h)
      |exc _ _ _=>rw[hc]at h;cases h
      |stuck=>rw[hc]at h;cases h
  . cases h
def BodyOk(K:KF)(mg:Str→Option Value)(acc:Addr)(ρ0:Own)(H0:L2.Hp)(body:Env→Sto→List Val→Out (List Val × Env))(tb:L2.TS):Prop:=
 ∀(ρ:Own) (s:Sto) (H:L2.Hp) (env:Env) (σ:L2.St) (a:List Val) (p:List Val × Env) (s':Sto) (D:L2.Ends),CS K mg acc ρ0 H0 a s env ρ σ H→body env s a=.ok p s'→p.1.length≤zR →
  (∀ρ' H' σ',CS K mg acc ρ0 H0 p.1 s' p.2 ρ' σ' H'→Mv ρ H ρ' H'→D.nx σ' H')→tb D σ H
theorem xb{acc:Addr}{ρ0:Own}{H0:L2.Hp}{r:Src}{J:L2.It}{t:Tgt}{g:L2.TG}{body:Env→Sto→List Val→Out (List Val × Env)}{tb:L2.TS}{D:L2.Ends}{ρ:Own}{s:Sto}{H:L2.Hp}{env:Env}{σ:L2.St}{a:List Val}
 {p:List Val × Env} {sf:Sto} (W:Walk K mg ρ H r J) (TG:vq K mg t g) (hg:Grows body) (hb:BodyOk K mg acc ρ0 H0 body tb)
 (C:CS K mg acc ρ0 H0 a s env ρ σ H) (h:yG r t body r.xs env s a=.ok p sf) (hz:p.1.length≤zR) (fin:∀ρ' H' σ',CS K mg acc ρ0 H0 p.1 sf p.2 ρ' σ' H'→Mv ρ H ρ' H'→D.nx σ' H'):L2.rL J g tb D σ H:=by
 refine qj (n:=r.xs.length) (fun i σ2 H2=>∃ρ2 s2 env2 a2,CS K mg acc ρ0 H0 a2 s2 env2 ρ2 σ2 H2∧Mv ρ H ρ2 H2∧yG r t body (r.xs.drop i) env2 s2 a2=.ok p sf) ⟨ρ,s,env,a,C,Mv.refl,by rw[List.drop_zero];exact h⟩ ?_ ?_
 . rintro σ2 H2 ⟨ρ2,s2,env2,a2,C2,mv,h2⟩
   rw[List.drop_length,yG]at h2
   split at h2
   . rename_i ho
     cases h2
     exact⟨W.stop ρ2 H2 _ _ mv C2.hr ho rfl,fin ρ2 H2 σ2 C2 mv⟩
   . cases h2
 . rintro i σ2 H2 hi ⟨ρ2,s2,env2,a2,C2,mv,h2⟩
   rw[List.drop_eq_getElem_cons hi,yG]at h2
   split at h2
   . rename_i ho
     obtain⟨hgo,hy⟩:=W.go ρ2 H2 s2 i (r.xs[i]) mv C2.hr ho (List.getElem?_eq_getElem hi)
     refine⟨hgo,fun x H3 y=>?_⟩
     obtain⟨hH,rx⟩:=hy x H3 y
     split at h2
     . cases h2
     . rename_i env' he
       -- the item is there: perhaps a new thing
       have C3:CS K mg acc ρ0 H0 a2 s2 env2 ρ2 σ2 H3∧Mv ρ2 H2 ρ2 H3:=by
        rcases hH with e|⟨q,o,hq,e⟩
        . subst e;exact⟨C2,Mv.refl⟩
        . subst e
          have X:=Ext.new C2.hr hq o
          refine⟨⟨C2.lp.step C2.hr X,C2.hr.more hq o,C2.er.mono X,?_⟩,X.mv⟩
          obtain⟨ys,e1,e2⟩:=C2.ac
          exact⟨ys,by rw[L2.zP (L2.zT e1 hq)];exact e1,e2.mono X⟩
       refine TG ρ2 s2 H3 _ x env2 env' σ2 _ C3.1.hr rx C3.1.er he fun σ4 er4=>?_
       cases hc:body env' s2 a2 with
       |ok q s5=>
        rw[hc]at h2
        have hlen:q.1.length≤zR:=Nat.le_trans (wL hg h2) hz
        exact hb ρ2 s2 H3 env' σ4 a2 q s5 _ ⟨C3.1.lp,C3.1.hr,er4,C3.1.ac⟩ hc hlen fun ρ5 H5 σ5 C5 mv5=>⟨ρ5,s5,q.2,q.1,C5,(mv.trans C3.2).trans mv5,h2⟩
       |exc _ _ _=>rw[hc]at h2;cases h2
       |stuck=>rw[hc]at h2;cases h2
   . cases h2
end
section
variable (K:KF)(mg:Str→Option Value)(Φ:Calls)(G:Str→Option Val)
noncomputable def uE(e:Ex):L2.TE:=fun σ H Q=>∃env s,tV K mg env s (evE Φ G env e s) σ H Q
noncomputable def uT(e:Cn):L2.TT:=fun σ H Q=>∃env s,tT K mg env s (evT Φ G env e s) σ H Q
noncomputable def uI(it:Itb):L2.TI:=fun σ H R=>∃env s,tI (K:=K) (mg:=mg) env s (yL Φ G env it s) σ H R
noncomputable def uTs:Cns→List L2.TT
 |.nil=>[]
 |.cons e es=>uT K mg Φ G e::uTs es
end
section
variable {K:KF}{mg:Str→Option Value}{Φ:Calls}{G:Str→Option Val}
theorem ff{X:L2.Cx}{e:Ex}{E:Expr}(h:∀env s,L2.PE X E (tV X.K X.mg env s (evE Φ G env e s))):L2.PE X E (uE X.K X.mg Φ G e):=fun pins s σ H Q I ⟨env,t,q⟩=>h env t pins s σ H Q I q
theorem Yb{X:L2.Cx}{e:Cn}{E:Expr}(h:∀env s,L2.PT X E (tT X.K X.mg env s (evT Φ G env e s))):L2.PT X E (uT X.K X.mg Φ G e):=fun pins s σ H Q I ⟨env,t,q⟩=>h env t pins s σ H Q I q
theorem oe{X:L2.Cx}{it:Itb}{tg E:Expr}(h:∀env s,L2.PI X tg E (tI (K:=X.K) (mg:=X.mg) env s (yL Φ G env it s))):L2.PI X tg E (uI X.K X.mg Φ G it):=fun pins s σ H Q I ⟨env,t,q⟩=>h env t pins s σ H Q I q
theorem t6{s2:Sto}{env:Env}{σ:L2.St}{b:Bool}{Q:Bool→L2.Hp→Prop}:∀{es:Cns} {ρ:Own} {s:Sto} {H:L2.Hp},HR K mg ρ s H→ER K mg ρ H env σ→yo Φ G env es s=.ok b s2 →
 (∀ρ' H',Ext ρ H ρ' H'→HR K mg ρ' s2 H'→Q b H')→L2.qS (uTs K mg Φ G es) σ H Q
 |.nil,ρ,s,H,hr,er,h,q=>by
  rw[yo]at h;cases h
  exact q ρ H Ext.refl hr
 |.cons e es,ρ,s,H,hr,er,h,q=>by
  rw[yo]at h
  refine⟨env,s,ρ,hr,er,?_⟩
  cases hc:evT Φ G env e s with
  |ok c s1=>
   rw[hc]at h
   intro ρ1 c' H1 x1 hr1 e1
   cases e1
   cases c with
   |true=>exact L2.sI (t6 hr1 (er.mono x1) h fun ρ' H' x' hr'=>q ρ' H' (x1.trans hr1 x') hr')
   |false=>
    simp only[zM]at h
    cases h
    exact L2.sH (q ρ1 H1 x1 hr1)
  |exc _ _ _=>rw[hc]at h;cases h
  |stuck=>rw[hc]at h;cases h
noncomputable def w6(Φ:Calls)(G:Str→Option Val)(elt:Ex)(ifs:Cns):Env→Sto→List Val→Out (List Val × Env):=fun e s' acc=>(yo Φ G e ifs s').bind fun b s2=>if b then (evE Φ G e elt s2).bind fun v s3=>.ok (acc++[v],e) s3 else .ok (acc,e) s2
theorem xV{elt:Ex}{ifs:Cns}:Grows (w6 Φ G elt ifs):=by
 intro e s a p s' h
 unfold w6 at h
 cases hc:yo Φ G e ifs s with
 |ok b s1=>
  rw[hc]at h
  cases b with
  |true=>
   simp only[zM,if_true]at h
   cases hv:evE Φ G e elt s1 with
   |ok v s2=>rw[hv]at h;cases h;simp
   |exc _ _ _=>rw[hv]at h;cases h
   |stuck=>rw[hv]at h;cases h
  |false=>simp only[zM]at h;cases h;exact Nat.le_refl _
 |exc _ _ _=>rw[hc]at h;cases h
 |stuck=>rw[hc]at h;cases h
theorem t9{acc:Addr}{ρ0:Own}{H0:L2.Hp}(hn:H0 acc=none){elt:Ex}{ifs:Cns}:BodyOk K mg acc ρ0 H0 (w6 Φ G elt ifs) (L2.tTB (uTs K mg Φ G ifs) (L2.w5 acc (uE K mg Φ G elt))):=by
 intro ρ s H env σ a p s' D C h hz q
 unfold w6 at h
 cases hc:yo Φ G env ifs s with
 |ok b s1=>
  rw[hc]at h
  refine t6 (ρ:=ρ) (s:=s) C.hr C.er hc fun ρ1 H1 x1 hr1=>?_
  have hacc1:∃ys,H1 acc=some (.lst ys)∧RDs K mg ρ1 H1 a ys:=by
   obtain⟨ys,e1,e2⟩:=C.ac
   exact⟨ys,x1.keep _ _ e1 (C.hr.hid acc C.lp.here).2,e2.mono x1⟩
  cases b with
  |true=>
   simp only[zM,if_true]at h
   refine L2.sI ⟨env,s1,ρ1,hr1,C.er.mono x1,?_⟩
   cases hv:evE Φ G env elt s1 with
   |ok v s2=>
    rw[hv]at h
    cases h
    intro ρ2 y H2 x2 hr2 r2
    have xx:=x1.trans hr1 x2
    have lp2:=C.lp.step C.hr xx
    obtain⟨ys,e1,e2⟩:=hacc1
    have e3:H2 acc=some (.lst ys):=x2.keep _ _ e1 (hr1.hid acc (C.lp.step C.hr x1).here).2
    have e4:=e2.mono x2
    have hl:ys.length<sizeLine:=by
     have h1:(a++[v]).length≤zR:=hz
     rw[List.length_append,e2.length,z6]at h1
     simp at h1;omega
    have mv2:=ni (H1:=H2) hr2 lp2.here (.lst (ys++[y]))
    refine⟨ys,e3,hl,q ρ2 _ σ ⟨lp2.emit hr2 hn _,hr2.emit lp2.here,⟨C.er.len,fun i v' e'=>?_⟩,⟨_,L2.zV,RDs.mv mv2 (e4.append (.cons r2 .nil))⟩⟩ (xx.mv.trans mv2)⟩
    obtain⟨u,h1,h2⟩:=(C.er.mono xx).at_ i v' e'
    exact⟨u,h1,RD.mv mv2 h2⟩
   |exc _ _ _=>rw[hv]at h;cases h
   |stuck=>rw[hv]at h;cases h
  |false=>
   simp only[zM]at h
   cases h
   exact L2.sH (q ρ1 H1 σ ⟨C.lp.step C.hr x1,hr1,C.er.mono x1,hacc1⟩ x1.mv)
 |exc _ _ _=>rw[hc]at h;cases h
 |stuck=>rw[hc]at h;cases h
noncomputable def uD(Φ:Calls)(G:Str→Option Val)(elt:Ex)(ifs:Cns)(t2:Tgt)(it2:Itb)(ifs2:Cns):Env→Sto→List Val→Out (List Val × Env):=fun e s' acc=>(yo Φ G e ifs s').bind fun b s2=>if b then (yL Φ G e it2 s2).bind fun r2 s3=>
 yG r2 t2 (w6 Φ G elt ifs2) r2.xs e s3 acc
 else .ok (acc,e) s2
theorem vj{elt:Ex}{ifs ifs2:Cns}{t2:Tgt}{it2:Itb}:Grows (uD Φ G elt ifs t2 it2 ifs2):=by
 intro e s a p s' h
 unfold uD at h
 cases hc:yo Φ G e ifs s with
 |ok b s1=>
  rw[hc]at h
  cases b with
  |true=>
   simp only[zM,if_true]at h
   cases hv:yL Φ G e it2 s1 with
   |ok v s2=>rw[hv]at h;exact wL xV h
   |exc _ _ _=>rw[hv]at h;cases h
   |stuck=>rw[hv]at h;cases h
  |false=>simp only[zM]at h;cases h;exact Nat.le_refl _
 |exc _ _ _=>rw[hc]at h;cases h
 |stuck=>rw[hc]at h;cases h
theorem rR{acc:Addr}{ρ0:Own}{H0:L2.Hp}(hn:H0 acc=none){elt:Ex}{ifs ifs2:Cns}{t2:Tgt}{it2:Itb}{g2:L2.TG}(TG:vq K mg t2 g2) :
 BodyOk K mg acc ρ0 H0 (uD Φ G elt ifs t2 it2 ifs2) (L2.tTB (uTs K mg Φ G ifs) (L2.tx (uI K mg Φ G it2) g2 (uTs K mg Φ G ifs2) (L2.w5 acc (uE K mg Φ G elt)))):=by
 intro ρ s H env σ a p s' D C h hz q
 unfold uD at h
 cases hc:yo Φ G env ifs s with
 |ok b s1=>
  rw[hc]at h
  refine t6 (ρ:=ρ) (s:=s) C.hr C.er hc fun ρ1 H1 x1 hr1=>?_
  have hacc1:∃ys,H1 acc=some (.lst ys)∧RDs K mg ρ1 H1 a ys:=by
   obtain⟨ys,e1,e2⟩:=C.ac
   exact⟨ys,x1.keep _ _ e1 (C.hr.hid acc C.lp.here).2,e2.mono x1⟩
  have lp1:=C.lp.step C.hr x1
  cases b with
  |true=>
   simp only[zM,if_true]at h
   refine L2.sI ⟨env,s1,ρ1,hr1,C.er.mono x1,?_⟩
   cases hv:yL Φ G env it2 s1 with
   |ok r2 s2=>
    rw[hv]at h
    intro ρ2 H2 J x2 hr2 W
    have xx:=x1.trans hr1 x2
    obtain⟨ys,e1,e2⟩:=hacc1
    have e3:H2 acc=some (.lst ys):=x2.keep _ _ e1 (hr1.hid acc lp1.here).2
    exact xb W TG xV (t9 hn) ⟨lp1.step hr1 x2,hr2,C.er.mono xx,⟨ys,e3,e2.mono x2⟩⟩ h hz fun ρ3 H3 σ3 C3 mv3=>q ρ3 H3 σ3 C3 (xx.mv.trans mv3)
   |exc _ _ _=>rw[hv]at h;cases h
   |stuck=>rw[hv]at h;cases h
  |false=>
   simp only[zM]at h
   cases h
   exact L2.sH (q ρ1 H1 σ ⟨lp1,hr1,C.er.mono x1,hacc1⟩ x1.mv)
 |exc _ _ _=>rw[hc]at h;cases h
 |stuck=>rw[hc]at h;cases h
theorem lU{ρ:Own}{H:L2.Hp}{env:Env}{σ:L2.St}(er:ER K mg ρ H env σ)(fr:List (Option Nat)):ER K mg ρ H (zE fr env) (L2.zE fr σ):=by
 refine⟨by unfold zE L2.zE;rw[List.length_map,List.length_map],fun i v e=>?_⟩
 unfold zE at e
 unfold L2.zE
 rw[List.getElem?_map]at e ⊢
 cases hf:fr[i]? with
 |none=>rw[hf]at e;cases e
 |some o=>
  rw[hf]at e
  cases o with
  |none=>cases e
  |some j=>
   have e':(env[j]?).join=some v:=Option.some.inj e
   have e2:env[j]?=some (some v):=by
    cases h1:env[j]? with
    |none=>rw[h1]at e';cases e'
    |some w=>rw[h1]at e';have:w=some v:=e';rw[this]
   obtain⟨x,h1,h2⟩:=er.at_ j v e2
   refine⟨x,?_,h2⟩
   show some ((σ[j]?).join)=_
   rw[h1];rfl
theorem wY{fr:List (Option Nat)}{it:Itb}{t:Tgt}{g:L2.TG}{ts:List L2.TT}{tb:Addr→L2.TB}{body:Env→Sto→List Val→Out (List Val × Env)}{m:Bool}{env:Env}{s:Sto}(TG:vq K mg t g)(hg:Grows body)
 (hb:∀acc ρ0 H0,H0 acc=none→BodyOk K mg acc ρ0 H0 body (L2.tTB ts (tb acc))) {σ:L2.St} {H:L2.Hp} {Q:L2.VK} {chk:Bool}
 (h:tV K mg env s ((yL Φ G env it s).bind fun r s1=>(yG r t body r.xs (zE fr env) s1 []).bind fun p s2=>if chk=true→p.1.length≤zR then newList m p.1 s2 else .stuck) σ H Q)
 (hlen:chk=false→∀r s1 p s2,yG r t body r.xs (zE fr env) s1 []=.ok p s2→p.1.length≤r.xs.length):L2.wO fr (uI K mg Φ G it) g ts tb σ H Q:=by
 obtain⟨ρ,hr,er,w⟩:=h
 refine⟨env,s,ρ,hr,er,?_⟩
 cases hi:yL Φ G env it s with
 |ok r s1=>
  rw[hi]at w
  simp only[zM]at w
  intro ρ1 H1 J x1 hr1 W acc hacc
  cases hl:yG r t body r.xs (zE fr env) s1 [] with
  |ok p s2=>
   rw[hl]at w
   simp only[zM]at w
   have hz:p.1.length≤zR∧yC K mg (RD K mg) ρ H (newList m p.1 s2) Q:=by
    by_cases hc:chk=true→p.1.length≤zR
    . rw[if_pos hc]at w
      refine⟨?_,w⟩
      cases chk with
      |true=>exact hc rfl
      |false=>exact Nat.le_trans (hlen rfl r s1 p s2 hl) W.len
    . rw[if_neg hc]at w;exact w.elim
   have mv:=qB (ρ:=ρ1) hr1 hacc (.lst [])
   have ers:=lU (er.mono x1) fr
   refine xb (ρ0:=ρ1) (H0:=H1) (W.mv mv) TG hg (hb acc ρ1 H1 hacc) ⟨Lp.start hr1 hacc _,hr1.hide hacc,⟨ers.len,fun i v e=>?_⟩,⟨[],L2.zV,.nil⟩⟩ hl hz.1 fun ρ3 H3 σ3 C3 _=>?_
   . obtain⟨x,h1,h2⟩:=ers.at_ i v e
     exact⟨x,h1,RD.mv mv h2⟩
   . obtain⟨ys,e1,e2⟩:=C3.ac
     exact C3.lp.done hr1 hacc C3.hr e1 e2 (hz.2.mono x1 hr1)
  |exc _ _ _=>rw[hl]at w;exact w.elim
  |stuck=>rw[hl]at w;exact w.elim
 |exc _ _ _=>rw[hi]at w;exact w.elim
 |stuck=>rw[hi]at w;exact w.elim
theorem uF{r:Src}{t:Tgt}{elt:Ex}{ifs:Cns}:∀{xs:List Val} {env:Env} {s:Sto} {a:List Val} {p:List Val × Env} {s':Sto},yG r t (w6 Φ G elt ifs) xs env s a=.ok p s'→p.1.length≤a.length+xs.length
 |[],env,s,a,p,s',h=>by
  rw[yG]at h
  split at h
  . cases h;exact Nat.le_refl _
  . cases h
 |x::xs,env,s,a,p,s',h=>by
  rw[yG]at h
  split at h
  . split at h
    . cases h
    . rename_i env' he
      cases hc:w6 Φ G elt ifs env' s a with
      |ok q s1=>
       rw[hc]at h
       have h1:=uF h
       have h2:q.1.length≤a.length+1:=by
        unfold w6 at hc
        cases h3:yo Φ G env' ifs s with
        |ok b s2=>
         rw[h3]at hc
         cases b with
         |true=>
          simp only[zM,if_true]at hc
          cases h4:evE Φ G env' elt s2 with
          |ok v s3=>rw[h4]at hc;cases hc;simp
          |exc _ _ _=>rw[h4]at hc;cases hc
          |stuck=>rw[h4]at hc;cases hc
         |false=>simp only[zM]at hc;cases hc;exact Nat.le_succ _
        |exc _ _ _=>rw[h3]at hc;cases hc
        |stuck=>rw[h3]at hc;cases hc
       rw[List.length_cons];omega
      |exc _ _ _=>rw[hc]at h;cases h
      |stuck=>rw[hc]at h;cases h
  . cases h
end
end M
end
section
namespace M
open PySem
noncomputable def dE(sc:Scope)(x:Str):Bool:=decide (sc.names.lookup x=some .local)||decide (sc.names.lookup x=some .cell)||decide (sc.names.lookup x=some .free)
noncomputable def xf(sc:Scope)(x:Str):Bool:=decide (sc.names.lookup x=some .globalImplicit)
noncomputable def xZ:List Str:=["len","all","any","tuple","list","sorted","repr","max","min","sum","int","isinstance","divmod","str","bool","dict","set","range","enumerate","zip"]
noncomputable def Y0(y:Str)(n:String):Bool:=(decide (y="int")&&decide (n="int"))||(decide (y="bool")&&decide (n="bool"))||(decide (y="str")&&decide (n="str"))||(decide (y="list")&&decide (n="list"))||(decide (y="tuple")&&decide (n="tuple"))||(decide (y="dict")&&decide (n="dict"))
noncomputable def su:Val→Expr→Bool
 |.none,.Constant .none _ _=>true
 |.bool b,.Constant (.bool c) _ _=>b == c
 |.int i,.Constant (.int j) _ _=>decide (i=j)
 |.str x,.Constant (.str y) _ _=>decide (x=y)
 |_,_=>false
noncomputable def isLit:Ex→Int→Bool
 |.lit (.int i),j=>decide (i=j)
 |_,_=>false
noncomputable def ka:Ex→Bool
 |.lit .none=>true
 |_=>false
noncomputable def ke:Ex→Bool
 |.lit (.bool true)=>true
 |_=>false
theorem kf{e:Ex}(h:ke e=true):e=.lit (.bool true):=by
 unfold ke at h
 split at h
 . rfl
 . cases h
theorem kc{e:Ex}(h:ka e=true):e=.lit .none:=by
 unfold ka at h
 split at h
 . rfl
 . cases h
theorem qm{e:Ex}{j:Int}(h:isLit e j=true):e=.lit (.int j):=by
 unfold isLit at h
 split at h
 . rw[of_decide_eq_true h]
 . cases h
mutual
noncomputable def ck(sc:Scope)(N:List Str):Ex→Expr→Bool
 |.lit v,e=>su v e
 |.var i,e=>(match e with|.Name x _=>decide (N[i]?=some x)&&dE sc x&&!(x == ("__debug__":Str))&&!(x == ("__classdict__":Str))|_=>false)
 |.gl y,e=>(match e with|.Name x _=>decide (x=y)&&xf sc x&&!(x == ("__debug__":Str))|_=>false)
 |.ty y n,e=>(match e with|.Name x _=>decide (x=y)&&xf sc x&&Y0 y n|_=>false)
 |.bin _ op a b,e=>(match e with|.BinOp l o r _=>(okB op&&decide (o=op.op))&&ck sc N a l&&ck sc N b r|_=>false)
 |.neg a,e=>(match e with|.UnaryOp .USub x _=>ck sc N a x|_=>false)
 |.not a,e=>(match e with|.UnaryOp .Not x _=>ck sc N a x|_=>false)
 |.cmp op a b,e=>(match e with|.Compare l [o] [r] _=>(okC op&&decide (o=op.op))&&ck sc N a l&&ck sc N b r&&plain r|_=>false)
 |.chain op op' a b c,e=>(match e with|.Compare l [o,o'] [r,r'] _=>(okC op&&decide (o=op.op))&&(okC op'&&decide (o'=op'.op))&&ck sc N a l&&ck sc N b r&&ck sc N c r'&&plain r'|_=>false)
 |.andE a es,e=>(match e with|.BoolOp .And (x::xs) _=>ck sc N a x&&ckL sc N es xs|_=>false)
 |.orE _ _,_=>false
 |.ife c a b,e=>(match e with|.IfExp t x y _=>ckC sc N c t&&ck sc N a x&&ck sc N b y|_=>false)
 |.tup es,e=>(match e with|.Tuple xs _ _=>ckL sc N es xs&&yM xs|_=>false)
 |.lst _ es,e=>(match e with|.List xs _=>ckL sc N es xs&&yM xs|_=>false)
 |.dct0,_=>false
 |.dctN _,e=>(match e with|.Dict [] [] _=>true|_=>false)
 |.ixD a b,e=>(match e with|.Subscript l r _=>ck sc N a l&&ck sc N b r&&plain r|_=>false)
 |.call f _ es,e=>(match e with|.Call (.Name x _) xs [] _=>decide (x=f)&&xf sc x&&!(x == ("__debug__":Str))&&ckL sc N es xs&&yM xs|_=>false)
 |.blt f _ es,e=>(match e with|.Call (.Name x _) (y::ys) [] _=>(okF f&&decide (x=f.nm))&&xf sc x&&ckL sc N es (y::ys)&&yM (y::ys)|_=>false)
 |.maxD _ _,_=>false
 |.zy f _ o es,e=>(match e with|.Call (.Attribute ob x ap) [y] [] cp=>decide (x=f.nm)&&ck sc N o ob&&ckL sc N es [y]&&plain y&&qH ob&&(ap.endLine == cp.line)&&okM f|_=>false)
 |.ix a b,e=>(match e with|.Subscript l r _=>ck sc N a l&&ck sc N b r&&plain r|_=>false)
 |.sl _ a lo hi st,e=>(match e with|.Subscript l (.Slice x y z _) _=>ck sc N a l&&ckO sc N lo x&&ckO sc N hi y&&ckO sc N st z|_=>false)
 |.comp _ N' fr elt t it ifs,e=>(match e with|.ListComp x [⟨tg,iter,fs,0⟩] csc _=>L2.rl sc N N' csc fr&&decide N'.Nodup&&ckT csc N' t tg&&ckI sc N it iter tg&&rm csc N' ifs fs&&ck csc N' elt x&&plain iter|_=>false)
 |.comp2 _ N' fr elt t it ifs t2 it2 ifs2,e=>(match e with|.ListComp x [⟨tg,iter,fs,0⟩,⟨tg2,iter2,fs2,0⟩] csc _=>L2.rl sc N N' csc fr&&decide N'.Nodup&&ckT csc N' t tg&&ckI sc N it iter tg&&rm csc N' ifs fs&&ckT csc N' t2 tg2&&ckI csc N' it2 iter2 tg2&&rm csc N' ifs2 fs2&&ck csc N' elt x&&plain iter&&plain iter2|_=>false)
 |.listRange _ z a w,e=>(match e with|.Call (.Name x _) [.Call (.Name y _) [c] [] _] [] _=>isLit z 0&&isLit w 1&&decide (x="list")&&decide (y="range")&&xf sc x&&xf sc y&&ck sc N a c&&plain c|.Call (.Name x _) [.Call (.Name y _) [c,d] [] _] [] _=>(if ka w then decide (x="tuple") else ke w&&decide (x="list"))&&decide (y="range")&&xf sc x&&xf sc y&&ck sc N z c&&ck sc N a d&&plain c&&plain d|_=>false)
noncomputable def ckL(sc:Scope)(N:List Str):Exs→List Expr→Bool
 |.nil,es=>(match es with|[]=>true|_=>false)
 |.cons a as,es=>(match es with|e::es=>ck sc N a e&&ckL sc N as es|_=>false)
noncomputable def ckO(sc:Scope)(N:List Str):OEx→Option Expr→Bool
 |.no,e=>(match e with|none=>true|_=>false)
 |.yes a,e=>(match e with|some e=>ck sc N a e|_=>false)
noncomputable def ckC(sc:Scope)(N:List Str):Cn→Expr→Bool
 |.val a,e=>ck sc N a e&&(plainT e||(match e with|.Compare ..=>true|_=>false))
 |.not c,e=>(match e with|.UnaryOp .Not x _=>ckC sc N c x|_=>false)
 |.and c cs,e=>(match e with|.BoolOp .And (x::xs) _=>ckC sc N c x&&rm sc N cs xs|_=>false)
 |.or c cs,e=>(match e with|.BoolOp .Or (x::xs) _=>ckC sc N c x&&rm sc N cs xs|_=>false)
noncomputable def rm(sc:Scope)(N:List Str):Cns→List Expr→Bool
 |.nil,es=>(match es with|[]=>true|_=>false)
 |.cons a as,es=>(match es with|e::es=>ckC sc N a e&&rm sc N as es|_=>false)
noncomputable def ckI(sc:Scope)(N:List Str):Itb→Expr→Expr→Bool
 |.val a,e,_=>ck sc N a e
 |.range1 a,e,_=>(match e with|.Call (.Name x _) [y] [] _=>decide (x="range")&&xf sc x&&ck sc N a y&&plain y|_=>false)
 |.range2 a b,e,_=>(match e with|.Call (.Name x _) [y,z] [] _=>decide (x="range")&&xf sc x&&ck sc N a y&&ck sc N b z&&plain y&&plain z|_=>false)
 |.enum a,e,tg=>(match e,tg with|.Call (.Name x _) [y] [] _,.Tuple _ _ _=>decide (x="enumerate")&&xf sc x&&ck sc N a y&&plain y|_,_=>false)
 |.zip _ _,_,_=>false
end
structure Ok(T:Tbl)(n:Nat)(sc:Scope)(N:List Str)(X:L2.Cx):Prop where
 calm:X.calm=true
 room:L2.yn n X.A
 scp:Scp sc N X
 fns:∀f v F,T.fn f v=some F→Callee T n X f v F
 gls:∀x v,T.gl x=some v→∃u xv,X.mg x=some u∧L2.RelV xv u∧∀ρ H,RD X.K X.mg ρ H v xv
 blt:∀x∈xZ,X.mg x=none
 xe:X.xe=fun _ _=>False
theorem nU{sc:Scope}{N N':List Str}{csc:Scope}{fr:List (Option Nat)}{X:L2.Cx}(S:Scp sc N X)(h:L2.rl sc N N' csc fr=true):L2.zk X N' csc fr:=by
 unfold L2.rl at h
 simp only[Bool.and_eq_true,List.all_eq_true,Bool.or_eq_true,decide_eq_true_eq,List.mem_range]at h
 obtain⟨⟨⟨⟨⟨⟨a1,a2⟩,a3⟩,a4⟩,a5⟩,a6⟩,a7⟩:=h
 refine⟨a1,a2,fun x hx hk=>?_,fun x hx hk=>?_,a5,fun i j x e1 e2=>?_,fun x e1 e2=>?_⟩
 . rcases a3 x hx with z|z
   . exact absurd hk z
   . exact z
 . rcases a4 x hx with z|z
   . exact absurd hk z
   . exact S.cf x.1 z
 . have hi:i<N'.length:=(List.getElem?_eq_some_iff.mp e1).1
   have q:=a6 i hi
   rw[e1,e2]at q
   simp only[Bool.and_eq_true,decide_eq_true_eq,List.any_eq_true]at q
   obtain⟨q1,y,q2,q3,q4⟩:=q
   refine⟨by rw[S.hN];exact q1,?_⟩
   have:y=(x,NameKind.free):=Prod.ext q3 q4
   rw[←this];exact q2
 . rcases a7 (x,.free) e2 with z|z
   . exact z rfl
   . exact z e1
theorem xY{sc:Scope}{env:PySem.Env}{x:Str}(h:sc.names.lookup x=some .local):(relabel sc env).names.lookup x=some .local:=lookup_relabel_local h
theorem om{sc:Scope}{env:PySem.Env}{x:Str}(h:sc.names.lookup x=some .globalImplicit):(relabel sc env).names.lookup x=some .globalImplicit:=by
 have key:∀(names:List (Str × NameKind)),names.lookup x=some .globalImplicit→(names.map fun(n,k)=>if (k == NameKind.free&&env.scope.kind == .function&&env.kindOf n == some .cell) then (n,NameKind.cell) else (n,k)).lookup x=some .globalImplicit:=by
  intro names
  induction names with
  |nil=>intro h;simp at h
  |cons p r ih=>
   obtain⟨n,k⟩:=p
   intro h
   rw[List.map_cons]
   dsimp only
   cases hx:(x == n) with
   |true=>
    rw[List.lookup_cons,hx]at h
    cases h
    have e:(NameKind.globalImplicit == NameKind.free)=false:=rfl
    rw[e]
    simp only[Bool.false_and,Bool.false_eq_true,if_false,List.lookup_cons,hx]
   |false=>
    rw[List.lookup_cons,hx]at h
    have:=ih h
    split<;>simpa only[List.lookup_cons,hx] using this
 exact key sc.names h
theorem Scp.comp{sc:Scope}{N N':List Str}{csc:Scope}{fr:List (Option Nat)}{X:L2.Cx}(S:Scp sc N X)(hc:L2.zk X N' csc fr)(nd:N'.Nodup)(C:Addr)(s0:Shared)(H0:L2.Hp)(ex:List Addr):Scp csc N' (X.comp N' csc C s0 H0 ex):=by
 have nocell:∀x,csc.names.lookup x≠some .cell:=fun x h=>hc.nocell _ (PySem.mem_of_lookup h) rfl
 refine⟨rfl,nd,fun x h=>?_,fun x h=>?_,fun x h=>?_,fun x h=>?_⟩
 . rcases h with h|h|h
   . exact .inl (xY h)
   . exact absurd h (nocell x)
   . exact(L2.vg hc.locals h).elim (fun z=>.inr (.inl z)) fun z=>.inr (.inr z)
 . rcases h with h|h
   . exact⟨.inl (xY h),.inr (xY h)⟩
   . exact absurd h (nocell x)
 . exact om h
 . rcases h with h|h
   . exact absurd h (nocell x)
   . exact L2.vg hc.locals h
theorem Callee.comp{T:Tbl}{n:Nat}{X:L2.Cx}{f:Str}{v:Nat}{F:Fn}(c:Callee T n X f v F)(N':List Str)(csc:Scope)(C:Addr)(s0:Shared)(H0:L2.Hp)(ex:List Addr):Callee T n (X.comp N' csc C s0 H0 ex) f v F:=⟨c.ex⟩
theorem Ok.comp{T:Tbl}{n:Nat}{sc:Scope}{N N':List Str}{csc:Scope}{fr:List (Option Nat)}{X:L2.Cx}(o:Ok T n sc N X)(hc:L2.zk X N' csc fr)(nd:N'.Nodup)(C:Addr)(s0:Shared)(H0:L2.Hp)(ex:List Addr):Ok T n csc N' (X.comp N' csc C s0 H0 ex):=
 ⟨o.calm,o.room,o.scp.comp hc nd C s0 H0 ex,fun f v F h=>(o.fns f v F h).comp N' csc C s0 H0 ex,o.gls,o.blt,rfl⟩
end M
end
section
namespace M
open PySem
section
variable {T:Tbl}{n:Nat}
def JE(T:Tbl)(n:Nat)(a:Ex):Prop:=∀(sc:Scope) (N:List Str) (X:L2.Cx) (e:Expr),Ok T n sc N X→ck sc N a e=true→∀env s,L2.PE X e (tV X.K X.mg env s (evE (zD T n) T.gl env a s))
def JL(T:Tbl)(n:Nat)(a:Exs):Prop:=∀(sc:Scope) (N:List Str) (X:L2.Cx) (es:List Expr),Ok T n sc N X→ckL sc N a es=true →
 (yM es=true→∀env s,L2.PA X es (tVs X.K X.mg env s (yd (zD T n) T.gl env a s))) ∧
 (∀e es' pos,es=e::es'→∀env s,L2.PE X (.BoolOp .And es pos) (tV X.K X.mg env s (uN (zD T n) T.gl env a s))) ∧
 (∀e es' pos,es=e::es'→∀env s,L2.PE X (.BoolOp .Or es pos) (tV X.K X.mg env s (qh (zD T n) T.gl env a s))) ∧
 (∀y,es=[y]→plain y=true→∃b,a=.cons b .nil∧∀env s,L2.PE X y (tV X.K X.mg env s (evE (zD T n) T.gl env b s)))
def JO(T:Tbl)(n:Nat)(a:OEx):Prop:=∀(sc:Scope) (N:List Str) (X:L2.Cx) (e:Option Expr),Ok T n sc N X→ckO sc N a e=true→(∀env s,L2.PO X e (tO X.K X.mg env s (evO (zD T n) T.gl env a s))) ∧
 ((e=none∧∀env s1,evO (zD T n) T.gl env a s1=.ok none s1)∨∃e',e=some e'∧∀env s1 s2,evO (zD T n) T.gl env a s1≠.ok none s2)
def JC(T:Tbl)(n:Nat)(a:Cn):Prop:=∀(sc:Scope) (N:List Str) (X:L2.Cx) (e:Expr),Ok T n sc N X→ckC sc N a e=true→∀env s,L2.PT X e (tT X.K X.mg env s (evT (zD T n) T.gl env a s))
def JCs(T:Tbl)(n:Nat)(a:Cns):Prop:=∀(sc:Scope) (N:List Str) (X:L2.Cx) (es:List Expr),Ok T n sc N X→rm sc N a es=true →
 (∀pos env s,L2.PW X (.BoolOp .And es pos) (tT X.K X.mg env s (yo (zD T n) T.gl env a s)))∧(∀pos env s,L2.PW X (.BoolOp .Or es pos) (tT X.K X.mg env s (ux (zD T n) T.gl env a s)))∧L2.PTs X es (uTs X.K X.mg (zD T n) T.gl a)
def JI(T:Tbl)(n:Nat)(a:Itb):Prop:=∀(sc:Scope) (N:List Str) (X:L2.Cx) (e tg:Expr),Ok T n sc N X→ckI sc N a e tg=true→∀env s,L2.PI X tg e (tI (K:=X.K) (mg:=X.mg) env s (yL (zD T n) T.gl env a s))
theorem bP{v:Val}:JE T n (.lit v):=by
 intro sc N X e o h env s
 simp only[ck]at h
 show L2.PE X e (tV X.K X.mg env s (.ok v s))
 unfold su at h
 split at h
 . exact zX L2.aX fun σ H Q ⟨ρ,hr,er,w⟩=>zK hr .none w
 . have h':=(beq_iff_eq.mp h);subst h'
   exact zX L2.YQ fun σ H Q ⟨ρ,hr,er,w⟩=>zK hr (.bool _) w
 . have h':=of_decide_eq_true h;subst h'
   exact zX L2.aV fun σ H Q ⟨ρ,hr,er,w⟩=>zK hr (.int _) w
 . have h':=of_decide_eq_true h;subst h'
   exact zX L2.aa fun σ H Q ⟨ρ,hr,er,w⟩=>zK hr (.str _) w
 . cases h
theorem bT{i:Nat}:JE T n (.var i):=by
 intro sc N X e o h env s
 simp only[ck]at h
 split at h
 . rename_i x p
   simp only[Bool.and_eq_true,decide_eq_true_eq,dE,Bool.or_eq_true,Bool.not_eq_true']at h
   obtain⟨⟨⟨h1,h2⟩,h3⟩,h4⟩:=h
   have hv:L2.Vis X.env.scope x:=o.scp.vis x (by rcases h2 with (z|z)|z;exact .inl z;exact .inr (.inl z);exact .inr (.inr z))
   show L2.PE X _ (tV X.K X.mg env s (match env[i]? with|some (some v)=>.ok v s|_=>.stuck))
   refine zX (L2.ae (i:=i) (by rw[o.scp.hN];exact h1) hv h3 h4) fun σ H Q ⟨ρ,hr,er,w⟩=>?_
   split at w
   . rename_i v e
     obtain⟨x',h5,h6⟩:=er.at_ i v e
     exact⟨x',h5,zK hr h6 w⟩
   . exact w.elim
 . cases h
theorem Zs{y:Str}:JE T n (.gl y):=by
 intro sc N X e o h env s
 simp only[ck]at h
 split at h
 . rename_i x p
   simp only[Bool.and_eq_true,decide_eq_true_eq,xf,Bool.not_eq_true']at h
   obtain⟨⟨h1,h2⟩,h3⟩:=h
   subst h1
   show L2.PE X _ (tV X.K X.mg env s (match T.gl x with|some v=>.ok v s|Option.none=>.stuck))
   cases hv:T.gl x with
   |none=>exact zG (zC rfl)
   |some v=>
    obtain⟨u,xv,e1,e2,e3⟩:=o.gls x v hv
    exact zX (L2.fc (o.scp.gl x h2) e1 e2 h3) fun σ H Q ⟨ρ,hr,er,w⟩=>zK hr (e3 ρ H) w
 . cases h
theorem Zv{y:Str}{m:String}:JE T n (.ty y m):=by
 intro sc N X e o h env s
 simp only[ck]at h
 split at h
 . rename_i x p
   simp only[Bool.and_eq_true,decide_eq_true_eq,xf]at h
   obtain⟨⟨h1,h2⟩,h3⟩:=h
   subst h1
   show L2.PE X _ (tV X.K X.mg env s (.ok (.ty m) s))
   have key:x∈xZ∧bootBuiltins x=some (.type m)∧x≠"__name__"∧(x == ("__debug__":Str))=false:=by
    unfold Y0 at h3
    simp only[Bool.or_eq_true,Bool.and_eq_true,decide_eq_true_eq]at h3
    rcases h3 with ((((⟨rfl,rfl⟩|⟨rfl,rfl⟩)|⟨rfl,rfl⟩)|⟨rfl,rfl⟩)|⟨rfl,rfl⟩)|⟨rfl,rfl⟩
    . exact⟨by decide,PyProof.Rows.boot_int,by decide,by decide⟩
    . exact⟨by decide,PyProof.Rows.boot_bool,by decide,by decide⟩
    . exact⟨by decide,PyProof.Rows.boot_str,by decide,by decide⟩
    . exact⟨by decide,PyProof.Rows.boot_list,by decide,by decide⟩
    . exact⟨by decide,PyProof.Rows.boot_tuple,by decide,by decide⟩
    . exact⟨by decide,PyProof.Rows.boot_dict,by decide,by decide⟩
   exact zX (L2.YU (o.scp.gl x h2) (o.blt x key.1) key.2.1 key.2.2.1 key.2.2.2) fun σ H Q ⟨ρ,hr,er,w⟩=>zK hr (.ty _) w
 . cases h
theorem gp{t:Bool}:JE T n (.dctN t):=by
 intro sc N X e o h env s
 simp only[ck]at h
 split at h
 . show L2.PE X _ (tV X.K X.mg env s (.ok (.dref s.length) (s++[if t then .dT [] else .dS []])))
   cases t with
   |true=>exact zX L2.jy fun σ H Q ⟨ρ,hr,er,w⟩ p hp=>w _ _ _ (Ext.own hr hp _) (hr.aH hp ⟨[],L2.zV,rfl,.nil⟩) (.dref (uf hr p) (by rw[L2.zV];decide))
   |false=>exact zX L2.jx fun σ H Q ⟨ρ,hr,er,w⟩ p hp=>w _ _ _ (Ext.own hr hp _) (hr.aH hp ⟨[],L2.zV,rfl,.nil⟩) (.dref (uf hr p) (by rw[L2.zV];decide))
 . cases h
theorem k0{a b:Ex}(ja:JE T n a)(jb:JE T n b):JE T n (.ixD a b):=by
 intro sc N X e o h env s
 simp only[ck]at h
 split at h
 . simp only[Bool.and_eq_true]at h
   have h1:=ja _ _ _ _ o h.1.1 env s
   have h2:=fun s1=>jb _ _ _ _ o h.1.2 env s1
   show L2.PE X _ (tV X.K X.mg env s ((evE (zD T n) T.gl env a s).bind fun x s1=>(evE (zD T n) T.gl env b s1).bind fun y s2=>ixD x y s2))
   cases ha:evE (zD T n) T.gl env a s with
   |ok v s1=>
    rw[ha]at h1
    have h2':=h2 s1
    simp only[zM]
    cases hb:evE (zD T n) T.gl env b s1 with
    |ok w s2=>
     rw[hb]at h2'
     refine zX (L2.fb (by have:=o.room.un;omega) h1 h2' (pP h.2)) fun σ H Q ⟨ρ,hr,er,wt⟩=>⟨ρ,hr,er,fun ρ1 x H1 x1 hr1 r1=>⟨ρ1,hr1,er.mono x1,fun ρ2 y H2 x2 hr2 r2=>?_⟩⟩
     have wt':yC X.K X.mg (RD X.K X.mg) ρ2 H2 (ixD v w s2) Q:=wt.mono (x1.trans hr1 x2) hr2
     unfold ixD at wt'
     split at wt'
     . rename_i u e
       obtain⟨p,o',ex,g,ro⟩:=getD_at hr2 (r1.mono x2) r2 e
       cases o' with
       |none=>exact ro.elim
       |some z=>exact⟨p,z,ex,g,zK hr2 ro wt'⟩
     . exact wt'.elim
    |exc _ _ _=>exact zG (zC rfl)
    |stuck=>exact zG (zC rfl)
   |exc _ _ _=>exact zG (zC rfl)
   |stuck=>exact zG (zC rfl)
 . cases h
theorem qc{op:Cop}{x y v:Val}{s s':Sto}(h:zS op x y s=.ok v s'):∃b,v=.bool b:=by
 unfold zS at h
 split at h<;>(split at h<;>first|(cases h;exact⟨_,rfl⟩)|cases h|(split at h<;>first|(cases h;exact⟨_,rfl⟩)|cases h|(split at h<;>first|(cases h;exact⟨_,rfl⟩)|cases h)))
theorem t8{K:KF}{mg:Str→Option Value}{ρ:Own}{H:L2.Hp}{o:Out Val}{Q:Bool→L2.Hp→Prop}(hb:∀v s',o=.ok v s'→∃b,v=.bool b)(w:yC K mg (fun _ _ a b=>a=b) ρ H o.truth Q):yC K mg (RD K mg) ρ H o fun x H'=>∃k,x=.bl k∧Q k H':=by
 cases o with
 |ok v s1=>
  obtain⟨b,rfl⟩:=hb v s1 rfl
  intro ρ1 x H1 x1 hr1 r1
  cases r1
  exact⟨b,rfl,w _ _ _ x1 hr1 rfl⟩
 |exc _ _ _=>exact w
 |stuck=>exact w
theorem bZ{X:L2.Cx}{env:Env}{s:Sto}{a b:Expr}{op:Cop}{o:Out Val}{f2:Sto→Out Val}{k:Nat}{pos:Pos}(k1:okC op=true)(hr0:L2.yn k X.A)(h1:L2.PE X a (tV X.K X.mg env s o))(h2:∀s1,L2.PE X b (tV X.K X.mg env s1 (f2 s1)))(hm:plain b=true) :
 L2.PT X (.Compare a [op.op] [b] pos) (tT X.K X.mg env s (o.bind fun x s1=>(f2 s1).bind fun y s2=>zS op x y s2).truth):=by
 cases o with
 |ok v s1=>
  have h2':=h2 s1
  show L2.PT X _ (tT X.K X.mg env s ((f2 s1).bind fun y s2=>zS op v y s2).truth)
  cases hb:f2 s1 with
  |ok w s2=>
   rw[hb]at h2'
   exact qL (L2.f6 (uA hr0 op k1) h1 h2' (x6 hm)) fun σ H Q ⟨ρ,hr,er,wt⟩=>⟨ρ,hr,er,fun ρ1 x H1 x1 hr1 r1=>⟨ρ1,hr1,er.mono x1,fun ρ2 y H2 x2 hr2 r2=>⟨ρ2,s2,v,w,hr2,r1.mono x2,r2,t8 (fun _ _ h=>qc h) (wt.mono (x1.trans hr1 x2) hr2)⟩⟩⟩
  |exc _ _ _=>exact zt (zC rfl)
  |stuck=>exact zt (zC rfl)
 |exc _ _ _=>exact zt (zC rfl)
 |stuck=>exact zt (zC rfl)
theorem jJ{X:L2.Cx}{env:Env}{s:Sto}{a b c:Expr}{op op':Cop}{o:Out Val}{f2 f3:Sto→Out Val}{k:Nat}{pos:Pos}(k1:okC op=true)(k2:okC op'=true)(hr0:L2.yn k X.A)(h1:L2.PE X a (tV X.K X.mg env s o))(h2:∀s1,L2.PE X b (tV X.K X.mg env s1 (f2 s1)))(h3:∀s1,L2.PE X c (tV X.K X.mg env s1 (f3 s1)))(hm:plain c=true) :
 L2.PT X (.Compare a [op.op,op'.op] [b,c] pos) (tT X.K X.mg env s (o.bind fun x s1=>(f2 s1).bind fun y s2=>(zS op x y s2).bind fun r s3=>match r with
  |.bool true=>(f3 s3).bind fun z s4=>zS op' y z s4
  |.bool false=>.ok (.bool false) s3
  |_=>.stuck).truth):=by
 cases o with
 |ok v s1=>
  have h2':=h2 s1
  show L2.PT X _ (tT X.K X.mg env s ((f2 s1).bind _).truth)
  cases hb:f2 s1 with
  |ok w s2=>
   rw[hb]at h2'
   show L2.PT X _ (tT X.K X.mg env s ((zS op v w s2).bind _).truth)
   cases hc:zS op v w s2 with
   |ok r s3=>
    cases r with
    |bool t=>
     have h3':=h3 s3
     have rule:=L2.iF (pos:=pos) (uA hr0 op k1) (uA hr0 op' k2) h1 h2' h3' (show lastMarks [op.op,op'.op] [b,c]=false from x6 hm)
     refine qL rule fun σ H Q ⟨ρ,hr,er,wt⟩=>⟨ρ,hr,er,fun ρ1 x H1 x1 hr1 r1=>⟨ρ1,hr1,er.mono x1,fun ρ2 y H2 x2 hr2 r2=>⟨ρ2,s2,v,w,hr2,r1.mono x2,r2,?_⟩⟩⟩
     rw[hc]
     intro ρ3 z H3 x3 hr3 r3
     cases r3
     refine⟨t,rfl,?_⟩
     have xx:=(x1.trans hr1 x2).trans hr2 x3
     have wt':=wt.mono xx hr3
     cases t with
     |true=>
      rw[if_pos rfl]
      refine⟨ρ3,hr3,er.mono xx,?_⟩
      have wt2:yC X.K X.mg (fun _ _ a b=>a=b) ρ3 H3 ((f3 s3).bind fun z s4=>zS op' w z s4).truth Q:=wt'
      cases hz:f3 s3 with
      |ok u s4=>
       rw[hz]at wt2
       exact fun ρ4 q H4 x4 hr4 r4=>⟨ρ4,s4,w,u,hr4,(r2.mono x3).mono x4,r4,t8 (fun _ _ h=>qc h) (wt2.mono x4 hr4)⟩
      |exc _ _ _=>rw[hz]at wt2;exact wt2
      |stuck=>rw[hz]at wt2;exact wt2
     |false=>
      rw[if_neg Bool.false_ne_true]
      exact⟨false,rfl,wt' _ _ _ Ext.refl hr3 rfl⟩
    |_=>exact zt (zC rfl)
   |exc _ _ _=>exact zt (zC rfl)
   |stuck=>exact zt (zC rfl)
  |exc _ _ _=>exact zt (zC rfl)
  |stuck=>exact zt (zC rfl)
 |exc _ _ _=>exact zt (zC rfl)
 |stuck=>exact zt (zC rfl)
theorem bM{op:Cop}{a b:Ex}(ja:JE T n a)(jb:JE T n b):JC T n (.val (.cmp op a b)):=by
 intro sc N X e o h env s
 simp only[ckC,Bool.and_eq_true,ck]at h
 obtain⟨h1,_⟩:=h
 split at h1
 . simp only[Bool.and_eq_true,decide_eq_true_eq]at h1
   obtain⟨⟨⟨⟨k1,rfl⟩,h3⟩,h4⟩,h5⟩:=h1
   exact bZ k1 o.room (ja _ _ _ _ o h3 env s) (fun s1=>jb _ _ _ _ o h4 env s1) h5
 . cases h1
theorem ku{op op':Cop}{a b c:Ex}(ja:JE T n a)(jb:JE T n b)(jc:JE T n c):JC T n (.val (.chain op op' a b c)):=by
 intro sc N X e o h env s
 simp only[ckC,Bool.and_eq_true,ck]at h
 obtain⟨h1,_⟩:=h
 split at h1
 . simp only[Bool.and_eq_true,decide_eq_true_eq]at h1
   obtain⟨⟨⟨⟨⟨⟨k1,rfl⟩,k2,rfl⟩,h3⟩,h4⟩,h5⟩,h6⟩:=h1
   exact jJ k1 k2 o.room (ja _ _ _ _ o h3 env s) (fun s1=>jb _ _ _ _ o h4 env s1) (fun s1=>jc _ _ _ _ o h5 env s1) h6
 . cases h1
noncomputable def Zk:Ex→Bool
 |.cmp ..|.chain ..=>true
 |_=>false
theorem zo{a:Ex}(ja:JE T n a)(hn:Zk a=false):JC T n (.val a):=by
 intro sc N X e o h env s
 simp only[ckC,Bool.and_eq_true,Bool.or_eq_true]at h
 obtain⟨h1,h2⟩:=h
 have je:=ja sc N X e o h1 env s
 rcases h2 with h2|h2
 . exact bb h2 je
 . split at h2
   . cases a<;>first|(cases hn;done)|(simp only[ck,su]at h1;cases h1;done)|(simp only[ck,su]at h1;split at h1<;>first|(rename_i heq;cases heq;done)|(cases h1;done))
   . cases h2
end
end M
end
section
namespace M
open PySem
section
variable {T:Tbl}{n:Nat}
theorem cw{m:Bool}{op:Bop}{a b:Ex}(ja:JE T n a)(jb:JE T n b):JE T n (.bin m op a b):=by
 intro sc N X e o h env s
 simp only[ck]at h
 split at h
 . simp only[Bool.and_eq_true,decide_eq_true_eq]at h
   obtain⟨⟨⟨k1,rfl⟩,h1⟩,h2⟩:=h
   exact cA (ja _ _ _ _ o h1 env s) (fun s1=>jb _ _ _ _ o h2 env s1) fun ta tb pa pb=>L2.YT (b9 m op k1) pa pb
 . cases h
theorem bB{a:Ex}(ja:JE T n a):JE T n (.neg a):=by
 intro sc N X e o h env s
 simp only[ck]at h
 split at h
 . exact bR (ja _ _ _ _ o h env s)
 . cases h
theorem bC{a:Ex}(ja:JE T n a):JE T n (.not a):=by
 intro sc N X e o h env s
 simp only[ck]at h
 split at h
 . exact bS (ja _ _ _ _ o h env s)
 . cases h
theorem cy{op:Cop}{a b:Ex}(ja:JE T n a)(jb:JE T n b):JE T n (.cmp op a b):=by
 intro sc N X e o h env s
 simp only[ck]at h
 split at h
 . simp only[Bool.and_eq_true,decide_eq_true_eq]at h
   obtain⟨⟨⟨⟨k1,rfl⟩,h1⟩,h2⟩,h3⟩:=h
   exact cA (ja _ _ _ _ o h1 env s) (fun s1=>jb _ _ _ _ o h2 env s1) fun ta tb pa pb=>L2.fZ (uA o.room op k1) pa pb (x6 h3)
 . cases h
theorem kj{op op':Cop}{a b c:Ex}(ja:JE T n a)(jb:JE T n b)(jc:JE T n c):JE T n (.chain op op' a b c):=by
 intro sc N X e o h env s
 simp only[ck]at h
 split at h
 . simp only[Bool.and_eq_true,decide_eq_true_eq]at h
   obtain⟨⟨⟨⟨⟨⟨k1,rfl⟩,k2,rfl⟩,h3⟩,h4⟩,h5⟩,h6⟩:=h
   exact kz k1 k2 o.room (ja _ _ _ _ o h3 env s) (fun s1=>jb _ _ _ _ o h4 env s1) (fun s1=>jc _ _ _ _ o h5 env s1) h6
 . cases h
theorem cu{a:Ex}{es:Exs}(ja:JE T n a)(jl:JL T n es):JE T n (.andE a es):=by
 intro sc N X e o h env s
 simp only[ck]at h
 split at h
 . rename_i x xs pos
   simp only[Bool.and_eq_true]at h
   obtain⟨h1,h2⟩:=h
   cases es with
   |nil=>
    simp only[ckL]at h2
    split at h2
    . exact L2.oZ (ja _ _ _ _ o h1 env s)
    . cases h2
   |cons b es'=>
    cases xs with
    |nil=>cases h2
    |cons y ys=>exact kx (ja _ _ _ _ o h1 env s) fun s1=>(jl _ _ _ _ o h2).2.1 y ys pos rfl env s1
 . cases h
theorem cz{c:Cn}{a b:Ex}(jc:JC T n c)(ja:JE T n a)(jb:JE T n b):JE T n (.ife c a b):=by
 intro sc N X e o h env s
 simp only[ck]at h
 split at h
 . simp only[Bool.and_eq_true]at h
   exact bO (jc _ _ _ _ o h.1.1 env s) (fun s1=>ja _ _ _ _ o h.1.2 env s1) (fun s1=>jb _ _ _ _ o h.2 env s1)
 . cases h
theorem bD{es:Exs}(jl:JL T n es):JE T n (.tup es):=by
 intro sc N X e o h env s
 simp only[ck]at h
 split at h
 . simp only[Bool.and_eq_true]at h
   exact jB ((jl _ _ _ _ o h.1).1 h.2 env s)
 . cases h
theorem bA{m:Bool}{es:Exs}(jl:JL T n es):JE T n (.lst m es):=by
 intro sc N X e o h env s
 simp only[ck]at h
 split at h
 . simp only[Bool.and_eq_true]at h
   exact bQ ((jl _ _ _ _ o h.1).1 h.2 env s)
 . cases h
theorem pk{f:Str}{ver:Nat}(h:T.fn f ver=none)(vs:List Val)(s:Sto):zD T n f ver vs s=.stuck:=by
 cases n with
 |zero=>rfl
 |succ n=>simp only[zD,h]
theorem gb{f:Str}{ver:Nat}{es:Exs}(jl:JL T n es):JE T n (.call f ver es):=by
 intro sc N X e o h env s
 simp only[ck]at h
 split at h
 . rename_i x p xs pos
   simp only[Bool.and_eq_true,decide_eq_true_eq,xf,Bool.not_eq_true']at h
   obtain⟨⟨⟨⟨rfl,h2⟩,h3⟩,h4⟩,h5⟩:=h
   show L2.PE X _ (tV X.K X.mg env s ((yd (zD T n) T.gl env es s).bind fun vs s1=>zD T n x ver vs s1))
   cases hf:T.fn x ver with
   |none=>
    refine zG fun v s' e=>?_
    cases hv:yd (zD T n) T.gl env es s with
    |ok vs s1=>rw[hv]at e;simp only[zM,pk hf]at e;cases e
    |exc _ _ _=>rw[hv]at e;cases e
    |stuck=>rw[hv]at e;cases e
   |some F=>
    have C:=o.fns x ver F hf
    cases xs with
    |nil=>
     cases es with
     |nil=>exact ky C o.room (o.scp.gl x h2) h3
     |cons _ _=>cases h4
    |cons y ys=>exact gn C o.room (o.scp.gl x h2) h3 h5 (by simp) ((jl _ _ _ _ o h4).1 h5 env s)
 . cases h
theorem d9(f:Bf):f.nm∈xZ:=by cases f<;>decide
theorem cx{f:Bf}{m:Bool}{es:Exs}(jl:JL T n es):JE T n (.blt f m es):=by
 intro sc N X e o h env s
 simp only[ck]at h
 split at h
 . rename_i x p y ys pos
   simp only[Bool.and_eq_true,decide_eq_true_eq,xf]at h
   obtain⟨⟨⟨⟨k1,rfl⟩,h2⟩,h3⟩,h4⟩:=h
   exact bN k1 o.calm o.room (o.scp.gl _ h2) (o.blt _ (d9 f)) h4 ((jl _ _ _ _ o h3).1 h4 env s)
 . cases h
theorem md{m:Bool}{z a w:Ex}(jz:JE T n z)(ja:JE T n a):JE T n (.listRange m z a w):=by
 intro sc N X e o h env s
 simp only[ck]at h
 split at h
 . rename_i x p y p2 c pos2 pos
   simp only[Bool.and_eq_true,decide_eq_true_eq,xf]at h
   obtain⟨⟨⟨⟨⟨⟨⟨h1,h2⟩,rfl⟩,rfl⟩,h3⟩,h4⟩,h5⟩,h6⟩:=h
   obtain rfl:=qm h1
   obtain rfl:=qm h2
   have je:=ja _ _ _ _ o h5 env s
   show L2.PE X _ (tV X.K X.mg env s ((evE (zD T n) T.gl env a s).bind fun y s2=>v8 m (.int 0) y (.int 1) s2))
   cases ho:evE (zD T n) T.gl env a s with
   |ok v s1=>
    rw[ho]at je
    refine zX (L2.sL o.calm rfl rfl (o.scp.gl _ h3) (o.blt _ (by decide)) (o.scp.gl _ h4) (o.blt _ (by decide)) (L2.pac je L2.xB (zO h6)) (L2.zZ (zO h6))) fun σ H Q ⟨ρ,hr,er,w⟩=>⟨ρ,hr,er,fun ρ1 x H1 x1 hr1 r1=>?_⟩
    have w':=w.mono x1 hr1
    cases r1 with
    |int j=>
     by_cases hc:-(2 ^ 30)≤(0:Int)∧(0:Int)≤2 ^ 30∧-(2 ^ 30)≤j∧j≤2 ^ 30∧(0:Int)<1∧(1:Int)≤2 ^ 29∧Builtin.Range.rangeSize 0 j 1≤1000
     . have w2:yC X.K X.mg (RD X.K X.mg) ρ1 H1 (if -(2 ^ 30)≤(0:Int)∧(0:Int)≤2 ^ 30∧-(2 ^ 30)≤j∧j≤2 ^ 30∧(0:Int)<1∧(1:Int)≤2 ^ 29∧Builtin.Range.rangeSize 0 j 1≤1000 then newList m ((L2.zb 0 j 1).map .int) s1 else .stuck) Q:=w'
       rw[if_pos hc]at w2
       exact⟨j,rfl,hc.2.2.1,hc.2.2.2.1,hc.2.2.2.2.2.2,xT hr1 (RDs.ints _) w2⟩
     . have w2:yC X.K X.mg (RD X.K X.mg) ρ1 H1 (if -(2 ^ 30)≤(0:Int)∧(0:Int)≤2 ^ 30∧-(2 ^ 30)≤j∧j≤2 ^ 30∧(0:Int)<1∧(1:Int)≤2 ^ 29∧Builtin.Range.rangeSize 0 j 1≤1000 then newList m ((L2.zb 0 j 1).map .int) s1 else .stuck) Q:=w'
       rw[if_neg hc]at w2
       exact w2.elim
    |_=>exact w'.elim
   |exc _ _ _=>exact zG (zC rfl)
   |stuck=>exact zG (zC rfl)
 . rename_i x p y p2 c d pos2 pos
   simp only[Bool.and_eq_true,decide_eq_true_eq,xf]at h
   obtain⟨⟨⟨⟨⟨⟨⟨h1,rfl⟩,h3⟩,h4⟩,h5⟩,h6⟩,h7⟩,h8⟩:=h
   have je:=jz _ _ _ _ o h5 env s
   have hs1:starEach [d] X.env=(false,eval d X.env)::starEach [] X.env:=L2.zZ (zO h8)
   have main:∀(u:Val),(∀(v v2:Val) (s1 s2:Sto),L2.PE X c (tV X.K X.mg env s (.ok v s1))→L2.PE X d (tV X.K X.mg env s1 (.ok v2 s2))→L2.PE X (.Call (.Name x p) [.Call (.Name "range" p2) [c,d] [] pos2] [] pos) (tV X.K X.mg env s (v8 m v v2 u s2))) →
    L2.PE X (.Call (.Name x p) [.Call (.Name "range" p2) [c,d] [] pos2] [] pos) (tV X.K X.mg env s ((evE (zD T n) T.gl env z s).bind fun x s1=>(evE (zD T n) T.gl env a s1).bind fun y s2=>v8 m x y u s2)):=fun u hu=>by
    cases ho:evE (zD T n) T.gl env z s with
    |ok v s1=>
     rw[ho]at je
     have je2:=ja _ _ _ _ o h6 env s1
     show L2.PE X _ (tV X.K X.mg env s ((evE (zD T n) T.gl env a s1).bind fun y s2=>v8 m v y u s2))
     cases ho2:evE (zD T n) T.gl env a s1 with
     |ok v2 s2=>rw[ho2]at je2;exact hu v v2 s1 s2 je je2
     |exc _ _ _=>exact zG (zC rfl)
     |stuck=>exact zG (zC rfl)
    |exc _ _ _=>exact zG (zC rfl)
    |stuck=>exact zG (zC rfl)
   split at h1
   . rename_i hw
     obtain rfl:=kc hw
     obtain rfl:=of_decide_eq_true h1
     refine main .none fun v v2 s1 s2 je je2=>?_
     refine zX (L2.qK o.calm rfl rfl (o.scp.gl _ h3) (o.blt _ (by decide)) (o.scp.gl _ h4) (o.blt _ (by decide)) (L2.pac je (L2.pac je2 L2.xB (zO h8)) (zO h7)) (L2.zZ (zO h7)) (by rw[hs1];rfl)) fun σ H Q ⟨ρ,hr,er,w⟩=>⟨ρ,hr,er,fun ρ1 x H1 x1 hr1 r1=>⟨ρ1,hr1,er.mono x1,fun ρ2 y H2 x2 hr2 r2=>?_⟩⟩
     have w':yC X.K X.mg (RD X.K X.mg) ρ2 H2 (v8 m v v2 .none s2) Q:=w.mono (x1.trans hr1 x2) hr2
     have r1':=r1.mono x2
     cases r1' with
     |int i=>
      cases r2 with
      |int j=>
       simp only[v8]at w'
       split at w'
       . rename_i hc
         exact⟨i,j,rfl,hc.1,hc.2.1,hc.2.2.1,hc.2.2.2.1,hc.2.2.2.2,ue hr2 (RDs.ints _) w'⟩
       . exact w'.elim
      |_=>exact w'.elim
     |_=>exact w'.elim
   . rw[Bool.and_eq_true]at h1
     obtain rfl:=kf h1.1
     obtain rfl:=of_decide_eq_true h1.2
     refine main (.bool true) fun v v2 s1 s2 je je2=>?_
     refine zX (L2.sM o.calm rfl rfl (o.scp.gl _ h3) (o.blt _ (by decide)) (o.scp.gl _ h4) (o.blt _ (by decide)) (L2.pac je (L2.pac je2 L2.xB (zO h8)) (zO h7)) (L2.zZ (zO h7)) (by rw[hs1];rfl)) fun σ H Q ⟨ρ,hr,er,w⟩=>⟨ρ,hr,er,fun ρ1 x H1 x1 hr1 r1=>⟨ρ1,hr1,er.mono x1,fun ρ2 y H2 x2 hr2 r2=>?_⟩⟩
     have w':yC X.K X.mg (RD X.K X.mg) ρ2 H2 (v8 m v v2 (.bool true) s2) Q:=w.mono (x1.trans hr1 x2) hr2
     have r1':=r1.mono x2
     cases r1' with
     |int i=>
      cases r2 with
      |int j=>
       simp only[v8]at w'
       split at w'
       . rename_i hc
         exact⟨i,j,rfl,hc.1,hc.2.1,hc.2.2.1,hc.2.2.2.1,hc.2.2.2.2,xT hr2 (RDs.ints _) w'⟩
       . exact w'.elim
      |_=>exact w'.elim
     |_=>exact w'.elim
 . cases h
theorem gf{f:Mf}{m:Bool}{a:Ex}{es:Exs}(ja:JE T n a)(jl:JL T n es):JE T n (.zy f m a es):=by
 intro sc N X e o h env s
 simp only[ck]at h
 split at h
 . rename_i ob x ap y cp
   simp only[Bool.and_eq_true,decide_eq_true_eq]at h
   obtain⟨⟨⟨⟨⟨⟨rfl,h1⟩,h2⟩,h3⟩,h4⟩,h5⟩,hm⟩:=h
   obtain⟨b,rfl,jb⟩:=(jl _ _ _ _ o h2).2.2.2 y rfl h3
   exact jA hm h4 h3 h5 (ja _ _ _ _ o h1 env s) fun s1=>jb env s1
 . cases h
theorem Zn{a b:Ex}(ja:JE T n a)(jb:JE T n b):JE T n (.ix a b):=by
 intro sc N X e o h env s
 simp only[ck]at h
 split at h
 . simp only[Bool.and_eq_true]at h
   exact cA (ja _ _ _ _ o h.1.1 env s) (fun s1=>jb _ _ _ _ o h.1.2 env s1) fun ta tb pa pb=>L2.YR Zl pa pb (pP h.2)
 . cases h
theorem Zo{m:Bool}{a:Ex}{lo hi st:OEx}(ja:JE T n a)(j1:JO T n lo)(j2:JO T n hi)(j3:JO T n st):JE T n (.sl m a lo hi st):=by
 intro sc N X e o h env s
 simp only[ck]at h
 split at h
 . simp only[Bool.and_eq_true]at h
   obtain⟨⟨⟨h1,h2⟩,h3⟩,h4⟩:=h
   obtain⟨p3,q3⟩:=j3 _ _ _ _ o h4
   refine Zu (ja _ _ _ _ o h1 env s) (fun s1=>(j1 _ _ _ _ o h2).1 env s1) (fun s1=>(j2 _ _ _ _ o h3).1 env s1) (fun s1=>p3 env s1) ?_
   rcases q3 with⟨e1,e2⟩|⟨e',e1,e2⟩
   . exact .inl ⟨e1,fun s1=>e2 env s1⟩
   . exact .inr ⟨e',e1,fun s1 s2=>e2 env s1 s2⟩
 . cases h
theorem gc{m:Bool}{N':List Str}{fr:List (Option Nat)}{elt:Ex}{t:Tgt}{it:Itb}{ifs:Cns}(je:JE T n elt)(ji:JI T n it)(jc:JCs T n ifs):JE T n (.comp m N' fr elt t it ifs):=by
 intro sc N X e o h env s
 simp only[ck]at h
 split at h
 . rename_i x tg iter fs csc cpos
   simp only[Bool.and_eq_true,decide_eq_true_eq]at h
   obtain⟨⟨⟨⟨⟨⟨h1,h2⟩,h3⟩,h4⟩,h5⟩,h6⟩,h7⟩:=h
   have S:=nU o.scp h1
   have oc:=o.comp S h2
   obtain⟨g,pg,tg'⟩:∃g,(∀C s0 H0 ex,L2.PG (X.comp N' csc C s0 H0 ex) tg g)∧vq X.K X.mg t g:=by
    cases t with
    |nm i=>
     cases tg with
     |Name y p=>
      simp only[ckT,Bool.and_eq_true,Bool.or_eq_true,decide_eq_true_eq]at h3
      exact⟨_,fun C s0 H0 ex=>rK (oc C s0 H0 ex).scp h3.1 h3.2,vi⟩
     |_=>cases h3
    |nms is=>
     cases tg with
     |Tuple es k p=>
      simp only[ckT,Bool.and_eq_true,decide_eq_true_eq]at h3
      refine⟨_,fun C s0 H0 ex=>?_,xP (is:=is)⟩
      obtain⟨a,b,c⟩:=ym (oc C s0 H0 ex).scp h3.1
      exact L2.vK (X:=X.comp N' csc C s0 H0 ex) o.calm a b c
     |_=>cases h3
   have rule:L2.PE X (.ListComp x [⟨tg,iter,fs,0⟩] csc cpos) (L2.wO fr (uI X.K X.mg (zD T n) T.gl it) g (uTs X.K X.mg (zD T n) T.gl ifs) fun acc=>L2.w5 acc (uE X.K X.mg (zD T n) T.gl elt)):=
    L2.n9 o.calm S (oe fun env s=>ji _ _ _ _ _ o h4 env s) pg (fun C s0 H0 ex=>(jc _ _ _ _ (oc C s0 H0 ex) h5).2.2) (fun C s0 H0 ex=>ff (X:=X.comp N' csc C s0 H0 ex) fun env s=>je _ _ _ _ (oc C s0 H0 ex) h6 env s) (z0 h7)
   refine zX rule fun σ H Q hq=>wY (env:=env) (s:=s) (chk:=false) (m:=m) (body:=w6 (zD T n) T.gl elt ifs) tg' xV (fun acc ρ0 H0 hn=>t9 hn) ?_ fun _ r s1 p s2 hl=>?_
   . simp only[Bool.false_eq_true,false_implies,if_true];exact hq
   . have:=uF hl
     simpa using this
 . cases h
theorem kl{m:Bool}{N':List Str}{fr:List (Option Nat)}{elt:Ex}{t t2:Tgt}{it it2:Itb}{ifs ifs2:Cns}(je:JE T n elt)(ji:JI T n it)(jc:JCs T n ifs)(ji2:JI T n it2)(jc2:JCs T n ifs2):JE T n (.comp2 m N' fr elt t it ifs t2 it2 ifs2):=by
 intro sc N X e o h env s
 simp only[ck]at h
 split at h
 . rename_i x tg iter fs tg2 iter2 fs2 csc cpos
   simp only[Bool.and_eq_true,decide_eq_true_eq]at h
   obtain⟨⟨⟨⟨⟨⟨⟨⟨⟨⟨h1,h2⟩,h3⟩,h4⟩,h5⟩,h6⟩,h7⟩,h8⟩,h9⟩,h10⟩,h11⟩:=h
   have S:=nU o.scp h1
   have oc:=o.comp S h2
   have tgt:∀(t:Tgt) (tg:Expr),ckT csc N' t tg=true→∃g,(∀C s0 H0 ex,L2.PG (X.comp N' csc C s0 H0 ex) tg g)∧vq X.K X.mg t g:=by
    intro t tg h3
    cases t with
    |nm i=>
     cases tg with
     |Name y p=>
      simp only[ckT,Bool.and_eq_true,Bool.or_eq_true,decide_eq_true_eq]at h3
      exact⟨_,fun C s0 H0 ex=>rK (oc C s0 H0 ex).scp h3.1 h3.2,vi⟩
     |_=>cases h3
    |nms is=>
     cases tg with
     |Tuple es k p=>
      simp only[ckT,Bool.and_eq_true,decide_eq_true_eq]at h3
      refine⟨_,fun C s0 H0 ex=>?_,xP (is:=is)⟩
      obtain⟨a,b,c⟩:=ym (oc C s0 H0 ex).scp h3.1
      exact L2.vK (X:=X.comp N' csc C s0 H0 ex) o.calm a b c
     |_=>cases h3
   obtain⟨g,pg,tg'⟩:=tgt t tg h3
   obtain⟨g2,pg2,tg2'⟩:=tgt t2 tg2 h6
   have rule:=L2.pK (cpos:=cpos) (elt:=x) (ifs:=fs) (ifs2:=fs2) (ts:=uTs X.K X.mg (zD T n) T.gl ifs) (ts2:=uTs X.K X.mg (zD T n) T.gl ifs2) (wi2:=uI X.K X.mg (zD T n) T.gl it2) (te:=uE X.K X.mg (zD T n) T.gl elt) o.calm S (oe (tg:=tg) fun env s=>ji _ _ _ _ _ o h4 env s) pg (fun C s0 H0 ex=>(jc _ _ _ _ (oc C s0 H0 ex) h5).2.2)
    (fun C s0 H0 ex=>oe (X:=X.comp N' csc C s0 H0 ex) (tg:=tg2) fun env s=>ji2 _ _ _ _ _ (oc C s0 H0 ex) h7 env s) pg2 (fun C s0 H0 ex=>(jc2 _ _ _ _ (oc C s0 H0 ex) h8).2.2)
    (fun C s0 H0 ex=>ff (X:=X.comp N' csc C s0 H0 ex) fun env s=>je _ _ _ _ (oc C s0 H0 ex) h9 env s) (z0 h10) (fun env=>z0 h11)
   refine zX rule fun σ H Q hq=>wY (env:=env) (s:=s) (chk:=true) (m:=m) (body:=uD (zD T n) T.gl elt ifs t2 it2 ifs2) tg' vj (fun acc ρ0 H0 hn=>rR hn tg2') ?_ fun z=>by cases z
   simp only[true_implies];exact hq
 . cases h
theorem bF:JL T n .nil:=by
 intro sc N X es o h
 simp only[ckL]at h
 split at h
 . exact⟨fun _ env s=>gq,⟨fun e es' pos z=>(nomatch z),⟨fun e es' pos z=>(nomatch z),fun y z=>(nomatch z)⟩⟩⟩
 . cases h
theorem gh{a:Ex}{as:Exs}(ja:JE T n a)(jl:JL T n as):JL T n (.cons a as):=by
 intro sc N X es o h
 simp only[ckL]at h
 split at h
 . rename_i e es
   simp only[Bool.and_eq_true]at h
   obtain⟨h1,h2⟩:=h
   obtain⟨l1,l2,l3,l4⟩:=jl _ _ _ _ o h2
   refine⟨fun hp env s=>?_,fun e' es' pos z env s=>?_,fun e' es' pos z env s=>?_,fun y z hp=>?_⟩
   . rw[yM,Bool.and_eq_true]at hp
     exact jD hp.1 (ja _ _ _ _ o h1 env s) fun s1=>l1 hp.2 env s1
   . cases as with
     |nil=>
      simp only[ckL]at h2
      split at h2
      . exact L2.oZ (ja _ _ _ _ o h1 env s)
      . cases h2
     |cons b as'=>
      cases es with
      |nil=>cases h2
      |cons y ys=>exact kx (ja _ _ _ _ o h1 env s) fun s1=>l2 y ys pos rfl env s1
   . cases as with
     |nil=>
      simp only[ckL]at h2
      split at h2
      . exact L2.oZ (ja _ _ _ _ o h1 env s)
      . cases h2
     |cons b as'=>
      cases es with
      |nil=>cases h2
      |cons y ys=>exact Zt (ja _ _ _ _ o h1 env s) fun s1=>l3 y ys pos rfl env s1
   . cases z
     cases as with
     |nil=>exact⟨a,rfl,fun env s=>ja _ _ _ _ o h1 env s⟩
     |cons _ _=>cases h2
 . cases h
theorem Zp:JO T n .no:=by
 intro sc N X e o h
 simp only[ckO]at h
 split at h
 . exact⟨fun env s=>Zw,.inl ⟨rfl,fun env s1=>rfl⟩⟩
 . cases h
theorem bG{a:Ex}(ja:JE T n a):JO T n (.yes a):=by
 intro sc N X e o h
 simp only[ckO]at h
 split at h
 . refine⟨fun env s=>bV (ja _ _ _ _ o h env s),.inr ⟨_,rfl,fun env s1 s2 z=>?_⟩⟩
   have z':((evE (zD T n) T.gl env a s1).bind fun v s1=>match v with|.int i=>.ok (some i) s1|_=>.stuck)=.ok none s2:=z
   cases hv:evE (zD T n) T.gl env a s1 with
   |ok v s3=>rw[hv]at z';cases v<;>cases z'
   |exc _ _ _=>rw[hv]at z';cases z'
   |stuck=>rw[hv]at z';cases z'
 . cases h
theorem cq{c:Cn}(jc:JC T n c):JC T n (.not c):=by
 intro sc N X e o h env s
 simp only[ckC]at h
 split at h
 . exact ba (jc _ _ _ _ o h env s)
 . cases h
theorem cn{c:Cn}{cs:Cns}(jc:JC T n c)(jcs:JCs T n cs):JC T n (.and c cs):=by
 intro sc N X e o h env s
 simp only[ckC]at h
 split at h
 . simp only[Bool.and_eq_true]at h
   exact(jK (jc _ _ _ _ o h.1 env s) fun s1=>(jcs _ _ _ _ o h.2).1 _ env s1).pt
 . cases h
theorem Zm{c:Cn}{cs:Cns}(jc:JC T n c)(jcs:JCs T n cs):JC T n (.or c cs):=by
 intro sc N X e o h env s
 simp only[ckC]at h
 split at h
 . simp only[Bool.and_eq_true]at h
   exact(dH (jc _ _ _ _ o h.1 env s) fun s1=>(jcs _ _ _ _ o h.2).2.1 _ env s1).pt
 . cases h
theorem gZ:JCs T n .nil:=by
 intro sc N X es o h
 simp only[rm]at h
 split at h
 . exact⟨fun pos env s=>oF,fun pos env s=>mj,.nil⟩
 . cases h
theorem ki{c:Cn}{cs:Cns}(jc:JC T n c)(jcs:JCs T n cs):JCs T n (.cons c cs):=by
 intro sc N X es o h
 simp only[rm]at h
 split at h
 . simp only[Bool.and_eq_true]at h
   obtain⟨a,b,d⟩:=jcs _ _ _ _ o h.2
   exact⟨fun pos env s=>jK (jc _ _ _ _ o h.1 env s) fun s1=>a pos env s1,fun pos env s=>dH (jc _ _ _ _ o h.1 env s) fun s1=>b pos env s1,.cons (Yb fun env s=>jc _ _ _ _ o h.1 env s) d⟩
 . cases h
theorem bE{a:Ex}(ja:JE T n a):JI T n (.val a):=fun sc N X e tg o h env s=>bU (ja _ _ _ _ o (by simpa only[ckI] using h) env s)
theorem me{a:Ex}(ja:JE T n a):JI T n (.range1 a):=by
 intro sc N X e tg o h env s
 simp only[ckI]at h
 split at h
 . simp only[Bool.and_eq_true,decide_eq_true_eq,xf]at h
   obtain⟨⟨⟨rfl,h1⟩,h2⟩,h3⟩:=h
   exact mh h3 (o.scp.gl _ h1) (o.blt _ (by decide)) (ja _ _ _ _ o h2 env s)
 . cases h
theorem mf{a b:Ex}(ja:JE T n a)(jb:JE T n b):JI T n (.range2 a b):=by
 intro sc N X e tg o h env s
 simp only[ckI]at h
 split at h
 . simp only[Bool.and_eq_true,decide_eq_true_eq,xf]at h
   obtain⟨⟨⟨⟨⟨rfl,h1⟩,h2⟩,h3⟩,h4⟩,h5⟩:=h
   exact mi h4 h5 (o.scp.gl _ h1) (o.blt _ (by decide)) (ja _ _ _ _ o h2 env s) fun s1=>jb _ _ _ _ o h3 env s1
 . cases h
theorem gg{a:Ex}(ja:JE T n a):JI T n (.enum a):=by
 intro sc N X e tg o h env s
 simp only[ckI]at h
 split at h
 . simp only[Bool.and_eq_true,decide_eq_true_eq,xf]at h
   obtain⟨⟨⟨rfl,h1⟩,h2⟩,h3⟩:=h
   exact gr h3 (o.scp.gl _ h1) (o.blt _ (by decide)) (ja _ _ _ _ o h2 env s)
 . cases h
end
section
variable (T:Tbl)(n:Nat)
mutual
theorem jE:∀a:Ex,JE T n a
 |.lit _=>bP
 |.var _=>bT
 |.gl _=>Zs
 |.ty _ _=>Zv
 |.bin _ _ a b=>cw (jE a) (jE b)
 |.neg a=>bB (jE a)
 |.not a=>bC (jE a)
 |.cmp _ a b=>cy (jE a) (jE b)
 |.chain _ _ a b c=>kj (jE a) (jE b) (jE c)
 |.andE a es=>cu (jE a) (jL es)
 |.orE _ _=>fun sc N X e o h=>by cases h
 |.ife c a b=>cz (jC c) (jE a) (jE b)
 |.tup es=>bD (jL es)
 |.lst _ es=>bA (jL es)
 |.dct0=>fun sc N X e o h=>by cases h
 |.dctN _=>gp
 |.ixD a b=>k0 (jE a) (jE b)
 |.call _ _ es=>gb (jL es)
 |.blt _ _ es=>cx (jL es)
 |.maxD _ _=>fun sc N X e o h=>by cases h
 |.zy _ _ a es=>gf (jE a) (jL es)
 |.ix a b=>Zn (jE a) (jE b)
 |.sl _ a lo hi st=>Zo (jE a) (jO lo) (jO hi) (jO st)
 |.comp _ _ _ elt _ it ifs=>gc (jE elt) (jI it) (jCs ifs)
 |.comp2 _ _ _ elt _ it ifs _ it2 ifs2=>kl (jE elt) (jI it) (jCs ifs) (jI it2) (jCs ifs2)
 |.listRange _ z a _=>md (jE z) (jE a)
theorem jL:∀a:Exs,JL T n a
 |.nil=>bF
 |.cons a as=>gh (jE a) (jL as)
theorem jO:∀a:OEx,JO T n a
 |.no=>Zp
 |.yes a=>bG (jE a)
theorem jC:∀a:Cn,JC T n a
 |.val (.cmp _ a b)=>bM (jE a) (jE b)
 |.val (.chain _ _ a b c)=>ku (jE a) (jE b) (jE c)
 |.val (.lit v)=>zo (jE (.lit v)) rfl
 |.val (.var v)=>zo (jE (.var v)) rfl
 |.val (.gl v)=>zo (jE (.gl v)) rfl
 |.val (.ty v w)=>zo (jE (.ty v w)) rfl
 |.val (.bin m o a b)=>zo (jE (.bin m o a b)) rfl
 |.val (.neg a)=>zo (jE (.neg a)) rfl
 |.val (.not a)=>zo (jE (.not a)) rfl
 |.val (.andE a b)=>zo (jE (.andE a b)) rfl
 |.val (.orE a b)=>zo (jE (.orE a b)) rfl
 |.val (.ife a b c)=>zo (jE (.ife a b c)) rfl
 |.val (.tup a)=>zo (jE (.tup a)) rfl
 |.val (.lst m a)=>zo (jE (.lst m a)) rfl
 |.val .dct0=>zo (jE .dct0) rfl
 |.val (.dctN t)=>zo (jE (.dctN t)) rfl
 |.val (.ixD a b)=>zo (k0 (jE a) (jE b)) rfl
 |.val (.call a b c)=>zo (jE (.call a b c)) rfl
 |.val (.blt a b c)=>zo (jE (.blt a b c)) rfl
 |.val (.maxD a b)=>zo (jE (.maxD a b)) rfl
 |.val (.zy a b c d)=>zo (jE (.zy a b c d)) rfl
 |.val (.ix a b)=>zo (jE (.ix a b)) rfl
 |.val (.sl a b c d e)=>zo (jE (.sl a b c d e)) rfl
 |.val (.comp a b c d e f g)=>zo (jE (.comp a b c d e f g)) rfl
 |.val (.comp2 a b c d e f g h i j)=>zo (jE (.comp2 a b c d e f g h i j)) rfl
 |.val (.listRange a b c d)=>zo (jE (.listRange a b c d)) rfl
 |.not c=>cq (jC c)
 |.and c cs=>cn (jC c) (jCs cs)
 |.or c cs=>Zm (jC c) (jCs cs)
theorem jCs:∀a:Cns,JCs T n a
 |.nil=>gZ
 |.cons c cs=>ki (jC c) (jCs cs)
theorem jI:∀a:Itb,JI T n a
 |.val a=>bE (jE a)
 |.range1 a=>me (jE a)
 |.range2 a b=>mf (jE a) (jE b)
 |.enum a=>gg (jE a)
 |.zip _ _=>fun sc N X e tg o h=>by cases h
end
end
end M
end
section
namespace M
open PySem
section
variable (K:KF)(mg:Str→Option Value)
def um(ρ:Own)(H:L2.Hp)(o:Out Fl)(D:L2.Ends):Prop:=
 match o with
 |.ok (.nx e) s'=>∀ρ' H' σ',Ext ρ H ρ' H'→HR K mg ρ' s' H'→ER K mg ρ' H' e σ'→D.nx σ' H'
 |.ok (.bk e) s'=>∀ρ' H' σ',Ext ρ H ρ' H'→HR K mg ρ' s' H'→ER K mg ρ' H' e σ'→D.bk σ' H'
 |.ok (.ct e) s'=>∀ρ' H' σ',Ext ρ H ρ' H'→HR K mg ρ' s' H'→ER K mg ρ' H' e σ'→D.ct σ' H'
 |.ok (.rt v) s'=>∀ρ' H' x,Ext ρ H ρ' H'→HR K mg ρ' s' H'→RD K mg ρ' H' v x→D.rt x H'
 |_=>False
noncomputable def tSt(env:Env)(s:Sto)(o:Out Fl):L2.TS:=fun D σ H=>∃ρ,HR K mg ρ s H∧ER K mg ρ H env σ∧um K mg ρ H o D
end
section
variable {K:KF}{mg:Str→Option Value}{ρ ρ':Own}{H H':L2.Hp}
theorem um.mono{s1:Sto}{o:Out Fl}{D:L2.Ends}(w:um K mg ρ H o D)(x:Ext ρ H ρ' H')(h:HR K mg ρ' s1 H'):um K mg ρ' H' o D:=by
 cases o with
 |ok fl s'=>
  cases fl with
  |nx e=>exact fun ρ2 H2 σ2 x2 h2 r2=>w ρ2 H2 σ2 (x.trans h x2) h2 r2
  |bk e=>exact fun ρ2 H2 σ2 x2 h2 r2=>w ρ2 H2 σ2 (x.trans h x2) h2 r2
  |ct e=>exact fun ρ2 H2 σ2 x2 h2 r2=>w ρ2 H2 σ2 (x.trans h x2) h2 r2
  |rt v=>exact fun ρ2 H2 y x2 h2 r2=>w ρ2 H2 y (x.trans h x2) h2 r2
 |exc _ _ _=>exact w
 |stuck=>exact w
end
noncomputable def wb:Expr→Bool
 |.ListComp ..|.SetComp ..|.DictComp ..=>false
 |_=>true
theorem tu{e:Expr}{t:Option Expr}{l:Nat}{env:PySem.Env}(h:wb e=true):swapsWith e t l env=pure false:=by cases e<;>first|rfl|cases h
theorem wg{e:Expr}{ts:List Expr}{k:Nat}{p:Pos}{l:Nat}{env:PySem.Env}:swapsWithSole [.Tuple ts k p] e l env=pure false:=by cases e<;>rfl
theorem lV{e o i:Expr}{p:Pos}{l:Nat}{env:PySem.Env}:swapsWithSole [.Subscript o i p] e l env=pure false:=by cases e<;>rfl
noncomputable def notTuple:Expr→Bool
 |.Tuple ..=>false
 |_=>true
theorem nC{e:Expr}{ts:List Expr}{k:Nat}{p:Pos}{env:PySem.Env}(h:notTuple e=true):swappedStores [.Tuple ts k p] e env=pure none:=by
 cases e<;>first|(cases h;done)|rfl
theorem pX{o i e:Expr}{p:Pos}{env:PySem.Env}:swappedStores [.Subscript o i p] e env=pure none:=by cases e<;>rfl
noncomputable def da(sc:Scope)(ts vs:List Expr):Bool:=
 match ts with
 |[.Name x px,.Name y py]=>decide (sc.names.lookup x=some .local)&&decide (sc.names.lookup y=some .local)&&(px.line == py.line)&&decide (x≠y)&&!(vs.all (foldedForSure 8))&&!(vs.all (constantsAlone 8))
 |[.Name x px,.Name y py,.Name z pz]=>decide (sc.names.lookup x=some .local)&&decide (sc.names.lookup y=some .local)&&decide (sc.names.lookup z=some .local)&&(px.line == py.line)&&(px.line == pz.line)&&decide (x≠y)&&decide (x≠z)&&decide (y≠z)&&!(vs.all (foldedForSure 8))&&!(vs.all (constantsAlone 8))
 |_=>false
noncomputable def dm(sc:Scope)(ts:List Expr):Bool:=ts.any (fun|.Name x _=>decide (sc.names.lookup x≠some .local)|_=>false)||decide (3<ts.length)
theorem tM{vs:List Expr}(h:yM vs=true):(vs.any fun|.Starred ..=>true|_=>false)=false:=by
 induction vs with
 |nil=>rfl
 |cons v vs ih=>
  rw[yM,Bool.and_eq_true]at h
  rw[List.any_cons,ih h.2]
  cases v<;>first|rfl|(have z:=h.1;cases z)
theorem pY{x y:Str}{px py pt pt2:Pos}{kt k2:Nat}{a b:Expr}{env:PySem.Env}(hb:env.blockKind=.function)(hx:env.kindOf x=some .local)(hy:env.kindOf y=some .local)(hl:(px.line == py.line)=true)(hne:x≠y)(hp:yM [a,b]=true)
 (hf:[a,b].all (foldedForSure 8)=false) (hc:[a,b].all (constantsAlone 8)=false):swappedStores [.Tuple [.Name x px,.Name y py] kt pt] (.Tuple [a,b] k2 pt2) env=pure (some [x,y]):=by
 have hs:=tM hp
 have hl':(py.line == px.line)=true:=by rw[beq_iff_eq]at hl ⊢;exact hl.symm
 unfold swappedStores
 have e1:([x,y].eraseDups.length != [x,y].length)=false:=by
  have:(y == x)=false:=by simpa using Ne.symm hne
  simp[List.eraseDups_cons,this]
 simp only[List.length_cons,List.length_nil,hb,hf,hs,hc,hx,hy,hl',List.head?_cons,Option.map_some,Option.getD_some,List.filterMap_cons,List.filterMap_nil,beq_self_eq_true,Bool.and_self,if_true]
 have hpos:(Expr.Name x px).pos.line=px.line:=rfl
 refine(if_neg (by decide)).trans ((if_neg (fun z=>Bool.false_ne_true (hs.symm.trans z))).trans ?_)
 simp only[hpos,beq_self_eq_true,hl',Bool.and_self,if_true,e1,List.length_cons,List.length_nil,bne_self_eq_false,Bool.or_self,Bool.false_eq_true,if_false]
 exact if_neg (fun z=>Bool.false_ne_true (e1.symm.trans (by rw[Bool.false_or]at z;exact z)))
theorem sV{x y z:Str}{px py pz pt pt2:Pos}{kt k2:Nat}{a b c:Expr}{env:PySem.Env}(hb:env.blockKind=.function)(hx:env.kindOf x=some .local)(hy:env.kindOf y=some .local)(hz:env.kindOf z=some .local)(hl:(px.line == py.line)=true)(hl2:(px.line == pz.line)=true)
 (hne:x≠y) (hne2:x≠z) (hne3:y≠z) (hp:yM [a,b,c]=true) (hf:[a,b,c].all (foldedForSure 8)=false) (hc:[a,b,c].all (constantsAlone 8)=false):swappedStores [.Tuple [.Name x px,.Name y py,.Name z pz] kt pt] (.Tuple [a,b,c] k2 pt2) env=pure (some [x,y,z]):=by
 have hs:=tM hp
 have hl':(py.line == px.line)=true:=by rw[beq_iff_eq]at hl ⊢;exact hl.symm
 have hl2':(pz.line == px.line)=true:=by rw[beq_iff_eq]at hl2 ⊢;exact hl2.symm
 unfold swappedStores
 have e1:([x,y,z].eraseDups.length != [x,y,z].length)=false:=by
  have h1:(y == x)=false:=by simpa using Ne.symm hne
  have h2:(z == x)=false:=by simpa using Ne.symm hne2
  have h3:(z == y)=false:=by simpa using Ne.symm hne3
  simp[List.eraseDups_cons,h1,h2,h3]
 simp only[List.length_cons,List.length_nil,hb,hf,hs,hc,hx,hy,hz,hl',hl2',List.head?_cons,Option.map_some,Option.getD_some,List.filterMap_cons,List.filterMap_nil,beq_self_eq_true,Bool.and_self,if_true]
 have hpos:(Expr.Name x px).pos.line=px.line:=rfl
 refine(if_neg (by decide)).trans ((if_neg (fun z=>Bool.false_ne_true (hs.symm.trans z))).trans ?_)
 simp only[hpos,beq_self_eq_true,hl',hl2',Bool.and_self,if_true,e1,List.length_cons,List.length_nil,bne_self_eq_false,Bool.or_self,Bool.false_eq_true,if_false]
 exact if_neg (fun z=>Bool.false_ne_true (e1.symm.trans (by rw[Bool.false_or]at z;exact z)))
theorem vR{α β:Type}{f:α→Option β}:∀{l:List α},(∃a∈l,f a=none)→(l.filterMap f).length<l.length
 |[],⟨a,h,_⟩=>by cases h
 |b::l,⟨a,h,e⟩=>by
  rw[List.filterMap_cons]
  have hle:=List.length_filterMap_le f l
  rcases List.mem_cons.mp h with z|z
  . subst z;rw[e];simp only[List.length_cons];omega
  . have:=vR ⟨a,z,e⟩
    cases f b with
    |none=>simp only[List.length_cons];omega
    |some _=>simp only[List.length_cons];omega
theorem lY{ts vs:List Expr}{kt k2:Nat}{pt pt2:Pos}{env:PySem.Env}(h:(∃x p,Expr.Name x p∈ts∧env.kindOf x≠some .local)∨3<ts.length):swappedStores [.Tuple ts kt pt] (.Tuple vs k2 pt2) env=pure none:=by
 unfold swappedStores
 simp only[]
 split
 . rfl
 . rename_i h1
   split
   . rfl
   . rw[if_pos]
     rcases h with⟨x,p,hm,hk⟩|h
     . rw[Bool.or_eq_true]
       left
       rw[bne_iff_ne]
       refine Nat.ne_of_lt (vR ⟨_,hm,?_⟩)
       have:(env.kindOf x == some .local)=false:=by simpa using hk
       simp only[this,Bool.false_and,Bool.false_eq_true,if_false]
     . exfalso
       apply h1
       have:(ts.length == 2||ts.length == 3)=false:=by
        rw[Bool.or_eq_false_iff]
        constructor<;>(rw[beq_eq_false_iff_ne];omega)
       rw[this];rfl
theorem nB{o i:Expr}{p:Pos}{env:PySem.Env}(h:plain i=true)(v:Value):assign (.Subscript o i p) env v=(do
 let ov ←holding [v] (eval o env)
 let iv ←holding [v,ov] (eval i env)
 standAt p
 holding [v,ov,iv] (setItem ov iv v)
 release [v,ov,iv] []):=by
 cases i<;>first|rfl|cases h
section
variable {X:L2.Cx}{env:Env}{s:Sto}
theorem YY{st:Stmt}{t:L2.TS}(h:∀D σ H,¬t D σ H):L2.PS X st t:=fun pins s σ H D I q=>(h D σ H q).elim
theorem a8{o:Out Fl}(h:∀v s',o≠.ok v s'){D:L2.Ends}{σ:L2.St}{H:L2.Hp}:¬tSt X.K X.mg env s o D σ H:=by
 rintro ⟨ρ,_,_,w⟩
 cases o with
 |ok v s'=>exact h v s' rfl
 |exc _ _ _=>exact w
 |stuck=>exact w
theorem zI{st:Stmt}{o:Out Fl}(h:∀v s',o≠.ok v s'):L2.PS X st (tSt X.K X.mg env s o):=YY fun _ _ _=>a8 h
theorem gs{e:Expr}{o:Out Val}{pos:Pos}(hn:wb e=true)(h:L2.PE X e (tV X.K X.mg env s o)):L2.PS X (.Expr e pos) (tSt X.K X.mg env s (o.bind fun _ s1=>.ok (.nx env) s1)):=by
 cases o with
 |ok v s1=>exact y3 (L2.fv h (tu hn)) fun D σ H ⟨ρ,hr,er,w⟩=>⟨ρ,hr,er,fun ρ1 x H1 x1 hr1 r1=>w ρ1 H1 σ x1 hr1 (er.mono x1)⟩
 |exc _ _ _=>exact zI (zC rfl)
 |stuck=>exact zI (zC rfl)
theorem bY{e:Expr}{o:Out Val}{pos:Pos}(h:L2.PE X e (tV X.K X.mg env s o)):L2.PS X (.Return (some e) pos) (tSt X.K X.mg env s (o.bind fun v s1=>.ok (.rt v) s1)):=by
 cases o with
 |ok v s1=>exact y3 (L2.aj h) fun D σ H ⟨ρ,hr,er,w⟩=>⟨ρ,hr,er,fun ρ1 x H1 x1 hr1 r1=>w ρ1 H1 x x1 hr1 r1⟩
 |exc _ _ _=>exact zI (zC rfl)
 |stuck=>exact zI (zC rfl)
theorem oE{i:Nat}{o:Out Val}{st:Stmt}{te:L2.TE}(rule:L2.PS X st (L2.sW te (L2.wJ i)))(h:∀σ H Q,tV X.K X.mg env s o σ H Q→te σ H Q):L2.PS X st (tSt X.K X.mg env s (o.bind fun v s1=>.ok (.nx (env.set i (some v))) s1)):=by
 cases o with
 |ok v s1=>exact y3 rule fun D σ H ⟨ρ,hr,er,w⟩=>h _ _ _ ⟨ρ,hr,er,fun ρ1 x H1 x1 hr1 r1=>w ρ1 H1 _ x1 hr1 ((er.mono x1).set i r1)⟩
 |exc _ _ _=>exact zI (zC rfl)
 |stuck=>exact zI (zC rfl)
theorem ny{t:Tgt}{g:L2.TG}{o:Out Val}{st:Stmt}{te:L2.TE}(TG:vq X.K X.mg t g)(rule:L2.PS X st (L2.sW te g))(h:∀σ H Q,tV X.K X.mg env s o σ H Q→te σ H Q) :
 L2.PS X st (tSt X.K X.mg env s (o.bind fun v s1=>match yO t v env with|some env'=>.ok (.nx env') s1|Option.none=>.stuck)):=by
 cases o with
 |ok v s1=>
  show L2.PS X st (tSt X.K X.mg env s (match yO t v env with|some env'=>.ok (.nx env') s1|Option.none=>.stuck))
  cases hb:yO t v env with
  |none=>exact zI (zC rfl)
  |some env'=>exact y3 rule fun D σ H ⟨ρ,hr,er,w⟩=>h _ _ _ ⟨ρ,hr,er,fun ρ1 x H1 x1 hr1 r1=>TG ρ1 s1 H1 v x env env' σ _ hr1 r1 (er.mono x1) hb fun σ' er'=>w ρ1 H1 σ' x1 hr1 er'⟩
 |exc _ _ _=>exact zI (zC rfl)
 |stuck=>exact zI (zC rfl)
theorem cZ(op:Bop)(m:Bool):(∃r,L2.PIp X op.op r∧∀(i j:Int) (H:L2.Hp) (Q:L2.VK) (v:Val) (s s':Sto),binOp m op (.int i) (.int j) s=.ok v s'→(∃k:Int,v=.int k∧s'=s∧(Q (.int k) H→r (.int i) (.int j) H Q)))∨(op=.pow∨op=.shl∨op=.shr∨op=.band):=by
 cases op with
 |add=>exact .inl ⟨_,L2.gU,fun i j H Q v s s' h=>by cases h;exact⟨_,rfl,rfl,fun q=>⟨i,j,rfl,rfl,q⟩⟩⟩
 |sub=>exact .inl ⟨_,L2.gX,fun i j H Q v s s' h=>by cases h;exact⟨_,rfl,rfl,fun q=>⟨i,j,rfl,rfl,q⟩⟩⟩
 |mul=>exact .inl ⟨_,L2.gW,fun i j H Q v s s' h=>by
  simp only[binOp]at h
  split at h
  . rename_i hz;cases h;exact⟨_,rfl,rfl,fun q=>⟨i,j,rfl,rfl,hz,q⟩⟩
  . cases h⟩
 |fdiv=>exact .inl ⟨_,L2.kZ,fun i j H Q v s s' h=>by
  simp only[binOp]at h
  split at h
  . rename_i hz;cases h;exact⟨_,rfl,rfl,fun q=>⟨i,j,rfl,rfl,hz,q⟩⟩
  . cases h⟩
 |mod=>exact .inl ⟨_,L2.gV,fun i j H Q v s s' h=>by
  simp only[binOp]at h
  split at h
  . rename_i hz;cases h;exact⟨_,rfl,rfl,fun q=>⟨i,j,rfl,rfl,hz,q⟩⟩
  . cases h⟩
 |pow=>exact .inr (.inl rfl)
 |shl=>exact .inr (.inr (.inl rfl))
 |shr=>exact .inr (.inr (.inr (.inl rfl)))
 |band=>exact .inr (.inr (.inr (.inr rfl)))
theorem gG{i:Nat}{op:Bop}{f:Sto→Out Val}{r:Fl}{s':Sto}(h:(match env[i]? with
 |some (some (.int x))=>(f s).bind fun v s1=>match v with
  |.int y=>(binOp false op (.int x) (.int y) s1).bind fun z s2=>.ok (Fl.nx (env.set i (some z))) s2
  |_=>.stuck
 |some (some (.tup x))=>if op=Bop.add then (f s).bind fun v s1=>match v with
  |.tup y=>(binOp false .add (.tup x) (.tup y) s1).bind fun z s2=>.ok (Fl.nx (env.set i (some z))) s2
  |_=>.stuck
  else .stuck
 |_=>.stuck:Out Fl)=.ok r s'):(∃a b s1 z,env[i]?=some (some (.int a))∧f s=.ok (.int b) s1∧binOp false op (.int a) (.int b) s1=.ok z s'∧r=Fl.nx (env.set i (some z))) ∨
  (op=Bop.add∧∃a b,env[i]?=some (some (.tup a))∧f s=.ok (.tup b) s'∧a.length+b.length≤zR∧r=Fl.nx (env.set i (some (.tup (a++b))))):=by
 generalize he:env[i]?=o at h
 cases o with
 |none=>cases h
 |some ov=>
  cases ov with
  |none=>cases h
  |some v0=>
   cases v0 with
   |int a=>
    refine .inl ⟨a,?_⟩
    generalize hv:f s=o at h
    cases o with
    |ok v s1=>
     cases v with
     |int b=>
      simp only[zM]at h
      generalize hb:binOp false op (.int a) (.int b) s1=o at h
      cases o with
      |ok z s2=>cases h;exact⟨b,s1,z,rfl,rfl,hb,rfl⟩
      |exc _ _ _=>cases h
      |stuck=>cases h
     |_=>cases h
    |exc _ _ _=>cases h
    |stuck=>cases h
   |tup a=>
    by_cases ho:op=.add
    . refine .inr ⟨ho,a,?_⟩
      simp only[if_pos ho]at h
      generalize hv:f s=o at h
      cases o with
      |ok v s1=>
       cases v with
       |tup b=>
        simp only[zM,binOp]at h
        by_cases hz:a.length+b.length≤zR
        . rw[if_pos hz]at h;cases h;exact⟨b,rfl,rfl,hz,rfl⟩
        . rw[if_neg hz]at h;cases h
       |_=>cases h
      |exc _ _ _=>cases h
      |stuck=>cases h
    . simp only[if_neg ho]at h;cases h
   |_=>cases h
theorem YZ{st:Stmt}{o:Out Fl}(h:∀r s',o=.ok r s'→L2.PS X st (tSt X.K X.mg env s (.ok r s'))):L2.PS X st (tSt X.K X.mg env s o):=by
 cases o with
 |ok r s'=>exact h r s' rfl
 |exc _ _ _=>exact zI (zC rfl)
 |stuck=>exact zI (zC rfl)
theorem bW{i:Nat}{x:Str}{e:Expr}{op:Bop}{f:Sto→Out Val}{pos pos':Pos}(hop:¬(op=.pow∨op=.shl∨op=.shr∨op=.band))(hN:X.N.Nodup)(hi:X.N[i]?=some x)(hx:L2.Loc X.env.scope x)(hf:X.fn x=true∨X.env.scope.names.lookup x=some .local)(h:∀s,L2.PE X e (tV X.K X.mg env s (f s))) :
 L2.PS X (.AugAssign (.Name x pos') op.op e pos) (tSt X.K X.mg env s (match env[i]? with
 |some (some (.int x))=>(f s).bind fun v s1=>match v with
  |.int y=>(binOp false op (.int x) (.int y) s1).bind fun z s2=>.ok (.nx (env.set i (some z))) s2
  |_=>.stuck
 |some (some (.tup x))=>if op=.add then (f s).bind fun v s1=>match v with
  |.tup y=>(binOp false .add (.tup x) (.tup y) s1).bind fun z s2=>.ok (.nx (env.set i (some z))) s2
  |_=>.stuck
  else .stuck
 |_=>.stuck)):=by
 refine YZ fun r s' hO=>?_
 have h':=h s
 rcases gG hO with⟨a,b,s1,z,he,hv,hb,rfl⟩|⟨rfl,a,b,he,hv,hz,rfl⟩
 . rw[hv]at h'
   rcases cZ (X:=X) op false with⟨r,hr0,hq⟩|z
   . obtain⟨k,rfl,rfl,q⟩:=hq a b (fun _=>none) (fun _ _=>True) z s1 s' hb
     refine y3 (L2.iB hN hi hx h' hr0 hf) fun D σ H ⟨ρ,hr,er,w⟩=>?_
     obtain⟨xv,e1,e2⟩:=er.at_ i _ he
     cases e2
     refine⟨_,e1,ρ,hr,er,fun ρ1 y H1 x1 hr1 r1=>?_⟩
     cases r1
     obtain⟨k',e3,_,q'⟩:=hq a b H1 (fun z H2=>D.nx (σ.set i (some z)) H2) _ _ _ hb
     cases e3
     exact q' (w ρ1 H1 _ x1 hr1 ((er.mono x1).set i (.int _)))
   . exact absurd z hop
 . rw[hv]at h'
   refine y3 (L2.iB hN hi hx h' L2.mZ hf) fun D σ H ⟨ρ,hr,er,w⟩=>?_
   obtain⟨xv,e1,e2⟩:=er.at_ i _ he
   refine⟨_,e1,ρ,hr,er,fun ρ1 y H1 x1 hr1 r1=>?_⟩
   have e3:=e2.mono x1
   cases e3 with
   |tup n1 h1 q1=>
    cases r1 with
    |tup n2 h2 q2=>
     refine⟨_,_,_,_,rfl,rfl,h1,h2,?_,wK hr1 (q1.append q2) fun ρ2 z H2 x2 hr2 rz=>w ρ2 H2 _ (x1.trans hr1 x2) hr2 ((er.mono (x1.trans hr1 x2)).set i rz)⟩
     rw[←q1.length,←q2.length,←z6];exact hz
theorem gx{k:Nat}{a i e:Expr}{o:Out Val}{f2 f3:Sto→Out Val}{p pos:Pos}(hr0:L2.yn k X.A)(hn:wb e=true)(h1:L2.PE X e (tV X.K X.mg env s o))(h2:∀s1,L2.PE X a (tV X.K X.mg env s1 (f2 s1)))(h3:∀s1,L2.PE X i (tV X.K X.mg env s1 (f3 s1))) :
 L2.PS X (.Assign [.Subscript a i p] e pos) (tSt X.K X.mg env s (o.bind fun v s1=>(f2 s1).bind fun x s2=>(f3 s2).bind fun y s3=>match putD x y v s3 with|some s4=>.ok (.nx env) s4|Option.none=>.stuck)):=by
 cases o with
 |ok v s1=>
  have h2':=h2 s1
  simp only[zM]
  cases hb:f2 s1 with
  |ok x s2=>
   rw[hb]at h2'
   have h3':=h3 s2
   simp only[zM]
   cases hc:f3 s2 with
   |ok y s3=>
    rw[hc]at h3'
    simp only[zM]
    cases hp:putD x y v s3 with
    |none=>exact zI (zC rfl)
    |some s4=>
     refine y3 (L2.fu (by have:=hr0.un;omega) h2' h3' h1 (tu hn)) fun D σ H ⟨ρ,hr,er,w⟩=>⟨ρ,hr,er,fun ρ1 xv H1 x1 hr1 r1=>⟨ρ1,hr1,er.mono x1,fun ρ2 xo H2 x2 hr2 r2=>⟨ρ2,hr2,(er.mono x1).mono x2,fun ρ3 xi H3 x3 hr3 r3=>?_⟩⟩⟩
     obtain⟨b,H4,ex,g,X4,hr4⟩:=f7 hr3 (r2.mono x3) r3 ((r1.mono x2).mono x3) hp
     have xx:=(x1.trans hr1 x2).trans hr2 x3
     exact⟨b,H4,ex,g,w ρ3 H4 σ (xx.trans hr3 X4) hr4 ((er.mono xx).mono X4)⟩
   |exc _ _ _=>exact zI (zC rfl)
   |stuck=>exact zI (zC rfl)
  |exc _ _ _=>exact zI (zC rfl)
  |stuck=>exact zI (zC rfl)
 |exc _ _ _=>exact zI (zC rfl)
 |stuck=>exact zI (zC rfl)
theorem jF{a i e:Expr}{o:Out Val}{f2 f3:Sto→Out Val}{p pos:Pos}(hi0:plain i=true)(h1:L2.PE X e (tV X.K X.mg env s o))(h2:∀s1,L2.PE X a (tV X.K X.mg env s1 (f2 s1)))(h3:∀s1,L2.PE X i (tV X.K X.mg env s1 (f3 s1))) :
 L2.PS X (.Assign [.Subscript a i p] e pos) (tSt X.K X.mg env s (o.bind fun v s1=>(f2 s1).bind fun x s2=>(f3 s2).bind fun y s3=>match x,y with
  |.ref r,.int k=>(match s3[r]? with
   |some (.lst vs)=>(match L2.ixN vs.length k with|some j=>.ok (.nx env) (upd s3 r (vs.set j v))|Option.none=>.stuck)
   |_=>.stuck)
  |_,_=>.stuck)):=by
 cases o with
 |ok v s1=>
  have h2':=h2 s1
  simp only[zM]
  cases hb:f2 s1 with
  |ok x s2=>
   rw[hb]at h2'
   have h3':=h3 s2
   simp only[zM]
   cases hc:f3 s2 with
   |ok y s3=>
    rw[hc]at h3'
    simp only[zM]
    have rule:L2.PS X (.Assign [.Subscript a i p] e pos) (L2.sW _ (L2.Zb _ _ L2.dW)):=L2.oi h1 (L2.af h2' h3' L2.set_list (nB hi0)) lV pX
    cases x with
    |ref r=>
     cases y with
     |int k=>
      simp only[]
      cases hs:s3[r]? with
      |none=>exact zI (zC rfl)
      |some cl=>
       cases cl with
       |dS _=>exact zI (zC rfl)
       |dT _=>exact zI (zC rfl)
       |lst vs=>
        simp only[]
        cases hj:L2.ixN vs.length k with
        |none=>exact zI (zC rfl)
        |some j=>
         refine y3 rule fun D σ H ⟨ρ,hr,er,w⟩=>⟨ρ,hr,er,fun ρ1 xv H1 x1 hr1 r1=>⟨ρ1,hr1,er.mono x1,fun ρ2 xo H2 x2 hr2 r2=>⟨ρ2,hr2,(er.mono x1).mono x2,fun ρ3 xi H3 x3 hr3 r3=>?_⟩⟩⟩
         cases r3
         have r2':=r2.mono x3
         cases r2' with
         |ref e0 _=>
          obtain⟨b',xs,e1,e2,q⟩:=hr3.obj r _ hs
          rw[e0]at e1;cases e1
          have xx:=(x1.trans hr1 x2).trans hr2 x3
          refine⟨_,xs,k,j,rfl,rfl,e2,by rw[←q.length];exact hj,?_⟩
          exact w ρ3 _ σ (xx.trans hr3 (Ext.write hr3 e0 e2 _)) (hr3.write e0 e2 (RDs.set ((r1.mono x2).mono x3) j q)) ((er.mono xx).mono (Ext.write hr3 e0 e2 _))
     |_=>exact zI (zC rfl)
    |_=>exact zI (zC rfl)
   |exc _ _ _=>exact zI (zC rfl)
   |stuck=>exact zI (zC rfl)
  |exc _ _ _=>exact zI (zC rfl)
  |stuck=>exact zI (zC rfl)
 |exc _ _ _=>exact zI (zC rfl)
 |stuck=>exact zI (zC rfl)
end
end M
end
section
namespace M
open PySem
section
variable {X:L2.Cx}{env:Env}{s:Sto}
theorem gu{i j:Nat}{o:Out (List Val)}{st:Stmt}{ta:L2.TA}(rule:L2.PS X st (L2.Yw i j ta))(h:∀σ H Q,tVs X.K X.mg env s o σ H Q→ta σ H Q) :
 L2.PS X st (tSt X.K X.mg env s (o.bind fun vs s1=>if vs.length=[i,j].length then .ok (.nx (([i,j].zip vs).foldl (fun e p=>e.set p.1 (some p.2)) env)) s1 else .stuck)):=by
 cases o with
 |ok vs s1=>
  show L2.PS X st (tSt X.K X.mg env s (if vs.length=[i,j].length then .ok (.nx (([i,j].zip vs).foldl (fun e p=>e.set p.1 (some p.2)) env)) s1 else .stuck))
  match vs with
  |[v,w]=>
   refine y3 rule fun D σ H ⟨ρ,hr,er,wt⟩=>h _ _ _ ⟨ρ,hr,er,fun ρ1 xs H1 x1 hr1 r1=>?_⟩
   obtain⟨x,y,rfl,rx,ry⟩:=lL r1
   exact⟨x,y,rfl,wt ρ1 H1 _ x1 hr1 (((er.mono x1).set i rx).set j ry)⟩
  |[]=>exact zI (zC rfl)
  |[_]=>exact zI (zC rfl)
  |_::_::_::r=>exact zI (fun _ _ e=>by simp at e)
 |exc _ _ _=>exact zI (zC rfl)
 |stuck=>exact zI (zC rfl)
theorem XU{K:KF}{mg:Str→Option Value}{ρ:Own}{H:L2.Hp}{v w z:Val}{xs:List L2.V}(r:RDs K mg ρ H [v,w,z] xs):∃x y t,xs=[x,y,t]∧RD K mg ρ H v x∧RD K mg ρ H w y∧RD K mg ρ H z t:=by
 cases r with
 |cons r1 r2=>
  obtain⟨y,t,rfl,r3,r4⟩:=lL r2
  exact⟨_,_,_,rfl,r1,r3,r4⟩
theorem gw{i j k:Nat}{o:Out (List Val)}{st:Stmt}{ta:L2.TA}(rule:L2.PS X st (L2.dg i j k ta))(h:∀σ H Q,tVs X.K X.mg env s o σ H Q→ta σ H Q) :
 L2.PS X st (tSt X.K X.mg env s (o.bind fun vs s1=>if vs.length=[i,j,k].length then .ok (.nx (([i,j,k].zip vs).foldl (fun e p=>e.set p.1 (some p.2)) env)) s1 else .stuck)):=by
 cases o with
 |ok vs s1=>
  show L2.PS X st (tSt X.K X.mg env s (if vs.length=[i,j,k].length then .ok (.nx (([i,j,k].zip vs).foldl (fun e p=>e.set p.1 (some p.2)) env)) s1 else .stuck))
  match vs with
  |[v,w,z]=>
   refine y3 rule fun D σ H ⟨ρ,hr,er,wt⟩=>h _ _ _ ⟨ρ,hr,er,fun ρ1 xs H1 x1 hr1 r1=>?_⟩
   obtain⟨x,y,t,rfl,rx,ry,rt⟩:=XU r1
   exact⟨x,y,t,rfl,wt ρ1 H1 _ x1 hr1 ((((er.mono x1).set i rx).set j ry).set k rt)⟩
  |[]=>exact zI (zC rfl)
  |[_]=>exact zI (zC rfl)
  |[_,_]=>exact zI (zC rfl)
  |_::_::_::_::r=>exact zI (fun _ _ e=>by simp at e)
 |exc _ _ _=>exact zI (zC rfl)
 |stuck=>exact zI (zC rfl)
noncomputable def uSs(K:KF)(mg:Str→Option Value)(Φ:Calls)(G:Str→Option Val)(b:Sms):L2.TS:=fun D σ H=>∃env s,tSt K mg env s (zi Φ G env b s) D σ H
theorem Zy{c:Expr}{a b:List Stmt}{o:Out Bool}{f2 f3:Sto→Out Fl}{ta tb:L2.TS}{pos:Pos}(hc:L2.PT X c (tT X.K X.mg env s o))(ha:L2.PSs X a ta)(hb:L2.PSs X b tb)(ia:∀s1 D σ H,tSt X.K X.mg env s1 (f2 s1) D σ H→ta D σ H)(ib:∀s1 D σ H,tSt X.K X.mg env s1 (f3 s1) D σ H→tb D σ H) :
 L2.PS X (.If c a b pos) (tSt X.K X.mg env s (o.bind fun t s1=>if t then f2 s1 else f3 s1)):=by
 cases o with
 |ok v s1=>
  refine y3 (L2.YX hc ha hb) fun D σ H ⟨ρ,hr,er,wt⟩=>⟨ρ,hr,er,fun ρ1 x H1 x1 hr1 r1=>?_⟩
  have wt':=wt.mono x1 hr1
  cases r1
  cases v with
  |true=>exact L2.sI (ia s1 D σ H1 ⟨ρ1,hr1,er.mono x1,wt'⟩)
  |false=>exact L2.sH (ib s1 D σ H1 ⟨ρ1,hr1,er.mono x1,wt'⟩)
 |exc _ _ _=>exact zI (zC rfl)
 |stuck=>exact zI (zC rfl)
theorem kR{K:KF}{mg:Str→Option Value}{r:Src}{J:L2.It}{t:Tgt}{g:L2.TG}{body:Env→Sto→Out Fl}{tb:L2.TS}{D:L2.Ends}{ρ:Own}{H:L2.Hp}{σ:L2.St}(W:Walk K mg ρ H r J)(TG:vq K mg t g)(hb:∀env s D σ H,tSt K mg env s (body env s) D σ H→tb D σ H)
 (hr:HR K mg ρ s H) (er:ER K mg ρ H env σ) (w:um K mg ρ H (wB r t body r.xs env s) D):L2.rL J g tb D σ H:=by
 refine qj (n:=r.xs.length) (fun i σ2 H2=>∃ρ2 s2 env2,HR K mg ρ2 s2 H2∧ER K mg ρ2 H2 env2 σ2∧Ext ρ H ρ2 H2∧wB r t body (r.xs.drop i) env2 s2=wB r t body r.xs env s) ⟨ρ,s,env,hr,er,Ext.refl,by rw[List.drop_zero]⟩ ?_ ?_
 . rintro σ2 H2 ⟨ρ2,s2,env2,hr2,er2,x2,h2⟩
   rw[List.drop_length,wB]at h2
   split at h2
   . rename_i ho
     rw[←h2]at w
     exact⟨W.stop ρ2 H2 s2 _ x2.mv hr2 ho rfl,w ρ2 H2 σ2 x2 hr2 er2⟩
   . rw[←h2]at w;exact w.elim
 . rintro i σ2 H2 hi ⟨ρ2,s2,env2,hr2,er2,x2,h2⟩
   rw[List.drop_eq_getElem_cons hi,wB]at h2
   split at h2
   . rename_i ho
     obtain⟨hgo,hy⟩:=W.go ρ2 H2 s2 i (r.xs[i]) x2.mv hr2 ho (List.getElem?_eq_getElem hi)
     refine⟨hgo,fun x H3 y=>?_⟩
     obtain⟨hH,rx⟩:=hy x H3 y
     split at h2
     . rw[←h2]at w;exact w.elim
     . rename_i env' he
       have C3:HR K mg ρ2 s2 H3∧Ext ρ2 H2 ρ2 H3:=by
        rcases hH with e|⟨q,o,hq,e⟩
        . subst e;exact⟨hr2,Ext.refl⟩
        . subst e;exact⟨hr2.more hq o,Ext.new hr2 hq o⟩
       have x3:=x2.trans hr2 C3.2
       refine TG ρ2 s2 H3 _ x env2 env' σ2 _ C3.1 rx (er2.mono C3.2) he fun σ4 er4=>hb env' s2 _ σ4 H3 ⟨ρ2,C3.1,er4,?_⟩
       cases hc:body env' s2 with
       |ok fl s5=>
        rw[hc]at h2
        simp only[zM]at h2
        cases fl with
        |nx e=>exact fun ρ5 H5 σ5 x5 hr5 er5=>⟨ρ5,s5,e,hr5,er5,x3.trans C3.1 x5,h2⟩
        |ct e=>exact fun ρ5 H5 σ5 x5 hr5 er5=>⟨ρ5,s5,e,hr5,er5,x3.trans C3.1 x5,h2⟩
        |bk e=>
         simp only[]at h2
         rw[←h2]at w
         exact fun ρ5 H5 σ5 x5 hr5 er5=>w ρ5 H5 σ5 (x3.trans C3.1 x5) hr5 er5
        |rt v=>
         simp only[]at h2
         rw[←h2]at w
         exact fun ρ5 H5 y5 x5 hr5 r5=>w ρ5 H5 y5 (x3.trans C3.1 x5) hr5 r5
       |exc _ _ _=>rw[hc]at h2;simp only[uo]at h2;rw[←h2]at w;exact w.elim
       |stuck=>rw[hc]at h2;simp only[xn]at h2;rw[←h2]at w;exact w.elim
   . rw[←h2]at w;exact w.elim
theorem bX{Φ:Calls}{G:Str→Option Val}{it:Itb}{t:Tgt}{b:Sms}{tg iter:Expr}{body:List Stmt}{g:L2.TG}{pos:Pos}(hx:X.xe=fun _ _=>False)(hc:X.calm=true)(hp:plain iter=true)(hi:∀env s,L2.PI X tg iter (tI (K:=X.K) (mg:=X.mg) env s (yL Φ G env it s)))(hg:L2.PG X tg g)(TG:vq X.K X.mg t g)
 (hb:L2.PSs X body (uSs X.K X.mg Φ G b)):L2.PS X (.For tg iter body [] pos) (tSt X.K X.mg env s ((yL Φ G env it s).bind fun r s1=>wB r t (fun e s'=>zi Φ G e b s') r.xs env s1)):=by
 have hpass:PassesOwn (model X.prog X.w) X.A X.env X.xe:=by rw[hx];exact PassesOwn.never
 refine y3 (L2.ah hpass hc (oe hi) hg hb (z0 hp)) fun D σ H ⟨ρ,hr,er,w⟩=>⟨env,s,ρ,hr,er,?_⟩
 cases hv:yL Φ G env it s with
 |ok r s1=>
  rw[hv]at w
  exact fun ρ1 H1 J x1 hr1 W=>kR W TG (fun env s D σ H h=>⟨env,s,h⟩) hr1 (er.mono x1) (w.mono x1 hr1)
 |exc _ _ _=>rw[hv]at w;exact w.elim
 |stuck=>rw[hv]at w;exact w.elim
theorem nM{K:KF}{mg:Str→Option Value}{c:Env→Sto→Out Bool}{body:Env→Sto→Out Fl}{tc:L2.TT}{tb:L2.TS}{D:L2.Ends}{ρ:Own}{H:L2.Hp}{σ:L2.St}{n:Nat}(hc:∀env s σ H Q,tT K mg env s (c env s) σ H Q→tc σ H Q)(hb:∀env s D σ H,tSt K mg env s (body env s) D σ H→tb D σ H)
 (hr:HR K mg ρ s H) (er:ER K mg ρ H env σ) (w:um K mg ρ H (wM c body n env s) D):L2.iw tc tb D σ H:=by
 refine⟨fun m σ2 H2=>∃ρ2 s2 env2,HR K mg ρ2 s2 H2∧ER K mg ρ2 H2 env2 σ2∧Ext ρ H ρ2 H2∧wM c body m env2 s2=wM c body n env s,⟨n,ρ,s,env,hr,er,Ext.refl,rfl⟩,?_⟩
 rintro m σ2 H2 ⟨ρ2,s2,env2,hr2,er2,x2,h2⟩
 cases m with
 |zero=>rw[wM]at h2;rw[←h2]at w;exact w.elim
 |succ m=>
  rw[wM]at h2
  refine hc env2 s2 σ2 H2 _ ⟨ρ2,hr2,er2,?_⟩
  cases hv:c env2 s2 with
  |ok t s3=>
   rw[hv]at h2
   simp only[zM]at h2
   intro ρ3 t' H3 x3 hr3 e3
   cases e3
   have x3':=x2.trans hr2 x3
   cases t with
   |true=>
    refine L2.sI ⟨_,fun σ' H' p=>⟨m,Nat.lt_succ_self m,p⟩,hb env2 s3 _ σ2 H3 ⟨ρ3,hr3,er2.mono x3,?_⟩⟩
    simp only[if_true]at h2
    cases hbd:body env2 s3 with
    |ok fl s5=>
     rw[hbd]at h2
     simp only[zM]at h2
     cases fl with
     |nx e=>exact fun ρ5 H5 σ5 x5 hr5 er5=>⟨ρ5,s5,e,hr5,er5,x3'.trans hr3 x5,h2⟩
     |ct e=>exact fun ρ5 H5 σ5 x5 hr5 er5=>⟨ρ5,s5,e,hr5,er5,x3'.trans hr3 x5,h2⟩
     |bk e=>
      simp only[]at h2
      rw[←h2]at w
      exact fun ρ5 H5 σ5 x5 hr5 er5=>w ρ5 H5 σ5 (x3'.trans hr3 x5) hr5 er5
     |rt v=>
      simp only[]at h2
      rw[←h2]at w
      exact fun ρ5 H5 y5 x5 hr5 r5=>w ρ5 H5 y5 (x3'.trans hr3 x5) hr5 r5
    |exc _ _ _=>rw[hbd]at h2;simp only[uo]at h2;rw[←h2]at w;exact w.elim
    |stuck=>rw[hbd]at h2;simp only[xn]at h2;rw[←h2]at w;exact w.elim
   |false=>
    simp only[Bool.false_eq_true,if_false]at h2
    rw[←h2]at w
    exact L2.sH (w ρ3 H3 σ2 x3' hr3 (er2.mono x3))
  |exc _ _ _=>rw[hv]at h2;simp only[uo]at h2;rw[←h2]at w;exact w.elim
  |stuck=>rw[hv]at h2;simp only[xn]at h2;rw[←h2]at w;exact w.elim
theorem jG{Φ:Calls}{G:Str→Option Val}{c:Cn}{b:Sms}{ce:Expr}{body:List Stmt}{pos:Pos}(hx:X.xe=fun _ _=>False)(hc:∀env s,L2.PT X ce (tT X.K X.mg env s (evT Φ G env c s)))(hb:L2.PSs X body (uSs X.K X.mg Φ G b)) :
 L2.PS X (.While ce body [] pos) (tSt X.K X.mg env s (wM (fun e s'=>evT Φ G e c s') (fun e s'=>zi Φ G e b s') qV env s)):=by
 have hpass:PassesOwn (model X.prog X.w) X.A X.env X.xe:=by rw[hx];exact PassesOwn.never
 exact y3 (L2.iD hpass (Yb hc) hb) fun D σ H ⟨ρ,hr,er,w⟩=>nM (fun env s σ H Q h=>⟨env,s,h⟩) (fun env s D σ H h=>⟨env,s,h⟩) hr er w
theorem gy:L2.PSs X [] (tSt X.K X.mg env s (.ok (.nx env) s)):=mD L2.fz fun D σ H ⟨ρ,hr,er,w⟩=>w ρ H σ Ext.refl hr er
theorem jH{st:Stmt}{rest:List Stmt}{o:Out Fl}{f:Env→Sto→Out Fl}{tr:L2.TS}(h1:L2.PS X st (tSt X.K X.mg env s o))(h2:L2.PSs X rest tr)(i2:∀env s D σ H,tSt X.K X.mg env s (f env s) D σ H→tr D σ H) :
 L2.PSs X (st::rest) (tSt X.K X.mg env s (o.bind fun fl s1=>match fl with|.nx e=>f e s1|fl=>.ok fl s1)):=by
 refine mD (L2.iE h1 h2) fun D σ H ⟨ρ,hr,er,w⟩=>⟨ρ,hr,er,?_⟩
 cases o with
 |ok fl s1=>
  simp only[zM]at w
  cases fl with
  |nx e=>exact fun ρ1 H1 σ1 x1 hr1 er1=>i2 e s1 D σ1 H1 ⟨ρ1,hr1,er1,w.mono x1 hr1⟩
  |bk e=>exact w
  |ct e=>exact w
  |rt v=>exact w
 |exc _ _ _=>exact w.elim
 |stuck=>exact w.elim
end
end M
end
section
namespace M
open PySem
mutual
noncomputable def ckS(sc:Scope)(N:List Str):Sm→Stmt→Bool
 |.expr e,st=>(match st with|.Expr x _=>ck sc N e x&&wb x|_=>false)
 |.ret e,st=>(match st with|.Return (some x) _=>ck sc N e x|_=>false)
 |.retN,_=>false
 |.asg i e,st=>(match st with|.Assign [.Name x _] v _=>decide (N[i]?=some x)&&(decide (sc.names.lookup x=some .local)||decide (sc.names.lookup x=some .cell))&&ck sc N e v|_=>false)
 |.asgT is e,st=>(match st with|.Assign [.Tuple ts _ _] v _=>zr sc N is ts&&ck sc N e v&&notTuple v|_=>false)
 |.par is es,st=>(match st with|.Assign [.Tuple ts _ _] (.Tuple vs _ _) _=>zr sc N is ts&&ckL sc N es vs&&yM vs&&decide (is.length≤8)&&decide is.Nodup&&decide (ts.length=vs.length)&&(da sc ts vs||dm sc ts)|_=>false)
 |.aug i op e,st=>(match st with|.AugAssign (.Name x _) o v _=>decide (N[i]?=some x)&&(decide (sc.names.lookup x=some .local)||decide (sc.names.lookup x=some .cell))&&decide (o=op.op)&&ck sc N e v&&!(decide (op=.pow)||decide (op=.shl)||decide (op=.shr)||decide (op=.band))|_=>false)
 |.setD o i e,st=>(match st with|.Assign [.Subscript a b _] v _=>ck sc N o a&&ck sc N i b&&ck sc N e v&&wb v|_=>false)
 |.setIx o i e,st=>(match st with|.Assign [.Subscript a b _] v _=>ck sc N o a&&ck sc N i b&&ck sc N e v&&plain b|_=>false)
 |.ifS c a b,st=>(match st with|.If t x y _=>ckC sc N c t&&sD sc N a x&&sD sc N b y|_=>false)
 |.forS t it b,st=>(match st with|.For tg iter body [] _=>ckT sc N t tg&&ckI sc N it iter tg&&sD sc N b body&&plain iter|_=>false)
 |.whileS c b,st=>(match st with|.While t body [] _=>ckC sc N c t&&sD sc N b body|_=>false)
 |.pass,_=>false
 |.brk,_=>false
 |.cont,_=>false
 |.raise _,_=>true
noncomputable def sD(sc:Scope)(N:List Str):Sms→List Stmt→Bool
 |.nil,ss=>(match ss with|[]=>true|_=>false)
 |.cons c cs,ss=>(match ss with|t::ts=>ckS sc N c t&&sD sc N cs ts|_=>false)
end
structure OkF(T:Tbl)(n:Nat)(sc:Scope)(N:List Str)(X:L2.Cx):Prop where
 ok:Ok T n sc N X
 esc:X.env.scope=sc
 bk:X.env.blockKind=.function
section
variable {T:Tbl}{n:Nat}
def JS(T:Tbl)(n:Nat)(a:Sm):Prop:=∀(sc:Scope) (N:List Str) (X:L2.Cx) (st:Stmt),OkF T n sc N X→ckS sc N a st=true→∀env s,L2.PS X st (tSt X.K X.mg env s (exS (zD T n) T.gl env a s))
def JSs(T:Tbl)(n:Nat)(a:Sms):Prop:=∀(sc:Scope) (N:List Str) (X:L2.Cx) (st:List Stmt),OkF T n sc N X→sD sc N a st=true→∀env s,L2.PSs X st (tSt X.K X.mg env s (zi (zD T n) T.gl env a s))
theorem pS{X:L2.Cx}{b:Sms}{st:List Stmt}{Φ:Calls}{G:Str→Option Val}(h:∀env s,L2.PSs X st (tSt X.K X.mg env s (zi Φ G env b s))):L2.PSs X st (uSs X.K X.mg Φ G b):=fun pins s σ H D I ⟨env,t,q⟩=>h env t pins s σ H D I q
theorem gj{e:Ex}:JS T n (.expr e):=by
 intro sc N X st o h env s
 simp only[ckS]at h
 split at h
 . simp only[Bool.and_eq_true]at h
   exact gs h.2 (jE T n e _ _ _ _ o.ok h.1 env s)
 . cases h
theorem bL{e:Ex}:JS T n (.ret e):=by
 intro sc N X st o h env s
 simp only[ckS]at h
 split at h
 . exact bY (jE T n e _ _ _ _ o.ok h env s)
 . cases h
theorem tq{elt:Expr}{gens:List Comprehension}{csc:Scope}{cpos py:Pos}{y:Str}{l:Nat}{env:PySem.Env}:∃b,swapsWith (.ListComp elt gens csc cpos) (some (.Name y py)) l env=pure b:=⟨_,rfl⟩
theorem bH{i:Nat}{e:Ex}:JS T n (.asg i e):=by
 intro sc N X st o h env s
 simp only[ckS]at h
 split at h
 . rename_i x px v pos
   simp only[Bool.and_eq_true,decide_eq_true_eq,Bool.or_eq_true]at h
   obtain⟨⟨h1,h2⟩,h3⟩:=h
   obtain⟨l1,l2⟩:=o.ok.scp.loc x h2
   have hN:X.N.Nodup:=by rw[o.ok.scp.hN];exact o.ok.scp.nd
   have hi:X.N[i]?=some x:=by rw[o.ok.scp.hN];exact h1
   by_cases hn:wb v=true
   . exact oE (L2.oj hN hi l1 (jE T n e _ _ _ _ o.ok h3 env s) (tu hn) l2) fun σ H Q q=>q
   . -- a comprehension
     cases e with
     |comp m N' fr elt t it ifs=>
      simp only[ck]at h3
      split at h3
      . rename_i x' tg iter fs csc cpos
        simp only[Bool.and_eq_true,decide_eq_true_eq]at h3
        obtain⟨⟨⟨⟨⟨⟨c1,c2⟩,c3⟩,c4⟩,c5⟩,c6⟩,c7⟩:=h3
        have S:=nU o.ok.scp c1
        have oc:=o.ok.comp S c2
        obtain⟨g,pg,tg'⟩:∃g,(∀C s0 H0 ex,L2.PG (X.comp N' csc C s0 H0 ex) tg g)∧vq X.K X.mg t g:=by
         cases t with
         |nm i=>
          cases tg with
          |Name y p=>
           simp only[ckT,Bool.and_eq_true,Bool.or_eq_true,decide_eq_true_eq]at c3
           exact⟨_,fun C s0 H0 ex=>rK (oc C s0 H0 ex).scp c3.1 c3.2,vi⟩
          |_=>cases c3
         |nms is=>
          cases tg with
          |Tuple es k p=>
           simp only[ckT,Bool.and_eq_true,decide_eq_true_eq]at c3
           refine⟨_,fun C s0 H0 ex=>?_,xP (is:=is)⟩
           obtain⟨a,b,c⟩:=ym (oc C s0 H0 ex).scp c3.1
           exact L2.vK (X:=X.comp N' csc C s0 H0 ex) o.ok.calm a b c
          |_=>cases c3
        have hpi:L2.PI X tg iter (uI X.K X.mg (zD T n) T.gl it):=oe fun env s=>jI T n it _ _ _ _ _ o.ok c4 env s
        have hts:∀C s0 H0 ex,L2.PTs (X.comp N' csc C s0 H0 ex) fs (uTs X.K X.mg (zD T n) T.gl ifs):=fun C s0 H0 ex=>(jCs T n ifs _ _ _ _ (oc C s0 H0 ex) c5).2.2
        have hel:∀C s0 H0 ex,L2.PE (X.comp N' csc C s0 H0 ex) x' (uE X.K X.mg (zD T n) T.gl elt):=fun C s0 H0 ex=>ff (X:=X.comp N' csc C s0 H0 ex) fun env s=>jE T n elt _ _ _ _ (oc C s0 H0 ex) c6 env s
        have rule:L2.PS X (.Assign [.Name x px] (.ListComp x' [⟨tg,iter,fs,0⟩] csc cpos) pos) (L2.sW (L2.wO fr (uI X.K X.mg (zD T n) T.gl it) g (uTs X.K X.mg (zD T n) T.gl ifs) fun acc=>L2.w5 acc (uE X.K X.mg (zD T n) T.gl elt)) (L2.wJ i)):=by
         obtain⟨b,hb⟩:=tq (elt:=x') (gens:=[⟨tg,iter,fs,0⟩]) (csc:=csc) (cpos:=cpos) (y:=x) (py:=px) (l:=pos.line) (env:=X.env)
         cases b with
         |true=>exact L2.fq o.ok.calm S hpi pg hts hel hN hi l1 hb l2 (z0 c7)
         |false=>exact L2.oj hN hi l1 (L2.n9 o.ok.calm S hpi pg hts hel (z0 c7)) hb l2
        refine oE (o:=evE (zD T n) T.gl env (.comp m N' fr elt t it ifs) s) rule fun σ H Q hq=>wY (env:=env) (s:=s) (chk:=false) (m:=m) (body:=w6 (zD T n) T.gl elt ifs) tg' xV (fun acc ρ0 H0 hn=>t9 hn) ?_ fun _ r s1 p s2 hl=>?_
        . simp only[Bool.false_eq_true,false_implies,if_true];exact hq
        . have:=uF hl
          simpa using this
      . cases h3
     |comp2 m N' fr elt t it ifs t2 it2 ifs2=>
      simp only[ck]at h3
      split at h3
      . rename_i x' tg iter fs tg2 iter2 fs2 csc cpos
        simp only[Bool.and_eq_true,decide_eq_true_eq]at h3
        obtain⟨⟨⟨⟨⟨⟨⟨⟨⟨⟨c1,c2⟩,c3⟩,c4⟩,c5⟩,c6⟩,c7⟩,c8⟩,c9⟩,c10⟩,c11⟩:=h3
        have S:=nU o.ok.scp c1
        have oc:=o.ok.comp S c2
        have tgt:∀(t:Tgt) (tg:Expr),ckT csc N' t tg=true→∃g,(∀C s0 H0 ex,L2.PG (X.comp N' csc C s0 H0 ex) tg g)∧vq X.K X.mg t g:=by
         intro t tg c3
         cases t with
         |nm i=>
          cases tg with
          |Name y p=>
           simp only[ckT,Bool.and_eq_true,Bool.or_eq_true,decide_eq_true_eq]at c3
           exact⟨_,fun C s0 H0 ex=>rK (oc C s0 H0 ex).scp c3.1 c3.2,vi⟩
          |_=>cases c3
         |nms is=>
          cases tg with
          |Tuple es k p=>
           simp only[ckT,Bool.and_eq_true,decide_eq_true_eq]at c3
           refine⟨_,fun C s0 H0 ex=>?_,xP (is:=is)⟩
           obtain⟨a,b,c⟩:=ym (oc C s0 H0 ex).scp c3.1
           exact L2.vK (X:=X.comp N' csc C s0 H0 ex) o.ok.calm a b c
          |_=>cases c3
        obtain⟨g,pg,tg'⟩:=tgt t tg c3
        obtain⟨g2,pg2,tg2'⟩:=tgt t2 tg2 c6
        have hpi:L2.PI X tg iter (uI X.K X.mg (zD T n) T.gl it):=oe fun env s=>jI T n it _ _ _ _ _ o.ok c4 env s
        have hts:∀C s0 H0 ex,L2.PTs (X.comp N' csc C s0 H0 ex) fs (uTs X.K X.mg (zD T n) T.gl ifs):=fun C s0 H0 ex=>(jCs T n ifs _ _ _ _ (oc C s0 H0 ex) c5).2.2
        have hpi2:∀C s0 H0 ex,L2.PI (X.comp N' csc C s0 H0 ex) tg2 iter2 (uI X.K X.mg (zD T n) T.gl it2):=fun C s0 H0 ex=>oe (X:=X.comp N' csc C s0 H0 ex) fun env s=>jI T n it2 _ _ _ _ _ (oc C s0 H0 ex) c7 env s
        have hts2:∀C s0 H0 ex,L2.PTs (X.comp N' csc C s0 H0 ex) fs2 (uTs X.K X.mg (zD T n) T.gl ifs2):=fun C s0 H0 ex=>(jCs T n ifs2 _ _ _ _ (oc C s0 H0 ex) c8).2.2
        have hel:∀C s0 H0 ex,L2.PE (X.comp N' csc C s0 H0 ex) x' (uE X.K X.mg (zD T n) T.gl elt):=fun C s0 H0 ex=>ff (X:=X.comp N' csc C s0 H0 ex) fun env s=>jE T n elt _ _ _ _ (oc C s0 H0 ex) c9 env s
        have rule:L2.PS X (.Assign [.Name x px] (.ListComp x' [⟨tg,iter,fs,0⟩,⟨tg2,iter2,fs2,0⟩] csc cpos) pos) (L2.sW (L2.wO fr (uI X.K X.mg (zD T n) T.gl it) g (uTs X.K X.mg (zD T n) T.gl ifs) fun acc=>L2.tx (uI X.K X.mg (zD T n) T.gl it2) g2 (uTs X.K X.mg (zD T n) T.gl ifs2) (L2.w5 acc (uE X.K X.mg (zD T n) T.gl elt))) (L2.wJ i)):=by
         obtain⟨b,hb⟩:=tq (elt:=x') (gens:=[⟨tg,iter,fs,0⟩,⟨tg2,iter2,fs2,0⟩]) (csc:=csc) (cpos:=cpos) (y:=x) (py:=px) (l:=pos.line) (env:=X.env)
         cases b with
         |true=>exact L2.iC o.ok.calm S hpi pg hts hpi2 pg2 hts2 hel hN hi l1 hb l2 (z0 c10) (fun env=>z0 c11)
         |false=>exact L2.oj hN hi l1 (L2.pK o.ok.calm S hpi pg hts hpi2 pg2 hts2 hel (z0 c10) (fun env=>z0 c11)) hb l2
        refine oE (o:=evE (zD T n) T.gl env (.comp2 m N' fr elt t it ifs t2 it2 ifs2) s) rule fun σ H Q hq=>wY (env:=env) (s:=s) (chk:=true) (m:=m) (body:=uD (zD T n) T.gl elt ifs t2 it2 ifs2) tg' vj (fun acc ρ0 H0 hn=>rR hn tg2') ?_ fun z=>by cases z
        simp only[true_implies];exact hq
      . cases h3
     |_=>exfalso;apply hn;first|(simp only[ck,su]at h3;cases h3;done)|(simp only[ck,su]at h3;split at h3<;>first|rfl|(cases h3;done))
 . cases h
theorem gi{is:List Nat}{e:Ex}:JS T n (.asgT is e):=by
 intro sc N X st o h env s
 simp only[ckS]at h
 split at h
 . rename_i ts k p v pos
   simp only[Bool.and_eq_true]at h
   obtain⟨⟨h1,h2⟩,h3⟩:=h
   obtain⟨a,b,c⟩:=ym o.ok.scp h1
   exact ny (t:=.nms is) xP (L2.oi (jE T n e _ _ _ _ o.ok h2 env s) (L2.vK o.ok.calm a b c) wg (nC h3)) fun σ H Q q=>q
 . cases h
theorem bK{is:List Nat}{es:Exs}:JS T n (.par is es):=by
 intro sc N X st o h env s
 simp only[ckS]at h
 split at h
 . rename_i ts k p vs k2 p2 pos
   simp only[Bool.and_eq_true,decide_eq_true_eq,Bool.or_eq_true]at h
   obtain⟨⟨⟨⟨⟨⟨h1,h2⟩,h3⟩,h4⟩,h5⟩,h6⟩,h7⟩:=h
   have hes:=(jL T n es _ _ _ _ o.ok h2).1 h3 env s
   have hN:X.N.Nodup:=by rw[o.ok.scp.hN];exact o.ok.scp.nd
   have kind:∀x,X.env.kindOf x=sc.names.lookup x:=fun x=>by show X.env.scope.names.lookup x=_;rw[o.esc]
   rcases h7 with h7|h7
   . unfold da at h7
     split at h7
     . rename_i x px y py
       simp only[Bool.and_eq_true,decide_eq_true_eq,Bool.not_eq_true']at h7
       obtain⟨⟨⟨⟨⟨q1,q2⟩,q3⟩,q4⟩,q5⟩,q6⟩:=h7
       match is,h1,h5 with
       |[i,j],h1,h5=>
        simp only[zr,Bool.and_eq_true,decide_eq_true_eq,Bool.or_eq_true]at h1
        obtain⟨⟨i1,i2⟩,⟨j1,j2⟩,_⟩:=h1
        match vs,h6 with
        |[a,b],_=>
         have hij:i≠j:=by rw[List.nodup_cons]at h5;exact fun z=>h5.1 (by rw[z];exact List.mem_singleton.mpr rfl)
         exact gu (L2.ai o.ok.calm hN (by rw[o.ok.scp.hN];exact i1) (by rw[o.ok.scp.hN];exact j1) hij (by rw[o.esc];exact q1) (by rw[o.esc];exact q2) hes
          (pY o.bk (by rw[kind];exact q1) (by rw[kind];exact q2) q3 q4 h3 q5 q6) wg) fun σ H Q q=>q
       |[],h1,_=>exact absurd h1 (by simp[zr])
       |[_],h1,_=>exact absurd h1 (by simp[zr])
       |_::_::_::_,h1,_=>exact absurd h1 (by simp[zr])
     . rename_i x px y py z pz
       simp only[Bool.and_eq_true,decide_eq_true_eq,Bool.not_eq_true']at h7
       obtain⟨⟨⟨⟨⟨⟨⟨⟨⟨q1,q2⟩,q3⟩,q4⟩,q5⟩,q6⟩,q7⟩,q8⟩,q9⟩,q10⟩:=h7
       match is,h1,h5 with
       |[i,j,l],h1,h5=>
        simp only[zr,Bool.and_eq_true,decide_eq_true_eq,Bool.or_eq_true]at h1
        obtain⟨⟨i1,i2⟩,⟨j1,j2⟩,⟨l1,l2⟩,_⟩:=h1
        match vs,h6 with
        |[a,b,c],_=>
         simp only[List.nodup_cons,List.mem_cons,List.not_mem_nil,or_false,not_or]at h5
         exact gw (L2.fw o.ok.calm hN (by rw[o.ok.scp.hN];exact i1) (by rw[o.ok.scp.hN];exact j1) (by rw[o.ok.scp.hN];exact l1) h5.1.1 h5.1.2 h5.2.1 (by rw[o.esc];exact q1) (by rw[o.esc];exact q2) (by rw[o.esc];exact q3) hes
          (sV o.bk (by rw[kind];exact q1) (by rw[kind];exact q2) (by rw[kind];exact q3) q4 q5 q6 q7 q8 h3 q9 q10) wg) fun σ H Q q=>q
       |[],h1,_=>exact absurd h1 (by simp[zr])
       |[_],h1,_=>exact absurd h1 (by simp[zr])
       |[_,_],h1,_=>exact absurd h1 (by simp[zr])
       |_::_::_::_::_,h1,_=>exact absurd h1 (by simp[zr])
     . cases h7
   . have hun:(∃x p,Expr.Name x p∈ts∧X.env.kindOf x≠some .local)∨3<ts.length:=by
      unfold dm at h7
      simp only[Bool.or_eq_true,decide_eq_true_eq,List.any_eq_true]at h7
      rcases h7 with⟨e,hm,he⟩|h7
      . cases e with
        |Name x px=>
         simp only[decide_eq_true_eq]at he
         exact .inl ⟨x,px,hm,by rw[kind];exact he⟩
        |_=>cases he
      . exact .inr h7
     obtain⟨a,b,c⟩:=ym o.ok.scp h1
     have rule:=ny (t:=.nms is) (env:=env) (s:=s) xP (L2.oi (pos:=pos) (jB (k:=k2) (pos:=p2) hes) (L2.vK (k:=k) (pos:=p) o.ok.calm a b c) wg (lY hun)) fun σ H Q q=>q
     have e:((yd (zD T n) T.gl env es s).bind fun vs s1=>if vs.length=is.length then (.ok:Fl→Sto→Out Fl) (.nx ((is.zip vs).foldl (fun e p=>e.set p.1 (some p.2)) env)) s1 else .stuck)=(((yd (zD T n) T.gl env es s).bind fun vs s1=>if vs.length≤zR then (.ok:Val→Sto→Out Val) (.tup vs) s1 else .stuck).bind fun v s1=>match yO (.nms is) v env with|some env'=>(.ok:Fl→Sto→Out Fl) (.nx env') s1|Option.none=>.stuck):=by
      cases yd (zD T n) T.gl env es s with
      |ok ws s1=>
       simp only[zM]
       by_cases hl:ws.length=is.length
       . have hz:ws.length≤zR:=by rw[hl];exact Nat.le_trans h4 (by decide)
         simp only[if_pos hl,if_pos hz,zM,yO]
       . rw[if_neg hl]
         by_cases hz:ws.length≤zR
         . simp only[if_neg hl,if_pos hz,zM,yO]
         . simp only[if_neg hz,xn]
      |exc _ _ _=>rfl
      |stuck=>rfl
     show L2.PS X _ (tSt X.K X.mg env s ((yd (zD T n) T.gl env es s).bind fun vs s1=>if vs.length=is.length then .ok (.nx ((is.zip vs).foldl (fun e p=>e.set p.1 (some p.2)) env)) s1 else .stuck))
     rw[e]
     exact rule
 . cases h
theorem bI{i:Nat}{op:Bop}{e:Ex}:JS T n (.aug i op e):=by
 intro sc N X st o h env s
 simp only[ckS]at h
 split at h
 . rename_i x px o' v pos
   simp only[Bool.and_eq_true,decide_eq_true_eq,Bool.or_eq_true,Bool.not_eq_true',Bool.or_eq_false_iff,decide_eq_false_iff_not]at h
   obtain⟨⟨⟨⟨h1,h2⟩,rfl⟩,h3⟩,h4⟩:=h
   obtain⟨l1,l2⟩:=o.ok.scp.loc x h2
   exact bW (f:=evE (zD T n) T.gl env e) (by rintro (z|z|z|z);exact h4.1.1.1 z;exact h4.1.1.2 z;exact h4.1.2 z;exact h4.2 z) (by rw[o.ok.scp.hN];exact o.ok.scp.nd) (by rw[o.ok.scp.hN];exact h1) l1 l2 fun s=>jE T n e _ _ _ _ o.ok h3 env s
 . cases h
theorem kn{a i e:Ex}:JS T n (.setIx a i e):=by
 intro sc N X st o h env s
 simp only[ckS]at h
 split at h
 . simp only[Bool.and_eq_true]at h
   exact jF h.2 (jE T n e _ _ _ _ o.ok h.1.2 env s) (fun s1=>jE T n a _ _ _ _ o.ok h.1.1.1 env s1) fun s1=>jE T n i _ _ _ _ o.ok h.1.1.2 env s1
 . cases h
theorem Zq{c:Cn}{a b:Sms}(ja:JSs T n a)(jb:JSs T n b):JS T n (.ifS c a b):=by
 intro sc N X st o h env s
 simp only[ckS]at h
 split at h
 . simp only[Bool.and_eq_true]at h
   exact Zy (jC T n c _ _ _ _ o.ok h.1.1 env s) (pS fun env s=>ja _ _ _ _ o h.1.2 env s) (pS fun env s=>jb _ _ _ _ o h.2 env s) (fun s1 D σ H q=>⟨env,s1,q⟩) fun s1 D σ H q=>⟨env,s1,q⟩
 . cases h
theorem bJ{t:Tgt}{it:Itb}{b:Sms}(jb:JSs T n b):JS T n (.forS t it b):=by
 intro sc N X st o h env s
 simp only[ckS]at h
 split at h
 . simp only[Bool.and_eq_true]at h
   obtain⟨g,pg,tg⟩:=YW o.ok.scp o.ok.calm h.1.1.1
   exact bX o.ok.xe o.ok.calm h.2 (fun env s=>jI T n it _ _ _ _ _ o.ok h.1.1.2 env s) pg tg (pS fun env s=>jb _ _ _ _ o h.1.2 env s)
 . cases h
theorem kq{c:Cn}{b:Sms}(jb:JSs T n b):JS T n (.whileS c b):=by
 intro sc N X st o h env s
 simp only[ckS]at h
 split at h
 . simp only[Bool.and_eq_true]at h
   exact jG o.ok.xe (fun env s=>jC T n c _ _ _ _ o.ok h.1 env s) (pS fun env s=>jb _ _ _ _ o h.2 env s)
 . cases h
theorem gk{a i e:Ex}:JS T n (.setD a i e):=by
 intro sc N X st o h env s
 simp only[ckS]at h
 split at h
 . simp only[Bool.and_eq_true]at h
   exact gx o.ok.room h.2 (jE T n e _ _ _ _ o.ok h.1.2 env s) (fun s1=>jE T n a _ _ _ _ o.ok h.1.1.1 env s1) fun s1=>jE T n i _ _ _ _ o.ok h.1.1.2 env s1
 . cases h
theorem km{e:Ex}:JS T n (.raise e):=fun sc N X st o h env s=>zI (zC rfl)
theorem gm:JSs T n .nil:=by
 intro sc N X st o h env s
 simp only[sD]at h
 split at h
 . exact gy
 . cases h
theorem kr{c:Sm}{cs:Sms}(jc:JS T n c)(jcs:JSs T n cs):JSs T n (.cons c cs):=by
 intro sc N X st o h env s
 simp only[sD]at h
 split at h
 . simp only[Bool.and_eq_true]at h
   exact jH (f:=fun e s=>zi (zD T n) T.gl e cs s) (jc _ _ _ _ o h.1 env s) (pS fun env s=>jcs _ _ _ _ o h.2 env s) fun env s D σ H q=>⟨env,s,q⟩
 . cases h
end
section
variable (T:Tbl)(n:Nat)
mutual
theorem jS:∀a:Sm,JS T n a
 |.expr _=>gj
 |.ret _=>bL
 |.retN=>fun sc N X e o h=>by cases h
 |.asg _ _=>bH
 |.asgT _ _=>gi
 |.par _ _=>bK
 |.aug _ _ _=>bI
 |.setIx _ _ _=>kn
 |.setD _ _ _=>gk
 |.ifS _ a b=>Zq (jSs a) (jSs b)
 |.forS _ _ b=>bJ (jSs b)
 |.whileS _ b=>kq (jSs b)
 |.pass=>fun sc N X e o h=>by cases h
 |.brk=>fun sc N X e o h=>by cases h
 |.cont=>fun sc N X e o h=>by cases h
 |.raise _=>km
theorem jSs:∀a:Sms,JSs T n a
 |.nil=>gm
 |.cons c cs=>kr (jS c) (jSs cs)
end
end
end M
end
section
namespace M
open PySem
mutual
noncomputable def rM(n:Nat):Val→Bool
 |.ref i|.dref i=>decide (i<n)
 |.tup vs=>xX n vs
 |.lst vs=>xX n vs
 |.none|.bool _|.int _|.str _|.dct0|.ctup _|.scr _|.fn _|.ty _=>true
noncomputable def xX(n:Nat):List Val→Bool
 |[]=>true
 |v::vs=>rM n v&&xX n vs
end
mutual
theorem vf{n:Nat}{v:Val}(h:v.noRef=true):rM n v=true:=by
 cases v with
 |ref _=>cases h
 |dref _=>cases h
 |tup vs=>exact xh (vs:=vs) h
 |lst vs=>exact xh (vs:=vs) h
 |_=>rfl
theorem xh{n:Nat}{vs:List Val}(h:ze vs=true):xX n vs=true:=by
 cases vs with
 |nil=>rfl
 |cons v vs=>
  rw[ze,Bool.and_eq_true]at h
  rw[xX,vf h.1,xh h.2];rfl
end
section
variable {K:KF}{mg:Str→Option Value}
mutual
theorem RD.refs{ρ:Own}{H:L2.Hp}{v:Val}{x:L2.V}(q:RD K mg ρ H v x):rM ρ.o.length v=true:=by
 cases q with
 |tup _ _ r=>exact RDs.refs r
 |lst _ _ r=>exact RDs.refs r
 |ref e _=>exact decide_eq_true (List.getElem?_eq_some_iff.mp e).1
 |dref e _=>exact decide_eq_true (List.getElem?_eq_some_iff.mp e).1
 |_=>rfl
theorem RDs.refs{ρ:Own}{H:L2.Hp}{v:List Val}{x:List L2.V}(q:RDs K mg ρ H v x):xX ρ.o.length v=true:=by
 cases q with
 |nil=>rfl
 |cons r rs=>rw[xX,RD.refs r,RDs.refs rs];rfl
end
structure Cut(ρ ρ':Own):Prop where
 pre:∃new,ρ'.o=ρ.o++new
 hid:ρ'.h=ρ.h
theorem Cut.no{ρ ρ':Own}(c:Cut ρ ρ'){a:Addr}(n:ρ'.no a):ρ.no a:=by
 obtain⟨new,e⟩:=c.pre
 exact⟨fun h=>n.1 (by rw[e];exact List.mem_append_left _ h),by rw[←c.hid];exact n.2⟩
mutual
theorem RD.wu{ρ ρ':Own}{H:L2.Hp}(c:Cut ρ ρ'){v:Val}{x:L2.V}(q:RD K mg ρ' H v x)(h:rM ρ.o.length v=true):RD K mg ρ H v x:=by
 have at':∀{i:Nat} {a:Addr},ρ'.o[i]?=some a→decide (i<ρ.o.length)=true→ρ.o[i]?=some a:=fun{i a} e h=>by
  obtain⟨new,e'⟩:=c.pre
  rw[e',List.getElem?_append_left (of_decide_eq_true h)]at e
  exact e
 cases q with
 |none=>exact .none
 |bool b=>exact .bool b
 |int i=>exact .int i
 |str t=>exact .str t
 |tup n e r=>exact .tup (c.no n) e (RDs.wu c r h)
 |lst n e r=>exact .lst (c.no n) e (RDs.wu c r h)
 |dct0 n e=>exact .dct0 (c.no n) e
 |ctup g=>exact .ctup g
 |scr g=>
  refine .scr ?_
  rcases g with⟨n,g⟩|g
  . exact .inl ⟨c.no n,g⟩
  . exact .inr g
 |ref e k=>exact .ref (at' e h) k
 |dref e k=>exact .dref (at' e h) k
 |fn e=>exact .fn e
 |ty n=>exact .ty n
theorem RDs.wu{ρ ρ':Own}{H:L2.Hp}(c:Cut ρ ρ'){v:List Val}{x:List L2.V}(q:RDs K mg ρ' H v x)(h:xX ρ.o.length v=true):RDs K mg ρ H v x:=by
 cases q with
 |nil=>exact .nil
 |cons r rs=>
  rw[xX,Bool.and_eq_true]at h
  exact .cons (RD.wu c r h.1) (RDs.wu c rs h.2)
end
noncomputable def rk:Cel→List Val
 |.lst vs=>vs
 |.dS kvs=>kvs.map (·.2)
 |.dT kvs=>kvs.map (·.2)
theorem CR.vals{ρ:Own}{H:L2.Hp}{a:Addr}{c:Cel}(h:CR K mg ρ H a c):∃xs,RDs K mg ρ H (rk c) xs:=by
 cases c with
 |lst vs=>obtain⟨xs,_,r⟩:=h;exact⟨_,r⟩
 |dS kvs=>obtain⟨xs,_,_,r⟩:=h;exact⟨_,r⟩
 |dT kvs=>obtain⟨xs,_,_,r⟩:=h;exact⟨_,r⟩
theorem mQ{c:Cel}(h:c.noRef=true):ze (rk c)=true:=by cases c<;>exact h
theorem CR.wu{ρ ρ':Own}{H:L2.Hp}{a:Addr}(c:Cut ρ ρ'){o:Cel}(h:CR K mg ρ' H a o)(hb:xX ρ.o.length (rk o)=true):CR K mg ρ H a o:=by
 cases o with
 |lst vs=>obtain⟨xs,e,r⟩:=h;exact⟨xs,e,RDs.wu c r hb⟩
 |dS kvs=>obtain⟨xs,e,k,r⟩:=h;exact⟨xs,e,k,RDs.wu c r hb⟩
 |dT kvs=>obtain⟨xs,e,k,r⟩:=h;exact⟨xs,e,k,RDs.wu c r hb⟩
theorem qJ{α β:Type}:∀{a b:List (α × β)},a.map (·.1)=b.map (·.1)→a.map (·.2)=b.map (·.2)→a=b
 |[],[],_,_=>rfl
 |[],_::_,h,_=>by cases h
 |_::_,[],h,_=>by cases h
 |x::xs,y::ys,h1,h2=>by
  rw[List.map_cons,List.map_cons]at h1 h2
  injection h1 with a1 a2
  injection h2 with b1 b2
  rw[qJ a2 b2,Prod.ext a1 b1]
theorem pE:∀{s s':Sto} {i:Nat} {o':Cel},xD s s'=true→i<s.length→s'[i]?=some o'→o'.noRef=true∨s[i]?=some o'
 |[],_,_,_,_,h,_=>by cases h
 |o::r,[],_,_,h,_,_=>by cases h
 |o::r,o'::r',0,q,h,_,e=>by
  rw[xD,Bool.and_eq_true,Bool.or_eq_true]at h
  simp only[List.getElem?_cons_zero,Option.some.injEq]at e
  subst e
  rcases h.1 with z|z
  . exact .inl z
  . right
    cases o' with
    |lst a=>cases o with
     |lst b=>simp only[Cel.beq]at z;rw[vO z];rfl
     |_=>cases z
    |dS a=>cases o with
     |dS b=>simp only[Cel.beq,Bool.and_eq_true,decide_eq_true_eq]at z;rw[qJ z.1 (vO z.2)];rfl
     |_=>cases z
    |dT a=>cases o with
     |dT b=>simp only[Cel.beq,Bool.and_eq_true,decide_eq_true_eq]at z;rw[qJ z.1 (vO z.2)];rfl
     |_=>cases z
 |o::r,o'::r',i+1,q,h,hi,e=>by
  rw[xD,Bool.and_eq_true]at h
  have:=pE (i:=i) h.2 (by simpa using hi) (by simpa using e)
  simpa using this
noncomputable def ag:Val→Bool
 |.ref _|.dref _|.tup _=>false
 |.none|.bool _|.int _|.str _|.dct0|.ctup _|.scr _|.fn _|.ty _|.lst _=>true
theorem gS{n:Nat}{s:Sto}{k i:Nat}:xS n s k (.ref i)=if i<n then some (Val.ref i) else match s[i]? with
 |some (.lst vs)=>if ze vs then some (.lst vs) else Option.none
 |_=>Option.none:=by cases k<;>rfl
theorem kT{n:Nat}{s:Sto}{k i:Nat}:xS n s k (.dref i)=if i<n then some (Val.dref i) else Option.none:=by cases k<;>rfl
theorem kU{n:Nat}{s:Sto}{k:Nat}{v:Val}(h:ag v=true):xS n s k v=if v.noRef then some v else Option.none:=by
 cases v with
 |ref _=>cases h
 |dref _=>cases h
 |tup _=>cases h
 |_=>cases k<;>rfl
theorem gR{n:Nat}{s:Sto}{k:Nat}:vT n s k []=some []:=by cases k<;>rfl
mutual
theorem u4{ρ ρ':Own}{H:L2.Hp}{s:Sto}(c:Cut ρ ρ')(hr:HR K mg ρ' s H){k:Nat}{v v':Val}{x:L2.V}(r:RD K mg ρ' H v x)(h:xS ρ.o.length s k v=some v'):RD K mg ρ H v' x:=by
 have sv:∀{w:Val},RD K mg ρ' H w x→(if w.noRef then some w else Option.none)=some v'→RD K mg ρ H v' x:=fun{w} r h=>by
  split at h
  . rename_i hn;cases h;exact RD.wu c r (vf hn)
  . cases h
 cases v with
 |ref i=>
  rw[gS]at h
  cases r with
  |ref e hkd=>
   by_cases hi:i<ρ.o.length
   . rw[if_pos hi]at h
     cases h
     exact RD.wu c (.ref e hkd) (by rw[rM];exact decide_eq_true hi)
   . rw[if_neg hi]at h
     split at h
     . rename_i vs hs
       split at h
       . rename_i hn
         cases h
         obtain⟨a,xs,e1,e2,q⟩:=hr.obj i vs hs
         rw[e]at e1;cases e1
         obtain⟨new,e'⟩:=c.pre
         have hm:=List.mem_of_getElem? e
         refine .lst ⟨fun hm'=>?_,fun hh=>?_⟩ e2 (RDs.wu c q (xh hn))
         . obtain⟨j,hj,ej⟩:=List.getElem_of_mem hm'
           have ej':ρ'.o[j]?=ρ'.o[i]?:=by rw[e,e',List.getElem?_append_left hj,List.getElem?_eq_getElem hj,ej]
           have:=jV hr.nd e (ej'.trans e)
           exact hi (this▸hj)
         . exact(hr.hid _ (by rw[c.hid];exact hh)).2 hm
       . cases h
     . cases h
 |dref i=>
  rw[kT]at h
  split at h
  . rename_i hi
    cases h
    exact RD.wu c r (by rw[rM];exact decide_eq_true hi)
  . cases h
 |tup vs=>
  cases k with
  |zero=>exact sv r h
  |succ k=>
   rw[xS,Option.map_eq_some_iff]at h
   obtain⟨ws,h1,rfl⟩:=h
   cases r with
   |tup n e q=>exact .tup (c.no n) e (u0 c hr q h1)
 |_=>exact sv r ((kU rfl).symm.trans h)
theorem u0{ρ ρ':Own}{H:L2.Hp}{s:Sto}(c:Cut ρ ρ')(hr:HR K mg ρ' s H){k:Nat}{v v':List Val}{x:List L2.V}(r:RDs K mg ρ' H v x)(h:vT ρ.o.length s k v=some v'):RDs K mg ρ H v' x:=by
 cases r with
 |nil=>rw[gR]at h;cases h;exact .nil
 |@cons v _ vs _ r1 r2=>
  cases k with
  |zero=>cases h
  |succ k=>
   rw[vT]at h
   split at h
   . rename_i a b ha hb
     cases h
     refine .cons ?_ (u0 c hr r2 hb)
     by_cases hn:v.noRef=true
     . rw[if_pos hn]at ha;cases ha;exact RD.wu c r1 (vf hn)
     . rw[if_neg hn]at ha;exact u4 c hr r1 ha
   . cases h
end
theorem qr{F:Fn}{ρ ρ':Own}{H H':L2.Hp}{s s1:Sto}{v:Val}{x:L2.V}{Q:L2.VK}(h0:HR K mg ρ s H)(w:yC K mg (RD K mg) ρ H (leave F s v s1) Q)(X:Ext ρ H ρ' H')(hr:HR K mg ρ' s1 H')(r:RD K mg ρ' H' v x):Q x H':=by
 unfold leave at w
 by_cases hk:F.keep=true
 . rw[if_pos hk]at w;exact w ρ' x H' X hr r
 . rw[if_neg hk]at w
   by_cases ho:xD s s1=true
   . rw[if_pos ho]at w
     have c:Cut ρ ρ':=⟨by obtain⟨new,e,_⟩:=X.pre;exact⟨new,e⟩,X.hid⟩
     cases hf:freeze s.length s1 v with
     |none=>rw[hf]at w;exact w.elim
     |some v'=>
      rw[hf]at w
      have hlen:s.length≤s1.length:=by
       obtain⟨new,e,_⟩:=X.pre
       rw[←h0.len,←hr.len,e,List.length_append];omega
      refine w ρ x H' ⟨⟨[],by simp,fun a ha=>by cases ha⟩,rfl,X.keep,X.kd⟩ ⟨?_,h0.nd,fun i vs e=>?_,fun a ha=>?_⟩ ?_
      . rw[List.length_take,h0.len];omega
      . have hi:i<s.length:=by
         have:=(List.getElem?_eq_some_iff.mp e).1
         rw[List.length_take]at this;omega
        rw[List.getElem?_take_of_lt hi]at e
        obtain⟨a,e1,q⟩:=hr.cel i vs e
        have e3:ρ.o[i]?=some a:=by
         obtain⟨new,e',_⟩:=X.pre
         rw[e',List.getElem?_append_left (by rw[h0.len];exact hi)]at e1
         exact e1
        refine⟨a,e3,q.wu c ?_⟩
        rcases pE ho hi e with z|z
        . exact xh (mQ z)
        . obtain⟨b,_,q'⟩:=h0.cel i vs z
          obtain⟨xs,q2⟩:=q'.vals
          exact RDs.refs q2
      . obtain⟨z,n⟩:=hr.hid a (by rw[X.hid];exact ha)
        exact⟨z,(h0.hid a ha).2⟩
      . unfold freeze at hf
        by_cases hn:v.noRef=true
        . rw[if_pos hn]at hf;cases hf;exact RD.wu c r (vf hn)
        . rw[if_neg hn,←h0.len]at hf
          exact u4 c hr r hf
   . rw[if_neg ho]at w;exact w.elim
theorem ir{ρ:Own}{H:L2.Hp}{args:List Val}{vs:List L2.V}{N:List Str}(r:RDs K mg ρ H args vs):ER K mg ρ H (zH N args) (L2.start N vs):=by
 refine⟨by unfold zH L2.start;rw[List.length_append,List.length_append,List.length_map,List.length_map,List.length_replicate,List.length_replicate,r.length],fun i v e=>?_⟩
 unfold zH at e
 unfold L2.start
 by_cases hi:i<args.length
 . rw[List.getElem?_append_left (by simpa using hi),List.getElem?_map]at e
   rw[List.getElem?_append_left (by rw[List.length_map,←r.length];exact hi),List.getElem?_map]
   cases ha:args[i]? with
   |none=>rw[ha]at e;cases e
   |some a=>
    rw[ha]at e
    have:a=v:=Option.some.inj (Option.some.inj e)
    subst this
    obtain⟨x,h1,h2⟩:=r.get ha
    exact⟨x,by rw[h1];rfl,h2⟩
 . rw[List.getElem?_append_right (by simpa using hi),List.getElem?_replicate]at e
   split at e<;>cases e
end
noncomputable def argNames(a:Arguments):Option (List Str):=
 if a.posonlyargs.isEmpty&&a.vararg.isNone&&a.kwonlyargs.isEmpty&&a.kw_defaults.isEmpty&&a.kwarg.isNone&&a.defaults.isEmpty then some (a.args.map (·.arg)) else none
noncomputable def l8(st:Stmt)(F:Fn):Bool:=
 match st with
 |.FunctionDef _ args body _ _ _ sc _ _ _=>decide (argNames args=some F.ps)&&decide (sc.kind=.function)&&!sc.isCoroutine&&!sc.isGenerator&&decide F.N.Nodup&&decide (F.N.take F.ps.length=F.ps) &&
  F.ps.all (fun x=>decide (sc.names.lookup x=some .local)||decide (sc.names.lookup x=some .cell))&&sc.names.all (fun y=>decide (y.2≠.free))&&sD sc F.N F.body body
 |_=>false
theorem oI:∀{ps:List Str} {us:List Value},ps.Nodup→us.length=ps.length→ps.filterMap (fun n=>((ps.zip us).lookup n).map (n,·))=ps.zip us:=by
 have key:∀(ps qs:List Str) (us ws:List Value),(qs++ps).Nodup→us.length=ps.length→ws.length=qs.length→ps.filterMap (fun n=>(((qs++ps).zip (ws++us)).lookup n).map (n,·))=ps.zip us:=by
  intro ps
  induction ps with
  |nil=>intro qs us ws _ _ _;rfl
  |cons p ps ih=>
   intro qs us ws nd h1 h2
   cases us with
   |nil=>cases h1
   |cons u us=>
    have hl:((qs++p::ps).zip (ws++u::us)).lookup p=some u:=by
     rw[List.zip_append h2.symm]
     have:∀(qs:List Str) (ws:List Value),p ∉ qs→((qs.zip ws)++(p::ps).zip (u::us)).lookup p=some u:=by
      intro qs
      induction qs with
      |nil=>intro ws _;simp
      |cons q qs ih2=>
       intro ws hn
       cases ws with
       |nil=>simp
       |cons w ws=>
        have hpq:(p == q)=false:=by
         have:p≠q:=fun z=>hn (by rw[z];exact List.mem_cons_self)
         simpa using this
        rw[List.zip_cons_cons,List.cons_append,List.lookup_cons,hpq]
        exact ih2 ws fun z=>hn (List.mem_cons_of_mem _ z)
     refine this qs ws fun z=>?_
     rw[List.nodup_append]at nd
     exact nd.2.2 p z p List.mem_cons_self rfl
    rw[List.filterMap_cons,hl]
    have:=ih (qs++[p]) us (ws++[u]) (by simpa using nd) (by simpa using h1) (by simp[h2])
    rw[List.append_assoc,List.append_assoc]at this
    exact congrArg ((p,u)::·) this
 intro ps us nd h
 simpa using key ps [] us [] (by simpa using nd) h rfl
theorem lookup_some:∀{ps:List Str} {us:List Value},us.length=ps.length→∀n∈ps,((ps.zip us).lookup n).isNone=false
 |[],_,_,n,h=>by cases h
 |p::ps,[],h,_,_=>by cases h
 |p::ps,u::us,h,n,hn=>by
  rw[List.zip_cons_cons,List.lookup_cons]
  cases hb:(n == p) with
  |true=>rfl
  |false=>
   have:n≠p:=by simpa using hb
   rcases List.mem_cons.mp hn with z|z
   . exact absurd z this
   . exact lookup_some (by simpa using h) n z
theorem qZ{x qual:Str}{a:Arguments}{body:List Stmt}{sc:Scope}{kV doc pm cdv ct:Value}{an:Option Addr}{ps:List Str}(h:argNames a=some ps)(nd:ps.Nodup)(us:List Value)(hl:us.length=ps.length) :
 bindArgs (PySem.W.fnOf x qual a body sc .none kV doc pm an cdv ct) ⟨us,[]⟩=pure (ps.zip us):=by
 unfold argNames at h
 split at h
 . rename_i hc
   simp only[Bool.and_eq_true,List.isEmpty_iff,Option.isNone_iff_eq_none]at hc
   obtain⟨⟨⟨⟨⟨h1,h2⟩,h3⟩,h4⟩,h5⟩,h6⟩:=hc
   cases h
   obtain⟨po,ar,va,ko,kd,kw,df⟩:=a
   simp only at h1 h2 h3 h4 h5 h6 hl nd ⊢
   subst h1 h2 h3 h4 h5 h6
   have hm:((ar.map (·.arg)).take ((ar.map (·.arg)).length-0)).filter (fun n=>(((ar.map (·.arg)).zip us).lookup n).isNone)=[]:=by
    rw[List.filter_eq_nil_iff]
    intro n hn
    rw[lookup_some hl n (List.mem_of_mem_take hn)]
    decide
   unfold bindArgs
   have hd:seqItems? Value.none=pure none:=rfl
   have hg:¬(us.length > (ar.map (·.arg)).length∧True):=by rintro ⟨z,_⟩;omega
   simp only[PySem.W.fnOf,List.map_nil,List.nil_append,List.append_nil,List.forIn_nil,pure_bind,hd,Option.getD_none,List.toList_toArray,List.length_nil,List.drop_nil,Nat.sub_zero,Option.isNone_none,Bool.and_true]
   rw[if_neg (by rw[List.length_map]at hl;simp;omega)]
   have hm':(List.filter (fun n=>(List.lookup n ((List.map (fun x=>x.arg) ar).zip us)).isNone) (List.take (List.map (fun x=>x.arg) ar).length (List.map (fun x=>x.arg) ar)))=[]:=hm
   rw[hm',if_neg (by decide),List.zip_nil_right,List.forIn_nil,pure_bind,if_neg (by decide),oI nd hl]
 . cases h
def qU(K:KF)(x:Str)(st:Stmt):Prop:=∃f fd,PySem.W.nsIn K mainGlobals x=some (some (.ref f))∧L2.Fun K x x st f fd
theorem cJ{K:KF}{x:Str}{st:Stmt}{f:Addr}{oc:Value}{od an:Option Addr}{osl:Array (Option Value)}{kV doc pm cdv ct:Value}(a:PySem.W.nsIn K mainGlobals x=some (some (.ref f)))
 (l:K.lookup f=some ⟨oc,od,.func (PySem.W.fnOf x x (L2.xr st) (L2.y4 st) (L2.zj st) .none kV doc pm an cdv ct),osl⟩) (c:PySem.W.codeIn K cdv x=true) (k:PySem.W.keepIn K (.ref f)=true):qU K x st:=
 ⟨f,_,a,L2.cV l c k⟩
section
variable {P:Program}{w:World}{K:KF}{mg:Str→Option Value}{base:Heap}{T:Tbl}
structure Top(T:Tbl)(K:KF)(mg:Str→Option Value):Prop where
 defs:∀f v F,T.fn f v=some F→∃st fa fd,mg f=some (.ref fa)∧L2.Fun K f f st fa fd∧l8 st F=true
 gls:∀x v,T.gl x=some v→∃u xv,mg x=some u∧L2.RelV xv u∧∀ρ H,RD K mg ρ H v xv
 blt:∀x∈xZ,mg x=none
theorem vE{st:Stmt}{F:Fn}(h:l8 st F=true):argNames (L2.xr st)=some F.ps∧L2.ub F.N F.ps (L2.zj st)∧sD (L2.zj st) F.N F.body (L2.y4 st)=true:=by
 unfold l8 at h
 split at h
 . simp only[Bool.and_eq_true,decide_eq_true_eq,Bool.not_eq_true',List.all_eq_true,Bool.or_eq_true]at h
   obtain⟨⟨⟨⟨⟨⟨⟨⟨h1,h2⟩,h3⟩,h4⟩,h5⟩,h6⟩,h7⟩,h8⟩,h9⟩:=h
   exact⟨h1,⟨h2,h3,h4,h5,h6,h7,h8⟩,h9⟩
 . cases h
theorem dC(top:Top T K mg):∀(n:Nat) (f:Str) (v:Nat) (F:Fn) (st:Stmt) (fa:Addr) (fd:FuncData),T.fn f v=some F→L2.Fun K f f st fa fd→l8 st F=true→L2.uU P w K mg base L2.CX0 n fa fd F.ps (spN T K mg n f v)
 |0,f,v,F,st,fa,fd,h,e2,e3=>by
  refine⟨fun vs H Q E q=>?_,fun A outer s H args us vs Q E _ _ _ _ q=>?_⟩
  . obtain⟨ρ,t,as,_,_,z⟩:=q;exact z.elim
  . obtain⟨ρ,t,as,_,_,z⟩:=q;exact z.elim
 |n+1,f,v,F,st,fa,fd,h,e2,e3=>by
  obtain⟨p1,p2,p3⟩:=vE e3
  have hcall:∀(vs:List Val) (s:Sto),zD T (n+1) f v vs s=run T (zD T n) F vs s:=fun vs s=>by simp only[zD,h]
  refine e2.ok p2 (fun vs H Q E q=>?_) fun cdv A outer s H vs Q E hr q=>?_
  . obtain⟨ρ,t,as,_,r,z⟩:=q
    rw[hcall]at z
    unfold run at z
    split at z
    . rename_i hl;rw[←r.length];exact hl
    . exact z.elim
  . obtain⟨ρ,t,as,h0,r,z⟩:=q
    rw[hcall]at z
    unfold run at z
    have hl:as.length=F.ps.length:=by
     by_cases hl:as.length=F.ps.length
     . exact hl
     . rw[if_neg hl]at z;exact z.elim
    rw[if_pos hl]at z
    have okf:OkF T n (L2.zj st) F.N (L2.p5 L2.CX0 P w K mg base F.N f (L2.zj st) fa cdv A outer s H E).nox:=by
     refine⟨⟨rfl,hr,⟨rfl,p2.nd,fun x hx=>hx,fun x hx=>⟨hx,.inl rfl⟩,fun x hx=>hx,fun x hx=>hx⟩,fun g v' G hg=>?_,top.gls,top.blt,rfl⟩,rfl,?_⟩
     . obtain⟨st2,ga,gd,q1,q2,q3⟩:=top.defs g v' G hg
       obtain⟨r1,r2,r3⟩:=vE q3
       have nd:G.ps.Nodup:=by rw[←r2.pre];exact r2.nd.sublist (List.take_sublist _ _)
       exact⟨ga,gd,q1,q2.kp,q2.binds fun kV doc pm an cdv ct us hl=>qZ r1 nd us hl,dC top n g v' G st2 ga gd hg q2 q3⟩
     . show (if (L2.zj st).kind.isAnnotationScope then ScopeKind.function else (L2.zj st).kind)=.function
       rw[p2.kind];rfl
    refine⟨_,jSs T n F.body (L2.zj st) F.N _ (L2.y4 st) okf p3 (zH F.N as) t,ρ,h0,ir r,?_⟩
    show um K mg ρ H (zi (zD T n) T.gl (zH F.N as) F.body t) _
    cases hx:zi (zD T n) T.gl (zH F.N as) F.body t with
    |ok fl s1=>
     rw[hx]at z
     cases fl with
     |nx e=>exact fun ρ1 H1 σ1 x1 hr1 er1=>qr h0 z x1 hr1 .none
     |rt v'=>exact fun ρ1 H1 x x1 hr1 r1=>qr h0 z x1 hr1 r1
     |bk e=>exact z.elim
     |ct e=>exact z.elim
    |exc _ _ _=>rw[hx]at z;exact z.elim
    |stuck=>rw[hx]at z;exact z.elim
end
end M
end
section
namespace M
open PySem Hd
noncomputable def mL(K:KF)(x:Str):Val→Prop
 |.int i=>∃t,PySem.W.nsIn K mainGlobals x=some (some (.int i t))
 |.str y=>∃t,PySem.W.nsIn K mainGlobals x=some (some (.str y t))
 |.ctup ns=>∃a,PySem.W.nsIn K mainGlobals x=some (some (.ref a))∧KT K a (ns.map L2.V.int)
 |_=>False
noncomputable def tbl(fnL:List ((Str × Nat) × Fn))(glL:List (Str × Val)):Tbl:=⟨fun f v=>fnL.lookup (f,v),fun x=>glL.lookup x⟩
noncomputable def mH(fnL:List ((Str × Nat) × Fn))(D:List (Str × Stmt)):Bool:=fnL.all fun p=>match D.lookup p.1.1 with|some st=>l8 st p.2|none=>false
theorem tH{α β:Type} [BEq α] [LawfulBEq α]:∀{l:List (α × β)} {a:α} {b:β},l.lookup a=some b→(a,b)∈l
 |[],_,_,h=>by cases h
 |(c,d)::l,a,b,h=>by
  rw[List.lookup_cons]at h
  cases hb:(a == c) with
  |true=>rw[hb]at h;cases h;rw[eq_of_beq hb];exact List.mem_cons_self
  |false=>rw[hb]at h;exact List.mem_cons_of_mem _ (tH h)
theorem ZD{K:KF}{mg:Str→Option Value}{h:Heap}{fnL:List ((Str × Nat) × Fn)}{glL:List (Str × Val)}{D:List (Str × Stmt)}(X:K.In h)(G:h.Ns mainGlobals mg)(hd:∀p∈D,qU K p.1 p.2)(hg:∀p∈glL,mL K p.1 p.2)(hb:∀x∈xZ,PySem.W.nsIn K mainGlobals x=some none)
 (hc:mH fnL D=true):Top (tbl fnL glL) K mg:=by
 refine⟨fun f v F e=>?_,fun x v e=>?_,fun x hx=>PySem.W.mg_none_of X G (hb x hx)⟩
 . have hm:((f,v),F)∈fnL:=tH e
   unfold mH at hc
   rw[List.all_eq_true]at hc
   have h1:=hc _ hm
   split at h1
   . rename_i st hs
     obtain⟨fa,fd,a,F'⟩:=hd _ (tH hs)
     exact⟨st,fa,fd,PySem.W.mg_of X G a,F',h1⟩
   . cases h1
 . have hm:(x,v)∈glL:=tH e
   have h1:=hg _ hm
   cases v with
   |int i=>
    obtain⟨t,a⟩:=h1
    exact⟨_,.int i,PySem.W.mg_of X G a,⟨t,rfl⟩,fun ρ H=>.int i⟩
   |str y=>
    obtain⟨t,a⟩:=h1
    exact⟨_,.str y,PySem.W.mg_of X G a,⟨t,rfl⟩,fun ρ H=>.str y⟩
   |ctup ns=>
    obtain⟨a,h2,h3⟩:=h1
    exact⟨_,.ref a,PySem.W.mg_of X G h2,rfl,fun ρ H=>.ctup h3⟩
   |_=>exact h1.elim
theorem int_mk{K:KF}{x:Str}{i:Int}{t:Tok}(a:PySem.W.nsIn K mainGlobals x=some (some (.int i t))):mL K x (.int i):=⟨t,a⟩
theorem str_mk{K:KF}{x y:Str}{t:Tok}(a:PySem.W.nsIn K mainGlobals x=some (some (.str y t))):mL K x (.str y):=⟨t,a⟩
theorem u7:∀{us:List Value} {ns:List Int},qk us=some ns→L2.Vals (ns.map L2.V.int) us
 |[],_,h=>by cases h;exact .nil
 |u::us,ns,h=>by
  cases u with
  |int i t=>
   simp only[qk,Option.map_eq_some_iff]at h
   obtain⟨ms,h1,rfl⟩:=h
   exact .cons ⟨t,rfl⟩ (u7 h1)
  |_=>cases h
theorem gL{K:KF}{x:Str}{a:Addr}{od:Option Addr}{us:List Value}{n:Nat}{sl:Array (Option Value)}{ns:List Int}(h:PySem.W.nsIn K mainGlobals x=some (some (.ref a)))
 (l:K.lookup a=some ⟨.type "tuple",od,.seq us.toArray n,sl⟩) (hz:us.length≤1000) (hi:qk us=some ns):mL K x (.ctup ns):=
 ⟨a,h,_,us.toArray,n,l,rfl,rfl,by rw[List.size_toArray,sizeLine_eq];omega,by simpa using u7 hi⟩
noncomputable def Yn(K:KF):L2.Sp:=fun vs H Q _=>∃(a:Addr) (ns:List Int),vs=[.ref a]∧L2.SqL K H a (ns.map L2.V.int)∧ns.length≤63∧∀H',Q (.bl true) H'
theorem walk{l:PySem.W.OpenLaw}{q:Program}{loose:List Str}{XP:(Str→Option Value)→Heap→Prop}{YP:World→Heap→Prop}{d:DefRec}{K:Params→KF}{T:Tbl}{F:Fn}{n:Nat}{x:Str}(hn:l.most=some 63)(hdf:d.params.defaults=[])(hr:L2.yn n callerA)
 (hY:∀(w:World) (h:Heap),YP w h→(K w.params).In h) (hF:T.fn d.name 0=some F) (hx:F.ps=[x])
 (TOP:∀(w:World) (mg:Str→Option Value) (h:Heap),(K w.params).In h→h.Ns mainGlobals mg→Top T (K w.params) mg)
 (HL:∀ns:List Int,ns.length≤63→∃s',zD T n d.name 0 [.scr ns] []=.ok (.bool true) s') :
 PySem.W.WalkO q loose XP YP l.row.toRowW d [] (fun f vs=>PySem.call f vs):=by
 refine L2.eX (n:=63) (k:=n) (x:=x) (CX:=fun _=>L2.CX0) (sp:=fun w=>Yn (K w.params)) hn (by decide) hdf hr hY (fun w mg fa h KX G hmg=>?_) (fun _ _ a ns hl _ hS=>⟨a,ns,rfl,hS,hl,fun _=>rfl⟩) fun _ _ _ _ _ z=>z
 have top:=TOP w mg h KX G
 obtain⟨st,fa',fd',e1,e2,e3⟩:=top.defs _ _ _ hF
 obtain⟨p1,p2,p3⟩:=vE e3
 have nd:F.ps.Nodup:=by rw[←p2.pre];exact p2.nd.sublist (List.take_sublist _ _)
 rw[e1]at hmg
 cases hmg
 refine⟨fd',fun s u=>?_,fun base kb nb=>?_⟩
 . obtain⟨oc,od,kV,doc,pm,an,cdv,ct,osl,e,_⟩:=e2.ex
   subst e
   refine .of_eq ?_
   have:=qZ (x:=d.name) (qual:=d.name) (body:=L2.y4 st) (sc:=L2.zj st) (kV:=kV) (doc:=doc) (pm:=pm) (cdv:=cdv) (ct:=ct) (an:=an) p1 nd [u] (by rw[hx];rfl)
   rw[hx]at this
   exact this
 . have f4:=dC (P:=l.prog) (w:=w) (base:=base) top n d.name 0 F st _ fd' hF e2 e3
   rw[hx]at f4
   refine f4.imp fun vs H Q E ⟨a,ns,e,hS,hl,hq⟩=>?_
   subst e
   obtain⟨s',hs⟩:=HL ns hl
   refine⟨⟨[],[]⟩,[],[.scr ns],⟨rfl,List.nodup_nil,fun i vs z=>by simp at z,fun a z=>by cases z⟩,.cons (.scr ?_) .nil,?_⟩
   . rcases hS with hS|hS
     . exact .inl ⟨⟨by simp,by simp⟩,hS⟩
     . exact .inr hS
   . rw[hs]
     intro ρ' x' H' _ _ r
     cases r
     exact hq H'
end M
end
section
namespace F
open PySem M
noncomputable def zq:Fn:=⟨["_law_script","_law_k"],["_law_script","_law_k"],false,(.cons (.ifS (.val (.cmp .lt (.var 1) (.blt .len false (.cons (.var 0) .nil)))) (.cons (.ret (.ix (.var 0) (.var 1))) .nil) .nil) (.cons (.ret (.lit (.int 0))) .nil))⟩
noncomputable def yg:Fn:=⟨["_law_pen_here","_law_many","_law_left","_law_found","_law_mixed"],["_law_pen_here","_law_many"],false,(.cons (.ifS (.val (.cmp .gt (.ix (.var 0) (.lit (.int 0))) (.lit (.int 0)))) (.cons (.asgT [2,3] (.blt .divmod false (.cons (.ix (.var 0) (.lit (.int 0))) (.cons (.var 1) .nil)))) (.cons (.setIx (.var 0) (.lit (.int 0)) (.var 2)) (.cons (.ret (.var 3)) .nil))) .nil) (.cons (.setIx (.var 0) (.lit (.int 1)) (.bin false .mod (.bin false .add (.bin false .mul (.ix (.var 0) (.lit (.int 1))) (.lit (.int 48271))) (.lit (.int 30269))) (.lit (.int 2147483629)))) (.cons (.asg 4 (.bin false .mod (.bin false .add (.bin false .add (.bin false .mul (.ix (.var 0) (.lit (.int 1))) (.ix (.var 0) (.lit (.int 1)))) (.bin false .mul (.lit (.int 40692)) (.ix (.var 0) (.lit (.int 1))))) (.lit (.int 7))) (.lit (.int 2147483587)))) (.cons (.ret (.bin false .mod (.bin false .fdiv (.var 4) (.lit (.int 64))) (.var 1))) .nil))))⟩
noncomputable def yD:Fn:=⟨["_law_cell","_law_left"],["_law_cell"],true,(.cons (.asg 1 (.blt .max false (.cons (.var 0) (.cons (.bin false .sub (.lit (.int 0)) (.var 0)) .nil)))) (.cons (.ret (.lst true (.cons (.bin false .mul (.var 1) (.blt .int false (.cons (.cmp .ge (.var 1) (.bin false .pow (.lit (.int 10)) (.lit (.int 18)))) .nil))) (.cons (.bin false .mod (.var 1) (.lit (.int 2147483629))) .nil)))) .nil))⟩
noncomputable def yh:Fn:=⟨["thing"],["thing"],false,(.cons (.ret (.andE (.blt .isi false (.cons (.var 0) (.cons (.ty "tuple" "tuple") .nil))) (.cons (.chain .le .le (.lit (.int 1)) (.blt .len false (.cons (.var 0) .nil)) (.blt .len false (.cons (.gl "HUES") .nil))) (.cons (.call "are_wholes" 0 (.cons (.var 0) (.cons (.gl "LEAST_SIZE") (.cons (.gl "MOST_SIZE") .nil)))) .nil)))) .nil)⟩
noncomputable def yU:Fn:=⟨["things","least","most"],["things","least","most"],false,(.cons (.ret (.blt .all false (.cons (.comp false ["thing","least","most"] [none,some 1,some 2] (.call "is_whole" 0 (.cons (.var 0) (.cons (.var 1) (.cons (.var 2) .nil)))) (.nm 0) (.val (.var 0)) .nil) .nil))) .nil)⟩
noncomputable def yV:Fn:=⟨["hues","first","step","size"],["hues","first","step","size"],false,(.cons (.ret (.cmp .eq (.zy .count false (.sl false (.var 0) (.yes (.var 1)) (.yes (.bin false .add (.var 1) (.bin false .mul (.var 2) (.var 3)))) (.yes (.var 2))) (.cons (.ix (.var 0) (.var 1)) .nil)) (.var 3))) .nil)⟩
noncomputable def yy:Fn:=⟨["thing","least","most"],["thing","least","most"],false,(.cons (.ret (.andE (.blt .isi false (.cons (.var 0) (.cons (.ty "int" "int") .nil))) (.cons (.not (.blt .isi false (.cons (.var 0) (.cons (.ty "bool" "bool") .nil)))) (.cons (.chain .le .le (.var 1) (.var 0) (.var 2)) .nil)))) .nil)⟩
noncomputable def yj:Fn:=⟨["length","first","size"],["length","first","size"],false,(.cons (.ret (.bin false .fdiv (.bin false .sub (.bin false .sub (.var 0) (.lit (.int 1))) (.var 1)) (.bin false .sub (.var 2) (.lit (.int 1))))) .nil)⟩
noncomputable def yJ:Fn:=⟨["thing"],["thing"],false,(.cons (.expr (.call "need_whole" 0 (.cons (.var 0) (.cons (.lit (.int 0)) (.cons (.gl "MOST_PLACES") .nil))))) .nil)⟩
noncomputable def yY:Fn:=⟨["thing"],["thing"],false,(.cons (.ifS (.not (.val (.call "are_sizes" 0 (.cons (.var 0) .nil)))) (.cons (.raise (.lit .none)) .nil) .nil) .nil)⟩
noncomputable def ya:Fn:=⟨["thing","least","most"],["thing","least","most"],false,(.cons (.ifS (.not (.val (.call "is_whole" 0 (.cons (.var 0) (.cons (.var 1) (.cons (.var 2) .nil)))))) (.cons (.raise (.lit .none)) .nil) .nil) .nil)⟩
end F
end
section
namespace M
open PySem L2
noncomputable def vJ(ns:List Int)(f d s:Nat):Bool:=(List.range s).all fun k=>decide (ns[f+k*d]?=ns[f]?)
theorem nV{n f d s:Nat}(hd:0<d)(hs:1≤s)(h:f+d*(s-1)<n):zu n (some (f:Int)) (some ((f:Int)+(d:Int)*(s:Int))) (d:Int)=((f:Int),s):=by
 have hmul:d*s=d*(s-1)+d:=by rw[←Nat.mul_succ];congr 1;omega
 have e0:(d:Int)*(s:Int)=((d*s:Nat):Int):=(Int.natCast_mul d s).symm
 have e1:Builtin.Slice.sliceAdjust (some (f:Int)) (some ((f:Int)+(d:Int)*(s:Int))) (d:Int) (n:Int)=((f:Int),((min (f+d*s) n:Nat):Int)):=by
  rw[e0]
  unfold Builtin.Slice.sliceAdjust
  simp only[if_neg (show ¬(d:Int)<0 by omega),if_neg (show ¬(f:Int)<0 by omega),if_neg (show ¬((f:Int)+((d*s:Nat):Int))<0 by omega)]
  refine Prod.ext ?_ ?_
  . show min (f:Int) (n:Int)=f;omega
  . show min ((f:Int)+((d*s:Nat):Int)) (n:Int)=_;omega
 unfold zu
 rw[e1]
 refine Prod.ext rfl ?_
 show Builtin.Slice.slicePlaces (f:Int) ((min (f+d*s) n:Nat):Int) (d:Int)=s
 unfold Builtin.Slice.slicePlaces
 rw[if_pos (by omega),if_pos (by omega)]
 have e2:(((min (f+d*s) n:Nat):Int)-(f:Int)-1)=((min (f+d*s) n-f-1:Nat):Int):=by omega
 rw[e2,←Int.natCast_ediv]
 have e3:(min (f+d*s) n-f-1)/d=s-1:=by
  refine Nat.div_eq_of_lt_le ?_ ?_
  . rw[Nat.mul_comm];omega
  . have:(s-1+1)*d=d*s:=by rw[show s-1+1=s by omega,Nat.mul_comm]
    omega
 rw[e3];omega
theorem p9{α β:Type}{f:α→Option β}{g:α→β}:∀{l:List α},(∀x∈l,f x=some (g x))→l.filterMap f=l.map g
 |[],_=>rfl
 |x::l,h=>by rw[List.filterMap_cons,h x (List.mem_cons_self ..),List.map_cons,p9 fun y hy=>h y (List.mem_cons_of_mem _ hy)]
theorem pO{ns:List Int}{f d s:Nat}(h:f+d*(s-1)<ns.length):zW ns (f:Int) (d:Int) s=(List.range s).map fun k=>ns.getD (f+k*d) 0:=by
 unfold zW
 refine p9 fun k hk=>?_
 rw[List.mem_range]at hk
 have h1:k*d≤d*(s-1):=by rw[Nat.mul_comm];exact Nat.mul_le_mul_left d (by omega)
 have e:((f:Int)+(k:Int)*(d:Int)).toNat=f+k*d:=by
  rw[show (k:Int)*(d:Int)=((k*d:Nat):Int) from (Int.natCast_mul k d).symm];omega
 have hlt:f+k*d<ns.length:=by omega
 rw[e,List.getElem?_eq_getElem hlt]
 rw[List.getD_eq_getElem?_getD,List.getElem?_eq_getElem hlt];rfl
theorem fD{ns:List Int}{f d s:Nat}(h:f+d*(s-1)<ns.length):vJ ns f d s=true↔∀x∈(List.range s).map (fun k=>ns.getD (f+k*d) 0),x=ns.getD f 0:=by
 unfold vJ
 rw[List.all_eq_true]
 constructor
 . intro h1 x hx
   obtain⟨k,hk,rfl⟩:=List.mem_map.mp hx
   have:=of_decide_eq_true (h1 k hk)
   rw[List.getD_eq_getElem?_getD,this,←List.getD_eq_getElem?_getD]
 . intro h1 k hk
   have:=h1 _ (List.mem_map.mpr ⟨k,hk,rfl⟩)
   rw[List.mem_range]at hk
   have h2:k*d≤d*(s-1):=by rw[Nat.mul_comm];exact Nat.mul_le_mul_left d (by omega)
   have hlt:f+k*d<ns.length:=by omega
   have hf:f<ns.length:=by omega
   rw[List.getD_eq_getElem?_getD,List.getD_eq_getElem?_getD,List.getElem?_eq_getElem hlt,List.getElem?_eq_getElem hf]at this
   refine decide_eq_true ?_
   rw[List.getElem?_eq_getElem hlt,List.getElem?_eq_getElem hf]
   exact congrArg some this
def Sz(zs:List Int):Prop:=1≤zs.length∧zs.length≤4∧∀x∈zs,2≤x∧x≤8
noncomputable def zd(zs:List Int)(h:Nat):Nat:=(zs.getD h 0).toNat
theorem xj{zs:List Int}(hz:Sz zs){h:Nat}(hh:h<zs.length):zs[h]?=some ((zd zs h:Nat):Int)∧2≤zd zs h∧zd zs h≤8:=by
 have e:zs.getD h 0=zs[h]:=by rw[List.getD_eq_getElem?_getD,List.getElem?_eq_getElem hh];rfl
 have:=hz.2.2 zs[h] (List.getElem_mem hh)
 unfold zd
 rw[e,List.getElem?_eq_getElem hh]
 refine⟨?_,by omega,by omega⟩
 congr 1;omega
end M
end
section
namespace M
open PySem
def Out.post{α:Type}(o:Out α)(P:α→Sto→Prop):Prop:=∃a s,o=.ok a s∧P a s
theorem zA{α:Type}{a:α}{s:Sto}{P:α→Sto→Prop}:(Out.ok a s).post P↔P a s:=
 ⟨fun⟨_,_,e,h⟩=>(by cases e;exact h),fun h=>⟨a,s,rfl,h⟩⟩
theorem zF{α β:Type}{o:Out α}{f:α→Sto→Out β}{P:β→Sto→Prop}:(o.bind f).post P↔o.post fun a s=>(f a s).post P:=by
 cases o with
 |ok a s=>exact(zA (P:=fun a s=>(f a s).post P)).symm
 |exc c as s=>exact⟨fun⟨_,_,e,_⟩=>(by cases e),fun⟨_,_,e,_⟩=>(by cases e)⟩
 |stuck=>exact⟨fun⟨_,_,e,_⟩=>(by cases e),fun⟨_,_,e,_⟩=>(by cases e)⟩
theorem zN{α:Type}{o:Out α}{P Q:α→Sto→Prop}(h:o.post P)(i:∀a s,P a s→Q a s):o.post Q:=by
 obtain⟨a,s,e,h⟩:=h
 exact⟨a,s,e,i a s h⟩
theorem zh{α:Type}{o:Out α}{P Q:α→Sto→Prop}(h:∀a s,P a s↔Q a s):o.post P↔o.post Q:=⟨fun k=>zN k fun a s=>(h a s).mp,fun k=>zN k fun a s=>(h a s).mpr⟩
theorem zU{α:Type}{P:α→Sto→Prop}:(Out.stuck:Out α).post P↔False:=⟨fun⟨_,_,e,_⟩=>(by cases e),False.elim⟩
theorem yr{α:Type}{c:Prop} [Decidable c] {a b:Out α}{P:α→Sto→Prop}:(if c then a else b).post P↔if c then a.post P else b.post P:=by split<;>exact Iff.rfl
theorem post_eq{α:Type}{o:Out α}{a:α}{s:Sto}:o=.ok a s↔o.post fun x t=>x=a∧t=s:=⟨fun h=>⟨a,s,h,rfl,rfl⟩,fun⟨_,_,h,e1,e2⟩=>(by rw[h,e1,e2])⟩
section
variable {Φ:Calls}{G:Str→Option Val}{env:Env}{s:Sto}
theorem dN{v:Val}{P:Val→Sto→Prop}:(evE Φ G env (.lit v) s).post P↔P v s:=zA
theorem n6{i:Nat}{P:Val→Sto→Prop}:(evE Φ G env (.var i) s).post P↔∃v,env[i]?=some (some v)∧P v s:=by
 show (match env[i]? with|some (some v)=>Out.ok v s|_=>.stuck).post P↔_
 split
 . rename_i v e
   refine zA.trans ⟨fun h=>⟨_,e,h⟩,fun⟨u,h1,h2⟩=>?_⟩
   rw[e]at h1;cases h1;exact h2
 . rename_i hn
   exact⟨fun⟨_,_,e,_⟩=>(by cases e),fun⟨u,h1,h2⟩=>absurd h1 (hn u)⟩
theorem YE{x:Str}{P:Val→Sto→Prop}:(evE Φ G env (.gl x) s).post P↔∃v,G x=some v∧P v s:=by
 show (match G x with|some v=>Out.ok v s|Option.none=>.stuck).post P↔_
 split
 . rename_i v e
   refine zA.trans ⟨fun h=>⟨_,e,h⟩,fun⟨u,h1,h2⟩=>?_⟩
   rw[e]at h1;cases h1;exact h2
 . rename_i e
   exact⟨fun⟨_,_,e,_⟩=>(by cases e),fun⟨u,h1,h2⟩=>(by rw[e]at h1;cases h1)⟩
theorem XM{x:Str}{n:String}{P:Val→Sto→Prop}:(evE Φ G env (.ty x n) s).post P↔P (.ty n) s:=zA
theorem dJ{m:Bool}{op:Bop}{a b:Ex}{P:Val→Sto→Prop}:(evE Φ G env (.bin m op a b) s).post P↔(evE Φ G env a s).post fun x s1=>(evE Φ G env b s1).post fun y s2=>(binOp m op x y s2).post P:=by
 show (Out.bind _ _).post P↔_
 simp only[zF]
theorem YI{a:Ex}{P:Val→Sto→Prop}:(evE Φ G env (.neg a) s).post P↔(evE Φ G env a s).post fun x s1=>∃i,x=.int i∧P (.int (-i)) s1:=by
 show (Out.bind _ _).post P↔_
 simp only[zF]
 exact zh fun x s1=>by cases x<;>simp[zA,zU]
theorem YJ{a:Ex}{P:Val→Sto→Prop}:(evE Φ G env (.not a) s).post P↔(evE Φ G env a s).post fun x s1=>∃b,x=.bool b∧P (.bool !b) s1:=by
 show (Out.bind _ _).post P↔_
 simp only[zF]
 exact zh fun x s1=>by cases x<;>simp[zA,zU]
theorem YC{op:Cop}{a b:Ex}{P:Val→Sto→Prop}:(evE Φ G env (.cmp op a b) s).post P↔(evE Φ G env a s).post fun x s1=>(evE Φ G env b s1).post fun y s2=>(zS op x y s2).post P:=by
 show (Out.bind _ _).post P↔_
 simp only[zF]
theorem fN{op op':Cop}{a b c:Ex}{P:Val→Sto→Prop}:(evE Φ G env (.chain op op' a b c) s).post P↔(evE Φ G env a s).post fun x s1=>(evE Φ G env b s1).post fun y s2=>(zS op x y s2).post fun r s3=>∃t,r=.bool t∧if t=true then (evE Φ G env c s3).post fun z s4=>(zS op' y z s4).post P else P (.bool false) s3:=by
 show (Out.bind _ _).post P↔_
 simp only[zF]
 refine zh fun x s1=>zh fun y s2=>zh fun r s3=>?_
 cases r with
 |bool t=>cases t<;>simp[zA,zU,zF]
 |_=>simp[zU]
theorem YA{a b:Ex}{es:Exs}{P:Val→Sto→Prop}:(evE Φ G env (.andE a (.cons b es)) s).post P↔(evE Φ G env a s).post fun x s1=>∃t,x=.bool t∧if t=true then (uN Φ G env (.cons b es) s1).post P else P (.bool false) s1:=by
 show (Out.bind _ _).post P↔_
 simp only[zF]
 refine zh fun x s1=>?_
 cases x with
 |bool t=>cases t<;>simp[zA,zU]
 |_=>simp[zU]
theorem aI{a:Ex}{P:Val→Sto→Prop}:(uN Φ G env (.cons a .nil) s).post P↔(evE Φ G env a s).post P:=Iff.rfl
theorem aJ{a b:Ex}{es:Exs}{P:Val→Sto→Prop}:(uN Φ G env (.cons a (.cons b es)) s).post P↔(evE Φ G env a s).post fun x s1=>∃t,x=.bool t∧if t=true then (uN Φ G env (.cons b es) s1).post P else P (.bool false) s1:=by
 show ((evE Φ G env a s).bind fun x s1=>match x with
  |.bool true=>uN Φ G env (.cons b es) s1
  |.bool false=>.ok (.bool false) s1
  |_=>.stuck).post P↔_
 simp only[zF]
 refine zh fun x s1=>?_
 cases x with
 |bool t=>cases t<;>simp[zA,zU]
 |_=>simp[zU]
theorem XI{a b:Ex}{es:Exs}{P:Val→Sto→Prop}:(evE Φ G env (.orE a (.cons b es)) s).post P↔(evE Φ G env a s).post fun x s1=>∃t,truth s1 x=some t∧if t=true then P x s1 else (qh Φ G env (.cons b es) s1).post P:=by
 show (Out.bind _ _).post P↔_
 simp only[zF]
 refine zh fun x s1=>?_
 cases truth s1 x with
 |some t=>cases t<;>simp[zA,zU]
 |none=>simp[zU]
theorem YK{a:Ex}{P:Val→Sto→Prop}:(qh Φ G env (.cons a .nil) s).post P↔(evE Φ G env a s).post P:=Iff.rfl
theorem YL{a b:Ex}{es:Exs}{P:Val→Sto→Prop}:(qh Φ G env (.cons a (.cons b es)) s).post P↔(evE Φ G env a s).post fun x s1=>∃t,truth s1 x=some t∧if t=true then P x s1 else (qh Φ G env (.cons b es) s1).post P:=by
 show ((evE Φ G env a s).bind fun x s1=>match truth s1 x with
  |some false=>qh Φ G env (.cons b es) s1
  |some true=>.ok x s1
  |Option.none=>.stuck).post P↔_
 simp only[zF]
 refine zh fun x s1=>?_
 cases truth s1 x with
 |some t=>cases t<;>simp[zA,zU]
 |none=>simp[zU]
theorem YG{c:Cn}{a b:Ex}{P:Val→Sto→Prop}:(evE Φ G env (.ife c a b) s).post P↔(evT Φ G env c s).post fun t s1=>if t=true then (evE Φ G env a s1).post P else (evE Φ G env b s1).post P:=by
 show (Out.bind _ _).post P↔_
 simp only[zF,yr]
theorem YN{es:Exs}{P:Val→Sto→Prop}:(evE Φ G env (.tup es) s).post P↔(yd Φ G env es s).post fun vs s1=>(if vs.length≤zR then Out.ok (Val.tup vs) s1 else .stuck).post P:=by
 show (Out.bind _ _).post P↔_
 simp only[zF]
theorem YH{m:Bool}{es:Exs}{P:Val→Sto→Prop}:(evE Φ G env (.lst m es) s).post P↔(yd Φ G env es s).post fun vs s1=>(if vs.length≤zR then newList m vs s1 else .stuck).post P:=by
 show (Out.bind _ _).post P↔_
 simp only[zF]
theorem aL{f:Str}{v:Nat}{es:Exs}{P:Val→Sto→Prop}:(evE Φ G env (.call f v es) s).post P↔(yd Φ G env es s).post fun vs s1=>(Φ f v vs s1).post P:=by
 show (Out.bind _ _).post P↔_
 simp only[zF]
theorem dM{f:Bf}{m:Bool}{es:Exs}{P:Val→Sto→Prop}:(evE Φ G env (.blt f m es) s).post P↔(yd Φ G env es s).post fun vs s1=>(blt f m vs s1).post P:=by
 show (Out.bind _ _).post P↔_
 simp only[zF]
theorem jm{f:Mf}{m:Bool}{o:Ex}{es:Exs}{P:Val→Sto→Prop}:(evE Φ G env (.zy f m o es) s).post P↔(evE Φ G env o s).post fun x s1=>(yd Φ G env es s1).post fun vs s2=>(zy f x vs s2).post P:=by
 show (Out.bind _ _).post P↔_
 simp only[zF]
theorem jk{m:Bool}{a b c:Ex}{P:Val→Sto→Prop}:(evE Φ G env (.listRange m a b c) s).post P↔(evE Φ G env a s).post fun x s1=>(evE Φ G env b s1).post fun y s2=>(evE Φ G env c s2).post fun z s3=>(v8 m x y z s3).post P:=by
 show (Out.bind _ _).post P↔_
 simp only[zF]
theorem XH{a b:Ex}{P:Val→Sto→Prop}:(evE Φ G env (.ix a b) s).post P↔(evE Φ G env a s).post fun x s1=>(evE Φ G env b s1).post fun y s2=>(y1 x y s2).post P:=by
 show (Out.bind _ _).post P↔_
 simp only[zF]
theorem XJ{m:Bool}{a:Ex}{lo hi st:OEx}{P:Val→Sto→Prop}:(evE Φ G env (.sl m a lo hi st) s).post P↔(evE Φ G env a s).post fun x s1=>(evO Φ G env lo s1).post fun l s2=>(evO Φ G env hi s2).post fun h s3=>(evO Φ G env st s3).post fun c s4=>(xF m x l h c s4).post P:=by
 show (Out.bind _ _).post P↔_
 simp only[zF]
theorem aO{P:Option Int→Sto→Prop}:(evO Φ G env .no s).post P↔P none s:=zA
theorem aP{e:Ex}{P:Option Int→Sto→Prop}:(evO Φ G env (.yes e) s).post P↔(evE Φ G env e s).post fun v s1=>∃i,v=.int i∧P (some i) s1:=by
 show (Out.bind _ _).post P↔_
 simp only[zF]
 exact zh fun x s1=>by cases x<;>simp[zA,zU]
theorem n5{P:List Val→Sto→Prop}:(yd Φ G env .nil s).post P↔P [] s:=zA
theorem uB{e:Ex}{es:Exs}{P:List Val→Sto→Prop}:(yd Φ G env (.cons e es) s).post P↔(evE Φ G env e s).post fun v s1=>(yd Φ G env es s1).post fun vs s2=>P (v::vs) s2:=by
 show (Out.bind _ _).post P↔_
 simp only[zF,zA]
theorem jr{e:Ex}{P:Bool→Sto→Prop}:(evT Φ G env (.val e) s).post P↔(evE Φ G env e s).post fun v s1=>∃b,truth s1 v=some b∧P b s1:=by
 show (Out.bind (evE Φ G env e s) _).post P↔_
 simp only[zF]
 refine⟨fun h=>zN h fun v s1 h=>?_,fun h=>zN h fun v s1 h=>?_⟩
 . split at h
   . rename_i b e;exact⟨b,e,zA.mp h⟩
   . obtain⟨_,_,e,_⟩:=h;cases e
 . obtain⟨b,e,h⟩:=h
   rw[e];exact zA.mpr h
theorem aT{c:Cn}{P:Bool→Sto→Prop}:(evT Φ G env (.not c) s).post P↔(evT Φ G env c s).post fun b s1=>P (!b) s1:=by
 show (Out.bind _ _).post P↔_
 simp only[zF,zA]
theorem aS{c:Cn}{cs:Cns}{P:Bool→Sto→Prop}:(evT Φ G env (.and c cs) s).post P↔(evT Φ G env c s).post fun b s1=>if b=true then (yo Φ G env cs s1).post P else P false s1:=by
 show (Out.bind _ _).post P↔_
 simp only[zF,yr,zA]
theorem YM{c:Cn}{cs:Cns}{P:Bool→Sto→Prop}:(evT Φ G env (.or c cs) s).post P↔(evT Φ G env c s).post fun b s1=>if b=true then P true s1 else (ux Φ G env cs s1).post P:=by
 show (Out.bind _ _).post P↔_
 simp only[zF,yr,zA]
theorem wd{P:Bool→Sto→Prop}:(yo Φ G env .nil s).post P↔P true s:=zA
theorem fT{P:Bool→Sto→Prop}:(ux Φ G env .nil s).post P↔P false s:=zA
theorem jq{c:Cn}{cs:Cns}{P:Bool→Sto→Prop}:(yo Φ G env (.cons c cs) s).post P↔(evT Φ G env c s).post fun b s1=>if b=true then (yo Φ G env cs s1).post P else P false s1:=by
 show (Out.bind _ _).post P↔_
 simp only[zF,yr,zA]
theorem jo{c:Cn}{cs:Cns}{P:Bool→Sto→Prop}:(ux Φ G env (.cons c cs) s).post P↔(evT Φ G env c s).post fun b s1=>if b=true then P true s1 else (ux Φ G env cs s1).post P:=by
 show (Out.bind _ _).post P↔_
 simp only[zF,yr,zA]
theorem jj{e:Ex}{P:Src→Sto→Prop}:(yL Φ G env (.val e) s).post P↔(evE Φ G env e s).post fun v s1=>∃r,srcOf s1 v=some r∧P r s1:=by
 show (Out.bind _ _).post P↔_
 simp only[zF]
 refine⟨fun h=>zN h fun v s1 h=>?_,fun h=>zN h fun v s1 h=>?_⟩
 . split at h
   . rename_i b e;exact⟨b,e,zA.mp h⟩
   . obtain⟨_,_,e,_⟩:=h;cases e
 . obtain⟨b,e,h⟩:=h
   rw[e];exact zA.mpr h
theorem pH{a:Ex}{P:Src→Sto→Prop}:(yL Φ G env (.range1 a) s).post P↔(evE Φ G env a s).post fun x s1=>∃j,x=.int j∧(-(2 ^ 62)≤j∧j≤zR)∧P ⟨z5 0 j.toNat,Option.none⟩ s1:=by
 show (Out.bind _ _).post P↔_
 simp only[zF]
 refine⟨fun h=>zN h fun v s1 h=>?_,fun h=>zN h fun v s1 h=>?_⟩
 . split at h
   . rw[yr]at h
     split at h
     . rename_i j z;exact⟨_,rfl,z,zA.mp h⟩
     . obtain⟨_,_,e,_⟩:=h;cases e
   . obtain⟨_,_,e,_⟩:=h;cases e
 . obtain⟨j,rfl,z,h⟩:=h
   simp only[if_pos z]
   exact zA.mpr h
theorem pI{a b:Ex}{P:Src→Sto→Prop}:(yL Φ G env (.range2 a b) s).post P↔(evE Φ G env a s).post fun x s1=>(evE Φ G env b s1).post fun y s2=>∃i j,x=.int i∧y=.int j∧(-(2 ^ 62)≤i∧i<2 ^ 62∧-(2 ^ 62)≤j∧j<2 ^ 62∧j-i≤zR)∧P ⟨z5 i (j-i).toNat,Option.none⟩ s2:=by
 show (Out.bind _ _).post P↔_
 simp only[zF]
 refine⟨fun h=>zN h fun v s1 h=>zN h fun w s2 h=>?_,fun h=>zN h fun v s1 h=>zN h fun w s2 h=>?_⟩
 . split at h
   . rw[yr]at h
     split at h
     . rename_i z;exact⟨_,_,rfl,rfl,z,zA.mp h⟩
     . obtain⟨_,_,e,_⟩:=h;cases e
   . obtain⟨_,_,e,_⟩:=h;cases e
 . obtain⟨i,j,rfl,rfl,z,h⟩:=h
   simp only[if_pos z]
   exact zA.mpr h
theorem aN{a:Ex}{P:Src→Sto→Prop}:(yL Φ G env (.enum a) s).post P↔(evE Φ G env a s).post fun x s1=>∃vs,(x=.tup vs∨x=.lst vs)∧P ⟨yF 0 vs,Option.none⟩ s1:=by
 show (Out.bind _ _).post P↔_
 simp only[zF]
 refine⟨fun h=>zN h fun v s1 h=>?_,fun h=>zN h fun v s1 h=>?_⟩
 . split at h
   . exact⟨_,.inl rfl,zA.mp h⟩
   . exact⟨_,.inr rfl,zA.mp h⟩
   . obtain⟨_,_,e,_⟩:=h;cases e
 . obtain⟨j,rfl|rfl,h⟩:=h<;>exact zA.mpr h
theorem jh{e:Ex}{P:Fl→Sto→Prop}:(exS Φ G env (.expr e) s).post P↔(evE Φ G env e s).post fun _ s1=>P (.nx env) s1:=by
 show (Out.bind _ _).post P↔_
 simp only[zF,zA]
theorem jn{e:Ex}{P:Fl→Sto→Prop}:(exS Φ G env (.ret e) s).post P↔(evE Φ G env e s).post fun v s1=>P (.rt v) s1:=by
 show (Out.bind _ _).post P↔_
 simp only[zF,zA]
theorem aR{P:Fl→Sto→Prop}:(exS Φ G env .retN s).post P↔P (.rt .none) s:=zA
theorem jf{i:Nat}{e:Ex}{P:Fl→Sto→Prop}:(exS Φ G env (.asg i e) s).post P↔(evE Φ G env e s).post fun v s1=>P (.nx (env.set i (some v))) s1:=by
 show (Out.bind _ _).post P↔_
 simp only[zF,zA]
theorem aK{is:List Nat}{e:Ex}{P:Fl→Sto→Prop}:(exS Φ G env (.asgT is e) s).post P↔(evE Φ G env e s).post fun v s1=>∃env',yO (.nms is) v env=some env'∧P (.nx env') s1:=by
 show (Out.bind _ _).post P↔_
 simp only[zF]
 refine⟨fun h=>zN h fun v s1 h=>?_,fun h=>zN h fun v s1 h=>?_⟩
 . split at h
   . rename_i b e;exact⟨b,e,zA.mp h⟩
   . obtain⟨_,_,e,_⟩:=h;cases e
 . obtain⟨b,e,h⟩:=h
   rw[e];exact zA.mpr h
theorem dO{is:List Nat}{es:Exs}{P:Fl→Sto→Prop}:(exS Φ G env (.par is es) s).post P↔(yd Φ G env es s).post fun vs s1=>(if vs.length=is.length then Out.ok (Fl.nx ((is.zip vs).foldl (fun e p=>e.set p.1 (some p.2)) env)) s1 else .stuck).post P:=by
 show (Out.bind _ _).post P↔_
 simp only[zF]
theorem fR{o i e:Ex}{P:Fl→Sto→Prop}:(exS Φ G env (.setIx o i e) s).post P↔(evE Φ G env e s).post fun v s1=>(evE Φ G env o s1).post fun x s2=>(evE Φ G env i s2).post fun y s3=>∃r k vs j,x=.ref r∧y=.int k∧s3[r]?=some (.lst vs)∧L2.ixN vs.length k=some j∧P (.nx env) (upd s3 r (vs.set j v)):=by
 show (Out.bind _ _).post P↔_
 simp only[zF]
 refine zh fun v s1=>zh fun x s2=>zh fun y s3=>⟨fun h=>?_,fun⟨r,k,vs,j,h1,h2,h3,h4,h5⟩=>?_⟩
 . split at h
   . split at h
     . rename_i e3
       split at h
       . rename_i e4;exact⟨_,_,_,_,rfl,rfl,e3,e4,zA.mp h⟩
       . exact(zU.mp h).elim
     . exact(zU.mp h).elim
   . exact(zU.mp h).elim
 . subst h1;subst h2
   simp only[h3,h4]
   exact zA.mpr h5
theorem YF{c:Cn}{a b:Sms}{P:Fl→Sto→Prop}:(exS Φ G env (.ifS c a b) s).post P↔(evT Φ G env c s).post fun t s1=>if t=true then (zi Φ G env a s1).post P else (zi Φ G env b s1).post P:=by
 show (Out.bind _ _).post P↔_
 simp only[zF,yr]
theorem aQ{P:Fl→Sto→Prop}:(exS Φ G env .pass s).post P↔P (.nx env) s:=zA
theorem YB{P:Fl→Sto→Prop}:(exS Φ G env .brk s).post P↔P (.bk env) s:=zA
theorem aM{P:Fl→Sto→Prop}:(exS Φ G env .cont s).post P↔P (.ct env) s:=zA
theorem oY{P:Fl→Sto→Prop}:(zi Φ G env .nil s).post P↔P (.nx env) s:=zA
noncomputable def rP(Φ:Calls)(G:Str→Option Val)(cs:Sms)(P:Fl→Sto→Prop):Fl→Sto→Prop
 |.nx e,s1=>(zi Φ G e cs s1).post P
 |fl,s1=>P fl s1
theorem yq{c:Sm}{cs:Sms}{P:Fl→Sto→Prop}:(zi Φ G env (.cons c cs) s).post P↔(exS Φ G env c s).post (rP Φ G cs P):=by
 show (Out.bind _ _).post P↔_
 simp only[zF]
 have:∀fl s1,(match fl with|.nx e=>zi Φ G e cs s1|fl=>Out.ok fl s1:Out Fl).post P↔rP Φ G cs P fl s1:=fun fl s1=>by
  cases fl with
  |nx e=>exact Iff.rfl
  |_=>exact zA
 exact⟨fun h=>zN h fun fl s1 h=>(this fl s1).mp h,fun h=>zN h fun fl s1 h=>(this fl s1).mpr h⟩
theorem eT{cs:Sms}{P:Fl→Sto→Prop}{e:Env}:rP Φ G cs P (.nx e) s↔(zi Φ G e cs s).post P:=Iff.rfl
theorem mI{cs:Sms}{P:Fl→Sto→Prop}{v:Val}:rP Φ G cs P (.rt v) s↔P (.rt v) s:=Iff.rfl
theorem eR{cs:Sms}{P:Fl→Sto→Prop}{v:Env}:rP Φ G cs P (.bk v) s↔P (.bk v) s:=Iff.rfl
theorem eS{cs:Sms}{P:Fl→Sto→Prop}{v:Env}:rP Φ G cs P (.ct v) s↔P (.ct v) s:=Iff.rfl
theorem xu{I:Env→Prop}{g:Val→List Val}{r:Src}{t:Tgt}{body:Env→Sto→List Val→Out (List Val × Env)}(hr:r.ok s=true):∀(xs:List Val),(∀x∈xs,∀e acc,I e→∃e1 e2,yO t x e=some e1∧body e1 s acc=.ok (acc++g x,e2) s∧I e2)→∀e acc,I e→∃e',I e'∧yG r t body xs e s acc=.ok (acc++xs.flatMap g,e') s
 |[],_,e,acc,h0=>⟨e,h0,by simp[yG,hr]⟩
 |x::xs,h,e,acc,h0=>by
  obtain⟨e1,e2,h1,h2,h3⟩:=h x (.head _) e acc h0
  obtain⟨e',h4,h5⟩:=xu hr xs (fun y hy=>h y (.tail _ hy)) e2 (acc++g x) h3
  refine⟨e',h4,?_⟩
  simp only[yG,hr,if_true,h1,h2,zM,h5,List.flatMap_cons,List.append_assoc]
theorem jg{m:Bool}{N:List Str}{fr:List (Option Nat)}{elt:Ex}{t:Tgt}{it:Itb}{ifs:Cns}{P:Val→Sto→Prop}(I:Env→Prop)(g:Val→List Val)
 (h:(yL Φ G env it s).post fun r s1=>r.ok s1=true∧I (zE fr env)∧(∀x∈r.xs,∀e,I e→∃e1,yO t x e=some e1∧I e1∧(yo Φ G e1 ifs s1).post fun b s2=>s2=s1∧if b=true then (evE Φ G e1 elt s1).post (fun v s2=>s2=s1∧g x=[v]) else g x=[])∧(newList m (r.xs.flatMap g) s1).post P) :
 (evE Φ G env (.comp m N fr elt t it ifs) s).post P:=by
 obtain⟨r,s1,ei,h1,h2,h3,h4⟩:=h
 obtain⟨e',_,h5⟩:=xu (I:=I) (g:=g) (body:=fun e s' acc=>(yo Φ G e ifs s').bind fun b s2=>if b then (evE Φ G e elt s2).bind fun v s3=>.ok (acc++[v],e) s3 else .ok (acc,e) s2) h1 r.xs (fun x hx e acc he=>by
  obtain⟨e1,k1,k2,b,s2,k3,rfl,k4⟩:=h3 x hx e he
  refine⟨e1,e1,k1,?_,k2⟩
  rw[k3,zM]
  cases b with
  |true=>
   rw[if_pos rfl]at k4 ⊢
   obtain⟨v,s3,kw,rfl,kv⟩:=k4
   rw[kw,zM,kv]
  |false=>
   rw[if_neg Bool.false_ne_true]at k4 ⊢
   rw[k4,List.append_nil]) (zE fr env) [] h2
 show (Out.bind (yL Φ G env it s) _).post P
 rw[ei,zM]
 rw[h5,zM]
 exact h4
def Small(l:List Val):Prop:=l.length≤zR
theorem fO{m:Bool}{N:List Str}{fr:List (Option Nat)}{elt:Ex}{t t2:Tgt}{it it2:Itb}{ifs ifs2:Cns}{P:Val→Sto→Prop}(I:Env→Prop)(g:Val→List Val)(J:Val→Env→Prop)(g2:Val→Val→List Val)
 (h:(yL Φ G env it s).post fun r s1=>r.ok s1=true∧I (zE fr env)∧(∀x∈r.xs,∀e,I e→∃e1,yO t x e=some e1∧(yo Φ G e1 ifs s1).post fun b s2=>s2=s1∧if b=true then (yL Φ G e1 it2 s1).post (fun r2 s2=>s2=s1∧r2.ok s1=true∧J x e1∧(∀e,J x e→I e)∧g x=r2.xs.flatMap (g2 x)∧∀y∈r2.xs,∀e,J x e→∃e2,yO t2 y e=some e2∧J x e2∧(yo Φ G e2 ifs2 s1).post fun b s2=>s2=s1∧if b=true then (evE Φ G e2 elt s1).post (fun v s2=>s2=s1∧g2 x y=[v]) else g2 x y=[]) else g x=[]∧I e1)∧Small (r.xs.flatMap g)∧(newList m (r.xs.flatMap g) s1).post P) :
 (evE Φ G env (.comp2 m N fr elt t it ifs t2 it2 ifs2) s).post P:=by
 obtain⟨r,s1,ei,h1,h2,h3,hl,h4⟩:=h
 obtain⟨e',_,h5⟩:=xu (I:=I) (g:=g) (body:=fun e s' acc=>(yo Φ G e ifs s').bind fun b s2=>if b then (yL Φ G e it2 s2).bind fun r2 s3=>
        yG r2 t2 (fun e' s4 acc'=>(yo Φ G e' ifs2 s4).bind fun b' s5=>if b' then (evE Φ G e' elt s5).bind fun v s6=>.ok (acc'++[v],e') s6 else .ok (acc',e') s5) r2.xs e s3 acc
  else .ok (acc,e) s2) h1 r.xs (fun x hx e acc he=>by
  obtain⟨e1,k1,b,s2,k3,rfl,k4⟩:=h3 x hx e he
  cases b with
  |true=>
   rw[if_pos rfl]at k4
   obtain⟨r2,s3,k5,rfl,k6,k7,k8,k9,k10⟩:=k4
   obtain⟨e2,k11,k12⟩:=xu (I:=J x) (g:=g2 x) (body:=fun e' s4 acc'=>(yo Φ G e' ifs2 s4).bind fun b' s5=>if b' then (evE Φ G e' elt s5).bind fun v s6=>.ok (acc'++[v],e') s6 else .ok (acc',e') s5) k6 r2.xs (fun y hy e acc he=>by
    obtain⟨e1,k1,k2,b,s2,k3,rfl,k4⟩:=k10 y hy e he
    refine⟨e1,e1,k1,?_,k2⟩
    rw[k3,zM]
    cases b with
    |true=>
     rw[if_pos rfl]at k4 ⊢
     obtain⟨v,s3,kw,rfl,kv⟩:=k4
     rw[kw,zM,kv]
    |false=>
     rw[if_neg Bool.false_ne_true]at k4 ⊢
     rw[k4,List.append_nil]) e1 acc k7
   refine⟨e1,e2,k1,?_,k8 _ k11⟩
   rw[k3,zM,if_pos rfl,k5,zM,k12,k9]
  |false=>
   rw[if_neg Bool.false_ne_true]at k4
   refine⟨e1,e1,k1,?_,k4.2⟩
   rw[k3,zM,if_neg Bool.false_ne_true,k4.1,List.append_nil]) (zE fr env) [] h2
 show (Out.bind (yL Φ G env it s) _).post P
 rw[ei,zM]
 rw[h5,zM]
 simp only[List.nil_append]
 rw[if_pos (show (r.xs.flatMap g).length≤zR from hl)]
 exact h4
theorem rE(Q:List Val→Env→Sto→List Val→Prop){r:Src}{t:Tgt}{body:Env→Sto→List Val→Out (List Val × Env)}:∀(xs:List Val),(∀e s acc,Q [] e s acc→r.ok s=true)→(∀x rest e s acc,Q (x::rest) e s acc→r.ok s=true∧∃e1,yO t x e=some e1∧(body e1 s acc).post fun p s2=>Q rest p.2 s2 p.1)→∀e s acc,Q xs e s acc→(yG r t body xs e s acc).post fun p s2=>Q [] p.2 s2 p.1
 |[],h0,_,e,s,acc,q=>by
  simp only[yG,h0 e s acc q,if_true]
  exact zA.mpr q
 |x::xs,h0,h,e,s,acc,q=>by
  obtain⟨h1,e1,h2,h3⟩:=h x xs e s acc q
  simp only[yG,h1,if_true,h2,zF]
  exact zN h3 fun p s2 q=>rE Q xs h0 h p.2 s2 p.1 q
theorem fP{m:Bool}{N:List Str}{fr:List (Option Nat)}{elt:Ex}{t:Tgt}{it:Itb}{ifs:Cns}{P:Val→Sto→Prop}(Q:List Val→Env→Sto→List Val→Prop)
 (h:(yL Φ G env it s).post fun r s1=>Q r.xs (zE fr env) s1 []∧(∀rest e s acc,Q rest e s acc→r.ok s=true)∧(∀x rest e s acc,Q (x::rest) e s acc→∃e1,yO t x e=some e1∧(yo Φ G e1 ifs s).post fun b s2=>if b=true then (evE Φ G e1 elt s2).post (fun v s3=>Q rest e1 s3 (acc++[v])) else Q rest e1 s2 acc)∧∀e s acc,Q [] e s acc→(newList m acc s).post P) :
 (evE Φ G env (.comp m N fr elt t it ifs) s).post P:=by
 obtain⟨r,s1,ei,h1,h2,h3,h4⟩:=h
 show (Out.bind (yL Φ G env it s) _).post P
 rw[ei,zM,zF]
 refine zN (rE Q r.xs (fun e s acc q=>h2 _ e s acc q) (fun x rest e s acc q=>⟨h2 _ e s acc q,?_⟩) _ _ _ h1) fun p s2 q=>h4 _ _ _ q
 obtain⟨e1,k1,k2⟩:=h3 x rest e s acc q
 refine⟨e1,k1,?_⟩
 simp only[zF]
 refine zN k2 fun b s2 k=>?_
 cases b with
 |true=>
  rw[if_pos rfl]at k ⊢
  simp only[zF,zA]
  exact k
 |false=>
  rw[if_neg Bool.false_ne_true]at k ⊢
  exact zA.mpr k
theorem v7(Q:List Val→Env→Sto→Prop)(R:Fl→Sto→Prop){r:Src}{t:Tgt}{body:Env→Sto→Out Fl}(h0:∀e s,Q [] e s→R (.nx e) s):∀(xs:List Val),(∀rest e s,Q rest e s→r.ok s=true)→(∀x rest e s,Q (x::rest) e s→∃e1,yO t x e=some e1∧(body e1 s).post fun fl s2=>match fl with|.nx e=>Q rest e s2|.ct e=>Q rest e s2|.bk e=>R (.nx e) s2|.rt v=>R (.rt v) s2)→∀e s,Q xs e s→(wB r t body xs e s).post R
 |[],hk,_,e,s,q=>by
  simp only[wB,hk _ _ _ q,if_true]
  exact zA.mpr (h0 _ _ q)
 |x::xs,hk,h,e,s,q=>by
  obtain⟨e1,h2,h3⟩:=h x xs e s q
  simp only[wB,hk _ _ _ q,if_true,h2,zF]
  refine zN h3 fun fl s2 q=>?_
  cases fl with
  |nx e=>exact v7 Q R h0 xs hk h e s2 q
  |ct e=>exact v7 Q R h0 xs hk h e s2 q
  |bk e=>exact zA.mpr q
  |rt v=>exact zA.mpr q
noncomputable def uQ(Q:Env→Sto→Prop)(R:Fl→Sto→Prop):Fl→Sto→Prop
 |.nx e,s=>Q e s
 |.ct e,s=>Q e s
 |.bk e,s=>R (.nx e) s
 |.rt v,s=>R (.rt v) s
theorem eM{Q:Env→Sto→Prop}{R:Fl→Sto→Prop}{e:Env}:uQ Q R (.nx e) s↔Q e s:=Iff.rfl
theorem eL{Q:Env→Sto→Prop}{R:Fl→Sto→Prop}{e:Env}:uQ Q R (.ct e) s↔Q e s:=Iff.rfl
theorem eK{Q:Env→Sto→Prop}{R:Fl→Sto→Prop}{e:Env}:uQ Q R (.bk e) s↔R (.nx e) s:=Iff.rfl
theorem eO{Q:Env→Sto→Prop}{R:Fl→Sto→Prop}{v:Val}:uQ Q R (.rt v) s↔R (.rt v) s:=Iff.rfl
theorem YD{t:Tgt}{it:Itb}{b:Sms}{R:Fl→Sto→Prop}(Q:List Val→Env→Sto→Prop)
 (h:(yL Φ G env it s).post fun r s1=>Q r.xs env s1∧(∀rest e s,Q rest e s→r.ok s=true)∧(∀x rest e s,Q (x::rest) e s→∃e1,yO t x e=some e1∧(zi Φ G e1 b s).post (uQ (Q rest) R))∧∀e s,Q [] e s→R (.nx e) s) :
 (exS Φ G env (.forS t it b) s).post R:=by
 obtain⟨r,s1,ei,h1,h2,h3,h4⟩:=h
 show (Out.bind (yL Φ G env it s) _).post R
 rw[ei,zM]
 refine v7 Q R h4 r.xs h2 (fun x rest e s q=>?_) _ _ h1
 obtain⟨e1,k1,k2⟩:=h3 x rest e s q
 refine⟨e1,k1,zN k2 fun fl s2 k=>?_⟩
 cases fl<;>exact k
theorem wN{t:Tgt}{it:Itb}{b:Sms}{R:Fl→Sto→Prop}(Q:List Val→Env→Sto→Prop)(xs:List Val){s1:Sto}(hi:yL Φ G env it s=.ok ⟨xs,Option.none⟩ s1)(h0:Q xs env s1)
 (h1:∀x rest e s,Q (x::rest) e s→∃e1,yO t x e=some e1∧(zi Φ G e1 b s).post (uQ (Q rest) R)) (h2:∀e s,Q [] e s→R (.nx e) s) :
 (exS Φ G env (.forS t it b) s).post R:=YD Q ⟨_,_,hi,h0,fun _ _ _ _=>rfl,h1,h2⟩
theorem ug{m:Bool}{N:List Str}{fr:List (Option Nat)}{elt:Ex}{t:Tgt}{it:Itb}{ifs:Cns}{P:Val→Sto→Prop}(I:Env→Prop)(g:Val→List Val)(xs:List Val){s1:Sto}(hi:yL Φ G env it s=.ok ⟨xs,Option.none⟩ s1)(h0:I (zE fr env))
 (h1:∀x∈xs,∀e,I e→∃e1,yO t x e=some e1∧I e1∧(yo Φ G e1 ifs s1).post fun b s2=>s2=s1∧if b=true then (evE Φ G e1 elt s1).post (fun v s2=>s2=s1∧g x=[v]) else g x=[]) (h2:(newList m (xs.flatMap g) s1).post P) :
 (evE Φ G env (.comp m N fr elt t it ifs) s).post P:=jg I g ⟨_,_,hi,rfl,h0,h1,h2⟩
theorem mw(Q:Nat→Env→Sto→Prop)(R:Fl→Sto→Prop){c:Env→Sto→Out Bool}{body:Env→Sto→Out Fl}:∀(n k:Nat),n<k→(∀n e s,Q n e s→(c e s).post fun b s1=>if b=true then (body e s1).post (uQ (fun e s=>∃m,m<n∧Q m e s) R) else R (.nx e) s1)→∀e s,Q n e s→(wM c body k e s).post R:=by
 intro n
 induction n using Nat.strongRecOn with
 |ind n ih=>
  intro k hk h e s q
  cases k with
  |zero=>omega
  |succ k=>
   simp only[wM,zF]
   refine zN (h n e s q) fun b s1 z=>?_
   cases b with
   |true=>
    rw[if_pos rfl]at z ⊢
    simp only[zF]
    refine zN z fun fl s2 z=>?_
    cases fl with
    |nx e=>
     obtain⟨m,h1,h2⟩:=z
     exact ih m h1 k (by omega) h e s2 h2
    |ct e=>
     obtain⟨m,h1,h2⟩:=z
     exact ih m h1 k (by omega) h e s2 h2
    |bk e=>exact zA.mpr z
    |rt v=>exact zA.mpr z
   |false=>
    rw[if_neg Bool.false_ne_true]at z ⊢
    exact zA.mpr z
theorem fU{c:Cn}{b:Sms}{R:Fl→Sto→Prop}(n:Nat)(Q:Nat→Env→Sto→Prop)(hn:n<qV)(q:Q n env s)
 (h:∀n e s,Q n e s→(evT Φ G e c s).post fun t s1=>if t=true then (zi Φ G e b s1).post (uQ (fun e s=>∃m,m<n∧Q m e s) R) else R (.nx e) s1) :
 (exS Φ G env (.whileS c b) s).post R:=mw Q R n qV hn h env s q
end
theorem eV{s:Sto}:truth s .none=some false:=rfl
theorem yE{s:Sto}{b:Bool}:truth s (.bool b)=some b:=rfl
theorem ZE{s:Sto}{i:Int}:truth s (.int i)=some (i != 0):=rfl
theorem ZF{s:Sto}{vs:List Val}:truth s (.tup vs)=some !vs.isEmpty:=rfl
theorem i6{s:Sto}{vs:List Val}:truth s (.lst vs)=some !vs.isEmpty:=rfl
theorem ay{s:Sto}{vs:List Val}:srcOf s (.tup vs)=some ⟨vs,Option.none⟩:=rfl
theorem ax{s:Sto}{vs:List Val}:srcOf s (.lst vs)=some ⟨vs,Option.none⟩:=rfl
theorem eJ{s:Sto}{ns:List Int}:srcOf s (.ctup ns)=some ⟨ns.map .int,Option.none⟩:=rfl
theorem ik{s:Sto}{xs:List Val}:Src.ok ⟨xs,Option.none⟩ s=true:=rfl
theorem ZU{i:Nat}{v:Val}{env:Env}:yO (.nm i) v env=some (env.set i (some v)):=rfl
theorem cG{is:List Nat}{vs:List Val}{env:Env}:yO (.nms is) (.tup vs) env=if vs.length=is.length then some ((is.zip vs).foldl (fun e p=>e.set p.1 (some p.2)) env) else Option.none:=rfl
theorem ly(vs:List Val):vt vs vs=true:=wX vs
theorem qa(c:Cel):c.beq c=true:=by cases c<;>simp[Cel.beq,ly]
theorem wc:∀(s t:Sto),xD s (s++t)=true
 |[],_=>rfl
 |c::r,t=>by simp[xD,qa c,wc r t]
theorem oP(s:Sto):xD s s=true:=by have:=wc s [];rwa [List.append_nil]at this
theorem tP:∀(s t:Sto) (i:Nat) (c:Cel),c.noRef=true→xD s (s.set i c++t)=true
 |[],_,_,_,_=>by simp[xD]
 |_::r,t,0,c,h=>by simp[xD,h,wc r t]
 |o::r,t,i+1,c,h=>by simp[xD,qa o,tP r t i c h]
theorem m4(s t:Sto)(i:Nat)(vs:List Val)(h:ze vs=true):xD s (s.set i (.lst vs)++t)=true:=tP s t i _ h
theorem g9:Val.none.noRef=true:=by rw[Val.noRef]
theorem vY{b:Bool}:(Val.bool b).noRef=true:=by rw[Val.noRef]
theorem bx{b:Int}:(Val.int b).noRef=true:=by rw[Val.noRef]
theorem b0{b:Str}:(Val.str b).noRef=true:=by rw[Val.noRef]
theorem b3{vs:List Val}:(Val.tup vs).noRef=ze vs:=by rw[Val.noRef]
theorem bz{vs:List Val}:(Val.lst vs).noRef=ze vs:=by rw[Val.noRef]
theorem fA:ze []=true:=by rw[ze]
theorem jX{v:Val}{vs:List Val}:ze (v::vs)=(v.noRef&&ze vs):=by rw[ze]
theorem yl:∀ns:List Int,ze (ns.map .int)=true
 |[]=>rfl
 |_::ns=>by simp[ze,Val.noRef,yl ns]
theorem tL:∀zs:List (Int × Int),ze (zs.map prV)=true
 |[]=>rfl
 |_::zs=>by simp[ze,Val.noRef,prV,tL zs]
noncomputable def z9(k:Bool)(s0:Sto)(v:Val)(s:Sto):Out Val:=
 if k then .ok v s
 else if xD s0 s then (match freeze s0.length s v with|some v'=>.ok v' (s.take s0.length)|Option.none=>.stuck) else .stuck
theorem qq{s0 s:Sto}{v:Val}:z9 true s0 v s=.ok v s:=rfl
theorem xM{k:Bool}{s:Sto}{v:Val}(h:v.noRef=true):z9 k s v s=.ok v s:=by
 unfold z9
 cases k
 . simp[oP,freeze,h]
 . rfl
theorem tF{s t:Sto}{v:Val}{i:Nat}{vs:List Val}(h:v.noRef=true)(hv:ze vs=true):z9 false s v (s.set i (.lst vs)++t)=.ok v (s.set i (.lst vs)):=by
 unfold z9
 have e:s.length=(s.set i (.lst vs)).length:=by rw[List.length_set]
 simp only[m4 s t i vs hv,freeze,h,if_true,Bool.false_eq_true,if_false,e,List.take_left']
theorem mq{s:Sto}{v:Val}{i:Nat}{vs:List Val}(h:v.noRef=true)(hv:ze vs=true):z9 false s v (s.set i (.lst vs))=.ok v (s.set i (.lst vs)):=by
 have:=tF (s:=s) (t:=[]) (i:=i) h hv
 rwa [List.append_nil]at this
theorem oG{s t:Sto}{vs:List Val}{i:Nat}(hi:i ≥ s.length)(hl:(s++t)[i]?=some (.lst vs))(h:ze vs=true):z9 false s (.ref i) (s++t)=.ok (.lst vs) s:=by
 unfold z9
 have:¬i<s.length:=by omega
 simp[wc,freeze,Val.noRef,xS,this,hl,h]
noncomputable def fin(k:Bool)(s:Sto)(P:Val→Sto→Prop):Fl→Sto→Prop
 |.nx _,s1=>(z9 k s .none s1).post P
 |.rt v,s1=>(z9 k s v s1).post P
 |_,_=>False
theorem cU{k:Bool}{s s1:Sto}{P:Val→Sto→Prop}{e:Env}:fin k s P (.nx e) s1↔(z9 k s .none s1).post P:=Iff.rfl
theorem kP{k:Bool}{s s1:Sto}{P:Val→Sto→Prop}{v:Val}:fin k s P (.rt v) s1↔(z9 k s v s1).post P:=Iff.rfl
theorem wC{T:Tbl}{Φ:Calls}{N ps:List Str}{k:Bool}{b:Sms}{vs:List Val}{s:Sto}{P:Val→Sto→Prop}:(run T Φ ⟨N,ps,k,b⟩ vs s).post P↔vs.length=ps.length∧(zi Φ T.gl (zH N vs) b s).post (fin k s P):=by
 unfold run
 by_cases hl:vs.length=ps.length
 . rw[if_pos hl,zF]
   refine⟨fun h=>⟨hl,zN h fun fl s1 h=>?_⟩,fun h=>zN h.2 fun fl s1 h=>?_⟩
   . cases fl<;>first|exact h|exact(zU.mp h).elim
   . cases fl<;>first|exact h|exact h.elim
 . rw[if_neg hl]
   exact⟨fun h=>(zU.mp h).elim,fun h=>absurd h.1 hl⟩
theorem zQ{T:Tbl}{n:Nat}{f:Str}{v:Nat}{F:Fn}(h:T.fn f v=some F)(vs:List Val)(s:Sto):zD T (n+1) f v vs s=run T (zD T n) F vs s:=by
 show (match T.fn f v with|some F=>run T (zD T n) F vs s|Option.none=>.stuck)=_
 rw[h]
def At(T:Tbl)(k:Nat)(C:Calls→Prop):Prop:=∀n,k≤n→C (zD T n)
noncomputable def EVl:=And.intro @dN <| And.intro @n6 <| And.intro @YE <| And.intro @XM <| And.intro @dJ <| And.intro @YI <| And.intro @YJ <| And.intro @YC <| And.intro @fN <| And.intro @YA <| And.intro @aI <| And.intro @aJ <| And.intro @XI <| And.intro @YK <| And.intro @YL <| And.intro @YG <| And.intro @YN <| And.intro @YH <| And.intro @aL <| And.intro @dM <| And.intro @jm <| And.intro @jk <| And.intro @XH <| And.intro @XJ <| And.intro @aO <| And.intro @aP <| And.intro @n5 <| And.intro @uB <| And.intro @jr <| And.intro @aT <| And.intro @aS <| And.intro @YM <| And.intro @wd <| And.intro @fT <| And.intro @jq <| And.intro @jo <| And.intro @jj <| And.intro @pH <| And.intro @pI <| And.intro @aN <| And.intro @jh <| And.intro @jn <| And.intro @aR <| And.intro @jf <| And.intro @aK <| And.intro @dO <| And.intro @fR <| And.intro @YF <| And.intro @aQ <| And.intro @YB <| And.intro @aM <| And.intro @oY <| And.intro @yq <| And.intro @eT <| And.intro @mI <| And.intro @eR <| And.intro @eS <| And.intro @eM <| And.intro @eL <| And.intro @eK <| And.intro @eO <| And.intro @zA <| And.intro @yr <| And.intro @zU <| And.intro @eV <| And.intro @yE <| And.intro @ZE <| And.intro @ZF <| And.intro @i6 <| And.intro @ay <| And.intro @ax <| And.intro @eJ <| And.intro @ik <| And.intro @ZU <| And.intro @cG <| And.intro @wC <| And.intro @cU <| And.intro @kP <| And.intro @qq <| And.intro @xM <| And.intro @g9 <| And.intro @vY <| And.intro @bx <| And.intro @b0 <| And.intro @b3 <| And.intro @bz <| And.intro @fA <| And.intro @jX <| And.intro @yl <| @tL
end M
end
section
namespace M
open PySem
theorem bnd{α β:Type}{o:Out α}{a:α}{s:Sto}{f:α→Sto→Out β}{r:Out β}(h:o=.ok a s)(k:f a s=r):o.bind f=r:=by rw[h];exact k
section
variable {Φ:Calls}{G:Str→Option Val}{env:Env}{s s1 s2 s3 s4:Sto}
theorem yB{v:Val}:evE Φ G env (.lit v) s=.ok v s:=rfl
theorem zJ{i:Nat}{v:Val}(h:env[i]?=some (some v)):evE Φ G env (.var i) s=.ok v s:=post_eq.mpr (n6.mpr ⟨v,h,rfl,rfl⟩)
theorem lg{x:Str}{n:String}:evE Φ G env (.ty x n) s=.ok (.ty n) s:=rfl
theorem dn{a b:Ex}{r:Out Val}(h1:evE Φ G env a s=.ok (.bool true) s1)(h2:evE Φ G env b s1=r):evE Φ G env (.andE a (.cons b .nil)) s=r:=bnd h1 h2
theorem hX{x:Str}{v:Val}(h:G x=some v):evE Φ G env (.gl x) s=.ok v s:=post_eq.mpr (YE.mpr ⟨v,h,rfl,rfl⟩)
theorem ZL{a b:Ex}{es:Exs}(h1:evE Φ G env a s=.ok (.bool false) s1):evE Φ G env (.andE a (.cons b es)) s=.ok (.bool false) s1:=bnd h1 rfl
theorem ZM{a b c:Ex}{es:Exs}(h1:evE Φ G env a s=.ok (.bool true) s1)(h2:evE Φ G env b s1=.ok (.bool false) s2):evE Φ G env (.andE a (.cons b (.cons c es))) s=.ok (.bool false) s2:=bnd h1 (show (evE Φ G env b s1).bind _=_ from bnd h2 rfl)
theorem hW{a b c:Ex}{r:Out Val}(h1:evE Φ G env a s=.ok (.bool true) s1)(h2:evE Φ G env b s1=.ok (.bool true) s2)(h3:evE Φ G env c s2=r):evE Φ G env (.andE a (.cons b (.cons c .nil))) s=r:=bnd h1 (show (evE Φ G env b s1).bind _=_ from bnd h2 h3)
theorem dq{a:Ex}{i:Int}(h:evE Φ G env a s=.ok (.int i) s1):evE Φ G env (.neg a) s=.ok (.int (-i)) s1:=bnd h rfl
theorem pd{m:Bool}{op:Bop}{a b:Ex}{x y:Val}{r:Out Val}(h1:evE Φ G env a s=.ok x s1)(h2:evE Φ G env b s1=.ok y s2)(h3:binOp m op x y s2=r):evE Φ G env (.bin m op a b) s=r:=bnd h1 (bnd h2 h3)
theorem w9{op:Cop}{a b:Ex}{x y:Val}{r:Out Val}(h1:evE Φ G env a s=.ok x s1)(h2:evE Φ G env b s1=.ok y s2)(h3:zS op x y s2=r):evE Φ G env (.cmp op a b) s=r:=bnd h1 (bnd h2 h3)
theorem lb{a b:Ex}{x y:Val}{r:Out Val}(h1:evE Φ G env a s=.ok x s1)(h2:evE Φ G env b s1=.ok y s2)(h3:y1 x y s2=r):evE Φ G env (.ix a b) s=r:=bnd h1 (bnd h2 h3)
theorem oO:evO Φ G env .no s=.ok none s:=rfl
theorem pD{e:Ex}{i:Int}(h:evE Φ G env e s=.ok (.int i) s1):evO Φ G env (.yes e) s=.ok (some i) s1:=bnd h rfl
theorem eZ{m:Bool}{a:Ex}{lo hi st:OEx}{x:Val}{l h c:Option Int}{r:Out Val}(h0:evE Φ G env a s=.ok x s1)(h1:evO Φ G env lo s1=.ok l s2)(h2:evO Φ G env hi s2=.ok h s3)(h3:evO Φ G env st s3=.ok c s4)(h4:xF m x l h c s4=r):evE Φ G env (.sl m a lo hi st) s=r:=bnd h0 (bnd h1 (bnd h2 (bnd h3 h4)))
theorem zL:yd Φ G env .nil s=.ok [] s:=rfl
theorem zB{e:Ex}{es:Exs}{v:Val}{vs:List Val}(h1:evE Φ G env e s=.ok v s1)(h2:yd Φ G env es s1=.ok vs s2):yd Φ G env (.cons e es) s=.ok (v::vs) s2:=bnd h1 (bnd h2 rfl)
theorem dv{es:Exs}{vs:List Val}(h:yd Φ G env es s=.ok vs s1)(hl:vs.length≤zR):evE Φ G env (.tup es) s=.ok (.tup vs) s1:=bnd h (if_pos hl)
theorem Y2{es:Exs}{vs:List Val}(h:yd Φ G env es s=.ok vs s1)(hl:vs.length≤zR):evE Φ G env (.lst false es) s=.ok (.lst vs) s1:=bnd h (if_pos hl)
theorem yt{f:Bf}{m:Bool}{es:Exs}{vs:List Val}{r:Out Val}(h:yd Φ G env es s=.ok vs s1)(k:blt f m vs s1=r):evE Φ G env (.blt f m es) s=r:=bnd h k
theorem x_call{f:Str}{v:Nat}{es:Exs}{vs:List Val}{r:Out Val}(h:yd Φ G env es s=.ok vs s1)(k:Φ f v vs s1=r):evE Φ G env (.call f v es) s=r:=bnd h k
theorem vZ{f:Str}{v:Nat}{es:Exs}{vs:List Val}{P:Val→Sto→Prop}(h:yd Φ G env es s=.ok vs s1)(k:(Φ f v vs s1).post P):(evE Φ G env (.call f v es) s).post P:=by rw[x_call h rfl];exact k
theorem tW{i:Nat}{e:Ex}{cs:Sms}{v:Val}{P:Fl→Sto→Prop}(h:evE Φ G env e s=.ok v s1)(k:(zi Φ G (env.set i (some v)) cs s1).post P):(zi Φ G env (.cons (.asg i e) cs) s).post P:=yq.mpr (jf.mpr (by rw[h];exact zA.mpr k))
theorem ie{i:Nat}{e:Ex}{cs:Sms}{P:Fl→Sto→Prop}(h:(evE Φ G env e s).post fun v s1=>(zi Φ G (env.set i (some v)) cs s1).post P):(zi Φ G env (.cons (.asg i e) cs) s).post P:=yq.mpr (jf.mpr h)
theorem wA{e:Ex}{cs:Sms}{v:Val}{P:Fl→Sto→Prop}(h:evE Φ G env e s=.ok v s1)(k:(zi Φ G env cs s1).post P):(zi Φ G env (.cons (.expr e) cs) s).post P:=yq.mpr (jh.mpr (by rw[h];exact zA.mpr k))
theorem vh{e:Ex}{cs:Sms}{v:Val}{P:Fl→Sto→Prop}(h:evE Φ G env e s=.ok v s1)(k:P (.rt v) s1):(zi Φ G env (.cons (.ret e) cs) s).post P:=yq.mpr (jn.mpr (by rw[h];exact zA.mpr k))
theorem kh{e:Ex}{v:Val}{xs:List Val}(h:evE Φ G env e s=.ok v s1)(k:srcOf s1 v=some ⟨xs,none⟩):yL Φ G env (.val e) s=.ok ⟨xs,none⟩ s1:=post_eq.mpr (jj.mpr (by rw[h];exact zA.mpr ⟨_,k,rfl,rfl⟩))
theorem xl{e:Ex}{v:Val}{b:Bool}(h:evE Φ G env e s=.ok v s1)(k:truth s1 v=some b):evT Φ G env (.val e) s=.ok b s1:=post_eq.mpr (jr.mpr (by rw[h];exact zA.mpr ⟨_,k,rfl,rfl⟩))
theorem rO{c:Cn}{b:Bool}(h:evT Φ G env c s=.ok b s1):evT Φ G env (.not c) s=.ok (!b) s1:=bnd h rfl
theorem iy{c:Cn}{cs:Cns}{b:Bool}(h:evT Φ G env c s=.ok false s1)(k:ux Φ G env cs s1=.ok b s2):evT Φ G env (.or c cs) s=.ok b s2:=bnd h k
theorem t7:ux Φ G env .nil s=.ok false s:=rfl
theorem wj{c:Cn}{cs:Cns}{b:Bool}(h:evT Φ G env c s=.ok false s1)(k:ux Φ G env cs s1=.ok b s2):ux Φ G env (.cons c cs) s=.ok b s2:=bnd h k
theorem tX{c:Cn}{a cs:Sms}{P:Fl→Sto→Prop}(h:evT Φ G env c s=.ok false s1)(k:(zi Φ G env cs s1).post P):(zi Φ G env (.cons (.ifS c a .nil) cs) s).post P:=yq.mpr (YF.mpr (by rw[h];refine zA.mpr ?_;rw[if_neg Bool.false_ne_true];exact oY.mpr k))
theorem dr{a:Ex}{b:Bool}(h:evE Φ G env a s=.ok (.bool b) s1):evE Φ G env (.not a) s=.ok (.bool !b) s1:=bnd h rfl
theorem mF{P:Fl→Sto→Prop}(k:P (.nx env) s):(zi Φ G env .nil s).post P:=oY.mpr k
theorem fW{is:List Nat}{vs:List Val}{P:Fl→Sto→Prop}(hl:vs.length=is.length)(k:P (.nx ((is.zip vs).foldl (fun e p=>e.set p.1 (some p.2)) env)) s):(if vs.length=is.length then Out.ok (Fl.nx ((is.zip vs).foldl (fun e p=>e.set p.1 (some p.2)) env)) s else .stuck).post P:=by
 rw[if_pos hl];exact zA.mpr k
theorem dF{e:Ex}{k:Nat}(h:evE Φ G env e s=.ok (.int (k:Int)) s1)(hk:k≤zR):yL Φ G env (.range1 e) s=.ok ⟨z5 0 k,none⟩ s1:=by
 rw[post_eq]
 refine pH.mpr ?_
 rw[h]
 exact zA.mpr ⟨_,rfl,⟨by omega,by omega⟩,by rw[Int.toNat_natCast],rfl⟩
theorem dG{a b:Ex}{i j:Nat}(h:evE Φ G env a s=.ok (.int (i:Int)) s1)(h':evE Φ G env b s1=.ok (.int (j:Int)) s2)(hi:i≤1000)(hj:j≤1000):yL Φ G env (.range2 a b) s=.ok ⟨z5 i (j-i),none⟩ s2:=by
 rw[post_eq]
 refine pI.mpr ?_
 rw[h]
 refine zA.mpr ?_
 rw[h']
 exact zA.mpr ⟨_,_,rfl,rfl,⟨by omega,by omega,by omega,by omega,by unfold zR;omega⟩,by congr 2;omega,rfl⟩
end
end M
end
section
namespace M
open PySem
noncomputable def xC(l m:Int):Val→Bool
 |.int i=>decide (l≤i)&&decide (i≤m)
 |_=>false
theorem rT{l m i:Int}(h1:l≤i)(h2:i≤m):xC l m (.int i)=true:=by simp[xC,h1,h2]
def pe(Φ:Calls):Prop:=∀(v:Val) (l m:Int) (s:Sto),kindOf v≠none→Φ "is_whole" 0 [v,.int l,.int m] s=.ok (.bool (xC l m v)) s
def ua(Φ:Calls):Prop:=∀(vs:List Val) (l m:Int) (s:Sto),(∀v∈vs,kindOf v≠none)→Φ "are_wholes" 0 [.tup vs,.int l,.int m] s=.ok (.bool (vs.all (xC l m))) s
def xm(Φ:Calls):Prop:=∀(i l m:Int) (s:Sto),l≤i→i≤m→Φ "need_whole" 0 [.int i,.int l,.int m] s=.ok .none s
def uH(Φ:Calls):Prop:=∀(i:Int) (s:Sto),0≤i→i≤40→Φ "need_length" 0 [.int i] s=.ok .none s
def et(Φ:Calls):Prop:=∀(n i z:Nat) (s:Sto),i<n→2≤z→z≤8→Φ "most_step" 0 [.int n,.int i,.int z] s=.ok (.int ((n-1-i)/(z-1):Nat)) s
theorem w4{m:Bool}{vs:List Val}{s:Sto}:blt .len m [.tup vs] s=.ok (.int vs.length) s:=rfl
theorem qp{m:Bool}{vs:List Val}{s:Sto}:blt .len m [.lst vs] s=.ok (.int vs.length) s:=rfl
theorem bq{m:Bool}{ns:List Int}{s:Sto}:blt .len m [.ctup ns] s=.ok (.int ns.length) s:=by simp[blt,xN]
theorem jM{m:Bool}{ns:List Int}{s:Sto}:blt .len m [.scr ns] s=.ok (.int ns.length) s:=by simp[blt,xN]
theorem le_int{a b:Int}{s:Sto}:zS .le (.int a) (.int b) s=.ok (.bool (decide (a≤b))) s:=rfl
theorem lt_int{a b:Int}{s:Sto}:zS .lt (.int a) (.int b) s=.ok (.bool (decide (a<b))) s:=rfl
theorem ge_int{a b:Int}{s:Sto}:zS .ge (.int a) (.int b) s=.ok (.bool (decide (b≤a))) s:=rfl
theorem gt_int{a b:Int}{s:Sto}:zS .gt (.int a) (.int b) s=.ok (.bool (decide (b<a))) s:=rfl
theorem qE{m:Bool}{vs:List Val}{s:Sto}:blt .isi m [.tup vs,.ty "tuple"] s=.ok (.bool true) s:=rfl
theorem uK{α:Type}(f:α→Bool):∀xs:List α,boolsOf (xs.map fun x=>Val.bool (f x))=some (xs.map f)
 |[]=>rfl
 |x::xs=>by simp[boolsOf,uK f xs]
theorem kQ{α β:Type}(f:α→β)(xs:List α):xs.flatMap (fun x=>[f x])=xs.map f:=by
 induction xs with
 |nil=>rfl
 |cons x xs ih=>simp[ih]
theorem pj{m:Bool}{i j:Int}{s:Sto}:binOp m .add (.int i) (.int j) s=.ok (.int (i+j)) s:=by simp only[binOp]
theorem gH{m:Bool}{i j:Int}{s:Sto}:binOp m .sub (.int i) (.int j) s=.ok (.int (i-j)) s:=by simp only[binOp]
theorem dA{m:Bool}{i j:Int}{s:Sto}(h:-1000000≤i∧i≤1000000):binOp m .mul (.int i) (.int j) s=.ok (.int (i*j)) s:=by
 simp only[binOp]
 rw[if_pos (.inl (by omega))]
theorem nS{m:Bool}{i j:Int}{s:Sto}(h:-1000000≤j∧j≤1000000):binOp m .mul (.int i) (.int j) s=.ok (.int (i*j)) s:=by
 simp only[binOp]
 rw[if_pos (.inr (by omega))]
section
variable {T:Tbl}{Φ:Calls}{s:Sto}
theorem kg{v:Val}{m:Bool}{n:String}{a c:L2.Kd}{s:Sto}(h:kindOf v=some a)(h':v3 n=some c):blt .isi m [v,.ty n] s=.ok (.bool (a.sub c)) s:=by
 simp only[blt];rw[h,h']
theorem bc{v:Val}{a:L2.Kd}(h:kindOf v=some a):(∃i,v=.int i)∨(∃b,v=.bool b)∨(a.sub .int=false∧∀l m,xC l m v=false):=by
 cases v with
 |int i=>exact .inl ⟨i,rfl⟩
 |bool b=>exact .inr (.inl ⟨b,rfl⟩)
 |_=>cases h<;>exact .inr (.inr ⟨rfl,fun _ _=>rfl⟩)
theorem gz{v:Val}(h:kindOf v≠none):∃a,kindOf v=some a:=Option.ne_none_iff_exists'.mp h
theorem lS{v:Val}{l m:Int}(hk:kindOf v≠none):run T Φ F.yy [v,.int l,.int m] s=.ok (.bool (xC l m v)) s:=by
 obtain⟨a,ha⟩:=gz hk
 have e1:=kg (m:=false) (s:=s) ha (show v3 "int"=some .int from rfl)
 have e2:=kg (m:=false) (s:=s) ha (show v3 "bool"=some .bl from rfl)
 have end':∀{b:Bool},b=xC l m v→(z9 false s (.bool b) s).post fun x t=>x=.bool (xC l m v)∧t=s:=fun{b} e=>by
  rw[xM vY,e];exact zA.mpr ⟨rfl,rfl⟩
 rw[post_eq,F.yy,wC]
 refine⟨rfl,?_⟩
 show (zi Φ T.gl [some v,some (.int l),some (.int m)] _ s).post _
 rcases bc ha with⟨i,rfl⟩|⟨b,rfl⟩|⟨h1,h2⟩
 . cases ha
   have hc:evE Φ T.gl [some (.int i),some (.int l),some (.int m)] (.chain .le .le (.var 1) (.var 0) (.var 2)) s=.ok (.bool (xC l m (.int i))) s:=by
    refine bnd (zJ rfl) (bnd (zJ rfl) (bnd le_int ?_))
    show (match Val.bool (decide (l≤i)) with
     |.bool true=>(evE Φ T.gl [some (.int i),some (.int l),some (.int m)] (.var 2) s).bind fun z s4=>zS .le (.int i) z s4
     |.bool false=>.ok (.bool false) s
     |_=>.stuck)=Out.ok (.bool (decide (l≤i)&&decide (i≤m))) s
    cases decide (l≤i) with
    |true=>exact bnd (zJ rfl) le_int
    |false=>rfl
   exact vh (hW (yt (zB (zJ rfl) (zB lg zL)) e1) (dr (yt (zB (zJ rfl) (zB lg zL)) e2)) hc) (end' rfl)
 . cases ha
   exact vh (ZM (yt (zB (zJ rfl) (zB lg zL)) e1) (dr (yt (zB (zJ rfl) (zB lg zL)) e2))) (end' rfl)
 . rw[h1]at e1
   exact vh (ZL (yt (zB (zJ rfl) (zB lg zL)) e1)) (end' (h2 _ _).symm)
theorem ow(c:pe Φ){vs:List Val}{l m:Int}(hk:∀v∈vs,kindOf v≠none):run T Φ F.yU [.tup vs,.int l,.int m] s=.ok (.bool (vs.all (xC l m))) s:=by
 rw[post_eq]
 simp[F.yU,EVl,zH,zE]
 refine jg (fun e=>∃o,e=[o,some (.int l),some (.int m)]) (fun x=>[.bool (xC l m x)]) ?_
 simp[EVl,zH,zE]
 refine⟨?_,?_⟩
 . intro x hx
   simp[EVl,zH,zE,c x l m s (hk x hx)]
 . simp[newList,EVl,zH,zE,blt,kQ,yP,uK]
theorem sS(c:pe Φ){i l m:Int}(h1:l≤i)(h2:i≤m):run T Φ F.ya [.int i,.int l,.int m] s=.ok .none s:=by
 rw[post_eq]
 simp[F.ya,EVl,zH,zE,c (.int i) l m s (by simp[kindOf]),rT h1 h2]
theorem iY{n i z:Nat}(h1:i<n)(h2:2≤z)(h3:z≤8):run T Φ F.yj [.int n,.int i,.int z] s=.ok (.int ((n-1-i)/(z-1):Nat)) s:=by
 rw[post_eq]
 have a1:(0:Int)<(z:Int)-1∧(z:Int)-1<1073741824:=by omega
 have a2:((n:Int)-1-(i:Int))/((z:Int)-1)=(((n-1-i)/(z-1):Nat):Int):=by
  rw[Int.natCast_ediv]
  congr 1<;>omega
 simp[F.yj,EVl,zH,zE,binOp]
 refine⟨by omega,?_⟩
 rw[a2];simp
end
end M
end
section
namespace M
open PySem
theorem wa{lo:Int}{n:Nat}{x:Val}(h:x∈z5 lo n):∃k:Nat,k<n∧x=.int (lo+k):=by
 unfold z5 at h
 obtain⟨k,h1,rfl⟩:=List.mem_map.mp h
 exact⟨k,List.mem_range.mp h1,rfl⟩
theorem dQ(ns:List Int)(lo st:Int)(n:Nat):L2.zW (ns.map Val.int) lo st n=(L2.zW ns lo st n).map Val.int:=by
 unfold L2.zW
 rw[List.map_filterMap]
 congr 1
 funext k
 simp[List.getElem?_map]
theorem r0(a b:Int):PyData.eqv (.int a) (.int b)=decide (a=b):=by
 by_cases h:a=b<;>simp[PyData.eqv,h]
theorem eq_int{a b:Int}{s:Sto}:zS .eq (.int a) (.int b) s=.ok (.bool (decide (a=b))) s:=by
 simp[zS,zp,yz,sG,Val.isD,Val.d,PyData.depth,r0]
theorem ne_int{a b:Int}{s:Sto}:zS .ne (.int a) (.int b) s=.ok (.bool !(decide (a=b))) s:=by
 simp[zS,zp,yz,sG,Val.isD,Val.d,PyData.depth,r0]
theorem cb{vs:List Val}{k:Nat}{v:Val}{s:Sto}(h:vs[k]?=some v):y1 (.tup vs) (.int k) s=.ok v s:=by
 simp[y1,xN,L2.uc h]
theorem tD{ns:List Int}{k:Nat}{i:Int}{s:Sto}(h:ns[k]?=some i):y1 (.tup (ns.map .int)) (.int k) s=.ok (.int i) s:=cb (by rw[List.getElem?_map,h];rfl)
theorem wZ(ns:List Int):(ns.map Val.int).all flat=true:=by
 rw[List.all_map];simp[flat]
theorem xq(ns:List Int)(y:Int):(ns.map Val.int).countP (fun z=>eqF z (.int y))=ns.count y:=by
 rw[List.countP_map];rfl
section
variable {T:Tbl}{Φ:Calls}{s:Sto}
def ZN(Φ:Calls):Prop:=∀(ns:List Int) (f d z:Nat) (s:Sto),0<d→1≤z→f+d*(z-1)<ns.length→z≤zR→Φ "is_one_hue" 0 [.tup (ns.map .int),.int f,.int d,.int z] s=.ok (.bool (vJ ns f d z)) s
theorem eD{ns:List Int}{f d z:Nat}(hd:0<d)(hz:1≤z)(h:f+d*(z-1)<ns.length)(hl:z≤zR):run T Φ F.yV [.tup (ns.map .int),.int f,.int d,.int z] s=.ok (.bool (vJ ns f d z)) s:=by
 have hf:f<ns.length:=by
  have:0≤d*(z-1):=Nat.zero_le _
  omega
 have a1:=nV hd hz h
 have hdI:(d:Int)≠0:=by omega
 rw[post_eq]
 have hm:-(2 ^ 64)<(z:Int)∧(z:Int)<2 ^ 64:=by
  unfold zR at hl;omega
 have hmul:binOp false .mul (.int d) (.int z) s=.ok (.int ((d:Int)*z)) s:=by
  simp only[binOp]
  rw[if_pos (.inr hm)]
 have hix:y1 (.tup (ns.map .int)) (.int f) s=.ok (.int (ns.getD f 0)) s:=tD (by rw[List.getElem?_eq_getElem hf,List.getD_eq_getElem?_getD,List.getElem?_eq_getElem hf];rfl)
 have hadd:binOp false .add (.int f) (.int ((d:Int)*z)) s=.ok (.int ((f:Int)+(d:Int)*z)) s:=by simp only[binOp]
 have hsl:xF false (.tup (ns.map .int)) (some (f:Int)) (some ((f:Int)+(d:Int)*z)) (some (d:Int)) s=.ok (.tup (((List.range z).map fun k=>ns.getD (f+k*d) 0).map .int)) s:=by
  simp only[xF,List.length_map]
  rw[a1,if_pos ⟨hdI,hl⟩]
  simp only[dQ,pO h]
 have key:decide ((((List.range z).map fun k=>ns.getD (f+k*d) 0).count (ns.getD f 0):Int)=(z:Int))=vJ ns f d z:=by
  rw[Bool.eq_iff_iff,fD h,decide_eq_true_iff]
  have hl:((List.range z).map fun k=>ns.getD (f+k*d) 0).length=z:=by rw[List.length_map,List.length_range]
  constructor
  . intro e x hx
    exact(List.count_eq_length.mp (by rw[hl];exact Int.ofNat.inj e) x hx).symm
  . intro e
    rw[List.count_eq_length.mpr fun x hx=>(e x hx).symm,hl]
 generalize hy:ns.getD f 0=y at hix key
 generalize hxs:(List.range z).map (fun k=>ns.getD (f+k*d) 0)=xs at hsl key
 simp only[F.yV,EVl,zH,zE]
 simp[EVl,zH,zE,hmul,hadd,hix,hsl,zy,wZ,xq,eq_int,flat]
 exact key
end
end M
end
section
namespace M
open PySem
theorem v5{ns:List Int}:∀v∈ns.map Val.int,kindOf v≠none:=fun v hv=>by
 obtain⟨i,_,rfl⟩:=List.mem_map.mp hv
 simp[kindOf]
theorem vD{l m:Int}{ns:List Int}(h:∀x∈ns,l≤x∧x≤m):(ns.map Val.int).all (xC l m)=true:=by
 rw[List.all_eq_true]
 intro v hv
 obtain⟨i,hi,rfl⟩:=List.mem_map.mp hv
 exact rT (h i hi).1 (h i hi).2
noncomputable abbrev tpI(ns:List Int):Val:=.tup (ns.map .int)
section
variable {T:Tbl}{Φ:Calls}{s:Sto}
def sZ(Φ:Calls):Prop:=∀(zs:List Int) (s:Sto),Sz zs→Φ "are_sizes" 0 [tpI zs] s=.ok (.bool true) s
def vA(Φ:Calls):Prop:=∀(zs:List Int) (s:Sto),Sz zs→Φ "need_sizes" 0 [tpI zs] s=.ok .none s
theorem sP(c:sZ Φ){zs:List Int}(h:Sz zs):run T Φ F.yY [tpI zs] s=.ok .none s:=by
 rw[post_eq]
 simp[F.yY,EVl,zH,zE,c zs s h]
theorem gD{m:Bool}{a b:List Val}{s:Sto}(h:a.length+b.length≤zR):binOp m .add (.tup a) (.tup b) s=.ok (.tup (a++b)) s:=by
 simp only[binOp];rw[if_pos h]
end
end M
end
section
namespace M
open PySem
section
variable {T:Tbl}{Φ:Calls}{s:Sto}
theorem lx{ns:List Int}{p:Nat}{i:Int}(h:ns[p]?=some i):p<ns.length:=(List.getElem?_eq_some_iff.mp h).1
end
end M
end
section
namespace M
open PySem
noncomputable def wq(a b:Int):Cel:=.lst [.int a,.int b]
def wF(s:Sto)(p:Nat):Prop:=∃a b,s[p]?=some (wq a b)∧0≤b∧b<2147483629
def wx(s:Sto)(p:Nat)(s':Sto):Prop:=∃a b,s'=s.set p (wq a b)∧0≤b∧b<2147483629
theorem wF.lt{s:Sto}{p:Nat}(h:wF s p):p<s.length:=by
 obtain⟨a,b,h,_⟩:=h
 exact(List.getElem?_eq_some_iff.mp h).1
theorem wx.at_{s s':Sto}{p:Nat}(h:wx s p s')(hp:p<s.length):wF s' p:=by
 obtain⟨a,b,rfl,h1⟩:=h
 exact⟨a,b,List.getElem?_set_self hp,h1⟩
theorem wx.ne{s s':Sto}{p q:Nat}(h:wx s p s')(hq:q≠p):s'[q]?=s[q]?:=by
 obtain⟨a,b,rfl,_⟩:=h
 exact List.getElem?_set_ne (fun e=>hq e.symm)
theorem mn{s s' t:Sto}{p:Nat}{v:Val}(h:wx s p s')(hv:v.noRef=true):z9 false s v (s'++t)=.ok v s':=by
 obtain⟨a,b,rfl,_⟩:=h
 exact tF hv rfl
theorem oH{s s':Sto}{p:Nat}{v:Val}(h:wx s p s')(hv:v.noRef=true):z9 false s v s'=.ok v s':=by
 have:=mn (t:=[]) h hv
 rwa [List.append_nil]at this
theorem bmod{m:Bool}{i j:Int}{s:Sto}(h:0<j):binOp m .mod (.int i) (.int j) s=.ok (.int (i%j)) s:=by
 simp only[binOp];rw[if_pos h]
theorem bdiv{m:Bool}{i j:Int}{s:Sto}(h:0<j∧j<1073741824):binOp m .fdiv (.int i) (.int j) s=.ok (.int (i/j)) s:=by
 simp only[binOp];rw[if_pos h]
theorem oC{vs:List Val}{k:Nat}{v:Val}{s:Sto}(h:vs[k]?=some v):y1 (.lst vs) (.int k) s=.ok v s:=by
 simp[y1,xN,L2.uc h]
theorem oD{vs:List Val}{i k:Nat}{v:Val}{s:Sto}(hs:s[i]?=some (.lst vs))(h:vs[k]?=some v):y1 (.ref i) (.int k) s=.ok v s:=by
 simp[y1,xN,hs,L2.uc h]
section
variable {T:Tbl}{Φ:Calls}{s:Sto}
def ee(Φ:Calls):Prop:=∀(ns:List Int) (k:Nat) (s:Sto),∃c,Φ "_law_cell_at" 0 [.scr ns,.int k] s=.ok (.int c) s
def ZO(Φ:Calls):Prop:=∀(c:Int) (s:Sto),∃a b,Φ "_law_pen" 1 [.int c] s=.ok (.ref s.length) (s++[wq a b])∧0≤b∧b<2147483629
def nO(Φ:Calls):Prop:=∀(p:Nat) (m:Int) (s:Sto),wF s p→0<m→m<1000000→(Φ "_law_draw" 0 [.ref p,.int m] s).post fun v s'=>∃r:Nat,v=.int r∧(r:Int)<m∧wx s p s'
theorem iQ(ns:List Int)(k:Nat):∃c,run T Φ F.zq [.scr ns,.int k] s=.ok (.int c) s:=by
 by_cases h:k<ns.length
 . refine⟨ns[k],?_⟩
   rw[post_eq]
   have h':(k:Int)<ns.length:=by omega
   have e:(ns.map Val.int)[k]?=some (.int ns[k]):=by rw[List.getElem?_map,List.getElem?_eq_getElem h];rfl
   have c1:y1 (.scr ns) (.int k) s=.ok (.int ns[k]) s:=by simp[y1,xN,L2.uc e]
   simp[F.zq,EVl,zH,zE,jM,lt_int,h',h,c1]
 . refine⟨0,?_⟩
   rw[post_eq]
   have h':¬(k:Int)<ns.length:=by omega
   simp[F.zq,EVl,zH,zE,jM,lt_int,h',h]
theorem eE(c:Int):∃a b,run T Φ F.yD [.int c] s=.ok (.ref s.length) (s++[wq a b])∧0≤b∧b<2147483629:=by
 have key:(run T Φ F.yD [.int c] s).post fun v s'=>∃a b,v=.ref s.length∧s'=s++[wq a b]∧0≤b∧b<2147483629:=by
  have c1:∀(i:Int) (b:Bool),binOp false .mul (.int i) (.int (if b then 1 else 0)) s=.ok (.int (i*(if b then 1 else 0))) s:=fun i b=>nS (by cases b<;>simp)
  have c2:∀i:Int,binOp false .mod (.int i) (.int 2147483629) s=.ok (.int (i%2147483629)) s:=fun i=>by simp[binOp]
  have c3:binOp false .pow (.int 10) (.int 18) s=.ok (.int (10 ^ 18)) s:=by simp[binOp]
  simp[F.yD,EVl,zH,zE,gH,blt]
  simp[EVl,zH,zE,c1,c2,c3,ge_int,blt,zR,newList,wq]
  rw[nS (by split<;>omega)]
  simp only[zA]
  rw[bmod (by omega)]
  simp only[zA]
  exact⟨trivial,_,_,⟨trivial,rfl,rfl⟩,Int.emod_nonneg _ (by omega),Int.emod_lt_of_pos _ (by omega)⟩
 obtain⟨v,s',h,a,b,rfl,rfl,h1⟩:=key
 exact⟨a,b,h,h1⟩
theorem iR{p:Nat}{m:Int}(hp:wF s p)(h0:0<m)(h1:m<1000000):(run T Φ F.yg [.ref p,.int m] s).post fun v s'=>∃r:Nat,v=.int r∧(r:Int)<m∧wx s p s':=by
 obtain⟨a,b,hs,hb,hb1⟩:=hp
 have hlt:=(List.getElem?_eq_some_iff.mp hs).1
 have i0:y1 (.ref p) (.int 0) s=.ok (.int a) s:=oD (k:=0) hs rfl
 have i1:y1 (.ref p) (.int 1) s=.ok (.int b) s:=oD (k:=1) hs rfl
 have i1':∀c d,y1 (.ref p) (.int 1) (s.set p (wq c d))=.ok (.int d) (s.set p (wq c d)):=fun c d=>oD (k:=1) (List.getElem?_set_self hlt) rfl
 have lv:∀(i:Int) (c d:Int),z9 false s (.int i) (s.set p (wq c d))=.ok (.int i) (s.set p (wq c d)):=fun i c d=>mq rfl rfl
 simp[F.yg,EVl,zH,zE,i0,gt_int]
 by_cases ha:0<a
 . refine .inr ⟨ha,?_⟩
   have c1:blt .divmod false [.int a,.int m] s=.ok (.tup [.int (a/m),.int (a%m)]) s:=by
    simp only[blt];rw[if_pos ⟨h0,by omega⟩]
   rw[c1]
   simp only[zA]
   refine⟨[some (.ref p),some (.int m),some (.int (a/m)),some (.int (a%m)),none],rfl,_,rfl,_,rfl,p,rfl,_,hs,0,rfl,_,rfl,?_⟩
   have:upd s p ([Val.int a,Val.int b].set 0 (.int (a/m)))=s.set p (wq (a/m) b):=rfl
   rw[this,lv]
   simp only[zA]
   have e1:=Int.emod_nonneg a (show m≠0 by omega)
   have e2:=Int.emod_lt_of_pos a h0
   exact⟨(a%m).toNat,by rw[Int.toNat_of_nonneg e1],by omega,_,_,rfl,hb,hb1⟩
 . refine .inl ⟨by omega,?_⟩
   rw[i1];simp only[zA]
   rw[nS (by omega)];simp only[zA,pj]
   rw[bmod (by omega)];simp only[zA]
   generalize hd:(b*48271+30269)%2147483629=d
   have d0:0≤d:=by rw[←hd];exact Int.emod_nonneg _ (by omega)
   have d1:d<2147483629:=by rw[←hd];exact Int.emod_lt_of_pos _ (by omega)
   refine⟨_,hs,1,rfl,?_⟩
   have:upd s p ([Val.int a,Val.int b].set 1 (.int d))=s.set p (wq a d):=rfl
   rw[this]
   simp only[i1',zA]
   have c2:binOp false .mul (.int d) (.int d) (s.set p (wq a d))=.ok (.int (d*d)) (s.set p (wq a d)):=by
    simp only[binOp];rw[if_pos (.inl (by omega))]
   rw[c2];simp only[i1',zA]
   rw[dA (by omega)];simp only[zA,pj]
   rw[bmod (by omega)];simp only[zA]
   rw[bdiv (by omega)];simp only[zA]
   rw[bmod h0];simp only[zA,lv]
   generalize (d*d+40692*d+7)%2147483587/64=q
   have e1:=Int.emod_nonneg q (show m≠0 by omega)
   have e2:=Int.emod_lt_of_pos q h0
   exact⟨(q%m).toNat,by rw[Int.toNat_of_nonneg e1],by omega,_,_,rfl,d0,d1⟩
end
end M
end
section
namespace M
open PySem
theorem gE{s:Sto}{vs:List Val}{y:Val}(h:vs.length<zR):zy .append (.ref s.length) [y] (s++[.lst vs])=.ok .none (s++[.lst (vs++[y])]):=by
 simp[zy,h,upd]
section
variable {T:Tbl}{Φ:Calls}{s:Sto}
theorem f9(lo:Int)(n:Nat):(z5 lo n).length=n:=by unfold z5;rw[List.length_map,List.length_range]
theorem iL(lo:Int)(k:Nat):z5 lo (k+1)=.int lo::z5 (lo+1) k:=by
 unfold z5
 rw[List.range_succ_eq_map,List.map_cons,List.map_map]
 congr 1
 . simp
 . refine List.map_congr_left fun j _=>?_
   show Val.int (lo+((j+1:Nat):Int))=Val.int (lo+1+(j:Int))
   congr 1;omega
theorem lO{lo:Int}{k:Nat}{x:Val}{rest:List Val}(h:x::rest=z5 lo k):∃k',k=k'+1∧x=.int lo∧rest=z5 (lo+1) k':=by
 cases k with
 |zero=>simp[z5]at h
 |succ k=>
  rw[iL]at h
  injection h with h1 h2
  exact⟨k,rfl,h1,h2⟩
theorem eA{lo:Int}{k:Nat}(h:[]=z5 lo k):k=0:=by
 have:=congrArg List.length h
 rw[f9]at this
 exact this.symm
end
end M
end
section
namespace M
open PySem
theorem s9:∀ks:List Int,vz (ks.map .int)=true
 |[]=>by rw[List.map_nil,vz]
 |k::ks=>by rw[List.map_cons,vz,s9 ks,Val.isD];rfl
theorem eq_nil{vs:List Val}{s:Sto}(h:vz vs=true):zS .eq (.lst vs) (.lst []) s=.ok (.bool vs.isEmpty) s:=by
 have h1:(Val.lst vs).isD=true:=by rw[Val.isD];exact h
 have h2:(Val.lst []).isD=true:=by rw[Val.isD,vz]
 have h3:(Val.lst []).d=.list []:=by rw[Val.d,ds]
 have h4:(Val.lst vs).d=.list (ds vs):=by rw[Val.d]
 have h5:PyData.eqv (.list (ds vs)) (.list [])=vs.isEmpty:=by
  cases vs with
  |nil=>rw[ds];rfl
  |cons v vs=>rw[ds];rfl
 simp only[zS,zp,yz,sG,h1,h2,h3,h4,h5]
 rfl
end M
end
section
namespace M
open PySem
theorem nh:∀ks:List Int,ds (ks.map .int)=ks.map PyData.int
 |[]=>by rw[List.map_nil,ds];rfl
 |k::ks=>by rw[List.map_cons,ds,nh ks,Val.d];rfl
theorem qx:∀{n:Nat} {vs:List Val} {x:Val},x∈yF n vs→∃k v,vs[k]?=some v∧x=.tup [.int ((n+k:Nat):Int),v]
 |_,[],_,h=>by cases h
 |n,v::vs,x,h=>by
  rw[yF]at h
  rcases List.mem_cons.mp h with e|h
  . exact⟨0,v,rfl,e⟩
  . obtain⟨k,w,h1,h2⟩:=qx h
    refine⟨k+1,w,by simpa using h1,?_⟩
    rw[h2]
    congr 3;omega
theorem max2{m:Bool}{i j:Int}{s:Sto}:blt .max m [.int i,.int j] s=.ok (.int (if j > i then j else i)) s:=rfl
theorem min2{m:Bool}{i j:Int}{s:Sto}:blt .min m [.int i,.int j] s=.ok (.int (if j<i then j else i)) s:=rfl
theorem kM{Φ:Calls}{G:Str→Option Val}{env:Env}{s:Sto}{ns:List Int}{K:Nat}(h0:env[0]?=some (some (.scr ns)))(hK:K≤100) :
 yL Φ G env (.range1 (.blt .max false (.cons (.lit (.int 1)) (.cons (.blt .min false (.cons (.blt .len false (.cons (.var 0) .nil)) (.cons (.lit (.int K)) .nil))) .nil)))) s=.ok ⟨z5 0 (max 1 (min ns.length K)),none⟩ s:=by
 rw[post_eq]
 simp only[EVl,zH,zE]
 refine⟨_,h0,?_⟩
 rw[jM];simp only[zA]
 rw[min2];simp only[zA]
 rw[max2];simp only[zA]
 have e:(if (if (K:Int)<(ns.length:Int) then (K:Int) else (ns.length:Int)) > 1 then (if (K:Int)<(ns.length:Int) then (K:Int) else (ns.length:Int)) else 1)=((max 1 (min ns.length K):Nat):Int):=by
  split<;>split<;>omega
 rw[e]
 refine⟨_,rfl,⟨by omega,by unfold zR;omega⟩,?_⟩
 simp
theorem leave_top{v:Val}{s:Sto}(h:v.noRef=true):z9 false [] v s=.ok v []:=by
 unfold z9
 simp[xD,freeze,h]
end M
end
section
namespace M
open L2
noncomputable def qW(ns:List Int)(f d z:Nat)(h:Int):Bool:=(List.range z).all fun k=>decide (ns[f+k*d]?=some h)
theorem z8{ns:List Int}{f d z:Nat}{h:Int}:qW ns f d z h=true↔∀k<z,ns[f+k*d]?=some h:=by
 unfold qW
 rw[List.all_eq_true]
 exact⟨fun H k hk=>of_decide_eq_true (H k (List.mem_range.mpr hk)),fun H k hk=>decide_eq_true (H k (List.mem_range.mp hk))⟩
noncomputable def wm(ns:List Int)(z:Nat)(h:Int):Bool:=(List.range (ns.length/(z-1))).any fun j=>(List.range (z-1)).all fun k=>decide (ns[ns.length-(k+1)*(j+1)]?=some h)
theorem nj{ns:List Int}{z:Nat}{h:Int}(hz:2≤z):wm ns z h=true↔∃d,0<d∧(z-1)*d≤ns.length∧∀k,1≤k→k<z→ns[ns.length-k*d]?=some h:=by
 unfold wm
 rw[List.any_eq_true]
 constructor
 . rintro ⟨j,hj,H⟩
   rw[List.mem_range,Nat.lt_iff_add_one_le,Nat.le_div_iff_mul_le (by omega),Nat.mul_comm]at hj
   rw[List.all_eq_true]at H
   refine⟨j+1,by omega,hj,fun k h1 h2=>?_⟩
   have:=of_decide_eq_true (H (k-1) (List.mem_range.mpr (by omega)))
   rwa [show k-1+1=k by omega]at this
 . rintro ⟨d,h1,h2,H⟩
   refine⟨d-1,?_,?_⟩
   . rw[List.mem_range,Nat.lt_iff_add_one_le,Nat.le_div_iff_mul_le (by omega),show d-1+1=d by omega,Nat.mul_comm];exact h2
   . rw[List.all_eq_true]
     intro k hk
     rw[List.mem_range]at hk
     rw[show d-1+1=d by omega]
     exact decide_eq_true (H (k+1) (by omega) (by omega))
def pf(zs ns:List Int):Prop:=∀h f d,h<zs.length→0<d→f+d*(zd zs h-1)<ns.length→qW ns f d (zd zs h) h≠true
structure Fit(zs ns:List Int):Prop where
 hue:∀x∈ns,0≤x∧x<zs.length
 row:pf zs ns
theorem tj{ns:List Int}{h:Int}{i:Nat}(hi:i<ns.length):(ns++[h])[i]?=ns[i]?:=List.getElem?_append_left hi
theorem g6{zs ns:List Int}{h0:Nat}{h f d:Nat}(hF:pf zs ns)(hh:h<zs.length)(hd:0<d)(hl:f+d*(zd zs h-1)<(ns++[(h0:Int)]).length)(hz:2≤zd zs h)(ha:qW (ns++[(h0:Int)]) f d (zd zs h) h=true) :
 f+d*(zd zs h-1)=ns.length∧h=h0:=by
 rw[List.length_append,List.length_singleton]at hl
 rw[z8]at ha
 have key:f+d*(zd zs h-1)=ns.length:=by
  apply Nat.le_antisymm (by omega)
  refine Nat.not_lt.mp fun hlt=>hF h f d hh hd hlt ?_
  rw[z8]
  intro k hk
  have hk':k*d≤(zd zs h-1)*d:=Nat.mul_le_mul_right _ (by omega)
  have e:=Nat.mul_comm d (zd zs h-1)
  rw[←ha k hk,tj (by omega)]
 refine⟨key,?_⟩
 have:=ha (zd zs h-1) (by omega)
 rw[Nat.mul_comm,key,List.getElem?_append_right (Nat.le_refl _),Nat.sub_self]at this
 have:=Option.some.inj this
 omega
theorem cN{ns:List Int}{h0:Nat}{f d z:Nat}(hz:2≤z)(hd:0<d)(hl:f+d*(z-1)=ns.length)(ha:qW (ns++[(h0:Int)]) f d z h0=true):wm ns z h0=true:=by
 rw[nj hz]
 rw[z8]at ha
 have e:=Nat.mul_comm d (z-1)
 refine⟨d,hd,by omega,fun k h1 h2=>?_⟩
 have hk:=ha (z-1-k) (by omega)
 have e2:(z-1-k)*d+k*d=(z-1)*d:=by rw[←Nat.add_mul];congr 1;omega
 have hp:1*1≤k*d:=Nat.mul_le_mul h1 hd
 have e3:f+(z-1-k)*d=ns.length-k*d:=by omega
 rw[e3,tj (by omega)]at hk
 exact hk
theorem b5{ns:List Int}{h0:Nat}{z:Nat}(hz:2≤z)(he:wm ns z h0=true):∃f d,0<d∧f+d*(z-1)=ns.length∧qW (ns++[(h0:Int)]) f d z h0=true:=by
 rw[nj hz]at he
 obtain⟨d,hd,hl,H⟩:=he
 have e:=Nat.mul_comm d (z-1)
 refine⟨ns.length-(z-1)*d,d,hd,by omega,?_⟩
 rw[z8]
 intro k hk
 have e2:(z-1-k)*d+k*d=(z-1)*d:=by rw[←Nat.add_mul];congr 1;omega
 have e3:ns.length-(z-1)*d+k*d=ns.length-(z-1-k)*d:=by omega
 rw[e3]
 by_cases hc:k=z-1
 . subst hc
   rw[Nat.sub_self,Nat.zero_mul,Nat.sub_zero,List.getElem?_append_right (Nat.le_refl _),Nat.sub_self];rfl
 . have hp:1*1≤(z-1-k)*d:=Nat.mul_le_mul (by omega) hd
   rw[tj (by omega)]
   exact H (z-1-k) (by omega) (by omega)
theorem mW{zs ns:List Int}{h0:Nat}(hz:Sz zs)(hF:pf zs ns)(hh:h0<zs.length):pf zs (ns++[(h0:Int)])↔wm ns (zd zs h0) h0=false:=by
 have z2:=(xj hz hh).2.1
 constructor
 . intro H
   cases he:wm ns (zd zs h0) h0 with
   |false=>rfl
   |true=>
    obtain⟨f,d,hd,hl,ha⟩:=b5 z2 he
    exact(H h0 f d hh hd (by rw[List.length_append,List.length_singleton];omega) ha).elim
 . intro he h f d h1 h2 h3 ha
   obtain⟨e1,e2⟩:=g6 hF h1 h2 h3 (xj hz h1).2.1 ha
   subst e2
   rw[cN z2 h2 e1 ha]at he
   cases he
theorem Fit.snoc{zs ns:List Int}{h0:Nat}(hz:Sz zs)(hF:Fit zs ns)(hh:h0<zs.length)(he:wm ns (zd zs h0) h0=false):Fit zs (ns++[(h0:Int)]):=by
 refine⟨fun x hx=>?_,(mW hz hF.row hh).mpr he⟩
 rcases List.mem_append.mp hx with hx|hx
 . exact hF.hue x hx
 . rw[List.mem_singleton.mp hx];omega
theorem lu{ns:List Int}{f d z:Nat}{h:Int}(hz:1≤z)(hl:f+d*(z-1)<ns.length):qW ns.reverse f d z h=qW ns (ns.length-1-(f+d*(z-1))) d z h:=by
 rw[Bool.eq_iff_iff,z8,z8]
 have e:=Nat.mul_comm d (z-1)
 have key:∀k,k<z→ns.reverse[f+k*d]?=ns[ns.length-1-(f+d*(z-1))+(z-1-k)*d]?:=fun k hk=>by
  have e2:(z-1-k)*d+k*d=(z-1)*d:=by rw[←Nat.add_mul];congr 1;omega
  rw[List.getElem?_reverse (by omega)]
  congr 1;omega
 constructor
 . intro H k hk
   have:=key (z-1-k) (by omega)
   rw[H _ (by omega),show z-1-(z-1-k)=k by omega]at this
   exact this.symm
 . intro H k hk
   rw[key k hk];exact H _ (by omega)
theorem pf.rev{zs ns:List Int}(hz:Sz zs)(hF:pf zs ns):pf zs ns.reverse:=fun h f d h1 h2 h3 ha=>by
 rw[List.length_reverse]at h3
 have z2:=(xj hz h1).2.1
 rw[lu (by omega) h3]at ha
 exact hF h _ d h1 h2 (by omega) ha
theorem Fit.rev{zs ns:List Int}(hz:Sz zs)(hF:Fit zs ns):Fit zs ns.reverse:=⟨fun x hx=>hF.hue x (List.mem_reverse.mp hx),hF.row.rev hz⟩
theorem Fit.take{zs ns:List Int}(hF:Fit zs ns)(n:Nat):Fit zs (ns.take n):=by
 refine⟨fun x hx=>hF.hue x (List.mem_of_mem_take hx),fun h f d h1 h2 h3 ha=>?_⟩
 rw[List.length_take]at h3
 refine hF.row h f d h1 h2 (by omega) ?_
 rw[z8]at ha ⊢
 intro k hk
 have hk':k*d≤(zd zs h-1)*d:=Nat.mul_le_mul_right _ (by omega)
 have e:=Nat.mul_comm d (zd zs h-1)
 have:=ha k hk
 rwa [List.getElem?_take_of_lt (by omega)]at this
theorem gP(zs:List Int):Fit zs []:=⟨fun x hx=>(by cases hx),fun h f d _ _ h3 _=>absurd h3 (Nat.not_lt_zero _)⟩
end M
end
section
namespace F
open PySem M
noncomputable def zl:Fn:=⟨["sizes","hues","place","hue"],["sizes","hues"],false,(.cons (.forS (.nms [2,3]) (.enum (.var 1)) (.cons (.ifS (.val (.cmp .ge (.var 3) (.blt .len false (.cons (.var 0) .nil)))) (.cons (.ret (.var 2)) .nil) .nil) .nil)) (.cons (.ret (.lit .none)) .nil))⟩
noncomputable def zm:Fn:=⟨["sizes","hues","first","hue","step"],["sizes","hues"],false,(.cons (.forS (.nms [2,3]) (.enum (.var 1)) (.cons (.ifS (.val (.cmp .ge (.var 3) (.lit (.int 0)))) (.cons (.forS (.nm 4) (.range2 (.lit (.int 1)) (.bin false .add (.call "most_step" 0 (.cons (.blt .len false (.cons (.var 1) .nil)) (.cons (.var 2) (.cons (.ix (.var 0) (.var 3)) .nil)))) (.lit (.int 1)))) (.cons (.ifS (.val (.call "is_one_hue" 0 (.cons (.var 1) (.cons (.var 2) (.cons (.var 4) (.cons (.ix (.var 0) (.var 3)) .nil)))))) (.cons (.ret (.tup (.cons (.var 2) (.cons (.var 4) .nil)))) .nil) .nil) .nil)) .nil) .nil) .nil)) (.cons (.ret (.lit .none)) .nil))⟩
noncomputable def yI:Fn:=⟨["sizes","strip","place","row"],["sizes","strip"],false,(.cons (.expr (.call "need_sizes" 0 (.cons (.var 0) .nil))) (.cons (.expr (.call "need_strip" 0 (.cons (.var 1) .nil))) (.cons (.asg 2 (.call "first_hue_wrong" 0 (.cons (.var 0) (.cons (.var 1) .nil)))) (.cons (.ifS (.val (.cmp .isNot (.var 2) (.lit .none))) (.cons (.ret (.tup (.cons (.lit (.str "hue")) (.cons (.var 2) .nil)))) .nil) .nil) (.cons (.asg 3 (.call "first_row_wrong" 0 (.cons (.var 0) (.cons (.var 1) .nil)))) (.cons (.ret (.ife (.val (.cmp .is (.var 3) (.lit .none))) (.lit .none) (.tup (.cons (.lit (.str "row")) (.cons (.ix (.var 3) (.lit (.int 0))) (.cons (.ix (.var 3) (.lit (.int 1))) .nil)))))) .nil))))))⟩
noncomputable def vo:Fn:=⟨["sizes","strip"],["sizes","strip"],false,(.cons (.ret (.cmp .is (.call "first_wrong" 0 (.cons (.var 0) (.cons (.var 1) .nil))) (.lit .none))) .nil)⟩
noncomputable def yx:Fn:=⟨["thing"],["thing"],false,(.cons (.ret (.andE (.blt .isi false (.cons (.var 0) (.cons (.ty "tuple" "tuple") .nil))) (.cons (.cmp .le (.blt .len false (.cons (.var 0) .nil)) (.gl "MOST_PLACES")) (.cons (.call "are_wholes" 0 (.cons (.var 0) (.cons (.ix (.gl "HUES") (.lit (.int 0))) (.cons (.ix (.gl "HUES") (.neg (.lit (.int 1)))) .nil)))) .nil)))) .nil)⟩
noncomputable def yW:Fn:=⟨["sizes","strip","hue","end","others","step"],["sizes","strip","hue"],false,(.cons (.asg 3 (.blt .len false (.cons (.var 1) .nil))) (.cons (.asg 4 (.bin false .sub (.ix (.var 0) (.var 2)) (.lit (.int 1)))) (.cons (.forS (.nm 5) (.range2 (.lit (.int 1)) (.bin false .add (.bin false .fdiv (.var 3) (.var 4)) (.lit (.int 1)))) (.cons (.ifS (.val (.cmp .eq (.zy .count false (.sl false (.var 1) (.yes (.bin false .sub (.var 3) (.bin false .mul (.var 4) (.var 5)))) .no (.yes (.var 5))) (.cons (.var 2) .nil)) (.var 4))) (.cons (.ret (.lit (.bool false))) .nil) .nil) .nil)) (.cons (.ret (.lit (.bool true))) .nil))))⟩
noncomputable def yZ:Fn:=⟨["thing"],["thing"],false,(.cons (.ifS (.not (.val (.call "is_strip" 0 (.cons (.var 0) .nil)))) (.cons (.raise (.lit .none)) .nil) .nil) .nil)⟩
end F
end
section
namespace M
open PySem
structure Gl4(T:Tbl):Prop where
 mp:T.gl "MOST_PLACES"=some (.int 40)
 ls:T.gl "LEAST_SIZE"=some (.int 2)
 ms:T.gl "MOST_SIZE"=some (.int 8)
 hu:T.gl "HUES"=some (.ctup [0,1,2,3])
section
variable {T:Tbl}{Φ:Calls}{s:Sto}
theorem sN(g:Gl4 T)(c:ua Φ){zs:List Int}(h:Sz zs):run T Φ F.yh [tpI zs] s=.ok (.bool true) s:=by
 rw[post_eq]
 have c1:=c (zs.map .int) 2 8 s v5
 rw[vD h.2.2]at c1
 have a1:(1:Int)≤(zs.length:Int):=by have:=h.1;omega
 have a2:(zs.length:Int)≤4:=by have:=h.2.1;omega
 simp[F.yh,EVl,zH,zE,qE,w4,bq,g.hu,g.ls,g.ms,le_int,c1,a1,a2]
def ui(Φ:Calls):Prop:=∀(zs ns:List Int) (s:Sto),Sz zs→Fit zs ns→ns.length≤40→Φ "is_strip" 0 [tpI ns] s=.ok (.bool true) s
theorem pV(g:Gl4 T)(c:ua Φ){zs ns:List Int}(hz:Sz zs)(hf:Fit zs ns)(hn:ns.length≤40):run T Φ F.yx [tpI ns] s=.ok (.bool true) s:=by
 rw[post_eq]
 have c1:=c (ns.map .int) 0 3 s v5
 rw[vD (fun x hx=>by have:=hf.hue x hx;have:=hz.2.1;omega)]at c1
 have a1:(ns.length:Int)≤40:=by omega
 have i0:y1 (.ctup [0,1,2,3]) (.int 0) s=.ok (.int 0) s:=rfl
 have i1:y1 (.ctup [0,1,2,3]) (.int (-1)) s=.ok (.int 3) s:=rfl
 simp[F.yx,EVl,zH,zE,qE,w4,g.mp,g.hu,le_int,a1,i0,i1,c1]
def xH(Φ:Calls):Prop:=∀(zs ns:List Int) (s:Sto),Sz zs→Fit zs ns→ns.length≤40→Φ "need_strip" 0 [tpI ns] s=.ok .none s
theorem sR(c:ui Φ){zs ns:List Int}(hz:Sz zs)(hf:Fit zs ns)(hn:ns.length≤40):run T Φ F.yZ [tpI ns] s=.ok .none s:=by
 rw[post_eq]
 simp[F.yZ,EVl,zH,zE,c zs ns s hz hf hn]
def eg(Φ:Calls):Prop:=∀(zs ns:List Int) (s:Sto),Fit zs ns→Φ "first_hue_wrong" 0 [tpI zs,tpI ns] s=.ok .none s
theorem rF{ns:List Int}{x:Val}(h:x∈yF 0 (ns.map .int)):∃k i,ns[k]?=some i∧x=.tup [.int (k:Nat),.int i]:=by
 obtain⟨k,v,h1,rfl⟩:=qx h
 rw[List.getElem?_map]at h1
 obtain⟨j,h2,rfl⟩:=Option.map_eq_some_iff.mp h1
 exact⟨k,j,h2,by rw[Nat.zero_add]⟩
theorem iT{zs ns:List Int}(hf:Fit zs ns):run T Φ F.zl [tpI zs,tpI ns] s=.ok .none s:=by
 rw[post_eq]
 simp[F.zl,EVl,zH,zE]
 refine wN (fun rest e s'=>s'=s∧(∃o2 o3,e=[some (tpI zs),some (tpI ns),o2,o3])∧∀x∈rest,x∈yF 0 (ns.map .int)) (yF 0 (ns.map .int)) (s1:=s) ?_ ⟨rfl,⟨_,_,rfl⟩,fun x hx=>hx⟩ ?_ ?_
 . rw[post_eq]
   simp[EVl,zH,zE]
 . rintro x rest e s' ⟨rfl,⟨o2,o3,rfl⟩,hr⟩
   obtain⟨k,i,hk,rfl⟩:=rF (hr x (.head _))
   have hr':∀x∈rest,x∈yF 0 (ns.map .int):=fun x hx=>hr x (.tail _ hx)
   refine⟨_,rfl,?_⟩
   have hi:=hf.hue i (List.mem_of_getElem? hk)
   have hn:¬((zs.length:Int)≤i):=by omega
   simp[EVl,zH,zE,w4,ge_int,hn]
   exact hr'
 . rintro e s' ⟨rfl,⟨o2,o3,rfl⟩,_⟩
   simp[EVl,zH,zE]
def eh(Φ:Calls):Prop:=∀(zs ns:List Int) (s:Sto),Sz zs→Fit zs ns→ns.length≤40→Φ "first_row_wrong" 0 [tpI zs,tpI ns] s=.ok .none s
theorem iU(cM:et Φ)(cO:ZN Φ){zs ns:List Int}(hz:Sz zs)(hf:Fit zs ns)(hn:ns.length≤40):run T Φ F.zm [tpI zs,tpI ns] s=.ok .none s:=by
 rw[post_eq]
 simp[F.zm,EVl,zH,zE]
 refine wN (fun rest e s'=>s'=s∧(∃o2 o3 o4,e=[some (tpI zs),some (tpI ns),o2,o3,o4])∧∀x∈rest,x∈yF 0 (ns.map .int)) (yF 0 (ns.map .int)) (s1:=s) ?_ ⟨rfl,⟨_,_,_,rfl⟩,fun x hx=>hx⟩ ?_ ?_
 . rw[post_eq]
   simp[EVl,zH,zE]
 . rintro x rest e s' ⟨rfl,⟨o2,o3,o4,rfl⟩,hr⟩
   obtain⟨f,i,hk,rfl⟩:=rF (hr x (.head _))
   have hr':∀x∈rest,x∈yF 0 (ns.map .int):=fun x hx=>hr x (.tail _ hx)
   refine⟨_,rfl,?_⟩
   have hi:=hf.hue i (List.mem_of_getElem? hk)
   obtain⟨h,rfl⟩:∃h:Nat,i=h:=⟨i.toNat,by omega⟩
   have hh:h<zs.length:=by omega
   obtain⟨z1,z2,z3⟩:=xj hz hh
   have hfl:=lx hk
   have c1:=cM ns.length f (zd zs h) s' hfl z2 z3
   have i1:=tD (s:=s') z1
   simp[EVl,zH,zE,ge_int]
   refine wN (fun rest e s''=>s''=s'∧(∃o4,e=[some (tpI zs),some (tpI ns),some (.int f),some (.int h),o4])∧∀x∈rest,∃d:Nat,x=.int d∧0<d∧f+d*(zd zs h-1)<ns.length) (z5 1 ((ns.length-1-f)/(zd zs h-1))) (s1:=s') ?_ ⟨rfl,⟨_,rfl⟩,?_⟩ ?_ ?_
   . rw[post_eq]
     have hK:(ns.length-1-f)/(zd zs h-1)≤40:=Nat.le_trans (Nat.div_le_self _ _) (by omega)
     simp only[tpI]at *
     generalize (ns.length-1-f)/(zd zs h-1)=K at *
     simp[EVl,zH,zE,w4,i1]
     rw[c1]
     simp[EVl,zH,zE,pj]
     unfold zR;omega
   . intro x hx
     obtain⟨k,hk,rfl⟩:=wa hx
     refine⟨k+1,by congr 1;omega,by omega,?_⟩
     rw[Nat.lt_iff_add_one_le,Nat.le_div_iff_mul_le (by omega)]at hk
     omega
   . rintro x rest2 e s'' ⟨rfl,⟨o4,rfl⟩,hr2⟩
     obtain⟨d,rfl,d1,d2⟩:=hr2 x (.head _)
     refine⟨_,rfl,?_⟩
     have c2:=cO ns f d (zd zs h) s'' d1 (by omega) d2 (by unfold zR;omega)
     have hno:vJ ns f d (zd zs h)=false:=by
      cases ho:vJ ns f d (zd zs h) with
      |false=>rfl
      |true=>
       refine(hf.row h f d hh d1 d2 ?_).elim
       rw[z8]
       intro k hk2
       have:=of_decide_eq_true (List.all_eq_true.mp ho k (List.mem_range.mpr hk2))
       rw[this,hk]
     rw[hno]at c2
     simp[EVl,zH,zE,i1]
     rw[c2]
     simp[EVl,zH,zE]
     exact fun x hx=>hr2 x (.tail _ hx)
   . rintro e s'' ⟨rfl,⟨o4,rfl⟩,_⟩
     simp[EVl,zH,zE]
     exact hr'
 . rintro e s' ⟨rfl,⟨o2,o3,o4,rfl⟩,_⟩
   simp[EVl,zH,zE]
def el(Φ:Calls):Prop:=∀(zs ns:List Int) (s:Sto),Sz zs→Fit zs ns→ns.length≤40→Φ "fits" 0 [tpI zs,tpI ns] s=.ok (.bool true) s
def rV(Φ:Calls):Prop:=∀(zs ns:List Int) (s:Sto),Sz zs→Fit zs ns→ns.length≤40→Φ "first_wrong" 0 [tpI zs,tpI ns] s=.ok .none s
theorem oo(c1:vA Φ)(c2:xH Φ)(c3:eg Φ)(c4:eh Φ){zs ns:List Int}(hz:Sz zs)(hf:Fit zs ns)(hn:ns.length≤40):run T Φ F.yI [tpI zs,tpI ns] s=.ok .none s:=by
 rw[post_eq]
 have n1:∀s,zS .isNot .none .none s=.ok (.bool false) s:=fun s=>rfl
 have n2:∀s,zS .is .none .none s=.ok (.bool true) s:=fun s=>rfl
 simp[F.yI,EVl,zH,zE,c1 zs s hz,c2 zs ns s hz hf hn,c3 zs ns s hf,c4 zs ns s hz hf hn,n1,n2]
theorem iV(c:rV Φ){zs ns:List Int}(hz:Sz zs)(hf:Fit zs ns)(hn:ns.length≤40):run T Φ F.vo [tpI zs,tpI ns] s=.ok (.bool true) s:=by
 rw[post_eq]
 have n2:∀s,zS .is .none .none s=.ok (.bool true) s:=fun s=>rfl
 simp[F.vo,EVl,zH,zE,c zs ns s hz hf hn,n2]
end
end M
end
section
namespace M
open PySem
theorem gN{n f d s:Nat}(hd:0<d)(hs:1≤s)(h:f+d*s=n):L2.zu n (some (f:Int)) none (d:Int)=((f:Int),s):=by
 have hm:d*s=d*(s-1)+d:=by rw[←Nat.mul_succ];congr 1;omega
 have e:=nV (n:=n) (f:=f) hd hs (by omega)
 have e2:Builtin.Slice.sliceAdjust (some (f:Int)) none (d:Int) (n:Int)=Builtin.Slice.sliceAdjust (some (f:Int)) (some ((f:Int)+(d:Int)*(s:Int))) (d:Int) (n:Int):=by
  have e0:(f:Int)+(d:Int)*(s:Int)=(n:Int):=by rw[←h,Int.natCast_add,Int.natCast_mul]
  rw[e0]
  unfold Builtin.Slice.sliceAdjust
  simp only[if_neg (show ¬(d:Int)<0 by omega),if_neg (show ¬(f:Int)<0 by omega),if_neg (show ¬(n:Int)<0 by omega)]
  refine Prod.ext rfl ?_
  show (n:Int)=min (n:Int) (n:Int)
  omega
 unfold L2.zu at e ⊢
 rw[e2];exact e
noncomputable def tB(ns:List Int)(z:Nat)(h:Int)(j:Nat):Bool:=(List.range (z-1)).all fun k=>decide (ns[ns.length-(k+1)*(j+1)]?=some h)
theorem mR{ns:List Int}{z j:Nat}{h:Int}(hz:2≤z)(hj:(z-1)*(j+1)≤ns.length):decide ((((List.range (z-1)).map fun k=>ns.getD (ns.length-(z-1)*(j+1)+k*(j+1)) 0).count h:Int)=((z-1:Nat):Int))=tB ns z h j:=by
 have hl:((List.range (z-1)).map fun k=>ns.getD (ns.length-(z-1)*(j+1)+k*(j+1)) 0).length=z-1:=by rw[List.length_map,List.length_range]
 have key:∀k,k<z-1→ns.length-(z-1)*(j+1)+k*(j+1)=ns.length-((z-2-k)+1)*(j+1)∧ns.length-((z-2-k)+1)*(j+1)<ns.length:=fun k hk=>by
  have e2:((z-2-k)+1)*(j+1)+k*(j+1)=(z-1)*(j+1):=by rw[←Nat.add_mul];congr 1;omega
  have hp:1*1≤((z-2-k)+1)*(j+1):=Nat.mul_le_mul (by omega) (by omega)
  omega
 rw[Bool.eq_iff_iff,decide_eq_true_iff]
 unfold tB
 rw[List.all_eq_true]
 constructor
 . intro e k hk
   have hk:=List.mem_range.mp hk
   have ha:=List.count_eq_length.mp (by rw[hl];exact Int.ofNat.inj e)
   obtain⟨e1,e2⟩:=key (z-2-k) (by omega)
   rw[show z-2-(z-2-k)=k by omega]at e1 e2
   have:=ha _ (List.mem_map.mpr ⟨z-2-k,List.mem_range.mpr (by omega),rfl⟩)
   rw[e1,List.getD_eq_getElem?_getD,List.getElem?_eq_getElem e2]at this
   rw[decide_eq_true_iff,List.getElem?_eq_getElem e2]
   exact congrArg some this.symm
 . intro H
   have:((List.range (z-1)).map fun k=>ns.getD (ns.length-(z-1)*(j+1)+k*(j+1)) 0).count h=z-1:=by
    rw[List.count_eq_length.mpr,hl]
    intro x hx
    obtain⟨k,hk,rfl⟩:=List.mem_map.mp hx
    have hk:=List.mem_range.mp hk
    obtain⟨e1,e2⟩:=key k hk
    have:=of_decide_eq_true (H (z-2-k) (List.mem_range.mpr (by omega)))
    rw[e1,List.getD_eq_getElem?_getD,this];rfl
   rw[this]
theorem j9{ns:List Int}(hn:ns.length<41):L2.zW ns (L2.zu ns.length none none (-1)).1 (-1) (L2.zu ns.length none none (-1)).2=ns.reverse:=by
 have hc:∀n:Nat,n<41→L2.zu n none none (-1)=((n:Int)-1,n):=by decide +kernel
 rw[hc _ hn]
 unfold L2.zW
 dsimp only
 rw[p9 (g:=fun k=>ns.getD (ns.length-1-k) 0)]
 . refine List.ext_getElem? fun i=>?_
   by_cases hi:i<ns.length
   . rw[List.getElem?_map,List.getElem?_range hi,List.getElem?_reverse hi,Option.map_some,List.getD_eq_getElem?_getD,List.getElem?_eq_getElem (by omega)];rfl
   . rw[List.getElem?_eq_none (by simp;omega),List.getElem?_eq_none (by simp;omega)]
 . intro k hk
   have hk:=List.mem_range.mp hk
   have:((ns.length:Int)-1+(k:Int)*-1).toNat=ns.length-1-k:=by omega
   rw[this,List.getD_eq_getElem?_getD,List.getElem?_eq_getElem (by omega)];rfl
section
variable {T:Tbl}{Φ:Calls}{s:Sto}
def dy(Φ:Calls):Prop:=∀(zs ns:List Int) (h:Nat) (s:Sto),Sz zs→ns.length≤40→h<zs.length→Φ "may_follow" 0 [tpI zs,tpI ns,.int h] s=.ok (.bool !(wm ns (zd zs h) h)) s
theorem eC{zs ns:List Int}{h:Nat}(hz:Sz zs)(hn:ns.length≤40)(hh:h<zs.length):run T Φ F.yW [tpI zs,tpI ns,.int h] s=.ok (.bool !(wm ns (zd zs h) h)) s:=by
 rw[post_eq]
 obtain⟨z1,z2,z3⟩:=xj hz hh
 generalize hzz:zd zs h=z at *
 have c2:=tD (s:=s) z1
 have hz1:((z:Int)-1)=((z-1:Nat):Int):=by omega
 have hK:ns.length/(z-1)≤40:=Nat.le_trans (Nat.div_le_self _ _) hn
 simp[F.yW,EVl,zH,zE,w4,c2,gH,hz1]
 have hKm:∀j,j<ns.length/(z-1)→(z-1)*(j+1)≤ns.length:=fun j hj=>by
  rw[Nat.lt_iff_add_one_le,Nat.le_div_iff_mul_le (by omega),Nat.mul_comm]at hj;exact hj
 have he:wm ns z h=(List.range (ns.length/(z-1))).any (tB ns z h):=rfl
 generalize hKK:ns.length/(z-1)=K at *
 refine wN (fun rest e s'=>s'=s∧(∃o5,e=[some (tpI zs),some (tpI ns),some (.int h),some (.int ns.length),some (.int ((z-1:Nat):Int)),o5])∧∃todo:List Nat,rest=todo.map (fun(j:Nat)=>Val.int (1+(j:Int)))∧(∀j∈todo,j<K)∧wm ns z h=todo.any (tB ns z h)) (z5 1 K) (s1:=s) ?_ ⟨rfl,⟨_,rfl⟩,List.range K,rfl,fun j hj=>List.mem_range.mp hj,he⟩ ?_ ?_
 . rw[post_eq]
   simp[EVl,zH,zE]
   rw[bdiv (by omega),←Int.natCast_ediv,hKK]
   simp[EVl,zH,zE,pj]
   unfold zR;omega
 . rintro x rest e s' ⟨rfl,⟨o5,rfl⟩,todo,hr,hb,hf⟩
   cases todo with
   |nil=>cases hr
   |cons j todo=>
    rw[List.map_cons]at hr
    injection hr with hx hr
    subst hx
    refine⟨_,rfl,?_⟩
    have hj:=hKm j (hb j (.head _))
    have hc:=mR (h:=(h:Int)) z2 hj
    obtain⟨d,hd0⟩:∃d,d=j+1:=⟨_,rfl⟩
    have hd:(1+(j:Int))=(d:Int):=by omega
    rw[←hd0]at hj hc
    have d0:0<d:=by omega
    obtain⟨w,hw⟩:∃w,w=z-1:=⟨_,rfl⟩
    have w1:1≤w:=by omega
    have w8:w≤8:=by omega
    rw[←hw]at hj hc ⊢
    have m1:binOp false .mul (.int (w:Int)) (.int (d:Int)) s'=.ok (.int ((w*d:Nat):Int)) s':=by
     rw[dA (by omega),Int.natCast_mul]
    obtain⟨f,hf0⟩:∃f,f=ns.length-w*d:=⟨_,rfl⟩
    rw[←hf0]at hc
    have e4:(ns.length:Int)-((w*d:Nat):Int)=(f:Int):=by omega
    have hm:d*w=d*(w-1)+d:=by rw[←Nat.mul_succ,Nat.succ_eq_add_one,Nat.sub_add_cancel w1]
    have hcm:=Nat.mul_comm d w
    have hsl:xF false (tpI ns) (some (f:Int)) none (some (d:Int)) s'=.ok (tpI ((List.range w).map fun k=>ns.getD (f+k*d) 0)) s':=by
     have e5:L2.zu ns.length (some (f:Int)) none (d:Int)=((f:Int),w):=gN d0 w1 (by omega)
     have hl:w≤zR:=by unfold zR;omega
     have hdI:(d:Int)≠0:=by omega
     simp only[xF,List.length_map,e5]
     rw[if_pos ⟨hdI,hl⟩]
     simp only[dQ]
     rw[pO (by omega)]
    generalize (List.range w).map (fun k=>ns.getD (f+k*d) 0)=xs at *
    rw[hd]
    simp only[tpI]at *
    simp[EVl,zH,zE]
    rw[m1]
    simp only[zA,gH,e4]
    refine⟨_,rfl,?_⟩
    rw[hsl]
    simp[EVl,zH,zE,zy,wZ,xq,eq_int,flat]
    rw[List.any_cons,←hc]at hf
    by_cases hq:(xs.count (h:Int):Int)=(w:Int)
    . rw[decide_eq_true hq,Bool.true_or]at hf
      exact .inr ⟨hq,by rw[hf]⟩
    . rw[decide_eq_false hq,Bool.false_or]at hf
      exact .inl ⟨hq,todo,hr,fun j hj=>hb j (.tail _ hj),hf⟩
 . rintro e s' ⟨rfl,⟨o5,rfl⟩,todo,hr,hb,hf⟩
   have ht:todo=[]:=by cases todo with|nil=>rfl|cons _ _=>cases hr
   subst ht
   simp[EVl,zH,zE,hf]
end
end M
end
section
namespace F12
open PySem M
noncomputable def yS:Fn:=⟨["_law_pen_here","_law_some"],["_law_pen_here"],false,(.cons (.asg 1 (.lst false (.cons (.tup (.cons (.lit (.int 3)) (.cons (.lit (.int 3)) .nil))) (.cons (.tup (.cons (.lit (.int 3)) (.cons (.lit (.int 4)) .nil))) (.cons (.tup (.cons (.lit (.int 4)) (.cons (.lit (.int 3)) .nil))) (.cons (.tup (.cons (.lit (.int 2)) (.cons (.lit (.int 2)) (.cons (.lit (.int 3)) .nil)))) (.cons (.tup (.cons (.lit (.int 2)) (.cons (.lit (.int 3)) (.cons (.lit (.int 2)) .nil)))) (.cons (.tup (.cons (.lit (.int 3)) (.cons (.lit (.int 2)) (.cons (.lit (.int 2)) .nil)))) (.cons (.tup (.cons (.lit (.int 2)) (.cons (.lit (.int 6)) .nil))) (.cons (.tup (.cons (.lit (.int 5)) (.cons (.lit (.int 2)) .nil))) (.cons (.tup (.cons (.lit (.int 2)) (.cons (.lit (.int 4)) .nil))) (.cons (.tup (.cons (.lit (.int 3)) (.cons (.lit (.int 2)) .nil))) (.cons (.tup (.cons (.lit (.int 2)) (.cons (.lit (.int 2)) .nil))) (.cons (.tup (.cons (.lit (.int 2)) (.cons (.lit (.int 2)) (.cons (.lit (.int 2)) .nil)))) .nil)))))))))))))) (.cons (.ret (.ix (.bin false .add (.var 1) (.lst false (.cons (.tup (.cons (.lit (.int 2)) .nil)) (.cons (.tup (.cons (.lit (.int 3)) .nil)) (.cons (.tup (.cons (.lit (.int 5)) .nil)) (.cons (.tup (.cons (.lit (.int 8)) .nil)) .nil)))))) (.call "_law_draw" 0 (.cons (.var 0) (.cons (.lit (.int 16)) .nil))))) .nil))⟩
noncomputable def yT:Fn:=⟨["sizes","length","strips","place"],["sizes","length"],false,(.cons (.expr (.call "need_small_sizes" 0 (.cons (.var 0) .nil))) (.cons (.expr (.call "need_length" 0 (.cons (.var 1) .nil))) (.cons (.asg 2 (.lst false (.cons (.tup .nil) .nil))) (.cons (.forS (.nm 3) (.range1 (.var 1)) (.cons (.asg 2 (.call "grown" 0 (.cons (.var 0) (.cons (.var 2) .nil)))) .nil)) (.cons (.ret (.var 2)) .nil)))))⟩
noncomputable def yv:Fn:=⟨["sizes"],["sizes"],false,(.cons (.ret (.bin false .sub (.blt .len false (.cons (.call "tally" 0 (.cons (.var 0) .nil)) .nil)) (.lit (.int 1)))) .nil)⟩
noncomputable def yH:Fn:=⟨["sizes","length","strips"],["sizes","length"],false,(.cons (.asg 2 (.call "all_strips" 0 (.cons (.var 0) (.cons (.var 1) .nil)))) (.cons (.ret (.ife (.val (.var 2)) (.ix (.var 2) (.lit (.int 0))) (.lit .none))) .nil))⟩
noncomputable def wV:Fn:=⟨["sizes","strips"],["sizes","strips"],false,(.cons (.ret (.comp2 false ["strip","hue","sizes"] [none,none,some 0] (.bin false .add (.var 0) (.tup (.cons (.var 1) .nil))) (.nm 0) (.val (.var 1)) .nil (.nm 1) (.range1 (.blt .len false (.cons (.var 2) .nil))) (.cons (.val (.call "may_follow" 0 (.cons (.var 2) (.cons (.var 0) (.cons (.var 1) .nil))))) .nil))) .nil)⟩
noncomputable def zg:Fn:=⟨["thing","product"],["thing"],false,(.cons (.expr (.call "need_sizes" 0 (.cons (.var 0) .nil))) (.cons (.asg 1 (.call "product_of" 0 (.cons (.var 0) .nil))) (.cons (.ifS (.val (.cmp .gt (.var 1) (.gl "MOST_PRODUCT"))) (.cons (.raise (.lit .none)) .nil) .nil) .nil)))⟩
noncomputable def yb:Fn:=⟨["numbers","product","number"],["numbers"],false,(.cons (.asg 1 (.lit (.int 1))) (.cons (.forS (.nm 2) (.val (.var 0)) (.cons (.aug 1 .mul (.var 2)) .nil)) (.cons (.ret (.var 1)) .nil)))⟩
noncomputable def yK:Fn:=⟨["sizes","length"],["sizes","length"],false,(.cons (.ret (.blt .len false (.cons (.call "all_strips" 0 (.cons (.var 0) (.cons (.var 1) .nil))) .nil))) .nil)⟩
noncomputable def wW:Fn:=⟨["sizes","counts","strips"],["sizes"],false,(.cons (.expr (.call "need_small_sizes" 0 (.cons (.var 0) .nil))) (.cons (.asg 1 (.lst true .nil)) (.cons (.asg 2 (.lst false (.cons (.tup .nil) .nil))) (.cons (.whileS (.val (.var 2)) (.cons (.expr (.zy .append false (.var 1) (.cons (.blt .len false (.cons (.var 2) .nil)) .nil))) (.cons (.asg 2 (.call "grown" 0 (.cons (.var 0) (.cons (.var 2) .nil)))) .nil))) (.cons (.ret (.var 1)) .nil)))))⟩
end F12
end
section
namespace M
open L2
noncomputable def okH(zs ns:List Int):List Nat:=(List.range zs.length).filter fun h=>!wm ns (zd zs h) h
noncomputable def yc(zs:List Int)(L:List (List Int)):List (List Int):=L.flatMap fun ns=>(okH zs ns).map fun(h:Nat)=>ns++[(h:Int)]
noncomputable def zY(zs:List Int)(L:List (List Int)):Nat→List (List Int)
 |0=>L
 |n+1=>yc zs (zY zs L n)
theorem qy{zs:List Int}{L:List (List Int)}{y:List Int}:y∈yc zs L↔∃x∈L,∃h:Nat,h<zs.length∧wm x (zd zs h) h=false∧y=x++[(h:Int)]:=by
 unfold yc okH
 rw[List.mem_flatMap]
 constructor
 . rintro ⟨x,hx,hy⟩
   obtain⟨h,hh,rfl⟩:=List.mem_map.mp hy
   rw[List.mem_filter,List.mem_range,Bool.not_eq_true']at hh
   exact⟨x,hx,h,hh.1,hh.2,rfl⟩
 . rintro ⟨x,hx,h,h1,h2,rfl⟩
   refine⟨x,hx,List.mem_map.mpr ⟨h,?_,rfl⟩⟩
   rw[List.mem_filter,List.mem_range,Bool.not_eq_true']
   exact⟨h1,h2⟩
theorem qu{zs:List Int}{L:List (List Int)}{k:Nat}(h:∀x∈L,x.length=k):∀n,∀x∈zY zs L n,x.length=k+n
 |0,x,hx=>h x hx
 |n+1,x,hx=>by
  obtain⟨y,hy,a,_,_,rfl⟩:=qy.mp hx
  rw[List.length_append,qu h n y hy];rfl
theorem qt{zs:List Int}(hz:Sz zs){L:List (List Int)}(h:∀x∈L,Fit zs x):∀n,∀x∈zY zs L n,Fit zs x
 |0,x,hx=>h x hx
 |n+1,x,hx=>by
  obtain⟨y,hy,a,h1,h2,rfl⟩:=qy.mp hx
  exact(qt hz h n y hy).snoc hz h1 h2
def lq(L:List (List Int)):Prop:=L.Pairwise fun a b=>qG a b=true
theorem n4:∀{a b x y:List Int},qG a b=true→qG (a++x) (b++y)=true
 |[],[],_,_,h=>by cases h
 |[],_::_,_,_,h=>by cases h
 |_::_,[],_,_,h=>by cases h
 |u::a,v::b,x,y,h=>by
  rw[List.cons_append,List.cons_append]
  unfold qG at h ⊢
  by_cases e:u=v
  . rw[if_pos e]at h ⊢;exact n4 h
  . rw[if_neg e]at h ⊢;exact h
theorem qv:∀{a:List Int} {x y:Int},x<y→qG (a++[x]) (a++[y])=true
 |[],x,y,h=>by
  show qG [x] [y]=true
  unfold qG;rw[if_neg (by omega)];exact decide_eq_true h
 |u::a,x,y,h=>by
  rw[List.cons_append,List.cons_append]
  unfold qG;rw[if_pos rfl];exact qv h
theorem lM{zs:List Int}{L:List (List Int)}(h:lq L):lq (yc zs L):=by
 unfold lq yc
 rw[List.pairwise_flatMap]
 refine⟨fun a _=>?_,h.imp fun{a b} hab x hx y hy=>?_⟩
 . rw[List.pairwise_map]
   exact(List.pairwise_lt_range.filter _).imp fun{i j} hij=>qv (by omega)
 . obtain⟨i,_,rfl⟩:=List.mem_map.mp hx
   obtain⟨j,_,rfl⟩:=List.mem_map.mp hy
   exact n4 hab
theorem lN{zs:List Int}{L:List (List Int)}(h:lq L):∀n,lq (zY zs L n)
 |0=>h
 |n+1=>lM (lN h n)
theorem vV(zs:List Int)(L:List (List Int))(m:Nat):∀n,zY zs (zY zs L m) n=zY zs L (m+n)
 |0=>rfl
 |n+1=>congrArg (yc zs) (vV zs L m n)
noncomputable def kI(zs:List Int):Nat→List (List Int)→Bool
 |0,L=>L.isEmpty
 |n+1,L=>decide (L.length≤100)&&kI zs n (yc zs L)
theorem rq{zs:List Int}:∀{n:Nat} {L:List (List Int)},kI zs n L=true→zY zs L n=[]∧∀m,m<n→(zY zs L m).length≤100
 |0,L,h=>⟨List.isEmpty_iff.mp h,fun m hm=>absurd hm (Nat.not_lt_zero _)⟩
 |n+1,L,h=>by
  unfold kI at h
  rw[Bool.and_eq_true]at h
  have ⟨h1,h2⟩:=rq h.2
  have e:∀m,zY zs (yc zs L) m=zY zs L (m+1):=fun m=>by
   have:=vV zs L 1 m
   rw[show zY zs L 1=yc zs L from rfl,Nat.add_comm 1 m]at this
   exact this
  rw[e]at h1
  refine⟨h1,fun m hm=>?_⟩
  cases m with
  |zero=>exact of_decide_eq_true h.1
  |succ m=>rw[←e];exact h2 m (by omega)
noncomputable def yR:List (List Int):=[3,3]::[3,4]::[4,3]::[2,2,3]::[2,3,2]::[3,2,2]::[2,6]::[5,2]::[2,4]::[3,2]::[2,2]::[2,2,2]::[2]::[3]::[5]::[8]::[]
theorem oy:(yR.all fun zs=>kI zs 18 [[]]&&decide (zs.foldl (·*·) 1≤12)&&(decide (1≤zs.length)&&decide (zs.length≤4)&&zs.all fun x=>decide (2≤x)&&decide (x≤8)))=true:=by decide +kernel
theorem vW{zs:List Int}{L:List (List Int)}{n:Nat}(h:zY zs L n=[]):∀m,zY zs L (n+m)=[]:=fun m=>by
 rw[←vV,h]
 induction m with
 |zero=>rfl
 |succ m ih=>show yc zs (zY zs [] m)=[];rw[ih];rfl
structure z7(zs:List Int):Prop where
 sz:Sz zs
 prod:zs.foldl (·*·) 1≤12
 die:∀m,18≤m→zY zs [[]] m=[]
 few:∀m,(zY zs [[]] m).length≤100
theorem tZ{zs:List Int}(h:zs∈yR):z7 zs:=by
 have:=List.all_eq_true.mp oy zs h
 simp only[Bool.and_eq_true,decide_eq_true_eq,List.all_eq_true]at this
 obtain⟨⟨h1,h2⟩,⟨h3,h4⟩,h5⟩:=this
 have ⟨d1,d2⟩:=rq h1
 have d3:∀m,18≤m→zY zs [[]] m=[]:=fun m hm=>by
  have:=vW d1 (m-18)
  rwa [show 18+(m-18)=m by omega]at this
 refine⟨⟨h3,h4,fun x hx=>h5 x hx⟩,h2,d3,fun m=>?_⟩
 by_cases hm:m<18
 . exact d2 m hm
 . rw[d3 m (by omega)];simp
end M
end
section
namespace M
open PySem
noncomputable abbrev tps(L:List (List Int)):List Val:=L.map tpI
noncomputable def unI:Val→List Int
 |.tup vs=>vs.map fun v=>match v with|.int i=>i|_=>0
 |_=>[]
theorem nK(ns:List Int):unI (tpI ns)=ns:=by
 show (ns.map Val.int).map _=ns
 rw[List.map_map]
 exact List.map_id' ns
theorem vI:∀L:List (List Int),ze (tps L)=true
 |[]=>rfl
 |ns::L=>by
  show (Val.noRef (tpI ns)&&ze (tps L))=true
  rw[vI L,Bool.and_true]
  exact yl ns
theorem nR{a b:List Val}{s:Sto}(h:a.length+b.length≤zR):binOp false .add (.lst a) (.lst b) s=.ok (.lst (a++b)) s:=by
 simp only[binOp,yP];rw[if_pos h];rfl
theorem mV{f:Nat→Bool}{G:Nat→Val}{F:Val→List Val}{n:Nat}(hF:∀k<n,F (.int k)=if f k then [G k] else []):(z5 0 n).flatMap F=((List.range n).filter f).map G:=by
 unfold z5
 rw[List.flatMap_map]
 have:∀l:List Nat,(∀k∈l,k<n)→l.flatMap (fun(k:Nat)=>F (.int (0+(k:Int))))=(l.filter f).map G:=fun l=>by
  induction l with
  |nil=>intro _;rfl
  |cons k l ih=>
   intro h
   rw[List.flatMap_cons,ih fun j hj=>h j (.tail _ hj),show (0:Int)+(k:Int)=(k:Int) by omega,hF k (h k (.head _)),List.filter_cons]
   cases f k<;>rfl
 exact this _ fun k hk=>List.mem_range.mp hk
noncomputable def iN(zs ns:List Int):Val→List Val
 |.int a=>if !wm ns (zd zs a.toNat) a then [tpI (ns++[a])] else []
 |_=>[]
theorem eB(zs ns:List Int):(z5 0 zs.length).flatMap (iN zs ns)=tps ((okH zs ns).map fun(h:Nat)=>ns++[(h:Int)]):=by
 rw[mV (f:=fun h=>!wm ns (zd zs h) h) (G:=fun h=>tpI (ns++[(h:Int)])) (fun k _=>by simp[iN])]
 show _=List.map tpI (List.map _ (List.filter _ _))
 rw[List.map_map];rfl
section
variable {T:Tbl}{Φ:Calls}{s:Sto}
def eu(Φ:Calls):Prop:=∀(zs:List Int) (s:Sto),Sz zs→Φ "product_of" 0 [tpI zs] s=.ok (.int (zs.foldl (·*·) 1)) s
theorem iZ{zs:List Int}(hz:Sz zs):run T Φ F12.yb [tpI zs] s=.ok (.int (zs.foldl (·*·) 1)) s:=by
 rw[post_eq]
 simp[F12.yb,EVl,zH,zE]
 refine wN (fun rest e s'=>s'=s∧∃o2 acc todo,e=[some (tpI zs),some (.int acc),o2]∧rest=todo.map Val.int∧(∀x∈todo,2≤x∧x≤8)∧todo.foldl (·*·) acc=zs.foldl (·*·) 1) (zs.map .int) (s1:=s) ?_ ⟨rfl,_,_,zs,rfl,rfl,hz.2.2,rfl⟩ ?_ ?_
 . rw[post_eq]
   simp[EVl,zH,zE]
 . rintro x rest e s' ⟨rfl,o2,acc,todo,rfl,hr,hb,hf⟩
   cases todo with
   |nil=>cases hr
   |cons y todo=>
    rw[List.map_cons]at hr
    injection hr with h1 h2
    subst h1
    have hy:=hb y (.head _)
    refine⟨_,rfl,?_⟩
    rw[yq]
    show (Out.bind (binOp false .mul (.int acc) (.int y) s') _).post _
    rw[nS (by omega),zM]
    simp only[EVl,zH,zE]
    exact⟨trivial,_,_,todo,rfl,h2,fun x hx=>hb x (.tail _ hx),hf⟩
 . rintro e s' ⟨rfl,o2,acc,todo,rfl,hr,hb,hf⟩
   have ht:todo=[]:=by cases todo with|nil=>rfl|cons _ _=>cases hr
   subst ht
   simp[EVl,zH,zE]
   exact hf
def vB(Φ:Calls):Prop:=∀(zs:List Int) (s:Sto),z7 zs→Φ "need_small_sizes" 0 [tpI zs] s=.ok .none s
theorem sQ(g:T.gl "MOST_PRODUCT"=some (.int 12))(c1:vA Φ)(c2:eu Φ){zs:List Int}(hz:z7 zs):run T Φ F12.zg [tpI zs] s=.ok .none s:=by
 rw[post_eq]
 have h12:¬(12<zs.foldl (·*·) 1):=by have:=hz.prod;omega
 simp[F12.zg,EVl,zH,zE,c1 zs s hz.sz,c2 zs s hz.sz,g,gt_int,h12]
theorem kN(c:dy Φ){G:Str→Option Val}{zs:List Int}{L:List (List Int)}(hz:Sz zs)(hL:∀x∈L,x.length≤40)(hl:(yc zs L).length≤zR){env:M.Env}{m:Bool}{N:List Str}{at_:Option Nat}(hi:yL Φ G env (.val (.var 1)) s=.ok ⟨tps L,at_⟩ s)(ho:Src.ok ⟨tps L,at_⟩ s=true)(h0:zE [none,none,some 0] env=[none,none,some (tpI zs)])
 {P:Val→Sto→Prop} (hP:(newList m (tps (yc zs L)) s).post P) :
 (evE Φ G env (.comp2 m N [none,none,some 0] (.bin false .add (.var 0) (.tup (.cons (.var 1) .nil))) (.nm 0) (.val (.var 1)) .nil (.nm 1) (.range1 (.blt .len false (.cons (.var 2) .nil))) (.cons (.val (.call "may_follow" 0 (.cons (.var 2) (.cons (.var 0) (.cons (.var 1) .nil))))) .nil)) s).post P:=by
 have key:(tps L).flatMap (fun x=>tps ((okH zs (unI x)).map fun(h:Nat)=>unI x++[(h:Int)]))=tps (yc zs L):=by
  unfold yc
  show _=List.map tpI (List.flatMap _ _)
  rw[List.flatMap_map,List.map_flatMap]
  congr 1
  funext ns
  rw[nK]
 refine fO (fun e=>∃a b,e=[a,b,some (tpI zs)]) (fun x=>tps ((okH zs (unI x)).map fun(h:Nat)=>unI x++[(h:Int)])) (fun x e=>∃b,e=[some x,b,some (tpI zs)]) (fun x=>iN zs (unI x)) ?_
 refine⟨_,_,hi,ho,⟨_,_,h0⟩,?_,?_,?_⟩
 . rintro x hx e ⟨a,b,rfl⟩
   obtain⟨ns,hns,rfl⟩:=List.mem_map.mp hx
   have hn:=hL ns hns
   refine⟨_,rfl,?_⟩
   simp only[EVl,zH,zE,if_true]
   refine⟨trivial,_,rfl,?_⟩
   rw[w4,List.length_map]
   simp only[zA]
   refine⟨_,rfl,⟨by omega,by have:=hz.2.1;unfold zR;omega⟩,trivial,trivial,⟨_,rfl⟩,?_,?_,?_⟩
   . rintro e ⟨b,rfl⟩;exact⟨_,_,rfl⟩
   . rw[nK,Int.toNat_natCast,eB]
   . rintro y hy e ⟨b,rfl⟩
     obtain⟨k,hk,rfl⟩:=wa hy
     rw[Int.toNat_natCast]at hk
     rw[show (0:Int)+(k:Int)=(k:Int) by omega]
     refine⟨_,rfl,⟨_,rfl⟩,?_⟩
     refine⟨_,rfl,_,rfl,_,rfl,?_⟩
     rw[c zs ns k s hz hn hk]
     simp only[zA,yE]
     refine⟨_,rfl,?_⟩
     rw[nK]
     cases he:wm ns (zd zs k) k with
     |true=>simp[iN,he]
     |false=>
      simp only[Bool.not_false,if_true,zA,true_and]
      refine⟨_,rfl,_,rfl,?_⟩
      rw[if_pos (by simp[zR]),gD (by simp[zR];omega)]
      simp[iN,he,EVl,zH,zE]
 . show Small ((tps L).flatMap _)
   rw[key]
   show (tps (yc zs L)).length≤zR
   rw[List.length_map];exact hl
 . show (newList m ((tps L).flatMap _) s).post P
   rw[key];exact hP
def uZ(Φ:Calls):Prop:=∀(zs:List Int) (L:List (List Int)) (s:Sto),Sz zs→(∀x∈L,x.length≤40)→(yc zs L).length≤zR→Φ "grown" 0 [tpI zs,.lst (tps L)] s=.ok (.lst (tps (yc zs L))) s
theorem oq(c:dy Φ){zs:List Int}{L:List (List Int)}(hz:Sz zs)(hL:∀x∈L,x.length≤40)(hl:(yc zs L).length≤zR):run T Φ F12.wV [tpI zs,.lst (tps L)] s=.ok (.lst (tps (yc zs L))) s:=by
 rw[post_eq,F12.wV,wC]
 refine⟨rfl,?_⟩
 rw[yq,jn]
 refine kN c hz hL hl (at_:=none) rfl rfl rfl ?_
 simp only[M.newList,Bool.false_eq_true,if_false,zA,mI,kP]
 rw[xM (v:=.lst (tps (yc zs L))) (vI _)]
 exact zA.mpr ⟨rfl,rfl⟩
theorem nu:∀ns:List Int,intsOf (ns.map .int)=some ns
 |[]=>rfl
 |n::ns=>by show (intsOf (ns.map .int)).map _=_;rw[nu ns];rfl
end
end M
end
section
namespace M
open PySem
structure Far(zs:List Int)(N:Nat):Prop where
 end_:zY zs [[]] N=[]
 on:∀m,m<N→zY zs [[]] m≠[]
 le:N≤18
 pos:0<N
theorem cR{zs:List Int}(h:z7 zs):∃N,Far zs N:=by
 have key:∀n,zY zs [[]] n=[]→∃N,N≤n∧zY zs [[]] N=[]∧∀m,m<N→zY zs [[]] m≠[]:=fun n=>by
  induction n with
  |zero=>intro e;cases e
  |succ n ih=>
   intro e
   by_cases hn:zY zs [[]] n=[]
   . obtain⟨N,h1,h2,h3⟩:=ih hn
     exact⟨N,by omega,h2,h3⟩
   . refine⟨n+1,Nat.le_refl _,e,fun m hm he=>?_⟩
     have:=vW he (n-m)
     rw[show m+(n-m)=n by omega]at this
     exact hn this
 obtain⟨N,h1,h2,h3⟩:=key 18 (h.die 18 (by omega))
 refine⟨N,h2,h3,h1,?_⟩
 cases N with
 |zero=>cases h2
 |succ N=>omega
theorem nz{zs:List Int}(h:z7 zs)(n:Nat):∀x∈zY zs [[]] n,x.length=n∧n<18:=fun x hx=>by
 have:=qu (k:=0) (L:=[[]]) (zs:=zs) (fun x hx=>by rw[List.mem_singleton.mp hx];rfl) n x hx
 refine⟨by omega,?_⟩
 by_cases hn:n<18
 . exact hn
 . rw[h.die n (by omega)]at hx;cases hx
theorem rD{zs:List Int}(h:z7 zs)(n:Nat):∀x∈zY zs [[]] n,x.length≤40:=fun x hx=>by have:=nz h n x hx;omega
theorem qi{zs:List Int}(h:z7 zs)(n:Nat):(zY zs [[]] n).length≤zR:=Nat.le_trans (h.few n) (by unfold zR;omega)
noncomputable def xI(zs:List Int)(N:Nat):List Int:=(List.range N).map fun m=>((zY zs [[]] m).length:Int)
theorem xp(zs:List Int)(N:Nat):(xI zs N).length=N:=by simp[xI]
theorem kA(zs:List Int)(N:Nat):xI zs (N+1)=xI zs N++[((zY zs [[]] N).length:Int)]:=by
 unfold xI;rw[List.range_succ,List.map_append];rfl
section
variable {T:Tbl}{Φ:Calls}{s:Sto}
theorem fS(c:uZ Φ){G:Str→Option Val}{zs:List Int}{N:Nat}(hz:z7 zs)(hN:Far zs N){R:Fl→Sto→Prop}(hR:R (.nx [some (tpI zs),some (.ref s.length),some (.lst [])]) (s++[.lst ((xI zs N).map .int)])) :
 (exS Φ G [some (tpI zs),some (.ref s.length),some (.lst [.tup []])] (.whileS (.val (.var 2)) (.cons (.expr (.zy .append false (.var 1) (.cons (.blt .len false (.cons (.var 2) .nil)) .nil))) (.cons (.asg 2 (.call "grown" 0 (.cons (.var 0) (.cons (.var 2) .nil)))) .nil))) (s++[.lst []])).post R:=by
 refine fU N (fun k e s'=>∃m,m+k=N∧e=[some (tpI zs),some (.ref s.length),some (.lst (tps (zY zs [[]] m)))]∧s'=s++[.lst ((xI zs m).map .int)]) (by have:=hN.le;unfold qV;omega) ⟨0,by omega,rfl,rfl⟩ ?_
 rintro k e s' ⟨m,hm,rfl,rfl⟩
 simp only[jr,n6]
 refine⟨_,rfl,_,i6,?_⟩
 cases k with
 |zero=>
  have:m=N:=by omega
  subst this
  rw[hN.end_]
  exact hR
 |succ k=>
  have hne:=hN.on m (by omega)
  have ht:(!(tps (zY zs [[]] m)).isEmpty)=true:=by
   cases hL:zY zs [[]] m with
   |nil=>exact absurd hL hne
   |cons _ _=>rfl
  rw[ht,if_pos rfl]
  have hap:zy .append (.ref s.length) [.int ((zY zs [[]] m).length:Int)] (s++[.lst ((xI zs m).map .int)])=.ok .none (s++[.lst ((xI zs (m+1)).map .int)]):=by
   rw[gE (by rw[List.length_map,xp];have:=hN.le;unfold zR;omega),kA,List.map_append];rfl
  have hg:=c zs (zY zs [[]] m) (s++[.lst ((xI zs (m+1)).map .int)]) hz.sz (rD hz m) (qi hz (m+1))
  simp only[EVl,zH,zE]
  refine⟨_,rfl,_,rfl,?_⟩
  rw[qp,List.length_map]
  simp only[zA]
  show (zy .append (.ref s.length) [.int ((zY zs [[]] m).length:Int)] (s++[.lst ((xI zs m).map .int)])).post _
  rw[hap]
  simp only[zA]
  refine⟨_,rfl,_,rfl,?_⟩
  rw[hg]
  simp only[zA]
  exact⟨k,by omega,m+1,by omega,rfl,rfl⟩
def rW(Φ:Calls):Prop:=∀(zs:List Int) (N:Nat) (s:Sto),z7 zs→Far zs N→Φ "tally" 0 [tpI zs] s=.ok (.lst ((xI zs N).map .int)) s
theorem ou(c1:vB Φ)(c:uZ Φ){zs:List Int}{N:Nat}(hz:z7 zs)(hN:Far zs N):run T Φ F12.wW [tpI zs] s=.ok (.lst ((xI zs N).map .int)) s:=by
 rw[post_eq]
 simp[F12.wW,EVl,zH,zE,c1 zs s hz,M.newList,zR]
 refine fS c hz hN ?_
 simp only[EVl,zH,zE]
 refine⟨_,rfl,?_⟩
 rw[oG (vs:=(xI zs N).map .int) (Nat.le_refl _) (by simp) (yl _)]
 exact zA.mpr ⟨rfl,rfl⟩
def sd(Φ:Calls):Prop:=∀(zs:List Int) (N:Nat) (s:Sto),z7 zs→Far zs N→Φ "farthest" 0 [tpI zs] s=.ok (.int ((N:Int)-1)) s
theorem qO(c:rW Φ){zs:List Int}{N:Nat}(hz:z7 zs)(hN:Far zs N):run T Φ F12.yv [tpI zs] s=.ok (.int ((N:Int)-1)) s:=by
 rw[post_eq]
 simp[F12.yv,EVl,zH,zE,c zs N s hz hN,qp,gH,xp]
def nN(Φ:Calls):Prop:=∀(zs:List Int) (n:Nat) (s:Sto),z7 zs→n≤40→Φ "all_strips" 0 [tpI zs,.int n] s=.ok (.lst (tps (zY zs [[]] n))) s
theorem iO(c1:vB Φ)(c2:uH Φ)(c:uZ Φ){zs:List Int}{n:Nat}(hz:z7 zs)(hn:n≤40):run T Φ F12.yT [tpI zs,.int n] s=.ok (.lst (tps (zY zs [[]] n))) s:=by
 rw[post_eq]
 simp[F12.yT,EVl,zH,zE,c1 zs s hz,c2 n s (by omega) (by omega),M.newList,zR]
 refine wN (fun rest e s'=>s'=s∧∃m o,m≤n∧rest=z5 m (n-m)∧e=[some (tpI zs),some (.int n),some (.lst (tps (zY zs [[]] m))),o]) (z5 0 n) (s1:=s) ?_ ⟨rfl,0,_,by omega,rfl,rfl⟩ ?_ ?_
 . rw[post_eq]
   simp[EVl,zH,zE]
   unfold zR;omega
 . rintro x rest e s' ⟨rfl,m,o,hm,hr,rfl⟩
   obtain⟨k,hk,rfl,hr2⟩:=lO hr
   refine⟨_,rfl,?_⟩
   have hg:=c zs (zY zs [[]] m) s' hz.sz (rD hz m) (qi hz (m+1))
   simp only[EVl,zH,zE]
   refine⟨_,rfl,_,rfl,?_⟩
   rw[hg]
   simp only[zA]
   exact⟨trivial,m+1,_,by omega,by rw[hr2];congr 1;omega,rfl⟩
 . rintro e s' ⟨rfl,m,o,hm,hr,rfl⟩
   have:=eA hr
   have e:m=n:=by omega
   subst e
   simp only[EVl,zH,zE]
   refine⟨_,rfl,?_⟩
   rw[xM (v:=.lst (tps (zY zs [[]] m))) (vI _)]
   exact zA.mpr ⟨rfl,rfl⟩
def eo(Φ:Calls):Prop:=∀(zs:List Int) (n:Nat) (s:Sto),z7 zs→n≤40→Φ "strips_many" 0 [tpI zs,.int n] s=.ok (.int (zY zs [[]] n).length) s
theorem iX(c:nN Φ){zs:List Int}{n:Nat}(hz:z7 zs)(hn:n≤40):run T Φ F12.yK [tpI zs,.int n] s=.ok (.int (zY zs [[]] n).length) s:=by
 rw[post_eq]
 simp[F12.yK,EVl,zH,zE,c zs n s hz hn,qp]
noncomputable def r8(L:List (List Int)):Val:=match L with
 |[]=>.none
 |x::_=>tpI x
def lh(Φ:Calls):Prop:=∀(zs:List Int) (n:Nat) (s:Sto),z7 zs→n≤40→Φ "first_strip" 0 [tpI zs,.int n] s=.ok (r8 (zY zs [[]] n)) s
theorem lP(c:nN Φ){zs:List Int}{n:Nat}(hz:z7 zs)(hn:n≤40):run T Φ F12.yH [tpI zs,.int n] s=.ok (r8 (zY zs [[]] n)) s:=by
 rw[post_eq]
 have c1:=c zs n s hz hn
 generalize zY zs [[]] n=L at *
 simp only[F12.yH,wC,EVl,zH,zE]
 refine⟨rfl,_,rfl,_,rfl,?_⟩
 rw[c1]
 simp only[zA]
 refine⟨_,rfl,_,rfl,?_⟩
 cases L with
 |nil=>
  simp[r8,EVl,zH,zE]
 |cons x L=>
  have hx:y1 (.lst (tps (x::L))) (.int 0) s=.ok (tpI x) s:=oC (k:=0) rfl
  rw[if_pos (show (!(tps (x::L)).isEmpty)=true from rfl)]
  refine⟨_,rfl,?_⟩
  rw[hx]
  simp[r8,EVl,zH,zE]
theorem uM:∀ks:List Int,PyData.eqvAll (ks.map PyData.int) (ks.map PyData.int)=true
 |[]=>by simp[PyData.eqvAll]
 |k::ks=>by rw[List.map_cons,PyData.eqvAll,uM ks,r0];simp
end
end M
end
section
namespace M
open PySem
theorem Fit.drop{zs ns:List Int}(hz:Sz zs)(hF:Fit zs ns)(n:Nat):Fit zs (ns.drop n):=by
 have:=((hF.rev hz).take (ns.length-n)).rev hz
 rwa [List.take_reverse,List.reverse_reverse,show ns.length-(ns.length-n)=min n ns.length by omega,show ns.drop (min n ns.length)=ns.drop n by
  by_cases h:n≤ns.length
  . rw[Nat.min_eq_left h]
  . rw[Nat.min_eq_right (by omega),List.drop_of_length_le (Nat.le_refl _),List.drop_of_length_le (by omega)]]at this
theorem gM{ns:List Int}{lo hi:Option Int}{s:Sto}:∃a b,xF false (tpI ns) lo hi none s=.ok (tpI ((ns.drop a).take b)) s:=by
 refine⟨HT.sIx (ns.map Val.int).length 0 lo,HT.sIx (ns.map Val.int).length (ns.map Val.int).length hi-HT.sIx (ns.map Val.int).length 0 lo,?_⟩
 simp only[xF]
 unfold rn
 rw[←List.map_drop,←List.map_take]
end M
end
section
namespace M
open PySem
section
variable {Φ:Calls}{G:Str→Option Val}{env:Env}{s s1 s2 s3 s4:Sto}
noncomputable def aq(f:Nat→Int):Val→List Val
 |.int k=>[.int (f k.toNat)]
 |_=>[]
theorem iM{f:Nat→Int}{n:Nat}:(z5 0 n).flatMap (aq f)=((List.range n).map f).map .int:=by
 unfold z5
 rw[List.flatMap_map,List.map_map]
 have:(fun(k:Nat)=>aq f (.int (0+(k:Int))))=fun k=>[(Val.int∘f) k]:=by
  funext k
  show [Val.int (f (0+(k:Int)).toNat)]=_
  rw[Int.zero_add,Int.toNat_natCast];rfl
 rw[this,kQ]
theorem Y4{N:List Str}{fr:List (Option Nat)}{elt:Ex}{it:Itb}{n:Nat}{f:Nat→Int}{e0:Env}(hi:yL Φ G env it s=.ok ⟨z5 0 n,none⟩ s)(h0:zE fr env=none::e0)(h:∀(k:Nat) (o:Option Val),k<n→evE Φ G (some (.int k)::e0) elt s=.ok (.int (f k)) s)(hl:n≤zR):evE Φ G env (.comp false N fr elt (.nm 0) it .nil) s=.ok (.lst (((List.range n).map f).map .int)) s:=by
 rw[post_eq]
 refine ug (fun e=>∃o,e=o::e0) (aq f) (z5 0 n) (s1:=s) hi ⟨none,h0⟩ ?_ ?_
 . rintro x hx e ⟨o,rfl⟩
   obtain⟨k,hk,rfl⟩:=wa hx
   refine⟨_,rfl,⟨_,rfl⟩,wd.mpr ⟨rfl,?_⟩⟩
   rw[if_pos rfl,Int.zero_add]
   show (evE Φ G (some (.int (k:Int))::e0) elt s).post _
   rw[h k none hk]
   refine zA.mpr ⟨rfl,?_⟩
   show [Val.int (f (k:Int).toNat)]=_
   rw[Int.toNat_natCast]
 . rw[iM]
   exact zA.mpr ⟨rfl,rfl⟩
end
end M
end
section
namespace M
open PySem
noncomputable def cY(x:Int):List Int→List (List Int)
 |[]=>[[x]]
 |y::ys=>(x::y::ys)::(cY x ys).map (y::·)
noncomputable def perms:List Int→List (List Int)
 |[]=>[[]]
 |x::xs=>(perms xs).flatMap (cY x)
theorem qz(x:Int):∀l1 l2:List Int,(l1++x::l2)∈cY x (l1++l2)
 |[],[]=>.head _
 |[],_::_=>.head _
 |y::l1,l2=>List.mem_cons_of_mem _ (List.mem_map_of_mem (qz x l1 l2))
theorem rG:∀{xs ys:List Int},ys.Perm xs→ys∈perms xs
 |[],ys,h=>by rw[h.eq_nil];exact .head _
 |x::xs,ys,h=>by
  obtain⟨l1,l2,rfl⟩:=List.append_of_mem (h.mem_iff.mpr (.head _))
  exact List.mem_flatMap.mpr ⟨_,rG (List.Perm.cons_inv (List.perm_middle.symm.trans h)),qz x l1 l2⟩
noncomputable def tal(zs:List Int):Nat→List (List Int)→List Nat
 |0,_=>[]
 |n+1,L=>L.length::tal zs n (yc zs L)
theorem qT{zs:List Int}:∀{n m:Nat} {L:List (List Int)},m<n→(tal zs n L)[m]?=some (zY zs L m).length
 |n+1,0,L,_=>rfl
 |n+1,m+1,L,h=>by
  show (tal zs n (yc zs L))[m]?=_
  rw[qT (Nat.lt_of_succ_lt_succ h)]
  have:=vV zs L 1 m
  rw[Nat.add_comm 1 m]at this
  rw[←this];rfl
noncomputable def tY(zs:List Int):Bool:=kI zs 18 [[]]&&decide (zs.foldl (·*·) 1≤12)&&(decide (1≤zs.length)&&decide (zs.length≤4)&&zs.all fun x=>decide (2≤x)&&decide (x≤8))
theorem uC{zs:List Int}(h:tY zs=true):z7 zs:=by
 unfold tY at h
 simp only[Bool.and_eq_true,decide_eq_true_eq,List.all_eq_true]at h
 obtain⟨⟨h1,h2⟩,⟨h3,h4⟩,h5⟩:=h
 have ⟨d1,d2⟩:=rq h1
 have d3:∀m,18≤m→zY zs [[]] m=[]:=fun m hm=>by
  have:=vW d1 (m-18)
  rwa [show 18+(m-18)=m by omega]at this
 refine⟨⟨h3,h4,fun x hx=>h5 x hx⟩,h2,d3,fun m=>?_⟩
 by_cases hm:m<18
 . exact d2 m hm
 . rw[d3 m (by omega)];simp
theorem pW:(yR.all fun zs=>(perms zs).eraseDups.all fun ys=>tY ys&&decide (tal ys 18 [[]]=tal zs 18 [[]]))=true:=by decide +kernel
theorem tf{zs ys:List Int}(h:zs∈yR)(p:ys.Perm zs):z7 ys∧∀m,(zY ys [[]] m).length=(zY zs [[]] m).length:=by
 have:=List.all_eq_true.mp (List.all_eq_true.mp pW zs h) ys (List.mem_eraseDups.mpr (rG p))
 rw[Bool.and_eq_true]at this
 have hs:=uC this.1
 have ht:=of_decide_eq_true this.2
 refine⟨hs,fun m=>?_⟩
 by_cases hm:m<18
 . have h1:=qT (zs:=ys) (L:=[[]]) hm
   rw[ht,qT hm]at h1
   exact(Option.some.inj h1).symm
 . rw[hs.die m (by omega),(tZ h).die m (by omega)]
noncomputable def wo(zs:List Int)(os:List Nat):List Int:=(List.range zs.length).map fun h=>zs.getD (os.idxOf h) 0
noncomputable def apO(os:List Nat)(i:Int):Int:=((os.getD i.toNat 0:Nat):Int)
theorem fM(zs:List Int)(os:List Nat):(wo zs os).length=zs.length:=by unfold wo;rw[List.length_map,List.length_range]
theorem g7{os:List Nat}(h:os.Nodup):os.map (fun x=>os.idxOf x)=List.range os.length:=by
 apply List.ext_getElem
 . simp
 . intro i h1 h2
   rw[List.getElem_map,h.idxOf_getElem,List.getElem_range]
theorem range_getD(zs:List Int):(List.range zs.length).map (fun h=>zs.getD h 0)=zs:=by
 apply List.ext_getElem
 . simp
 . intro i h1 h2
   rw[List.getElem_map,List.getElem_range,List.getD_eq_getElem?_getD,List.getElem?_eq_getElem h2];rfl
theorem pG{zs:List Int}{os:List Nat}(p:os.Perm (List.range zs.length)):(wo zs os).Perm zs:=by
 have nd:os.Nodup:=p.nodup_iff.mpr List.nodup_range
 have hl:os.length=zs.length:=by rw[p.length_eq,List.length_range]
 have h1:((List.range zs.length).map fun x=>os.idxOf x).Perm (List.range zs.length):=by
  have:=(p.symm.map fun x=>os.idxOf x)
  rw[g7 nd,hl]at this
  exact this
 have h2:=h1.map fun h=>zs.getD h 0
 rw[List.map_map,range_getD]at h2
 exact h2
structure Od(k:Nat)(os:List Nat):Prop where
 nd:os.Nodup
 len:os.length=k
 lt:∀x∈os,x<k
 ix:∀h,h<k→os.idxOf h<k∧os[os.idxOf h]?=some h
 at_:∀(a h:Nat),os[a]?=some h→os.idxOf h=a
theorem jZ{k:Nat}{os:List Nat}(p:os.Perm (List.range k)):Od k os:=by
 have nd:os.Nodup:=p.nodup_iff.mpr List.nodup_range
 have hl:os.length=k:=by rw[p.length_eq,List.length_range]
 refine⟨nd,hl,fun x hx=>List.mem_range.mp (p.mem_iff.mp hx),fun h hh=>?_,fun a h e=>?_⟩
 . have hm:h∈os:=p.mem_iff.mpr (List.mem_range.mpr hh)
   have hlt:=List.idxOf_lt_length_iff.mpr hm
   exact⟨by omega,by rw[List.getElem?_eq_getElem hlt,List.getElem_idxOf]⟩
 . obtain⟨hlt,rfl⟩:=List.getElem?_eq_some_iff.mp e
   exact nd.idxOf_getElem a hlt
theorem Fit.cQ{zs ns:List Int}{os:List Nat}(hf:Fit zs ns)(p:os.Perm (List.range zs.length)):Fit (wo zs os) (ns.map (apO os)):=by
 have O:=jZ p
 have hL:=fM zs os
 have hap:∀i∈ns,∃a:Nat,i=(a:Int)∧a<zs.length∧∃h,os[a]?=some h∧h<zs.length∧apO os i=(h:Int):=fun i hi=>by
  have:=hf.hue i hi
  obtain⟨a,rfl⟩:∃a:Nat,i=a:=⟨i.toNat,by omega⟩
  have ha:a<os.length:=by rw[O.len];omega
  refine⟨a,rfl,by omega,os[a],List.getElem?_eq_getElem ha,O.lt _ (List.getElem_mem ha),?_⟩
  unfold apO
  rw[Int.toNat_natCast,List.getD_eq_getElem?_getD,List.getElem?_eq_getElem ha];rfl
 refine⟨fun x hx=>?_,fun h f d h1 h2 h3 h4=>?_⟩
 . obtain⟨i,hi,rfl⟩:=List.mem_map.mp hx
   obtain⟨a,rfl,ha,h,_,hh,e⟩:=hap i hi
   rw[e,hL];omega
 . rw[hL]at h1
   obtain⟨x1,x2⟩:=O.ix h h1
   have hs:zd (wo zs os) h=zd zs (os.idxOf h):=by
    unfold zd wo
    rw[List.getD_eq_getElem?_getD,List.getElem?_map,List.getElem?_range h1];rfl
   rw[hs,List.length_map]at h3
   rw[hs]at h4
   refine hf.row (os.idxOf h) f d x1 h2 h3 (z8.mpr fun k hk=>?_)
   have:=z8.mp h4 k hk
   rw[List.getElem?_map]at this
   obtain⟨i,h5,h6⟩:=Option.map_eq_some_iff.mp this
   obtain⟨a,rfl,ha,h',e1,_,e2⟩:=hap i (List.mem_of_getElem? h5)
   rw[e2]at h6
   obtain rfl:h'=h:=by omega
   rw[h5,O.at_ a h' e1]
theorem Fit.ZC{zs ns ts:List Int}{f0 d0:Nat}(hz:Sz zs)(hf:Fit zs ns)(hd:0<d0)(ht:∀i:Nat,ts[i]?=ns[f0+i*d0]?):Fit zs ts:=by
 refine⟨fun x hx=>?_,fun h f d h1 h2 h3 h4=>?_⟩
 . obtain⟨i,hi⟩:=List.getElem?_of_mem hx
   rw[ht]at hi
   exact hf.hue x (List.mem_of_getElem? hi)
 . obtain⟨_,z2,_⟩:=xj hz h1
   have ix:∀k,f0+(f+k*d)*d0=f0+f*d0+k*(d*d0):=fun k=>by rw[Nat.add_mul,Nat.mul_assoc];omega
   have hl:=z8.mp h4 (zd zs h-1) (by omega)
   rw[ht,ix]at hl
   refine hf.row h (f0+f*d0) (d*d0) h1 (Nat.mul_pos h2 hd) ?_ (z8.mpr fun k hk=>?_)
   . have:=(List.getElem?_eq_some_iff.mp hl).1
     rw[Nat.mul_comm (d*d0)];exact this
   . have:=z8.mp h4 k hk
     rw[ht,ix]at this
     exact this
theorem nk{α β:Type}{g:α→Option β}{h:α→β}:∀{l:List α},(∀a∈l,g a=some (h a))→l.filterMap g=l.map h
 |[],_=>rfl
 |a::l,H=>by rw[List.filterMap_cons,H a (.head _),List.map_cons,nk fun b hb=>H b (.tail _ hb)]
theorem fk{ns:List Int}{f d c:Nat}(h1:∀k,k<c→f+k*d<ns.length)(h2:ns.length≤f+c*d)(i:Nat):(L2.zW ns (f:Int) (d:Int) c)[i]?=ns[f+i*d]?:=by
 have e:L2.zW ns (f:Int) (d:Int) c=(List.range c).map fun k=>ns.getD (f+k*d) 0:=by
  unfold L2.zW
  refine nk fun k hk=>?_
  have hk:=h1 k (List.mem_range.mp hk)
  rw[show ((f:Int)+(k:Int)*(d:Int)).toNat=f+k*d by rw[←Int.natCast_mul,←Int.natCast_add,Int.toNat_natCast]]
  rw[List.getD_eq_getElem?_getD,List.getElem?_eq_getElem hk];rfl
 rw[e,List.getElem?_map]
 by_cases hi:i<c
 . rw[List.getElem?_range hi,List.getElem?_eq_getElem (h1 i hi)]
   show some (ns.getD (f+i*d) 0)=_
   rw[List.getD_eq_getElem?_getD,List.getElem?_eq_getElem (h1 i hi)];rfl
 . rw[List.getElem?_eq_none (by rw[List.length_range];omega),List.getElem?_eq_none]
   . rfl
   . have:=Nat.mul_le_mul_right d (Nat.le_of_not_lt hi)
     omega
theorem kD:∀n:Nat,n<18→∀f:Nat,f<6→∀d:Nat,d<4→L2.zu n (some (f:Int)) none ((d+1:Nat):Int)=(((min f n:Nat):Int),(n-f+d)/(d+1)):=by decide +kernel
theorem eU{ns:List Int}{f d:Nat}(hn:ns.length<18)(hf:f<6)(hd:1≤d)(hd4:d≤4)(s:Sto):∃ts:List Int,(∀i:Nat,ts[i]?=ns[f+i*d]?)∧ts.length<18∧∀s,xF false (.tup (ns.map .int)) (some (f:Int)) none (some (d:Int)) s=.ok (.tup (ts.map .int)) s:=by
 obtain⟨d,rfl⟩:∃e,d=e+1:=⟨d-1,by omega⟩
 have hc:=kD ns.length hn f hf d (by omega)
 have hc2:(ns.length-f+d)/(d+1)<18:=by
  have:(ns.length-f+d)/(d+1)≤ns.length:=by
   rw[Nat.div_le_iff_le_mul_add_pred (by omega)]
   have:=Nat.mul_le_mul_right ns.length (show 1≤d+1 by omega)
   omega
  omega
 have hs:∀s,xF false (.tup (ns.map .int)) (some (f:Int)) none (some ((d+1:Nat):Int)) s=.ok (.tup ((L2.zW ns ((min f ns.length:Nat):Int) ((d+1:Nat):Int) ((ns.length-f+d)/(d+1))).map .int)) s:=fun s=>by
  simp only[xF]
  rw[List.length_map,hc,if_pos ⟨by omega,Nat.le_trans (Nat.le_of_lt hc2) (by decide)⟩]
  unfold L2.zW
  rw[List.map_filterMap]
  simp only[List.getElem?_map]
 refine⟨_,?_,?_,hs⟩
 . by_cases hfn:f<ns.length
   . rw[show min f ns.length=f by omega]
     refine fk (fun k hk=>?_) ?_
     . have h1:(k+1)*(d+1)≤ns.length-f+d:=by
        have:=Nat.div_mul_le_self (ns.length-f+d) (d+1)
        exact Nat.le_trans (Nat.mul_le_mul_right _ hk) this
       rw[Nat.succ_mul]at h1
       omega
     . have:=Nat.lt_div_mul_add (a:=ns.length-f+d) (b:=d+1) (by omega)
       omega
   . intro i
     rw[show (ns.length-f+d)/(d+1)=0 by rw[show ns.length-f=0 by omega];exact Nat.div_eq_of_lt (by omega)]
     rw[List.getElem?_eq_none (by simp[L2.zW]),List.getElem?_eq_none (by have:=Nat.zero_le (i*(d+1));omega)]
 . refine Nat.lt_of_le_of_lt ?_ hc2
   unfold L2.zW
   exact Nat.le_trans (List.length_filterMap_le _ _) (by rw[List.length_range];exact Nat.le_refl _)
end M
end
section
namespace F14
open PySem M
noncomputable def zf:Fn:=⟨["_law_sizes","_law_order","_law_strip","_law_first","_law_step","_law_led_round","_law_other"],["_law_sizes","_law_order","_law_strip","_law_first","_law_step"],false,(.cons (.ifS (.or (.not (.val (.call "is_strip" 0 (.cons (.var 2) .nil)))) (.cons (.not (.val (.call "fits" 0 (.cons (.var 0) (.cons (.var 2) .nil))))) (.cons (.val (.cmp .isNot (.call "first_wrong" 0 (.cons (.var 0) (.cons (.var 2) .nil))) (.lit .none))) .nil))) (.cons (.ret (.lit (.bool false))) .nil) .nil) (.cons (.ifS (.or (.not (.val (.call "fits" 0 (.cons (.var 0) (.cons (.call "backward" 0 (.cons (.var 2) .nil)) .nil))))) (.cons (.not (.val (.call "fits" 0 (.cons (.var 0) (.cons (.call "thinned" 0 (.cons (.var 2) (.cons (.var 3) (.cons (.var 4) .nil)))) .nil))))) .nil)) (.cons (.ret (.lit (.bool false))) .nil) .nil) (.cons (.asg 5 (.call "exchanged" 0 (.cons (.var 2) (.cons (.bin false .add (.var 1) (.listRange false (.blt .len false (.cons (.var 1) .nil)) (.lit (.int 4)) (.lit .none))) .nil)))) (.cons (.asg 6 (.blt .tuple false (.cons (.comp false ["_law_hue","_law_sizes","_law_order"] [none,some 0,some 1] (.ix (.var 1) (.zy .index false (.var 2) (.cons (.var 0) .nil))) (.nm 0) (.range1 (.blt .len false (.cons (.var 0) .nil))) .nil) .nil))) (.cons (.ret (.andE (.call "fits" 0 (.cons (.var 6) (.cons (.var 5) .nil))) (.cons (.call "fits" 0 (.cons (.var 0) (.cons (.sl false (.var 2) .no (.yes (.var 3)) .no) .nil))) .nil))) .nil)))))⟩
noncomputable def yu:Fn:=⟨["strip"],["strip"],false,(.cons (.expr (.call "need_strip" 0 (.cons (.var 0) .nil))) (.cons (.ret (.sl false (.var 0) .no .no (.yes (.neg (.lit (.int 1)))))) .nil))⟩
noncomputable def yi:Fn:=⟨["strip","hues"],["strip","hues"],false,(.cons (.expr (.call "need_strip" 0 (.cons (.var 0) .nil))) (.cons (.ifS (.not (.val (.call "is_order" 0 (.cons (.var 1) .nil)))) (.cons (.raise (.lit .none)) .nil) .nil) (.cons (.ret (.blt .tuple false (.cons (.comp false ["hue","hues"] [none,some 1] (.ix (.var 1) (.var 0)) (.nm 0) (.val (.var 0)) .nil) .nil))) .nil)))⟩
noncomputable def yw:Fn:=⟨["thing"],["thing"],false,(.cons (.ret (.andE (.blt .isi false (.cons (.var 0) (.cons (.ty "tuple" "tuple") .nil))) (.cons (.call "are_wholes" 0 (.cons (.var 0) (.cons (.ix (.gl "HUES") (.lit (.int 0))) (.cons (.ix (.gl "HUES") (.neg (.lit (.int 1)))) .nil)))) (.cons (.cmp .eq (.blt .tuple false (.cons (.blt .sortedI false (.cons (.var 0) .nil)) .nil)) (.gl "HUES")) .nil)))) .nil)⟩
noncomputable def yX:Fn:=⟨["thing"],["thing"],false,(.cons (.expr (.call "need_whole" 0 (.cons (.var 0) (.cons (.lit (.int 0)) (.cons (.gl "MOST_PLACES") .nil))))) .nil)⟩
noncomputable def yk:Fn:=⟨["thing"],["thing"],false,(.cons (.expr (.call "need_whole" 0 (.cons (.var 0) (.cons (.lit (.int 1)) (.cons (.gl "MOST_PLACES") .nil))))) .nil)⟩
noncomputable def xG:Fn:=⟨["strip","first","step"],["strip","first","step"],false,(.cons (.expr (.call "need_strip" 0 (.cons (.var 0) .nil))) (.cons (.expr (.call "need_first" 0 (.cons (.var 1) .nil))) (.cons (.expr (.call "need_step" 0 (.cons (.var 2) .nil))) (.cons (.ret (.sl false (.var 0) (.yes (.var 1)) .no (.yes (.var 2)))) .nil))))⟩
end F14
end
section
namespace M
open PySem
theorem xJ{s:Sto}{v:Val}(h:v.noRef=true):(z9 false s v s).post fun x t=>x=v∧t=s:=by
 rw[xM h];exact zA.mpr ⟨rfl,rfl⟩
theorem oN(ns:List Int):(tpI ns).noRef=true:=yl ns
noncomputable abbrev yf(os:List Nat):List Int:=os.map fun(h:Nat)=>(h:Int)
noncomputable def oX(os:List Nat)(k:Nat):List Int:=yf os++L2.zb k 4 1
structure Od4(hs:List Int):Prop where
 len:hs.length=4
 rng:∀x∈hs,0≤x∧x≤3
 srt:sortI hs=[0,1,2,3]
theorem jY{k:Nat}{os:List Nat}(p:os.Perm (List.range k))(h1:1≤k)(h4:k≤4):Od4 (oX os k):=by
 have hp:(oX os k).Perm [0,1,2,3]:=by
  have h:=((p.map fun(h:Nat)=>(h:Int)).append_right (L2.zb k 4 1))
  refine h.trans ?_
  have:k=1∨k=2∨k=3∨k=4:=by omega
  rcases this with rfl|rfl|rfl|rfl<;>exact .refl _
 refine⟨hp.length_eq,fun x hx=>?_,List.Perm.eq_of_pairwise (fun a b _ _ h1 h2=>Int.le_antisymm h1 h2) (tm _) (by decide) ((sortI_perm _).trans hp)⟩
 have:=hp.mem_iff.mp hx
 simp only[List.mem_cons,List.not_mem_nil,or_false]at this
 omega
section
variable {T:Tbl}{Φ:Calls}{s:Sto}
def uj(Φ:Calls):Prop:=∀(i:Int) (s:Sto),0≤i→i≤40→Φ "need_first" 0 [.int i] s=.ok .none s
def se(Φ:Calls):Prop:=∀(i:Int) (s:Sto),1≤i→i≤40→Φ "need_step" 0 [.int i] s=.ok .none s
theorem sO(g:Gl4 T)(c:xm Φ){i:Int}(h1:0≤i)(h2:i≤40):run T Φ F14.yX [.int i] s=.ok .none s:=by
 rw[post_eq,F14.yX,wC]
 refine⟨rfl,?_⟩
 show (zi Φ T.gl [some (.int i)] _ s).post _
 exact wA (x_call (zB (zJ rfl) (zB yB (zB (hX g.mp) zL))) (c i 0 40 s h1 h2)) (mF (xJ rfl))
theorem qP(g:Gl4 T)(c:xm Φ){i:Int}(h1:1≤i)(h2:i≤40):run T Φ F14.yk [.int i] s=.ok .none s:=by
 rw[post_eq,F14.yk,wC]
 refine⟨rfl,?_⟩
 show (zi Φ T.gl [some (.int i)] _ s).post _
 exact wA (x_call (zB (zJ rfl) (zB yB (zB (hX g.mp) zL))) (c i 1 40 s h1 h2)) (mF (xJ rfl))
def ed(Φ:Calls):Prop:=∀(zs ns:List Int) (s:Sto),Sz zs→Fit zs ns→ns.length≤40→Φ "backward" 0 [tpI ns] s=.ok (tpI ns.reverse) s
theorem ij{ns:List Int}(hn:ns.length<41){s:Sto}:xF false (tpI ns) none none (some (-1)) s=.ok (tpI ns.reverse) s:=by
 have hc:∀n:Nat,n<41→(L2.zu n none none (-1)).2≤zR:=by
  have h:∀n:Nat,n<41→(L2.zu n none none (-1)).2≤41:=by decide +kernel
  intro n hn
  exact Nat.le_trans (h n hn) (by decide)
 have e:xF false (tpI ns) none none (some (-1)) s=.ok (.tup (L2.zW (ns.map .int) (L2.zu ns.length none none (-1)).1 (-1) (L2.zu ns.length none none (-1)).2)) s:=by
  simp only[xF]
  rw[List.length_map,if_pos ⟨by decide,hc _ hn⟩]
 rw[e,←j9 hn]
 show Out.ok (Val.tup _) s=.ok (Val.tup _) s
 unfold L2.zW
 rw[List.map_filterMap]
 simp only[List.getElem?_map]
theorem iP(c:xH Φ){zs ns:List Int}(hz:Sz zs)(hf:Fit zs ns)(hn:ns.length≤40):run T Φ F14.yu [tpI ns] s=.ok (tpI ns.reverse) s:=by
 rw[post_eq,F14.yu,wC]
 refine⟨rfl,?_⟩
 show (zi Φ T.gl [some (tpI ns)] _ s).post _
 exact wA (x_call (zB (zJ rfl) zL) (c zs ns s hz hf hn)) (vh (eZ (zJ rfl) oO oO (pD (dq yB)) (ij (by omega))) (xJ (oN _)))
def ez(Φ:Calls):Prop:=∀(zs ns ts:List Int) (f d:Nat) (s:Sto),Sz zs→Fit zs ns→ns.length<18→f<6→1≤d→d≤4→(∀s,xF false (tpI ns) (some (f:Int)) none (some (d:Int)) s=.ok (tpI ts) s)→Φ "thinned" 0 [tpI ns,.int f,.int d] s=.ok (tpI ts) s
theorem ic(c:xH Φ)(c1:uj Φ)(c2:se Φ){zs ns ts:List Int}{f d:Nat}(hz:Sz zs)(hf:Fit zs ns)(hn:ns.length<18)(h1:f<6)(h2:1≤d)(h3:d≤4)(ht:∀s,xF false (tpI ns) (some (f:Int)) none (some (d:Int)) s=.ok (tpI ts) s):run T Φ F14.xG [tpI ns,.int f,.int d] s=.ok (tpI ts) s:=by
 rw[post_eq,F14.xG,wC]
 refine⟨rfl,?_⟩
 show (zi Φ T.gl [some (tpI ns),some (.int f),some (.int d)] _ s).post _
 exact wA (x_call (zB (zJ rfl) zL) (c zs ns s hz hf (by omega))) (wA (x_call (zB (zJ rfl) zL) (c1 f s (by omega) (by omega))) (wA (x_call (zB (zJ rfl) zL) (c2 d s (by omega) (by omega))) (vh (eZ (zJ rfl) (pD (zJ rfl)) oO (pD (zJ rfl)) (ht s)) (xJ (oN _)))))
def lj(Φ:Calls):Prop:=∀(hs:List Int) (s:Sto),Od4 hs→Φ "is_order" 0 [tpI hs] s=.ok (.bool true) s
theorem lQ(g:Gl4 T)(c:ua Φ){hs:List Int}(h:Od4 hs):run T Φ F14.yw [tpI hs] s=.ok (.bool true) s:=by
 have c1:=c (hs.map .int) 0 3 s v5
 rw[vD h.rng]at c1
 have i0:y1 (.ctup [0,1,2,3]) (.int 0) s=.ok (.int 0) s:=rfl
 have i1:y1 (.ctup [0,1,2,3]) (.int (-1)) s=.ok (.int 3) s:=rfl
 have hs1:blt .sortedI false [tpI hs] s=.ok (.lst (([0,1,2,3]:List Int).map .int)) s:=by
  show (match M.intsOf (hs.map .int) with|some ns=>if ns.length<64 then newList false ((sortI ns).map .int) s else .stuck|Option.none=>.stuck)=_
  rw[nu]
  show (if hs.length<64 then newList false ((sortI hs).map .int) s else .stuck)=_
  rw[if_pos (by rw[h.len];decide),h.srt];rfl
 have hs2:blt .tuple false [.lst (([0,1,2,3]:List Int).map .int)] s=.ok (tpI [0,1,2,3]) s:=rfl
 have hs3:zS .eq (tpI [0,1,2,3]) (.ctup [0,1,2,3]) s=.ok (.bool true) s:=rfl
 rw[post_eq,F14.yw,wC]
 refine⟨rfl,?_⟩
 show (zi Φ T.gl [some (tpI hs)] _ s).post _
 exact vh (hW (yt (zB (zJ rfl) (zB lg zL)) qE) (x_call (zB (zJ rfl) (zB (lb (hX g.hu) yB i0) (zB (lb (hX g.hu) (dq yB) i1) zL))) c1) (w9 (yt (zB (yt (zB (zJ rfl) zL) hs1) zL) hs2) (hX g.hu) hs3)) (xJ vY)
def ef(Φ:Calls):Prop:=∀(zs ns hs:List Int) (s:Sto),Sz zs→Fit zs ns→ns.length≤40→Od4 hs→Φ "exchanged" 0 [tpI ns,tpI hs] s=.ok (tpI (ns.map fun i=>hs.getD i.toNat 0)) s
theorem iS(c:xH Φ)(c1:lj Φ){zs ns hs:List Int}(hz:Sz zs)(hf:Fit zs ns)(hn:ns.length≤40)(ho:Od4 hs):run T Φ F14.yi [tpI ns,tpI hs] s=.ok (tpI (ns.map fun i=>hs.getD i.toNat 0)) s:=by
 rw[post_eq,F14.yi,wC]
 refine⟨rfl,?_⟩
 show (zi Φ T.gl [some (tpI ns),some (tpI hs)] _ s).post _
 have hc:evE Φ T.gl [some (tpI ns),some (tpI hs)] (.comp false ["hue","hues"] [none,some 1] (.ix (.var 1) (.var 0)) (.nm 0) (.val (.var 0)) .nil) s=.ok (.lst ((ns.map fun i=>hs.getD i.toNat 0).map .int)) s:=by
  rw[post_eq]
  refine ug (fun e=>∃o,e=[o,some (tpI hs)]) (fun x=>match x with|.int i=>[.int (hs.getD i.toNat 0)]|_=>[]) (ns.map .int) (s1:=s) (kh (zJ rfl) rfl) ⟨none,rfl⟩ ?_ ?_
  . rintro x hx e ⟨o,rfl⟩
    obtain⟨i,hi,rfl⟩:=List.mem_map.mp hx
    refine⟨_,rfl,⟨_,rfl⟩,wd.mpr ⟨rfl,?_⟩⟩
    rw[if_pos rfl]
    have h1:=hf.hue i hi
    have h2:=hz.2.1
    obtain⟨a,rfl⟩:∃a:Nat,i=a:=⟨i.toNat,by omega⟩
    have ha:a<hs.length:=by rw[ho.len];omega
    have hx:y1 (tpI hs) (.int (a:Int)) s=.ok (.int hs[a]) s:=tD (List.getElem?_eq_getElem ha)
    show (evE Φ T.gl [some (.int (a:Int)),some (tpI hs)] (.ix (.var 1) (.var 0)) s).post _
    rw[lb (zJ rfl) (zJ rfl) hx]
    refine zA.mpr ⟨rfl,?_⟩
    show [Val.int (hs.getD (a:Int).toNat 0)]=_
    rw[Int.toNat_natCast,List.getD_eq_getElem?_getD,List.getElem?_eq_getElem ha];rfl
  . have e:(ns.map Val.int).flatMap (fun x=>match x with|.int i=>[Val.int (hs.getD i.toNat 0)]|_=>[])=(ns.map fun i=>hs.getD i.toNat 0).map .int:=by
     rw[List.flatMap_map,List.map_map]
     exact kQ _ _
    rw[e]
    exact zA.mpr ⟨rfl,rfl⟩
 exact wA (x_call (zB (zJ rfl) zL) (c zs ns s hz hf hn)) (tX (rO (xl (x_call (zB (zJ rfl) zL) (c1 hs s ho)) yE)) (vh (yt (zB hc zL) rfl) (xJ (oN _))))
end
end M
end
section
namespace M
open PySem
theorem uw{α:Type}:∀{l:List α} {r:Nat} (h:r<l.length),(l[r]::l.eraseIdx r).Perm l
 |a::l,0,_=>.refl _
 |a::l,r+1,h=>(List.Perm.swap a _ _).trans ((uw (l:=l) (Nat.lt_of_succ_lt_succ h)).cons a)
theorem v9{α β:Type}{f:α→β}:∀{l:List α} {r:Nat},(l.eraseIdx r).map f=(l.map f).eraseIdx r
 |[],_=>rfl
 |a::l,0=>rfl
 |a::l,r+1=>congrArg (f a::·) v9
theorem kY{k:Nat}{os:List Nat}(O:Od k os){h:Nat}(hh:h<k){s:Sto}:zy .index (tpI (yf os)) [.int h] s=.ok (.int ((os.idxOf h:Nat):Int)) s:=by
 have hfl:(flat (.int (h:Int))&&((yf os).map Val.int).all flat)=true:=by
  rw[Bool.and_eq_true]
  refine⟨rfl,List.all_eq_true.mpr fun x hx=>?_⟩
  obtain⟨i,_,rfl⟩:=List.mem_map.mp hx
  rfl
 have hi:((yf os).map Val.int).findIdx? (fun z=>eqF z (.int (h:Int)))=some (os.idxOf h):=by
  obtain⟨x1,x2⟩:=O.ix h hh
  have hl:os.idxOf h<os.length:=by rw[O.len];exact x1
  refine List.findIdx?_eq_some_iff_getElem.mpr ⟨by rw[List.length_map,List.length_map];exact hl,?_,fun j hj hc=>?_⟩
  . rw[List.getElem_map,List.getElem_map]
    show (((os[os.idxOf h]'hl:Nat):Int) == (h:Int))=true
    rw[List.getElem_idxOf];exact beq_self_eq_true _
  . rw[List.getElem_map,List.getElem_map]at hc
    have hjl:j<os.length:=by omega
    have hc:(((os[j]'hjl:Nat):Int) == (h:Int))=true:=hc
    have e:os[j]'hjl=h:=by have:=eq_of_beq hc;omega
    have:=O.at_ j h (by rw[List.getElem?_eq_getElem hjl,e])
    omega
 show (if (flat (.int (h:Int))&&((yf os).map Val.int).all flat)=true then (match ((yf os).map Val.int).findIdx? (fun z=>eqF z (.int (h:Int))) with|some j=>Out.ok (Val.int (j:Nat)) s|Option.none=>.stuck) else .stuck)=_
 rw[if_pos hfl,hi]
theorem fL{os:List Nat}{k:Nat}(O:Od k os){ns zs:List Int}(hk:zs.length=k)(hf:Fit zs ns):(ns.map fun i=>(oX os k).getD i.toNat 0)=ns.map (apO os):=by
 refine List.map_congr_left fun i hi=>?_
 have h1:=hf.hue i hi
 have ha:i.toNat<os.length:=by rw[O.len];omega
 unfold oX apO
 rw[List.getD_eq_getElem?_getD,List.getElem?_append_left (by rw[List.length_map];exact ha),List.getElem?_map,List.getElem?_eq_getElem ha,List.getD_eq_getElem?_getD,List.getElem?_eq_getElem ha];rfl
section
variable {T:Tbl}{Φ:Calls}{s:Sto}
theorem eY{G:Str→Option Val}{env:Env}{f:Mf}{m:Bool}{o:Ex}{es:Exs}{x:Val}{vs:List Val}{s1 s2:Sto}{r:Out Val}(h1:evE Φ G env o s=.ok x s1)(h2:yd Φ G env es s1=.ok vs s2)(h3:zy f x vs s2=r):evE Φ G env (.zy f m o es) s=r:=bnd h1 (bnd h2 h3)
theorem du{G:Str→Option Val}{env:Env}{N:List Str}{iz io:Nat}{zs:List Int}{os:List Nat}(hz:env[iz]?=some (some (tpI zs)))(ho:zE [none,some iz,some io] env=[none,some (tpI zs),some (tpI (yf os))])(O:Od zs.length os)(hl:zs.length≤4) :
 evE Φ G env (.blt .tuple false (.cons (.comp false N [none,some iz,some io] (.ix (.var 1) (.zy .index false (.var 2) (.cons (.var 0) .nil))) (.nm 0) (.range1 (.blt .len false (.cons (.var iz) .nil))) .nil) .nil)) s=.ok (tpI (wo zs os)) s:=by
 have hL:zs.length≤zR:=Nat.le_trans hl (by decide)
 refine yt (zB (Y4 (n:=zs.length) (f:=fun h=>zs.getD (os.idxOf h) 0) (dF (yt (zB (zJ hz) zL) (by rw[w4,List.length_map])) hL) ho (fun k o hk=>?_) hL) zL) rfl
 obtain⟨x1,x2⟩:=O.ix k hk
 refine lb (zJ rfl) (eY (zJ rfl) (zB (zJ rfl) zL) (kY O hk)) (tD ?_)
 rw[List.getElem?_eq_getElem x1,List.getD_eq_getElem?_getD,List.getElem?_eq_getElem x1];rfl
def ll(Φ:Calls):Prop:=∀(zs ns:List Int) (os:List Nat) (f d:Nat) (s:Sto),zs∈yR→Fit zs ns→ns.length<18→os.Perm (List.range zs.length)→f<6→1≤d→d≤4→Φ "_law_strip_right" 0 [tpI zs,tpI (yf os),tpI ns,.int f,.int d] s=.ok (.bool true) s
theorem lR(cS:ui Φ)(cF:el Φ)(cW:rV Φ)(cB:ed Φ)(cT:ez Φ)(cE:ef Φ){zs ns:List Int}{os:List Nat}{f d:Nat}(hm:zs∈yR)(hf:Fit zs ns)(hn:ns.length<18)(p:os.Perm (List.range zs.length))(h1:f<6)(h2:1≤d)(h3:d≤4) :
 run T Φ F14.zf [tpI zs,tpI (yf os),tpI ns,.int f,.int d] s=.ok (.bool true) s:=by
 have hz:=(tZ hm).sz
 have hZ:=hz.1
 have hZ4:=hz.2.1
 have O:=jZ p
 have hy:=(tf hm (pG p)).1.sz
 obtain⟨ts,t1,t2,t3⟩:=eU hn h1 h2 h3 s
 have ft:Fit zs ts:=hf.ZC hz (by omega) t1
 have hE:Fit (wo zs os) (ns.map (apO os)):=hf.cQ p
 obtain⟨a,b,sl⟩:=gM (ns:=ns) (lo:=none) (hi:=some (f:Int)) (s:=s)
 have hN:(zS .isNot .none .none s:Out Val)=.ok (.bool false) s:=rfl
 have hlen:blt .len false [tpI (yf os)] s=.ok (.int (zs.length:Nat)) s:=by rw[w4,List.length_map,List.length_map,O.len]
 have hrg:v8 false (.int (zs.length:Nat)) (.int 4) .none s=.ok (.tup ((L2.zb zs.length 4 1).map .int)) s:=by
  have:zs.length=1∨zs.length=2∨zs.length=3∨zs.length=4:=by omega
  rcases this with e|e|e|e<;>rw[e]<;>rfl
 have hadd:binOp false .add (tpI (yf os)) (.tup ((L2.zb zs.length 4 1).map .int)) s=.ok (tpI (oX os zs.length)) s:=by
  show (if ((yf os).map Val.int).length+((L2.zb zs.length 4 1).map Val.int).length≤zR then Out.ok (Val.tup ((yf os).map Val.int++(L2.zb zs.length 4 1).map Val.int)) s else .stuck)=_
  have hl:=(jY p hZ hZ4).len
  unfold oX at hl
  rw[List.length_append,List.length_map]at hl
  rw[if_pos (by rw[List.length_map,List.length_map,List.length_map,hl];decide),←List.map_append];rfl
 have he:=cE zs ns (oX os zs.length) s hz hf (by omega) (jY p hZ hZ4)
 rw[fL O rfl hf]at he
 rw[post_eq,F14.zf,wC]
 refine⟨rfl,?_⟩
 show (zi Φ T.gl [some (tpI zs),some (tpI (yf os)),some (tpI ns),some (.int f),some (.int d),none,none] _ s).post _
 refine tX (iy (rO (xl (x_call (zB (zJ rfl) zL) (cS zs ns s hz hf (by omega))) yE)) (wj (rO (xl (x_call (zB (zJ rfl) (zB (zJ rfl) zL)) (cF zs ns s hz hf (by omega))) yE)) (wj (xl (w9 (x_call (zB (zJ rfl) (zB (zJ rfl) zL)) (cW zs ns s hz hf (by omega))) yB hN) yE) t7))) ?_
 refine tX (iy (rO (xl (x_call (zB (zJ rfl) (zB (x_call (zB (zJ rfl) zL) (cB zs ns s hz hf (by omega))) zL)) (cF zs ns.reverse s hz (hf.rev hz) (by rw[List.length_reverse];omega))) yE)) (wj (rO (xl (x_call (zB (zJ rfl) (zB (x_call (zB (zJ rfl) (zB (zJ rfl) (zB (zJ rfl) zL))) (cT zs ns ts f d s hz hf hn h1 h2 h3 t3)) zL)) (cF zs ts s hz ft (by omega))) yE)) t7)) ?_
 refine tW (x_call (zB (zJ rfl) (zB (pd (zJ rfl) (bnd (yt (zB (zJ rfl) zL) hlen) (bnd yB (bnd yB hrg))) hadd) zL)) he) ?_
 show (zi Φ T.gl [some (tpI zs),some (tpI (yf os)),some (tpI ns),some (.int f),some (.int d),some (tpI (ns.map (apO os))),none] _ s).post _
 refine tW (du rfl rfl O hZ4) ?_
 show (zi Φ T.gl [some (tpI zs),some (tpI (yf os)),some (tpI ns),some (.int f),some (.int d),some (tpI (ns.map (apO os))),some (tpI (wo zs os))] _ s).post _
 exact vh (dn (x_call (zB (zJ rfl) (zB (zJ rfl) zL)) (cF (wo zs os) (ns.map (apO os)) s hy hE (by rw[List.length_map];omega))) (x_call (zB (zJ rfl) (zB (eZ (zJ rfl) oO (pD (zJ rfl)) oO sl) zL)) (cF zs ((ns.drop a).take b) s hz ((hf.drop hz a).take b) (by rw[List.length_take,List.length_drop];omega)))) (xJ vY)
def nP(Φ:Calls):Prop:=∀(p:Nat) (s:Sto),wF s p→(Φ "_law_small" 0 [.ref p] s).post fun v s'=>∃zs,v=tpI zs∧zs∈yR∧wx s p s'
theorem ot(cD:nO Φ){p:Nat}(hp:wF s p):(run T Φ F12.yS [.ref p] s).post fun v s'=>∃zs,v=tpI zs∧zs∈yR∧wx s p s':=by
 simp[F12.yS,EVl,zH,zE,M.newList,zR]
 rw[nR (by simp[zR])]
 simp only[zA]
 refine zN (cD p 16 s hp (by omega) (by omega)) ?_
 rintro v s1 ⟨r,rfl,hr,t1⟩
 have hlt:r<yR.length:=by show r<16;omega
 have e:(yR.map tpI)[r]?=some (tpI yR[r]):=by rw[List.getElem?_map,List.getElem?_eq_getElem hlt];rfl
 have hi:y1 (.lst (yR.map tpI)) (.int r) s1=.ok (tpI yR[r]) s1:=oC e
 have hh:yR[r]∈yR:=List.getElem_mem hlt
 generalize yR[r]=zs at hi hh
 refine(show (y1 (.lst (yR.map tpI)) (.int r) s1).post _→_ from fun h=>h) ?_
 rw[hi]
 simp only[zA]
 rw[oH (v:=tpI zs) t1 (yl _)]
 exact zA.mpr ⟨zs,rfl,hh,t1⟩
theorem fQ(cD:nO Φ){G:Str→Option Val}{env:Env}{N:List Str}{iz il ip k p q:Nat}{zs:List Int}(hz:env[iz]?=some (some (tpI zs)))(hk:zs.length=k)(hk4:k≤4)(h0:zE [none,some il,some ip] env=[none,some (.ref q),some (.ref p)])(hp:wF s p)(hpq:q≠p)(hq:s[q]?=some (.lst ((yf (List.range k)).map .int))){P:Val→Sto→Prop}(h:∀os s',os.Perm (List.range k)→P (tpI (yf os)) s') :
 (evE Φ G env (.blt .tuple false (.cons (.comp false N [none,some il,some ip] (.zy .pop false (.var 1) (.cons (.call "_law_draw" 0 (.cons (.var 2) (.cons (.blt .len false (.cons (.var 1) .nil)) .nil))) .nil)) (.nm 0) (.range1 (.blt .len false (.cons (.var iz) .nil))) .nil) .nil)) s).post P:=by
 refine dM.mpr (uB.mpr ?_)
 refine fP (fun rest e s' acc=>(∃o,e=[o,some (.ref q),some (.ref p)])∧wF s' p∧∃done left:List Nat,acc=(yf done).map .int∧(done++left).Perm (List.range k)∧rest.length=left.length∧s'[q]?=some (.lst ((yf left).map .int))) ?_
 refine⟨⟨z5 0 k,none⟩,_,dF (yt (zB (zJ hz) zL) (by rw[w4,List.length_map,hk])) (Nat.le_trans hk4 (by decide)),⟨⟨none,h0⟩,hp,[],List.range k,rfl,.refl _,by rw[tU,List.length_range],hq⟩,fun _ _ _ _ _=>rfl,?_,?_⟩
 . rintro x rest e s' acc ⟨⟨o,rfl⟩,hp',done,left,rfl,hd,hl,hs⟩
   refine⟨_,rfl,wd.mpr ?_⟩
   rw[if_pos rfl]
   have hl0:0<left.length:=by rw[←hl];exact Nat.succ_pos _
   have hl4:left.length≤4:=by
    have:=hd.length_eq
    rw[List.length_append,List.length_range]at this
    omega
   have hlen:blt .len false [.ref q] s'=.ok (.int (left.length:Nat)) s':=by
    show (match xN s' (.ref q) with|some vs=>Out.ok (Val.int vs.length) s'|Option.none=>.stuck)=_
    show (match (match s'[q]? with|some (.lst vs)=>some vs|_=>Option.none) with|some vs=>Out.ok (Val.int vs.length) s'|Option.none=>.stuck)=_
    rw[hs]
    show Out.ok (Val.int (((yf left).map Val.int).length:Nat)) s'=_
    rw[List.length_map,List.length_map]
   show (evE Φ G [some x,some (.ref q),some (.ref p)] _ s').post _
   refine jm.mpr (n6.mpr ⟨_,rfl,?_⟩)
   refine uB.mpr (vZ (zB (zJ rfl) (zB (yt (zB (zJ rfl) zL) hlen) zL)) (zN (cD p left.length s' hp' (by omega) (by omega)) ?_))
   rintro v s2 ⟨r,rfl,hr,t2⟩
   have hr':r<left.length:=by omega
   have hs2:s2[q]?=some (.lst ((yf left).map .int)):=by rw[t2.ne hpq];exact hs
   have hpop:zy .pop (.ref q) [.int (r:Int)] s2=.ok (.int ((left[r]:Nat):Int)) (upd s2 q ((yf (left.eraseIdx r)).map .int)):=by
    have hix:seqIndex? (r:Int) ((yf left).map Val.int).length=some r:=by
     rw[List.length_map,List.length_map]
     have h1:¬((r:Int)<0):=by omega
     have h2:(r:Int)<(left.length:Int):=by omega
     simp[seqIndex?,h1,h2]
    simp only[zy]
    rw[hs2]
    simp only[]
    rw[if_pos ⟨by omega,by omega⟩,hix]
    simp only[]
    rw[List.getElem?_map,List.getElem?_map,List.getElem?_eq_getElem hr',←v9,←v9]
    rfl
   refine n5.mpr ?_
   rw[hpop]
   refine zA.mpr ⟨⟨_,rfl⟩,?_,done++[left[r]],left.eraseIdx r,by unfold yf;rw[List.map_append,List.map_append];rfl,?_,?_,?_⟩
   . obtain⟨a,b,e,hb⟩:=t2.at_ hp'.lt
     refine⟨a,b,?_,hb⟩
     unfold upd
     rw[List.getElem?_set_ne hpq];exact e
   . refine List.Perm.trans ?_ hd
     rw[List.append_assoc]
     exact(uw hr').append_left done
   . rw[List.length_eraseIdx_of_lt hr']
     rw[List.length_cons]at hl
     omega
   . unfold upd
     rw[List.getElem?_set_self (by exact(List.getElem?_eq_some_iff.mp hs2).1)]
 . rintro e s' acc ⟨⟨o,rfl⟩,hp',done,left,rfl,hd,hl,hs⟩
   obtain rfl:left=[]:=List.length_eq_zero_iff.mp hl.symm
   rw[List.append_nil]at hd
   exact zA.mpr (n5.mpr (zA.mpr (h done s' hd)))
end
end M
end
section
namespace M
open PySem Hd
noncomputable def vS(h:Heap):KF:=(List.range h.objs.size).filterMap fun a=>(h.get? a).map fun o=>(a,o)
theorem ud{g:Addr→Option Obj}{a:Addr}:∀{l:List Addr},a∈l→(l.filterMap fun b=>(g b).map fun o=>(b,o)).lookup a=g a
 |b::r,hm=>by
  rw[List.filterMap_cons]
  by_cases e:a=b
  . subst e
    cases hg:g a with
    |none=>
     show (r.filterMap _).lookup a=none
     by_cases m:a∈r
     . rw[ud m,hg]
     . exact List.lookup_eq_none_iff.mpr fun p hp=>by
        obtain⟨c,hc,e⟩:=List.mem_filterMap.mp hp
        obtain⟨o,_,rfl⟩:=Option.map_eq_some_iff.mp e
        have z:a≠c:=fun z=>m (by rw[z];exact hc)
        simpa using z
    |some o=>show (List.lookup a ((a,o)::_))=_;rw[List.lookup_cons,beq_self_eq_true]
  . have m:a∈r:=(List.mem_cons.mp hm).resolve_left e
    cases hg:g b with
    |none=>exact ud m
    |some o=>
     show (List.lookup a ((b,o)::_))=_
     rw[List.lookup_cons,beq_false_of_ne e]
     exact ud m
theorem yp{h:Heap}{a:Addr}(o:Obj)(e:h.get? a=some o):(vS h).lookup a=some o:=by
 rw[←e]
 exact ud (List.mem_range.mpr (Heap.lt_size e))
theorem kS{h:Heap}:(vS h).In h:=fun a o e=>by
 obtain⟨c,_,e⟩:=List.mem_filterMap.mp (tH e)
 obtain⟨o',e1,e2⟩:=Option.map_eq_some_iff.mp e
 cases e2
 exact e1
theorem tN{h:Heap}{x:Str}{v:Option Value}(e:nsH h x=some v):PySem.W.nsIn (vS h) mainGlobals x=some v:=by
 unfold nsH at e
 split at e
 . rename_i o ho
   unfold PySem.W.nsIn at e ⊢
   rw[yp o ho]
   exact e
 . cases e
theorem kC{h:Heap}{cd:Value}{x:Str}(e:kB h cd x=true):PySem.W.codeIn (vS h) cd x=true:=by
 unfold kB at e
 split at e
 . split at e
   . rename_i c o ho
     unfold PySem.W.codeIn at e ⊢
     dsimp only at e ⊢
     rw[List.lookup_cons,beq_self_eq_true]at e
     rw[yp o ho]
     exact e
   . cases e
 . cases e
theorem args_eq(st:Stmt):args st=L2.xr st∧body st=L2.y4 st∧scope st=L2.zj st:=by cases st<;>exact⟨rfl,rfl,rfl⟩
theorem cK{h:Heap}{p:Str × Stmt}(e:fB h p.1=eW p):qU (vS h) p.1 p.2:=by
 obtain⟨a1,a2,a3⟩:=args_eq p.2
 unfold eW at e
 rw[a1,a2,a3]at e
 unfold fB at e
 split at e
 . rename_i f hf
   split at e
   . rename_i oc od fd osl ho
     split at e
     . rename_i hc
       have e':=Option.some.inj e
       obtain⟨n,q,ps,b,sc,g,cl,df,kw,dc,pm,an,cd,ct,bl⟩:=fd
       injection e' with e1 e2 e3 e4 e5 e6 e7 e8 _ _ _ _ _ _ e9
       subst e1 e2 e3 e4 e5 e6 e7 e8 e9
       exact cJ (tN hf) (yp _ ho) (kC hc) (by unfold PySem.W.keepIn;dsimp only;rw[yp _ ho])
     . cases e
   . cases e
 . cases e
noncomputable def gv:G→Val
 |.int i=>.int i
 |.str x=>.str x
 |.ctup ns=>.ctup ns
theorem Zd{h:Heap}{x:Str}{v:G}(e:glB h x v=true):mL (vS h) x (gv v):=by
 cases v with
 |int i=>
  unfold glB at e;dsimp only at e
  split at e
  . rename_i hn;have:=of_decide_eq_true e;subst this;exact int_mk (tN hn)
  . cases e
 |str y=>
  unfold glB at e;dsimp only at e
  split at e
  . rename_i hn;have:=of_decide_eq_true e;subst this;exact str_mk (tN hn)
  . cases e
 |ctup ns=>
  unfold glB at e;dsimp only at e
  split at e
  . rename_i hn
    split at e
    . rename_i n od us k sl ho
      obtain⟨e1,e3⟩:=Bool.and_eq_true_iff.mp e
      obtain⟨e1,e2⟩:=Bool.and_eq_true_iff.mp e1
      have:=of_decide_eq_true e1;subst this
      exact gL (us:=us.toList) (tN hn) (yp _ ho) (of_decide_eq_true e2) (of_decide_eq_true e3)
    . cases e
  . cases e
theorem ZT{h:Heap}{x:Str}(e:blB h x=true):PySem.W.nsIn (vS h) mainGlobals x=some none:=by
 unfold blB at e
 split at e
 . rename_i hn;exact tN hn
 . cases e
def d6(D:List (Str × Stmt))(glL:List (Str × Val))(K:KF)(h:Heap):Prop:=K.In h∧(∀p∈D,qU K p.1 p.2)∧(∀p∈glL,mL K p.1 p.2)∧∀x∈xZ,PySem.W.nsIn K mainGlobals x=some none
theorem ng{h:Heap}:∀{D:List (Str × Stmt)},(D.map fun p=>fB h p.1)=D.map eW→∀p∈D,qU (vS h) p.1 p.2
 |p::D,e,q,hq=>by
  rw[List.map_cons,List.map_cons]at e
  obtain⟨e1,e2⟩:=List.cons.inj e
  rcases List.mem_cons.mp hq with rfl|hq
  . exact cK e1
  . exact ng e2 q hq
theorem eF{D:List (Str × Stmt)}{gl:List (Str × G)}{s:Shared}(e:b4 D gl s=ZK D):∃K,d6 D (gl.map fun p=>(p.1,gv p.2)) K s.heap:=by
 obtain⟨e1,e2⟩:=Prod.mk.inj e
 obtain⟨e2,e3⟩:=Bool.and_eq_true_iff.mp e2
 exact⟨vS s.heap,kS,ng e1,fun p hp=>(by obtain⟨p',h1,rfl⟩:=List.mem_map.mp hp;exact Zd (List.all_eq_true.mp e2 p' h1)),fun x hx=>ZT (List.all_eq_true.mp e3 x hx)⟩
theorem close{l:PySem.W.OpenLaw}{q:Program}{d:DefRec}{fnL:List ((Str × Nat) × Fn)}{glL:List (Str × Val)}{gl:List (Str × G)}{D:List (Str × Stmt)}{F:Fn}{n N:Nat}{x:Str}
 (av:l.wellSaid=true) (left:PySem.W.LeftO l.row.prog q [] (fun s=>PySem.W.recOk l.row.records s) (b4 D gl) (fun _=>ZK D) N) (hgl:glL=gl.map fun p=>(p.1,gv p.2))
 (cX:PySem.W.defOf q l.row.name=some (d,[])) (hp:l.row.prog.theDef l.row.name=some (d.params,d.body,d.scope)) (hk:PySem.W.kwWritten? d.params.kwonlyargs d.params.kw_defaults=some [])
 (hwr:(!l.row.writes||l.row.records.isEmpty)=true) (ok:(PySem.W.chainsOk q&&PySem.W.opensWell l.row.prog&&(PySem.W.frees l.row.toRowW&&l.row.within.isEmpty))=true) (hb:l.row.prog.bare) (hw:l.row.toRowW.promised)
 (hn:l.most=some 63) (hdf:d.params.defaults=[]) (hr:L2.yn n callerA) (hF:(tbl fnL glL).fn d.name 0=some F) (hx:F.ps=[x]) (hc:mH fnL D=true)
 (HL:∀ns:List Int,ns.length≤63→∃s',zD (tbl fnL glL) n d.name 0 [.scr ns] []=.ok (.bool true) s'):l.Holds:=by
 refine PySem.W.holds_law av fun said'=>PySem.W.holds_open (q:=q) (loose:=[]) (Xt:=fun s=>PySem.W.recOk l.row.records s) (XP:=fun _ _=>True) (YP:=fun _ h=>∃K,d6 D glL K h) left (fun w s e=>hgl▸eF e)
  (fun w h h' ⟨K,a,b⟩ k=>⟨K,a.keeps k,b⟩) (fun _ _=>trivial) (fun _ _ _ _ _=>trivial) cX hp hk (fun s e=>PySem.W.recFacts_of e) hwr said' ok hb hw ?_
 intro w s₀ s₁ mg mb G ⟨K,Y⟩
 exact walk (l:=l) (q:=q) (loose:=[]) (XP:=fun _ _=>True) (YP:=fun _ h=>d6 D glL K h) (d:=d) (K:=fun _=>K) (T:=tbl fnL glL) hn hdf hr (fun _ _ y=>y.1) hF hx (fun w mg h X g=>ZD X g Y.2.1 Y.2.2.1 Y.2.2.2 hc) HL w s₀ s₁ mg mb G Y
end M
end
section
namespace P14
open PySem M
noncomputable def zq:Fn:=F.zq
noncomputable def yg:Fn:=F.yg
noncomputable def yD:Fn:=F.yD
noncomputable def yS:Fn:=F12.yS
noncomputable def zf:Fn:=F14.zf
noncomputable def yT:Fn:=F12.yT
noncomputable def yh:Fn:=F.yh
noncomputable def yU:Fn:=F.yU
noncomputable def yu:Fn:=F14.yu
noncomputable def yi:Fn:=F14.yi
noncomputable def yv:Fn:=F12.yv
noncomputable def zl:Fn:=F.zl
noncomputable def zm:Fn:=F.zm
noncomputable def yH:Fn:=F12.yH
noncomputable def yI:Fn:=F.yI
noncomputable def vo:Fn:=F.vo
noncomputable def wV:Fn:=F12.wV
noncomputable def yV:Fn:=F.yV
noncomputable def yw:Fn:=F14.yw
noncomputable def yx:Fn:=F.yx
noncomputable def yy:Fn:=F.yy
noncomputable def sg:Fn:=⟨["_law_script","_law_k","_law_pen_here","_law_sizes","_law_first","_law_step","_law_length","_law_left","_law_order","_law_other","_law_strip","_law_counts","_law_greater"],["_law_script"],false,(.cons (.forS (.nm 1) (.range1 (.blt .max false (.cons (.lit (.int 1)) (.cons (.blt .min false (.cons (.blt .len false (.cons (.var 0) .nil)) (.cons (.lit (.int 3)) .nil))) .nil)))) (.cons (.asg 2 (.call "_law_pen" 1 (.cons (.call "_law_cell_at" 0 (.cons (.var 0) (.cons (.var 1) .nil))) .nil))) (.cons (.asg 3 (.call "_law_small" 0 (.cons (.var 2) .nil))) (.cons (.par [4,5,6] (.cons (.call "_law_draw" 0 (.cons (.var 2) (.cons (.lit (.int 6)) .nil))) (.cons (.bin false .add (.lit (.int 1)) (.call "_law_draw" 0 (.cons (.var 2) (.cons (.lit (.int 4)) .nil)))) (.cons (.call "_law_draw" 0 (.cons (.var 2) (.cons (.lit (.int 14)) .nil))) .nil)))) (.cons (.asg 7 (.listRange true (.lit (.int 0)) (.blt .len false (.cons (.var 3) .nil)) (.lit (.int 1)))) (.cons (.asg 8 (.blt .tuple false (.cons (.comp false ["_law_turn","_law_left","_law_pen_here"] [none,some 7,some 2] (.zy .pop false (.var 1) (.cons (.call "_law_draw" 0 (.cons (.var 2) (.cons (.blt .len false (.cons (.var 1) .nil)) .nil))) .nil)) (.nm 0) (.range1 (.blt .len false (.cons (.var 3) .nil))) .nil) .nil))) (.cons (.asg 9 (.blt .tuple false (.cons (.comp false ["_law_hue","_law_sizes","_law_order"] [none,some 3,some 8] (.ix (.var 1) (.zy .index false (.var 2) (.cons (.var 0) .nil))) (.nm 0) (.range1 (.blt .len false (.cons (.var 3) .nil))) .nil) .nil))) (.cons (.forS (.nm 10) (.val (.sl false (.call "all_strips" 0 (.cons (.var 3) (.cons (.var 6) .nil))) .no (.yes (.lit (.int 30))) .no)) (.cons (.ifS (.not (.val (.call "_law_strip_right" 0 (.cons (.var 3) (.cons (.var 8) (.cons (.var 10) (.cons (.var 4) (.cons (.var 5) .nil)))))))) (.cons (.ret (.lit (.bool false))) .nil) .nil) .nil)) (.cons (.ifS (.or (.val (.cmp .ne (.call "farthest" 0 (.cons (.var 9) .nil)) (.call "farthest" 0 (.cons (.var 3) .nil)))) (.cons (.val (.cmp .ne (.call "tally" 0 (.cons (.var 9) .nil)) (.call "tally" 0 (.cons (.var 3) .nil)))) .nil)) (.cons (.ret (.lit (.bool false))) .nil) .nil) (.cons (.ifS (.or (.val (.cmp .ne (.blt .len false (.cons (.call "tally" 0 (.cons (.var 3) .nil)) .nil)) (.bin false .add (.call "farthest" 0 (.cons (.var 3) .nil)) (.lit (.int 1))))) (.cons (.val (.cmp .isNot (.call "first_strip" 0 (.cons (.var 3) (.cons (.bin false .add (.call "farthest" 0 (.cons (.var 3) .nil)) (.lit (.int 1))) .nil))) (.lit .none))) .nil)) (.cons (.ret (.lit (.bool false))) .nil) .nil) (.cons (.asg 11 (.bin false .add (.call "tally" 0 (.cons (.var 3) .nil)) (.bin false .mul (.lst false (.cons (.lit (.int 0)) .nil)) (.lit (.int 41))))) (.cons (.ifS (.or (.val (.cmp .ne (.call "strips_many" 0 (.cons (.var 3) (.cons (.var 6) .nil))) (.ix (.var 11) (.var 6)))) (.cons (.val (.cmp .ne (.blt .len false (.cons (.call "all_strips" 0 (.cons (.var 3) (.cons (.var 6) .nil))) .nil)) (.ix (.var 11) (.var 6)))) .nil)) (.cons (.ret (.lit (.bool false))) .nil) .nil) .nil)))))))))))) (.cons (.asg 12 (.comp false ["_law_size"] [none] (.call "farthest" 0 (.cons (.tup (.cons (.lit (.int 2)) (.cons (.var 0) .nil))) .nil)) (.nm 0) (.range2 (.lit (.int 2)) (.lit (.int 7))) .nil)) (.cons (.ret (.andE (.cmp .eq (.var 12) (.blt .sortedI false (.cons (.var 12) .nil))) (.cons (.cmp .eq (.comp false ["_law_size"] [none] (.call "farthest" 0 (.cons (.tup (.cons (.var 0) .nil)) .nil)) (.nm 0) (.range2 (.lit (.int 2)) (.lit (.int 9))) .nil) (.listRange false (.lit (.int 1)) (.lit (.int 8)) (.lit (.bool true)))) .nil))) .nil)))⟩
noncomputable def yW:Fn:=F.yW
noncomputable def yj:Fn:=F.yj
noncomputable def yX:Fn:=F14.yX
noncomputable def yJ:Fn:=F.yJ
noncomputable def yY:Fn:=F.yY
noncomputable def zg:Fn:=F12.zg
noncomputable def yk:Fn:=F14.yk
noncomputable def yZ:Fn:=F.yZ
noncomputable def ya:Fn:=F.ya
noncomputable def yb:Fn:=F12.yb
noncomputable def yK:Fn:=F12.yK
noncomputable def wW:Fn:=F12.wW
noncomputable def xG:Fn:=F14.xG
noncomputable def fnL:List ((Str × Nat) × Fn):=((("_law_cell_at":Str),(0:Nat)),zq)::((("_law_draw":Str),(0:Nat)),yg)::((("_law_pen":Str),(1:Nat)),yD)::((("_law_small":Str),(0:Nat)),yS)::((("_law_strip_right":Str),(0:Nat)),zf)::((("all_strips":Str),(0:Nat)),yT)::((("are_sizes":Str),(0:Nat)),yh)::((("are_wholes":Str),(0:Nat)),yU)::((("backward":Str),(0:Nat)),yu)::((("exchanged":Str),(0:Nat)),yi)::((("farthest":Str),(0:Nat)),yv)::((("first_hue_wrong":Str),(0:Nat)),zl)::((("first_row_wrong":Str),(0:Nat)),zm)::((("first_strip":Str),(0:Nat)),yH)::((("first_wrong":Str),(0:Nat)),yI)::((("fits":Str),(0:Nat)),vo)::((("grown":Str),(0:Nat)),wV)::((("is_one_hue":Str),(0:Nat)),yV)::((("is_order":Str),(0:Nat)),yw)::((("is_strip":Str),(0:Nat)),yx)::((("is_whole":Str),(0:Nat)),yy)::((("law":Str),(0:Nat)),sg)::((("may_follow":Str),(0:Nat)),yW)::((("most_step":Str),(0:Nat)),yj)::((("need_first":Str),(0:Nat)),yX)::((("need_length":Str),(0:Nat)),yJ)::((("need_sizes":Str),(0:Nat)),yY)::((("need_small_sizes":Str),(0:Nat)),zg)::((("need_step":Str),(0:Nat)),yk)::((("need_strip":Str),(0:Nat)),yZ)::((("need_whole":Str),(0:Nat)),ya)::((("product_of":Str),(0:Nat)),yb)::((("strips_many":Str),(0:Nat)),yK)::((("tally":Str),(0:Nat)),wW)::((("thinned":Str),(0:Nat)),xG)::[]
noncomputable def glL:List (Str × Val):=[("MOST_PLACES",.int 40),("LEAST_SIZE",.int 2),("MOST_SIZE",.int 8),("HUES",.ctup [0,1,2,3]),("MOST_PRODUCT",.int 12)]
noncomputable def T:Tbl:=tbl fnL glL
set_option maxHeartbeats 0 in
theorem ZA:mH fnL D=true:=by decide +kernel
end P14
end
section
namespace P14
open PySem M
structure Cs(Φ:Calls):Prop where
 cell:ee Φ
 pen:ZO Φ
 draw:nO Φ
 small:nP Φ
 right:ll Φ
 far:sd Φ
 tally:rW Φ
 all:nN Φ
 many:eo Φ
 first:lh Φ
theorem uX{T:Tbl}{Φ:Calls}{s:Sto}(g:Gl4 T)(c:xm Φ){i:Int}(h1:0≤i)(h2:i≤40):run T Φ F.yJ [.int i] s=.ok .none s:=by
 rw[post_eq]
 simp[F.yJ,EVl,zH,zE,g.mp,c i 0 40 s h1 h2]
theorem uu{ks:List Int}{s:Sto}:zS .ne (.lst (ks.map .int)) (.lst (ks.map .int)) s=.ok (.bool false) s∧zS .eq (.lst (ks.map .int)) (.lst (ks.map .int)) s=.ok (.bool true) s:=by
 have e1:zp s (.lst (ks.map .int))=.lst (ks.map .int):=rfl
 have hd:(Val.lst (ks.map .int)).d=.list (ks.map PyData.int):=by rw[Val.d,nh]
 have hD:(Val.lst (ks.map .int)).isD=true:=by rw[Val.isD];exact s9 ks
 have hp:(PyData.list (ks.map PyData.int)).depth≤60:=by
  have:(PyData.list (ks.map PyData.int)).depth=PyData.depthAll (ks.map PyData.int)+1:=by rw[PyData.depth]
  have h0:=L2.si (k:=0) (ds:=ks.map PyData.int) fun d hd=>by obtain⟨i,hi,rfl⟩:=List.mem_map.mp hd;exact Nat.le_refl _
  omega
 have he:PyData.eqv (.list (ks.map PyData.int)) (.list (ks.map PyData.int))=true:=by rw[PyData.eqv];exact uM ks
 have ho:sG (zp s (.lst (ks.map .int))) (zp s (.lst (ks.map .int)))=some true:=by
  rw[e1]
  unfold sG
  rw[hD,hd,he,decide_eq_true hp];rfl
 exact⟨by simp only[zS];rw[ho];rfl,by simp only[zS];rw[ho]⟩
theorem bt{k:Nat}{s:Sto}(h1:1≤k)(h4:k≤4):v8 true (.int 0) (.int k) (.int 1) s=.ok (.ref s.length) (s++[.lst ((yf (List.range k)).map .int)]):=by
 have:k=1∨k=2∨k=3∨k=4:=by omega
 rcases this with rfl|rfl|rfl|rfl<;>rfl
theorem g8{α:Type}{xs:List α}{lo hi:Option Int}{x:α}(h:x∈rn xs lo hi):x∈xs:=by
 unfold rn at h
 exact List.mem_of_mem_drop (List.mem_of_mem_take h)
theorem kO{zs ys:List Int}{N:Nat}(h:∀m,(zY ys [[]] m).length=(zY zs [[]] m).length)(F:Far zs N):Far ys N:=by
 refine⟨List.length_eq_zero_iff.mp (by rw[h,F.end_];rfl),fun m hm e=>F.on m hm (List.length_eq_zero_iff.mp (by rw[←h,e];rfl)),F.le,F.pos⟩
theorem l9{zs ys:List Int}{N:Nat}(h:∀m,(zY ys [[]] m).length=(zY zs [[]] m).length):xI ys N=xI zs N:=by
 unfold xI
 exact List.map_congr_left fun m _=>by rw[h]
noncomputable def p8:Nat→Nat
 |0=>3|1=>6|2=>7|3=>10|_=>11
theorem ZY{zs:List Int}{N:Nat}(h:(decide (zY zs [[]] N=[])&&(List.range N).all (fun m=>!(zY zs [[]] m).isEmpty)&&decide (N≤18)&&decide (0<N))=true):Far zs N:=by
 simp only[Bool.and_eq_true,decide_eq_true_eq,List.all_eq_true]at h
 exact⟨h.1.1.1,fun m hm e=>(by have:=h.1.1.2 m (List.mem_range.mpr hm);rw[e]at this;cases this),h.1.2,h.2⟩
theorem ZH:∀k,k<5→tY [2,((2+k:Nat):Int)]=true∧(decide (zY [2,((2+k:Nat):Int)] [[]] (p8 k)=[])&&(List.range (p8 k)).all (fun m=>!(zY [2,((2+k:Nat):Int)] [[]] m).isEmpty)&&decide (p8 k≤18)&&decide (0<p8 k))=true:=by decide +kernel
theorem b7:∀k,k<7→tY [((2+k:Nat):Int)]=true∧(decide (zY [((2+k:Nat):Int)] [[]] (k+2)=[])&&(List.range (k+2)).all (fun m=>!(zY [((2+k:Nat):Int)] [[]] m).isEmpty)&&decide (k+2≤18)&&decide (0<k+2))=true:=by decide +kernel
section
variable {Φ:Calls}{s:Sto}
theorem Y5(c:Cs Φ){G:Str→Option Val}{env:M.Env}:evE Φ G env (.comp false ["_law_size"] [none] (.call "farthest" 0 (.cons (.tup (.cons (.lit (.int 2)) (.cons (.var 0) .nil))) .nil)) (.nm 0) (.range2 (.lit (.int 2)) (.lit (.int 7))) .nil) s=.ok (.lst (([2,5,6,9,10]:List Int).map .int)) s:=by
 rw[post_eq]
 refine ug (fun e=>∃o,e=[o]) (fun x=>match x with|.int i=>[.int ((p8 (i.toNat-2):Nat)-1:Int)]|_=>[]) (z5 2 5) (s1:=s) (dG (i:=2) (j:=7) yB yB (by omega) (by omega)) ⟨none,rfl⟩ ?_ ?_
 . rintro x hx e ⟨o,rfl⟩
   obtain⟨k,hk,rfl⟩:=wa hx
   refine⟨_,rfl,⟨_,rfl⟩,wd.mpr ⟨rfl,?_⟩⟩
   rw[if_pos rfl]
   obtain⟨h1,h2⟩:=ZH k hk
   have hf:=c.far [2,((2+k:Nat):Int)] (p8 k) s (uC h1) (ZY h2)
   have ek:(2:Int)+(k:Int)=((2+k:Nat):Int):=by omega
   rw[ek]
   show (evE Φ G [some (.int ((2+k:Nat):Int))] _ s).post _
   rw[x_call (zB (dv (zB yB (zB (zJ rfl) zL)) (show 2≤zR by decide)) zL) hf]
   refine zA.mpr ⟨rfl,?_⟩
   show [Val.int ((p8 (((2+k:Nat):Int).toNat-2):Nat)-1:Int)]=_
   rw[Int.toNat_natCast,show 2+k-2=k by omega]
 . exact zA.mpr ⟨rfl,rfl⟩
theorem Y3(c:Cs Φ){G:Str→Option Val}{env:M.Env}:evE Φ G env (.comp false ["_law_size"] [none] (.call "farthest" 0 (.cons (.tup (.cons (.var 0) .nil)) .nil)) (.nm 0) (.range2 (.lit (.int 2)) (.lit (.int 9))) .nil) s=.ok (.lst (([1,2,3,4,5,6,7]:List Int).map .int)) s:=by
 rw[post_eq]
 refine ug (fun e=>∃o,e=[o]) (fun x=>match x with|.int i=>[.int (i-1)]|_=>[]) (z5 2 7) (s1:=s) (dG (i:=2) (j:=9) yB yB (by omega) (by omega)) ⟨none,rfl⟩ ?_ ?_
 . rintro x hx e ⟨o,rfl⟩
   obtain⟨k,hk,rfl⟩:=wa hx
   refine⟨_,rfl,⟨_,rfl⟩,wd.mpr ⟨rfl,?_⟩⟩
   rw[if_pos rfl]
   obtain⟨h1,h2⟩:=b7 k hk
   have hf:=c.far [((2+k:Nat):Int)] (k+2) s (uC h1) (ZY h2)
   have ek:(2:Int)+(k:Int)=((2+k:Nat):Int):=by omega
   rw[ek]
   show (evE Φ G [some (.int ((2+k:Nat):Int))] _ s).post _
   rw[x_call (zB (dv (zB (zJ rfl) zL) (show 1≤zR by decide)) zL) hf]
   refine zA.mpr ⟨rfl,?_⟩
   show [Val.int (((2+k:Nat):Int)-1)]=_
   rw[Nat.add_comm 2 k]
 . exact zA.mpr ⟨rfl,rfl⟩
theorem jP(c:Cs Φ)(ns:List Int):(run T Φ sg [.scr ns] []).post fun v _=>v=.bool true:=by
 rw[sg,wC]
 refine⟨rfl,?_⟩
 show (zi Φ T.gl [some (.scr ns),none,none,none,none,none,none,none,none,none,none,none,none] _ []).post _
 refine yq.mpr (wN (fun rest e s'=>(∃o1 o2 o3 o4 o5 o6 o7 o8 o9 o10 o11 o12,e=[some (.scr ns),o1,o2,o3,o4,o5,o6,o7,o8,o9,o10,o11,o12])∧∀x∈rest,∃k:Nat,x=.int k) (z5 0 (max 1 (min ns.length 3))) (s1:=[]) (kM (K:=3) rfl (by omega)) ⟨⟨_,_,_,_,_,_,_,_,_,_,_,_,rfl⟩,?_⟩ ?_ ?_)
 . intro x hx
   obtain⟨k,_,rfl⟩:=wa hx
   exact⟨k,by congr 1;omega⟩
 . rintro x rest e s' ⟨⟨o1,o2,o3,o4,o5,o6,o7,o8,o9,o10,o11,o12,rfl⟩,hr⟩
   obtain⟨k,rfl⟩:=hr x (.head _)
   have hr':∀x∈rest,∃k:Nat,x=.int k:=fun x hx=>hr x (.tail _ hx)
   refine⟨_,rfl,?_⟩
   obtain⟨cv,hcell⟩:=c.cell ns k s'
   obtain⟨a,b,hpen,hb⟩:=c.pen cv s'
   show (zi Φ T.gl [some (.scr ns),some (.int k),o2,o3,o4,o5,o6,o7,o8,o9,o10,o11,o12] _ s').post _
   refine tW (x_call (zB (x_call (zB (zJ rfl) (zB (zJ rfl) zL)) hcell) zL) hpen) ?_
   have hP:wF (s'++[wq a b]) s'.length:=⟨a,b,by simp,hb⟩
   generalize s'++[wq a b]=s1 at hP
   generalize s'.length=p at hP
   refine ie (vZ (zB (zJ rfl) zL) (zN (c.small p s1 hP) ?_))
   rintro v s2 ⟨zs,rfl,hm,t2⟩
   have hP2:=t2.at_ hP.lt
   have hS:=tZ hm
   have hz:=hS.sz
   refine yq.mpr (dO.mpr (uB.mpr (vZ (zB (zJ rfl) (zB yB zL)) (zN (c.draw p 6 s2 hP2 (by omega) (by omega)) ?_))))
   rintro v s3 ⟨f,rfl,hf,t3⟩
   have hP3:=t3.at_ hP2.lt
   refine uB.mpr (dJ.mpr (dN.mpr (vZ (zB (zJ rfl) (zB yB zL)) (zN (c.draw p 4 s3 hP3 (by omega) (by omega)) ?_))))
   rintro v s4 ⟨d,rfl,hd,t4⟩
   have hP4:=t4.at_ hP3.lt
   rw[pj,show (1:Int)+(d:Int)=((d+1:Nat):Int) by omega]
   refine zA.mpr (uB.mpr (vZ (zB (zJ rfl) (zB yB zL)) (zN (c.draw p 14 s4 hP4 (by omega) (by omega)) ?_)))
   rintro v s5 ⟨n,rfl,hn,t5⟩
   have hP5:=t5.at_ hP4.lt
   refine n5.mpr (fW rfl ?_)
   show (zi Φ T.gl [some (.scr ns),some (.int k),some (.ref p),some (tpI zs),some (.int f),some (.int (d+1:Nat)),some (.int n),o7,o8,o9,o10,o11,o12] _ s5).post _
   have hlen:∀s,blt .len false [tpI zs] s=.ok (.int (zs.length:Nat)) s:=fun s=>by rw[w4,List.length_map]
   refine tW (bnd yB (bnd (yt (zB (zJ rfl) zL) (hlen s5)) (bnd yB (bt hz.1 hz.2.1)))) ?_
   show (zi Φ T.gl [some (.scr ns),some (.int k),some (.ref p),some (tpI zs),some (.int f),some (.int (d+1:Nat)),some (.int n),some (.ref s5.length),o8,o9,o10,o11,o12] _ _).post _
   have hP6:wF (s5++[.lst ((yf (List.range zs.length)).map .int)]) p:=by
    obtain⟨a,b,e,hb⟩:=hP5
    exact⟨a,b,by rw[List.getElem?_append_left (List.getElem?_eq_some_iff.mp e).1];exact e,hb⟩
   refine ie (fQ c.draw (k:=zs.length) (p:=p) (q:=s5.length) rfl rfl hz.2.1 rfl hP6 (Nat.ne_of_gt hP5.lt) (by rw[List.getElem?_append_right (Nat.le_refl _),Nat.sub_self];rfl) fun os s6 hp=>?_)
   have O:=jZ hp
   refine tW (du rfl rfl O hz.2.1) ?_
   show (zi Φ T.gl [some (.scr ns),some (.int k),some (.ref p),some (tpI zs),some (.int f),some (.int (d+1:Nat)),some (.int n),some (.ref s5.length),some (tpI (yf os)),some (tpI (wo zs os)),o10,o11,o12] _ s6).post _
   obtain⟨hY,hcnt⟩:=tf hm (pG hp)
   obtain⟨N,hN⟩:=cR hS
   have hN0:=hN.pos
   have hN18:=hN.le
   have hNy:=kO hcnt hN
   have hsl:∀s,xF false (.lst (tps (zY zs [[]] n))) none (some 30) none s=.ok (.lst (rn (tps (zY zs [[]] n)) none (some 30))) s:=fun s=>rfl
   refine yq.mpr (wN (fun rest2 e s'=>(∃o10,e=[some (.scr ns),some (.int k),some (.ref p),some (tpI zs),some (.int f),some (.int (d+1:Nat)),some (.int n),some (.ref s5.length),some (tpI (yf os)),some (tpI (wo zs os)),o10,o11,o12])∧∀x∈rest2,∃ms,x=tpI ms∧ms∈zY zs [[]] n) (rn (tps (zY zs [[]] n)) none (some 30)) (s1:=s6) (kh (eZ (x_call (zB (zJ rfl) (zB (zJ rfl) zL)) (c.all zs n s6 hS (by omega))) oO (pD yB) oO (hsl s6)) rfl) ⟨⟨_,rfl⟩,?_⟩ ?_ ?_)
   . intro x hx
     obtain⟨ms,h1,rfl⟩:=List.mem_map.mp (g8 hx)
     exact⟨ms,rfl,h1⟩
   . rintro x rest2 e s7 ⟨⟨o10,rfl⟩,hr2⟩
     obtain⟨ms,rfl,hms⟩:=hr2 x (.head _)
     have hl:=nz hS n ms hms
     have hF:=qt hz (L:=[[]]) (fun x hx=>by rw[List.mem_singleton.mp hx];exact gP zs) n ms hms
     refine⟨_,rfl,?_⟩
     show (zi Φ T.gl [some (.scr ns),some (.int k),some (.ref p),some (tpI zs),some (.int f),some (.int (d+1:Nat)),some (.int n),some (.ref s5.length),some (tpI (yf os)),some (tpI (wo zs os)),some (tpI ms),o11,o12] _ s7).post _
     exact tX (rO (xl (x_call (zB (zJ rfl) (zB (zJ rfl) (zB (zJ rfl) (zB (zJ rfl) (zB (zJ rfl) zL))))) (c.right zs ms os f (d+1) s7 hm hF (by omega) hp (by omega) (by omega) (by omega))) yE)) (mF ⟨⟨_,rfl⟩,fun x hx=>hr2 x (.tail _ hx)⟩)
   . rintro e s7 ⟨⟨o10,rfl⟩,_⟩
     have f1:=fun s=>c.far (wo zs os) N s hY hNy
     have f2:=fun s=>c.far zs N s hS hN
     have g1:=fun s=>c.tally (wo zs os) N s hY hNy
     have g2:=fun s=>c.tally zs N s hS hN
     have eN:(N:Int)-1+1=(N:Int):=by omega
     have hfirst:=c.first zs N s7 hS (by omega)
     rw[hN.end_]at hfirst
     have hN':(zS .isNot .none .none s7:Out Val)=.ok (.bool false) s7:=rfl
     have ne0:∀{i:Int} {s:Sto},zS .ne (.int i) (.int i) s=.ok (.bool false) s:=fun{i s}=>by rw[ne_int,decide_eq_true rfl];rfl
     have ltl:blt .len false [.lst ((xI zs N).map .int)] s7=.ok (.int N) s7:=by rw[qp,List.length_map,xp]
     refine tX (iy (xl (w9 (x_call (zB (zJ rfl) zL) (f1 s7)) (x_call (zB (zJ rfl) zL) (f2 s7)) ne0) yE) (wj (xl (w9 (x_call (zB (zJ rfl) zL) (g1 s7)) (x_call (zB (zJ rfl) zL) (g2 s7)) (by rw[l9 hcnt];exact uu.1)) yE) t7)) ?_
     refine tX (iy (xl (w9 (yt (zB (x_call (zB (zJ rfl) zL) (g2 s7)) zL) ltl) (pd (x_call (zB (zJ rfl) zL) (f2 s7)) yB (by rw[pj,eN])) ne0) yE) (wj (xl (w9 (x_call (zB (zJ rfl) (zB (pd (x_call (zB (zJ rfl) zL) (f2 s7)) yB (by rw[pj,eN])) zL)) hfirst) yB hN') yE) t7)) ?_
     have hmul:binOp false .mul (.lst [.int 0]) (.int 41) s7=.ok (.lst ((List.replicate 41 (0:Int)).map .int)) s7:=rfl
     have hsum:binOp false .add (.lst ((xI zs N).map .int)) (.lst ((List.replicate 41 (0:Int)).map .int)) s7=.ok (.lst ((xI zs N++List.replicate 41 (0:Int)).map .int)) s7:=by
      rw[nR (by rw[List.length_map,List.length_map,xp,List.length_replicate];unfold zR;omega),List.map_append]
     refine tW (pd (x_call (zB (zJ rfl) zL) (g2 s7)) (pd (Y2 (zB yB zL) (by decide)) yB hmul) hsum) ?_
     show (zi Φ T.gl [some (.scr ns),some (.int k),some (.ref p),some (tpI zs),some (.int f),some (.int (d+1:Nat)),some (.int n),some (.ref s5.length),some (tpI (yf os)),some (tpI (wo zs os)),o10,some (.lst ((xI zs N++List.replicate 41 (0:Int)).map .int)),o12] _ s7).post _
     have hix:y1 (.lst ((xI zs N++List.replicate 41 (0:Int)).map .int)) (.int (n:Int)) s7=.ok (.int ((zY zs [[]] n).length:Int)) s7:=by
      refine oC ?_
      rw[List.getElem?_map]
      by_cases hnN:n<N
      . rw[List.getElem?_append_left (by rw[xp];exact hnN)]
        unfold xI
        rw[List.getElem?_map,List.getElem?_range hnN];rfl
      . have h0:zY zs [[]] n=[]:=by
         have:=vW hN.end_ (n-N)
         rwa [show N+(n-N)=n by omega]at this
        rw[List.getElem?_append_right (by rw[xp];omega),xp,List.getElem?_replicate,if_pos (by omega),h0];rfl
     have ltl2:blt .len false [.lst (tps (zY zs [[]] n))] s7=.ok (.int ((zY zs [[]] n).length:Int)) s7:=by rw[qp,List.length_map]
     refine tX (iy (xl (w9 (x_call (zB (zJ rfl) (zB (zJ rfl) zL)) (c.many zs n s7 hS (by omega))) (lb (zJ rfl) (zJ rfl) hix) ne0) yE) (wj (xl (w9 (yt (zB (x_call (zB (zJ rfl) (zB (zJ rfl) zL)) (c.all zs n s7 hS (by omega))) zL) ltl2) (lb (zJ rfl) (zJ rfl) hix) ne0) yE) t7)) ?_
     exact mF ⟨⟨_,_,_,_,_,_,_,_,_,_,_,_,rfl⟩,hr'⟩
 . rintro e s' ⟨⟨o1,o2,o3,o4,o5,o6,o7,o8,o9,o10,o11,o12,rfl⟩,hr⟩
   show (zi Φ T.gl [some (.scr ns),o1,o2,o3,o4,o5,o6,o7,o8,o9,o10,o11,o12] _ s').post _
   refine tW (Y5 c) ?_
   show (zi Φ T.gl [some (.scr ns),o1,o2,o3,o4,o5,o6,o7,o8,o9,o10,o11,some (.lst (([2,5,6,9,10]:List Int).map .int))] _ s').post _
   have hsrt:blt .sortedI false [.lst (([2,5,6,9,10]:List Int).map .int)] s'=.ok (.lst (([2,5,6,9,10]:List Int).map .int)) s':=rfl
   have hlr:v8 false (.int 1) (.int 8) (.bool true) s'=.ok (.lst (([1,2,3,4,5,6,7]:List Int).map .int)) s':=rfl
   refine vh (dn (w9 (zJ rfl) (yt (zB (zJ rfl) zL) hsrt) uu.2) (w9 (Y3 c) (bnd yB (bnd yB (bnd yB hlr))) uu.2)) ?_
   show (z9 false [] (.bool true) s').post _
   rw[leave_top vY]
   exact zA.mpr rfl
end
theorem cs:At T 9 Cs:=fun n hn=>by
 obtain⟨n,rfl⟩:∃m,n=m+9:=⟨n-9,by omega⟩
 have g:Gl4 T:=⟨rfl,rfl,rfl,rfl⟩
 have whole:∀m,pe (zD T (m+1)):=fun m v l k s h=>by rw[zQ (F:=F.yy) rfl];exact lS h
 have wholes:∀m,ua (zD T (m+2)):=fun m vs l k s h=>by rw[zQ (F:=F.yU) rfl];exact ow (whole m) h
 have needWhole:∀m,xm (zD T (m+2)):=fun m i l k s h1 h2=>by rw[zQ (F:=F.ya) rfl];exact sS (whole m) h1 h2
 have needLength:∀m,uH (zD T (m+3)):=fun m i s h1 h2=>by rw[zQ (F:=F.yJ) rfl];exact uX g (needWhole m) h1 h2
 have needFirst:∀m,uj (zD T (m+3)):=fun m i s h1 h2=>by rw[zQ (F:=F14.yX) rfl];exact sO g (needWhole m) h1 h2
 have needStep:∀m,se (zD T (m+3)):=fun m i s h1 h2=>by rw[zQ (F:=F14.yk) rfl];exact qP g (needWhole m) h1 h2
 have most:∀m,et (zD T (m+1)):=fun m a b d s h1 h2 h3=>by rw[zQ (F:=F.yj) rfl];exact iY h1 h2 h3
 have one:∀m,ZN (zD T (m+1)):=fun m a b d e s h1 h2 h3 h4=>by rw[zQ (F:=F.yV) rfl];exact eD h1 h2 h3 h4
 have areSizes:∀m,sZ (zD T (m+3)):=fun m zs s h=>by rw[zQ (F:=F.yh) rfl];exact sN g (wholes m) h
 have needSizes:∀m,vA (zD T (m+4)):=fun m zs s h=>by rw[zQ (F:=F.yY) rfl];exact sP (areSizes m) h
 have isStrip:∀m,ui (zD T (m+3)):=fun m zs ns s h1 h2 h3=>by rw[zQ (F:=F.yx) rfl];exact pV g (wholes m) h1 h2 h3
 have needStrip:∀m,xH (zD T (m+4)):=fun m zs ns s h1 h2 h3=>by rw[zQ (F:=F.yZ) rfl];exact sR (isStrip m) h1 h2 h3
 have fHue:∀m,eg (zD T (m+1)):=fun m zs ns s h1=>by rw[zQ (F:=F.zl) rfl];exact iT h1
 have fRow:∀m,eh (zD T (m+2)):=fun m zs ns s h1 h2 h3=>by rw[zQ (F:=F.zm) rfl];exact iU (most m) (one m) h1 h2 h3
 have fWrong:∀m,rV (zD T (m+5)):=fun m zs ns s h1 h2 h3=>by rw[zQ (F:=F.yI) rfl];exact oo (needSizes m) (needStrip m) (fHue (m+3)) (fRow (m+2)) h1 h2 h3
 have fits:∀m,el (zD T (m+6)):=fun m zs ns s h1 h2 h3=>by rw[zQ (F:=F.vo) rfl];exact iV (fWrong m) h1 h2 h3
 have prod:∀m,eu (zD T (m+1)):=fun m zs s h=>by rw[zQ (F:=F12.yb) rfl];exact iZ h
 have needSmall:∀m,vB (zD T (m+5)):=fun m zs s h=>by rw[zQ (F:=F12.zg) rfl];exact sQ rfl (needSizes m) (prod (m+3)) h
 have may:∀m,dy (zD T (m+1)):=fun m zs ns h s h1 h2 h3=>by rw[zQ (F:=F.yW) rfl];exact eC h1 h2 h3
 have grown0:∀m,uZ (zD T (m+2)):=fun m zs L s h1 h2 h3=>by rw[zQ (F:=F12.wV) rfl];exact oq (may m) h1 h2 h3
 have tally:∀m,rW (zD T (m+6)):=fun m zs N s h1 h2=>by rw[zQ (F:=F12.wW) rfl];exact ou (needSmall m) (grown0 (m+3)) h1 h2
 have far:∀m,sd (zD T (m+7)):=fun m zs N s h1 h2=>by rw[zQ (F:=F12.yv) rfl];exact qO (tally m) h1 h2
 have all:∀m,nN (zD T (m+6)):=fun m zs k s h1 h2=>by rw[zQ (F:=F12.yT) rfl];exact iO (needSmall m) (needLength (m+2)) (grown0 (m+3)) h1 h2
 have many:∀m,eo (zD T (m+7)):=fun m zs k s h1 h2=>by rw[zQ (F:=F12.yK) rfl];exact iX (all m) h1 h2
 have first:∀m,lh (zD T (m+7)):=fun m zs k s h1 h2=>by rw[zQ (F:=F12.yH) rfl];exact lP (all m) h1 h2
 have order:∀m,lj (zD T (m+3)):=fun m hs s h=>by rw[zQ (F:=F14.yw) rfl];exact lQ g (wholes m) h
 have back:∀m,ed (zD T (m+5)):=fun m zs ns s h1 h2 h3=>by rw[zQ (F:=F14.yu) rfl];exact iP (needStrip m) h1 h2 h3
 have ZC:∀m,ez (zD T (m+5)):=fun m zs ns ts f d s h1 h2 h3 h4 h5 h6 h7=>by rw[zQ (F:=F14.xG) rfl];exact ic (needStrip m) (needFirst (m+1)) (needStep (m+1)) h1 h2 h3 h4 h5 h6 h7
 have cQ:∀m,ef (zD T (m+5)):=fun m zs ns hs s h1 h2 h3 h4=>by rw[zQ (F:=F14.yi) rfl];exact iS (needStrip m) (order (m+1)) h1 h2 h3 h4
 have right:∀m,ll (zD T (m+7)):=fun m zs ns os f d s h1 h2 h3 h4 h5 h6 h7=>by rw[zQ (F:=F14.zf) rfl];exact lR (isStrip (m+3)) (fits m) (fWrong (m+1)) (back (m+1)) (ZC (m+1)) (cQ (m+1)) h1 h2 h3 h4 h5 h6 h7
 have cell:∀m,ee (zD T (m+1)):=fun m ns k s=>by
  obtain⟨c,h⟩:=iQ (T:=T) (Φ:=zD T m) (s:=s) ns k
  exact⟨c,by rw[zQ (F:=F.zq) rfl];exact h⟩
 have pen:∀m,ZO (zD T (m+1)):=fun m c s=>by
  obtain⟨a,b,h,h2⟩:=eE (T:=T) (Φ:=zD T m) (s:=s) c
  exact⟨a,b,by rw[zQ (F:=F.yD) rfl];exact h,h2⟩
 have draw:∀m,nO (zD T (m+1)):=fun m p k s h1 h2 h3=>by rw[zQ (F:=F.yg) rfl];exact iR h1 h2 h3
 have small:∀m,nP (zD T (m+2)):=fun m p s h=>by rw[zQ (F:=F12.yS) rfl];exact ot (draw m) h
 exact⟨cell (n+8),pen (n+8),draw (n+8),small (n+7),right (n+2),far (n+2),tally (n+3),all (n+3),many (n+2),first (n+2)⟩
theorem br(ns:List Int):∃s',zD T 10 "law" 0 [.scr ns] []=.ok (.bool true) s':=by
 obtain⟨v,s',h,rfl⟩:=jP (cs 9 (by omega)) ns
 exact⟨s',by rw[zQ (F:=sg) rfl];exact h⟩
end P14
end
section
open PySem PySem.W PyProof.Rows
theorem P14.hx:P14.sg.ps=[("_law_script":Str)]:=by kernel_rfl
theorem P14.hF:(M.tbl P14.fnL P14.glL).fn P14.dd.name 0=some P14.sg:=by kernel_rfl
theorem P14.hgl:P14.glL=P14.gl.map fun p=>(p.1,M.gv p.2):=by kernel_rfl
theorem PySem.Challenge.cw_evenhues_k14_whole_strips_that_fit_holds : PySem.Challenge.rw_evenhues_k14_whole_strips_that_fit.Holds := by
 exact M.close (n:=10) P14.av P14.left P14.hgl P14.cX P14.hp P14.hk P14.hwr P14.ok P14.bare P14.hw (by kernel_rfl) P14.hdf ⟨rfl,by decide,by decide,rfl⟩ P14.hF P14.hx P14.ZA (fun ns _=>P14.br ns)
end
