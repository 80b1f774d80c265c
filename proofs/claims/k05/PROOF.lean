import PyProof.Rows.All
import Wide.All
import OpenK.AllK
import Wide.FinOn
import HandS.ForMost
import HandS.ForExc
import HandS.ExcInit
import HandS.ExcField
import HandS.IsInst
import HandS.ClsMeth
import HandS.Walk
import HandS.Conv
import HandS.Style
import HandS.TupAny
import HandS.Property
import HandS.MakeKwOnly
import HandS.Deep
import HandS.Codes
import PyProof.ReprReads
import PyProof.ReprRoads
import HandS.FStr
import PyProof.P3In
import HandS.TupMul
import KE.GoesEnum
import HandS.NoneIn
import HandS.Defaults
import HandS.SortInts
import HandS.SetKeys
import KE.KCallOwn
import HandS.Text
import HandS.IterVal
import KE.KOwnIter
import HandS.TryMany
import HandS.ExcIs
import KE.KExcIs
import HandS.StrMore
import HandS.Ends
import PySem.Challenge.RW_strongbit_k05_texts_of_ends
set_option Elab.async false
set_option linter.all false
set_option maxRecDepth 100000
set_option maxHeartbeats 2000000
/-! Sb: what the proofs of the ends' laws share: a rule for powers, the bag of draws. -/
namespace Sb
open PySem L2
variable {X : Cx}
theorem op_powB : OpR X (binaryOp .Pow) (rI (fun i j => 0 ≤ j ∧ (Builtin.Int.intBits i : Int) * j ≤ 2 ^ 27) fun i j => .int (i ^ j.toNat)) :=
  opI fun _ _ _ _ _ _ _ c q => PyProof.Rows.pow_int c.1 c.2 q
theorem pow_fits {i : Int} {k : Nat} {j : Int} (h : i.natAbs < 2 ^ k) (h0 : 0 ≤ j) (hj : (k : Int) * j ≤ 2 ^ 27) : 0 ≤ j ∧ (Builtin.Int.intBits i : Int) * j ≤ 2 ^ 27 := by
  have hb : Builtin.Int.intBits i ≤ k := PyProof.Rows.intBits_le h
  refine ⟨h0, Int.le_trans (Int.mul_le_mul_of_nonneg_right (by omega) h0) hj⟩
/-- a def of the text: what it keeps, its name, how it binds -/
structure Fx (P : Program) (w : World) (K : PySem.W.Frag) (mg : Str → Option Value) (base : Heap) (CX : CXT) (k : Nat) (x : Str) (f : Addr) (fd : FuncData) (ps : List Str) (sp : Sp) : Prop where
  ok : FnOk P w K mg base CX k f fd ps sp
  mg : mg x = some (.ref f)
  kp : PySem.W.keepIn K (.ref f) = true
  bd : Binds K fd ps []
/-- an own exception class with its __init__ -/
structure Ox (P : Program) (w : World) (K : PySem.W.Frag) (mg : Str → Option Value) (base : Heap) (k : Nat) (x : Str) (C f : Addr) (fd : FuncData) (ps : List Str) (sp : Sp) : Prop where
  c : OexC K C
  iC : PySem.W.findIn K (.ref C) "__init__" = some (some (.ref f))
  tI : PySem.W.typeIn K (.ref f) = some (.type "function")
  ok : FnOk P w K mg base CX0 k f fd ps sp
  bd : Binds K fd ps []
  mg : mg x = some (.ref C)
/-- BadEnd(v1, v2) is raised: its own dict is new -/
def BadAt (C : Addr) (H : Hp) (v1 v2 : V) (E : XK) : Prop := ∀ (H' : Hp) (d : Addr), Same H H' → H d = none → H' d = some (.xd [("row", v2), ("part", v1)]) → E (.ref C) (some d) H'
theorem BadAt.same {C : Addr} {H H1 : Hp} {v1 v2 : V} {E : XK} (s : Same H H1) (h : BadAt C H v1 v2 E) : BadAt C H1 v1 v2 E := fun H' d s' n e => h H' d (s.trans s') (s.free n) e
/-- BadEnd.__init__ -/
def spBadInit (C : Addr) : Sp := fun vs H Q _ => ∃ (a : Addr) (v1 v2 : V), vs = [.ref a, v1, v2] ∧ H a = some (exo a C none) ∧
  ∀ (H' : Hp) (d : Addr), H' a = some (exo a C (some d)) → H d = none → d ≠ a → H' d = some (exd d [("row", v2), ("part", v1)]) → (∀ b o, H b = some o → b ≠ a → H' b = some o) → Q .non H'
/-- all that stood stands, but at p -/
def But (p : Addr) (H H' : Hp) : Prop := ∀ b o, H b = some o → b ≠ p → H' b = some o
theorem But.refl {p : Addr} {H : Hp} : But p H H := fun _ _ h _ => h
theorem But.trans {p : Addr} {H H1 H2 : Hp} (a : But p H H1) (b : But p H1 H2) : But p H H2 := fun c o h n => b c o (a c o h n) n
theorem But.same {p : Addr} {H H1 : Hp} (a : Same H H1) : But p H H1 := fun c o h _ => a c o h
theorem But.upd {p : Addr} {H : Hp} {o : HO} : But p H (upd H p o) := fun c u h n => by rw [upd_ne n]; exact h
theorem Same.upd {p : Addr} {H : Hp} {o : HO} (n : H p = none) : Same H (upd H p o) := fun c u h => by
  rw [upd_ne (ne_of_none h n)]
  exact h
theorem sqT_same {K : PySem.W.Frag} {H H' : Hp} {a : Addr} {xs : List V} (e : Same H H') (h : SqT K H a xs) : SqT K H' a xs := by
  rcases h with (h | ⟨o, h⟩) | h
  · exact .inl (.inl (e _ _ h))
  · exact .inl (.inr ⟨o, e _ _ h⟩)
  · exact .inr h
/-- the bag at p: three numbers; n bounds how often it was asked -/
def Bag (H : Hp) (p : Addr) (n : Nat) : Prop := ∃ g b c : Int, H p = some (.lst [.int g, .int b, .int c]) ∧ 0 ≤ g ∧ 0 ≤ b ∧ b < 2 ^ 100 ∧ 0 ≤ c ∧ c ≤ n
theorem Bag.mono {H : Hp} {p : Addr} {n m : Nat} (h : Bag H p n) (l : n ≤ m) : Bag H p m := by
  obtain ⟨g, b, c, e, h0, h1, h2, h3, h4⟩ := h
  exact ⟨g, b, c, e, h0, h1, h2, h3, by omega⟩
theorem Bag.same {H H' : Hp} {p : Addr} {n : Nat} (h : Bag H p n) (s : Same H H') : Bag H' p n := by
  obtain ⟨g, b, c, e, r⟩ := h
  exact ⟨g, b, c, s _ _ e, r⟩
/-- take(bag, many): a draw below many -/
def spTake : Sp := fun vs H Q _ => ∃ (p : Addr) (n : Nat) (m : Int), vs = [.ref p, .int m] ∧ Bag H p n ∧ n ≤ 1000000 ∧ 0 < m ∧ m < 1073741824 ∧
  ∀ (H' : Hp) (d : Int), 0 ≤ d → d < m → Bag H' p (n + 1) → But p H H' → Q (.int d) H'
theorem hu65 {A : Around} {k : Nat} (hr : Room k A) : A.units + 65 < cLine := Nat.lt_of_le_of_lt (Nat.add_le_add_left (by omega : 65 ≤ 16 * k + 200) _) (by have := hr.un; omega)
theorem at3 {a b c : V} : atI [a, b, c] 0 = some a ∧ atI [a, b, c] 1 = some b ∧ atI [a, b, c] 2 = some c :=
  ⟨atI_nat (j := 0) rfl, atI_nat (j := 1) rfl, atI_nat (j := 2) rfl⟩
/-- what follows in a row: another row, or a word -/
inductive Pl where
  | num (n : Nat) | word (s : Str)
  deriving DecidableEq
def Pl.v : Pl → V
  | .num n => .int (n : Int)
  | .word s => .str s
def Pl.key : Pl → Key
  | .num n => .inl (n : Int)
  | .word s => .inr s
theorem Pl.v_key (p : Pl) : p.v = kV p.key := by cases p <;> rfl
theorem Pl.v_inj {p q : Pl} (h : p.v = q.v) : p = q := by
  cases p <;> cases q <;> simp_all [Pl.v] <;> omega
theorem Pl.key_inj {p q : Pl} (h : p.key = q.key) : p = q := by
  cases p <;> cases q <;> simp_all [Pl.key] <;> omega
/-- it fits into a machine of so many rows with these words -/
def Pl.Ok (many : Nat) (ws : List Str) : Pl → Prop
  | .num n => n < many
  | .word s => s ∈ ws
instance {many : Nat} {ws : List Str} (p : Pl) : Decidable (p.Ok many ws) := match p with
  | .num n => inferInstanceAs (Decidable (n < many))
  | .word s => inferInstanceAs (Decidable (s ∈ ws))
structure Row where
  put : Nat
  a : Pl
  b : Pl
  deriving DecidableEq
def Row.vs (r : Row) : List V := [.int (r.put : Int), r.a.v, r.b.v]
def Row.Ok (many : Nat) (ws : List Str) (r : Row) : Prop := (r.put = 0 ∨ r.put = 1) ∧ r.a.Ok many ws ∧ r.b.Ok many ws
instance {many : Nat} {ws : List Str} (r : Row) : Decidable (r.Ok many ws) := inferInstanceAs (Decidable ((r.put = 0 ∨ r.put = 1) ∧ r.a.Ok many ws ∧ r.b.Ok many ws))
/-- v is a row of H -/
def RowAt (H : Hp) (v : V) (r : Row) : Prop := ∃ a, v = .ref a ∧ H a = some (.tup r.vs)
/-- the values vs are the rows rs -/
def RowsV (H : Hp) (vs : List V) (rs : List Row) : Prop := Paired (RowAt H) vs rs
theorem RowAt.same {H H' : Hp} {v : V} {r : Row} (s : Same H H') (h : RowAt H v r) : RowAt H' v r := by
  obtain ⟨a, e, x⟩ := h
  exact ⟨a, e, s _ _ x⟩
theorem RowsV.imp {H H' : Hp} {vs : List V} {rs : List Row} (f : ∀ v r, RowAt H v r → RowAt H' v r) (h : RowsV H vs rs) : RowsV H' vs rs := Paired.mapP h f
theorem RowsV.same {H H' : Hp} {vs : List V} {rs : List Row} (s : Same H H') (h : RowsV H vs rs) : RowsV H' vs rs := h.imp fun _ _ => RowAt.same s
/-- a list (the bag, say) is no row -/
theorem RowsV.but {H H' : Hp} {p : Addr} {vs : List V} {rs : List Row} (s : But p H H') (hp : ∀ xs, H p ≠ some (.tup xs)) (h : RowsV H vs rs) : RowsV H' vs rs :=
  h.imp fun _ _ ⟨a, e, x⟩ => ⟨a, e, s _ _ x fun z => hp _ (by rw [← z]; exact x)⟩
theorem RowsV.get : ∀ {H : Hp} {vs : List V} {rs : List Row}, RowsV H vs rs → ∀ (i : Nat) (v : V), vs[i]? = some v → ∃ r, rs[i]? = some r ∧ RowAt H v r
  | _, _, _, .nil, i, v, e => by simp at e
  | _, _, _, .cons h t, 0, v, e => by
    simp at e
    subst e
    exact ⟨_, rfl, h⟩
  | _, _, _, .cons h t, i + 1, v, e => by
    obtain ⟨r, e1, e2⟩ := RowsV.get (vs := _) t i v (by simpa using e)
    exact ⟨r, by simpa using e1, e2⟩
theorem RowsV.get' : ∀ {H : Hp} {vs : List V} {rs : List Row}, RowsV H vs rs → ∀ (i : Nat) (r : Row), rs[i]? = some r → ∃ v, vs[i]? = some v ∧ RowAt H v r
  | _, _, _, .nil, i, v, e => by simp at e
  | _, _, _, .cons h t, 0, v, e => by
    simp at e
    subst e
    exact ⟨_, rfl, h⟩
  | _, _, _, .cons h t, i + 1, v, e => by
    obtain ⟨r, e1, e2⟩ := RowsV.get' (vs := _) t i v (by simpa using e)
    exact ⟨r, by simpa using e1, e2⟩
theorem RowsV.len {H : Hp} {vs : List V} {rs : List Row} (h : RowsV H vs rs) : vs.length = rs.length := Paired.length h
theorem RowsV.snoc {H : Hp} {v : V} {r : Row} (x : RowAt H v r) : ∀ {vs : List V} {rs : List Row}, RowsV H vs rs → RowsV H (vs ++ [v]) (rs ++ [r])
  | _, _, .nil => .cons x .nil
  | _, _, .cons h t => .cons h (RowsV.snoc x t)
theorem Bag.no {H : Hp} {p : Addr} {n : Nat} (h : Bag H p n) (xs : List V) : H p ≠ some (.tup xs) := by
  obtain ⟨g, b, c, e, _⟩ := h
  rw [e]
  intro z
  cases Option.some.inj z
end Sb

set_option Elab.async false
set_option linter.all false
set_option maxRecDepth 100000
set_option maxHeartbeats 2000000
/-! Sbg: defs that run where no repr is under way: repr of data. -/
namespace Sb
open PySem PySem.Spec PyProof.Rows L2
/-- what a def keeps where no guard stands -/
structure FnG (P : Program) (w : World) (K : PySem.W.Frag) (mg : Str → Option Value) (base : Heap) (CX : CXT) (k : Nat) (f : Addr) (fd : FuncData) (ps : List Str) (sp : Sp) : Prop where
  size : ∀ xs H Q E, sp xs H Q E → xs.length = ps.length
  go : ∀ (A : Around) (st : List Env) (s : Shared) (H : Hp) (args : Args) (us : List Value) (xs : List V) (Q : VK) (E : XK), A.guards = some [] → Room k A → Env0 P w K mg base A st s H → BindsTo s fd args (ps.zip us) → Vals xs us → sp xs H Q E →
    codeAny (model P w) A (.call (.ref f) args) (CR CX st P w H s Q E) s
section
variable {CX : CXT} {P : Program} {w : World} {K : PySem.W.Frag} {mg : Str → Option Value} {base : Heap} {k : Nat} {f : Addr}
theorem guards_in {A : Around} {e : Env} (h : A.guards = some []) : (A.deeper e).guards = some [] := by
  first
    | exact h
    | (show (A.deeper e).guards = some []; simp [Around.deeper, h])
/-- a def's promise from its body, no guard standing -/
theorem fnG {nm ql : Str} {pr : Arguments} {bd : List Stmt} {sc : Scope} {dV kV doc pm cdv ct oc : Value} {an od : Option Addr} {osl : Array (Option Value)} {N ps : List Str} {sp : Sp}
    (at_ : K.lookup f = some ⟨oc, od, .func (PySem.W.fnOf nm ql pr bd sc dV kV doc pm an cdv ct), osl⟩) (cd_ : PySem.W.codeIn K cdv ql = true) (Z : FnScope N ps sc) (size : ∀ xs H Q E, sp xs H Q E → xs.length = ps.length)
    (hb : ∀ (A : Around) (st : List Env) (s : Shared) (H : Hp) (xs : List V) (Q : VK) (E : XK), A.guards = some [] → Room k (A.deeper (envOfC ql sc s.heap.objs.size f cdv)) → sp xs H Q E →
      ∃ t, PSs (cxOf CX P w K mg base N ql sc f cdv A st s H E) bd t ∧ t { nx := fun _ H' => Q .non H', rt := Q } (start N xs) H) :
    FnG P w K mg base CX (k + 1) f (PySem.W.fnOf nm ql pr bd sc dV kV doc pm an cdv ct) ps sp := by
  refine ⟨size, fun A st s H args us xs Q E hg hr e0 bnd r hs => ?_⟩
  have hlen := size _ _ _ _ hs
  have inK : K.In s.heap := e0.mod.kin.keeps fun b o e => (e0.bs b o e).1
  have nol : s.heap.NoLimit := e0.mod.nolimit.keeps fun b o e => (e0.bs b o e).1
  refine codeAny_call_function hr.depth (inK _ _ at_) rfl Z.co Z.gen rfl (PySem.W.codeRec_of inK cd_) (bnd _ _ _ _ ?_)
  refine wpAny_newFunctionEnv_cells Z.kind (fun ⟨n, v⟩ hy => ?_) fun env he s1 x => ?_
  · rcases Z.par n (List.of_mem_zip hy).1 with q | q
    · exact .inl q
    · exact .inr ⟨q, PySem.W.cellsFrom_some _ _ _ (.inl q)⟩
  subst he
  refine ⟨nol.keeps x.toInCall.keep, codeAny_func ?_⟩
  obtain ⟨t, ht, hq⟩ := hb A st s H xs Q E hg (hr.deeper _) hs
  have I : Inv (cxOf CX P w K mg base N ql sc f cdv A st s H E) [] (start N xs) H s1 := inv_start Z hr.hd e0 hlen r x
  refine wpAny_mono (ht.run [] s1 (start N xs) H _ I hq) (fun fl s' z => ?_) fun e s' z => z
  match fl, z with
  | .ret u, ⟨v, σ', H', J, rv, q⟩ => exact ⟨v, H', J.os, J.bare, J.base, J.hok, rv, q⟩
  | .next, ⟨σ', H', J, q⟩ => exact ⟨V.non, H', J.os, J.bare, J.base, J.hok, rfl, q⟩
  | .brk, ⟨_, _, _, q⟩ => exact False.elim q
  | .cont, ⟨_, _, _, q⟩ => exact False.elim q
/-- the same in the words of a def -/
theorem okG {x qual : Str} {st : Stmt} {fd : FuncData} {N ps : List Str} {sp : Sp} (F : Fun K x qual st f fd) (Z : FnScope N ps (defScope st)) (size : ∀ xs H Q E, sp xs H Q E → xs.length = ps.length)
    (hb : ∀ (cdv : Value) (A : Around) (out : List Env) (s : Shared) (H : Hp) (xs : List V) (Q : VK) (E : XK), A.guards = some [] → Room k (A.deeper (envOfC qual (defScope st) s.heap.objs.size f cdv)) → sp xs H Q E →
      ∃ t, PSs (cxOf CX0 P w K mg base N qual (defScope st) f cdv A out s H E).nox (defBody st) t ∧ t { nx := fun _ H' => Q .non H', rt := Q } (start N xs) H) : FnG P w K mg base CX0 (k + 1) f fd ps sp := by
  obtain ⟨oc, od, kV, doc, pm, an, cdv, ct, osl, rfl, at_, cd_⟩ := F.ex
  refine fnG at_ cd_ Z size fun A out s H xs Q E hg hr hs => ?_
  obtain ⟨t, h, q⟩ := hb cdv A out s H xs Q E hg hr hs
  exact ⟨t, h.nox, q⟩
end
section
variable {X : Cx}
def rReprD (K : PySem.W.Frag) : List V → Hp → VK → Prop := fun xs H Q => ∃ v d, xs = [v] ∧ Dp K H v d ∧ d.showable = true ∧ SeqAt.shaped d = true ∧ d.shown.length ≤ sizeLine ∧ Q (.str d.shown) H
theorem shaped_nd {d : PyData} (h : SeqAt.shaped d = true) : d.hasDict = false ∧ d.depth ≤ 64 := by
  have h' : (d.canLay0 && decide (d.depth ≤ 64)) = true := h
  rw [Bool.and_eq_true] at h'
  exact ⟨PyData.hasDict_of_canLay d h'.1, of_decide_eq_true h'.2⟩
theorem call_reprD (hg : X.A.guards = some []) (hu : X.A.units + 66 < cLine) : CallR X (.builtin "repr") (rReprD X.K) := by
  intro pins s σ H xs us Q I r h
  obtain ⟨v, d, rfl, hd, hs, hl, hz, q⟩ := h
  obtain ⟨u, rfl, rx⟩ := vals1 r
  obtain ⟨nd, hdp⟩ := shaped_nd hl
  obtain ⟨as, rd⟩ := Dp.reads I d v u hd rx
  cases hd with
  | lst a b =>
    cases (show u = Value.ref _ from rx)
    refine repr_of_reads' rd hs (PyData.noDict_hsm nd) hg (by omega) (fun b o e => e) (fun h' t tk hk => ?_) hz
    exact ⟨.str _, H, I.kept hk, ⟨_, rfl⟩, q⟩
  | tup a b =>
    cases (show u = Value.ref _ from rx)
    refine repr_of_reads' rd hs (PyData.noDict_hsm nd) hg (by omega) (fun b o e => e) (fun h' t tk hk => ?_) hz
    exact ⟨.str _, H, I.kept hk, ⟨_, rfl⟩, q⟩
  | non =>
    cases (show u = Value.none from rx)
    exact PySem.P.repr_of_none ⟨.str _, H, I.tok _, ⟨_, rfl⟩, q⟩
  | bl b =>
    cases (show u = Value.bool b from rx)
    exact PySem.P.repr_of_bool ⟨.str _, H, I.tok _, ⟨_, rfl⟩, q⟩
  | int i =>
    obtain ⟨t, rfl⟩ := (show ∃ t, u = Value.int i t from rx)
    exact PySem.P.repr_of_int (of_decide_eq_true hs) ⟨.str _, H, I.tok _, ⟨_, rfl⟩, q⟩
  | str x =>
    obtain ⟨t, rfl⟩ := (show ∃ t, u = Value.str x t from rx)
    exact PySem.P.repr_of_str ⟨.str _, H, I.tok _, ⟨_, rfl⟩, q⟩ hz
end
end Sb

set_option Elab.async false
set_option linter.all false
set_option maxHeartbeats 2000000
/-! Sbm: where heard bits lead, in plain lists. -/
namespace Sb
open PySem L2
/-- p follows row i -/
def Fol (rows : List Row) (i : Nat) (p : Pl) : Prop := ∃ r, rows[i]? = some r ∧ (p = r.a ∨ p = r.b)
/-- some heard bits lead from row b to p -/
inductive Reach (rows : List Row) (b : Nat) : Pl → Prop where
  | base : Reach rows b (.num b)
  | step {i : Nat} {p : Pl} (h : Reach rows b (.num i)) (f : Fol rows i p) : Reach rows b p
def Pl.isNum : Pl → Bool
  | .num _ => true
  | .word _ => false
/-- what holds of the found ones and of those ahead; k (where it is some row) waits for its followers but the first j -/
structure RInv (rows : List Row) (b : Nat) (fs : List Pl) (as : List Nat) (hold : Option (Nat × Nat)) : Prop where
  nd : fs.Nodup
  sound : ∀ x, x ∈ fs → Reach rows b x
  start : Pl.num b ∈ fs
  sub : ∀ i, i ∈ as → Pl.num i ∈ fs
  small : ∀ i, Pl.num i ∈ fs → i < rows.length
  closed : ∀ i, Pl.num i ∈ fs → i ∉ as → (∀ j, hold ≠ some (i, j)) → ∀ p, Fol rows i p → p ∈ fs
  held : ∀ i j, hold = some (i, j) → Pl.num i ∈ fs ∧ ∀ r, rows[i]? = some r → (1 ≤ j → r.a ∈ fs) ∧ (2 ≤ j → r.b ∈ fs)
theorem RInv.begin {rows : List Row} {b : Nat} (h : b < rows.length) : RInv rows b [.num b] [b] none :=
  ⟨by simp, fun x hx => by simp at hx; subst hx; exact .base, by simp, fun i hi => by simp at hi; simp [hi], fun i hi => by simp at hi; omega,
   fun i hi ha => by simp at hi; simp [hi] at ha, fun i j z => by cases z⟩
theorem RInv.pop {rows : List Row} {b i : Nat} {fs : List Pl} {as : List Nat} (h : RInv rows b fs (as ++ [i]) none) : RInv rows b fs as (some (i, 0)) :=
  ⟨h.nd, h.sound, h.start, fun j hj => h.sub j (by simp [hj]), h.small, fun j hj ha hn p hp => h.closed j hj (by
      intro z
      rcases List.mem_append.mp z with z | z
      · exact ha z
      · simp at z
        exact hn 0 (by rw [z])) (by intro k z; cases z) p hp,
    fun k j e => by
      cases e
      exact ⟨h.sub i (by simp), fun r _ => ⟨fun z => absurd z (by omega), fun z => absurd z (by omega)⟩⟩⟩
theorem RInv.done {rows : List Row} {b i : Nat} {fs : List Pl} {as : List Nat} (h : RInv rows b fs as (some (i, 2))) : RInv rows b fs as none :=
  ⟨h.nd, h.sound, h.start, h.sub, h.small, fun j hj ha _ p hp => by
      by_cases e : j = i
      · subst e
        obtain ⟨r, hr, hp⟩ := hp
        obtain ⟨_, q⟩ := h.held j 2 rfl
        obtain ⟨q1, q2⟩ := q r hr
        rcases hp with rfl | rfl
        · exact q1 (by omega)
        · exact q2 (by omega)
      · exact h.closed j hj ha (fun k z => by cases z; exact e rfl) p hp, fun k j z => by cases z⟩
/-- the j-th follower is found already -/
theorem RInv.skip {rows : List Row} {b i j : Nat} {fs : List Pl} {as : List Nat} {r : Row} {p : Pl} (h : RInv rows b fs as (some (i, j))) (hr : rows[i]? = some r) (hp : (j = 0 ∧ p = r.a) ∨ (j = 1 ∧ p = r.b)) (hf : p ∈ fs) :
    RInv rows b fs as (some (i, j + 1)) :=
  ⟨h.nd, h.sound, h.start, h.sub, h.small, fun k hk ha hn => h.closed k hk ha (fun l z => by cases z; exact hn _ rfl), fun k l z => by
    cases z
    obtain ⟨q0, q⟩ := h.held i j rfl
    refine ⟨q0, fun r' hr' => ?_⟩
    rw [hr] at hr'
    cases hr'
    obtain ⟨q1, q2⟩ := q r hr
    rcases hp with ⟨rfl, rfl⟩ | ⟨rfl, rfl⟩
    · exact ⟨fun _ => hf, fun z => absurd z (by omega)⟩
    · exact ⟨fun _ => q1 (by omega), fun _ => hf⟩⟩
/-- a row that is new is ahead -/
def more (as : List Nat) : Pl → List Nat
  | .num k => as ++ [k]
  | .word _ => as
/-- it is new -/
theorem RInv.add {rows : List Row} {b i j : Nat} {fs : List Pl} {as : List Nat} {r : Row} {p : Pl} (h : RInv rows b fs as (some (i, j))) (hr : rows[i]? = some r) (hp : (j = 0 ∧ p = r.a) ∨ (j = 1 ∧ p = r.b)) (hf : p ∉ fs)
    (hs : ∀ k, p = .num k → k < rows.length) : RInv rows b (fs ++ [p]) (more as p) (some (i, j + 1)) := by
  have hi : Pl.num i ∈ fs := (h.held i j rfl).1
  have fol : Fol rows i p := ⟨r, hr, by rcases hp with ⟨_, e⟩ | ⟨_, e⟩ <;> simp [e]⟩
  have mem_as : ∀ k, k ∈ (more as p) → k ∈ as ∨ p = .num k := fun k hk => by
    cases p with
    | num m =>
      rcases List.mem_append.mp hk with z | z
      · exact .inl z
      · simp at z
        exact .inr (by rw [z])
    | word z => exact .inl hk
  have as_mem : ∀ k, k ∈ as → k ∈ (more as p) := fun k hk => by
    cases p with
    | num m => exact List.mem_append_left _ hk
    | word z => exact hk
  refine ⟨?_, ?_, by simp [h.start], ?_, ?_, ?_, ?_⟩
  · rw [List.nodup_append]
    refine ⟨h.nd, by simp, fun x hx y hy => ?_⟩
    simp at hy
    subst hy
    rintro rfl
    exact hf hx
  · intro x hx
    rcases List.mem_append.mp hx with z | z
    · exact h.sound x z
    · simp at z
      subst z
      exact .step (h.sound _ hi) fol
  · intro k hk
    rcases mem_as k hk with z | z
    · exact List.mem_append_left _ (h.sub k z)
    · rw [← z]
      simp
  · intro k hk
    rcases List.mem_append.mp hk with z | z
    · exact h.small k z
    · simp at z
      exact hs k z.symm
  · intro k hk ha hn q hq
    rcases List.mem_append.mp hk with z | z
    · exact List.mem_append_left _ (h.closed k z (fun y => ha (as_mem k y)) (fun l y => by cases y; exact hn _ rfl) q hq)
    · simp at z
      subst z
      exact absurd (List.mem_append_right _ (by simp)) ha
  · intro k l z
    cases z
    obtain ⟨_, q⟩ := h.held i j rfl
    refine ⟨List.mem_append_left _ hi, fun r' hr' => ?_⟩
    rw [hr] at hr'
    cases hr'
    obtain ⟨q1, q2⟩ := q r hr
    rcases hp with ⟨rfl, rfl⟩ | ⟨rfl, rfl⟩
    · exact ⟨fun _ => by simp, fun z => absurd z (by omega)⟩
    · exact ⟨fun _ => List.mem_append_left _ (q1 (by omega)), fun _ => by simp⟩
/-- nothing is ahead: just what is led to is found -/
theorem RInv.all {rows : List Row} {b : Nat} {fs : List Pl} (h : RInv rows b fs [] none) (x : Pl) : x ∈ fs ↔ Reach rows b x := by
  refine ⟨h.sound x, fun z => ?_⟩
  induction z with
  | base => exact h.start
  | step _ f ih => exact h.closed _ ih (by simp) (by intro k z; cases z) _ f
/-- the first row that is none -/
def firstBad (n : Nat) (ws : List Str) : List Row → Nat → Option Nat
  | [], _ => none
  | r :: t, i => if r.Ok n ws then firstBad n ws t (i + 1) else some i
theorem firstBad_none {n : Nat} {ws : List Str} : ∀ {l : List Row} {i : Nat}, firstBad n ws l i = none → ∀ r, r ∈ l → r.Ok n ws
  | [], _, _, r, h => by simp at h
  | x :: t, i, e, r, h => by
    unfold firstBad at e
    by_cases c : x.Ok n ws
    · rw [if_pos c] at e
      rcases List.mem_cons.mp h with z | z
      · rw [z]
        exact c
      · exact firstBad_none e r z
    · rw [if_neg c] at e
      cases e
theorem firstBad_all {n : Nat} {ws : List Str} : ∀ {l : List Row} {i : Nat}, (∀ r, r ∈ l → r.Ok n ws) → firstBad n ws l i = none
  | [], _, _ => rfl
  | x :: t, i, h => by
    unfold firstBad
    rw [if_pos (h x (by simp))]
    exact firstBad_all fun r hr => h r (by simp [hr])
theorem firstBad_at {n : Nat} {ws : List Str} : ∀ {l : List Row} {i k : Nat} {r : Row}, l[k]? = some r → ¬ r.Ok n ws → (∀ (j : Nat) (r' : Row), j < k → l[j]? = some r' → r'.Ok n ws) → firstBad n ws l i = some (i + k)
  | [], i, k, r, e, _, _ => by simp at e
  | x :: t, i, 0, r, e, h, _ => by
    simp at e
    subst e
    unfold firstBad
    rw [if_neg h]
    rfl
  | x :: t, i, k + 1, r, e, h, hp => by
    unfold firstBad
    rw [if_pos (hp 0 x (by omega) rfl), firstBad_at (l := t) (i := i + 1) (k := k) (r := r) (by simpa using e) h fun j r' hj hr => hp (j + 1) r' (by omega) (by simpa using hr)]
    congr 1
    omega
/-- what is wrong with a machine: None for its size, else the first index of no row -/
def machineFault (few most : Nat) (ws : List Str) (rows : List Row) : Option V :=
  if few ≤ rows.length ∧ rows.length ≤ most then (firstBad rows.length ws rows 0).map fun i => V.int (i : Int) else some .non
def hearerWords : List Str := ["taken", "lost"]
def senderWords : List Str := ["done", "again"]
open Classical in
/-- what is wrong with an end, the hearer's machine first -/
noncomputable def endFault (hs ss : List Row) : Option (V × V) :=
  match machineFault 2 100 hearerWords hs with
  | some v => some (.str "hearer", v)
  | none => match machineFault 1 100 senderWords ss with
    | some v => some (.str "sender", v)
    | none => if Reach hs 1 (.word "taken") then some (.str "body", .non) else none
theorem mf_none {few most : Nat} {ws : List Str} {rows : List Row} (h : machineFault few most ws rows = none) : few ≤ rows.length ∧ rows.length ≤ most ∧ ∀ r, r ∈ rows → r.Ok rows.length ws := by
  unfold machineFault at h
  by_cases c : few ≤ rows.length ∧ rows.length ≤ most
  · rw [if_pos c] at h
    refine ⟨c.1, c.2, firstBad_none (i := 0) ?_⟩
    cases e : firstBad rows.length ws rows 0 with
    | none => rfl
    | some i =>
      rw [e] at h
      cases h
  · rw [if_neg c] at h
    cases h
theorem mf_ok {few most : Nat} {ws : List Str} {rows : List Row} (h1 : few ≤ rows.length) (h2 : rows.length ≤ most) (h : ∀ r, r ∈ rows → r.Ok rows.length ws) : machineFault few most ws rows = none := by
  unfold machineFault
  rw [if_pos ⟨h1, h2⟩, firstBad_all h]
  rfl
theorem mf_size {few most : Nat} {ws : List Str} {rows : List Row} (h : ¬ (few ≤ rows.length ∧ rows.length ≤ most)) : machineFault few most ws rows = some .non := if_neg h
theorem mf_row {few most : Nat} {ws : List Str} {rows : List Row} {i : Nat} {r : Row} (h1 : few ≤ rows.length) (h2 : rows.length ≤ most) (e : rows[i]? = some r) (hb : ¬ r.Ok rows.length ws) (hp : ∀ (j : Nat) (r' : Row), j < i → rows[j]? = some r' → r'.Ok rows.length ws) :
    machineFault few most ws rows = some (.int (i : Int)) := by
  unfold machineFault
  rw [if_pos ⟨h1, h2⟩, firstBad_at (i := 0) e hb hp, Nat.zero_add]
  rfl
/-- how many rows are found -/
def nums (fs : List Pl) : Nat := (fs.filter Pl.isNum).length
theorem nodup_len {l : List Nat} : ∀ {n : Nat}, l.Nodup → (∀ x, x ∈ l → x < n) → l.length ≤ n := by
  intro n
  induction n generalizing l with
  | zero =>
    intro _ h
    cases l with
    | nil => simp
    | cons x r => exact absurd (h x (by simp)) (by omega)
  | succ n ih =>
    intro nd h
    have e : l.length ≤ (l.erase n).length + 1 := by
      rw [List.length_erase]
      split <;> omega
    have := ih (l := l.erase n) (nd.erase n) fun x hx => by
      have h1 := h x (List.mem_of_mem_erase hx)
      have h2 : x ≠ n := fun z => by
        subst z
        exact (List.Nodup.not_mem_erase nd) hx
      omega
    omega
theorem nums_le {fs : List Pl} {n : Nat} (nd : fs.Nodup) (h : ∀ i, Pl.num i ∈ fs → i < n) : nums fs ≤ n := by
  have e : nums fs = (fs.filterMap fun p => match p with | .num i => some i | .word _ => none).length := by
    unfold nums
    clear nd h
    induction fs with
    | nil => rfl
    | cons p r ih =>
      cases p with
      | num i => simp [Pl.isNum, List.filter_cons, ih]
      | word z => simp [Pl.isNum, List.filter_cons, ih]
  rw [e]
  refine nodup_len ?_ fun x hx => ?_
  · refine List.Pairwise.filterMap _ ?_ nd
    intro p q hpq x hx y hy
    cases p <;> cases q <;> simp_all
  · obtain ⟨p, hp, hx⟩ := List.mem_filterMap.mp hx
    cases p with
    | num i =>
      simp at hx
      subst hx
      exact h i hp
    | word z => simp at hx
theorem nums_snoc {fs : List Pl} {p : Pl} : nums (fs ++ [p]) = nums fs + (match p with | .num _ => 1 | .word _ => 0) := by
  unfold nums
  cases p <;> simp [Pl.isNum, List.filter_append, List.filter_cons]
end Sb

set_option Elab.async false
set_option linter.all false
set_option maxHeartbeats 2000000
/-! Sbh: the drawn machines of hearers: no heard bits lead from row 1 to "taken". -/
namespace Sb
open PySem L2
def unTaken : Pl → Pl
  | .num n => .num n
  | .word s => if s = "taken" then .word "lost" else .word s
theorem unTaken_word (s : Str) : unTaken (.word s) = if s = "taken" then .word "lost" else .word s := rfl
def unRow (r : Row) : Row := ⟨r.put, unTaken r.a, unTaken r.b⟩
/-- the rows at these places without "taken" -/
def unRows (rows : List Row) (is : List Nat) : List Row := is.foldl (fun rs i => match rs[i]? with | some r => rs.set i (unRow r) | none => rs) rows
theorem unTaken_twice (p : Pl) : unTaken (unTaken p) = unTaken p := by
  cases p with
  | num n => rfl
  | word s =>
    unfold unTaken
    by_cases h : s = "taken"
    · simp only [if_pos h]
      rw [if_neg (by decide +kernel)]
    · simp only [if_neg h]
theorem unRows_snoc (rows : List Row) (is : List Nat) (i : Nat) : unRows rows (is ++ [i]) = match (unRows rows is)[i]? with | some r => (unRows rows is).set i (unRow r) | none => unRows rows is := by
  unfold unRows
  rw [List.foldl_append]
  rfl
theorem unRows_len (rows : List Row) : ∀ is : List Nat, (unRows rows is).length = rows.length := by
  intro is
  induction hN : is.length generalizing is with
  | zero =>
    have : is = [] := List.length_eq_zero_iff.mp hN
    subst this
    rfl
  | succ k ih =>
    rcases List.eq_nil_or_concat is with z | ⟨p, i, z⟩
    · subst z
      simp at hN
    · have z' : is = p ++ [i] := by simpa using z
      subst z'
      rw [unRows_snoc]
      have := ih p (by simpa using hN)
      split
      · rw [List.length_set, this]
      · exact this
theorem unRows_get (rows : List Row) : ∀ (is : List Nat) (i : Nat) (r : Row), rows[i]? = some r → (unRows rows is)[i]? = some (if i ∈ is then unRow r else r) := by
  intro is
  induction hN : is.length generalizing is with
  | zero =>
    have : is = [] := List.length_eq_zero_iff.mp hN
    subst this
    intro i r h
    simpa [unRows] using h
  | succ k ih =>
    rcases List.eq_nil_or_concat is with z | ⟨p, j, z⟩
    · subst z
      simp at hN
    · have z' : is = p ++ [j] := by simpa using z
      subst z'
      intro i r h
      have hi := ih p (by simpa using hN) i r h
      rw [unRows_snoc]
      have hlen : i < rows.length := (List.getElem?_eq_some_iff.mp h).1
      by_cases hj : i = j
      · subst hj
        rw [hi]
        simp only []
        rw [List.getElem?_set_self (by rw [unRows_len]; exact hlen)]
        rw [if_pos (show i ∈ p ++ [i] by simp)]
        by_cases hp : i ∈ p
        · rw [if_pos hp]
          simp [unRow, unTaken_twice]
        · rw [if_neg hp]
      · have e : (i ∈ p ++ [j]) ↔ i ∈ p := by simp [hj]
        have e2 : (if i ∈ p ++ [j] then unRow r else r) = if i ∈ p then unRow r else r := by
          by_cases hp : i ∈ p
          · rw [if_pos hp, if_pos (e.mpr hp)]
          · rw [if_neg hp, if_neg fun z => hp (e.mp z)]
        rw [e2]
        split
        · rw [List.getElem?_set_ne (fun z => hj z.symm)]
          exact hi
        · exact hi
theorem unTaken_ok {n : Nat} {ws : List Str} (h : ("lost" : Str) ∈ ws) {p : Pl} (hp : p.Ok n ws) : (unTaken p).Ok n ws := by
  cases p with
  | num k => exact hp
  | word s =>
    rw [unTaken_word]
    by_cases c : s = "taken"
    · rw [if_pos c]
      exact h
    · rw [if_neg c]
      exact hp
theorem unRows_ok {rows : List Row} {is : List Nat} {n : Nat} {ws : List Str} (h : ("lost" : Str) ∈ ws) (hok : ∀ r, r ∈ rows → r.Ok n ws) : ∀ r, r ∈ unRows rows is → r.Ok n ws := by
  intro r hr
  obtain ⟨i, hi⟩ := List.getElem?_of_mem hr
  have hlt : i < rows.length := by
    have := (List.getElem?_eq_some_iff.mp hi).1
    rwa [unRows_len] at this
  have e := unRows_get rows is i rows[i] (List.getElem?_eq_getElem hlt)
  rw [hi] at e
  have h0 := hok rows[i] (List.getElem_mem hlt)
  cases Option.some.inj e
  split
  · exact ⟨h0.1, unTaken_ok h h0.2.1, unTaken_ok h h0.2.2⟩
  · exact h0
theorem unTaken_num {p : Pl} {n : Nat} (h : unTaken p = .num n) : p = .num n := by
  cases p with
  | num k => exact h
  | word s =>
    rw [unTaken_word] at h
    by_cases c : s = "taken"
    · rw [if_pos c] at h
      cases h
    · rw [if_neg c] at h
      cases h
theorem unTaken_taken {p : Pl} : unTaken p ≠ .word "taken" := by
  intro h
  cases p with
  | num k => cases h
  | word s =>
    rw [unTaken_word] at h
    by_cases c : s = "taken"
    · rw [if_pos c] at h
      exact absurd (Pl.word.inj h) (by decide +kernel)
    · rw [if_neg c] at h
      exact c (Pl.word.inj h)
/-- without "taken" on all that row 1 leads to, it leads to no "taken" -/
theorem unRows_body {rows : List Row} {is : List Nat} {b : Nat} (h : ∀ i, Reach rows b (.num i) → i ∈ is) : ¬ Reach (unRows rows is) b (.word "taken") := by
  have back : ∀ x, Reach (unRows rows is) b x → (∀ i, x = .num i → Reach rows b (.num i)) ∧ x ≠ .word "taken" := by
    intro x hx
    induction hx with
    | base => exact ⟨fun i e => by cases e; exact .base, fun e => by cases e⟩
    | @step i p hr f ih =>
      have hi := ih.1 i rfl
      obtain ⟨r, hr', hp⟩ := f
      have hlt : i < rows.length := by
        have := (List.getElem?_eq_some_iff.mp hr').1
        rwa [unRows_len] at this
      have e := unRows_get rows is i rows[i] (List.getElem?_eq_getElem hlt)
      rw [hr', if_pos (h i hi)] at e
      cases Option.some.inj e
      refine ⟨fun j ej => ?_, fun z => ?_⟩
      · subst ej
        refine .step hi ⟨rows[i], List.getElem?_eq_getElem hlt, ?_⟩
        rcases hp with hp | hp
        · exact .inl (unTaken_num hp.symm).symm
        · exact .inr (unTaken_num hp.symm).symm
      · subst z
        rcases hp with hp | hp
        · exact unTaken_taken hp.symm
        · exact unTaken_taken hp.symm
  intro h1
  exact (back _ h1).2 rfl
/-- a machine of a hearer as it is drawn -/
def HearerOk (rows : List Row) : Prop := 2 ≤ rows.length ∧ rows.length ≤ 100 ∧ (∀ r, r ∈ rows → r.Ok rows.length hearerWords) ∧ ¬ Reach rows 1 (.word "taken")
def SenderOk (rows : List Row) : Prop := 1 ≤ rows.length ∧ rows.length ≤ 100 ∧ ∀ r, r ∈ rows → r.Ok rows.length senderWords
theorem fault_none {hs ss : List Row} (h : HearerOk hs) (s : SenderOk ss) : endFault hs ss = none := by
  unfold endFault
  rw [mf_ok h.1 h.2.1 h.2.2.1, mf_ok s.1 s.2.1 s.2.2]
  exact if_neg h.2.2.2
end Sb

set_option Elab.async false
set_option linter.all false
set_option maxRecDepth 100000
set_option maxHeartbeats 2000000
/-! Sbo: an own class's ==, len, repr as rules. -/
namespace Sb
open PySem PySem.Spec PyProof.Rows L2
section
variable {X : Cx} {CX : CXT} {k : Nat} {C f : Addr} {fd : FuncData} {ps : List Str} {sp : Sp} {E : XK}
/-- a def runs one level below the body -/
theorem run_in1 {pins : List (Addr × Obj)} {σ : L2.St} {H : Hp} {s : Shared} {Q : VK} {us : List Value} {vs : List V} (F : FnOk X.prog X.w X.K X.mg X.base CX k f fd ps sp) (hr : Room (k + 1) X.A) (hb : Binds X.K fd ps []) (hx : Passes CX X E)
    (I : Inv X pins σ H s) (r : Vals vs us) (h : sp vs H Q E) : wpAny (model X.prog X.w) X.A.in1 (call (.ref f) us) (EP X pins σ Q) X.xe s := by
  have hl : us.length = ps.length := by
    rw [← r.length]
    exact F.len _ _ _ _ h
  have bnd := hb s us I.kIn (by rw [List.append_nil]; exact hl)
  rw [List.append_nil] at bnd
  have run := F.run X.A.in1 X.stack s H ⟨us, []⟩ us vs Q E hr.in1 I.env0.in1 bnd r h
  refine wpAny_call (codeAny_mono run fun q s' hq => ?_)
  match q, hq with
  | .error er, hq => exact hx pins σ H s er s' I hq
  | .ok (.ret u), hq => exact I.after hq
  | .ok .next, hq => exact False.elim hq
  | .ok .brk, hq => exact False.elim hq
  | .ok .cont, hq => exact False.elim hq
/-- x == y, x of an own class with its own __eq__ -/
def rEqOwn (K : PySem.W.Frag) (C : Addr) (sp : Sp) (E : XK) : R2 := fun x y H Q => ∃ (a dx : Addr) (fs : List (Str × V)) (t : Value), x = .ref a ∧ H a = some (.ins C dx fs) ∧ TyX K H y t ∧ PySem.W.notFirst K C t = true ∧
  sp [x, y] H (fun v H' => ∃ b, v = .bl b ∧ Q (.bl b) H') E
theorem op_eqOwn (M : Meth X.K C "__eq__" f) (F : FnOk X.prog X.w X.K X.mg X.base CX k f fd ps sp) (hr : Room k X.A) (hb : Binds X.K fd ps []) (hx : Passes CX X E) : OpR X (compareOp .Eq) (rEqOwn X.K C sp E) := by
  intro pins s σ H x y v u Q I rx ry h
  obtain ⟨a, dx, fs, t, rfl, ha, ty, nf, hsp⟩ := h
  have ru := ry
  obtain ⟨P, Z, p, _⟩ := kit_of I ry ty
  cases (show v = Value.ref a from rx)
  obtain ⟨mA, O, _⟩ := ins_get I.hok ha
  obtain ⟨od, J, _⟩ := O.look
  obtain ⟨m, hF⟩ := I.fr
  show wpAny (model X.prog X.w) X.A (richCompare .Eq (.ref a) u) (EP X pins σ Q) X.xe s
  refine PySem.W.cmp_K (op := .Eq) (tb := t) hr.units0 hF I.ok.mod.kin J (Z.ty _ _ I.kIn p) nf M.at_ M.fn ?_
  refine wpAny_mono (run_fn (Q := fun v H' => ∃ b, v = .bl b ∧ Q (.bl b) H') (us := [.ref a, u]) (vs := [.ref a, y]) (ds := []) (dvs := []) F hr hb .nil hx I (.cons rfl (.cons ru .nil)) (by rw [List.append_nil]; exact hsp)) (fun w s' z => ?_) fun _ _ q => q
  obtain ⟨v', H', I', rv, b, eb, q⟩ := z
  subst eb
  cases (show w = Value.bool b from rv)
  exact ⟨.bl b, H', I', rfl, q⟩
/-- len(x) by an own __len__ -/
def rLenOwn (C : Addr) (sp : Sp) (E : XK) : List V → Hp → VK → Prop := fun xs H Q => ∃ (a dx : Addr) (fs : List (Str × V)), xs = [.ref a] ∧ H a = some (.ins C dx fs) ∧ sp [.ref a] H (fun v H' => ∃ n : Int, v = .int n ∧ 0 ≤ n ∧ n < 2 ^ 63 ∧ Q (.int n) H') E
theorem call_lenOwn (M : Meth X.K C "__len__" f) (F : FnOk X.prog X.w X.K X.mg X.base CX k f fd ps sp) (hr : Room (k + 1) X.A) (hb : Binds X.K fd ps []) (hx : Passes CX X E) : CallR X (.builtin "len") (rLenOwn C sp E) := by
  intro pins s σ H xs us Q I r h
  obtain ⟨a, dx, fs, rfl, ha, hsp⟩ := h
  obtain ⟨u, rfl, rx⟩ := vals1 r
  cases (show u = Value.ref a from rx)
  obtain ⟨mA, O, _⟩ := ins_get I.hok ha
  obtain ⟨od, J, _⟩ := O.look
  obtain ⟨m, hF⟩ := I.fr
  refine PySem.W.len_K hF I.ok.mod.kin J M.at_ M.fn (wpAny_mono (run_in1 (us := [.ref a]) (vs := [.ref a]) F hr hb hx I (.cons rfl .nil) hsp) (fun w s' z => ?_) fun _ _ q => q)
  obtain ⟨v', H', I', rv, n, en, h0, h1, q⟩ := z
  subst en
  obtain ⟨tk, e⟩ := (show ∃ t, w = Value.int n t from rv)
  subst e
  exact ⟨⟨h0, h1⟩, .int n, H', I'.tok _, ⟨_, rfl⟩, q⟩
/-- repr(x) by an own __repr__ -/
def rReprOwn (C : Addr) (sp : Sp) (E : XK) : List V → Hp → VK → Prop := fun xs H Q => ∃ (a dx : Addr) (fs : List (Str × V)), xs = [.ref a] ∧ H a = some (.ins C dx fs) ∧ sp [.ref a] H (fun v H' => ∃ z : Str, v = .str z ∧ Q (.str z) H') E
theorem call_reprOwn (M : Meth X.K C "__repr__" f) (F : FnOk X.prog X.w X.K X.mg X.base CX k f fd ps sp) (hr : Room (k + 1) X.A) (hb : Binds X.K fd ps []) (hx : Passes CX X E) : CallR X (.builtin "repr") (rReprOwn C sp E) := by
  intro pins s σ H xs us Q I r h
  obtain ⟨a, dx, fs, rfl, ha, hsp⟩ := h
  obtain ⟨u, rfl, rx⟩ := vals1 r
  cases (show u = Value.ref a from rx)
  obtain ⟨mA, O, _⟩ := ins_get I.hok ha
  obtain ⟨od, J, _⟩ := O.look
  obtain ⟨m, hF⟩ := I.fr
  refine PySem.W.repr_K hr.in1.units0 hF I.ok.mod.kin J M.at_ M.fn (wpAny_mono (run_in1 (us := [.ref a]) (vs := [.ref a]) F hr hb hx I (.cons rfl .nil) hsp) (fun w s' z => ?_) fun _ _ q => q)
  obtain ⟨v', H', I', rv, y, ey, q⟩ := z
  subst ey
  obtain ⟨tk, e⟩ := (show ∃ t, w = Value.str y t from rv)
  subst e
  exact ⟨.str y, H', I', ⟨_, rfl⟩, q⟩
end
/-- a built-in class is not asked first -/
theorem not_first {K : PySem.W.Frag} {C : Addr} {n : String} {l : List Value} (e : fastBuiltinMro n = some l) (h : l.contains (.ref C) = false) : PySem.W.notFirst K C (.type n) = true := by
  have e1 : PySem.W.subIn K (.type n) (.ref C) = some false := by
    show (fastBuiltinMro n).map (·.contains (.ref C)) = some false
    rw [e]
    simpa using h
  unfold PySem.W.notFirst
  rw [e1]
  simp
theorem first_self {K : PySem.W.Frag} {C : Addr} : PySem.W.notFirst K C (.ref C) = true := by simp [PySem.W.notFirst]
end Sb

set_option Elab.async false
set_option linter.all false
set_option maxHeartbeats 2000000
/-! Sbw: ways without a row twice, from row 1. -/
namespace Sb
open PySem L2
/-- a way from row 1 on which no row comes twice -/
inductive Way (rows : List Row) : List Nat → Prop where
  | one : Way rows [1]
  | more {p : List Nat} {i j : Nat} (w : Way rows (p ++ [i])) (f : Fol rows i (.num j)) (n : j ∉ p ++ [i]) : Way rows (p ++ [i] ++ [j])
theorem Way.last {rows : List Row} {q : List Nat} (w : Way rows q) : ∃ p i, q = p ++ [i] := by
  cases w with
  | one => exact ⟨[], 1, rfl⟩
  | more w f n => exact ⟨_, _, rfl⟩
theorem snoc_inj {p q : List Nat} {i j : Nat} (h : p ++ [i] = q ++ [j]) : p = q ∧ i = j := by
  have := List.append_inj' h rfl
  exact ⟨this.1, by simpa using this.2⟩
theorem Way.reach {rows : List Row} {q : List Nat} (w : Way rows q) : ∀ p i, q = p ++ [i] → Reach rows 1 (.num i) := by
  induction w with
  | one =>
    intro p i h
    obtain ⟨rfl, rfl⟩ := snoc_inj (p := []) (i := 1) (q := p) (j := i) h
    exact .base
  | more w f n ih =>
    intro p i h
    obtain ⟨rfl, rfl⟩ := snoc_inj h
    exact .step (ih _ _ rfl) f
theorem Way.nodup {rows : List Row} {q : List Nat} (w : Way rows q) : q.Nodup := by
  induction w with
  | one => simp
  | more w f n ih =>
    rw [List.nodup_append]
    refine ⟨ih, by simp, fun x hx y hy => ?_⟩
    simp at hy
    subst hy
    rintro rfl
    exact n hx
theorem Way.pos {rows : List Row} {q : List Nat} (w : Way rows q) : 1 ≤ q.length := by
  obtain ⟨p, i, rfl⟩ := w.last
  simp
theorem Way.small {rows : List Row} {q : List Nat} {n : Nat} (hn : 1 < n) (hf : ∀ i j, Fol rows i (.num j) → j < n) (w : Way rows q) : ∀ x, x ∈ q → x < n := by
  induction w with
  | one =>
    intro x hx
    simp at hx
    omega
  | more w f n' ih =>
    intro x hx
    rcases List.mem_append.mp hx with z | z
    · exact ih x z
    · simp at z
      subst z
      exact hf _ _ f
/-- a way to each row on a way -/
theorem Way.cut {rows : List Row} {q : List Nat} (w : Way rows q) : ∀ x, x ∈ q → ∃ p, Way rows (p ++ [x]) := by
  induction w with
  | one =>
    intro x hx
    simp at hx
    subst hx
    exact ⟨[], .one⟩
  | more w f n ih =>
    intro x hx
    rcases List.mem_append.mp hx with z | z
    · exact ih x z
    · simp at z
      subst z
      exact ⟨_, .more w f n⟩
theorem Way.of_reach {rows : List Row} {x : Pl} (h : Reach rows 1 x) : ∀ i, x = .num i → ∃ p, Way rows (p ++ [i]) := by
  induction h with
  | base =>
    intro i e
    cases e
    exact ⟨[], .one⟩
  | @step k p h f ih =>
    intro i e
    subst e
    obtain ⟨p, w⟩ := ih k rfl
    by_cases c : i ∈ p ++ [k]
    · exact w.cut i c
    · exact ⟨_, .more w f c⟩
/-- a word behind some way -/
def Told (rows : List Row) (k : Nat) (z : Str) : Prop := ∃ p i, Way rows (p ++ [i]) ∧ (p ++ [i]).length ≤ k ∧ Fol rows i (.word z)
theorem told_iff {rows : List Row} {n : Nat} (hn : 1 < n) (hf : ∀ i j, Fol rows i (.num j) → j < n) (z : Str) : Told rows n z ↔ Reach rows 1 (.word z) := by
  refine ⟨fun ⟨p, i, w, _, f⟩ => .step (w.reach _ _ rfl) f, fun h => ?_⟩
  generalize e : Pl.word z = x at h
  cases h with
  | base => cases e
  | @step i _ h f =>
    subst e
    obtain ⟨p, w⟩ := Way.of_reach h i rfl
    exact ⟨p, i, w, nodup_len w.nodup (w.small hn hf), f⟩
/-- the ways of k + 1 rows from those of k: by the followers of the last -/
theorem way_step {rows : List Row} {q : List Nat} {k : Nat} (hk : 1 ≤ k) : Way rows q ∧ q.length = k + 1 ↔ ∃ p i j, Way rows (p ++ [i]) ∧ (p ++ [i]).length = k ∧ Fol rows i (.num j) ∧ j ∉ p ++ [i] ∧ q = p ++ [i] ++ [j] := by
  constructor
  · rintro ⟨w, hl⟩
    cases w with
    | one =>
      simp at hl
      omega
    | @more p i j w f n => exact ⟨p, i, j, w, by simp at hl ⊢; omega, f, n, rfl⟩
  · rintro ⟨p, i, j, w, hl, f, n, rfl⟩
    exact ⟨.more w f n, by simp at hl ⊢; omega⟩
/-- a way as Python's data -/
def wayD (q : List Nat) : PyData := .tuple (q.map fun (n : Nat) => PyData.int (n : Int))
theorem ints_lay : ∀ q : List Nat, PyData.canLayAll0 (q.map fun (n : Nat) => PyData.int (n : Int)) = true
  | [] => by simp [PyData.canLayAll0]
  | z :: zs => by simp [PyData.canLayAll0, PyData.canLay0, ints_lay zs]
theorem ints_depth : ∀ q : List Nat, PyData.depthAll (q.map fun (n : Nat) => PyData.int (n : Int)) = 0
  | [] => by simp [PyData.depthAll]
  | z :: zs => by simp [PyData.depthAll, PyData.depth, ints_depth zs]
theorem wayD_shaped (q : List Nat) : SeqAt.shaped (wayD q) = true := by
  show ((wayD q).canLay0 && decide ((wayD q).depth ≤ 64)) = true
  rw [Bool.and_eq_true]
  exact ⟨by simp [wayD, PyData.canLay0, ints_lay], decide_eq_true (by simp [wayD, PyData.depth, ints_depth])⟩
theorem ways_lay : ∀ qs : List (List Nat), PyData.canLayAll0 (qs.map wayD) = true
  | [] => by simp [PyData.canLayAll0]
  | z :: zs => by simp [PyData.canLayAll0, wayD, PyData.canLay0, ints_lay]; exact ways_lay zs
theorem ways_depth : ∀ qs : List (List Nat), PyData.depthAll (qs.map wayD) ≤ 1
  | [] => by simp [PyData.depthAll]
  | z :: zs => by
    have := ways_depth zs
    simp [PyData.depthAll, wayD, PyData.depth, ints_depth] at this ⊢
    omega
theorem ways_shaped (qs : List (List Nat)) : SeqAt.shaped (.list (qs.map wayD)) = true := by
  have h1 := ways_depth qs
  show (PyData.canLay0 (.list (qs.map wayD)) && decide (PyData.depth (.list (qs.map wayD)) ≤ 64)) = true
  rw [Bool.and_eq_true]
  exact ⟨by simp only [PyData.canLay0]; exact ways_lay qs, decide_eq_true (by simp only [PyData.depth]; omega)⟩
theorem wayD_eqv : ∀ p q : List Nat, PyData.eqv (wayD p) (wayD q) = decide (p = q)
  | [], [] => by simp [wayD, PyData.eqv, PyData.eqvAll]
  | [], y :: q => by simp [wayD, PyData.eqv, PyData.eqvAll]
  | x :: p, [] => by simp [wayD, PyData.eqv, PyData.eqvAll]
  | x :: p, y :: q => by
    have ih := wayD_eqv p q
    simp only [wayD, PyData.eqv] at ih
    simp only [wayD, PyData.eqv, List.map_cons, PyData.eqvAll, ih]
    by_cases h : x = y
    · subst h
      simp
    · have e : ((x : Int) == (y : Int)) = false := beq_eq_false_iff_ne.mpr (by omega)
      rw [e]
      simp [h]
end Sb

set_option Elab.async false
set_option linter.all false
set_option maxHeartbeats 2000000
/-! Sbn: lists of numbers as values; the rows that a row leads to, in the order in which they are met. -/
namespace Sb
open PySem L2
/-- numbers as values -/
def natsV (q : List Nat) : List V := q.map fun (n : Nat) => V.int (n : Int)
theorem natsV_len (q : List Nat) : (natsV q).length = q.length := by unfold natsV; rw [List.length_map]
theorem natsV_get {q : List Nat} {i n : Nat} (h : q[i]? = some n) : (natsV q)[i]? = some (V.int (n : Int)) := by
  unfold natsV
  rw [List.getElem?_map, h]
  rfl
theorem natsV_snoc (q : List Nat) (n : Nat) : natsV q ++ [V.int (n : Int)] = natsV (q ++ [n]) := by unfold natsV; simp
theorem inV_nat {j : Nat} : ∀ q : List Nat, inV (.int (j : Int)) (natsV q) = decide (j ∈ q)
  | [] => by simp [inV, natsV]
  | n :: q => by
    have ih := inV_nat (j := j) q
    unfold inV natsV at ih ⊢
    rw [List.map_cons, List.any_cons, ih]
    show (((n : Int) == (j : Int)) || decide (j ∈ q)) = decide (j ∈ n :: q)
    by_cases h : n = j
    · subst h
      simp
    · have h1 : ((n : Int) == (j : Int)) = false := beq_eq_false_iff_ne.mpr (by omega)
      have h2 : ¬ j = n := fun e => h e.symm
      rw [h1, Bool.false_or]
      simp [h2]
theorem flat_nats : ∀ q : List Nat, (natsV q).all flatV = true
  | [] => rfl
  | _ :: q => flat_nats q
theorem noTup {H : Hp} {a : Addr} {xs : List V} (h : H a = some (.lst xs)) (zs : List V) : H a ≠ some (.tup zs) := fun z => by
  rw [h] at z
  cases Option.some.inj z
/-- the rows met so far, the first t of them looked at -/
structure LInv (rows : List Row) (b : Nat) (fs : List Nat) (t : Nat) : Prop where
  nd : fs.Nodup
  sound : ∀ i, i ∈ fs → Reach rows b (.num i)
  start : b ∈ fs
  small : ∀ i, i ∈ fs → i < rows.length
  closed : ∀ c i, c < t → fs[c]? = some i → ∀ j, Fol rows i (.num j) → j ∈ fs
theorem LInv.begin {rows : List Row} {b : Nat} (h : b < rows.length) : LInv rows b [b] 0 :=
  ⟨by simp, fun i hi => by simp at hi; subst hi; exact .base, by simp, fun i hi => by simp at hi; omega, fun c i hc => by omega⟩
theorem LInv.add {rows : List Row} {b t i j : Nat} {fs : List Nat} (h : LInv rows b fs t) (hi : i ∈ fs) (f : Fol rows i (.num j)) (hj : j ∉ fs) (hs : j < rows.length) (ht : t ≤ fs.length) : LInv rows b (fs ++ [j]) t := by
  refine ⟨?_, fun x hx => ?_, by simp [h.start], fun x hx => ?_, fun c i' hc hi' k hk => ?_⟩
  · rw [List.nodup_append]
    refine ⟨h.nd, by simp, fun x hx y hy => ?_⟩
    simp at hy
    subst hy
    rintro rfl
    exact hj hx
  · rcases List.mem_append.mp hx with z | z
    · exact h.sound x z
    · simp at z
      subst z
      exact .step (h.sound i hi) f
  · rcases List.mem_append.mp hx with z | z
    · exact h.small x z
    · simp at z
      omega
  · rw [List.getElem?_append_left (by omega)] at hi'
    exact List.mem_append_left _ (h.closed c i' hc hi' k hk)
theorem LInv.next {rows : List Row} {b t i : Nat} {fs : List Nat} (h : LInv rows b fs t) (hi : fs[t]? = some i) (hc : ∀ j, Fol rows i (.num j) → j ∈ fs) : LInv rows b fs (t + 1) :=
  ⟨h.nd, h.sound, h.start, h.small, fun c i' hc' hi' j hj => by
    by_cases e : c = t
    · subst e
      rw [hi] at hi'
      cases hi'
      exact hc j hj
    · exact h.closed c i' (by omega) hi' j hj⟩
theorem LInv.all {rows : List Row} {b : Nat} {fs : List Nat} {t : Nat} (h : LInv rows b fs t) (ht : fs.length ≤ t) (i : Nat) : i ∈ fs ↔ Reach rows b (.num i) := by
  refine ⟨h.sound i, fun hr => ?_⟩
  generalize e : Pl.num i = x at hr
  induction hr generalizing i with
  | base =>
    cases e
    exact h.start
  | @step k p hk f ih =>
    subst e
    have hm := ih k rfl
    obtain ⟨c, hc⟩ := List.getElem?_of_mem hm
    exact h.closed c k (by have := (List.getElem?_eq_some_iff.mp hc).1; omega) hc i f
end Sb

set_option Elab.async false
set_option linter.all false
set_option maxRecDepth 100000
set_option maxHeartbeats 2000000
/-! Sbs: what an end shows; properties of ends; a loop over a list or a tuple. -/
namespace Sb
open PySem PySem.Spec PyProof.Rows L2
theorem pi_or {X : Cx} {tg l : Expr} {w1 w2 : TI} (h1 : PI X tg l w1) (h2 : PI X tg l w2) : PI X tg l (fun σ H R => w1 σ H R ∨ w2 σ H R) :=
  ⟨fun pins s σ H R I h => h.elim (fun z => h1.run pins s σ H R I z) (fun z => h2.run pins s σ H R I z)⟩
theorem passNo {X : Cx} : Passes (L2.CX X.prog X.w) X E0 := fun _ _ _ _ _ _ _ c => by
  obtain ⟨_, _, _, _, _, _, _, _, _, _, _, _, z⟩ := c
  exact z.elim
/-- a class with its __init__, made -/
structure Mx (P : Program) (w : World) (K : PySem.W.Frag) (mg : Str → Option Value) (base : Heap) (CX : CXT) (k : Nat) (x : Str) (D f : Addr) (fd : FuncData) (ps : List Str) (sp : Sp) : Prop where
  mkC : Mk K D f
  ok : FnOk P w K mg base CX k f fd ps sp
  mg : mg x = some (.ref D)
  bd : Binds K fd ps []
theorem dget_of {H : Hp} {p : Addr} {kvs : List (Key × V)} {k : Key} {v : V} (e : H p = some (.dK kvs)) (l : valV kvs k = some v) : DGet H p (kV k) (some v) := by
  rw [← l]
  exact DGet.k e
/-- f(k = v, ..) -/
theorem pe_callKo {X : Cx} {CX : CXT} {k : Nat} {f : Addr} {fd : FuncData} {ps ks : List Str} {sp : Sp} {E : XK} {x : Str} {p pos : Pos} {kws : List Keyword} {tk : TA} {g : List Value → List Value → List Value} {gV : List V → List V → List V}
    (F : FnOk X.prog X.w X.K X.mg X.base CX k f fd ps sp) (hr : Room k X.A) (gl : Gl X x) (at_ : X.mg x = some (.ref f)) (kp : PySem.W.keepIn X.K (.ref f) = true) (kb : KBinds X.K fd ps ks g gV) (hx : Passes CX X E) (hkw : PK X kws tk)
    (all1 : (backToKw pos (keywordEach kws X.env)).all (·.1.isSome) = true := by rfl) (names : (backToKw pos (keywordEach kws X.env)).filterMap (·.1) = ks := by rfl) (nd : (x == ("__debug__" : Str)) = false := by decide)
    (pl : ((backTo pos (starEach [] X.env)).any (·.1) || (backToKw pos (keywordEach kws X.env)).any (·.1.isNone)) = false := by rfl) : PE X (.Call (.Name x p) [] kws pos) (tCallK sp gV E tNil tk) := by
  refine ⟨fun pins s σ H Q I h => wpAny_Call_Name_kw (ld_glob I gl at_ ?_ nd)⟩
  refine PySem.W.callWith_KW0 (h₀ := X.base) I.ok.mod.kin kp all1 (thn (hkw.run pos pins s σ H _ I h) fun ws s2 ⟨zs, H2, I2, rz, q2⟩ => ⟨I2.kIn, ?_⟩) pl
  rw [names]
  exact run_fnk (us := []) (vs := []) F hr kb hx I2 .nil rz q2
/-- three keywords, turned round -/
def turn3 {α : Type} : List α → List α → List α
  | [], [a, b, c] => [c, b, a]
  | _, _ => []
/-- a property of a class that hands one attribute out -/
structure Px (P : Program) (w : World) (K : PySem.W.Frag) (mg : Str → Option Value) (base : Heap) (C p g : Addr) (fd : FuncData) (f at_ : Str) : Prop where
  pof : PropOf K C f p g
  ok : FnOk P w K mg base CX0 1 g fd ["self"] (getSp C at_)
  bd : Binds K fd ["self"] []
/-- the machine of a start and its row -/
def beginOf (hs ss : List Row) (st : Str) : List Row × Nat := if st = "sender" then (ss, 0) else if st = "wrong" then (hs, 1) else (hs, 0)
def isStart (st : Str) : Prop := st = "right" ∨ st = "wrong" ∨ st = "sender"
/-- one bit on -/
def stepPl (rs : List Row) (p : Pl) (b : Nat) : Pl := match p with
  | .num i => match rs[i]? with
    | some r => if b = 0 then r.a else r.b
    | none => .num i
  | .word s => .word s
def walkPl (rs : List Row) (p : Pl) (bs : List Nat) : Pl := bs.foldl (stepPl rs) p
def putOf (rs : List Row) (i : Nat) : Nat := (rs[i]?.map Row.put).getD 0
/-- what is shown at a place -/
def seenVs (rs : List Row) : Pl → List V
  | .num i => [.str "put", .int (putOf rs i : Int)]
  | .word s => [.str "word", .str s]
def seenD (rs : List Row) : Pl → PyData
  | .num i => .tuple [.str "put", .int (putOf rs i : Int)]
  | .word s => .tuple [.str "word", .str s]
theorem walk_word (rs : List Row) (s : Str) : ∀ bs : List Nat, walkPl rs (.word s) bs = .word s
  | [] => rfl
  | b :: r => walk_word rs s r
theorem walk_snoc (rs : List Row) (p : Pl) (bs : List Nat) (b : Nat) : walkPl rs p (bs ++ [b]) = stepPl rs (walkPl rs p bs) b := by
  unfold walkPl
  rw [List.foldl_append]
  rfl
theorem step_ok {rs : List Row} {ws : List Str} (h : ∀ r, r ∈ rs → r.Ok rs.length ws) {p : Pl} (b : Nat) (hp : p.Ok rs.length ws) : (stepPl rs p b).Ok rs.length ws := by
  cases p with
  | word s => exact hp
  | num i =>
    have hi : i < rs.length := hp
    have e : stepPl rs (.num i) b = if b = 0 then rs[i].a else rs[i].b := by
      show (match rs[i]? with | some r => if b = 0 then r.a else r.b | none => Pl.num i) = _
      rw [List.getElem?_eq_getElem hi]
    have hr := h rs[i] (List.getElem_mem hi)
    rw [e]
    by_cases c : b = 0
    · rw [if_pos c]
      exact hr.2.1
    · rw [if_neg c]
      exact hr.2.2
theorem walk_ok {rs : List Row} {ws : List Str} (h : ∀ r, r ∈ rs → r.Ok rs.length ws) : ∀ (bs : List Nat) {p : Pl}, p.Ok rs.length ws → (walkPl rs p bs).Ok rs.length ws
  | [], _, hp => hp
  | b :: r, _, hp => walk_ok h r (step_ok h b hp)
/-- a word of a machine -/
def isWords (ws : List Str) : Prop := ws = hearerWords ∨ ws = senderWords
/-- a value that can be told and compared -/
def fineD (d : PyData) : Prop := d.showable = true ∧ SeqAt.shaped d = true ∧ d.shown.length ≤ sizeLine
/-- what is shown can be told -/
theorem seen_fine {rs : List Row} {ws : List Str} (hw : isWords ws) (h : ∀ r, r ∈ rs → r.Ok rs.length ws) {p : Pl} (hp : p.Ok rs.length ws) : fineD (seenD rs p) := by
  cases p with
  | num i =>
    have hi : i < rs.length := hp
    have e : putOf rs i = 0 ∨ putOf rs i = 1 := by
      unfold putOf
      rw [List.getElem?_eq_getElem hi]
      exact (h rs[i] (List.getElem_mem hi)).1
    show fineD (.tuple [.str "put", .int (putOf rs i : Int)])
    rcases e with e | e <;> (rw [e]; exact ⟨by decide +kernel, by decide +kernel, by decide +kernel⟩)
  | word z =>
    have hz : z ∈ ws := hp
    have key : ∀ y : Str, y = "taken" ∨ y = "lost" ∨ y = "done" ∨ y = "again" → fineD (.tuple [.str "word", .str y]) := by
      rintro y (rfl | rfl | rfl | rfl) <;> exact ⟨by decide +kernel, by decide +kernel, by decide +kernel⟩
    refine key z ?_
    rcases hw with rfl | rfl <;> (simp only [hearerWords, senderWords, List.mem_cons, List.not_mem_nil, or_false] at hz; rcases hz with rfl | rfl <;> simp)
theorem seen_dp {K : PySem.W.Frag} {H : Hp} {t : Addr} {rs : List Row} {p : Pl} (h : H t = some (.tup (seenVs rs p))) : Dp K H (.ref t) (seenD rs p) := by
  cases p with
  | num i => exact .tup (SqT.of h) (.cons (.str _) (.cons (.int _) .nil))
  | word z => exact .tup (SqT.of h) (.cons (.str _) (.cons (.str _) .nil))
theorem walk_more {rs : List Row} {p : Pl} {bs : List Nat} {z : Str} (h : walkPl rs p bs = .word z) (l : List Nat) : walkPl rs p (bs ++ l) = .word z := by
  unfold walkPl at h ⊢
  rw [List.foldl_append, h]
  exact walk_word rs z _
theorem natsV_app (q r : List Nat) : natsV q ++ natsV r = natsV (q ++ r) := by unfold natsV; rw [List.map_append]
theorem natsV_ne {q : List Nat} (h : q ≠ []) : natsV q ≠ [] := by
  cases q with
  | nil => exact absurd rfl h
  | cons a b => simp [natsV]
theorem walk_stays {rs : List Row} {p : Pl} {bs : List Nat} {i : Nat} {z : Str} (h : walkPl rs p (bs.take i) = .word z) : walkPl rs p bs = .word z := by
  have e : walkPl rs p (bs.take i ++ bs.drop i) = .word z := by
    unfold walkPl at h ⊢
    rw [List.foldl_append, h]
    exact walk_word rs z _
  rwa [List.take_append_drop] at e
end Sb

set_option Elab.async false
set_option linter.all false
set_option maxRecDepth 100000
set_option maxHeartbeats 2000000
/-! Sbd: rows as Python's data. -/
namespace Sb
open PySem PySem.Spec PyProof.Rows L2
def plD : Pl → PyData
  | .num n => .int (n : Int)
  | .word s => .str s
def rowD (r : Row) : PyData := .tuple [.int (r.put : Int), plD r.a, plD r.b]
def rowsD (rs : List Row) : List PyData := rs.map rowD
theorem plD_eqv (p q : Pl) : PyData.eqv (plD p) (plD q) = decide (p = q) := by
  cases p <;> cases q <;> simp [plD, PyData.eqv] <;> (rw [Bool.eq_iff_iff]; simp) <;> omega
theorem rowD_eqv (r q : Row) : PyData.eqv (rowD r) (rowD q) = decide (r = q) := by
  obtain ⟨p1, a1, b1⟩ := r
  obtain ⟨p2, a2, b2⟩ := q
  simp only [rowD, PyData.eqv, PyData.eqvAll, plD_eqv, Bool.and_true]
  rw [Bool.eq_iff_iff]
  simp
  intro _ _
  omega
theorem rowsD_eqv : ∀ rs qs : List Row, PyData.eqvAll (rowsD rs) (rowsD qs) = decide (rs = qs)
  | [], [] => by simp [rowsD, PyData.eqvAll]
  | [], q :: qs => by simp [rowsD, PyData.eqvAll]
  | r :: rs, [] => by simp [rowsD, PyData.eqvAll]
  | r :: rs, q :: qs => by
    have ih := rowsD_eqv rs qs
    unfold rowsD at ih ⊢
    rw [List.map_cons, List.map_cons]
    simp only [PyData.eqvAll, rowD_eqv, ih]
    rw [Bool.eq_iff_iff]
    simp
/-- a word that the machines know -/
def okWord (s : Str) : Prop := s ∈ hearerWords ∨ s ∈ senderWords
def okPl : Pl → Prop
  | .num _ => True
  | .word s => okWord s
def okRow (r : Row) : Prop := okPl r.a ∧ okPl r.b
theorem okPl_of {many : Nat} {ws : List Str} (hw : isWords ws) {p : Pl} (h : p.Ok many ws) : okPl p := by
  cases p with
  | num n => exact True.intro
  | word s =>
    rcases hw with rfl | rfl
    · exact .inl h
    · exact .inr h
theorem okRow_of {many : Nat} {ws : List Str} (hw : isWords ws) {r : Row} (h : r.Ok many ws) : okRow r := ⟨okPl_of hw h.2.1, okPl_of hw h.2.2⟩
theorem okWord_cases {s : Str} (h : okWord s) : s = "taken" ∨ s = "lost" ∨ s = "done" ∨ s = "again" := by
  rcases h with h | h <;> (simp only [hearerWords, senderWords, List.mem_cons, List.not_mem_nil, or_false] at h; rcases h with rfl | rfl <;> simp)
theorem plD_lay {p : Pl} (h : okPl p) : (plD p).canLay0 = true ∧ (plD p).depth = 0 := by
  cases p with
  | num n => exact ⟨by simp [plD, PyData.canLay0], by simp [plD, PyData.depth]⟩
  | word s =>
    rcases okWord_cases h with rfl | rfl | rfl | rfl <;> exact ⟨by decide +kernel, by simp [plD, PyData.depth]⟩
theorem rowD_lay {r : Row} (h : okRow r) : (rowD r).canLay0 = true ∧ (rowD r).depth ≤ 1 := by
  obtain ⟨a1, a2⟩ := plD_lay h.1
  obtain ⟨b1, b2⟩ := plD_lay h.2
  refine ⟨by simp [rowD, PyData.canLay0, PyData.canLayAll0, a1, b1], by simp [rowD, PyData.depth, PyData.depthAll, a2, b2]⟩
theorem rowsD_lay : ∀ {rs : List Row}, (∀ r, r ∈ rs → okRow r) → PyData.canLayAll0 (rowsD rs) = true ∧ PyData.depthAll (rowsD rs) ≤ 1
  | [], _ => ⟨by simp [rowsD, PyData.canLayAll0], by simp [rowsD, PyData.depthAll]⟩
  | r :: rs, h => by
    obtain ⟨a1, a2⟩ := rowD_lay (h r (by simp))
    obtain ⟨b1, b2⟩ := rowsD_lay (rs := rs) fun q hq => h q (by simp [hq])
    unfold rowsD at b1 b2 ⊢
    rw [List.map_cons]
    refine ⟨by simp [PyData.canLayAll0, a1, b1], by simp only [PyData.depthAll]; omega⟩
theorem shaped_tup {ds : List PyData} {n : Nat} (h : PyData.canLayAll0 ds = true ∧ PyData.depthAll ds ≤ n) (hn : n ≤ 60) : SeqAt.shaped (.tuple ds) = true := by
  show ((PyData.tuple ds).canLay0 && decide ((PyData.tuple ds).depth ≤ 64)) = true
  rw [Bool.and_eq_true]
  exact ⟨by simp [PyData.canLay0, h.1], decide_eq_true (by have := h.2; simp only [PyData.depth]; omega)⟩
theorem shaped_lst {ds : List PyData} {n : Nat} (h : PyData.canLayAll0 ds = true ∧ PyData.depthAll ds ≤ n) (hn : n ≤ 60) : SeqAt.shaped (.list ds) = true := by
  show ((PyData.list ds).canLay0 && decide ((PyData.list ds).depth ≤ 64)) = true
  rw [Bool.and_eq_true]
  exact ⟨by simp [PyData.canLay0, h.1], decide_eq_true (by have := h.2; simp only [PyData.depth]; omega)⟩
theorem plD_dp {K : PySem.W.Frag} {H : Hp} : ∀ p : Pl, Dp K H p.v (plD p)
  | .num n => .int _
  | .word s => .str s
theorem rowD_dp {K : PySem.W.Frag} {H : Hp} {v : V} {r : Row} (h : RowAt H v r) : Dp K H v (rowD r) := by
  obtain ⟨a, rfl, e⟩ := h
  exact .tup (SqT.of e) (.cons (.int _) (.cons (plD_dp _) (.cons (plD_dp _) .nil)))
theorem rowsD_dp {K : PySem.W.Frag} {H : Hp} : ∀ {vs : List V} {rs : List Row}, RowsV H vs rs → DpAll K H vs (rowsD rs)
  | _, _, .nil => .nil
  | _, _, .cons h t => .cons (rowD_dp h) (rowsD_dp t)
theorem tupD_dp {K : PySem.W.Frag} {H : Hp} {t : Addr} {vs : List V} {rs : List Row} (e : H t = some (.tup vs)) (h : RowsV H vs rs) : Dp K H (.ref t) (.tuple (rowsD rs)) := .tup (SqT.of e) (rowsD_dp h)
mutual
theorem dp_stay {K : PySem.W.Frag} {H H' : Hp} (s : Same H H') : ∀ {v : V} {d : PyData}, Dp K H v d → Dp K H' v d
  | _, _, .non => .non
  | _, _, .bl b => .bl b
  | _, _, .int i => .int i
  | _, _, .str x => .str x
  | _, _, .lst a h => .lst (s.seq a) (dps_stay s h)
  | _, _, .tup a h => .tup (sqT_same s a) (dps_stay s h)
theorem dps_stay {K : PySem.W.Frag} {H H' : Hp} (s : Same H H') : ∀ {vs : List V} {ds : List PyData}, DpAll K H vs ds → DpAll K H' vs ds
  | _, _, .nil => .nil
  | _, _, .cons h t => .cons (dp_stay s h) (dps_stay s t)
end
end Sb

set_option Elab.async false
set_option linter.all false
set_option maxRecDepth 100000
set_option maxHeartbeats 2000000
/-! Sbp: in of an own class, in of a tuple of data, any of a list of truths. -/
namespace Sb
open PySem PySem.Spec PySem.Calls PyProof.Rows L2
section
variable {X : Cx} {CX : CXT} {k : Nat} {C f : Addr} {fd : FuncData} {ps : List Str} {sp : Sp} {E : XK}
/-- y in x, x of an own class with its own __contains__ -/
def rInOwn (neg : Bool) (C : Addr) (sp : Sp) (E : XK) : R2 := fun y x H Q => ∃ (a dx : Addr) (fs : List (Str × V)), x = .ref a ∧ H a = some (.ins C dx fs) ∧ sp [x, y] H (fun v H' => ∃ b, v = .bl b ∧ Q (.bl (if neg then !b else b)) H') E
theorem op_inOwn (M : Meth X.K C "__contains__" f) (F : FnOk X.prog X.w X.K X.mg X.base CX k f fd ps sp) (hr : Room k X.A) (hb : Binds X.K fd ps []) (hx : Passes CX X E) : OpR X (compareOp .In) (rInOwn false C sp E) := by
  intro pins s σ H y x u v Q I ry rx h
  obtain ⟨a, dx, fs, rfl, ha, hsp⟩ := h
  have ru := ry
  cases (show v = Value.ref a from rx)
  obtain ⟨mA, O, _⟩ := ins_get I.hok ha
  obtain ⟨od, J, _⟩ := O.look
  obtain ⟨m, hF⟩ := I.fr
  refine PySem.W.in_K hF I.ok.mod.kin J M.at_ M.fn ?_
  refine wpAny_mono (run_fn (Q := fun v H' => ∃ b, v = .bl b ∧ Q (.bl (if false then !b else b)) H') (us := [.ref a, u]) (vs := [.ref a, y]) (ds := []) (dvs := []) F hr hb .nil hx I (.cons rfl (.cons ru .nil)) (by rw [List.append_nil]; exact hsp)) (fun w s' z => ?_) fun _ _ q => q
  obtain ⟨v', H', I', rv, b, eb, q⟩ := z
  subst eb
  cases (show w = Value.bool b from rv)
  exact wpAny_pure ⟨.bl b, H', I', rfl, q⟩
theorem op_notInOwn (M : Meth X.K C "__contains__" f) (F : FnOk X.prog X.w X.K X.mg X.base CX k f fd ps sp) (hr : Room k X.A) (hb : Binds X.K fd ps []) (hx : Passes CX X E) : OpR X (compareOp .NotIn) (rInOwn true C sp E) := by
  intro pins s σ H y x u v Q I ry rx h
  obtain ⟨a, dx, fs, rfl, ha, hsp⟩ := h
  have ru := ry
  cases (show v = Value.ref a from rx)
  obtain ⟨mA, O, _⟩ := ins_get I.hok ha
  obtain ⟨od, J, _⟩ := O.look
  obtain ⟨m, hF⟩ := I.fr
  refine PySem.W.notIn_K hF I.ok.mod.kin J M.at_ M.fn ?_
  refine wpAny_mono (run_fn (Q := fun v H' => ∃ b, v = .bl b ∧ Q (.bl (if true then !b else b)) H') (us := [.ref a, u]) (vs := [.ref a, y]) (ds := []) (dvs := []) F hr hb .nil hx I (.cons rfl (.cons ru .nil)) (by rw [List.append_nil]; exact hsp)) (fun w s' z => ?_) fun _ _ q => q
  obtain ⟨v', H', I', rv, b, eb, q⟩ := z
  subst eb
  cases (show w = Value.bool b from rv)
  exact wpAny_pure ⟨.bl (!b), H', I', rfl, q⟩
end
section
variable {X : Cx}
/-- x in a tuple of data -/
def rInT (K : PySem.W.Frag) : R2 := fun x y H Q => ∃ d ds, Dp K H x d ∧ Dp K H y (.tuple ds) ∧ SeqAt.shaped d = true ∧ SeqAt.shaped (.tuple ds) = true ∧ Q (.bl (ds.any fun z => PyData.eqv z d)) H
theorem op_inT (hu : X.A.units + 66 < cLine) : OpR X (compareOp .In) (rInT X.K) := by
  intro pins s σ H x y v u Q I rx ry h
  obtain ⟨d, ds, hd, he, sd, se, q⟩ := h
  obtain ⟨as, r1⟩ := Dp.reads I d x v hd rx
  obtain ⟨bs, r2⟩ := Dp.reads I (.tuple ds) y u he ry
  have dd : d.depth ≤ 64 := by
    have h' : (d.canLay0 && decide (d.depth ≤ 64)) = true := sd
    rw [Bool.and_eq_true] at h'
    exact of_decide_eq_true h'.2
  have cs : PyData.canLayAll0 ds = true := by
    have := SeqAt.canLay_of_shaped se
    simpa [PyData.canLay0] using this
  exact SeqAt.in_tuple_reads r2 r1 cs (SeqAt.canLay_of_shaped sd) (by have := Nat.min_le_right (PyData.depthAll ds) d.depth; omega) ⟨.bl _, H, I, rfl, q⟩
theorem any_range (bs : List Bool) : (List.range bs.length).any (fun i => bs.getD i false) = bs.any id := by
  rw [Bool.eq_iff_iff, List.any_eq_true, List.any_eq_true]
  constructor
  · rintro ⟨i, hi, e⟩
    have hi' : i < bs.length := List.mem_range.mp hi
    refine ⟨bs[i], List.getElem_mem hi', ?_⟩
    simpa [List.getD, hi'] using e
  · rintro ⟨b, hb, e⟩
    obtain ⟨i, hi, rfl⟩ := List.getElem_of_mem hb
    exact ⟨i, List.mem_range.mpr hi, by simpa [List.getD, hi] using e⟩
/-- any(e), e a list of truths -/
def rAnyB (K : PySem.W.Frag) : List V → Hp → VK → Prop := fun xs H Q => ∃ (p : Addr) (bs : List Bool), xs = [.ref p] ∧ SqL K H p (bs.map V.bl) ∧ Q (.bl (bs.any id)) H
theorem call_anyB (hd : X.A.handled = none) : CallR X (.builtin "any") (rAnyB X.K) := by
  intro pins s σ H xs us Q I r h
  obtain ⟨p, bs, rfl, hq, q⟩ := h
  obtain ⟨u, rfl, ru⟩ := vals1 r
  cases (show u = Value.ref p from ru)
  obtain ⟨its, rv, pl, hz⟩ := I.list hq
  have hp : p < s.heap.objs.size := by
    obtain ⟨o, n, z, _⟩ := pl
    exact Heap.lt_size z
  have tr : ∀ (i : Nat) (v : Value), its.toArray[i]? = some v → v = .bool (bs.getD i false) := by
    intro i v e
    have e' : its[i]? = some v := by simpa using e
    have hi : i < its.length := (List.getElem?_eq_some_iff.mp e').1
    have hl := rv.length
    have hb : i < bs.length := by
      rw [List.length_map] at hl
      omega
    obtain ⟨w', hw, rw'⟩ := rv.get (show (bs.map V.bl)[i]? = some (.bl bs[i]) by simp [hb])
    rw [e'] at hw
    cases Option.some.inj hw
    have : v = Value.bool bs[i] := rw'
    rw [this]
    simp [List.getD, hb]
  have nn : its.toArray.size = bs.length := by
    have hl := rv.length
    rw [List.length_map] at hl
    rw [List.size_toArray]
    exact hl.symm
  refine call_any_walk (wpAny_pyIter_list pl.isList ?_)
  refine ⟨s.heap.objs.size, _, _, _, _, _, fun i => bs.getD i false, rfl, Walks.list (A := X.A.in1) hd s.heap.objs.size p (Nat.ne_of_lt hp) its.toArray, ⟨⟨_, Heap.get?_push_size _ rfl, rfl, rfl⟩, ?_⟩, fun i v s' Q' E' hP hQ => ?_, fun h' tk hk => ?_⟩
  · exact pl.isList.at fun o e => Heap.get?_push_of_some _ e
  · rw [tr i v hP]
    exact wpAny_truthy_bool hQ
  · rw [nn, any_range]
    refine ⟨.bl _, H, I.kept (t' := tk) fun b o e => hk b o (fun z => ?_) (Heap.get?_push_of_some _ e), rfl, q⟩
    have z' : b = s.heap.objs.size := by simpa using z
    have lt : b < s.heap.objs.size := Heap.lt_size e
    rw [z'] at lt
    exact Nat.lt_irrefl _ lt
end
end Sb

set_option Elab.async false
set_option linter.all false
set_option maxRecDepth 100000
set_option maxHeartbeats 2000000
/-! Va: values as plain data; what a def's slots hold; lifted readings. -/
namespace Vl
open PySem PySem.Spec PyProof.Rows L2 Sb
/-- a value as data: what stands at addresses is held by value -/
inductive D where
  | non | bl (b : Bool) | int (i : Int) | str (s : Str)
  | tup (l : List D) | lst (l : List D)
  /-- a tuple that may be a written one: it is no key -/
  | ctup (l : List D)
  | ob (c : Str) (l : List D)
  | dk (ks : List Key) (l : List D) | dt (ks : List (List Key)) (l : List D)
  /-- a list of ints that is read alone (the script) -/
  | scr (ns : List Int)
  /-- an own class -/
  | cl (c : Str)
abbrev Ct := Str → Option (Addr × List Str)
section
variable (K : PySem.W.Frag) (ct : Ct)
mutual
/-- v is d in the heap F -/
inductive Rp (F : Hp) : V → D → Prop
  | non : Rp F .non .non
  | bl (b : Bool) : Rp F (.bl b) (.bl b)
  | int (i : Int) : Rp F (.int i) (.int i)
  | str (s : Str) : Rp F (.str s) (.str s)
  | tup {a : Addr} {vs : List V} {l : List D} (h : F a = some (.tup vs)) (t : Rps F vs l) : Rp F (.ref a) (.tup l)
  | ctup {a : Addr} {vs : List V} {l : List D} (h : SqT K F a vs) (t : Rps F vs l) : Rp F (.ref a) (.ctup l)
  | lst {a : Addr} {vs : List V} {l : List D} (h : F a = some (.lst vs)) (t : Rps F vs l) : Rp F (.ref a) (.lst l)
  | ob {a C dx : Addr} {ns : List Str} {vs : List V} {c : Str} {l : List D} (hc : ct c = some (C, ns)) (hl : vs.length ≤ ns.length) (h : F a = some (.ins C dx (ns.zip vs))) (t : Rps F vs l) : Rp F (.ref a) (.ob c l)
  | dk {a : Addr} {ks : List Key} {vs : List V} {l : List D} (hl : ks.length = vs.length) (h : F a = some (.dK (ks.zip vs))) (t : Rps F vs l) : Rp F (.ref a) (.dk ks l)
  | dt {a : Addr} {ks : List (List Key)} {vs : List V} {l : List D} (hl : ks.length = vs.length) (h : F a = some (.dT (ks.zip vs))) (t : Rps F vs l) : Rp F (.ref a) (.dt ks l)
  | scr {a : Addr} {ns : List Int} (h : SqL K F a (ns.map V.int)) : Rp F (.ref a) (.scr ns)
  | cl {C : Addr} {ns : List Str} {c : Str} (hc : ct c = some (C, ns)) : Rp F (.ref C) (.cl c)
inductive Rps (F : Hp) : List V → List D → Prop
  | nil : Rps F [] []
  | cons {v : V} {vs : List V} {d : D} {l : List D} (h : Rp F v d) (t : Rps F vs l) : Rps F (v :: vs) (d :: l)
end
end
section
variable {K : PySem.W.Frag} {ct : Ct} {F F' : Hp}
mutual
theorem Rp.mono (s : Same F F') : ∀ {v : V} {d : D}, Rp K ct F v d → Rp K ct F' v d
  | _, _, .non => .non
  | _, _, .bl b => .bl b
  | _, _, .int i => .int i
  | _, _, .str x => .str x
  | _, _, .tup a h => .tup (s _ _ a) (Rps.mono s h)
  | _, _, .ctup a h => .ctup (sqT_same s a) (Rps.mono s h)
  | _, _, .lst a h => .lst (s _ _ a) (Rps.mono s h)
  | _, _, .scr a => .scr (s.seq a)
  | _, _, .cl hc => .cl hc
  | _, _, .ob hc hl a h => .ob hc hl (s _ _ a) (Rps.mono s h)
  | _, _, .dk hl a h => .dk hl (s _ _ a) (Rps.mono s h)
  | _, _, .dt hl a h => .dt hl (s _ _ a) (Rps.mono s h)
theorem Rps.mono (s : Same F F') : ∀ {vs : List V} {l : List D}, Rps K ct F vs l → Rps K ct F' vs l
  | _, _, .nil => .nil
  | _, _, .cons h t => .cons (Rp.mono s h) (Rps.mono s t)
end
theorem Rps.len : ∀ {vs : List V} {l : List D}, Rps K ct F vs l → vs.length = l.length
  | _, _, .nil => rfl
  | _, _, .cons _ t => by simp [Rps.len t]
theorem Rps.get : ∀ {vs : List V} {l : List D} {i : Nat} {v : V}, Rps K ct F vs l → vs[i]? = some v → ∃ d, l[i]? = some d ∧ Rp K ct F v d
  | _, _, _, _, .nil, e => by simp at e
  | _, _, 0, _, .cons h _, e => by
    simp at e
    subst e
    exact ⟨_, rfl, h⟩
  | _, _, i + 1, _, .cons _ t, e => by
    obtain ⟨d, h1, h2⟩ := Rps.get (i := i) t (by simpa using e)
    exact ⟨d, by simpa using h1, h2⟩
theorem Rps.get' : ∀ {vs : List V} {l : List D} {i : Nat} {d : D}, Rps K ct F vs l → l[i]? = some d → ∃ v, vs[i]? = some v ∧ Rp K ct F v d
  | _, _, _, _, .nil, e => by simp at e
  | _, _, 0, _, .cons h _, e => by
    simp at e
    subst e
    exact ⟨_, rfl, h⟩
  | _, _, i + 1, _, .cons _ t, e => by
    obtain ⟨v, h1, h2⟩ := Rps.get' (i := i) t (by simpa using e)
    exact ⟨v, by simpa using h1, h2⟩
theorem Rps.app : ∀ {vs ws : List V} {l m : List D}, Rps K ct F vs l → Rps K ct F ws m → Rps K ct F (vs ++ ws) (l ++ m)
  | _, _, _, _, .nil, s => s
  | _, _, _, _, .cons h t, s => .cons h (Rps.app t s)
theorem Rps.one {v : V} {d : D} (h : Rp K ct F v d) : Rps K ct F [v] [d] := .cons h .nil
theorem Rps.set {v : V} {d : D} (h : Rp K ct F v d) : ∀ {vs : List V} {l : List D} (i : Nat), Rps K ct F vs l → Rps K ct F (vs.set i v) (l.set i d)
  | _, _, _, .nil => .nil
  | _, _, 0, .cons _ t => .cons h t
  | _, _, i + 1, .cons g t => .cons g (Rps.set h i t)
theorem Rps.take : ∀ {vs : List V} {l : List D} (n : Nat), Rps K ct F vs l → Rps K ct F (vs.take n) (l.take n)
  | _, _, 0, _ => .nil
  | _, _, _ + 1, .nil => .nil
  | _, _, n + 1, .cons h t => .cons h (Rps.take n t)
theorem Rps.drop : ∀ {vs : List V} {l : List D} (n : Nat), Rps K ct F vs l → Rps K ct F (vs.drop n) (l.drop n)
  | _, _, 0, r => r
  | _, _, _ + 1, .nil => .nil
  | _, _, n + 1, .cons _ t => Rps.drop n t
theorem Rps.ints : ∀ {ns : List Int}, Rps K ct F (ns.map V.int) (ns.map D.int)
  | [] => .nil
  | n :: ns => .cons (.int n) Rps.ints
end
/-! ### data as the library's data -/
mutual
def D.py : D → PyData
  | .non => .none
  | .bl b => .bool b
  | .int i => .int i
  | .str s => .str s
  | .tup l => .tuple (D.pyAll l)
  | .ctup l => .tuple (D.pyAll l)
  | .lst l => .list (D.pyAll l)
  | _ => .none
def D.pyAll : List D → List PyData
  | [] => []
  | d :: l => D.py d :: D.pyAll l
end
mutual
/-- no object, no dict within -/
def D.plain : D → Bool
  | .tup l => D.plainAll l
  | .ctup l => D.plainAll l
  | .lst l => D.plainAll l
  | .ob _ _ => false
  | .dk _ _ => false
  | .dt _ _ => false
  | .scr _ => false
  | .cl _ => false
  | _ => true
def D.plainAll : List D → Bool
  | [] => true
  | d :: l => D.plain d && D.plainAll l
end
section
variable {K : PySem.W.Frag} {ct : Ct} {F : Hp}
mutual
theorem Rp.dp : ∀ {v : V} {d : D}, Rp K ct F v d → d.plain = true → Dp K F v d.py
  | _, _, .non, _ => .non
  | _, _, .bl b, _ => .bl b
  | _, _, .int i, _ => .int i
  | _, _, .str x, _ => .str x
  | _, _, .tup a h, p => by
    simp only [D.py]
    exact .tup (SqT.of a) (Rps.dp h (by simpa only [D.plain] using p))
  | _, _, .ctup a h, p => by
    simp only [D.py]
    exact .tup a (Rps.dp h (by simpa only [D.plain] using p))
  | _, _, .lst a h, p => by
    simp only [D.py]
    exact .lst (SqL.of a) (Rps.dp h (by simpa only [D.plain] using p))
  | _, _, .ob _ _ _ _, p => by simp [D.plain] at p
  | _, _, .dk _ _ _, p => by simp [D.plain] at p
  | _, _, .dt _ _ _, p => by simp [D.plain] at p
  | _, _, .scr _, p => by simp [D.plain] at p
  | _, _, .cl _, p => by simp [D.plain] at p
theorem Rps.dp : ∀ {vs : List V} {l : List D}, Rps K ct F vs l → D.plainAll l = true → DpAll K F vs (D.pyAll l)
  | _, _, .nil, _ => .nil
  | _, _, .cons h t, p => by
    simp only [D.plainAll, Bool.and_eq_true] at p
    exact .cons (Rp.dp h p.1) (Rps.dp t p.2)
end
end
/-! ### what is hidden -/
open Classical in
noncomputable def off (S : Addr → Prop) (H : Hp) : Hp := fun a => if S a then none else H a
section
variable {S : Addr → Prop} {H H' : Hp} {a : Addr} {o : HO}
theorem off_inv (h : off S H a = some o) : ¬ S a ∧ H a = some o := by
  unfold off at h
  by_cases c : S a
  · rw [if_pos c] at h
    cases h
  · rw [if_neg c] at h
    exact ⟨c, h⟩
theorem off_at (n : ¬ S a) : off S H a = H a := by
  unfold off
  rw [if_neg n]
theorem off_le : Same (off S H) H := fun _ _ h => (off_inv h).2
theorem off_same (s : Same H H') : Same (off S H) (off S H') := fun _ _ h => by
  obtain ⟨n, e⟩ := off_inv h
  rw [off_at n]
  exact s _ _ e
end
/-- what is hidden, and the address that a slot owns -/
structure Gh where
  S : Addr → Prop
  r : Nat → Option Addr
structure Mono (G : Gh) (H : Hp) (G' : Gh) (H' : Hp) : Prop where
  same : Same (off G.S H) (off G'.S H')
  tmp : ∀ p, G.S p → (∀ i, G.r i ≠ some p) → G'.S p ∧ (∀ i, G'.r i ≠ some p) ∧ H' p = H p
  dom : ∀ p, H p ≠ none → H' p ≠ none
theorem Mono.refl {G : Gh} {H : Hp} : Mono G H G H := ⟨Same.refl _, fun _ h n => ⟨h, n, rfl⟩, fun _ h => h⟩
theorem upd_dom {H : Hp} {a : Addr} {o : HO} : ∀ p, H p ≠ none → upd H a o p ≠ none := fun p h => by
  by_cases e : p = a
  · rw [e, upd_same]
    exact Option.some_ne_none _
  · rw [upd_ne e]
    exact h
theorem same_dom {H H' : Hp} (s : Same H H') : ∀ p, H p ≠ none → H' p ≠ none := fun p h => by
  cases e : H p with
  | none => exact absurd e h
  | some o =>
    rw [s _ _ e]
    exact Option.some_ne_none _
theorem Mono.trans {G G1 G2 : Gh} {H H1 H2 : Hp} (a : Mono G H G1 H1) (b : Mono G1 H1 G2 H2) : Mono G H G2 H2 :=
  ⟨a.same.trans b.same, fun p h n => by
    obtain ⟨h1, n1, e1⟩ := a.tmp p h n
    obtain ⟨h2, n2, e2⟩ := b.tmp p h1 n1
    exact ⟨h2, n2, e2.trans e1⟩, fun p h => b.dom p (a.dom p h)⟩
theorem Mono.grow {G : Gh} {H H' : Hp} (l : ∀ a, G.S a → H a ≠ none) (s : Same H H') : Mono G H G H' :=
  ⟨off_same s, fun p h n => ⟨h, n, by
    cases e : H p with
    | none => exact absurd e (l p h)
    | some o => exact s _ _ e⟩, same_dom s⟩
/-- at a the owned thing d; its parts are in F -/
def OwnAt (K : PySem.W.Frag) (ct : Ct) (H F : Hp) (a : Addr) : D → Prop
  | .lst l => ∃ vs, H a = some (.lst vs) ∧ Rps K ct F vs l
  | .dk ks l => ∃ vs, ks.length = vs.length ∧ H a = some (.dK (ks.zip vs)) ∧ Rps K ct F vs l
  | .dt ks l => ∃ vs, ks.length = vs.length ∧ H a = some (.dT (ks.zip vs)) ∧ Rps K ct F vs l
  | .ob c l => ∃ C dx ns vs, ct c = some (C, ns) ∧ vs.length ≤ ns.length ∧ H a = some (.ins C dx (ns.zip vs)) ∧ Rps K ct F vs l
  | _ => False
theorem OwnAt.mono {K : PySem.W.Frag} {ct : Ct} {H H' F F' : Hp} {a : Addr} {d : D} (h : OwnAt K ct H F a d) (e : H' a = H a) (s : Same F F') : OwnAt K ct H' F' a d := by
  cases d with
  | lst l =>
    obtain ⟨vs, h1, h2⟩ := h
    exact ⟨vs, e.trans h1, h2.mono s⟩
  | dk ks l =>
    obtain ⟨vs, h0, h1, h2⟩ := h
    exact ⟨vs, h0, e.trans h1, h2.mono s⟩
  | dt ks l =>
    obtain ⟨vs, h0, h1, h2⟩ := h
    exact ⟨vs, h0, e.trans h1, h2.mono s⟩
  | ob c l =>
    obtain ⟨C, dx, ns, vs, h0, h3, h1, h2⟩ := h
    exact ⟨C, dx, ns, vs, h0, h3, e.trans h1, h2.mono s⟩
  | _ => exact h.elim
theorem OwnAt.some {K : PySem.W.Frag} {ct : Ct} {H F : Hp} {a : Addr} {d : D} (h : OwnAt K ct H F a d) : H a ≠ none := by
  cases d with
  | lst l =>
    obtain ⟨vs, h1, h2⟩ := h
    rw [h1]
    exact Option.some_ne_none _
  | dk ks l =>
    obtain ⟨vs, h0, h1, h2⟩ := h
    rw [h1]
    exact Option.some_ne_none _
  | dt ks l =>
    obtain ⟨vs, h0, h1, h2⟩ := h
    rw [h1]
    exact Option.some_ne_none _
  | ob c l =>
    obtain ⟨C, dx, ns, vs, h0, h3, h1, h2⟩ := h
    rw [h1]
    exact Option.some_ne_none _
  | _ => exact h.elim
/-- an owned thing that is no longer hidden -/
theorem OwnAt.rp {K : PySem.W.Frag} {ct : Ct} {H F : Hp} {a : Addr} {d : D} (h : OwnAt K ct H F a d) (e : F a = H a) : Rp K ct F (.ref a) d := by
  cases d with
  | lst l =>
    obtain ⟨vs, h1, h2⟩ := h
    exact .lst (e.trans h1) h2
  | dk ks l =>
    obtain ⟨vs, h0, h1, h2⟩ := h
    exact .dk h0 (e.trans h1) h2
  | dt ks l =>
    obtain ⟨vs, h0, h1, h2⟩ := h
    exact .dt h0 (e.trans h1) h2
  | ob c l =>
    obtain ⟨C, dx, ns, vs, h0, h3, h1, h2⟩ := h
    exact .ob h0 h3 (e.trans h1) h2
  | _ => exact h.elim
inductive Slot where
  | un | sh (d : D) | ow (d : D) | io (d : D)
structure Bs where
  ct : Ct
  io : Nat → Option Addr
  H0 : Hp
/-- the slots hold env -/
structure Cfg (K : PySem.W.Frag) (B : Bs) (G : Gh) (env : List Slot) (σ : L2.St) (H : Hp) : Prop where
  len : env.length = σ.length
  sh : ∀ (i : Nat) (d : D), env[i]? = some (.sh d) → ∃ v, σ[i]? = some (some v) ∧ Rp K B.ct (off G.S H) v d
  ow : ∀ (i : Nat) (d : D), env[i]? = some (.ow d) → ∃ a, G.r i = some a ∧ σ[i]? = some (some (.ref a)) ∧ OwnAt K B.ct H (off G.S H) a d
  io : ∀ (i : Nat) (d : D), env[i]? = some (.io d) → ∃ a, G.r i = some a ∧ B.io i = some a ∧ σ[i]? = some (some (.ref a)) ∧ OwnAt K B.ct H (off G.S H) a d
  hid : ∀ (i : Nat) (a : Addr), G.r i = some a → G.S a
  inj : ∀ (i j : Nat) (a : Addr), G.r i = some a → G.r j = some a → i = j
  live : ∀ (a : Addr), G.S a → H a ≠ none
  frs : ∀ (i : Nat) (d : D) (a : Addr), env[i]? = some (.ow d) → G.r i = some a → B.H0 a = none
  dom0 : ∀ (a : Addr), B.H0 a ≠ none → H a ≠ none
section
variable {K : PySem.W.Frag} {B : Bs} {G : Gh} {env : List Slot} {σ : L2.St} {H H' : Hp}
theorem Cfg.same (c : Cfg K B G env σ H) (s : Same H H') : Cfg K B G env σ H' := by
  have keep : ∀ a, G.S a → H' a = H a := fun a h => by
    cases e : H a with
    | none => exact absurd e (c.live a h)
    | some o => exact s _ _ e
  refine ⟨c.len, fun i d e => ?_, fun i d e => ?_, fun i d e => ?_, c.hid, c.inj, fun a h => by rw [keep a h]; exact c.live a h, c.frs, fun a h => same_dom s a (c.dom0 a h)⟩
  · obtain ⟨v, h1, h2⟩ := c.sh i d e
    exact ⟨v, h1, h2.mono (off_same s)⟩
  · obtain ⟨a, h1, h2, h3⟩ := c.ow i d e
    exact ⟨a, h1, h2, h3.mono (keep a (c.hid i a h1)) (off_same s)⟩
  · obtain ⟨a, h1, h0, h2, h3⟩ := c.io i d e
    exact ⟨a, h1, h0, h2, h3.mono (keep a (c.hid i a h1)) (off_same s)⟩
theorem Cfg.mono (c : Cfg K B G env σ H) (s : Same H H') : Mono G H G H' := Mono.grow c.live s
/-- slot i is forgotten, and what it owned is hidden no more -/
def Gh.free (G : Gh) (i : Nat) (a : Addr) : Gh := ⟨fun c => G.S c ∧ c ≠ a, fun j => if j = i then none else G.r j⟩
theorem Mono.free {i : Nat} {a : Addr} (h : G.r i = some a) (hid : ∀ i a, G.r i = some a → G.S a) (inj : ∀ i j a, G.r i = some a → G.r j = some a → i = j) : Mono G H (G.free i a) H :=
  ⟨fun c o e => by
    obtain ⟨n, e⟩ := off_inv e
    rw [off_at fun z => n z.1]
    exact e, fun p hp n => ⟨⟨hp, fun z => n i (by rw [z]; exact h)⟩, fun j z => by
      have z' : (if j = i then none else G.r j) = some p := z
      by_cases e : j = i
      · rw [if_pos e] at z'
        cases z'
      · rw [if_neg e] at z'
        exact n j z', rfl⟩, fun _ h => h⟩
theorem set_get {env : List Slot} {i j : Nat} {s t : Slot} (h : (env.set i s)[j]? = some t) : (i = j ∧ s = t ∧ i < env.length) ∨ (i ≠ j ∧ env[j]? = some t) := by
  by_cases e : i = j
  · subst e
    have hl : i < env.length := by
      have := (List.getElem?_eq_some_iff.mp h).1
      simpa using this
    rw [List.getElem?_set_self hl] at h
    exact .inl ⟨rfl, Option.some.inj h, hl⟩
  · rw [List.getElem?_set_ne e] at h
    exact .inr ⟨e, h⟩
theorem Cfg.freeze {i : Nat} {d : D} (c : Cfg K B G env σ H) (e : env[i]? = some (.ow d)) : ∃ a, G.r i = some a ∧ σ[i]? = some (some (.ref a)) ∧ Mono G H (G.free i a) H ∧ Cfg K B (G.free i a) (env.set i (.sh d)) σ H ∧ Rp K B.ct (off (G.free i a).S H) (.ref a) d := by
  obtain ⟨a, h1, h2, h3⟩ := c.ow i d e
  have m : Mono G H (G.free i a) H := Mono.free h1 c.hid c.inj
  have hr : Rp K B.ct (off (G.free i a).S H) (.ref a) d := (h3.mono rfl m.same).rp (off_at fun z => z.2 rfl)
  refine ⟨a, h1, h2, m, ⟨by rw [List.length_set]; exact c.len, fun j d' ej => ?_, fun j d' ej => ?_, fun j d' ej => ?_, fun j b z => ?_, fun j k b z1 z2 => ?_, fun b z => c.live b z.1, fun j d' b ej z => ?_, c.dom0⟩, hr⟩
  · rcases set_get ej with ⟨rfl, z, _⟩ | ⟨_, z⟩
    · cases z
      exact ⟨_, h2, hr⟩
    · obtain ⟨v, g1, g2⟩ := c.sh j d' z
      exact ⟨v, g1, g2.mono m.same⟩
  · rcases set_get ej with ⟨rfl, z, _⟩ | ⟨n, z⟩
    · cases z
    · obtain ⟨b, g1, g2, g3⟩ := c.ow j d' z
      exact ⟨b, by show (if j = i then none else G.r j) = some b; rw [if_neg (Ne.symm n)]; exact g1, g2, g3.mono rfl m.same⟩
  · rcases set_get ej with ⟨rfl, z, _⟩ | ⟨n, z⟩
    · cases z
    · obtain ⟨b, g1, g0, g2, g3⟩ := c.io j d' z
      exact ⟨b, by show (if j = i then none else G.r j) = some b; rw [if_neg (Ne.symm n)]; exact g1, g0, g2, g3.mono rfl m.same⟩
  · have z' : (if j = i then none else G.r j) = some b := z
    by_cases ej : j = i
    · rw [if_pos ej] at z'
      cases z'
    · rw [if_neg ej] at z'
      refine ⟨c.hid j b z', fun eb => ej ?_⟩
      subst eb
      exact c.inj j i b z' h1
  · have z1' : (if j = i then none else G.r j) = some b := z1
    have z2' : (if k = i then none else G.r k) = some b := z2
    by_cases ej : j = i
    · rw [if_pos ej] at z1'
      cases z1'
    · by_cases ek : k = i
      · rw [if_pos ek] at z2'
        cases z2'
      · rw [if_neg ej] at z1'
        rw [if_neg ek] at z2'
        exact c.inj j k b z1' z2'
  · have z' : (if j = i then none else G.r j) = some b := z
    rcases set_get ej with ⟨rfl, q, _⟩ | ⟨n, q⟩
    · cases q
    · rw [if_neg (Ne.symm n)] at z'
      exact c.frs j d' b q z'
/-- a slot that is no parameter of both ways is given a value -/
theorem Cfg.put {i : Nat} {v : V} {d : D} (c : Cfg K B G env σ H) (r : Rp K B.ct (off G.S H) v d) : Cfg K B G (env.set i (.sh d)) (σ.set i (some v)) H := by
  have ne : ∀ {j : Nat} {x : Option V}, i ≠ j → σ[j]? = some x → (σ.set i (some v))[j]? = some x := fun n h => by rw [List.getElem?_set_ne n]; exact h
  refine ⟨by simp [c.len], fun j d' ej => ?_, fun j d' ej => ?_, fun j d' ej => ?_, c.hid, c.inj, c.live, fun j d' b ej z => ?_, c.dom0⟩
  · rcases set_get ej with ⟨rfl, z, l⟩ | ⟨n, z⟩
    · cases z
      exact ⟨v, List.getElem?_set_self (by rw [← c.len]; exact l), r⟩
    · obtain ⟨w, g1, g2⟩ := c.sh j d' z
      exact ⟨w, ne n g1, g2⟩
  · rcases set_get ej with ⟨rfl, z, _⟩ | ⟨n, z⟩
    · cases z
    · obtain ⟨b, g1, g2, g3⟩ := c.ow j d' z
      exact ⟨b, g1, ne n g2, g3⟩
  · rcases set_get ej with ⟨rfl, z, _⟩ | ⟨n, z⟩
    · cases z
    · obtain ⟨b, g1, g0, g2, g3⟩ := c.io j d' z
      exact ⟨b, g1, g0, ne n g2, g3⟩
  · rcases set_get ej with ⟨rfl, q, _⟩ | ⟨n, q⟩
    · cases q
    · exact c.frs j d' b q z
/-- a slot gets a new object of its own -/
def Gh.take (G : Gh) (i : Nat) (p : Addr) : Gh := ⟨fun c => G.S c ∨ c = p, fun j => if j = i then some p else G.r j⟩
theorem Mono.take {i : Nat} {p : Addr} {o : HO} (hp : H p = none) (live : ∀ a, G.S a → H a ≠ none) : Mono G H (G.take i p) (upd H p o) :=
  ⟨fun c u e => by
    obtain ⟨n, e⟩ := off_inv e
    have ne : c ≠ p := fun z => by
      rw [z, hp] at e
      cases e
    rw [off_at (show ¬ (G.S c ∨ c = p) from fun z => z.elim n ne), upd_ne ne]
    exact e, fun q hq n => by
      have ne : q ≠ p := fun z => live q hq (by rw [z]; exact hp)
      refine ⟨.inl hq, fun j z => ?_, by rw [upd_ne ne]⟩
      have z' : (if j = i then some p else G.r j) = some q := z
      by_cases e : j = i
      · rw [if_pos e] at z'
        exact ne (Option.some.inj z').symm
      · rw [if_neg e] at z'
        exact n j z', upd_dom⟩
theorem Cfg.take {i : Nat} {p : Addr} {o : HO} {d : D} (c : Cfg K B G env σ H) (hp : H p = none) (h : OwnAt K B.ct (upd H p o) (off G.S H) p d) : Cfg K B (G.take i p) (env.set i (.ow d)) (σ.set i (some (.ref p))) (upd H p o) := by
  have m : Mono G H (G.take i p) (upd H p o) := Mono.take hp c.live
  have ne : ∀ {j : Nat} {x : Option V}, i ≠ j → σ[j]? = some x → (σ.set i (some (.ref p)))[j]? = some x := fun n h => by rw [List.getElem?_set_ne n]; exact h
  have neS : ∀ {a : Addr}, G.S a → a ≠ p := fun h z => c.live _ h (by rw [z]; exact hp)
  refine ⟨by simp [c.len], fun j d' ej => ?_, fun j d' ej => ?_, fun j d' ej => ?_, fun j b z => ?_, fun j k b z1 z2 => ?_, fun b z => ?_, fun j d' b ej z => ?_, fun b z => upd_dom b (c.dom0 b z)⟩
  · rcases set_get ej with ⟨rfl, z, l⟩ | ⟨n, z⟩
    · cases z
    · obtain ⟨w, g1, g2⟩ := c.sh j d' z
      exact ⟨w, ne n g1, g2.mono m.same⟩
  · rcases set_get ej with ⟨rfl, z, l⟩ | ⟨n, z⟩
    · cases z
      exact ⟨p, if_pos rfl, List.getElem?_set_self (by rw [← c.len]; exact l), h.mono rfl m.same⟩
    · obtain ⟨b, g1, g2, g3⟩ := c.ow j d' z
      exact ⟨b, by show (if j = i then some p else G.r j) = some b; rw [if_neg (Ne.symm n)]; exact g1, ne n g2, g3.mono (upd_ne (neS (c.hid j b g1))) m.same⟩
  · rcases set_get ej with ⟨rfl, z, _⟩ | ⟨n, z⟩
    · cases z
    · obtain ⟨b, g1, g0, g2, g3⟩ := c.io j d' z
      exact ⟨b, by show (if j = i then some p else G.r j) = some b; rw [if_neg (Ne.symm n)]; exact g1, g0, ne n g2, g3.mono (upd_ne (neS (c.hid j b g1))) m.same⟩
  · have z' : (if j = i then some p else G.r j) = some b := z
    by_cases ej : j = i
    · rw [if_pos ej] at z'
      exact .inr (Option.some.inj z').symm
    · rw [if_neg ej] at z'
      exact .inl (c.hid j b z')
  · have z1' : (if j = i then some p else G.r j) = some b := z1
    have z2' : (if k = i then some p else G.r k) = some b := z2
    by_cases ej : j = i
    · by_cases ek : k = i
      · rw [ej, ek]
      · rw [if_pos ej] at z1'
        rw [if_neg ek] at z2'
        exact absurd (Option.some.inj z1').symm (neS (c.hid k b z2'))
    · rw [if_neg ej] at z1'
      by_cases ek : k = i
      · rw [if_pos ek] at z2'
        exact absurd (Option.some.inj z2').symm (neS (c.hid j b z1'))
      · rw [if_neg ek] at z2'
        exact c.inj j k b z1' z2'
  · by_cases e : b = p
    · rw [e, upd_same]
      exact Option.some_ne_none _
    · rw [upd_ne e]
      exact c.live b (z.elim id fun q => absurd q e)
  · have z' : (if j = i then some p else G.r j) = some b := z
    rcases set_get ej with ⟨rfl, q, _⟩ | ⟨n, q⟩
    · rw [if_pos rfl] at z'
      cases z'
      cases e0 : B.H0 p with
      | none => rfl
      | some u => exact absurd hp (c.dom0 p (by rw [e0]; exact Option.some_ne_none _))
    · rw [if_neg (Ne.symm n)] at z'
      exact c.frs j d' b q z'
/-- an owned thing is changed -/
theorem Mono.chg {i : Nat} {a : Addr} {o : HO} (h : G.r i = some a) (hs : G.S a) : Mono G H G (upd H a o) :=
  ⟨fun c u e => by
    obtain ⟨n, e⟩ := off_inv e
    have ne : c ≠ a := fun z => n (by rw [z]; exact hs)
    rw [off_at n, upd_ne ne]
    exact e, fun q hq n => ⟨hq, n, upd_ne fun z => n i (by rw [z]; exact h)⟩, upd_dom⟩
def own (b : Bool) (d : D) : Slot := if b then .io d else .ow d
theorem Cfg.chg {i : Nat} {a : Addr} {o : HO} {b : Bool} {d d' : D} (c : Cfg K B G env σ H) (h : G.r i = some a) (e : env[i]? = some (own b d)) (hn : OwnAt K B.ct (upd H a o) (off G.S H) a d') : Cfg K B G (env.set i (own b d')) σ (upd H a o) := by
  have m : Mono G H G (upd H a o) := Mono.chg h (c.hid i a h)
  have neS : ∀ {j : Nat} {x : Addr}, i ≠ j → G.r j = some x → x ≠ a := fun {j x} n g z => n (c.inj i j a h (by rw [← z]; exact g))
  have hd := (off_same (S := G.S) (Same.refl H))
  refine ⟨by simp [c.len], fun j d1 ej => ?_, fun j d1 ej => ?_, fun j d1 ej => ?_, c.hid, c.inj, fun x hx => ?_, fun j d1 x ej z => ?_, fun x hx => upd_dom x (c.dom0 x hx)⟩
  · rcases set_get ej with ⟨rfl, z, l⟩ | ⟨n, z⟩
    · cases b <;> cases z
    · obtain ⟨w, g1, g2⟩ := c.sh j d1 z
      exact ⟨w, g1, g2.mono m.same⟩
  · rcases set_get ej with ⟨rfl, z, l⟩ | ⟨n, z⟩
    · cases b with
      | true => cases z
      | false =>
        cases z
        obtain ⟨b', g1, g2, g3⟩ := c.ow i d e
        rw [h] at g1
        cases g1
        exact ⟨a, h, g2, hn.mono rfl m.same⟩
    · obtain ⟨b', g1, g2, g3⟩ := c.ow j d1 z
      exact ⟨b', g1, g2, g3.mono (upd_ne (neS n g1)) m.same⟩
  · rcases set_get ej with ⟨rfl, z, l⟩ | ⟨n, z⟩
    · cases b with
      | false => cases z
      | true =>
        cases z
        obtain ⟨b', g1, g0, g2, g3⟩ := c.io i d e
        rw [h] at g1
        cases g1
        exact ⟨a, h, g0, g2, hn.mono rfl m.same⟩
    · obtain ⟨b', g1, g0, g2, g3⟩ := c.io j d1 z
      exact ⟨b', g1, g0, g2, g3.mono (upd_ne (neS n g1)) m.same⟩
  · by_cases ex : x = a
    · rw [ex, upd_same]
      exact Option.some_ne_none _
    · rw [upd_ne ex]
      exact c.live x hx
  · rcases set_get ej with ⟨rfl, q, _⟩ | ⟨n, q⟩
    · cases b with
      | true => cases q
      | false => exact c.frs i d x e z
    · exact c.frs j d1 x q z
theorem Cfg.own {i : Nat} {b : Bool} {d : D} (c : Cfg K B G env σ H) (e : env[i]? = some (own b d)) : ∃ a, G.r i = some a ∧ σ[i]? = some (some (.ref a)) ∧ OwnAt K B.ct H (off G.S H) a d := by
  cases b with
  | true =>
    obtain ⟨a, h1, _, h2, h3⟩ := c.io i d e
    exact ⟨a, h1, h2, h3⟩
  | false => exact c.ow i d e
/-- a thing that is hidden, and no slot's -/
def Gh.hide (G : Gh) (a : Addr) : Gh := ⟨fun c => G.S c ∨ c = a, G.r⟩
/-- slot i owns what was hidden -/
def Gh.own (G : Gh) (i : Nat) (p : Addr) : Gh := ⟨G.S, fun j => if j = i then some p else G.r j⟩
theorem Mono.own {G1 : Gh} {H1 : Hp} {i : Nat} {p : Addr} (m : Mono G1 H1 G H) (h1 : ¬ G1.S p) : Mono G1 H1 (G.own i p) H :=
  ⟨m.same, fun q hq n => by
    obtain ⟨x1, x2, x3⟩ := m.tmp q hq n
    refine ⟨x1, fun j z => ?_, x3⟩
    have z' : (if j = i then some p else G.r j) = some q := z
    by_cases e : j = i
    · rw [if_pos e] at z'
      cases z'
      exact h1 hq
    · rw [if_neg e] at z'
      exact x2 j z', m.dom⟩
theorem Cfg.adopt {i : Nat} {p : Addr} {d : D} (c : Cfg K B G env σ H) (hs : G.S p) (hn : ∀ j, G.r j ≠ some p) (h : OwnAt K B.ct H (off G.S H) p d) (h0 : B.H0 p = none) : Cfg K B (G.own i p) (env.set i (.ow d)) (σ.set i (some (.ref p))) H := by
  have ne : ∀ {j : Nat} {x : Option V}, i ≠ j → σ[j]? = some x → (σ.set i (some (.ref p)))[j]? = some x := fun n h => by rw [List.getElem?_set_ne n]; exact h
  refine ⟨by simp [c.len], fun j d' ej => ?_, fun j d' ej => ?_, fun j d' ej => ?_, fun j b z => ?_, fun j k b z1 z2 => ?_, c.live, fun j d' b ej z => ?_, c.dom0⟩
  · rcases set_get ej with ⟨rfl, z, l⟩ | ⟨n, z⟩
    · cases z
    · obtain ⟨w, g1, g2⟩ := c.sh j d' z
      exact ⟨w, ne n g1, g2⟩
  · rcases set_get ej with ⟨rfl, z, l⟩ | ⟨n, z⟩
    · cases z
      exact ⟨p, if_pos rfl, List.getElem?_set_self (by rw [← c.len]; exact l), h⟩
    · obtain ⟨b, g1, g2, g3⟩ := c.ow j d' z
      exact ⟨b, by show (if j = i then some p else G.r j) = some b; rw [if_neg (Ne.symm n)]; exact g1, ne n g2, g3⟩
  · rcases set_get ej with ⟨rfl, z, _⟩ | ⟨n, z⟩
    · cases z
    · obtain ⟨b, g1, g0, g2, g3⟩ := c.io j d' z
      exact ⟨b, by show (if j = i then some p else G.r j) = some b; rw [if_neg (Ne.symm n)]; exact g1, g0, ne n g2, g3⟩
  · have z' : (if j = i then some p else G.r j) = some b := z
    by_cases ej : j = i
    · rw [if_pos ej] at z'
      cases z'
      exact hs
    · rw [if_neg ej] at z'
      exact c.hid j b z'
  · have z1' : (if j = i then some p else G.r j) = some b := z1
    have z2' : (if k = i then some p else G.r k) = some b := z2
    by_cases ej : j = i
    · by_cases ek : k = i
      · rw [ej, ek]
      · rw [if_pos ej] at z1'
        rw [if_neg ek] at z2'
        cases z1'
        exact absurd z2' (hn k)
    · rw [if_neg ej] at z1'
      by_cases ek : k = i
      · rw [if_pos ek] at z2'
        cases z2'
        exact absurd z1' (hn j)
      · rw [if_neg ek] at z2'
        exact c.inj j k b z1' z2'
  · have z' : (if j = i then some p else G.r j) = some b := z
    rcases set_get ej with ⟨rfl, q, _⟩ | ⟨n, q⟩
    · rw [if_pos rfl] at z'
      cases z'
      exact h0
    · rw [if_neg (Ne.symm n)] at z'
      exact c.frs j d' b q z'
theorem Cfg.new0 {p : Addr} (c : Cfg K B G env σ H) (hp : H p = none) : B.H0 p = none := by
  cases e0 : B.H0 p with
  | none => rfl
  | some u => exact absurd hp (c.dom0 p (by rw [e0]; exact Option.some_ne_none _))
theorem Cfg.unS {p : Addr} (c : Cfg K B G env σ H) (hp : H p = none) : ¬ G.S p := fun z => c.live p z hp
theorem Mono.hide {a : Addr} {o : HO} (hp : H a = none) (live : ∀ c, G.S c → H c ≠ none) : Mono G H (G.hide a) (upd H a o) :=
  ⟨fun c u e => by
    obtain ⟨n, e⟩ := off_inv e
    have ne : c ≠ a := fun z => by
      rw [z, hp] at e
      cases e
    rw [off_at (show ¬ (G.S c ∨ c = a) from fun z => z.elim n ne), upd_ne ne]
    exact e, fun q hq n => ⟨.inl hq, n, upd_ne fun z => live q hq (by rw [z]; exact hp)⟩, upd_dom⟩
theorem Cfg.hide {a : Addr} {o : HO} (c : Cfg K B G env σ H) (hp : H a = none) : Cfg K B (G.hide a) env σ (upd H a o) := by
  have m : Mono G H (G.hide a) (upd H a o) := Mono.hide hp c.live
  have neS : ∀ {x : Addr}, G.S x → x ≠ a := fun h z => c.live _ h (by rw [z]; exact hp)
  refine ⟨c.len, fun j d e => ?_, fun j d e => ?_, fun j d e => ?_, fun i x h => .inl (c.hid i x h), c.inj, fun x h => ?_, c.frs, fun x h => upd_dom x (c.dom0 x h)⟩
  · obtain ⟨w, g1, g2⟩ := c.sh j d e
    exact ⟨w, g1, g2.mono m.same⟩
  · obtain ⟨b, g1, g2, g3⟩ := c.ow j d e
    exact ⟨b, g1, g2, g3.mono (upd_ne (neS (c.hid j b g1))) m.same⟩
  · obtain ⟨b, g1, g0, g2, g3⟩ := c.io j d e
    exact ⟨b, g1, g0, g2, g3.mono (upd_ne (neS (c.hid j b g1))) m.same⟩
  · by_cases ex : x = a
    · rw [ex, upd_same]
      exact Option.some_ne_none _
    · rw [upd_ne ex]
      exact c.live x (h.elim id fun q => absurd q ex)
end
end Vl

set_option Elab.async false
set_option linter.all false
set_option maxRecDepth 100000
set_option maxHeartbeats 2000000
/-! Vb: expressions over data. -/
namespace Vl
open PySem PySem.Spec PyProof.Rows L2 Sb
/-- what comes of a piece of code -/
inductive Out (α : Type) where
  | stuck | val (a : α) (env : List Slot) | exc (c : Str) (as : List D) (env : List Slot)
def Out.bind {α β : Type} (o : Out α) (k : α → List Slot → Out β) : Out β := match o with
  | .stuck => .stuck
  | .val a e => k a e
  | .exc c as e => .exc c as e
def Out.opt {α : Type} (o : Option α) (e : List Slot) : Out α := match o with
  | some a => .val a e
  | none => .stuck
abbrev Ev (α : Type) := List Slot → Out α
abbrev ZX := Str → List D → List Slot → Gh → L2.St → Hp → Addr → Prop
/-- the own dict of an exception -/
def ExcAt (K : PySem.W.Frag) (ct : Ct) (F : Hp) (dd : Addr) (c : Str) (as : List D) : Prop := ∃ C ns vs, ct c = some (C, ns) ∧ ns.length = vs.length ∧ F dd = some (.xd (ns.zip vs)) ∧ Rps K ct F vs as
def postG {α : Type} (K : PySem.W.Frag) (B : Bs) (Z : ZX) (G : Gh) (σ : L2.St) (H : Hp) (o : Out α) (R : α → List Slot → Gh → Hp → Prop) : Prop := match o with
  | .stuck => False
  | .val a env => ∀ G' H', Mono G H G' H' → Cfg K B G' env σ H' → R a env G' H'
  | .exc c as env => ∀ G' H' dd, Mono G H G' H' → Cfg K B G' env σ H' → ExcAt K B.ct (off G'.S H') dd c as → Z c as env G' σ H' dd
section
variable {K : PySem.W.Frag} {B : Bs} {Z : ZX} {G G1 : Gh} {σ : L2.St} {H H1 : Hp} {α β : Type}
theorem post_bind {o : Out α} {k : α → List Slot → Out β} {R : β → List Slot → Gh → Hp → Prop} (h : postG K B Z G σ H (o.bind k) R) : postG K B Z G σ H o (fun a e G1 H1 => postG K B Z G1 σ H1 (k a e) R) := by
  cases o with
  | stuck => exact h
  | val a e =>
    intro G1 H1 m1 c1
    have h : postG K B Z G σ H (k a e) R := h
    generalize k a e = q at h
    cases q with
    | stuck => exact h
    | val b e2 => exact fun G2 H2 m2 c2 => h G2 H2 (m1.trans m2) c2
    | exc c as e2 => exact fun G2 H2 dd m2 c2 x => h G2 H2 dd (m1.trans m2) c2 x
  | exc c as e => exact h
theorem post_later {o : Out α} {R : α → List Slot → Gh → Hp → Prop} (m : Mono G H G1 H1) (h : postG K B Z G σ H o R) : postG K B Z G1 σ H1 o R := by
  cases o with
  | stuck => exact h
  | val a e => exact fun G2 H2 m2 c => h _ _ (m.trans m2) c
  | exc c as e => exact fun G2 H2 dd m2 c x => h _ _ dd (m.trans m2) c x
theorem post_imp {o : Out α} {R R' : α → List Slot → Gh → Hp → Prop} (h : postG K B Z G σ H o R) (k : ∀ a e G1 H1, Mono G H G1 H1 → Cfg K B G1 e σ H1 → R a e G1 H1 → R' a e G1 H1) : postG K B Z G σ H o R' := by
  cases o with
  | stuck => exact h
  | val a e => exact fun G1 H1 m c => k _ _ _ _ m c (h G1 H1 m c)
  | exc c as e => exact h
end
/-- readings of code over data -/
def liftE (K : PySem.W.Frag) (B : Bs) (Z : ZX) (f : Ev D) : TE := fun σ H Q => ∃ G env, Cfg K B G env σ H ∧ postG K B Z G σ H (f env) (fun d _ G' H' => ∀ v, Rp K B.ct (off G'.S H') v d → Q v H')
def liftA (K : PySem.W.Frag) (B : Bs) (Z : ZX) (f : Ev (List D)) : TA := fun σ H Q => ∃ G env, Cfg K B G env σ H ∧ postG K B Z G σ H (f env) (fun d _ G' H' => ∀ v, Rps K B.ct (off G'.S H') v d → Q v H')
def liftT (K : PySem.W.Frag) (B : Bs) (Z : ZX) (f : Ev Bool) : TT := fun σ H Q => ∃ G env, Cfg K B G env σ H ∧ postG K B Z G σ H (f env) (fun b _ G' H' => Q b H')
def liftO (K : PySem.W.Frag) (B : Bs) (Z : ZX) (f : Ev (Option Int)) : TO := fun σ H Q => ∃ G env, Cfg K B G env σ H ∧ postG K B Z G σ H (f env) (fun b _ G' H' => Q b H')
structure DE (X : Cx) (B : Bs) (Z : ZX) (e : Expr) (f : Ev D) : Prop where
  pe : PE X e (liftE X.K B Z f)
structure DA (X : Cx) (B : Bs) (Z : ZX) (e : List Expr) (f : Ev (List D)) : Prop where
  pa : PA X e (liftA X.K B Z f)
structure DT (X : Cx) (B : Bs) (Z : ZX) (e : Expr) (f : Ev Bool) : Prop where
  pt : PT X e (liftT X.K B Z f)
structure DW (X : Cx) (B : Bs) (Z : ZX) (e : Expr) (f : Ev Bool) : Prop where
  pw : PW X e (liftT X.K B Z f)
structure DO (X : Cx) (B : Bs) (Z : ZX) (e : Option Expr) (f : Ev (Option Int)) : Prop where
  po : PO X e (liftO X.K B Z f)
section
variable {X : Cx} {e : Expr} {es : List Expr} {oe : Option Expr}
theorem PE.weak {t t' : TE} (h : PE X e t) (k : ∀ σ H Q, t' σ H Q → t σ H Q) : PE X e t' := ⟨fun pins s σ H Q I q => h.run pins s σ H Q I (k σ H Q q)⟩
theorem PT.weak {t t' : TT} (h : PT X e t) (k : ∀ σ H Q, t' σ H Q → t σ H Q) : PT X e t' := ⟨fun pins s σ H Q I q => h.run pins s σ H Q I (k σ H Q q)⟩
theorem PW.weak {t t' : TT} (h : PW X e t) (k : ∀ σ H Q, t' σ H Q → t σ H Q) : PW X e t' := ⟨fun w pins s σ H Q I q => h.run w pins s σ H Q I (k σ H Q q)⟩
theorem PA.weak {t t' : TA} (h : PA X es t) (k : ∀ σ H Q, t' σ H Q → t σ H Q) : PA X es t' := ⟨fun pos pins s σ H Q I q => h.run pos pins s σ H Q I (k σ H Q q)⟩
theorem PO.weak {t t' : TO} (h : PO X oe t) (k : ∀ σ H Q, t' σ H Q → t σ H Q) : PO X oe t' := ⟨fun pins s σ H Q I q => h.run pins s σ H Q I (k σ H Q q)⟩
end
/-! ### operations on values -/
/-- an operation by values is one by data -/
def OpV (K : PySem.W.Frag) (ct : Ct) (r : R2) (o : D → D → Option D) : Prop := ∀ (S : Addr → Prop) (H : Hp) (x y : V) (d e z : D) (Q : VK), (∀ a, S a → H a ≠ none) → Rp K ct (off S H) x d → Rp K ct (off S H) y e → o d e = some z →
  (∀ v H', Same H H' → Rp K ct (off S H') v z → Q v H') → r x y H Q
def UnV (K : PySem.W.Frag) (ct : Ct) (r : V → Hp → VK → Prop) (o : D → Option D) : Prop := ∀ (S : Addr → Prop) (H : Hp) (x : V) (d z : D) (Q : VK), (∀ a, S a → H a ≠ none) → Rp K ct (off S H) x d → o d = some z →
  (∀ v H', Same H H' → Rp K ct (off S H') v z → Q v H') → r x H Q
def CallV (K : PySem.W.Frag) (ct : Ct) (r : List V → Hp → VK → Prop) (o : List D → Option D) : Prop := ∀ (S : Addr → Prop) (H : Hp) (xs : List V) (ds : List D) (z : D) (Q : VK), (∀ a, S a → H a ≠ none) → Rps K ct (off S H) xs ds → o ds = some z →
  (∀ v H', Same H H' → Rp K ct (off S H') v z → Q v H') → r xs H Q
def SlV (K : PySem.W.Frag) (ct : Ct) (r : V → Option Int → Option Int → Hp → VK → Prop) (o : D → Option Int → Option Int → Option D) : Prop := ∀ (S : Addr → Prop) (H : Hp) (x : V) (d z : D) (lo hi : Option Int) (Q : VK), (∀ a, S a → H a ≠ none) → Rp K ct (off S H) x d → o d lo hi = some z →
  (∀ v H', Same H H' → Rp K ct (off S H') v z → Q v H') → r x lo hi H Q
section
variable {K : PySem.W.Frag} {ct : Ct} {S : Addr → Prop} {H : Hp}
theorem new_lst {p : Addr} {vs : List V} {l : List D} (live : ∀ a, S a → H a ≠ none) (hp : H p = none) (r : Rps K ct (off S H) vs l) : Rp K ct (off S (upd H p (.lst vs))) (.ref p) (.lst l) :=
  .lst (by rw [off_at fun z => live p z hp]; exact upd_same) (r.mono (off_same (Sb.Same.upd hp)))
theorem new_tup {p : Addr} {vs : List V} {l : List D} (live : ∀ a, S a → H a ≠ none) (hp : H p = none) (r : Rps K ct (off S H) vs l) : Rp K ct (off S (upd H p (.tup vs))) (.ref p) (.tup l) :=
  .tup (by rw [off_at fun z => live p z hp]; exact upd_same) (r.mono (off_same (Sb.Same.upd hp)))
end
def oI (g : Int → Int → D) : D → D → Option D
  | .int i, .int j => some (g i j)
  | _, _ => none
def oIC (c : Int → Int → Bool) (g : Int → Int → D) : D → D → Option D
  | .int i, .int j => if c i j then some (g i j) else none
  | _, _ => none
section
variable {K : PySem.W.Frag} {ct : Ct} {F : Hp} {v : V}
theorem Rp.intE {i : Int} (h : Rp K ct F v (.int i)) : v = .int i := by cases h; rfl
theorem Rp.blE {i : Bool} (h : Rp K ct F v (.bl i)) : v = .bl i := by cases h; rfl
theorem Rp.strE {i : Str} (h : Rp K ct F v (.str i)) : v = .str i := by cases h; rfl
theorem Rp.nonE (h : Rp K ct F v .non) : v = .non := by cases h; rfl
theorem Rp.lstE {l : List D} (h : Rp K ct F v (.lst l)) : ∃ a vs, v = .ref a ∧ F a = some (.lst vs) ∧ Rps K ct F vs l := by
  cases h with
  | lst h t => exact ⟨_, _, rfl, h, t⟩
theorem Rp.tupP {l : List D} (h : Rp K ct F v (.tup l)) : ∃ a vs, v = .ref a ∧ F a = some (.tup vs) ∧ Rps K ct F vs l := by
  cases h with
  | tup h t => exact ⟨_, _, rfl, h, t⟩
theorem Rp.tupE {l : List D} (h : Rp K ct F v (.tup l)) : ∃ a vs, v = .ref a ∧ SqT K F a vs ∧ Rps K ct F vs l := by
  cases h with
  | tup h t => exact ⟨_, _, rfl, SqT.of h, t⟩
theorem Rp.ctupE {l : List D} (h : Rp K ct F v (.ctup l)) : ∃ a vs, v = .ref a ∧ SqT K F a vs ∧ Rps K ct F vs l := by
  cases h with
  | ctup h t => exact ⟨_, _, rfl, h, t⟩
theorem Rp.obE {c : Str} {l : List D} (h : Rp K ct F v (.ob c l)) : ∃ a C dx ns vs, v = .ref a ∧ ct c = some (C, ns) ∧ vs.length ≤ ns.length ∧ F a = some (.ins C dx (ns.zip vs)) ∧ Rps K ct F vs l := by
  cases h with
  | ob h1 h2 h3 t => exact ⟨_, _, _, _, _, rfl, h1, h2, h3, t⟩
theorem Rp.scrE {ns : List Int} (h : Rp K ct F v (.scr ns)) : ∃ a, v = .ref a ∧ SqL K F a (ns.map V.int) := by
  cases h with
  | scr h => exact ⟨_, rfl, h⟩
theorem Rps.nilE {vs : List V} (h : Rps K ct F vs []) : vs = [] := by cases h; rfl
theorem Rps.consE {vs : List V} {d : D} {l : List D} (h : Rps K ct F vs (d :: l)) : ∃ v ws, vs = v :: ws ∧ Rp K ct F v d ∧ Rps K ct F ws l := by
  cases h with
  | cons h t => exact ⟨_, _, rfl, h, t⟩
end
theorem sqT_le {K : PySem.W.Frag} {S : Addr → Prop} {H : Hp} {a : Addr} {vs : List V} (h : SqT K (off S H) a vs) : SqT K H a vs := sqT_same off_le h
theorem opv_I0 {K : PySem.W.Frag} {ct : Ct} {g' : Int → Int → V} (g : Int → Int → D) (h : ∀ F i j, Rp K ct F (g' i j) (g i j)) : OpV K ct (rI0 g') (oI g) := by
  intro S H x y d e z Q live rx ry ho hq
  unfold oI at ho
  split at ho
  · cases ho
    exact ⟨_, _, rx.intE, ry.intE, hq _ H (Same.refl _) (h _ _ _)⟩
  · cases ho
theorem opv_IC {K : PySem.W.Frag} {ct : Ct} {C : Int → Int → Prop} {g' : Int → Int → V} (c : Int → Int → Bool) (g : Int → Int → D) (hc : ∀ i j, c i j = true → C i j) (h : ∀ F i j, Rp K ct F (g' i j) (g i j)) : OpV K ct (rI C g') (oIC c g) := by
  intro S H x y d e z Q live rx ry ho hq
  unfold oIC at ho
  split at ho
  · split at ho
    · cases ho
      exact ⟨_, _, rx.intE, ry.intE, hc _ _ (by assumption), hq _ H (Same.refl _) (h _ _ _)⟩
    · cases ho
  · cases ho
section
variable {X : Cx} {ct : Ct}
theorem opv_add : OpV X.K ct (rI0 fun i j => .int (i + j)) (oI fun i j => .int (i + j)) := opv_I0 _ fun _ _ _ => .int _
theorem opv_sub : OpV X.K ct (rI0 fun i j => .int (i - j)) (oI fun i j => .int (i - j)) := opv_I0 _ fun _ _ _ => .int _
def cMul (i j : Int) : Bool := decide (i.natAbs < 2 ^ 60) || decide (j.natAbs < 2 ^ 60)
theorem opv_mul : OpV X.K ct (rI CMul fun i j => .int (i * j)) (oIC cMul fun i j => .int (i * j)) := opv_IC _ _ (fun i j h => by
  have h' : i.natAbs < 2 ^ 60 ∨ j.natAbs < 2 ^ 60 := by
    unfold cMul at h
    rw [Bool.or_eq_true] at h
    exact h.imp of_decide_eq_true of_decide_eq_true
  have e : (2 : Nat) ^ 60 = 1152921504606846976 := by decide
  rw [e] at h'
  rcases h' with h' | h'
  · exact .inl ⟨by omega, by omega⟩
  · exact .inr ⟨by omega, by omega⟩) fun _ _ _ => .int _
theorem opv_mod : OpV X.K ct (rI (fun _ j => 0 < j) fun i j => .int (i % j)) (oIC (fun _ j => decide (0 < j)) fun i j => .int (i % j)) := opv_IC _ _ (fun i j h => of_decide_eq_true h) fun _ _ _ => .int _
theorem opv_fdiv : OpV X.K ct (rI CDiv fun i j => .int (i / j)) (oIC (fun _ j => decide (0 < j) && decide (j < 1073741824)) fun i j => .int (i / j)) := opv_IC _ _ (fun i j h => by
  rw [Bool.and_eq_true] at h
  exact ⟨of_decide_eq_true h.1, of_decide_eq_true h.2⟩) fun _ _ _ => .int _
theorem opv_lt : OpV X.K ct (rI0 fun i j => .bl (decide (i < j))) (oI fun i j => .bl (decide (i < j))) := opv_I0 _ fun _ _ _ => .bl _
theorem opv_le : OpV X.K ct (rI0 fun i j => .bl (decide (i ≤ j))) (oI fun i j => .bl (decide (i ≤ j))) := opv_I0 _ fun _ _ _ => .bl _
theorem opv_gt : OpV X.K ct (rI0 fun i j => .bl (decide (j < i))) (oI fun i j => .bl (decide (j < i))) := opv_I0 _ fun _ _ _ => .bl _
theorem opv_ge : OpV X.K ct (rI0 fun i j => .bl (decide (j ≤ i))) (oI fun i j => .bl (decide (j ≤ i))) := opv_I0 _ fun _ _ _ => .bl _
/-- texts added -/
def oAddS : D → D → Option D
  | .str i, .str j => if i.length + j.length ≤ sizeLine then some (.str (i ++ j)) else none
  | _, _ => none
theorem opv_addS : OpV X.K ct (fun x y H Q => ∃ i j, x = .str i ∧ y = .str j ∧ i.length + j.length ≤ sizeLine ∧ Q (.str (i ++ j)) H) oAddS := by
  intro S H x y d e z Q live rx ry ho hq
  unfold oAddS at ho
  split at ho
  · split at ho
    · cases ho
      exact ⟨_, _, rx.strE, ry.strE, by assumption, hq _ H (Same.refl _) (.str _)⟩
    · cases ho
  · cases ho
/-- lists added -/
def oCat : D → D → Option D
  | .lst l, .lst m => if l.length + m.length ≤ sizeLine then some (.lst (l ++ m)) else none
  | _, _ => none
theorem opv_cat : OpV X.K ct rCat oCat := by
  intro S H x y d e z Q live rx ry ho hq
  unfold oCat at ho
  split at ho
  · rename_i l m
    split at ho
    · rename_i c
      cases ho
      obtain ⟨a, vs, rfl, h1, t1⟩ := rx.lstE
      obtain ⟨b, ws, rfl, h2, t2⟩ := ry.lstE
      exact ⟨_, _, _, _, rfl, rfl, off_le _ _ h1, off_le _ _ h2, by rw [t1.len, t2.len]; exact c, fun p hp => hq _ _ (Sb.Same.upd hp) (new_lst live hp (t1.app t2))⟩
    · cases ho
  · cases ho
/-- tuples added -/
def oCatT : D → D → Option D
  | .tup l, .tup m => if l ≠ [] ∧ l.length + m.length ≤ sizeLine then some (.tup (l ++ m)) else none
  | _, _ => none
theorem opv_catT : OpV X.K ct (rCatT X.K) oCatT := by
  intro S H x y d e z Q live rx ry ho hq
  unfold oCatT at ho
  split at ho
  · rename_i l m
    split at ho
    · rename_i c
      cases ho
      obtain ⟨a, vs, rfl, h1, t1⟩ := rx.tupP
      obtain ⟨b, ws, rfl, h2, t2⟩ := ry.tupE
      have hl1 := t1.len
      have hl2 := t2.len
      refine ⟨_, _, _, _, rfl, rfl, SqT.of (off_le _ _ h1), sqT_le h2, ?_, by rw [hl1, hl2]; exact c.2, fun e => ?_, fun _ p hp => hq _ _ (Sb.Same.upd hp) (new_tup live hp (t1.app t2))⟩
      · intro z
        have : l = [] := List.length_eq_zero_iff.mp (by rw [← hl1, z]; rfl)
        exact c.1 this
      · have em : m = [] := List.length_eq_zero_iff.mp (by rw [← hl2, e]; rfl)
        subst em
        rw [List.append_nil] at hq
        exact hq _ H (Same.refl _) (.tup h1 t1)
    · cases ho
  · cases ho
/-- a list repeated -/
def oRep : D → D → Option D
  | .lst l, .int k => if k < 2 ^ 20 ∧ -(2 ^ 20) < k ∧ l.length * k.toNat ≤ sizeLine then some (.lst (List.replicate k.toNat l).flatten) else none
  | _, _ => none
theorem Rps.rep {F : Hp} {K : PySem.W.Frag} {vs : List V} {l : List D} (h : Rps K ct F vs l) : ∀ n : Nat, Rps K ct F (List.replicate n vs).flatten (List.replicate n l).flatten
  | 0 => .nil
  | n + 1 => by
    rw [List.replicate_succ, List.replicate_succ, List.flatten_cons, List.flatten_cons]
    exact h.app (Rps.rep h n)
theorem opv_rep : OpV X.K ct rRep oRep := by
  intro S H x y d e z Q live rx ry ho hq
  unfold oRep at ho
  split at ho
  · rename_i l k
    split at ho
    · rename_i c
      cases ho
      obtain ⟨a, vs, rfl, h1, t1⟩ := rx.lstE
      have e : (2 : Int) ^ 20 = 1048576 := by decide
      have e3 : (2 : Int) ^ 63 = 9223372036854775808 := by decide
      obtain ⟨c1, c2, c3⟩ := c
      rw [e] at c1 c2
      exact ⟨_, _, _, rfl, ry.intE, off_le _ _ h1, by omega, by omega, by rw [t1.len]; exact c3, fun p hp => hq _ _ (Sb.Same.upd hp) (new_lst live hp (t1.rep _))⟩
    · cases ho
  · cases ho
/-- a tuple repeated -/
def oRepT : D → D → Option D
  | .tup l, .int k => if l ≠ [] ∧ 1 < k ∧ k < 2 ^ 20 ∧ l.length * k.toNat ≤ sizeLine then some (.tup (List.replicate k.toNat l).flatten) else none
  | _, _ => none
/-- data that can be compared -/
def D.eok (d : D) : Bool := d.plain && SeqAt.shaped d.py
def oEq (neg : Bool) (d e : D) : Option D := if d.eok && e.eok then some (.bl (if neg then !PyData.eqv d.py e.py else PyData.eqv d.py e.py)) else none
theorem opv_eqD : OpV X.K ct (rEqD X.K) (oEq false) := by
  intro S H x y d e z Q live rx ry ho hq
  unfold oEq at ho
  split at ho
  · rename_i c
    cases ho
    simp only [D.eok, Bool.and_eq_true] at c
    exact ⟨_, _, (rx.mono off_le).dp c.1.1, (ry.mono off_le).dp c.2.1, c.1.2, c.2.2, hq _ H (Same.refl _) (.bl _)⟩
  · cases ho
theorem opv_neD : OpV X.K ct (rNeD X.K) (oEq true) := by
  intro S H x y d e z Q live rx ry ho hq
  unfold oEq at ho
  split at ho
  · rename_i c
    cases ho
    simp only [D.eok, Bool.and_eq_true] at c
    exact ⟨_, _, (rx.mono off_le).dp c.1.1, (ry.mono off_le).dp c.2.1, c.1.2, c.2.2, hq _ H (Same.refl _) (.bl _)⟩
  · cases ho
/-- plain things compared: ints, texts, truths, None -/
def oEqS (neg : Bool) : D → D → Option D
  | .int i, .int j => some (.bl (if neg then !decide (i = j) else decide (i = j)))
  | .str i, .str j => some (.bl (if neg then !decide (i = j) else decide (i = j)))
  | .bl i, .bl j => some (.bl (if neg then !decide (i = j) else decide (i = j)))
  | .non, .non => some (.bl (if neg then false else true))
  | .int _, .str _ => some (.bl neg)
  | .str _, .int _ => some (.bl neg)
  | .non, .int _ => some (.bl neg)
  | .int _, .non => some (.bl neg)
  | .non, .str _ => some (.bl neg)
  | .str _, .non => some (.bl neg)
  | _, _ => none
theorem dec_int {i j : Int} : decide (V.int i = V.int j) = decide (i = j) := by simp
theorem dec_str {i j : Str} : decide (V.str i = V.str j) = decide (i = j) := by simp
theorem dec_bl {i j : Bool} : decide (V.bl i = V.bl j) = decide (i = j) := by simp
theorem opv_eqS : OpV X.K ct rEq (oEqS false) := by
  intro S H x y d e z Q live rx ry ho hq
  unfold oEqS at ho
  split at ho <;> (first | cases ho)
  · rw [rx.intE, ry.intE]
    exact ⟨rfl, by rw [dec_int]; exact hq _ H (Same.refl _) (.bl _)⟩
  · rw [rx.strE, ry.strE]
    exact ⟨rfl, by rw [dec_str]; exact hq _ H (Same.refl _) (.bl _)⟩
  · rw [rx.blE, ry.blE]
    exact ⟨rfl, by rw [dec_bl]; exact hq _ H (Same.refl _) (.bl _)⟩
  · rw [rx.nonE, ry.nonE]
    exact ⟨rfl, hq _ H (Same.refl _) (.bl _)⟩
  · rw [rx.intE, ry.strE]
    exact ⟨rfl, hq _ H (Same.refl _) (.bl _)⟩
  · rw [rx.strE, ry.intE]
    exact ⟨rfl, hq _ H (Same.refl _) (.bl _)⟩
  · rw [rx.nonE, ry.intE]
    exact ⟨rfl, hq _ H (Same.refl _) (.bl _)⟩
  · rw [rx.intE, ry.nonE]
    exact ⟨rfl, hq _ H (Same.refl _) (.bl _)⟩
  · rw [rx.nonE, ry.strE]
    exact ⟨rfl, hq _ H (Same.refl _) (.bl _)⟩
  · rw [rx.strE, ry.nonE]
    exact ⟨rfl, hq _ H (Same.refl _) (.bl _)⟩
theorem opv_neS : OpV X.K ct rNe (oEqS true) := by
  intro S H x y d e z Q live rx ry ho hq
  unfold oEqS at ho
  split at ho <;> (first | cases ho)
  · rw [rx.intE, ry.intE]
    exact ⟨rfl, by rw [dec_int]; exact hq _ H (Same.refl _) (.bl _)⟩
  · rw [rx.strE, ry.strE]
    exact ⟨rfl, by rw [dec_str]; exact hq _ H (Same.refl _) (.bl _)⟩
  · rw [rx.blE, ry.blE]
    exact ⟨rfl, by rw [dec_bl]; exact hq _ H (Same.refl _) (.bl _)⟩
  · rw [rx.nonE, ry.nonE]
    exact ⟨rfl, hq _ H (Same.refl _) (.bl _)⟩
  · rw [rx.intE, ry.strE]
    exact ⟨rfl, hq _ H (Same.refl _) (.bl _)⟩
  · rw [rx.strE, ry.intE]
    exact ⟨rfl, hq _ H (Same.refl _) (.bl _)⟩
  · rw [rx.nonE, ry.intE]
    exact ⟨rfl, hq _ H (Same.refl _) (.bl _)⟩
  · rw [rx.intE, ry.nonE]
    exact ⟨rfl, hq _ H (Same.refl _) (.bl _)⟩
  · rw [rx.nonE, ry.strE]
    exact ⟨rfl, hq _ H (Same.refl _) (.bl _)⟩
  · rw [rx.strE, ry.nonE]
    exact ⟨rfl, hq _ H (Same.refl _) (.bl _)⟩
/-- None asked -/
def D.isNon : D → Bool
  | .non => true
  | _ => false
def oIsN (neg : Bool) (d e : D) : Option D := if e.isNon then some (.bl (if neg then !d.isNon else d.isNon)) else none
theorem isNon_v {K : PySem.W.Frag} {F : Hp} {v : V} {d : D} (h : Rp K ct F v d) : decide (v = .non) = d.isNon := by
  cases h <;> simp [D.isNon]
theorem opv_isN : OpV X.K ct (fun x y H Q => y = .non ∧ Q (.bl (decide (x = .non))) H) (oIsN false) := by
  intro S H x y d e z Q live rx ry ho hq
  unfold oIsN at ho
  split at ho
  · rename_i c
    cases ho
    have ee : e = .non := by cases e <;> first | rfl | cases c
    subst ee
    exact ⟨ry.nonE, by rw [isNon_v rx]; exact hq _ H (Same.refl _) (.bl _)⟩
  · cases ho
theorem opv_notN : OpV X.K ct (fun x y H Q => y = .non ∧ Q (.bl (!decide (x = .non))) H) (oIsN true) := by
  intro S H x y d e z Q live rx ry ho hq
  unfold oIsN at ho
  split at ho
  · rename_i c
    cases ho
    have ee : e = .non := by cases e <;> first | rfl | cases c
    subst ee
    exact ⟨ry.nonE, by rw [isNon_v rx]; exact hq _ H (Same.refl _) (.bl _)⟩
  · cases ho
/-- an item -/
def oIx : D → D → Option D
  | .lst l, .int i => atI l i
  | .tup l, .int i => atI l i
  | .ctup l, .int i => atI l i
  | .str s, .int i => if s.length ≤ sizeLine then (atI s.cps.toList i).map fun c => .str ⟨#[c]⟩ else none
  | .scr ns, .int i => (atI ns i).map D.int
  | _, _ => none
theorem at_map {α β : Type} {f : α → β} {l : List α} {i : Int} {x : α} (h : atI l i = some x) : atI (l.map f) i = some (f x) := by
  unfold atI at h ⊢
  rw [List.length_map]
  cases e : ixN l.length i with
  | none =>
    rw [e] at h
    cases h
  | some j =>
    rw [e] at h
    have h : l[j]? = some x := h
    show (l.map f)[j]? = some (f x)
    rw [List.getElem?_map, h]
    rfl
theorem Rps.at {K : PySem.W.Frag} {F : Hp} {vs : List V} {l : List D} {i : Int} {d : D} (h : Rps K ct F vs l) (e : atI l i = some d) : ∃ v, atI vs i = some v ∧ Rp K ct F v d := by
  unfold atI at e ⊢
  rw [h.len]
  cases q : ixN l.length i with
  | none =>
    rw [q] at e
    cases e
  | some j =>
    rw [q] at e
    exact h.get' e
theorem opv_ix : OpV X.K ct (rIx X.K) oIx := by
  intro S H x y d e z Q live rx ry ho hq
  unfold oIx at ho
  split at ho
  · obtain ⟨a, vs, rfl, h1, t1⟩ := rx.lstE
    obtain ⟨v, e1, r1⟩ := t1.at ho
    exact .inl ⟨_, _, _, _, rfl, ry.intE, SqL.of (off_le _ _ h1), e1, hq _ H (Same.refl _) r1⟩
  · obtain ⟨a, vs, rfl, h1, t1⟩ := rx.tupE
    obtain ⟨v, e1, r1⟩ := t1.at ho
    exact .inr (.inl ⟨_, _, _, _, rfl, ry.intE, sqT_le h1, e1, hq _ H (Same.refl _) r1⟩)
  · obtain ⟨a, vs, rfl, h1, t1⟩ := rx.ctupE
    obtain ⟨v, e1, r1⟩ := t1.at ho
    exact .inr (.inl ⟨_, _, _, _, rfl, ry.intE, sqT_le h1, e1, hq _ H (Same.refl _) r1⟩)
  · rename_i s i
    split at ho
    · cases q : atI s.cps.toList i with
      | none =>
        rw [q] at ho
        cases ho
      | some c =>
        rw [q] at ho
        cases ho
        exact .inr (.inr ⟨_, _, _, rx.strE, ry.intE, by assumption, q, hq _ H (Same.refl _) (.str _)⟩)
    · cases ho
  · rename_i ns i
    cases q : atI ns i with
    | none =>
      rw [q] at ho
      cases ho
    | some n =>
      rw [q] at ho
      cases ho
      obtain ⟨a, rfl, h1⟩ := rx.scrE
      exact .inl ⟨_, _, _, _, rfl, ry.intE, off_le.seq h1, at_map q, hq _ H (Same.refl _) (.int _)⟩
  · cases ho
/-- x in y -/
def oIn (neg : Bool) (d : D) : D → Option D
  | .lst l => if d.eok && (D.lst l).eok then some (.bl (if neg then !(l.any fun z => PyData.eqv z.py d.py) else l.any fun z => PyData.eqv z.py d.py)) else none
  | _ => none
theorem pyAll_map : ∀ l : List D, D.pyAll l = l.map D.py
  | [] => by simp [D.pyAll]
  | d :: l => by simp [D.pyAll, pyAll_map l]
theorem any_py (l : List D) (d : PyData) : ((D.pyAll l).any fun z => PyData.eqv z d) = l.any fun z => PyData.eqv z.py d := by
  rw [pyAll_map, List.any_map]
  rfl
theorem opv_inD : OpV X.K ct (rInD X.K) (oIn false) := by
  intro S H x y d e z Q live rx ry ho hq
  unfold oIn at ho
  split at ho
  · rename_i l
    split at ho
    · rename_i c
      cases ho
      simp only [D.eok, Bool.and_eq_true] at c
      have h2 := (ry.mono off_le).dp c.2.1
      simp only [D.py] at h2 c
      refine ⟨_, D.pyAll l, (rx.mono off_le).dp c.1.1, h2, c.1.2, c.2.2, ?_⟩
      rw [any_py]
      exact hq _ H (Same.refl _) (.bl _)
    · cases ho
  · cases ho
theorem opv_notInD : OpV X.K ct (rNotInD X.K) (oIn true) := by
  intro S H x y d e z Q live rx ry ho hq
  unfold oIn at ho
  split at ho
  · rename_i l
    split at ho
    · rename_i c
      cases ho
      simp only [D.eok, Bool.and_eq_true] at c
      have h2 := (ry.mono off_le).dp c.2.1
      simp only [D.py] at h2 c
      refine ⟨_, D.pyAll l, (rx.mono off_le).dp c.1.1, h2, c.1.2, c.2.2, ?_⟩
      rw [any_py]
      exact hq _ H (Same.refl _) (.bl _)
    · cases ho
  · cases ho
theorem opv_pow : OpV X.K ct (rI (fun i j => 0 ≤ j ∧ (Builtin.Int.intBits i : Int) * j ≤ 2 ^ 27) fun i j => .int (i ^ j.toNat)) (oIC (fun i j => decide (0 ≤ j) && decide ((Builtin.Int.intBits i : Int) * j ≤ 2 ^ 27)) fun i j => .int (i ^ j.toNat)) := opv_IC _ _ (fun i j h => by
  rw [Bool.and_eq_true] at h
  exact ⟨of_decide_eq_true h.1, of_decide_eq_true h.2⟩) fun _ _ _ => .int _
def oInT (neg : Bool) (d : D) : D → Option D
  | .tup l => if d.eok && (D.tup l).eok then some (.bl (if neg then !(l.any fun z => PyData.eqv z.py d.py) else l.any fun z => PyData.eqv z.py d.py)) else none
  | .ctup l => if d.eok && (D.ctup l).eok then some (.bl (if neg then !(l.any fun z => PyData.eqv z.py d.py) else l.any fun z => PyData.eqv z.py d.py)) else none
  | _ => none
theorem opv_inT : OpV X.K ct (rInT X.K) (oInT false) := by
  intro S H x y d e z Q live rx ry ho hq
  unfold oInT at ho
  split at ho <;> first | cases ho | skip
  all_goals
    rename_i l
    split at ho
    · rename_i c
      cases ho
      simp only [D.eok, Bool.and_eq_true] at c
      have h2 := (ry.mono off_le).dp c.2.1
      simp only [D.py] at h2 c
      refine ⟨_, D.pyAll l, (rx.mono off_le).dp c.1.1, h2, c.1.2, c.2.2, ?_⟩
      rw [any_py]
      exact hq _ H (Same.refl _) (.bl _)
    · cases ho
end
end Vl

set_option Elab.async false
set_option linter.all false
set_option maxRecDepth 100000
set_option maxHeartbeats 2000000
/-! Vc: expressions over data: the lifted rules. -/
namespace Vl
open PySem PySem.Spec PyProof.Rows L2 Sb
section
variable {X : Cx} {B : Bs} {Z : ZX} {a b c e : Expr} {es : List Expr} {pos : Pos} {f g h : Ev D} {fs : Ev (List D)} {ft gt : Ev Bool}
/-! names, constants -/
def fVar (i : Nat) : Ev D := fun env => match env[i]? with
  | some (.sh d) => .val d env
  | some (.ow d) => .val d (env.set i (.sh d))
  | _ => .stuck
theorem de_var {x : Str} {i : Nat} (hN : X.N[i]? = some x) (hv : Vis X.env.scope x) (hd : (x == ("__debug__" : Str)) = false := by decide) (hcd : (x == ("__classdict__" : Str)) = false := by decide) : DE X B Z (.Name x pos) (fVar i) := by
  refine ⟨PE.weak (pe_var hN hv hd hcd) fun σ H Q ⟨G, env, c, p⟩ => ?_⟩
  unfold fVar at p
  split at p
  · rename_i d hd
    obtain ⟨v, h1, h2⟩ := c.sh i d hd
    exact ⟨v, h1, p G H Mono.refl c v h2⟩
  · rename_i d hd
    obtain ⟨a, h1, h2, m, c', r⟩ := c.freeze hd
    exact ⟨_, h2, p _ H m c' _ r⟩
  · exact p.elim
def fC (d : D) : Ev D := fun env => .val d env
theorem de_const {v : V} {d : D} (h : PE X e (tC v)) (r : ∀ F, Rp X.K B.ct F v d) : DE X B Z e (fC d) :=
  ⟨PE.weak h fun σ H Q ⟨G, env, c, p⟩ => p G H Mono.refl c v (r _)⟩
theorem de_int {i j pos} : DE X B Z (.Constant (.int i) j pos) (fC (.int i)) := de_const pe_int fun _ => .int _
theorem de_bl {b j pos} : DE X B Z (.Constant (.bool b) j pos) (fC (.bl b)) := de_const pe_bl fun _ => .bl _
theorem de_non {j pos} : DE X B Z (.Constant .none j pos) (fC .non) := de_const pe_non fun _ => .non
theorem de_str {x j pos} : DE X B Z (.Constant (.str x) j pos) (fC (.str x)) := de_const pe_str fun _ => .str _
/-! operators -/
def fOp (o : D → D → Option D) (f g : Ev D) : Ev D := fun env => (f env).bind fun d e1 => (g e1).bind fun e e2 => Out.opt (o d e) e2
theorem lift_op {r : R2} {o : D → D → Option D} (ov : OpV X.K B.ct r o) (σ : L2.St) (H : Hp) (Q : VK) (hq : liftE X.K B Z (fOp o f g) σ H Q) : tOp r (liftE X.K B Z f) (liftE X.K B Z g) σ H Q := by
  obtain ⟨G, env, c, p⟩ := hq
  refine ⟨G, env, c, post_imp (post_bind p) fun d e1 G1 H1 m1 c1 p1 v rv => ⟨G1, e1, c1, post_imp (post_bind p1) fun d2 e2 G2 H2 m2 c2 p2 w rw' => ?_⟩⟩
  cases ho : o d d2 with
  | none =>
    rw [ho] at p2
    exact p2.elim
  | some z =>
    rw [ho] at p2
    exact ov G2.S H2 v w d d2 z Q c2.live (rv.mono m2.same) rw' ho fun u H' s' ru => p2 G2 H' (c2.mono s') (c2.same s') u ru
theorem de_op {op : Operator} {r : R2} {o : D → D → Option D} (ho : OpR X (binaryOp op) r) (ov : OpV X.K B.ct r o) (ha : DE X B Z a f) (hb : DE X B Z b g) : DE X B Z (.BinOp a op b pos) (fOp o f g) :=
  ⟨PE.weak (pe_op ho ha.pe hb.pe) (lift_op ov)⟩
theorem de_cmp {op : CmpOp} {r : R2} {o : D → D → Option D} (ho : OpR X (compareOp op) r) (ov : OpV X.K B.ct r o) (ha : DE X B Z a f) (hb : DE X B Z b g) (hm : behindInMarks op b = false) : DE X B Z (.Compare a [op] [b] pos) (fOp o f g) :=
  ⟨PE.weak (pe_cmpR ho ha.pe hb.pe hm) (lift_op ov)⟩
theorem de_ix (ov : OpV X.K B.ct (rIx X.K) oIx) (ha : DE X B Z a f) (hb : DE X B Z b g) (hs : PlainIx b) : DE X B Z (.Subscript a b pos) (fOp oIx f g) :=
  ⟨PE.weak (pe_ix ix_seq ha.pe hb.pe hs) (lift_op ov)⟩
/-- x[e], x an owned thing that stays so -/
def fIxO (i : Nat) (g : Ev D) : Ev D := fun env => match env[i]? with
  | some (.ow (.lst l)) => (g env).bind fun e e2 => match e2[i]? with
    | some (.ow (.lst m)) => Out.opt (oIx (.lst m) e) e2
    | _ => .stuck
  | some (.io (.lst l)) => (g env).bind fun e e2 => match e2[i]? with
    | some (.io (.lst m)) => Out.opt (oIx (.lst m) e) e2
    | _ => .stuck
  | _ => .stuck
theorem ix_own {b : Bool} {i : Nat} {m : List D} {env : List Slot} {G : Gh} {σ : L2.St} {H : Hp} {w : V} {d z : D} {Q : VK} (c : Cfg X.K B G env σ H) (he : env[i]? = some (own b (.lst m))) (rw' : Rp X.K B.ct (off G.S H) w d) (ho : oIx (.lst m) d = some z)
    (q : ∀ v, Rp X.K B.ct (off G.S H) v z → Q v H) : ∃ a, σ[i]? = some (some (.ref a)) ∧ rIx X.K (.ref a) w H Q := by
  obtain ⟨a, h1, h2, vs, h3, h4⟩ := c.own he
  cases d with
  | int k =>
    obtain ⟨v, e1, r1⟩ := h4.at ho
    exact ⟨a, h2, .inl ⟨_, _, _, _, rfl, rw'.intE, SqL.of h3, e1, q v r1⟩⟩
  | _ => cases ho
theorem de_ixO {x : Str} {i : Nat} {apos : Pos} (hN : X.N[i]? = some x) (hv : Vis X.env.scope x) (hb : DE X B Z b g) (hs : PlainIx b) (hd : (x == ("__debug__" : Str)) = false := by decide) (hcd : (x == ("__classdict__" : Str)) = false := by decide) :
    DE X B Z (.Subscript (.Name x apos) b pos) (fIxO i g) := by
  refine ⟨PE.weak (pe_ix ix_seq (pe_var hN hv hd hcd) hb.pe hs) fun σ H Q ⟨G, env, c, p⟩ => ?_⟩
  have key : ∀ {e2 : List Slot} {G2 : Gh} {H2 : Hp} {b : Bool} {m : List D} {d : D} {w : V} (a : Addr), σ[i]? = some (some (.ref a)) → Cfg X.K B G2 e2 σ H2 → e2[i]? = some (own b (.lst m)) → Rp X.K B.ct (off G2.S H2) w d →
      postG X.K B Z G2 σ H2 (Out.opt (oIx (.lst m) d) e2) (fun d _ G' H' => ∀ v, Rp X.K B.ct (off G'.S H') v d → Q v H') → rIx X.K (.ref a) w H2 Q := by
    intro e2 G2 H2 b m d w a ha c2 he rw' p2
    cases ho : oIx (.lst m) d with
    | none =>
      rw [ho] at p2
      exact p2.elim
    | some z =>
      rw [ho] at p2
      obtain ⟨a', h2, h3⟩ := ix_own c2 he rw' ho fun v rv => p2 G2 H2 Mono.refl c2 v rv
      rw [ha] at h2
      cases h2
      exact h3
  unfold fIxO at p
  split at p
  · rename_i l hl
    obtain ⟨a, h1, h2, _⟩ := c.own (b := false) hl
    refine ⟨_, h2, G, env, c, post_imp (post_bind p) fun d e2 G2 H2 m2 c2 p2 w rw' => ?_⟩
    split at p2
    · exact key (b := false) a h2 c2 (by assumption) rw' p2
    · exact p2.elim
  · rename_i l hl
    obtain ⟨a, h1, h2, _⟩ := c.own (b := true) hl
    refine ⟨_, h2, G, env, c, post_imp (post_bind p) fun d e2 G2 H2 m2 c2 p2 w rw' => ?_⟩
    split at p2
    · exact key (b := true) a h2 c2 (by assumption) rw' p2
    · exact p2.elim
  · exact p.elim
/-! arguments, displays -/
def fNil : Ev (List D) := fun env => .val [] env
def fCons (f : Ev D) (fs : Ev (List D)) : Ev (List D) := fun env => (f env).bind fun d e1 => (fs e1).bind fun l e2 => .val (d :: l) e2
theorem da_nil : DA X B Z [] fNil := ⟨PA.weak pa_nil fun σ H Q ⟨G, env, c, p⟩ => p G H Mono.refl c [] .nil⟩
theorem da_cons (ha : DE X B Z e f) (hr : DA X B Z es fs) (hs : starEach (e :: es) X.env = (false, eval e X.env) :: starEach es X.env := by rfl) : DA X B Z (e :: es) (fCons f fs) :=
  ⟨PA.weak (pa_cons ha.pe hr.pa hs) fun σ H Q ⟨G, env, c, p⟩ =>
    ⟨G, env, c, post_imp (post_bind p) fun d e1 G1 H1 m1 c1 p1 v rv => ⟨G1, e1, c1, post_imp (post_bind p1) fun l e2 G2 H2 m2 c2 p2 vs rvs => p2 G2 H2 Mono.refl c2 (v :: vs) (.cons (rv.mono m2.same) rvs)⟩⟩⟩
def fTup (fs : Ev (List D)) : Ev D := fun env => (fs env).bind fun l e => if l.length ≤ 1000 then .val (.tup l) e else .stuck
theorem small_line {n : Nat} (h : n ≤ 1000) : n ≤ sizeLine := Nat.le_trans h (by decide)
theorem de_tup {k} (h : DA X B Z es fs) : DE X B Z (.Tuple es k pos) (fTup fs) :=
  ⟨PE.weak (pe_tup h.pa) fun σ H Q ⟨G, env, c, p⟩ => ⟨G, env, c, post_imp (post_bind p) fun l e1 G1 H1 m1 c1 p1 vs rvs => by
    by_cases hl : l.length ≤ 1000
    · rw [if_pos hl] at p1
      exact ⟨by rw [rvs.len]; exact small_line hl, fun q hq => p1 G1 _ (c1.mono (Sb.Same.upd hq)) (c1.same (Sb.Same.upd hq)) _ (new_tup c1.live hq rvs)⟩
    · rw [if_neg hl] at p1
      exact p1.elim⟩⟩
def fLst (fs : Ev (List D)) : Ev D := fun env => (fs env).bind fun l e => if l.length ≤ 1000 then .val (.lst l) e else .stuck
theorem de_lst (h : DA X B Z es fs) : DE X B Z (.List es pos) (fLst fs) :=
  ⟨PE.weak (pe_lst h.pa) fun σ H Q ⟨G, env, c, p⟩ => ⟨G, env, c, post_imp (post_bind p) fun l e1 G1 H1 m1 c1 p1 vs rvs => by
    by_cases hl : l.length ≤ 1000
    · rw [if_pos hl] at p1
      exact ⟨by rw [rvs.len]; exact small_line hl, fun q hq => p1 G1 _ (c1.mono (Sb.Same.upd hq)) (c1.same (Sb.Same.upd hq)) _ (new_lst c1.live hq rvs)⟩
    · rw [if_neg hl] at p1
      exact p1.elim⟩⟩
/-! calls of built-ins -/
def fCB (o : List D → Option D) (fs : Ev (List D)) : Ev D := fun env => (fs env).bind fun l e => Out.opt (o l) e
theorem lift_cb {r : List V → Hp → VK → Prop} {o : List D → Option D} (ov : CallV X.K B.ct r o) (σ : L2.St) (H : Hp) (Q : VK) (hq : liftE X.K B Z (fCB o fs) σ H Q) : tCB r (liftA X.K B Z fs) σ H Q := by
  obtain ⟨G, env, c, p⟩ := hq
  refine ⟨G, env, c, post_imp (post_bind p) fun l e1 G1 H1 m1 c1 p1 vs rvs => ?_⟩
  cases ho : o l with
  | none =>
    rw [ho] at p1
    exact p1.elim
  | some z =>
    rw [ho] at p1
    exact ov G1.S H1 vs l z Q c1.live rvs ho fun u H' s' ru => p1 G1 H' (c1.mono s') (c1.same s') u ru
theorem de_callB {id : String} {x : Str} {px : Pos} {r : List V → Hp → VK → Prop} {o : List D → Option D} (hc : CallR X (.builtin id) r) (ov : CallV X.K B.ct r o) (hg : Gl X x) (hm : X.mg x = none) (hv : bootBuiltins x = some (.builtin id)) (ha : DA X B Z (e :: es) fs)
    (hn : x ≠ "__name__" := by decide) (hdb : (x == ("__debug__" : Str)) = false := by decide) (he : starEach (e :: es) X.env = (false, eval e X.env) :: starEach es X.env := by rfl) (hpl : (backTo pos (starEach es X.env)).any (·.1) = false := by rfl) :
    DE X B Z (.Call (.Name x px) (e :: es) [] pos) (fCB o fs) := ⟨PE.weak (pe_callB hc hg hm hv ha.pa hn hdb he hpl) (lift_cb ov)⟩
theorem de_callTy {T : String} {x : Str} {px : Pos} {r : List V → Hp → VK → Prop} {o : List D → Option D} (hc : CallR X (.type T) r) (ov : CallV X.K B.ct r o) (hg : Gl X x) (hm : X.mg x = none) (hv : bootBuiltins x = some (.type T)) (ha : DA X B Z (e :: es) fs)
    (hn : x ≠ "__name__" := by decide) (hdb : (x == ("__debug__" : Str)) = false := by decide) (he : starEach (e :: es) X.env = (false, eval e X.env) :: starEach es X.env := by rfl) (hpl : (backTo pos (starEach es X.env)).any (·.1) = false := by rfl) :
    DE X B Z (.Call (.Name x px) (e :: es) [] pos) (fCB o fs) := ⟨PE.weak (pe_callTy hc hg hm hv ha.pa hn hdb he hpl) (lift_cb ov)⟩
/-! truth -/
def fB (f : Ev D) : Ev Bool := fun env => (f env).bind fun d e => match d with
  | .bl b => .val b e
  | _ => .stuck
theorem dt_val (h : DE X B Z e f) (he : ∀ whole, isTrue e X.env whole = (do let v ← whole; standAt e.pos; holding [v] (truthy v)) := by intro _; rfl) : DT X B Z e (fB f) :=
  ⟨PT.weak (pt_val h.pe he) fun σ H Q ⟨G, env, c, p⟩ => ⟨G, env, c, post_imp (post_bind p) fun d e1 G1 H1 m1 c1 p1 v rv => by
    cases d with
    | bl k => exact ⟨k, rv.blE, p1 G1 H1 Mono.refl c1⟩
    | _ => exact p1.elim⟩⟩
theorem dt_cmp {op : CmpOp} {r : R2} {o : D → D → Option D} (ho : OpR X (compareOp op) r) (ov : OpV X.K B.ct r o) (ha : DE X B Z a f) (hb : DE X B Z b g) (hm : behindInMarks op b = false) : DT X B Z (.Compare a [op] [b] pos) (fB (fOp o f g)) :=
  ⟨PT.weak (pt_cmpR ho ha.pe hb.pe hm) fun σ H Q ⟨G, env, c, p⟩ => lift_op ov σ H _ ⟨G, env, c, post_imp (post_bind p) fun d e1 G1 H1 m1 c1 p1 v rv => by
    cases d with
    | bl k => exact ⟨k, rv.blE, p1 G1 H1 Mono.refl c1⟩
    | _ => exact p1.elim⟩⟩
/-- a value's truth -/
def D.tru : D → Option Bool
  | .non => some false
  | .bl b => some b
  | .int i => some (i != 0)
  | .str s => if s.length ≤ sizeLine then some ((s.length : Int) != 0) else none
  | .lst l => some (!l.isEmpty)
  | .tup l => some (!l.isEmpty)
  | .ctup l => some (!l.isEmpty)
  | .dk ks l => some (!l.isEmpty)
  | _ => none
theorem Rps.emp {K : PySem.W.Frag} {ct : Ct} {F : Hp} {vs : List V} {l : List D} (h : Rps K ct F vs l) : vs.isEmpty = l.isEmpty := by
  cases h <;> rfl
theorem zip_emp {α β γ : Type} : ∀ {ks : List α} {vs : List β} {l : List γ}, ks.length = vs.length → vs.length = l.length → (ks.zip vs).isEmpty = l.isEmpty
  | [], [], [], _, _ => rfl
  | _ :: _, _ :: _, _ :: _, _, _ => rfl
theorem tru_v {S : Addr → Prop} {H : Hp} {v : V} {d : D} {k : Bool} (r : Rp X.K B.ct (off S H) v d) (e : d.tru = some k) : TruV X.K v H k := by
  unfold D.tru at e
  split at e
  · cases e
    rw [r.nonE]
    exact rfl
  · cases e
    rw [r.blE]
    exact rfl
  · cases e
    rw [r.intE]
    exact rfl
  · split at e
    · cases e
      rw [r.strE]
      exact ⟨by assumption, rfl⟩
    · cases e
  · cases e
    obtain ⟨a, vs, rfl, h1, t1⟩ := r.lstE
    exact .inl ⟨vs, SqL.of (off_le _ _ h1), by rw [t1.emp]⟩
  · cases e
    obtain ⟨a, vs, rfl, h1, t1⟩ := r.tupE
    exact .inr (.inl ⟨vs, sqT_le h1, by rw [t1.emp]⟩)
  · cases e
    obtain ⟨a, vs, rfl, h1, t1⟩ := r.ctupE
    exact .inr (.inl ⟨vs, sqT_le h1, by rw [t1.emp]⟩)
  · cases e
    cases r with
    | dk hl h t => exact .inr (.inr ⟨_, off_le _ _ h, by rw [zip_emp hl t.len]⟩)
  · cases e
def fTru (f : Ev D) : Ev Bool := fun env => (f env).bind fun d e => Out.opt d.tru e
theorem dt_truth (h : DE X B Z e f) (he : ∀ whole, isTrue e X.env whole = (do let v ← whole; standAt e.pos; holding [v] (truthy v)) := by intro _; rfl) : DT X B Z e (fTru f) :=
  ⟨PT.weak (pt_truth h.pe he) fun σ H Q ⟨G, env, c, p⟩ => ⟨G, env, c, post_imp (post_bind p) fun d e1 G1 H1 m1 c1 p1 v rv => by
    cases ho : d.tru with
    | none =>
      rw [ho] at p1
      exact p1.elim
    | some k =>
      rw [ho] at p1
      exact ⟨k, tru_v rv ho, p1 G1 H1 Mono.refl c1⟩⟩⟩
def fNotT (f : Ev Bool) : Ev Bool := fun env => (f env).bind fun b e => .val (!b) e
theorem dt_not (h : DT X B Z e ft) : DT X B Z (.UnaryOp .Not e pos) (fNotT ft) :=
  ⟨PT.weak (pt_not h.pt) fun σ H Q ⟨G, env, c, p⟩ => ⟨G, env, c, post_imp (post_bind p) fun d e1 G1 H1 m1 c1 p1 => p1 G1 H1 Mono.refl c1⟩⟩
def fAndT (f g : Ev Bool) : Ev Bool := fun env => (f env).bind fun b e => if b = true then g e else .val false e
def fOrT (f g : Ev Bool) : Ev Bool := fun env => (f env).bind fun b e => if b = true then .val true e else g e
theorem dw_and1 (h : DT X B Z a ft) : DW X B Z (.BoolOp .And [a] pos) ft := ⟨pw_and1 h.pt⟩
theorem dw_or1 (h : DT X B Z a ft) : DW X B Z (.BoolOp .Or [a] pos) ft := ⟨pw_or1 h.pt⟩
theorem dw_and (ha : DT X B Z a ft) (hb : DW X B Z (.BoolOp .And (b :: es) pos) gt) : DW X B Z (.BoolOp .And (a :: b :: es) pos) (fAndT ft gt) :=
  ⟨PW.weak (pw_and ha.pt hb.pw) fun σ H Q ⟨G, env, c, p⟩ => ⟨G, env, c, post_imp (post_bind p) fun k e1 G1 H1 m1 c1 p1 => by
    cases k with
    | true => exact iteT ⟨G1, e1, c1, p1⟩
    | false => exact iteF (p1 G1 H1 Mono.refl c1)⟩⟩
theorem dw_or (ha : DT X B Z a ft) (hb : DW X B Z (.BoolOp .Or (b :: es) pos) gt) : DW X B Z (.BoolOp .Or (a :: b :: es) pos) (fOrT ft gt) :=
  ⟨PW.weak (pw_or ha.pt hb.pw) fun σ H Q ⟨G, env, c, p⟩ => ⟨G, env, c, post_imp (post_bind p) fun k e1 G1 H1 m1 c1 p1 => by
    cases k with
    | true => exact iteT (p1 G1 H1 Mono.refl c1)
    | false => exact iteF ⟨G1, e1, c1, p1⟩⟩⟩
theorem DW.dt (h : DW X B Z e ft) : DT X B Z e ft := ⟨h.pw.pt⟩
/-! and, or, not as values; if .. else -/
def fNot (f : Ev D) : Ev D := fun env => (f env).bind fun d e => match d with
  | .bl b => .val (.bl (!b)) e
  | _ => .stuck
theorem de_not (h : DE X B Z e f) : DE X B Z (.UnaryOp .Not e pos) (fNot f) :=
  ⟨PE.weak (pe_not h.pe) fun σ H Q ⟨G, env, c, p⟩ => ⟨G, env, c, post_imp (post_bind p) fun d e1 G1 H1 m1 c1 p1 v rv => by
    cases d with
    | bl k => exact ⟨k, rv.blE, p1 G1 H1 Mono.refl c1 _ (.bl _)⟩
    | _ => exact p1.elim⟩⟩
def fAnd (f g : Ev D) : Ev D := fun env => (f env).bind fun d e => match d with
  | .bl true => g e
  | .bl false => .val (.bl false) e
  | _ => .stuck
def fOr (f g : Ev D) : Ev D := fun env => (f env).bind fun d e => match d with
  | .bl true => .val (.bl true) e
  | .bl false => g e
  | _ => .stuck
theorem de_one {op} (h : DE X B Z a f) : DE X B Z (.BoolOp op [a] pos) f := ⟨pe_one h.pe⟩
theorem de_and (ha : DE X B Z a f) (hb : DE X B Z (.BoolOp .And (b :: es) pos) g) : DE X B Z (.BoolOp .And (a :: b :: es) pos) (fAnd f g) :=
  ⟨PE.weak (pe_and ha.pe hb.pe) fun σ H Q ⟨G, env, c, p⟩ => ⟨G, env, c, post_imp (post_bind p) fun d e1 G1 H1 m1 c1 p1 v rv => by
    cases d with
    | bl k =>
      refine ⟨k, rv.blE, ?_⟩
      cases k with
      | true => exact iteT ⟨G1, e1, c1, p1⟩
      | false => exact iteF (p1 G1 H1 Mono.refl c1 _ (.bl _))
    | _ => exact p1.elim⟩⟩
theorem de_or (ha : DE X B Z a f) (hb : DE X B Z (.BoolOp .Or (b :: es) pos) g) : DE X B Z (.BoolOp .Or (a :: b :: es) pos) (fOr f g) :=
  ⟨PE.weak (pe_or ha.pe hb.pe) fun σ H Q ⟨G, env, c, p⟩ => ⟨G, env, c, post_imp (post_bind p) fun d e1 G1 H1 m1 c1 p1 v rv => by
    cases d with
    | bl k =>
      refine ⟨k, rv.blE, ?_⟩
      cases k with
      | true => exact iteT (p1 G1 H1 Mono.refl c1 _ (.bl _))
      | false => exact iteF ⟨G1, e1, c1, p1⟩
    | _ => exact p1.elim⟩⟩
def fIte {α : Type} (t : Ev Bool) (f g : Ev α) : Ev α := fun env => (t env).bind fun b e => if b = true then f e else g e
theorem de_ite (ht : DT X B Z c ft) (ha : DE X B Z a f) (hb : DE X B Z b g) : DE X B Z (.IfExp c a b pos) (fIte ft f g) :=
  ⟨PE.weak (pe_ifExp ht.pt ha.pe hb.pe) fun σ H Q ⟨G, env, c, p⟩ => ⟨G, env, c, post_imp (post_bind p) fun k e1 G1 H1 m1 c1 p1 => by
    cases k with
    | true => exact iteT ⟨G1, e1, c1, p1⟩
    | false => exact iteF ⟨G1, e1, c1, p1⟩⟩⟩
/-! a < b < c -/
def fChain (o o' : D → D → Option D) (f g h : Ev D) : Ev D := fun env => (f env).bind fun d e1 => (g e1).bind fun e e2 => match o d e with
  | some (.bl true) => (h e2).bind fun k e3 => Out.opt (o' e k) e3
  | some (.bl false) => .val (.bl false) e2
  | _ => .stuck
theorem lift_chain {r r' : R2} {o o' : D → D → Option D} (ov : OpV X.K B.ct r o) (ov' : OpV X.K B.ct r' o') (σ : L2.St) (H : Hp) (Q : VK) (hq : liftE X.K B Z (fChain o o' f g h) σ H Q) :
    tChain r r' (liftE X.K B Z f) (liftE X.K B Z g) (liftE X.K B Z h) σ H Q := by
  obtain ⟨G, env, c, p⟩ := hq
  refine ⟨G, env, c, post_imp (post_bind p) fun d e1 G1 H1 m1 c1 p1 v rv => ⟨G1, e1, c1, post_imp (post_bind p1) fun d2 e2 G2 H2 m2 c2 p2 w rw' => ?_⟩⟩
  split at p2
  · rename_i ho
    refine ov G2.S H2 v w d d2 _ _ c2.live (rv.mono m2.same) rw' ho fun u H' s' ru => ⟨true, ru.blE, iteT ⟨G2, e2, c2.same s', ?_⟩⟩
    refine post_imp (post_later (c2.mono s') (post_bind p2)) fun k e3 G3 H3 m3 c3 p4 t rt => ?_
    cases ho' : o' d2 k with
    | none =>
      rw [ho'] at p4
      exact p4.elim
    | some z =>
      rw [ho'] at p4
      exact ov' G3.S H3 w t d2 k z Q c3.live ((rw'.mono (off_same s')).mono m3.same) rt ho' fun u H' s' ru => p4 G3 H' (c3.mono s') (c3.same s') u ru
  · rename_i ho
    exact ov G2.S H2 v w d d2 _ _ c2.live (rv.mono m2.same) rw' ho fun u H' s' ru => ⟨false, ru.blE, iteF (p2 G2 H' (c2.mono s') (c2.same s') _ (.bl _))⟩
  · exact p2.elim
theorem de_chain {op op' : CmpOp} {r r' : R2} {o o' : D → D → Option D} (ho : OpR X (compareOp op) r) (ov : OpV X.K B.ct r o) (ho' : OpR X (compareOp op') r') (ov' : OpV X.K B.ct r' o') (ha : DE X B Z a f) (hb : DE X B Z b g) (hc : DE X B Z c h)
    (hm : lastMarks [op, op'] [b, c] = false := by with_unfolding_all rfl) : DE X B Z (.Compare a [op, op'] [b, c] pos) (fChain o o' f g h) := ⟨PE.weak (pe_chain ho ho' ha.pe hb.pe hc.pe hm) (lift_chain ov ov')⟩
theorem dt_chain {op op' : CmpOp} {r r' : R2} {o o' : D → D → Option D} (ho : OpR X (compareOp op) r) (ov : OpV X.K B.ct r o) (ho' : OpR X (compareOp op') r') (ov' : OpV X.K B.ct r' o') (ha : DE X B Z a f) (hb : DE X B Z b g) (hc : DE X B Z c h)
    (hm : lastMarks [op, op'] [b, c] = false := by with_unfolding_all rfl) : DT X B Z (.Compare a [op, op'] [b, c] pos) (fB (fChain o o' f g h)) :=
  ⟨PT.weak (pt_chain ho ho' ha.pe hb.pe hc.pe hm) fun σ H Q ⟨G, env, c, p⟩ => lift_chain ov ov' σ H _ ⟨G, env, c, post_imp (post_bind p) fun d e1 G1 H1 m1 c1 p1 v rv => by
    cases d with
    | bl k => exact ⟨k, rv.blE, p1 G1 H1 Mono.refl c1⟩
    | _ => exact p1.elim⟩⟩
/-! slices -/
def fNoPart : Ev (Option Int) := fun env => .val none env
def fPart (f : Ev D) : Ev (Option Int) := fun env => (f env).bind fun d e => match d with
  | .int i => .val (some i) e
  | _ => .stuck
theorem do_none : DO X B Z none fNoPart := ⟨PO.weak po_none fun σ H Q ⟨G, env, c, p⟩ => p G H Mono.refl c⟩
theorem do_some (h : DE X B Z e f) : DO X B Z (some e) (fPart f) := ⟨PO.weak (po_some h.pe) fun σ H Q ⟨G, env, c, p⟩ => ⟨G, env, c, post_imp (post_bind p) fun d e1 G1 H1 m1 c1 p1 v rv => by
    cases d with
    | int k => exact ⟨k, rv.intE, p1 G1 H1 Mono.refl c1⟩
    | _ => exact p1.elim⟩⟩
def fSl (o : D → Option Int → Option Int → Option D) (f : Ev D) (lo hi : Ev (Option Int)) : Ev D := fun env => (f env).bind fun d e1 => (lo e1).bind fun l e2 => (hi e2).bind fun u e3 => Out.opt (o d l u) e3
theorem de_slice {r : V → Option Int → Option Int → Hp → VK → Prop} {o : D → Option Int → Option Int → Option D} {lo hi : Option Expr} {fl fh : Ev (Option Int)} {p2 : Pos} (hr : SlR X r) (ov : SlV X.K B.ct r o) (he : DE X B Z e f) (hl : DO X B Z lo fl) (hu : DO X B Z hi fh) :
    DE X B Z (.Subscript e (.Slice lo hi none p2) pos) (fSl o f fl fh) :=
  ⟨PE.weak (pe_slice hr he.pe hl.po hu.po) fun σ H Q ⟨G, env, c, p⟩ => ⟨G, env, c, post_imp (post_bind p) fun d e1 G1 H1 m1 c1 p1 v rv => ⟨G1, e1, c1, post_imp (post_bind p1) fun l e2 G2 H2 m2 c2 p2 =>
    ⟨G2, e2, c2, post_imp (post_bind p2) fun u e3 G3 H3 m3 c3 p3 => by
      cases ho : o d l u with
      | none =>
        rw [ho] at p3
        exact p3.elim
      | some z =>
        rw [ho] at p3
        exact ov G3.S H3 v d z l u Q c3.live ((rv.mono m2.same).mono m3.same) ho fun u H' s' ru => p3 G3 H' (c3.mono s') (c3.same s') u ru⟩⟩⟩⟩
end
end Vl

set_option Elab.async false
set_option linter.all false
set_option maxRecDepth 100000
set_option maxHeartbeats 2000000
/-! Sbe: enumerate of a tuple. -/
namespace Sb
open PySem PySem.W PySem.Calls PyProof.Rows
theorem meets_enum1 {v : Value} {o : Obj} {Z : Heap → Prop} (B : Begins v o Z) :
    Meets (Builtin.«enumerate.__new__» ⟨[.type "enumerate", v], []⟩) (fun _ R s => Z s.heap ∧
      R (.ok (.ret (.ref (s.heap.push o).objs.size))) { s with heap := (s.heap.push o).push { cls := .type "enumerate", data := .fields #[.none, .bool false, .ref s.heap.objs.size, rawInt 0, .none, .none] } }) :=
  .of_wp fun prog w A R s hz => by
    obtain ⟨hp, gs, dr, tk, os⟩ := s
    obtain ⟨z1, fin⟩ := hz
    have hsub := sub_enumerate
    have begun : ∀ {A2 : Around} {E2 : Value → Shared → Prop} {Q2 : Value → Shared → Prop}, Q2 (.ref hp.objs.size) ⟨hp.push o, gs, dr, tk, os⟩ → wpAny (model prog w) A2 (pyIter v) Q2 E2 ⟨hp, gs, dr, tk, os⟩ :=
      fun q => B.iter prog w _ _ ⟨hp, gs, dr, tk, os⟩ _ z1 q
    wp_walk using begun
    refine wpAny_stack_any fun st => wpAny_pure ?_
    split
    · rename_i c _ _ _ _ _
      cases (c == Value.type "enumerate")
      all_goals (wp_walk using begun; exact ⟨_, rfl, fin⟩)
    · wp_walk using begun
      exact ⟨_, rfl, fin⟩
end Sb
namespace Sb
open PySem PySem.W PySem.Calls PyProof.Rows
section
variable {prog : Program} {w : World} {A : Around} {E : Value → Shared → Prop} {s : Shared}
/-- enumerate(v): its two new cells -/
theorem enum1_begins {v : Value} {o : Obj} {Z : Heap → Prop} {Q : Value → Shared → Prop} (B : Begins v o Z) (z1 : Z s.heap)
    (fin : ∀ h', IsEnum h' (s.heap.objs.size + 1) s.heap.objs.size 0 .none → h'.get? s.heap.objs.size = some o → (∀ b u, s.heap.get? b = some u → h'.get? b = some u) → Q (.ref (s.heap.objs.size + 1)) { s with heap := h' }) :
    wpAny (model prog w) A (call (.type "enumerate") [v]) Q E s := by
  have grow : (s.heap.push o).objs.size = s.heap.objs.size + 1 := Heap.size_push ..
  have top : IsEnum ((s.heap.push o).push { cls := .type "enumerate", data := .fields #[.none, .bool false, .ref s.heap.objs.size, rawInt 0, .none, .none] }) (s.heap.objs.size + 1) s.heap.objs.size 0 .none := by
    have q := Heap.get?_push_size (s.heap.push o) (o := { cls := .type "enumerate", data := .fields #[.none, .bool false, .ref s.heap.objs.size, rawInt 0, .none, .none] }) rfl
    rwa [grow] at q
  refine callType_new F.called_enumerate (by decide) (F.typeCall_enumerate_1 _) (F.newCall_enumerate_1 _) (fun obj => F.args_object_init_2 obj _) F.entry_enumerate_new (meets_enum1 B) ⟨z1, ?_⟩
  show _ ∧ _
  rw [grow]
  exact ⟨⟨_, top, rfl⟩, fin _ top (Heap.get?_push_of_some _ (Heap.get?_push_size _ B.free)) fun b u x => Heap.get?_push_of_some _ (Heap.get?_push_of_some _ x)⟩
end
end Sb
namespace Sb
open PySem PySem.Spec PySem.Calls PyProof.Rows L2
/-- the tuple at a, its items xs, in new pairs with their numbers -/
def ItEt (K : PySem.W.Frag) (a : Addr) (xs : List V) : It :=
  ⟨fun i H => SqT K H a xs ∧ i < xs.length, fun i H v H' => ∃ t x, v = .ref t ∧ H t = none ∧ H' = upd H t (.tup [.int (i : Nat), x]) ∧ xs[i]? = some x, fun i H => SqT K H a xs ∧ i = xs.length⟩
theorem turn_enumT {P : Program} {w : World} {K : PySem.W.Frag} {elts : List Expr} {kk : Nat} {tpos : Pos} (a e it : Addr) (xs : List V) :
    Turn P w K (.Tuple elts kk tpos) (ItEt K a xs) [e, it] e (fun i h => (∃ old, IsEnum h e it ((i : Nat) : Int) old) ∧ h.IsTupleIter it a i ∧ e ≠ it ∧ a ≠ it ∧ a ≠ e) where
  mem := by simp
  obj := fun i h st b hb => by
    obtain ⟨⟨old, z⟩, ⟨o, ho, _, hd⟩, _⟩ := st
    rcases (show b = e ∨ b = it by simpa using hb) with rfl | rfl
    · exact ⟨_, z, fun v q => nomatch q⟩
    · exact ⟨o, ho, fun v q => by rw [hd] at q; cases q⟩
  keep := fun i h h' st k => by
    obtain ⟨⟨old, z⟩, z2, rest⟩ := st
    exact ⟨⟨old, k e (by simp) _ z⟩, z2.at fun o q => k it (by simp) o q, rest⟩
  item := by
    intro X hP hw hK calm i pins s σ H E I free st go
    subst hP hw hK
    obtain ⟨⟨old, he⟩, hit, ne, nai, nae⟩ := st
    obtain ⟨hq, hlt⟩ := go
    obtain ⟨its, rv, tp, hz⟩ := I.tuple hq
    have hx : xs[i]? = some xs[i] := List.getElem?_eq_getElem hlt
    obtain ⟨u, hu, ru⟩ := rv.get hx
    have sz : i < its.toArray.size := by
      have := (List.getElem?_eq_some_iff.mp hu).1
      simpa using this
    have hel : e < s.heap.objs.size := Heap.lt_size he
    have hil : it < s.heap.objs.size := by
      obtain ⟨_, q, _⟩ := hit
      exact Heap.lt_size q
    refine wpAny_pyNext_enum_itemD (fp := [it, a]) (Draws.tuple (A := X.A.in1) (I.ok.hd calm) it a nai its.toArray) he ⟨hit, tp⟩ sz ne (by simp; exact ⟨ne, Ne.symm nae⟩) fun x h' tk px out st' hT hsz hk => ?_
    obtain rfl : x = u := by
      have : its[i]? = some x := by simpa using px
      rw [hu] at this
      exact (Option.some.inj this).symm
    refine ⟨_, rfl, wpAny_letOwnedTupleGo_enum (s := { s with heap := h', toks := tk + 1 }) out fun h2 he2 sb => ?_⟩
    have hT2 : h2.get? s.heap.objs.size = some { cls := .type "tuple", data := .seq #[.int i tk, x] } := (sb.2 _ (Nat.ne_of_gt hel)).trans hT
    have new : ObjOk X.prog X.w (upd H s.heap.objs.size (.tup [.int (i : Nat), xs[i]])) h2 s.heap.objs.size (.tup [.int (i : Nat), xs[i]]) :=
      ⟨by show 2 ≤ sizeLine; decide, [.int i tk, x], .cons ⟨_, rfl⟩ (.cons ru .nil), ⟨_, hT2, rfl, _, rfl⟩⟩
    have I1 : Inv X pins σ (upd H s.heap.objs.size (.tup [.int (i : Nat), xs[i]])) { s with heap := h2, toks := tk + 1 } :=
      I.turnedNew (ch := [e, it]) (fun b ob hb q => (sb.2 b (fun z => hb (by simp [z]))).trans (hk b ob (fun z => hb (by simp [z])) (fun z => hb (by simp [z])) q)) free (Nat.le_refl _) new
    refine ⟨.ref s.heap.objs.size, _, I1, rfl, ⟨_, xs[i], rfl, I.hok.fresh (Nat.le_refl _), rfl, hx⟩, ⟨⟨x, ?_⟩, st'.1.at fun o q => (sb.2 it (Ne.symm ne)).trans q, ne, nai, nae⟩, fun b hb => ?_⟩
    · rw [show ((i + 1 : Nat) : Int) = (i : Int) + 1 by omega]
      exact he2
    · have hb' : b < s.heap.objs.size := by
        rcases (show b = e ∨ b = it by simpa using hb) with rfl | rfl
        · exact hel
        · exact hil
      rw [upd_ne (Nat.ne_of_lt hb')]
      exact (free b hb).1
  done := by
    intro X hP hw hK calm i pins s σ H E I free st stop
    subst hP hw hK
    obtain ⟨⟨old, he⟩, hit, ne, nai, nae⟩ := st
    obtain ⟨hq, rfl⟩ := stop
    obtain ⟨its, rv, tp, hz⟩ := I.tuple hq
    obtain ⟨f0, f1, f2, f3, f4, f5⟩ := free it (by simp)
    have hl := rv.length
    have hn : xs.length = its.toArray.size := by
      rw [List.size_toArray]
      exact hl
    exact wpAny_pyNext_enum_endD (Draws.tuple (A := X.A.in1) (I.ok.hd calm) it a nai its.toArray) he ⟨by rw [← hn]; exact hit, tp⟩ fun h' eb => ⟨rfl, I.turned (t' := s.toks) (fun b o hb q => eb b o hb q) f0 f1 f3 f4 f5⟩
  self := fun A i s Q E st h => by
    obtain ⟨⟨_, he⟩, _⟩ := st
    exact wpAny_pyIter_enum he h
/-- enumerate(e), e a tuple -/
def iEnumT (K : PySem.W.Frag) (ta : TA) : TI := fun σ H R => ta σ H fun vs H1 => ∃ a xs, vs = [.ref a] ∧ SqT K H1 a xs ∧ R (ItEt K a xs) H1
theorem pi_enumT {X : Cx} {e : Expr} {ta : TA} {p pos tpos : Pos} {elts : List Expr} {kk : Nat} (gl : Gl X "enumerate") (no : X.mg "enumerate" = none) (ha : PA X [e] ta) (one : starEach [e] X.env = [(false, eval e X.env)] := by rfl) :
    PI X (.Tuple elts kk tpos) (.Call (.Name "enumerate" p) [e] [] pos) (iEnumT X.K ta) := by
  refine ⟨fun pins s σ H R I h => ?_⟩
  refine Call_ (ld_blt I gl no boot_enumerate (PyProof.Rows.callWith_type1 (thn (ha.run pos pins s σ H _ I h) fun us s1 ⟨vs, H1, I1, r1, a, xs, ex, hq, q⟩ => ?_) one rfl))
  subst ex
  obtain ⟨u, rfl, ru⟩ := vals1 r1
  cases (show u = Value.ref a from ru)
  obtain ⟨its, rv, tp, hz⟩ := I1.tuple hq
  have ha1 : a < s1.heap.objs.size := by
    obtain ⟨o, z, _⟩ := tp
    exact Heap.lt_size z
  refine enum1_begins (begins_tuple a its.toArray) tp fun h' he hit hk => wpAny_pyIter_enum he ?_
  have I2 : Inv X pins σ H1 { s1 with heap := h' } := I1.kept (t' := s1.toks) hk
  refine ⟨s1.heap.objs.size + 1, [s1.heap.objs.size + 1, s1.heap.objs.size], _, _, H1, rfl, I2, turn_enumT a (s1.heap.objs.size + 1) s1.heap.objs.size xs, ⟨⟨.none, he⟩, ⟨_, hit, rfl, rfl⟩, Nat.succ_ne_self _, Nat.ne_of_lt ha1, Nat.ne_of_lt (Nat.lt_succ_of_lt ha1)⟩, fun b hb => ?_, q⟩
  have le : s1.heap.objs.size ≤ b := by
    rcases (show b = s1.heap.objs.size + 1 ∨ b = s1.heap.objs.size by simpa using hb) with rfl | rfl
    · exact Nat.le_add_right _ _
    · exact Nat.le_refl _
  exact I1.fpOk le (I1.hok.fresh le)
theorem walk_enumT {K : PySem.W.Frag} {a : Addr} {xs : List V} : Walk (ItEt K a xs) xs.length (fun H => SqT K H a xs) (YPair (fun i => some (.int (i : Nat))) (fun i => xs[i]?)) :=
  ⟨fun i _ hi q => ⟨q, hi⟩, fun _ q => ⟨q, rfl⟩, fun i H v H' _ q y => by
    obtain ⟨t, x, h1, h2, h3, h4⟩ := y
    exact ⟨t, .int (i : Nat), x, h1, h2, h3, rfl, h4⟩⟩
theorem walk_weaken {J : It} {n : Nat} {G G' : Hp → Prop} {Y : Nat → Hp → V → Hp → Prop} (h : ∀ H, G' H → G H) (w : Walk J n G Y) : Walk J n G' Y :=
  ⟨fun i H hi q => w.goes i H hi (h H q), fun H q => w.stops H (h H q), fun i H x H' hi q y => w.yields i H x H' hi (h H q) y⟩
/-- a list stays a list, a tuple a tuple -/
def StayE (K : PySem.W.Frag) (a : Addr) (xs : List V) (H H' : Hp) : Prop := (SqL K H a xs → SqL K H' a xs) ∧ (SqT K H a xs → SqT K H' a xs)
theorem StayE.same {K : PySem.W.Frag} {a : Addr} {xs : List V} {H H' : Hp} (s : Same H H') : StayE K a xs H H' := ⟨fun z => s.seq z, fun z => sqT_same s z⟩
/-- for i, x in enumerate(e), e a list or a tuple: whatever walks so -/
def iEnumE (K : PySem.W.Frag) (ta : TA) : TI := fun σ H R => ta σ H fun vs H1 => ∃ a xs, vs = [.ref a] ∧ (SqL K H1 a xs ∨ SqT K H1 a xs) ∧
  ∀ J, Walk J xs.length (StayE K a xs H1) (YPair (fun i => some (.int (i : Nat))) (fun i => xs[i]?)) → R J H1
theorem pi_enumE {X : Cx} {e : Expr} {ta : TA} {p pos tpos : Pos} {elts : List Expr} {kk : Nat} (gl : Gl X "enumerate") (no : X.mg "enumerate" = none) (ha : PA X [e] ta) (one : starEach [e] X.env = [(false, eval e X.env)] := by rfl) :
    PI X (.Tuple elts kk tpos) (.Call (.Name "enumerate" p) [e] [] pos) (iEnumE X.K ta) := by
  refine ⟨fun pins s σ H R I h => ?_⟩
  refine Call_ (ld_blt I gl no boot_enumerate (PyProof.Rows.callWith_type1 (thn (ha.run pos pins s σ H _ I h) fun us s1 ⟨vs, H1, I1, r1, a, xs, ex, hq, q⟩ => ?_) one rfl))
  subst ex
  obtain ⟨u, rfl, ru⟩ := vals1 r1
  cases (show u = Value.ref a from ru)
  have two : ∀ b : Addr, b ∈ [s1.heap.objs.size + 1, s1.heap.objs.size] → s1.heap.objs.size ≤ b := fun b hb => by
    rcases (show b = s1.heap.objs.size + 1 ∨ b = s1.heap.objs.size by simpa using hb) with rfl | rfl
    · exact Nat.le_add_right _ _
    · exact Nat.le_refl _
  rcases hq with hq | hq
  · obtain ⟨its, rv, pl, hz⟩ := I1.list hq
    refine call_enumerate_list pl.isList fun h' he hit hsz hk => wpAny_pyIter_enum he ?_
    exact ⟨s1.heap.objs.size + 1, [s1.heap.objs.size + 1, s1.heap.objs.size], _, _, H1, rfl, I1.kept (t' := s1.toks) hk, turn_enum a (s1.heap.objs.size + 1) s1.heap.objs.size, ⟨⟨.none, he⟩, hit, Nat.succ_ne_self _⟩, fun b hb => I1.fpOk (two b hb) (I1.hok.fresh (two b hb)), q _ (walk_weaken (fun H' z => z.1 hq) walk_enum)⟩
  · obtain ⟨its, rv, tp, hz⟩ := I1.tuple hq
    have ha1 : a < s1.heap.objs.size := by
      obtain ⟨o, z, _⟩ := tp
      exact Heap.lt_size z
    refine enum1_begins (begins_tuple a its.toArray) tp fun h' he hit hk => wpAny_pyIter_enum he ?_
    exact ⟨s1.heap.objs.size + 1, [s1.heap.objs.size + 1, s1.heap.objs.size], _, _, H1, rfl, I1.kept (t' := s1.toks) hk, turn_enumT a (s1.heap.objs.size + 1) s1.heap.objs.size xs, ⟨⟨.none, he⟩, ⟨_, hit, rfl, rfl⟩, Nat.succ_ne_self _, Nat.ne_of_lt ha1, Nat.ne_of_lt (Nat.lt_succ_of_lt ha1)⟩, fun b hb => I1.fpOk (two b hb) (I1.hok.fresh (two b hb)), q _ (walk_weaken (fun H' z => z.2 hq) walk_enumT)⟩
/-- a tracked list or tuple -/
def Mach (H : Hp) (a : Addr) (xs : List V) : Prop := H a = some (.lst xs) ∨ H a = some (.tup xs)
theorem Mach.same {H H' : Hp} {a : Addr} {xs : List V} (h : Mach H a xs) (s : Same H H') : Mach H' a xs := h.elim (fun z => .inl (s _ _ z)) fun z => .inr (s _ _ z)
theorem Mach.but {H H' : Hp} {p a : Addr} {xs : List V} (h : Mach H a xs) (b : But p H H') (n : a ≠ p) : Mach H' a xs := h.elim (fun z => .inl (b _ _ z n)) fun z => .inr (b _ _ z n)
theorem Mach.sq {K : PySem.W.Frag} {H : Hp} {a : Addr} {xs : List V} (h : Mach H a xs) : SqL K H a xs ∨ SqT K H a xs := h.elim (fun z => .inl (SqL.of z)) fun z => .inr (SqT.of z)
theorem Mach.stay {K : PySem.W.Frag} {H H' : Hp} {a : Addr} {xs : List V} (s : Same H H') : StayE K a xs H H' := StayE.same s
theorem Mach.stayAt {K : PySem.W.Frag} {H H1 H' : Hp} {a : Addr} {xs : List V} (h : Mach H a xs) (s1 : Same H H1) (s2 : Same H H') : StayE K a xs H1 H' := by
  rcases h with h | h
  · refine ⟨fun _ => SqL.of (s2 _ _ h), fun z => ?_⟩
    have e1 := s1 _ _ h
    rcases z with (z | ⟨o, z⟩) | z
    · rw [e1] at z
      cases z
    · rw [e1] at z
      cases z
    · exact .inr z
  · refine ⟨fun z => ?_, fun _ => SqT.of (s2 _ _ h)⟩
    have e1 := s1 _ _ h
    rcases z with (z | ⟨o, z⟩) | z
    · rw [e1] at z
      cases z
    · rw [e1] at z
      cases z
    · exact .inr z
theorem Mach.ne {H : Hp} {a e : Addr} {xs : List V} {D dx : Addr} {fs : List (Str × V)} (h : Mach H a xs) (g : H e = some (.ins D dx fs)) : a ≠ e := h.elim (fun z => ne_of z g (by intro q; cases q)) fun z => ne_of z g (by intro q; cases q)
/-- tuple(e), e a tracked list or tuple -/
def rTupleM : List V → Hp → VK → Prop := fun xs H Q => ∃ (p : Addr) (ys : List V), xs = [.ref p] ∧ Mach H p ys ∧ ∀ (t : Addr) (H' : Hp), Same H H' → H' t = some (.tup ys) → Q (.ref t) H'
theorem call_tupleM {X : Cx} : CallR X (.type "tuple") rTupleM := fun pins s σ H xs us Q I r h => by
  obtain ⟨p, ys, e, m, q⟩ := h
  refine call_tuple_of pins s σ H xs us Q I r ⟨p, ys, e, ?_⟩
  rcases m with m | m
  · exact .inl ⟨SqL.of m, fun t ht => q t _ (Sb.Same.upd ht) upd_same⟩
  · exact .inr ⟨SqT.of m, q p H (Same.refl _) m⟩
end Sb

set_option Elab.async false
set_option linter.all false
set_option maxRecDepth 100000
set_option maxHeartbeats 2000000
/-! Vd: statements over data, loops, comprehensions. -/
namespace Vl
open PySem PySem.Spec PySem.Calls PyProof.Rows L2 Sb
inductive Fl where
  | nx | rt (n : Bool) (d : D) | bk | ct
def postS (K : PySem.W.Frag) (B : Bs) (Z : ZX) (G : Gh) (H : Hp) (o : Out Fl) (E : Ends) : Prop := match o with
  | .stuck => False
  | .val fl env => ∀ G' σ' H', Mono G H G' H' → Cfg K B G' env σ' H' → match fl with
    | .nx => E.nx σ' H'
    | .rt false d => ∀ v, Rp K B.ct (off G'.S H') v d → E.rt v H'
    | .rt true d => ∀ a, B.H0 a = none → G'.S a → OwnAt K B.ct H' (off G'.S H') a d → E.rt (.ref a) H'
    | .bk => E.bk σ' H'
    | .ct => E.ct σ' H'
  | .exc c as env => ∀ G' σ' H' dd, Mono G H G' H' → Cfg K B G' env σ' H' → ExcAt K B.ct (off G'.S H') dd c as → Z c as env G' σ' H' dd
def liftS (K : PySem.W.Frag) (B : Bs) (Z : ZX) (g : Ev Fl) : TS := fun E σ H => ∃ G env, Cfg K B G env σ H ∧ postS K B Z G H (g env) E
structure DS (X : Cx) (B : Bs) (Z : ZX) (s : Stmt) (g : Ev Fl) : Prop where
  ps : PS X s (liftS X.K B Z g)
structure DSs (X : Cx) (B : Bs) (Z : ZX) (s : List Stmt) (g : Ev Fl) : Prop where
  pss : PSs X s (liftS X.K B Z g)
section
variable {K : PySem.W.Frag} {B : Bs} {Z : ZX} {G G1 : Gh} {σ : L2.St} {H H1 : Hp} {α : Type}
theorem postS_later {o : Out Fl} {E : Ends} (m : Mono G H G1 H1) (h : postS K B Z G H o E) : postS K B Z G1 H1 o E := by
  cases o with
  | stuck => exact h
  | val a e => exact fun G2 σ2 H2 m2 c => h _ _ _ (m.trans m2) c
  | exc c as e => exact fun G2 σ2 H2 dd m2 c x => h _ _ _ dd (m.trans m2) c x
theorem exprS0 {o : Out α} {k : α → List Slot → Out Fl} {E : Ends} (h : postS K B Z G H (o.bind k) E) : postG K B Z G σ H o (fun a e _ _ => postS K B Z G H (k a e) E) := by
  cases o with
  | stuck => exact h
  | val a e => exact fun G1 H1 m c => h
  | exc cc as e => exact fun G1 H1 dd m c x => (show postS K B Z G H (.exc cc as e) E from h) G1 σ H1 dd m c x
theorem exprS {o : Out α} {k : α → List Slot → Out Fl} {E : Ends} (h : postS K B Z G H (o.bind k) E) : postG K B Z G σ H o (fun a e G1 H1 => postS K B Z G1 H1 (k a e) E) := by
  cases o with
  | stuck => exact h
  | val a e => exact fun G1 H1 m c => postS_later m (show postS K B Z G H (k a e) E from h)
  | exc cc as e => exact fun G1 H1 dd m c x => (show postS K B Z G H (.exc cc as e) E from h) G1 σ H1 dd m c x
end
section
variable {X : Cx} {st : Stmt} {sts : List Stmt}
theorem PS.weak {t t' : TS} (h : PS X st t) (k : ∀ E σ H, t' E σ H → t E σ H) : PS X st t' := ⟨fun pins s σ H Q I q => h.run pins s σ H Q I (k Q σ H q)⟩
theorem PSs.weak {t t' : TS} (h : PSs X sts t) (k : ∀ E σ H, t' E σ H → t E σ H) : PSs X sts t' := ⟨fun pins s σ H Q I q => h.run pins s σ H Q I (k Q σ H q)⟩
theorem PG.weak {tg : Expr} {t t' : TG} (h : PG X tg t) (k : ∀ v σ H Q, t' v σ H Q → t v σ H Q) : PG X tg t' := ⟨fun pins s σ H v u Q I r q => h.run pins s σ H v u Q I r (k v σ H Q q)⟩
theorem PGs.weak {tg : List Expr} {t t' : TGs} (h : PGs X tg t) (k : ∀ v σ H Q, t' v σ H Q → t v σ H Q) : PGs X tg t' := ⟨fun pins s σ H v u Q I r q => h.run pins s σ H v u Q I r (k v σ H Q q)⟩
theorem PI.weak {tg it : Expr} {t t' : TI} (h : PI X tg it t) (k : ∀ σ H Q, t' σ H Q → t σ H Q) : PI X tg it t' := ⟨fun pins s σ H Q I q => h.run pins s σ H Q I (k σ H Q q)⟩
theorem PTs.weak {ifs : List Expr} {t t' : TT} (h : PTs X ifs t) (k : ∀ σ H Q, t' σ H Q → t σ H Q) : PTs X ifs t' := ⟨fun pins s σ H Q I q => h.run pins s σ H Q I (k σ H Q q)⟩
end
/-! targets -/
inductive Pat where
  | nm (i : Nat) | tp (l : List Pat)
  /-- .. of a list -/
  | ul (l : List Pat)
mutual
def Pat.put : Pat → D → List Slot → Option (List Slot)
  | .nm i, d, e => some (e.set i (.sh d))
  | .tp ps, .tup l, e => Pat.puts ps l e
  | .tp ps, .ctup l, e => Pat.puts ps l e
  | .tp _, _, _ => none
  | .ul ps, .lst l, e => Pat.puts ps l e
  | .ul _, _, _ => none
def Pat.puts : List Pat → List D → List Slot → Option (List Slot)
  | [], [], e => some e
  | p :: ps, d :: ds, e => match Pat.put p d e with
    | some e' => Pat.puts ps ds e'
    | none => none
  | _, _, _ => none
end
mutual
def Pat.wi (vs : List Nat) : Pat → Bool
  | .nm i => vs.contains i
  | .tp l => Pat.wis vs l
  | .ul l => Pat.wis vs l
def Pat.wis (vs : List Nat) : List Pat → Bool
  | [] => true
  | p :: l => Pat.wi vs p && Pat.wis vs l
end
def liftG (K : PySem.W.Frag) (B : Bs) (p : Pat) : TG := fun v σ H Q => ∃ G env d env', Cfg K B G env σ H ∧ Rp K B.ct (off G.S H) v d ∧ p.put d env = some env' ∧ ∀ σ', Cfg K B G env' σ' H → (∀ vs, p.wi vs = true → wipe σ' vs = wipe σ vs) → Q σ' H
def liftGs (K : PySem.W.Frag) (B : Bs) (p : List Pat) : TGs := fun v σ H Q => ∃ G env d env', Cfg K B G env σ H ∧ Rps K B.ct (off G.S H) v d ∧ Pat.puts p d env = some env' ∧ ∀ σ', Cfg K B G env' σ' H → (∀ vs, Pat.wis vs p = true → wipe σ' vs = wipe σ vs) → Q σ' H
structure DG (X : Cx) (B : Bs) (tg : Expr) (p : Pat) : Prop where
  pg : PG X tg (liftG X.K B p)
structure DGs (X : Cx) (B : Bs) (tg : List Expr) (p : List Pat) : Prop where
  pgs : PGs X tg (liftGs X.K B p)
theorem wipe_set {σ : L2.St} {v : Option V} {i : Nat} : ∀ {vs : List Nat}, i ∈ vs → wipe (σ.set i v) vs = wipe σ vs
  | w :: vs, h => by
    unfold wipe
    by_cases e : i ∈ vs
    · rw [wipe_set e]
    · have ew : i = w := by
        rcases List.mem_cons.mp h with z | z
        · exact z
        · exact absurd z e
      subst ew
      have key : ∀ (us : List Nat), (wipe (σ.set i v) us).set i none = (wipe σ us).set i none := by
        intro us
        induction us with
        | nil =>
          show (σ.set i v).set i none = σ.set i none
          rw [List.set_set]
        | cons u us ih =>
          show ((wipe (σ.set i v) us).set u none).set i none = ((wipe σ us).set u none).set i none
          by_cases eu : u = i
          · subst eu
            rw [List.set_set, List.set_set, ih]
          · rw [List.set_comm _ _ eu, ih, List.set_comm _ _ (Ne.symm eu)]
      exact key vs
section
variable {X : Cx} {B : Bs} {x : Str} {pos : Pos} {i : Nat}
theorem dg_name (hN : X.N.Nodup) (hi : X.N[i]? = some x) (hx : Loc X.env.scope x) (hf : X.fn x = true ∨ X.env.scope.names.lookup x = some .local := by first | exact .inl rfl | exact .inr rfl | assumption) : DG X B (.Name x pos) (.nm i) :=
  ⟨PG.weak (pg_name hN hi hx hf) fun v σ H Q ⟨G, env, d, env', c, r, e, k⟩ => by
    simp only [Pat.put] at e
    cases e
    exact k _ (c.put r) fun vs h => wipe_set (by simpa [Pat.wi] using h)⟩
theorem dgs_nil : DGs X B [] [] := ⟨PGs.weak pgs_nil fun v σ H Q ⟨G, env, d, env', c, r, e, k⟩ => by
  cases r with
  | nil =>
    simp only [Pat.puts] at e
    cases e
    exact ⟨rfl, k _ c fun _ _ => rfl⟩
  | cons _ _ => simp [Pat.puts] at e⟩
theorem dgs_cons {e : Expr} {es : List Expr} {p : Pat} {ps : List Pat} (h1 : DG X B e p) (h2 : DGs X B es ps) (hs : (assignEach (e :: es) X.env).map (·.2) = assign e X.env :: (assignEach es X.env).map (·.2) := by rfl) : DGs X B (e :: es) (p :: ps) :=
  ⟨PGs.weak (pgs_cons h1.pg h2.pgs hs) fun v σ H Q ⟨G, env, d, env', c, r, ee, k⟩ => by
    cases r with
    | nil => simp [Pat.puts] at ee
    | @cons v vs d ds rv rvs =>
      simp only [Pat.puts] at ee
      cases hp : p.put d env with
      | none =>
        rw [hp] at ee
        cases ee
      | some e1 =>
        rw [hp] at ee
        refine ⟨_, _, rfl, G, env, d, e1, c, rv, hp, fun σ' c' w1 => ⟨G, e1, ds, env', c', rvs, ee, fun σ2 c2 w2 => k σ2 c2 fun us h => ?_⟩⟩
        simp only [Pat.wis, Bool.and_eq_true] at h
        rw [w2 us h.2, w1 us h.1]⟩
theorem dg_tup {es : List Expr} {k : Nat} {ps : List Pat} {n : Nat} (hc : X.calm = true) (h : DGs X B es ps) (hp : ps.length = n := by rfl) (hn : (assignEach es X.env).length = n := by rfl) (hst : (assignEach es X.env).findIdx? (·.1) = none := by rfl) :
    DG X B (.Tuple es k pos) (.tp ps) :=
  ⟨PG.weak (pg_tup hc h.pgs hn hst) fun v σ H Q ⟨G, env, d, env', c, r, e, k⟩ => by
    have len : ∀ (ps : List Pat) (l : List D) (env env' : List Slot), Pat.puts ps l env = some env' → l.length = ps.length := by
      intro ps
      induction ps with
      | nil =>
        intro l env env' h
        cases l with
        | nil => rfl
        | cons _ _ => simp [Pat.puts] at h
      | cons p ps ih =>
        intro l env env' h
        cases l with
        | nil => simp [Pat.puts] at h
        | cons d l =>
          simp only [Pat.puts] at h
          split at h
          · simp [ih _ _ _ h]
          · cases h
    cases d with
    | tup l =>
      simp only [Pat.put] at e
      obtain ⟨a, vs, rfl, h1, t1⟩ := r.tupE
      exact ⟨a, vs, rfl, sqT_le h1, by rw [t1.len, len _ _ _ _ e, hp], G, env, l, env', c, t1, e, fun σ' c' w => k σ' c' fun us hu => w us (by simpa [Pat.wi] using hu)⟩
    | ctup l =>
      simp only [Pat.put] at e
      obtain ⟨a, vs, rfl, h1, t1⟩ := r.ctupE
      exact ⟨a, vs, rfl, sqT_le h1, by rw [t1.len, len _ _ _ _ e, hp], G, env, l, env', c, t1, e, fun σ' c' w => k σ' c' fun us hu => w us (by simpa [Pat.wi] using hu)⟩
    | _ => simp [Pat.put] at e⟩
theorem dg_unl {es : List Expr} {k : Nat} {ps : List Pat} {n : Nat} (hc : X.calm = true) (h : DGs X B es ps) (hp : ps.length = n := by rfl) (hn : (assignEach es X.env).length = n := by rfl) (hst : (assignEach es X.env).findIdx? (·.1) = none := by rfl) :
    DG X B (.Tuple es k pos) (.ul ps) :=
  ⟨PG.weak (pg_unl hc h.pgs hn hst) fun v σ H Q ⟨G, env, d, env', c, r, e, k⟩ => by
    have len : ∀ (ps : List Pat) (l : List D) (env env' : List Slot), Pat.puts ps l env = some env' → l.length = ps.length := by
      intro ps
      induction ps with
      | nil =>
        intro l env env' h
        cases l with
        | nil => rfl
        | cons _ _ => simp [Pat.puts] at h
      | cons p ps ih =>
        intro l env env' h
        cases l with
        | nil => simp [Pat.puts] at h
        | cons d l =>
          simp only [Pat.puts] at h
          split at h
          · simp [ih _ _ _ h]
          · cases h
    cases d with
    | lst l =>
      simp only [Pat.put] at e
      obtain ⟨a, vs, rfl, h1, t1⟩ := r.lstE
      exact ⟨a, vs, rfl, SqL.of (off_le _ _ h1), by rw [t1.len, len _ _ _ _ e, hp], G, env, l, env', c, t1, e, fun σ' c' w => k σ' c' fun us hu => w us (by simpa [Pat.wi] using hu)⟩
    | _ => simp [Pat.put] at e⟩
end
/-! statements -/
section
variable {X : Cx} {B : Bs} {Z : ZX} {a b c e : Expr} {es : List Expr} {pos : Pos} {f g : Ev D} {fs : Ev (List D)} {ft : Ev Bool} {st : Stmt} {sts us : List Stmt} {s t : Ev Fl}
def fNx : Ev Fl := fun env => .val .nx env
theorem dss_nil : DSs X B Z [] fNx := ⟨PSs.weak pss_nil fun E σ H ⟨G, env, c, p⟩ => p G σ H Mono.refl c⟩
def fSeq (s t : Ev Fl) : Ev Fl := fun env => match s env with
  | .val .nx e => t e
  | o => o
theorem dss_cons (h1 : DS X B Z st s) (h2 : DSs X B Z sts t) : DSs X B Z (st :: sts) (fSeq s t) :=
  ⟨PSs.weak (pss_cons h1.ps h2.pss) fun E σ H ⟨G, env, c, p⟩ => ⟨G, env, c, by
    unfold fSeq at p
    cases hs : s env with
    | stuck =>
      rw [hs] at p
      exact p
    | val fl e =>
      cases fl with
      | nx =>
        rw [hs] at p
        exact fun G1 σ1 H1 m1 c1 => ⟨G1, e, c1, postS_later m1 p⟩
      | rt n d => cases n <;> (rw [hs] at p; exact p)
      | bk =>
        rw [hs] at p
        exact p
      | ct =>
        rw [hs] at p
        exact p
    | exc cc as e =>
      rw [hs] at p
      exact p⟩⟩
theorem dss_one (h : DS X B Z st s) : DSs X B Z [st] s := ⟨pss_one h.ps⟩
theorem ds_pass : DS X B Z (.Pass pos) fNx := ⟨PS.weak ps_pass fun E σ H ⟨G, env, c, p⟩ => p G σ H Mono.refl c⟩
def fBk : Ev Fl := fun env => .val .bk env
def fCt : Ev Fl := fun env => .val .ct env
theorem ds_break : DS X B Z (.Break pos) fBk := ⟨PS.weak ps_break fun E σ H ⟨G, env, c, p⟩ => p G σ H Mono.refl c⟩
theorem ds_continue : DS X B Z (.Continue pos) fCt := ⟨PS.weak ps_continue fun E σ H ⟨G, env, c, p⟩ => p G σ H Mono.refl c⟩
theorem ds_doc {x j pos pos'} : DS X B Z (.Expr (.Constant (.str x) j pos) pos') fNx := ⟨PS.weak ps_doc fun E σ H ⟨G, env, c, p⟩ => p G σ H Mono.refl c⟩
def fDrop (f : Ev D) : Ev Fl := fun env => (f env).bind fun _ e => .val .nx e
theorem ds_expr (he : DE X B Z e f) (hs : swapsWith e none pos.line X.env = pure false := by rfl) : DS X B Z (.Expr e pos) (fDrop f) :=
  ⟨PS.weak (ps_expr he.pe hs) fun E σ H ⟨G, env, c, p⟩ => ⟨G, env, c, post_imp (exprS p) fun d e1 G1 H1 m1 c1 p1 v rv => p1 G1 σ H1 Mono.refl c1⟩⟩
def fRet (f : Ev D) : Ev Fl := fun env => (f env).bind fun d e => .val (.rt false d) e
theorem ds_ret (he : DE X B Z e f) : DS X B Z (.Return (some e) pos) (fRet f) :=
  ⟨PS.weak (ps_ret he.pe) fun E σ H ⟨G, env, c, p⟩ => ⟨G, env, c, post_imp (exprS p) fun d e1 G1 H1 m1 c1 p1 v rv => p1 G1 σ H1 Mono.refl c1 v rv⟩⟩
/-- return x, x an owned thing -/
def fRetO (i : Nat) : Ev Fl := fun env => match env[i]? with
  | some (.ow d) => .val (.rt true d) env
  | some (.sh d) => .val (.rt false d) env
  | _ => .stuck
theorem ds_retO {x : Str} {xpos : Pos} {i : Nat} (hN : X.N[i]? = some x) (hv : Vis X.env.scope x) (hd : (x == ("__debug__" : Str)) = false := by decide) (hcd : (x == ("__classdict__" : Str)) = false := by decide) : DS X B Z (.Return (some (.Name x xpos)) pos) (fRetO i) :=
  ⟨PS.weak (ps_ret (pe_var hN hv hd hcd)) fun E σ H ⟨G, env, c, p⟩ => by
    unfold fRetO at p
    split at p
    · rename_i d hd
      obtain ⟨a, h1, h2, h3⟩ := c.ow i d hd
      exact ⟨_, h2, p G σ H Mono.refl c a (c.frs i d a hd h1) (c.hid i a h1) h3⟩
    · rename_i d hd
      obtain ⟨v, h1, h2⟩ := c.sh i d hd
      exact ⟨_, h1, p G σ H Mono.refl c v h2⟩
    · exact p.elim⟩
def fRetN : Ev Fl := fun env => .val (.rt false .non) env
theorem ds_retN : DS X B Z (.Return none pos) fRetN := ⟨PS.weak ps_retN fun E σ H ⟨G, env, c, p⟩ => p G σ H Mono.refl c _ .non⟩
theorem ds_if (hc : DT X B Z c ft) (ha : DSs X B Z sts s) (hb : DSs X B Z us t) : DS X B Z (.If c sts us pos) (fIte ft s t) :=
  ⟨PS.weak (ps_if hc.pt ha.pss hb.pss) fun E σ H ⟨G, env, c, p⟩ => ⟨G, env, c, post_imp (exprS p) fun k e1 G1 H1 m1 c1 p1 => by
    cases k with
    | true => exact iteT ⟨G1, e1, c1, p1⟩
    | false => exact iteF ⟨G1, e1, c1, p1⟩⟩⟩
def fAsg (p : Pat) (f : Ev D) : Ev Fl := fun env => (f env).bind fun d e => match p.put d e with
  | some e' => .val .nx e'
  | none => .stuck
theorem lift_asg {p : Pat} (E : Ends) (σ : L2.St) (H : Hp) (h : liftS X.K B Z (fAsg p f) E σ H) : tAsg (liftE X.K B Z f) (liftG X.K B p) E σ H := by
  obtain ⟨G, env, c, q⟩ := h
  refine ⟨G, env, c, post_imp (exprS q) fun d e1 G1 H1 m1 c1 p1 v rv => ?_⟩
  cases hp : p.put d e1 with
  | none =>
    rw [hp] at p1
    exact p1.elim
  | some e2 =>
    rw [hp] at p1
    exact ⟨G1, e1, d, e2, c1, rv, hp, fun σ' c' _ => p1 G1 σ' H1 Mono.refl c'⟩
theorem ds_asg {tg : Expr} {p : Pat} (he : DE X B Z e f) (hg : DG X B tg p) (hs : swapsWithSole [tg] e pos.line X.env = pure false := by rfl) (hw : swappedStores [tg] e X.env = pure none := by rfl) (h1 : (assignEach [tg] X.env).map (·.2) = [assign tg X.env] := by rfl) :
    DS X B Z (.Assign [tg] e pos) (fAsg p f) := ⟨PS.weak (ps_asg he.pe hg.pg hs hw h1) lift_asg⟩
theorem ds_set {i : Nat} {x : Str} {pos' : Pos} (hN : X.N.Nodup) (hi : X.N[i]? = some x) (hx : Loc X.env.scope x) (he : DE X B Z e f) (hs : swapsWith e (some (.Name x pos')) pos.line X.env = pure false := by rfl)
    (hf : X.fn x = true ∨ X.env.scope.names.lookup x = some .local := by first | exact .inl rfl | exact .inr rfl | assumption) : DS X B Z (.Assign [.Name x pos'] e pos) (fAsg (.nm i) f) :=
  ⟨PS.weak (ps_set hN hi hx he.pe hs hf) fun E σ H h => by
    obtain ⟨G, env, c, q⟩ := h
    refine ⟨G, env, c, post_imp (exprS q) fun d e1 G1 H1 m1 c1 p1 v rv => ?_⟩
    simp only [Pat.put] at p1
    exact p1 G1 _ H1 Mono.refl (c1.put rv)⟩
/-- x = [..]: a list of its own -/
def fSetL (i : Nat) (fs : Ev (List D)) : Ev Fl := fun env => (fs env).bind fun l e => if l.length ≤ 1000 then .val .nx (e.set i (.ow (.lst l))) else .stuck
theorem ds_setL {i : Nat} {x : Str} {pos' lpos : Pos} (hN : X.N.Nodup) (hi : X.N[i]? = some x) (hx : Loc X.env.scope x) (he : DA X B Z es fs) (hs : swapsWith (.List es lpos) (some (.Name x pos')) pos.line X.env = pure false := by rfl)
    (hf : X.fn x = true ∨ X.env.scope.names.lookup x = some .local := by first | exact .inl rfl | exact .inr rfl | assumption) : DS X B Z (.Assign [.Name x pos'] (.List es lpos) pos) (fSetL i fs) :=
  ⟨PS.weak (ps_set hN hi hx (pe_lst he.pa) hs hf) fun E σ H h => by
    obtain ⟨G, env, c, q⟩ := h
    refine ⟨G, env, c, post_imp (exprS q) fun l e1 G1 H1 m1 c1 p1 vs rvs => ?_⟩
    by_cases hl : l.length ≤ 1000
    · rw [if_pos hl] at p1
      refine ⟨by rw [rvs.len]; exact small_line hl, fun q hq => ?_⟩
      exact p1 (G1.take i q) _ _ (Mono.take hq c1.live) (c1.take hq ⟨vs, upd_same, rvs⟩)
    · rw [if_neg hl] at p1
      exact p1.elim⟩
/-! new things -/
def liftN (K : PySem.W.Frag) (B : Bs) (Z : ZX) (f : Ev D) : TE := fun σ H Q => ∃ G env, Cfg K B G env σ H ∧ postG K B Z G σ H (f env) (fun d _ G' H' => ∀ p, H p = none → G'.S p → (∀ i, G'.r i ≠ some p) → OwnAt K B.ct H' (off G'.S H') p d → Q (.ref p) H')
structure DN (X : Cx) (B : Bs) (Z : ZX) (e : Expr) (f : Ev D) : Prop where
  pe : PE X e (liftN X.K B Z f)
theorem undom {G G' : Gh} {H H' : Hp} (m : Mono G H G' H') {p : Addr} (h : H' p = none) : H p = none := by
  cases e : H p with
  | none => rfl
  | some o => exact absurd h (m.dom p (by rw [e]; exact Option.some_ne_none _))
theorem dn_lst (h : DA X B Z es fs) : DN X B Z (.List es pos) (fLst fs) :=
  ⟨PE.weak (pe_lst h.pa) fun σ H Q ⟨G, env, c, p⟩ => ⟨G, env, c, post_imp (post_bind p) fun l e1 G1 H1 m1 c1 p1 vs rvs => by
    by_cases hl : l.length ≤ 1000
    · rw [if_pos hl] at p1
      refine ⟨by rw [rvs.len]; exact small_line hl, fun q hq => ?_⟩
      refine p1 (G1.hide q) _ (Mono.hide hq c1.live) (c1.hide hq) q (undom m1 hq) (.inr rfl) (fun i z => c1.unS hq (c1.hid i q z)) ⟨vs, upd_same, rvs.mono (Mono.hide hq c1.live).same⟩
    · rw [if_neg hl] at p1
      exact p1.elim⟩⟩
def fSetN (i : Nat) (f : Ev D) : Ev Fl := fun env => (f env).bind fun d e => .val .nx (e.set i (.ow d))
theorem ds_new {i : Nat} {x : Str} {pos' : Pos} (hN : X.N.Nodup) (hi : X.N[i]? = some x) (hx : Loc X.env.scope x) (he : DN X B Z e f) (hs : swapsWith e (some (.Name x pos')) pos.line X.env = pure false := by rfl)
    (hf : X.fn x = true ∨ X.env.scope.names.lookup x = some .local := by first | exact .inl rfl | exact .inr rfl | assumption) : DS X B Z (.Assign [.Name x pos'] e pos) (fSetN i f) :=
  ⟨PS.weak (ps_set hN hi hx he.pe hs hf) fun E σ H h => by
    obtain ⟨G, env, c, q⟩ := h
    refine ⟨G, env, c, post_imp (exprS0 q) fun d e1 G1 H1 m1 c1 p1 p hp hS hR ho => ?_⟩
    exact p1 (G1.own i p) _ H1 (m1.own (c.unS hp)) (c1.adopt hS hR ho (c.new0 hp))⟩
def fRetW (f : Ev D) : Ev Fl := fun env => (f env).bind fun d e => .val (.rt true d) e
theorem ds_retW (he : DN X B Z e f) : DS X B Z (.Return (some e) pos) (fRetW f) :=
  ⟨PS.weak (ps_ret he.pe) fun E σ H ⟨G, env, c, q⟩ => ⟨G, env, c, post_imp (exprS0 q) fun d e1 G1 H1 m1 c1 p1 p hp hS hR ho => p1 G1 σ H1 m1 c1 p (c.new0 hp) hS ho⟩⟩
/-! several values, some of them new -/
abbrev Nw := D × Bool
def NwOk (K : PySem.W.Frag) (ct : Ct) (G : Gh) (H0 H : Hp) (v : V) (g : Nw) : Prop := match g with
  | (d, false) => Rp K ct (off G.S H) v d
  | (d, true) => ∃ p, v = .ref p ∧ H0 p = none ∧ G.S p ∧ (∀ i, G.r i ≠ some p) ∧ OwnAt K ct H (off G.S H) p d
theorem NwOk.mono {K : PySem.W.Frag} {ct : Ct} {G G' : Gh} {H0 H H' : Hp} {v : V} {g : Nw} (h : NwOk K ct G H0 H v g) (m : Mono G H G' H') : NwOk K ct G' H0 H' v g := by
  obtain ⟨d, b⟩ := g
  cases b with
  | false => exact Rp.mono m.same h
  | true =>
    obtain ⟨p, h1, h2, h3, h4, h5⟩ := h
    obtain ⟨x1, x2, x3⟩ := m.tmp p h3 h4
    exact ⟨p, h1, h2, x1, x2, h5.mono x3 m.same⟩
/-- a, b = e1, e2 -/
def fPar (i j : Nat) (f g : Ev D) (n1 n2 : Bool) : Ev Fl := fun env => (f env).bind fun d e1 => (g e1).bind fun e e2 => .val .nx ((e2.set i (if n1 then .ow d else .sh d)).set j (if n2 then .ow e else .sh e))
structure DQ (X : Cx) (B : Bs) (Z : ZX) (e : Expr) (f : Ev D) (n : Bool) : Prop where
  pe : PE X e (fun σ H Q => ∃ G env, Cfg X.K B G env σ H ∧ postG X.K B Z G σ H (f env) (fun d _ G' H' => ∀ v, NwOk X.K B.ct G' H H' v (d, n) → Q v H'))
theorem DE.q (h : DE X B Z e f) : DQ X B Z e f false := ⟨h.pe⟩
theorem DN.q (h : DN X B Z e f) : DQ X B Z e f true := ⟨PE.weak h.pe fun σ H Q ⟨G, env, c, q⟩ => ⟨G, env, c, post_imp q fun d e1 G1 H1 m1 c1 p1 p h1 h2 h3 h4 => p1 _ ⟨p, rfl, h1, h2, h3, h4⟩⟩⟩
theorem Cfg.putQ {K : PySem.W.Frag} {G G0 : Gh} {env : List Slot} {σ : L2.St} {H H0 : Hp} {i : Nat} {v : V} {d : D} {n : Bool} (c0 : ∀ p, H0 p = none → B.H0 p = none ∧ ¬ G0.S p) (c : Cfg K B G env σ H) (m : Mono G0 H0 G H) (h : NwOk K B.ct G H0 H v (d, n)) :
    ∃ G', Mono G0 H0 G' H ∧ Cfg K B G' (env.set i (if n then .ow d else .sh d)) (σ.set i (some v)) H ∧ Same (off G.S H) (off G'.S H) ∧ (∀ p, G.S p → (∀ j, G.r j ≠ some p) → (n = true → v ≠ .ref p) → G'.S p ∧ ∀ j, G'.r j ≠ some p) := by
  cases n with
  | false => exact ⟨G, m, c.put h, Same.refl _, fun p h1 h2 _ => ⟨h1, h2⟩⟩
  | true =>
    obtain ⟨p, rfl, h2, h3, h4, h5⟩ := h
    obtain ⟨z1, z2⟩ := c0 p h2
    refine ⟨G.own i p, m.own z2, c.adopt h3 h4 h5 z1, Same.refl _, fun q h1 hq ne => ⟨h1, fun j z => ?_⟩⟩
    have z' : (if j = i then some p else G.r j) = some q := z
    by_cases e : j = i
    · rw [if_pos e] at z'
      cases z'
      exact ne rfl rfl
    · rw [if_neg e] at z'
      exact hq j z'
theorem ds_par {i j : Nat} {x y : Str} {n1 n2 : Bool} (hc : X.calm = true) (hN : X.N.Nodup) (hi : X.N[i]? = some x) (hj : X.N[j]? = some y) (hij : i ≠ j)
    (hx : X.env.scope.names.lookup x = some .local) (hy : X.env.scope.names.lookup y = some .local) (ha : DQ X B Z a f n1) (hb : DQ X B Z b g n2) (hs1 : starEach [a, b] X.env = (false, eval a X.env) :: starEach [b] X.env := by rfl) (hs2 : starEach [b] X.env = (false, eval b X.env) :: starEach [] X.env := by rfl)
    (hp : ∀ {ta : TA}, PA X [a, b] ta → PS X st (tPar i j ta)) : DS X B Z st (fPar i j f g n1 n2) :=
  ⟨PS.weak (hp (pa_cons ha.pe (pa_cons hb.pe pa_nil hs2) hs1)) fun E σ H h => by
    obtain ⟨G, env, c, q⟩ := h
    refine ⟨G, env, c, post_imp (exprS0 q) fun d e1 G1 H1 m1 c1 p1 v rv => ⟨G1, e1, c1, ?_⟩⟩
    have p1' : postS X.K B Z G1 H1 ((g e1).bind fun e e2 => .val .nx ((e2.set i (if n1 then .ow d else .sh d)).set j (if n2 then .ow e else .sh e))) E := postS_later m1 p1
    have p0 := p1
    cases hg : g e1 with
    | stuck =>
      rw [hg] at p0
      exact p0.elim
    | exc cc as e2 =>
      rw [hg] at p0
      exact fun G2 H2 dd m2 c2 xx => p0 G2 σ H2 dd (m1.trans m2) c2 xx
    | val d2 e2 =>
      rw [hg] at p0
      intro G2 H2 m2 c2 w rw'
      have mm := m1.trans m2
      have c0 : ∀ p, H p = none → B.H0 p = none ∧ ¬ G.S p := fun p h => ⟨c.new0 h, c.unS h⟩
      have c01 : ∀ p, H1 p = none → B.H0 p = none ∧ ¬ G.S p := fun p h => c0 p (undom m1 h)
      refine ⟨v, w, rfl, ?_⟩
      have rv2 := rv.mono m2
      obtain ⟨G3, k1, k2, k3, k4⟩ := Cfg.putQ (i := i) c0 c2 mm rv2
      have rw3 : NwOk X.K B.ct G3 H H2 w (d2, n2) := by
        cases n2 with
        | false => exact Rp.mono k3 rw'
        | true =>
          obtain ⟨p, rfl, h2, h3, h4, h5⟩ := rw'
          have nv : n1 = true → v ≠ V.ref p := by
            intro hn z
            subst hn
            obtain ⟨p', rfl, g2, g3, g4, g5⟩ := rv
            cases z
            exact g5.some h2
          obtain ⟨x1, x2⟩ := k4 p h3 h4 nv
          exact ⟨p, rfl, undom m1 h2, x1, x2, h5.mono rfl k3⟩
      obtain ⟨G4, l1, l2, l3, l4⟩ := Cfg.putQ (i := j) c0 k2 k1 rw3
      exact p0 G4 _ H2 l1 l2⟩
/-- x.append(e), x a list of its own -/
def slotL (env : List Slot) (i : Nat) : Option (Bool × List D) := match env[i]? with
  | some (.ow (.lst l)) => some (false, l)
  | some (.io (.lst l)) => some (true, l)
  | _ => none
theorem slotL_own {env : List Slot} {i : Nat} {b : Bool} {l : List D} (h : slotL env i = some (b, l)) : env[i]? = some (own b (.lst l)) := by
  unfold slotL at h
  split at h
  · cases h
    assumption
  · cases h
    assumption
  · cases h
def fApp (i : Nat) (f : Ev D) : Ev Fl := fun env => match slotL env i with
  | none => .stuck
  | some _ => (f env).bind fun d e => match slotL e i with
    | some (b, l) => if l.length < sizeLine then .val .nx (e.set i (own b (.lst (l ++ [d])))) else .stuck
    | none => .stuck
theorem ds_append {i : Nat} {x : Str} {xpos apos cpos : Pos} (hN : X.N[i]? = some x) (hv : Vis X.env.scope x) (he : DE X B Z e f)
    (hd : (x == ("__debug__" : Str)) = false := by decide) (hcd : (x == ("__classdict__" : Str)) = false := by decide)
    (hbase : attributeBase (.Name x xpos) "append" X.env (eval (.Name x xpos) X.env) = eval (.Name x xpos) X.env := by rfl)
    (hfew : ((backTo cpos (starEach [e] X.env)).all (fun x => !x.1) && (backToKw cpos (keywordEach [] X.env)).all (fun x => x.1.isSome)
      && decide ([e].length + ([] : List Keyword).length + (if ([] : List Keyword).isEmpty then 0 else 1) < 30)) = true := by rfl)
    (hline : (apos.endLine == cpos.line) = true := by rfl) (hst : starEach [e] X.env = (false, eval e X.env) :: starEach [] X.env := by rfl) (hplain : (backTo cpos (starEach [] X.env)).any (·.1) = false := by rfl)
    (hs : swapsWith (.Call (.Attribute (.Name x xpos) "append" apos) [e] [] cpos) none pos.line X.env = pure false := by rfl) :
    DS X B Z (.Expr (.Call (.Attribute (.Name x xpos) "append" apos) [e] [] cpos) pos) (fApp i f) :=
  ⟨PS.weak (ps_expr (pe_bm PySem.F.plainAttrs_list PySem.F.slot_list_append PySem.F.type_list_append mt_append (pe_var hN hv hd hcd) (pa_cons he.pe pa_nil hst) hbase hfew hline hst hplain) hs) fun E σ H h => by
    obtain ⟨G, env, c, q⟩ := h
    unfold fApp at q
    cases h0 : slotL env i with
    | none =>
      rw [h0] at q
      exact q.elim
    | some p0 =>
      obtain ⟨b0, l0⟩ := p0
      rw [h0] at q
      obtain ⟨a, r1, r2, vs0, r3, _⟩ := c.own (slotL_own h0)
      refine ⟨_, r2, .inl ⟨rfl, _, SqL.of r3⟩, G, env, c, post_imp (exprS q) fun d e1 G1 H1 m1 c1 p1 v rv => ?_⟩
      cases h1 : slotL e1 i with
      | none =>
        rw [h1] at p1
        exact p1.elim
      | some p2 =>
        obtain ⟨b, l⟩ := p2
        rw [h1] at p1
        simp only [] at p1
        obtain ⟨a', g1, g2, vs, g3, g4⟩ := c1.own (slotL_own h1)
        rw [r2] at g2
        cases g2
        by_cases hl : l.length < sizeLine
        · rw [if_pos hl] at p1
          refine ⟨a, vs, v, rfl, rfl, g3, by rw [g4.len]; exact hl, ?_⟩
          exact p1 G1 _ _ (Mono.chg g1 (c1.hid i a g1)) (c1.chg g1 (slotL_own h1) ⟨vs ++ [v], upd_same, g4.app (.one rv)⟩)
        · rw [if_neg hl] at p1
          exact p1.elim⟩
/-- x[k] = e, x a list of its own -/
def fPutL (i : Nat) (k f : Ev D) : Ev Fl := fun env => (f env).bind fun d e1 => match slotL e1 i with
  | none => .stuck
  | some _ => (k e1).bind fun z e2 => match z, slotL e2 i with
    | .int j, some (b, l) => match ixN l.length j with
      | some n => .val .nx (e2.set i (own b (.lst (l.set n d))))
      | none => .stuck
    | _, _ => .stuck
/-! loops -/
structure WalkD (K : PySem.W.Frag) (ct : Ct) (G : Gh) (H : Hp) (J : It) (ds : List D) : Prop where
  go : ∀ i G' H', Mono G H G' H' → i < ds.length → J.go i H'
  stop : ∀ G' H', Mono G H G' H' → J.stop ds.length H'
  yld : ∀ i G' H' x H'', Mono G H G' H' → (∀ a, G'.S a → H' a ≠ none) → i < ds.length → J.yld i H' x H'' → Same H' H'' ∧ ∃ d, ds[i]? = some d ∧ Rp K ct (off G'.S H'') x d
theorem walk_lst {K : PySem.W.Frag} {ct : Ct} {G : Gh} {H : Hp} {a : Addr} {vs : List V} {ds : List D} (h : off G.S H a = some (.lst vs)) (t : Rps K ct (off G.S H) vs ds) : WalkD K ct G H (Itl K a) ds := by
  have sq : ∀ {G' : Gh} {H' : Hp}, Mono G H G' H' → SqL K H' a vs := fun m => SqL.of (off_le _ _ (m.same _ _ h))
  refine ⟨fun i G' H' m hi => ⟨vs, vs[i]'(by rw [t.len]; exact hi), sq m, by simp⟩, fun G' H' m => ⟨vs, sq m, Nat.le_of_eq t.len⟩, fun i G' H' x H'' m live hi y => ?_⟩
  obtain ⟨rfl, y⟩ := y
  obtain ⟨d, e, r⟩ := (t.mono m.same).get (y vs (sq m))
  exact ⟨Same.refl _, d, e, r⟩
theorem walk_tup {K : PySem.W.Frag} {ct : Ct} {G : Gh} {H : Hp} {a : Addr} {vs : List V} {ds : List D} (h : SqT K (off G.S H) a vs) (t : Rps K ct (off G.S H) vs ds) : WalkD K ct G H (Itt K a) ds := by
  have sq : ∀ {G' : Gh} {H' : Hp}, Mono G H G' H' → SqT K H' a vs := fun m => sqT_same off_le (sqT_same m.same h)
  refine ⟨fun i G' H' m hi => ⟨vs, vs[i]'(by rw [t.len]; exact hi), sq m, by simp⟩, fun G' H' m => ⟨vs, sq m, Nat.le_of_eq t.len⟩, fun i G' H' x H'' m live hi y => ?_⟩
  obtain ⟨rfl, y⟩ := y
  obtain ⟨d, e, r⟩ := (t.mono m.same).get (y vs (sq m))
  exact ⟨Same.refl _, d, e, r⟩
def rangeD (lo : Int) (n : Nat) : List D := (List.range n).map fun (i : Nat) => D.int (lo + (i : Int))
theorem walk_rng {K : PySem.W.Frag} {ct : Ct} {G : Gh} {H : Hp} {lo : Int} {n : Nat} : WalkD K ct G H (Itr lo n) (rangeD lo n) := by
  have l : (rangeD lo n).length = n := by simp [rangeD]
  refine ⟨fun i G' H' m hi => by rw [l] at hi; exact hi, fun G' H' m => Nat.le_of_eq l.symm, fun i G' H' x H'' m live hi y => ?_⟩
  obtain ⟨rfl, rfl⟩ := y
  rw [l] at hi
  exact ⟨Same.refl _, .int (lo + (i : Int)), by simp [rangeD, hi], .int _⟩
/-- pairs with their numbers -/
def enumD : Nat → List D → List D
  | _, [] => []
  | k, d :: l => .tup [.int (k : Int), d] :: enumD (k + 1) l
theorem enumD_len : ∀ (l : List D) (k : Nat), (enumD k l).length = l.length
  | [], _ => rfl
  | d :: l, k => by simp [enumD, enumD_len l]
theorem enumD_get : ∀ (l : List D) (k i : Nat), (enumD k l)[i]? = l[i]?.map fun d => .tup [.int ((k + i : Nat) : Int), d]
  | [], _, _ => rfl
  | d :: l, k, 0 => by simp [enumD]
  | d :: l, k, i + 1 => by
    simp only [enumD, List.getElem?_cons_succ]
    rw [enumD_get l (k + 1) i, show k + 1 + i = k + (i + 1) by omega]
/-- for i, x in enumerate(e), e a list or a tuple -/
def iEnumD (K : PySem.W.Frag) (ta : TA) : TI := fun σ H R => ta σ H fun vs H1 => ∃ a xs, vs = [.ref a] ∧
  ((SqL K H1 a xs ∧ ∀ J, Walk J xs.length (fun H' => SqL K H' a xs) (YPair (fun i => some (.int (i : Nat))) (fun i => xs[i]?)) → R J H1) ∨
   (SqT K H1 a xs ∧ ∀ J, Walk J xs.length (fun H' => SqT K H' a xs) (YPair (fun i => some (.int (i : Nat))) (fun i => xs[i]?)) → R J H1))
theorem pi_enumD {X : Cx} {e : Expr} {ta : TA} {p pos tpos : Pos} {elts : List Expr} {kk : Nat} (gl : Gl X "enumerate") (no : X.mg "enumerate" = none) (ha : PA X [e] ta) (one : starEach [e] X.env = [(false, eval e X.env)] := by rfl) :
    PI X (.Tuple elts kk tpos) (.Call (.Name "enumerate" p) [e] [] pos) (iEnumD X.K ta) := by
  refine ⟨fun pins s σ H R I h => ?_⟩
  refine Call_ (ld_blt I gl no boot_enumerate (PyProof.Rows.callWith_type1 (thn (ha.run pos pins s σ H _ I h) fun us s1 ⟨vs, H1, I1, r1, a, xs, ex, hq⟩ => ?_) one rfl))
  subst ex
  obtain ⟨u, rfl, ru⟩ := vals1 r1
  cases (show u = Value.ref a from ru)
  have two : ∀ b : Addr, b ∈ [s1.heap.objs.size + 1, s1.heap.objs.size] → s1.heap.objs.size ≤ b := fun b hb => by
    rcases (show b = s1.heap.objs.size + 1 ∨ b = s1.heap.objs.size by simpa using hb) with rfl | rfl
    · exact Nat.le_add_right _ _
    · exact Nat.le_refl _
  rcases hq with ⟨hq, q⟩ | ⟨hq, q⟩
  · obtain ⟨its, rv, pl, hz⟩ := I1.list hq
    refine call_enumerate_list pl.isList fun h' he hit hsz hk => wpAny_pyIter_enum he ?_
    exact ⟨s1.heap.objs.size + 1, [s1.heap.objs.size + 1, s1.heap.objs.size], _, _, H1, rfl, I1.kept (t' := s1.toks) hk, turn_enum a (s1.heap.objs.size + 1) s1.heap.objs.size, ⟨⟨.none, he⟩, hit, Nat.succ_ne_self _⟩, fun b hb => I1.fpOk (two b hb) (I1.hok.fresh (two b hb)), q _ walk_enum⟩
  · obtain ⟨its, rv, tp, hz⟩ := I1.tuple hq
    have ha1 : a < s1.heap.objs.size := by
      obtain ⟨o, z, _⟩ := tp
      exact Heap.lt_size z
    refine enum1_begins (begins_tuple a its.toArray) tp fun h' he hit hk => wpAny_pyIter_enum he ?_
    exact ⟨s1.heap.objs.size + 1, [s1.heap.objs.size + 1, s1.heap.objs.size], _, _, H1, rfl, I1.kept (t' := s1.toks) hk, turn_enumT a (s1.heap.objs.size + 1) s1.heap.objs.size xs, ⟨⟨.none, he⟩, ⟨_, hit, rfl, rfl⟩, Nat.succ_ne_self _, Nat.ne_of_lt ha1, Nat.ne_of_lt (Nat.lt_succ_of_lt ha1)⟩, fun b hb => I1.fpOk (two b hb) (I1.hok.fresh (two b hb)), q _ walk_enumT⟩
theorem walk_enumD {K : PySem.W.Frag} {ct : Ct} {G : Gh} {H : Hp} {vs : List V} {ds : List D} {J : It} {Sq : Hp → Prop} (sty : ∀ {G' : Gh} {H' : Hp}, Mono G H G' H' → Sq H') (t : Rps K ct (off G.S H) vs ds)
    (w : Walk J vs.length Sq (YPair (fun i => some (.int (i : Nat))) (fun i => vs[i]?))) : WalkD K ct G H J (enumD 0 ds) := by
  have l : (enumD 0 ds).length = vs.length := by rw [enumD_len, t.len]
  refine ⟨fun i G' H' m hi => w.goes i H' (by rw [← l]; exact hi) (sty m), fun G' H' m => by rw [l]; exact w.stops H' (sty m), fun i G' H' x H'' m live hi y => ?_⟩
  obtain ⟨T, x0, y0, rfl, hT, rfl, e1, e2⟩ := w.yields i H' x H'' (by rw [← l]; exact hi) (sty m) y
  obtain ⟨d, ed, rd⟩ := (t.mono m.same).get e2
  cases e1
  refine ⟨Sb.Same.upd hT, .tup [.int (i : Int), d], ?_, new_tup live hT (.cons (.int _) (.one rd))⟩
  rw [enumD_get, ed, Nat.zero_add]
  rfl
end
end Vl

set_option Elab.async false
set_option linter.all false
set_option maxRecDepth 100000
set_option maxHeartbeats 2000000
/-! Ve: what is walked, for, while, comprehensions. -/
namespace Vl
open PySem PySem.Spec PyProof.Rows L2 Sb
def liftI (K : PySem.W.Frag) (B : Bs) (Z : ZX) (f : Ev (List D)) : TI := fun σ H R => ∃ G env, Cfg K B G env σ H ∧ postG K B Z G σ H (f env) (fun ds _ G' H' => ∀ J, WalkD K B.ct G' H' J ds → R J H')
structure DI (X : Cx) (B : Bs) (Z : ZX) (tg it : Expr) (f : Ev (List D)) : Prop where
  pi : PI X tg it (liftI X.K B Z f)
section
variable {X : Cx} {B : Bs} {Z : ZX} {tg a b c e elt : Expr} {es elts : List Expr} {pos : Pos} {f g fe : Ev D} {fs fi : Ev (List D)} {ft : Ev Bool} {sts : List Stmt} {s : Ev Fl} {p : Pat}
def fItems (f : Ev D) : Ev (List D) := fun env => (f env).bind fun d e => match d with
  | .lst l => .val l e
  | .tup l => .val l e
  | .ctup l => .val l e
  | _ => .stuck
theorem di_seq (h : DE X B Z e f) : DI X B Z tg e (fItems f) :=
  ⟨PI.weak (pi_or (pi_list h.pe) (pi_tup h.pe)) fun σ H R ⟨G, env, c, q⟩ => by
    cases hf : f env with
    | stuck =>
      unfold fItems at q
      rw [hf] at q
      exact q.elim
    | exc cc as e1 =>
      unfold fItems at q
      refine .inl ⟨G, env, c, ?_⟩
      rw [hf] at q ⊢
      exact q
    | val d e1 =>
      have q := post_bind q
      rw [hf] at q
      cases d with
      | lst l =>
        refine .inl ⟨G, env, c, ?_⟩
        rw [hf]
        intro G1 H1 m1 c1 v rv
        obtain ⟨x, vs, rfl, h1, t1⟩ := rv.lstE
        exact ⟨x, rfl, ⟨vs, SqL.of (off_le _ _ h1)⟩, q G1 H1 m1 c1 G1 H1 Mono.refl c1 _ (walk_lst h1 t1)⟩
      | tup l =>
        refine .inr ⟨G, env, c, ?_⟩
        rw [hf]
        intro G1 H1 m1 c1 v rv
        obtain ⟨x, vs, rfl, h1, t1⟩ := rv.tupE
        exact ⟨x, rfl, ⟨vs, sqT_le h1⟩, q G1 H1 m1 c1 G1 H1 Mono.refl c1 _ (walk_tup h1 t1)⟩
      | ctup l =>
        refine .inr ⟨G, env, c, ?_⟩
        rw [hf]
        intro G1 H1 m1 c1 v rv
        obtain ⟨x, vs, rfl, h1, t1⟩ := rv.ctupE
        exact ⟨x, rfl, ⟨vs, sqT_le h1⟩, q G1 H1 m1 c1 G1 H1 Mono.refl c1 _ (walk_tup h1 t1)⟩
      | _ => 
        refine .inl ⟨G, env, c, ?_⟩
        rw [hf]
        exact fun G1 H1 m1 c1 => (q G1 H1 m1 c1).elim⟩
/-- a number of less than 63 bits; said so that it stands still where the number is not known -/
def sm62 (j : Int) : Bool := Nat.ble j.natAbs 4611686018427387903
theorem sm62_ok {j : Int} (h : sm62 j = true) : -(2 ^ 62) ≤ j ∧ j < 2 ^ 62 := by
  have e62 : (2 : Int) ^ 62 = 4611686018427387904 := by decide
  have h := Nat.le_of_ble_eq_true h
  rw [e62]
  omega
theorem sm62_of {j : Int} (h : -4611686018427387904 < j) (h2 : j < 4611686018427387904) : sm62 j = true := Nat.ble_eq_true_of_le (by omega)
def fRng1 (fs : Ev (List D)) : Ev (List D) := fun env => (fs env).bind fun l e => match l with
  | [.int j] => if sm62 j then .val (rangeD 0 j.toNat) e else .stuck
  | _ => .stuck
def fRng2 (fs : Ev (List D)) : Ev (List D) := fun env => (fs env).bind fun l e => match l with
  | [.int i, .int j] => if sm62 i && sm62 j then .val (rangeD i (j - i).toNat) e else .stuck
  | _ => .stuck
theorem Rps.oneE {K : PySem.W.Frag} {ct : Ct} {F : Hp} {vs : List V} {i : Int} (h : Rps K ct F vs [.int i]) : vs = [.int i] := by
  obtain ⟨v, ws, rfl, h1, h2⟩ := h.consE
  rw [h1.intE, h2.nilE]
theorem Rps.twoE {K : PySem.W.Frag} {ct : Ct} {F : Hp} {vs : List V} {i j : Int} (h : Rps K ct F vs [.int i, .int j]) : vs = [.int i, .int j] := by
  obtain ⟨v, ws, rfl, h1, h2⟩ := h.consE
  rw [h1.intE, h2.oneE]
theorem di_rng1 {px : Pos} (gl : Gl X "range") (hm : X.mg "range" = none) (ha : DA X B Z [e] fs) (hs : starEach [e] X.env = [(false, eval e X.env)] := by rfl) : DI X B Z tg (.Call (.Name "range" px) [e] [] pos) (fRng1 fs) :=
  ⟨PI.weak (pi_range1 gl hm ha.pa hs) fun σ H R ⟨G, env, c, q⟩ => ⟨G, env, c, post_imp (post_bind q) fun l e1 G1 H1 m1 c1 p1 vs rvs => by
    split at p1
    · rename_i j
      split at p1
      · rename_i hj
        exact ⟨j, rvs.oneE, (sm62_ok hj).1, (sm62_ok hj).2, p1 G1 H1 Mono.refl c1 _ walk_rng⟩
      · exact p1.elim
    · exact p1.elim⟩⟩
theorem di_rng2 {e2 : Expr} {px : Pos} (gl : Gl X "range") (hm : X.mg "range" = none) (ha : DA X B Z [e, e2] fs) (hs : starEach [e, e2] X.env = [(false, eval e X.env), (false, eval e2 X.env)] := by rfl) (hs2 : starEach [e2] X.env = [(false, eval e2 X.env)] := by rfl) :
    DI X B Z tg (.Call (.Name "range" px) [e, e2] [] pos) (fRng2 fs) :=
  ⟨PI.weak (pi_range2 gl hm ha.pa hs hs2) fun σ H R ⟨G, env, c, q⟩ => ⟨G, env, c, post_imp (post_bind q) fun l e1 G1 H1 m1 c1 p1 vs rvs => by
    split at p1
    · rename_i i j
      split at p1
      · rename_i hj
        exact ⟨i, j, rvs.twoE, ⟨(sm62_ok (Bool.and_eq_true_iff.mp hj).1).1, (sm62_ok (Bool.and_eq_true_iff.mp hj).1).2, (sm62_ok (Bool.and_eq_true_iff.mp hj).2).1, (sm62_ok (Bool.and_eq_true_iff.mp hj).2).2⟩, p1 G1 H1 Mono.refl c1 _ walk_rng⟩
      · exact p1.elim
    · exact p1.elim⟩⟩
def fEnum (fs : Ev (List D)) : Ev (List D) := fun env => (fs env).bind fun l e => match l with
  | [.lst l] => .val (enumD 0 l) e
  | [.tup l] => .val (enumD 0 l) e
  | _ => .stuck
theorem di_enum {px tpos : Pos} {kk : Nat} (gl : Gl X "enumerate") (hm : X.mg "enumerate" = none) (ha : DA X B Z [e] fs) (hs : starEach [e] X.env = [(false, eval e X.env)] := by rfl) : DI X B Z (.Tuple elts kk tpos) (.Call (.Name "enumerate" px) [e] [] pos) (fEnum fs) :=
  ⟨PI.weak (pi_enumD gl hm ha.pa hs) fun σ H R ⟨G, env, c, q⟩ => ⟨G, env, c, post_imp (post_bind q) fun l e1 G1 H1 m1 c1 p1 vs rvs => by
    split at p1
    · rename_i l
      obtain ⟨v, ws, rfl, h1, h2⟩ := rvs.consE
      obtain ⟨x, xs, rfl, h3, t3⟩ := h1.lstE
      rw [h2.nilE]
      exact ⟨x, xs, rfl, .inl ⟨SqL.of (off_le _ _ h3), fun J w => p1 G1 H1 Mono.refl c1 J (walk_enumD (fun m => SqL.of (off_le _ _ (m.same _ _ h3))) t3 w)⟩⟩
    · rename_i l
      obtain ⟨v, ws, rfl, h1, h2⟩ := rvs.consE
      obtain ⟨x, xs, rfl, h3, t3⟩ := h1.tupE
      rw [h2.nilE]
      exact ⟨x, xs, rfl, .inr ⟨sqT_le h3, fun J w => p1 G1 H1 Mono.refl c1 J (walk_enumD (fun m => sqT_same off_le (sqT_same m.same h3)) t3 w)⟩⟩
    · exact p1.elim⟩⟩
/-! for -/
def loopF (p : Pat) (s : Ev Fl) : List D → Ev Fl
  | [], env => .val .nx env
  | d :: ds, env => match p.put d env with
    | none => .stuck
    | some e1 => match s e1 with
      | .val .nx e2 => loopF p s ds e2
      | .val .ct e2 => loopF p s ds e2
      | .val .bk e2 => .val .nx e2
      | .val (.rt n r) e2 => .val (.rt n r) e2
      | .stuck => .stuck
      | .exc c as e2 => .exc c as e2
def fFor (fi : Ev (List D)) (p : Pat) (s : Ev Fl) : Ev Fl := fun env => (fi env).bind fun ds e => loopF p s ds e
theorem for_D {G1 : Gh} {H1 : Hp} {env1 : List Slot} {σ : L2.St} {J : It} {ds : List D} {E : Ends} (w : WalkD X.K B.ct G1 H1 J ds) (c1 : Cfg X.K B G1 env1 σ H1) (q : postS X.K B Z G1 H1 (loopF p s ds env1) E) :
    ∃ W : Nat → Nat → L2.St → Hp → Prop, (∃ m, W 0 m σ H1) ∧ ∀ i m σ H, W i m σ H →
      (J.stop i H ∧ E.nx σ H) ∨ (J.go i H ∧ ∃ N : L2.St → Hp → Prop, (∀ σ' H', N σ' H' → ∃ m', m' < m ∧ W (i + 1) m' σ' H') ∧ ∀ x H', J.yld i H x H' → liftG X.K B p x σ H' fun σ2 H2 => liftS X.K B Z s { E with nx := N, ct := N, bk := E.nx } σ2 H2) := by
  refine ⟨fun i m σ' H' => ∃ G' env', Cfg X.K B G' env' σ' H' ∧ Mono G1 H1 G' H' ∧ m + i = ds.length ∧ postS X.K B Z G' H' (loopF p s (ds.drop i) env') E, ⟨ds.length, G1, env1, c1, Mono.refl, rfl, q⟩, ?_⟩
  rintro i m σ' H' ⟨G', env', c', m', hm, q'⟩
  cases m with
  | zero =>
    have hi : i = ds.length := by omega
    subst hi
    rw [List.drop_length] at q'
    exact .inl ⟨w.stop G' H' m', q' G' σ' H' Mono.refl c'⟩
  | succ m =>
    have hi : i < ds.length := by omega
    refine .inr ⟨w.go i G' H' m' hi, fun σ2 H2 => ∃ G2 env2, Cfg X.K B G2 env2 σ2 H2 ∧ Mono G1 H1 G2 H2 ∧ m + (i + 1) = ds.length ∧ postS X.K B Z G2 H2 (loopF p s (ds.drop (i + 1)) env2) E, fun σ2 H2 h => ⟨m, Nat.lt_succ_self _, h⟩, fun x H'' y => ?_⟩
    obtain ⟨sm, d, ed, rd⟩ := w.yld i G' H' x H'' m' c'.live hi y
    have edr : ds.drop i = d :: ds.drop (i + 1) := by
      rw [List.drop_eq_getElem_cons hi]
      have := (List.getElem?_eq_some_iff.mp ed).2
      rw [this]
    rw [edr] at q'
    have c'' := c'.same sm
    have mm := c'.mono sm
    unfold loopF at q'
    cases hp : p.put d env' with
    | none =>
      rw [hp] at q'
      exact q'.elim
    | some e1 =>
      rw [hp] at q'
      refine ⟨G', env', d, e1, c'', rd, hp, fun σ2 c2 _ => ⟨G', e1, c2, ?_⟩⟩
      have q2 : postS X.K B Z G' H' (match s e1 with
        | .val .nx e2 => loopF p s (ds.drop (i + 1)) e2
        | .val .ct e2 => loopF p s (ds.drop (i + 1)) e2
        | .val .bk e2 => .val .nx e2
        | .val (.rt n r) e2 => .val (.rt n r) e2
        | .stuck => .stuck
        | .exc c as e2 => .exc c as e2) E := q'
      cases hs : s e1 with
      | stuck =>
        rw [hs] at q2
        exact q2.elim
      | exc cc as e2 =>
        rw [hs] at q2
        exact fun G3 σ3 H3 dd m3 c3 x => q2 G3 σ3 H3 dd (mm.trans m3) c3 x
      | val fl e2 =>
        rw [hs] at q2
        cases fl with
        | nx => exact fun G3 σ3 H3 m3 c3 => ⟨G3, e2, c3, (m'.trans mm).trans m3, by omega, postS_later (mm.trans m3) q2⟩
        | ct => exact fun G3 σ3 H3 m3 c3 => ⟨G3, e2, c3, (m'.trans mm).trans m3, by omega, postS_later (mm.trans m3) q2⟩
        | bk => exact fun G3 σ3 H3 m3 c3 => q2 G3 σ3 H3 (mm.trans m3) c3
        | rt n r => cases n <;> exact fun G3 σ3 H3 m3 c3 => q2 G3 σ3 H3 (mm.trans m3) c3
theorem ds_for (hp : PassesOwn (model X.prog X.w) X.A X.env X.xe) (hc : X.calm = true) (hi : DI X B Z tg e fi) (hg : DG X B tg p) (hb : DSs X B Z sts s) (hs : ∀ x, foldedSetIterable e X.env x = pure x := by intro _; rfl) :
    DS X B Z (.For tg e sts [] pos) (fFor fi p s) :=
  ⟨PS.weak (ps_for hp hc hi.pi hg.pg hb.pss hs) fun E σ H ⟨G, env, c, q⟩ => ⟨G, env, c, post_imp (exprS q) fun ds e1 G1 H1 m1 c1 p1 J w => for_D w c1 p1⟩⟩
/-! while -/
def wloop (t : Ev Bool) (s : Ev Fl) : Nat → Ev Fl
  | 0, _ => .stuck
  | m + 1, env => (t env).bind fun b e1 => if b = true then (match s e1 with
      | .val .nx e2 => wloop t s m e2
      | .val .ct e2 => wloop t s m e2
      | .val .bk e2 => .val .nx e2
      | .val (.rt n r) e2 => .val (.rt n r) e2
      | .stuck => .stuck
      | .exc c as e2 => .exc c as e2) else .val .nx e1
theorem ds_while (n : Nat) (hp : PassesOwn (model X.prog X.w) X.A X.env X.xe) (hc : DT X B Z c ft) (hb : DSs X B Z sts s) : DS X B Z (.While c sts [] pos) (wloop ft s n) :=
  ⟨PS.weak (ps_while hp hc.pt hb.pss) fun E σ H q => by
    refine ⟨fun m σ H => liftS X.K B Z (wloop ft s m) E σ H, ⟨n, q⟩, ?_⟩
    rintro m σ' H' ⟨G, env, c', q'⟩
    cases m with
    | zero => exact q'.elim
    | succ m =>
      refine ⟨G, env, c', post_imp (exprS q') fun b e1 G1 H1 m1 c1 p1 => ?_⟩
      cases b with
      | false => exact iteF (p1 G1 σ' H1 Mono.refl c1)
      | true =>
        refine iteT ⟨liftS X.K B Z (wloop ft s m) E, fun σ2 H2 h => ⟨m, Nat.lt_succ_self _, h⟩, G1, e1, c1, ?_⟩
        rw [if_pos rfl] at p1
        cases hs : s e1 with
        | stuck =>
          rw [hs] at p1
          exact p1.elim
        | exc cc as e2 =>
          rw [hs] at p1
          exact p1
        | val fl e2 =>
          rw [hs] at p1
          cases fl with
          | nx => exact fun G3 σ3 H3 m3 c3 => ⟨G3, e2, c3, postS_later m3 p1⟩
          | ct => exact fun G3 σ3 H3 m3 c3 => ⟨G3, e2, c3, postS_later m3 p1⟩
          | bk => exact fun G3 σ3 H3 m3 c3 => p1 G3 σ3 H3 m3 c3
          | rt n r => cases n <;> exact fun G3 σ3 H3 m3 c3 => p1 G3 σ3 H3 m3 c3⟩
/-! comprehensions -/
def wipeE (env : List Slot) : List Nat → List Slot
  | [] => env
  | v :: vs => (wipeE env vs).set v .un
/-- the block's own names as they were before -/
def backE (old env : List Slot) : List Nat → List Slot
  | [] => env
  | v :: vs => match old[v]? with
    | some s => (backE old env vs).set v s
    | none => backE old env vs
def calmE (old : List Slot) (vs : List Nat) : Bool := vs.all fun v => match old[v]? with
  | some .un => true
  | some (.sh _) => true
  | _ => false
def compF (p : Pat) (ft : Ev Bool) (fe : Ev D) (vs : List Nat) : List D → List D → Ev (List D)
  | [], acc, env => .val acc env
  | d :: ds, acc, env => match p.put d (wipeE env vs) with
    | none => .stuck
    | some e1 => (ft e1).bind fun b e2 => if b = true then (fe e2).bind fun y e3 => if acc.length < sizeLine then compF p ft fe vs ds (acc ++ [y]) e3 else .stuck
      else compF p ft fe vs ds acc e2
def fComp (fi : Ev (List D)) (p : Pat) (ft : Ev Bool) (fe : Ev D) (vs : List Nat) : Ev D := fun env => (fi env).bind fun ds e1 => if calmE e1 vs then match compF p ft fe vs ds [] e1 with
  | .val acc e2 => .val (.lst acc) (backE e1 e2 vs)
  | _ => .stuck else .stuck
def fYes : Ev Bool := fun env => .val true env
structure DTs (X : Cx) (B : Bs) (Z : ZX) (ifs : List Expr) (f : Ev Bool) : Prop where
  pts : PTs X ifs (liftT X.K B Z f)
theorem dts_nil : DTs X B Z [] fYes := ⟨PTs.weak pts_nil fun σ H Q ⟨G, env, c, q⟩ => q G H Mono.refl c⟩
theorem dts_one (h : DT X B Z c ft) : DTs X B Z [c] ft := ⟨pts_one h.pt⟩
theorem Cfg.wipe {K : PySem.W.Frag} {G : Gh} {env : List Slot} {σ : L2.St} {H : Hp} (c : Cfg K B G env σ H) : ∀ vs : List Nat, Cfg K B G (wipeE env vs) (L2.wipe σ vs) H
  | [] => c
  | v :: vs => by
    have c := Cfg.wipe c vs
    show Cfg K B G ((wipeE env vs).set v .un) ((L2.wipe σ vs).set v none) H
    generalize wipeE env vs = env' at c
    generalize L2.wipe σ vs = σ' at c
    have ne : ∀ {j : Nat} {x : Option V}, v ≠ j → σ'[j]? = some x → (σ'.set v none)[j]? = some x := fun n h => by rw [List.getElem?_set_ne n]; exact h
    refine ⟨by simp [c.len], fun j d' ej => ?_, fun j d' ej => ?_, fun j d' ej => ?_, c.hid, c.inj, c.live, fun j d' b ej z => ?_, c.dom0⟩
    · rcases set_get ej with ⟨rfl, z, l⟩ | ⟨n, z⟩
      · cases z
      · obtain ⟨w, g1, g2⟩ := c.sh j d' z
        exact ⟨w, ne n g1, g2⟩
    · rcases set_get ej with ⟨rfl, z, _⟩ | ⟨n, z⟩
      · cases z
      · obtain ⟨b, g1, g2, g3⟩ := c.ow j d' z
        exact ⟨b, g1, ne n g2, g3⟩
    · rcases set_get ej with ⟨rfl, z, _⟩ | ⟨n, z⟩
      · cases z
      · obtain ⟨b, g1, g0, g2, g3⟩ := c.io j d' z
        exact ⟨b, g1, g0, ne n g2, g3⟩
    · rcases set_get ej with ⟨rfl, q, _⟩ | ⟨n, q⟩
      · cases q
      · exact c.frs j d' b q z
theorem wipe_idem (σ : L2.St) (vs : List Nat) : L2.wipe (L2.wipe σ vs) vs = L2.wipe σ vs := by
  have key : ∀ us : List Nat, (∀ u ∈ us, u ∈ vs) → L2.wipe (L2.wipe σ vs) us = L2.wipe σ vs := by
    intro us
    induction us with
    | nil => exact fun _ => rfl
    | cons u us ih =>
      intro h
      show (L2.wipe (L2.wipe σ vs) us).set u none = L2.wipe σ vs
      rw [ih fun x hx => h x (List.mem_cons_of_mem _ hx)]
      have hu : u ∈ vs := h u (List.mem_cons_self ..)
      clear ih h
      induction vs with
      | nil => simp at hu
      | cons w ws ihw =>
        show ((L2.wipe σ ws).set w none).set u none = (L2.wipe σ ws).set w none
        by_cases e : w = u
        · subst e
          rw [List.set_set]
        · have hu' : u ∈ ws := by
            rcases List.mem_cons.mp hu with z | z
            · exact absurd z.symm e
            · exact z
          rw [List.set_comm _ _ e, ihw hu']
  exact key vs fun _ h => h
section
variable {K : PySem.W.Frag} {G G1 : Gh} {env old : List Slot} {σ : L2.St} {H H1 : Hp} {a : Addr} {o : HO}
/-- a hidden thing that is no slot's is changed -/
theorem Cfg.tmpUpd (c : Cfg K B G env σ H) (hs : G.S a) (hn : ∀ i, G.r i ≠ some a) : Cfg K B G env σ (upd H a o) := by
  have m : Same (off G.S H) (off G.S (upd H a o)) := fun x u e => by
    obtain ⟨n, e⟩ := off_inv e
    rw [off_at n, upd_ne fun z => n (by rw [z]; exact hs)]
    exact e
  have ne : ∀ {j : Nat} {x : Addr}, G.r j = some x → x ≠ a := fun {j x} h z => hn j (by rw [← z]; exact h)
  refine ⟨c.len, fun j d e => ?_, fun j d e => ?_, fun j d e => ?_, c.hid, c.inj, fun x h => ?_, c.frs, fun x h => upd_dom x (c.dom0 x h)⟩
  · obtain ⟨w, g1, g2⟩ := c.sh j d e
    exact ⟨w, g1, g2.mono m⟩
  · obtain ⟨b, g1, g2, g3⟩ := c.ow j d e
    exact ⟨b, g1, g2, g3.mono (upd_ne (ne g1)) m⟩
  · obtain ⟨b, g1, g0, g2, g3⟩ := c.io j d e
    exact ⟨b, g1, g0, g2, g3.mono (upd_ne (ne g1)) m⟩
  · by_cases ex : x = a
    · rw [ex, upd_same]
      exact Option.some_ne_none _
    · rw [upd_ne ex]
      exact c.live x h
theorem Mono.tmpUpd (m : Mono G1 H1 G H) (hs : G.S a) (h1 : ¬ G1.S a) : Mono G1 H1 G (upd H a o) :=
  ⟨fun c u e => by
    have e := m.same c u e
    obtain ⟨n, e⟩ := off_inv e
    rw [off_at n, upd_ne fun z => n (by rw [z]; exact hs)]
    exact e, fun q hq n => by
      obtain ⟨x1, x2, x3⟩ := m.tmp q hq n
      exact ⟨x1, x2, (upd_ne fun z => h1 (by rw [← z]; exact hq)).trans x3⟩, fun p h => upd_dom p (m.dom p h)⟩
/-- hidden no more -/
def Gh.show (G : Gh) (a : Addr) : Gh := ⟨fun c => G.S c ∧ c ≠ a, G.r⟩
theorem Mono.show (m : Mono G1 H1 G H) (h1 : ¬ G1.S a) : Mono G1 H1 (G.show a) H :=
  ⟨fun c u e => by
    obtain ⟨n, e⟩ := off_inv (m.same c u e)
    rw [off_at fun z => n z.1]
    exact e, fun q hq n => by
      obtain ⟨x1, x2, x3⟩ := m.tmp q hq n
      exact ⟨⟨x1, fun z => h1 (by rw [← z]; exact hq)⟩, x2, x3⟩, m.dom⟩
theorem off_show : Same (off G.S H) (off (G.show a).S H) := fun c u e => by
  obtain ⟨n, e⟩ := off_inv e
  rw [off_at fun z => n z.1]
  exact e
theorem Cfg.show (c : Cfg K B G env σ H) (hn : ∀ i, G.r i ≠ some a) : Cfg K B (G.show a) env σ H := by
  refine ⟨c.len, fun j d e => ?_, fun j d e => ?_, fun j d e => ?_, fun i x h => ⟨c.hid i x h, fun z => hn i (by rw [← z]; exact h)⟩, c.inj, fun x h => c.live x h.1, c.frs, c.dom0⟩
  · obtain ⟨w, g1, g2⟩ := c.sh j d e
    exact ⟨w, g1, g2.mono off_show⟩
  · obtain ⟨b, g1, g2, g3⟩ := c.ow j d e
    exact ⟨b, g1, g2, g3.mono rfl off_show⟩
  · obtain ⟨b, g1, g0, g2, g3⟩ := c.io j d e
    exact ⟨b, g1, g0, g2, g3.mono rfl off_show⟩
theorem wipeE_out {i : Nat} : ∀ {vs : List Nat}, i ∉ vs → (wipeE env vs)[i]? = env[i]?
  | [], _ => rfl
  | v :: vs, h => by
    show ((wipeE env vs).set v .un)[i]? = env[i]?
    rw [List.getElem?_set_ne fun e => h (by simp [e]), wipeE_out fun z => h (List.mem_cons_of_mem _ z)]
theorem wipe_out {i : Nat} : ∀ {vs : List Nat}, i ∉ vs → (L2.wipe σ vs)[i]? = σ[i]?
  | [], _ => rfl
  | v :: vs, h => by
    show ((L2.wipe σ vs).set v none)[i]? = σ[i]?
    rw [List.getElem?_set_ne fun e => h (by simp [e]), wipe_out fun z => h (List.mem_cons_of_mem _ z)]
theorem backE_len : ∀ vs : List Nat, (backE old env vs).length = env.length
  | [] => rfl
  | v :: vs => by
    unfold backE
    split
    · rw [List.length_set, backE_len vs]
    · exact backE_len vs
theorem wipeE_len : ∀ vs : List Nat, (wipeE env vs).length = env.length
  | [] => rfl
  | v :: vs => by
    show ((wipeE env vs).set v .un).length = _
    rw [List.length_set, wipeE_len vs]
theorem backE_out {i : Nat} : ∀ {vs : List Nat}, i ∉ vs → (backE old env vs)[i]? = env[i]?
  | [], _ => rfl
  | v :: vs, h => by
    unfold backE
    split
    · rw [List.getElem?_set_ne fun e => h (by simp [e]), backE_out fun z => h (List.mem_cons_of_mem _ z)]
    · exact backE_out fun z => h (List.mem_cons_of_mem _ z)
theorem backE_in (hl : env.length = old.length) {i : Nat} : ∀ {vs : List Nat}, i ∈ vs → (backE old env vs)[i]? = old[i]?
  | v :: vs, h => by
    unfold backE
    by_cases e : v = i
    · subst e
      split
      · rename_i s hs
        rw [List.getElem?_set_self (by rw [backE_len, hl]; exact (List.getElem?_eq_some_iff.mp hs).1), hs]
      · rename_i hs
        rw [hs]
        have : old.length ≤ v := List.getElem?_eq_none_iff.mp hs
        exact List.getElem?_eq_none_iff.mpr (by rw [backE_len, hl]; exact this)
    · have h' : i ∈ vs := by
        rcases List.mem_cons.mp h with z | z
        · exact absurd z.symm e
        · exact z
      split
      · rw [List.getElem?_set_ne e, backE_in hl h']
      · exact backE_in hl h'
theorem Cfg.back {vs : List Nat} (c1 : Cfg K B G1 old σ H1) (calm : calmE old vs = true) (c : Cfg K B G (wipeE env vs) (L2.wipe σ vs) H) (m : Mono G1 H1 G H) : Cfg K B G (backE old env vs) σ H := by
  have hl : env.length = old.length := by
    have h1 := c.len
    have h2 := c1.len
    rw [wipeE_len, L2.wipe_length] at h1
    omega
  have pick : ∀ {i : Nat} {s : Slot}, (backE old env vs)[i]? = some s → (i ∉ vs ∧ (wipeE env vs)[i]? = some s ∧ (L2.wipe σ vs)[i]? = σ[i]?) ∨ (old[i]? = some s ∧ (s = .un ∨ ∃ d, s = .sh d)) := fun {i s} h => by
    by_cases hi : i ∈ vs
    · rw [backE_in hl hi] at h
      refine .inr ⟨h, ?_⟩
      have hc := List.all_eq_true.mp calm i hi
      rw [h] at hc
      cases s with
      | un => exact .inl rfl
      | sh d => exact .inr ⟨d, rfl⟩
      | _ => cases hc
    · rw [backE_out hi] at h
      exact .inl ⟨hi, by rw [wipeE_out hi]; exact h, wipe_out hi⟩
  refine ⟨by rw [backE_len, hl]; exact c1.len, fun j d e => ?_, fun j d e => ?_, fun j d e => ?_, c.hid, c.inj, c.live, fun j d b e z => ?_, c.dom0⟩
  · rcases pick e with ⟨_, e1, e2⟩ | ⟨e1, _⟩
    · obtain ⟨w, g1, g2⟩ := c.sh j d e1
      rw [e2] at g1
      exact ⟨w, g1, g2⟩
    · obtain ⟨w, g1, g2⟩ := c1.sh j d e1
      exact ⟨w, g1, g2.mono m.same⟩
  · rcases pick e with ⟨_, e1, e2⟩ | ⟨_, z | ⟨d, z⟩⟩
    · obtain ⟨b, g1, g2, g3⟩ := c.ow j d e1
      rw [e2] at g2
      exact ⟨b, g1, g2, g3⟩
    · cases z
    · cases z
  · rcases pick e with ⟨_, e1, e2⟩ | ⟨_, z | ⟨d, z⟩⟩
    · obtain ⟨b, g1, g0, g2, g3⟩ := c.io j d e1
      rw [e2] at g2
      exact ⟨b, g1, g0, g2, g3⟩
    · cases z
    · cases z
  · rcases pick e with ⟨_, e1, e2⟩ | ⟨_, q | ⟨d, q⟩⟩
    · exact c.frs j d b e1 z
    · cases q
    · cases q
end
theorem Out.bind_val {α β : Type} {o : Out α} {k : α → List Slot → Out β} {r : β} {e : List Slot} (h : o.bind k = .val r e) : ∃ a e1, o = .val a e1 ∧ k a e1 = .val r e := by
  cases o with
  | val a e1 => exact ⟨a, e1, rfl, h⟩
  | stuck => cases h
  | exc c as e1 => cases h
variable {Zb : ZX}
theorem lc_DN {vs : List Nat} {G1 : Gh} {H1 : Hp} {e1 eF : List Slot} {σ : L2.St} {J : It} {ds acF : List D} {Q : VK} (hw : p.wi vs = true) (w : WalkD X.K B.ct G1 H1 J ds) (c1 : Cfg X.K B G1 e1 σ H1) (calm : calmE e1 vs = true) (q : compF p ft fe vs ds [] e1 = .val acF eF)
    (hq : ∀ G' H' L, H1 L = none → Mono G1 H1 G' H' → Cfg X.K B G' (backE e1 eF vs) σ H' → G'.S L → (∀ i, G'.r i ≠ some L) → OwnAt X.K B.ct H' (off G'.S H') L (.lst acF) → Q (.ref L) H') : ∀ L, H1 L = none → ∃ W : Nat → Nat → Hp → Prop, (∃ m, W 0 m (upd H1 L (.lst []))) ∧ ∀ i m H, W i m H →
      (J.stop i H ∧ Q (.ref L) H) ∨ (J.go i H ∧ ∃ Nx : Hp → Prop, (∀ H', Nx H' → ∃ m', m' < m ∧ W (i + 1) m' H') ∧ ∀ x H', J.yld i H x H' → liftG X.K B p x (wipe σ vs) H' fun σ2 H2 => wipe σ2 vs = wipe σ vs ∧ liftT X.K B Zb ft σ2 H2 fun b H3 =>
        if b = true then liftE X.K B Zb fe σ2 H3 fun y H4 => ∃ acc, H4 L = some (.lst acc) ∧ acc.length < sizeLine ∧ Nx (upd H4 L (.lst (acc ++ [y]))) else Nx H3) := by
  intro L hL
  have nS1 : ¬ G1.S L := fun z => c1.live L z hL
  let W : Nat → Nat → Hp → Prop := fun i m H => ∃ G env acV acc, Cfg X.K B G (wipeE env vs) (L2.wipe σ vs) H ∧ Mono G1 H1 G H ∧ G.S L ∧ (∀ i, G.r i ≠ some L) ∧ H L = some (.lst acV) ∧ Rps X.K B.ct (off G.S H) acV acc ∧ m + i = ds.length ∧ compF p ft fe vs (ds.drop i) acc env = .val acF eF
  refine ⟨W, ⟨ds.length, G1.hide L, e1, [], [], ((c1.wipe vs).hide hL), Mono.hide hL c1.live, .inr rfl, fun i z => nS1 (c1.hid i L z), upd_same, .nil, rfl, q⟩, ?_⟩
  rintro i m H ⟨G, env, acV, acc, c, mm, hS, hR, hLH, rac, hm, hc⟩
  cases m with
  | zero =>
    have hi : i = ds.length := by omega
    subst hi
    rw [List.drop_length] at hc
    cases hc
    exact .inl ⟨w.stop G H mm, hq G H L hL mm (Cfg.back c1 calm c mm) hS hR ⟨acV, hLH, rac⟩⟩
  | succ m =>
    have hi : i < ds.length := by omega
    refine .inr ⟨w.go i G H mm hi, W (i + 1) m, fun H' h => ⟨m, Nat.lt_succ_self _, h⟩, fun x H'' y => ?_⟩
    obtain ⟨sm, d, ed, rd⟩ := w.yld i G H x H'' mm c.live hi y
    have edr : ds.drop i = d :: ds.drop (i + 1) := by
      rw [List.drop_eq_getElem_cons hi]
      have := (List.getElem?_eq_some_iff.mp ed).2
      rw [this]
    rw [edr] at hc
    unfold compF at hc
    cases hp : p.put d (wipeE env vs) with
    | none =>
      rw [hp] at hc
      cases hc
    | some e2 =>
      rw [hp] at hc
      obtain ⟨b, e3, hft, hc⟩ := Out.bind_val hc
      have mm1 := mm.trans (c.mono sm)
      refine ⟨G, wipeE env vs, d, e2, c.same sm, rd, hp, fun σ2 c2 w2 => ⟨by rw [w2 vs hw, wipe_idem], G, e2, c2, ?_⟩⟩
      rw [hft]
      intro G3 H3 m3 c3
      have w3 : L2.wipe σ2 vs = L2.wipe σ vs := by rw [w2 vs hw, wipe_idem]
      have hL1 : H'' L = some (.lst acV) := sm _ _ hLH
      have rac1 := rac.mono (off_same sm)
      obtain ⟨t1, t2, t3⟩ := m3.tmp L hS hR
      cases b with
      | false =>
        rw [if_neg Bool.false_ne_true] at hc
        refine iteF ⟨G3, e3, acV, acc, ?_, mm1.trans m3, t1, t2, t3.trans hL1, rac1.mono m3.same, by omega, hc⟩
        rw [← w3]
        exact c3.wipe vs
      | true =>
        rw [if_pos rfl] at hc
        obtain ⟨yd, e4, hfe, hc⟩ := Out.bind_val hc
        refine iteT ⟨G3, e3, c3, ?_⟩
        rw [hfe]
        intro G4 H4 m4 c4 v rv
        obtain ⟨u1, u2, u3⟩ := m4.tmp L t1 t2
        have hL4 : H4 L = some (.lst acV) := u3.trans (t3.trans hL1)
        have rac4 := (rac1.mono m3.same).mono m4.same
        by_cases hl : acc.length < sizeLine
        · rw [if_pos hl] at hc
          have keep : Same (off G4.S H4) (off G4.S (upd H4 L (.lst (acV ++ [v])))) := fun c u e => by
            obtain ⟨n, e⟩ := off_inv e
            rw [off_at n, upd_ne fun z => n (by rw [z]; exact u1)]
            exact e
          refine ⟨acV, hL4, by rw [rac4.len]; exact hl, G4, e4, acV ++ [v], acc ++ [yd], ?_, ((mm1.trans m3).trans m4).tmpUpd u1 nS1, u1, u2, upd_same, (rac4.app (.one rv)).mono keep, by omega, hc⟩
          rw [← w3]
          exact (c4.wipe vs).tmpUpd u1 u2
        · rw [if_neg hl] at hc
          cases hc
theorem lc_D {vs : List Nat} {G1 : Gh} {H1 : Hp} {e1 eF : List Slot} {σ : L2.St} {J : It} {ds acF : List D} {Q : VK} (hw : p.wi vs = true) (w : WalkD X.K B.ct G1 H1 J ds) (c1 : Cfg X.K B G1 e1 σ H1) (calm : calmE e1 vs = true) (q : compF p ft fe vs ds [] e1 = .val acF eF)
    (hq : ∀ G' H', Mono G1 H1 G' H' → Cfg X.K B G' (backE e1 eF vs) σ H' → ∀ v, Rp X.K B.ct (off G'.S H') v (.lst acF) → Q v H') : ∀ L, H1 L = none → ∃ W : Nat → Nat → Hp → Prop, (∃ m, W 0 m (upd H1 L (.lst []))) ∧ ∀ i m H, W i m H →
      (J.stop i H ∧ Q (.ref L) H) ∨ (J.go i H ∧ ∃ Nx : Hp → Prop, (∀ H', Nx H' → ∃ m', m' < m ∧ W (i + 1) m' H') ∧ ∀ x H', J.yld i H x H' → liftG X.K B p x (wipe σ vs) H' fun σ2 H2 => wipe σ2 vs = wipe σ vs ∧ liftT X.K B Zb ft σ2 H2 fun b H3 =>
        if b = true then liftE X.K B Zb fe σ2 H3 fun y H4 => ∃ acc, H4 L = some (.lst acc) ∧ acc.length < sizeLine ∧ Nx (upd H4 L (.lst (acc ++ [y]))) else Nx H3) :=
  lc_DN hw w c1 calm q fun G' H' L hL mm c hS hR ho => by
    have nS1 : ¬ G1.S L := fun z => c1.live L z hL
    obtain ⟨vs', h1, h2⟩ := ho
    exact hq (G'.show L) H' (mm.show nS1) (c.show hR) _ (.lst (by rw [off_at (show ¬ (G'.S L ∧ L ≠ L) from fun z => z.2 rfl)]; exact h1) (h2.mono off_show))
theorem lift_lc {vs : List Nat} (hw : p.wi vs = true) (σ : L2.St) (H : Hp) (Q : VK) (h : liftE X.K B Z (fComp fi p ft fe vs) σ H Q) : tLc (liftI X.K B Z fi) (liftG X.K B p) (liftT X.K B Zb ft) (liftE X.K B Zb fe) vs σ H Q := by
  obtain ⟨G, env, c, q⟩ := h
  refine ⟨G, env, c, post_imp (post_bind q) fun ds e1 G1 H1 m1 c1 p1 J w => ?_⟩
  by_cases calm : calmE e1 vs = true
  · rw [if_pos calm] at p1
    cases hc : compF p ft fe vs ds [] e1 with
    | val acF eF =>
      rw [hc] at p1
      exact lc_D hw w c1 calm hc p1
    | stuck =>
      rw [hc] at p1
      exact p1.elim
    | exc cc as e2 =>
      rw [hc] at p1
      exact p1.elim
  · rw [if_neg calm] at p1
    exact p1.elim
theorem lift_lcN {vs : List Nat} (hw : p.wi vs = true) (σ : L2.St) (H : Hp) (Q : VK) (h : liftN X.K B Z (fComp fi p ft fe vs) σ H Q) : tLc (liftI X.K B Z fi) (liftG X.K B p) (liftT X.K B Zb ft) (liftE X.K B Zb fe) vs σ H Q := by
  obtain ⟨G, env, c, q⟩ := h
  refine ⟨G, env, c, post_imp (post_bind q) fun ds e1 G1 H1 m1 c1 p1 J w => ?_⟩
  by_cases calm : calmE e1 vs = true
  · rw [if_pos calm] at p1
    cases hc : compF p ft fe vs ds [] e1 with
    | val acF eF =>
      rw [hc] at p1
      exact lc_DN hw w c1 calm hc fun G' H' L hL mm c' hS hR ho => p1 G' H' mm c' L (undom m1 hL) hS hR ho
    | stuck =>
      rw [hc] at p1
      exact p1.elim
    | exc cc as e2 =>
      rw [hc] at p1
      exact p1.elim
  · rw [if_neg calm] at p1
    exact p1.elim
theorem de_comp {ifs : List Expr} {scope : Scope} {own : List (Str × Nat)} (hc : X.calm = true) (hN : X.N.Nodup) (hi : DI X B Z tg e fi) (ok : BlkOk X.N X.env.scope scope own) (hw : p.wi (own.map (·.2)) = true)
    (hg : ∀ (s : Shared) (H : Hp) (C : Addr) (cl : List (Str × Addr)) (fp : List Addr), DG (X.blk s H scope (compEnvC scope cl C X.env) fp) B tg p) (ht : ∀ (s : Shared) (H : Hp) (C : Addr) (cl : List (Str × Addr)) (fp : List Addr), DTs (X.blk s H scope (compEnvC scope cl C X.env) fp) B Zb ifs ft)
    (he : ∀ (s : Shared) (H : Hp) (C : Addr) (cl : List (Str × Addr)) (fp : List Addr), DE (X.blk s H scope (compEnvC scope cl C X.env) fp) B Zb elt fe) (hs : ∀ x, foldedSetIterable e X.env x = pure x := by intro _; rfl) :
    DE X B Z (.ListComp elt [⟨tg, e, ifs, 0⟩] scope pos) (fComp fi p ft fe (own.map (·.2))) :=
  ⟨PE.weak (pe_lc hc hN hi.pi ok (fun s H C cl fp => (hg s H C cl fp).pg) (fun s H C cl fp => (ht s H C cl fp).pts) (fun s H C cl fp => (he s H C cl fp).pe) hs) (lift_lc hw)⟩
theorem dn_comp {ifs : List Expr} {scope : Scope} {own : List (Str × Nat)} (hc : X.calm = true) (hN : X.N.Nodup) (hi : DI X B Z tg e fi) (ok : BlkOk X.N X.env.scope scope own) (hw : p.wi (own.map (·.2)) = true)
    (hg : ∀ (s : Shared) (H : Hp) (C : Addr) (cl : List (Str × Addr)) (fp : List Addr), DG (X.blk s H scope (compEnvC scope cl C X.env) fp) B tg p) (ht : ∀ (s : Shared) (H : Hp) (C : Addr) (cl : List (Str × Addr)) (fp : List Addr), DTs (X.blk s H scope (compEnvC scope cl C X.env) fp) B Zb ifs ft)
    (he : ∀ (s : Shared) (H : Hp) (C : Addr) (cl : List (Str × Addr)) (fp : List Addr), DE (X.blk s H scope (compEnvC scope cl C X.env) fp) B Zb elt fe) (hs : ∀ x, foldedSetIterable e X.env x = pure x := by intro _; rfl) :
    DN X B Z (.ListComp elt [⟨tg, e, ifs, 0⟩] scope pos) (fComp fi p ft fe (own.map (·.2))) :=
  ⟨PE.weak (pe_lc hc hN hi.pi ok (fun s H C cl fp => (hg s H C cl fp).pg) (fun s H C cl fp => (ht s H C cl fp).pts) (fun s H C cl fp => (he s H C cl fp).pe) hs) (lift_lcN hw)⟩
/-- x = [.. for ..] -/
theorem ds_comp {i : Nat} {y : Str} {py spos : Pos} {ifs : List Expr} {scope : Scope} {own : List (Str × Nat)} (hc : X.calm = true) (hN : X.N.Nodup) (hy : X.N[i]? = some y) (hyl : X.env.scope.names.lookup y = some .local)
    (hsw : swapsWith (.ListComp elt [⟨tg, e, ifs, 0⟩] scope pos) (some (.Name y py)) spos.line X.env = pure true) (hi : DI X B Z tg e fi) (ok : BlkOk X.N X.env.scope scope own) (hw : p.wi (own.map (·.2)) = true)
    (hg : ∀ (s : Shared) (H : Hp) (C : Addr) (cl : List (Str × Addr)) (fp : List Addr), DG (X.blk s H scope (compEnvC scope cl C X.env) fp) B tg p) (ht : ∀ (s : Shared) (H : Hp) (C : Addr) (cl : List (Str × Addr)) (fp : List Addr), DTs (X.blk s H scope (compEnvC scope cl C X.env) fp) B Zb ifs ft)
    (he : ∀ (s : Shared) (H : Hp) (C : Addr) (cl : List (Str × Addr)) (fp : List Addr), DE (X.blk s H scope (compEnvC scope cl C X.env) fp) B Zb elt fe) (hs : ∀ x, foldedSetIterable e X.env x = pure x := by intro _; rfl) :
    DS X B Z (.Assign [.Name y py] (.ListComp elt [⟨tg, e, ifs, 0⟩] scope pos) spos) (fAsg (.nm i) (fComp fi p ft fe (own.map (·.2)))) :=
  ⟨PS.weak (ps_setLc hc hN hy hyl hsw hi.pi ok (fun s H C cl fp => (hg s H C cl fp).pg) (fun s H C cl fp => (ht s H C cl fp).pts) (fun s H C cl fp => (he s H C cl fp).pe) hs) fun E σ H h => by
    obtain ⟨G, env, c, q⟩ := h
    refine lift_lc (Z := Z) (Zb := Zb) hw σ H _ ⟨G, env, c, post_imp (exprS q) fun d e1 G1 H1 m1 c1 p1 v rv => ?_⟩
    simp only [Pat.put] at p1
    exact p1 G1 _ H1 Mono.refl (c1.put rv)⟩
/-- x = [.. for ..] -/
theorem ds_compN {i : Nat} {y : Str} {py spos : Pos} {ifs : List Expr} {scope : Scope} {own : List (Str × Nat)} (hc : X.calm = true) (hN : X.N.Nodup) (hy : X.N[i]? = some y) (hyl : X.env.scope.names.lookup y = some .local)
    (hsw : swapsWith (.ListComp elt [⟨tg, e, ifs, 0⟩] scope pos) (some (.Name y py)) spos.line X.env = pure true) (hi : DI X B Z tg e fi) (ok : BlkOk X.N X.env.scope scope own) (hw : p.wi (own.map (·.2)) = true)
    (hg : ∀ (s : Shared) (H : Hp) (C : Addr) (cl : List (Str × Addr)) (fp : List Addr), DG (X.blk s H scope (compEnvC scope cl C X.env) fp) B tg p) (ht : ∀ (s : Shared) (H : Hp) (C : Addr) (cl : List (Str × Addr)) (fp : List Addr), DTs (X.blk s H scope (compEnvC scope cl C X.env) fp) B Zb ifs ft)
    (he : ∀ (s : Shared) (H : Hp) (C : Addr) (cl : List (Str × Addr)) (fp : List Addr), DE (X.blk s H scope (compEnvC scope cl C X.env) fp) B Zb elt fe) (hs : ∀ x, foldedSetIterable e X.env x = pure x := by intro _; rfl) :
    DS X B Z (.Assign [.Name y py] (.ListComp elt [⟨tg, e, ifs, 0⟩] scope pos) spos) (fSetN i (fComp fi p ft fe (own.map (·.2)))) :=
  ⟨PS.weak (ps_setLc hc hN hy hyl hsw hi.pi ok (fun s H C cl fp => (hg s H C cl fp).pg) (fun s H C cl fp => (ht s H C cl fp).pts) (fun s H C cl fp => (he s H C cl fp).pe) hs) fun E σ H h => by
    obtain ⟨G, env, c, q⟩ := h
    refine lift_lcN (Z := Z) (Zb := Zb) hw σ H _ ⟨G, env, c, post_imp (exprS0 q) fun d e1 G1 H1 m1 c1 p1 p hp hS hR ho => ?_⟩
    exact p1 (G1.own i p) _ H1 (m1.own (c.unS hp)) (c1.adopt hS hR ho (c.new0 hp))⟩
end
end Vl

set_option Elab.async false
set_option linter.all false
set_option maxRecDepth 100000
set_option maxHeartbeats 2000000
/-! Vf: a def's promise over data; calls. -/
namespace Vl
open PySem PySem.Spec PyProof.Rows L2 Sb
/-- the arguments: m tells which ones may be changed; they stand at ia -/
structure ArgsOk (K : PySem.W.Frag) (ct : Ct) (S : Addr → Prop) (ia : Nat → Option Addr) (m : List Bool) (vs : List V) (ds : List D) (H : Hp) : Prop where
  lv : vs.length = m.length
  ld : ds.length = m.length
  sh : ∀ (j : Nat) (v : V) (d : D), m[j]? = some false → vs[j]? = some v → ds[j]? = some d → Rp K ct (off S H) v d
  io : ∀ (j : Nat) (v : V) (d : D), m[j]? = some true → vs[j]? = some v → ds[j]? = some d → ∃ a, ia j = some a ∧ v = .ref a ∧ OwnAt K ct H (off S H) a d
  only : ∀ (j : Nat) (a : Addr), ia j = some a → m[j]? = some true
  hid : ∀ (j : Nat) (a : Addr), ia j = some a → S a
  inj : ∀ (i j : Nat) (a : Addr), ia i = some a → ia j = some a → i = j
  live : ∀ (a : Addr), S a → H a ≠ none
inductive Res where
  | stuck | ret (n : Bool) (d : D) (ns : List D) | exc (c : Str) (as : List D) (ns : List D)
structure Frame (K : PySem.W.Frag) (ct : Ct) (S S' : Addr → Prop) (ia : Nat → Option Addr) (H H' : Hp) (ns : List D) : Prop where
  same : Same (off S H) (off S' H')
  hold : ∀ c, S c → (∀ j, ia j ≠ some c) → H' c = H c
  new : ∀ (j : Nat) (a : Addr), ia j = some a → ∃ d, ns[j]? = some d ∧ OwnAt K ct H' (off S' H') a d
  dom : ∀ p, H p ≠ none → H' p ≠ none
def more (S : Addr → Prop) (a : Addr) : Addr → Prop := fun c => S c ∨ c = a
def spV (K : PySem.W.Frag) (ct : Ct) (m : List Bool) (Φ : List D → Res) : Sp := fun vs H Q E => ∃ S ia ds, ArgsOk K ct S ia m vs ds H ∧ match Φ ds with
  | .stuck => False
  | .ret false r ns => ∀ v H', Frame K ct S S ia H H' ns → Rp K ct (off S H') v r → Q v H'
  | .ret true r ns => ∀ a H', H a = none → Frame K ct S (more S a) ia H H' ns → OwnAt K ct H' (off (more S a) H') a r → Q (.ref a) H'
  | .exc c as ns => ∀ H' dd C nm, Frame K ct S S ia H H' ns → ExcAt K ct (off S H') dd c as → ct c = some (C, nm) → E (.ref C) (some dd) H'
def mkEnv (m : List Bool) (n : Nat) (ds : List D) : List Slot := List.zipWith (fun b d => if b then Slot.io d else Slot.sh d) m ds ++ List.replicate (n - m.length) .un
def ioAt (env : List Slot) : Nat → List Bool → Option (List D)
  | _, [] => some []
  | j, b :: m => match b, env[j]?, ioAt env (j + 1) m with
    | false, _, some l => some (.non :: l)
    | true, some (.io d), some l => some (d :: l)
    | _, _, _ => none
theorem ioAt_get {env : List Slot} : ∀ (m : List Bool) (k : Nat) (l : List D), ioAt env k m = some l → ∀ j, m[j]? = some true → ∃ d, l[j]? = some d ∧ env[k + j]? = some (.io d)
  | [], _, _, _, j, h => by simp at h
  | b :: m, k, l, e, j, h => by
    unfold ioAt at e
    split at e
    · rename_i _ _ l' e2
      cases e
      cases j with
      | zero => simp at h
      | succ j =>
        obtain ⟨d, h1, h2⟩ := ioAt_get m (k + 1) l' e2 j (by simpa using h)
        exact ⟨d, by simpa using h1, by rw [show k + (j + 1) = k + 1 + j by omega]; exact h2⟩
    · rename_i _ d l' e2 e3
      cases e
      cases j with
      | zero => exact ⟨d, rfl, e2⟩
      | succ j =>
        obtain ⟨d', h1, h2⟩ := ioAt_get m (k + 1) l' e3 j (by simpa using h)
        exact ⟨d', by simpa using h1, by rw [show k + (j + 1) = k + 1 + j by omega]; exact h2⟩
    · cases e
def Res.of (m : List Bool) (o : Out Fl) : Res := match o with
  | .val (.rt n d) env => match ioAt env 0 m with
    | some l => .ret n d l
    | none => .stuck
  | .val .nx env => match ioAt env 0 m with
    | some l => .ret false .non l
    | none => .stuck
  | .exc c as env => match ioAt env 0 m with
    | some l => .exc c as l
    | none => .stuck
  | _ => .stuck
def runV (m : List Bool) (n : Nat) (F : Ev Fl) (ds : List D) : Res := Res.of m (F (mkEnv m n ds))
/-- without exceptions -/
def Res.quiet : Res → Res
  | .exc _ _ _ => .stuck
  | r => r
section
variable {K : PySem.W.Frag} {ct : Ct} {S : Addr → Prop} {ia : Nat → Option Addr} {m : List Bool} {vs : List V} {ds : List D} {H : Hp} {N : List Str}
theorem mkEnv_get {n j : Nat} {s : Slot} (hl : ds.length = m.length) (h : (mkEnv m n ds)[j]? = some s) : (∃ b d, m[j]? = some b ∧ ds[j]? = some d ∧ s = if b then .io d else .sh d) ∨ (m.length ≤ j ∧ s = .un) := by
  unfold mkEnv at h
  by_cases e : j < m.length
  · rw [List.getElem?_append_left (by rw [List.length_zipWith]; omega), List.getElem?_zipWith] at h
    have e2 : j < ds.length := by omega
    rw [List.getElem?_eq_getElem e, List.getElem?_eq_getElem e2] at h
    exact .inl ⟨_, _, List.getElem?_eq_getElem e, List.getElem?_eq_getElem e2, (Option.some.inj h).symm⟩
  · rw [List.getElem?_append_right (by rw [List.length_zipWith]; omega)] at h
    have := List.mem_of_getElem? h
    exact .inr ⟨by omega, (List.mem_replicate.mp this).2⟩
theorem start_get {j : Nat} {v : V} (h : vs[j]? = some v) : (L2.start N vs)[j]? = some (some v) := by
  unfold L2.start
  have hl := (List.getElem?_eq_some_iff.mp h).1
  rw [List.getElem?_append_left (by simpa using hl), List.getElem?_map, h]
  rfl
theorem start_cfg (A : ArgsOk K ct S ia m vs ds H) (hn : m.length ≤ N.length) : Cfg K ⟨ct, ia, H⟩ ⟨S, ia⟩ (mkEnv m N.length ds) (L2.start N vs) H := by
  have at_ : ∀ {j : Nat} {b : Bool}, m[j]? = some b → ∃ v, vs[j]? = some v := fun {j b} h => by
    have := (List.getElem?_eq_some_iff.mp h).1
    exact ⟨vs[j]'(by rw [A.lv]; exact this), List.getElem?_eq_getElem _⟩
  refine ⟨?_, fun j d e => ?_, fun j d e => ?_, fun j d e => ?_, A.hid, A.inj, A.live, fun j d a e _ => ?_, fun _ h => h⟩
  · have h1 := A.lv
    have h2 := A.ld
    unfold mkEnv L2.start
    simp only [List.length_append, List.length_zipWith, List.length_replicate, List.length_map]
    omega
  · rcases mkEnv_get A.ld e with ⟨b, d', h1, h2, h3⟩ | ⟨_, h⟩
    · cases b with
      | true => cases h3
      | false =>
        cases h3
        obtain ⟨v, hv⟩ := at_ h1
        exact ⟨v, start_get hv, A.sh j v _ h1 hv h2⟩
    · cases h
  · rcases mkEnv_get A.ld e with ⟨b, d', h1, h2, h3⟩ | ⟨_, h⟩
    · cases b <;> cases h3
    · cases h
  · rcases mkEnv_get A.ld e with ⟨b, d', h1, h2, h3⟩ | ⟨_, h⟩
    · cases b with
      | false => cases h3
      | true =>
        cases h3
        obtain ⟨v, hv⟩ := at_ h1
        obtain ⟨a, g1, g2, g3⟩ := A.io j v _ h1 hv h2
        subst g2
        exact ⟨a, g1, g1, start_get hv, g3⟩
    · cases h
  · rcases mkEnv_get A.ld e with ⟨b, d', h1, h2, h3⟩ | ⟨_, h⟩
    · cases b <;> cases h3
    · cases h
/-- the frame at the end -/
theorem end_frame {S' : Addr → Prop} {G' : Gh} {env : List Slot} {σ' : L2.St} {H' : Hp} {l : List D} (A : ArgsOk K ct S ia m vs ds H) (mm : Mono ⟨S, ia⟩ H G' H') (c : Cfg K ⟨ct, ia, H⟩ G' env σ' H') (e : ioAt env 0 m = some l) (hS : ∀ x, S' x → S x ∨ G'.S x) : Frame K ct S S' ia H H' l ∧ Same (off G'.S H') (off S' H') := by
  have own : ∀ {j : Nat} {a : Addr}, ia j = some a → ∃ d, l[j]? = some d ∧ G'.r j = some a ∧ OwnAt K ct H' (off G'.S H') a d := fun {j a} h => by
    obtain ⟨d, h1, h2⟩ := ioAt_get m 0 l e j (A.only j a h)
    rw [Nat.zero_add] at h2
    obtain ⟨a', g1, g2, g3, g4⟩ := c.io j d h2
    have g2 : ia j = some a' := g2
    rw [h] at g2
    cases g2
    exact ⟨d, h1, g1, g4⟩
  have le : Same (off G'.S H') (off S' H') := fun x u h => by
    obtain ⟨n, h⟩ := off_inv h
    rw [off_at fun z => n ?_]
    · exact h
    · rcases hS x z with z | z
      · by_cases q : ∃ j, ia j = some x
        · obtain ⟨j, q⟩ := q
          obtain ⟨d, _, g, _⟩ := own q
          exact c.hid j x g
        · exact (mm.tmp x z fun i y => q ⟨i, y⟩).1
      · exact z
  refine ⟨⟨fun x u h => le _ _ (mm.same x u h), fun x hx n => (mm.tmp x hx n).2.2, fun j a h => ?_, mm.dom⟩, le⟩
  obtain ⟨d, h1, _, h3⟩ := own h
  exact ⟨d, h1, h3.mono rfl le⟩
end
def ZNo : ZX := fun _ _ _ _ _ _ _ => False
section
variable {P : Program} {w : World} {K : PySem.W.Frag} {mg : Str → Option Value} {base : Heap} {k : Nat} {f : Addr} {ct : Ct}
/-- a def's promise by its body over data -/
theorem okV {x qual : Str} {st : Stmt} {fd : FuncData} {N ps : List Str} {m : List Bool} {Fs : Ev Fl} (F : Fun K x qual st f fd) (Zs : FnScope N ps (defScope st)) (hm : m.length = ps.length)
    (hb : ∀ (io : Nat → Option Addr) (cdv : Value) (A : Around) (out : List Env) (s : Shared) (H : Hp) (E : XK), A.guards = some [] → Room k (A.deeper (envOfC qual (defScope st) s.heap.objs.size f cdv)) →
      DSs (cxOf CX0 P w K mg base N qual (defScope st) f cdv A out s H E).nox ⟨ct, io, H⟩ ZNo (defBody st) Fs) : FnG P w K mg base CX0 (k + 1) f fd ps (spV K ct m fun ds => (runV m N.length Fs ds).quiet) := by
  have hn : m.length ≤ N.length := by
    rw [hm]
    have := congrArg List.length Zs.pre
    rw [List.length_take] at this
    omega
  refine okG F Zs (fun vs H Q E h => ?_) (fun cdv A out s H vs Q E hg hr h => ?_)
  · obtain ⟨S, ia, ds, A, _⟩ := h
    rw [A.lv, hm]
  · obtain ⟨S, ia, ds, Ar, q⟩ := h
    refine ⟨_, (hb ia cdv A out s H E hg hr).pss, ⟨S, ia⟩, mkEnv m N.length ds, start_cfg Ar hn, ?_⟩
    have fin : ∀ {G' : Gh} {env : List Slot} {σ' : L2.St} {H' : Hp} {l : List D}, Mono ⟨S, ia⟩ H G' H' → Cfg K ⟨ct, ia, H⟩ G' env σ' H' → ioAt env 0 m = some l → Frame K ct S S ia H H' l ∧ Same (off G'.S H') (off S H') := fun a b c => end_frame Ar a b c fun _ h => .inl h
    have q : (match (runV m N.length Fs ds).quiet with
  | .stuck => False
  | .ret false r ns => ∀ v H', Frame K ct S S ia H H' ns → Rp K ct (off S H') v r → Q v H'
  | .ret true r ns => ∀ a H', H a = none → Frame K ct S (more S a) ia H H' ns → OwnAt K ct H' (off (more S a) H') a r → Q (.ref a) H'
  | .exc c as ns => ∀ H' dd C nm, Frame K ct S S ia H H' ns → ExcAt K ct (off S H') dd c as → ct c = some (C, nm) → E (.ref C) (some dd) H') := q
    unfold runV at q
    cases ho : Fs (mkEnv m N.length ds) with
    | stuck =>
      rw [ho] at q
      exact q.elim
    | exc c as env =>
      rw [ho] at q
      simp only [Res.of] at q
      cases hl : ioAt env 0 m <;> (rw [hl] at q; exact q.elim)
    | val fl env =>
      rw [ho] at q
      cases fl with
      | bk => exact q.elim
      | ct => exact q.elim
      | nx =>
        simp only [Res.of] at q
        cases hl : ioAt env 0 m with
        | none =>
          rw [hl] at q
          exact q.elim
        | some l =>
          rw [hl] at q
          exact fun G' σ' H' mm c => q _ H' (fin mm c hl).1 .non
      | rt n d =>
        simp only [Res.of] at q
        cases hl : ioAt env 0 m with
        | none =>
          rw [hl] at q
          exact q.elim
        | some l =>
          rw [hl] at q
          cases n with
          | false => exact fun G' σ' H' mm c v rv => q v H' (fin mm c hl).1 (rv.mono (fin mm c hl).2)
          | true =>
            intro G' σ' H' mm c a h0 hs ho'
            have ee := end_frame (S' := more S a) Ar mm c hl fun x hx => hx.elim .inl fun e => .inr (by rw [e]; exact hs)
            exact q a H' h0 ee.1 (ho'.mono rfl ee.2)
end
/-! calls -/
abbrev Ag := D ⊕ Nat
def liftAi (K : PySem.W.Frag) (B : Bs) (Z : ZX) (f : Ev (List Ag)) : TA := fun σ H Q => ∃ G env, Cfg K B G env σ H ∧ postG K B Z G σ H (f env) (fun l _ G' H' => ∀ vs, Paired (fun v (g : Ag) => match g with
  | .inl d => Rp K B.ct (off G'.S H') v d
  | .inr i => σ[i]? = some (some v)) vs l → Q vs H')
structure DAi (X : Cx) (B : Bs) (Z : ZX) (e : List Expr) (f : Ev (List Ag)) : Prop where
  pa : PA X e (liftAi X.K B Z f)
def gNl : Ev (List Ag) := fun env => .val [] env
def gCn (f : Ev D) (fs : Ev (List Ag)) : Ev (List Ag) := fun env => (f env).bind fun d e1 => (fs e1).bind fun l e2 => .val (.inl d :: l) e2
def gIo (i : Nat) (fs : Ev (List Ag)) : Ev (List Ag) := fun env => match env[i]? with
  | some (.ow _) => (fs env).bind fun l e2 => .val (.inr i :: l) e2
  | some (.io _) => (fs env).bind fun l e2 => .val (.inr i :: l) e2
  | _ => .stuck
section
variable {X : Cx} {B : Bs} {Z : ZX} {e : Expr} {es : List Expr} {pos : Pos} {f : Ev D} {fs : Ev (List Ag)}
theorem dai_nil : DAi X B Z [] gNl := ⟨PA.weak pa_nil fun σ H Q ⟨G, env, c, p⟩ => p G H Mono.refl c [] .nil⟩
theorem dai_cons (ha : DE X B Z e f) (hr : DAi X B Z es fs) (hs : starEach (e :: es) X.env = (false, eval e X.env) :: starEach es X.env := by rfl) : DAi X B Z (e :: es) (gCn f fs) :=
  ⟨PA.weak (pa_cons ha.pe hr.pa hs) fun σ H Q ⟨G, env, c, p⟩ =>
    ⟨G, env, c, post_imp (post_bind p) fun d e1 G1 H1 m1 c1 p1 v rv => ⟨G1, e1, c1, post_imp (post_bind p1) fun l e2 G2 H2 m2 c2 p2 vs rvs => p2 G2 H2 Mono.refl c2 (v :: vs) (.cons (rv.mono m2.same) rvs)⟩⟩⟩
theorem dai_io {i : Nat} {x : Str} (hN : X.N[i]? = some x) (hv : Vis X.env.scope x) (hr : DAi X B Z es fs) (hd : (x == ("__debug__" : Str)) = false := by decide) (hcd : (x == ("__classdict__" : Str)) = false := by decide)
    (hs : starEach (.Name x pos :: es) X.env = (false, eval (.Name x pos) X.env) :: starEach es X.env := by rfl) : DAi X B Z (.Name x pos :: es) (gIo i fs) :=
  ⟨PA.weak (pa_cons (pe_var hN hv hd hcd) hr.pa hs) fun σ H Q ⟨G, env, c, p⟩ => by
    unfold gIo at p
    split at p
    · rename_i d hd
      obtain ⟨a, h1, h2, _⟩ := c.own (b := false) hd
      exact ⟨_, h2, G, env, c, post_imp (post_bind p) fun l e2 G2 H2 m2 c2 p2 vs rvs => p2 G2 H2 Mono.refl c2 _ (.cons h2 rvs)⟩
    · rename_i d hd
      obtain ⟨a, h1, h2, _⟩ := c.own (b := true) hd
      exact ⟨_, h2, G, env, c, post_imp (post_bind p) fun l e2 G2 H2 m2 c2 p2 vs rvs => p2 G2 H2 Mono.refl c2 _ (.cons h2 rvs)⟩
    · exact p.elim⟩
end
/-- what an argument is now -/
def agD (env : List Slot) : Ag → Option D
  | .inl d => some d
  | .inr i => match env[i]? with
    | some (.ow d) => some d
    | some (.io d) => some d
    | _ => none
def agDs (env : List Slot) : List Ag → Option (List D)
  | [] => some []
  | g :: l => match agD env g, agDs env l with
    | some d, some ds => some (d :: ds)
    | _, _ => none
def Ag.isIo : Ag → Bool
  | .inl _ => false
  | .inr _ => true
def ioSlots : List Ag → List Nat
  | [] => []
  | .inl _ :: l => ioSlots l
  | .inr i :: l => i :: ioSlots l
def put1 (env : List Slot) (i : Nat) (d : D) : List Slot := match env[i]? with
  | some (.ow _) => env.set i (.ow d)
  | some (.io _) => env.set i (.io d)
  | _ => env
def putAll : List Slot → List Ag → List D → List Slot
  | env, .inr i :: l, d :: ds => putAll (put1 env i d) l ds
  | env, .inl _ :: l, _ :: ds => putAll env l ds
  | env, _, _ => env
def fCall (m : List Bool) (Φ : List D → Res) (dd : List D) (fs : Ev (List Ag)) : Ev D := fun env => (fs env).bind fun l e => match agDs e l with
  | none => .stuck
  | some ds => if l.map Ag.isIo ++ dd.map (fun _ => false) = m ∧ (ioSlots l).Nodup then (match Φ (ds ++ dd) with
    | .ret _ r ns => .val r (putAll e l ns)
    | .exc c as ns => .exc c as (putAll e l ns)
    | .stuck => .stuck) else .stuck
/-- a call whose value is new -/
def fCallN (m : List Bool) (Φ : List D → Res) (dd : List D) (fs : Ev (List Ag)) : Ev D := fun env => (fs env).bind fun l e => match agDs e l with
  | none => .stuck
  | some ds => if l.map Ag.isIo ++ dd.map (fun _ => false) = m ∧ (ioSlots l).Nodup then (match Φ (ds ++ dd) with
    | .ret true r ns => .val r (putAll e l ns)
    | .exc c as ns => .exc c as (putAll e l ns)
    | _ => .stuck) else .stuck
end Vl

set_option Elab.async false
set_option linter.all false
set_option maxRecDepth 100000
set_option maxHeartbeats 2000000
/-! Vg: calls of defs over data. -/
namespace Vl
open PySem PySem.Spec PyProof.Rows L2 Sb
/-- an error of a call is met, in the state of the call -/
def PassesS (CX : CXT) (X : Cx) (σ : L2.St) (E : XK) : Prop := ∀ (pins : List (Addr × Obj)) (H : Hp) (s : Shared) (e : Value) (s' : Shared), Inv X pins σ H s → CX X.stack H s E e s' → X.xe e s'
section
variable {X : Cx} {CX : CXT} {k : Nat} {f : Addr} {fd : FuncData} {ps : List Str} {sp : Sp} {E : XK} {ds : List Value} {dvs : List V} {x : Str} {p pos : Pos} {e : Expr} {es : List Expr} {t : TA}
theorem run_fnGT {pins : List (Addr × Obj)} {σ : L2.St} {H : Hp} {s : Shared} {Q : VK} {us : List Value} {vs : List V} (F : FnG X.prog X.w X.K X.mg X.base CX k f fd ps sp) (hgd : X.A.guards = some []) (hr : Room k X.A) (hb : Binds X.K fd ps ds) (hd : Vals dvs ds) (hx : PassesS CX X σ E)
    (I : Inv X pins σ H s) (r : Vals vs us) (h : sp (vs ++ dvs) H Q E) : wpAny (model X.prog X.w) X.A (call (.ref f) us) (EP X pins σ Q) X.xe s := by
  have r2 : Vals (vs ++ dvs) (us ++ ds) := r.append hd
  have hl : (us ++ ds).length = ps.length := by rw [← r2.length]; exact F.size _ _ _ _ h
  refine wpAny_call (codeAny_mono (F.go X.A X.stack s H ⟨us, []⟩ (us ++ ds) (vs ++ dvs) Q E hgd hr I.env0 (hb s us I.kIn hl) r2 h) fun r s' hq => ?_)
  match r, hq with
  | .error e, hq => exact hx pins H s e s' I hq
  | .ok (.ret u), hq => exact I.after hq
  | .ok .next, hq => exact False.elim hq
  | .ok .brk, hq => exact False.elim hq
  | .ok .cont, hq => exact False.elim hq
theorem run_fnG {pins : List (Addr × Obj)} {σ : L2.St} {H : Hp} {s : Shared} {Q : VK} {us : List Value} {vs : List V} (F : FnG X.prog X.w X.K X.mg X.base CX k f fd ps sp) (hgd : X.A.guards = some []) (hr : Room k X.A) (hb : Binds X.K fd ps ds) (hd : Vals dvs ds) (hx : Passes CX X E)
    (I : Inv X pins σ H s) (r : Vals vs us) (h : sp (vs ++ dvs) H Q E) : wpAny (model X.prog X.w) X.A (call (.ref f) us) (EP X pins σ Q) X.xe s :=
  run_fnGT F hgd hr hb hd (fun pins H s e s' => hx pins σ H s e s') I r h
theorem pe_callG (F : FnG X.prog X.w X.K X.mg X.base CX k f fd ps sp) (hgd : X.A.guards = some []) (hr : Room k X.A) (hg : Gl X x) (hm : X.mg x = some (.ref f)) (hk : PySem.W.keepIn X.K (.ref f) = true) (hb : Binds X.K fd ps ds) (hd : Vals dvs ds) (hx : Passes CX X E)
    (ha : PA X (e :: es) t) (hdb : (x == ("__debug__" : Str)) = false := by decide) (he : starEach (e :: es) X.env = (false, eval e X.env) :: starEach es X.env := by rfl) (hpl : (backTo pos (starEach es X.env)).any (·.1) = false := by rfl) :
    PE X (.Call (.Name x p) (e :: es) [] pos) (tCall sp dvs E t) := by
  refine ⟨fun pins s σ H Q I h => ?_⟩
  refine wpAny_Call_Name_kw (ld_glob I hg hm ?_ hdb)
  refine PySem.W.callWith_K (h₀ := X.base) I.ok.mod.kin hk (thn (ha.run pos pins s σ H _ I h) fun us s1 ⟨vs, H1, I1, r, q⟩ => ⟨I1.kIn, ?_⟩) he hpl
  exact run_fnG F hgd hr hb hd hx I1 r q
theorem pe_callGT {E : L2.St → XK} (F : FnG X.prog X.w X.K X.mg X.base CX k f fd ps sp) (hgd : X.A.guards = some []) (hr : Room k X.A) (hg : Gl X x) (hm : X.mg x = some (.ref f)) (hk : PySem.W.keepIn X.K (.ref f) = true) (hb : Binds X.K fd ps ds) (hd : Vals dvs ds) (hx : ∀ σ, PassesS CX X σ (E σ))
    (ha : PA X (e :: es) t) (hdb : (x == ("__debug__" : Str)) = false := by decide) (he : starEach (e :: es) X.env = (false, eval e X.env) :: starEach es X.env := by rfl) (hpl : (backTo pos (starEach es X.env)).any (·.1) = false := by rfl) :
    PE X (.Call (.Name x p) (e :: es) [] pos) (fun σ H Q => tCall sp dvs (E σ) t σ H Q) := by
  refine ⟨fun pins s σ H Q I h => ?_⟩
  refine wpAny_Call_Name_kw (ld_glob I hg hm ?_ hdb)
  refine PySem.W.callWith_K (h₀ := X.base) I.ok.mod.kin hk (thn (ha.run pos pins s σ H _ I h) fun us s1 ⟨vs, H1, I1, r, q⟩ => ⟨I1.kIn, ?_⟩) he hpl
  exact run_fnGT F hgd hr hb hd (hx σ) I1 r q
theorem pe_callG0 (F : FnG X.prog X.w X.K X.mg X.base CX k f fd ps sp) (hgd : X.A.guards = some []) (hr : Room k X.A) (hg : Gl X x) (hm : X.mg x = some (.ref f)) (hk : PySem.W.keepIn X.K (.ref f) = true) (hb : Binds X.K fd ps ds) (hd : Vals dvs ds) (hx : Passes CX X E)
    (hdb : (x == ("__debug__" : Str)) = false := by decide) : PE X (.Call (.Name x p) [] [] pos) (tCall sp dvs E tNil) := by
  refine ⟨fun pins s σ H Q I h => ?_⟩
  refine wpAny_Call_Name_kw (ld_glob I hg hm ?_ hdb)
  exact PySem.W.callWith_K0 I.kIn hk (run_fnG (us := []) F hgd hr hb hd hx I .nil h)
end
/-! the argument lists -/
theorem put1_out {env : List Slot} {i k : Nat} {d : D} (h : i ≠ k) : (put1 env i d)[k]? = env[k]? := by
  unfold put1
  split
  · exact List.getElem?_set_ne h
  · exact List.getElem?_set_ne h
  · rfl
theorem put1_len {env : List Slot} {i : Nat} {d : D} : (put1 env i d).length = env.length := by
  unfold put1
  split <;> simp
theorem putAll_len : ∀ (l : List Ag) (env : List Slot) (ns : List D), (putAll env l ns).length = env.length
  | [], env, ns => by cases ns <;> rfl
  | .inl _ :: l, env, [] => rfl
  | .inr i :: l, env, [] => rfl
  | .inl _ :: l, env, _ :: ns => putAll_len l env ns
  | .inr i :: l, env, d :: ns => by
    show (putAll (put1 env i d) l ns).length = _
    rw [putAll_len, put1_len]
theorem putAll_out : ∀ (l : List Ag) (env : List Slot) (ns : List D) {k : Nat}, k ∉ ioSlots l → (putAll env l ns)[k]? = env[k]?
  | [], env, ns, k, _ => by cases ns <;> rfl
  | .inl _ :: l, env, [], k, _ => rfl
  | .inr i :: l, env, [], k, _ => rfl
  | .inl _ :: l, env, _ :: ns, k, h => putAll_out l env ns h
  | .inr i :: l, env, d :: ns, k, h => by
    show (putAll (put1 env i d) l ns)[k]? = _
    rw [putAll_out l _ ns fun z => h (List.mem_cons_of_mem _ z), put1_out fun z => h (by rw [z]; exact List.mem_cons_self ..)]
theorem ioSlots_mem : ∀ {l : List Ag} {j i : Nat}, l[j]? = some (.inr i) → i ∈ ioSlots l
  | .inl _ :: l, 0, i, h => by cases h
  | .inr i' :: l, 0, i, h => by
    cases h
    exact List.mem_cons_self ..
  | .inl _ :: l, j + 1, i, h => ioSlots_mem (l := l) (by simpa using h)
  | .inr i' :: l, j + 1, i, h => List.mem_cons_of_mem _ (ioSlots_mem (l := l) (by simpa using h))
theorem ioSlots_at : ∀ {l : List Ag} {i : Nat}, i ∈ ioSlots l → ∃ j : Nat, l[j]? = some (Sum.inr i)
  | .inl _ :: l, i, h => by
    obtain ⟨j, e⟩ := ioSlots_at (l := l) h
    exact ⟨j + 1, by simpa using e⟩
  | .inr i' :: l, i, h => by
    rcases List.mem_cons.mp h with z | z
    · exact ⟨0, by rw [z]; rfl⟩
    · obtain ⟨j, e⟩ := ioSlots_at (l := l) z
      exact ⟨j + 1, by simpa using e⟩
theorem ioSlots_inj : ∀ {l : List Ag} {j1 j2 i : Nat}, (ioSlots l).Nodup → l[j1]? = some (.inr i) → l[j2]? = some (.inr i) → j1 = j2
  | .inl _ :: l, 0, _, i, _, h, _ => by cases h
  | .inl _ :: l, _, 0, i, _, _, h => by cases h
  | .inl _ :: l, a + 1, b + 1, i, n, h1, h2 => by rw [ioSlots_inj (l := l) (j1 := a) (j2 := b) (i := i) n (by simpa using h1) (by simpa using h2)]
  | .inr i' :: l, 0, 0, i, _, _, _ => rfl
  | .inr i' :: l, 0, b + 1, i, n, h1, h2 => by
    cases h1
    exact absurd (ioSlots_mem (l := l) (by simpa using h2)) (List.nodup_cons.mp n).1
  | .inr i' :: l, a + 1, 0, i, n, h1, h2 => by
    cases h2
    exact absurd (ioSlots_mem (l := l) (by simpa using h1)) (List.nodup_cons.mp n).1
  | .inr i' :: l, a + 1, b + 1, i, n, h1, h2 => by rw [ioSlots_inj (l := l) (j1 := a) (j2 := b) (i := i) (List.nodup_cons.mp n).2 (by simpa using h1) (by simpa using h2)]
theorem own_ne {b b' : Bool} {d d' : D} {i : Nat} {env : List Slot} (h : env[i]? = some (own b d)) (d2 : D) : (put1 env i d2)[i]? = some (own b d2) := by
  have hl := (List.getElem?_eq_some_iff.mp h).1
  cases b with
  | true =>
    have e : put1 env i d2 = env.set i (.io d2) := by
      unfold put1
      rw [h]
      rfl
    rw [e]
    exact List.getElem?_set_self hl
  | false =>
    have e : put1 env i d2 = env.set i (.ow d2) := by
      unfold put1
      rw [h]
      rfl
    rw [e]
    exact List.getElem?_set_self hl
theorem putAll_in : ∀ {l : List Ag} {env : List Slot} {ns : List D} {j k : Nat} {b : Bool} {d d0 : D}, (ioSlots l).Nodup → l[j]? = some (.inr k) → ns[j]? = some d → env[k]? = some (own b d0) → (putAll env l ns)[k]? = some (own b d)
  | .inl _ :: l, env, [], j, k, b, d, d0, _, _, h, _ => by simp at h
  | .inr _ :: l, env, [], j, k, b, d, d0, _, _, h, _ => by simp at h
  | .inl _ :: l, env, _ :: ns, 0, k, b, d, d0, n, h, _, _ => by cases h
  | .inl _ :: l, env, _ :: ns, j + 1, k, b, d, d0, n, h, h2, h3 => putAll_in (l := l) n (by simpa using h) (by simpa using h2) h3
  | .inr i :: l, env, d' :: ns, 0, k, b, d, d0, n, h, h2, h3 => by
    have e1 : i = k := by simpa using h
    have e2 : d' = d := by simpa using h2
    subst e1 e2
    show (putAll (put1 env i d') l ns)[i]? = _
    rw [putAll_out l _ ns (List.nodup_cons.mp n).1]
    exact own_ne (b' := b) (d' := d0) h3 d'
  | .inr i :: l, env, d' :: ns, j + 1, k, b, d, d0, n, h, h2, h3 => by
    have hm := ioSlots_mem (l := l) (j := j) (i := k) (by simpa using h)
    have ne : i ≠ k := fun z => (List.nodup_cons.mp n).1 (by rw [z]; exact hm)
    exact putAll_in (l := l) (env := put1 env i d') (List.nodup_cons.mp n).2 (by simpa using h) (by simpa using h2) (by rw [put1_out ne]; exact h3)
theorem agDs_len : ∀ {l : List Ag} {env : List Slot} {ds : List D}, agDs env l = some ds → ds.length = l.length
  | [], _, ds, h => by
    cases h
    rfl
  | g :: l, env, ds, h => by
    unfold agDs at h
    split at h
    · cases h
      rename_i e1 e2
      simp [agDs_len e2]
    · cases h
theorem agDs_get : ∀ {l : List Ag} {env : List Slot} {ds : List D} {j : Nat} {g : Ag}, agDs env l = some ds → l[j]? = some g → ∃ d, ds[j]? = some d ∧ agD env g = some d
  | [], _, ds, j, g, h, e => by simp at e
  | g' :: l, env, ds, j, g, h, e => by
    unfold agDs at h
    split at h
    · cases h
      rename_i e1 e2
      cases j with
      | zero =>
        cases e
        exact ⟨_, rfl, e1⟩
      | succ j =>
        obtain ⟨d, h1, h2⟩ := agDs_get (l := l) e2 (by simpa using e)
        exact ⟨d, by simpa using h1, h2⟩
    · cases h
theorem agD_own {env : List Slot} {i : Nat} {d : D} (h : agD env (.inr i) = some d) : ∃ b, env[i]? = some (own b d) := by
  simp only [agD] at h
  split at h
  · cases h
    exact ⟨false, by assumption⟩
  · cases h
    exact ⟨true, by assumption⟩
  · cases h
/-- the addresses of the arguments that may be changed -/
def iaOf (G : Gh) (l : List Ag) : Nat → Option Addr := fun j => match l[j]? with
  | some (.inr i) => G.r i
  | _ => none
theorem iaOf_some {G : Gh} {l : List Ag} {j : Nat} {a : Addr} (h : iaOf G l j = some a) : ∃ i, l[j]? = some (.inr i) ∧ G.r i = some a := by
  unfold iaOf at h
  split at h
  · exact ⟨_, by assumption, h⟩
  · cases h
section
variable {K : PySem.W.Frag} {B : Bs} {G : Gh} {env : List Slot} {σ : L2.St} {H H' : Hp} {l : List Ag} {ds dd ns : List D} {vs dvs : List V} {m : List Bool}
theorem args_of (c : Cfg K B G env σ H) (pr : Paired (fun v (g : Ag) => match g with
  | .inl d => Rp K B.ct (off G.S H) v d
  | .inr i => σ[i]? = some (some v)) vs l) (had : agDs env l = some ds) (hm : l.map Ag.isIo ++ dd.map (fun _ => false) = m) (nd : (ioSlots l).Nodup) (rd : Rps K B.ct (off G.S H) dvs dd) : ArgsOk K B.ct G.S (iaOf G l) m (vs ++ dvs) (ds ++ dd) H := by
  have lv := Paired.length pr
  have ld := agDs_len had
  have lr := rd.len
  have getP : ∀ {vs : List V} {l : List Ag}, Paired (fun v (g : Ag) => match g with
    | .inl d => Rp K B.ct (off G.S H) v d
    | .inr i => σ[i]? = some (some v)) vs l → ∀ {j : Nat} {v : V} {g : Ag}, vs[j]? = some v → l[j]? = some g → (match g with
    | .inl d => Rp K B.ct (off G.S H) v d
    | .inr i => σ[i]? = some (some v)) := by
    intro vs l pr
    induction pr with
    | nil =>
      intro j v g h
      simp at h
    | cons h t ih =>
      intro j v g h1 h2
      cases j with
      | zero =>
        cases h1
        cases h2
        exact h
      | succ j => exact ih (by simpa using h1) (by simpa using h2)
  have ml : ∀ {j : Nat} {b : Bool}, m[j]? = some b → (j < l.length ∧ ∃ g, l[j]? = some g ∧ g.isIo = b) ∨ (l.length ≤ j ∧ b = false) := by
    intro j b h
    rw [← hm] at h
    by_cases e : j < l.length
    · rw [List.getElem?_append_left (by simpa using e), List.getElem?_map, List.getElem?_eq_getElem e] at h
      exact .inl ⟨e, l[j], List.getElem?_eq_getElem e, Option.some.inj h⟩
    · rw [List.getElem?_append_right (by simpa using e)] at h
      have := List.mem_of_getElem? h
      obtain ⟨_, _, z⟩ := List.mem_map.mp this
      exact .inr ⟨by omega, z.symm⟩
  refine ⟨?_, ?_, fun j v d h1 h2 h3 => ?_, fun j v d h1 h2 h3 => ?_, fun j a h => ?_, fun j a h => ?_, fun i j a h1 h2 => ?_, c.live⟩
  · rw [← hm]
    simp [lv, lr]
  · rw [← hm]
    simp [ld]
  · rcases ml h1 with ⟨hj, g, hg, hb⟩ | ⟨hj, _⟩
    · rw [List.getElem?_append_left (by omega)] at h2 h3
      obtain ⟨d', e1, e2⟩ := agDs_get had hg
      rw [h3] at e1
      cases e1
      cases g with
      | inr i => cases hb
      | inl d0 =>
        cases e2
        exact getP pr h2 hg
    · rw [List.getElem?_append_right (by omega)] at h2 h3
      have e : j - vs.length = j - ds.length := by omega
      rw [e] at h2
      obtain ⟨d', e1, e2⟩ := rd.get h2
      rw [h3] at e1
      cases e1
      exact e2
  · rcases ml h1 with ⟨hj, g, hg, hb⟩ | ⟨hj, z⟩
    · rw [List.getElem?_append_left (by omega)] at h2 h3
      obtain ⟨d', e1, e2⟩ := agDs_get had hg
      rw [h3] at e1
      cases e1
      cases g with
      | inl d0 => cases hb
      | inr i =>
        obtain ⟨b, ho⟩ := agD_own e2
        obtain ⟨a, g1, g2, g3⟩ := c.own ho
        have hv : σ[i]? = some (some v) := getP pr h2 hg
        rw [g2] at hv
        cases hv
        exact ⟨a, by unfold iaOf; rw [hg]; exact g1, rfl, g3⟩
    · cases z
  · obtain ⟨i, h1, h2⟩ := iaOf_some h
    rw [← hm, List.getElem?_append_left (by simpa using (List.getElem?_eq_some_iff.mp h1).1), List.getElem?_map, h1]
    rfl
  · obtain ⟨i, h1, h2⟩ := iaOf_some h
    exact c.hid i a h2
  · obtain ⟨i1, x1, y1⟩ := iaOf_some h1
    obtain ⟨i2, x2, y2⟩ := iaOf_some h2
    have := c.inj i1 i2 a y1 y2
    subst this
    exact ioSlots_inj nd x1 x2
theorem after_call (c : Cfg K B G env σ H) (had : agDs env l = some ds) (nd : (ioSlots l).Nodup) (fr : Frame K B.ct G.S G.S (iaOf G l) H H' ns) : Mono G H G H' ∧ Cfg K B G (putAll env l ns) σ H' := by
  have mm : Mono G H G H' := ⟨fr.same, fun p hp n => ⟨hp, n, fr.hold p hp fun j z => by
    obtain ⟨i, _, h⟩ := iaOf_some z
    exact n i h⟩, fr.dom⟩
  have pick : ∀ {k : Nat} {s : Slot}, (putAll env l ns)[k]? = some s → (k ∉ ioSlots l ∧ env[k]? = some s) ∨ ∃ b d a, s = own b d ∧ G.r k = some a ∧ σ[k]? = some (some (.ref a)) ∧ (b = true → B.io k = some a) ∧ OwnAt K B.ct H' (off G.S H') a d := by
    intro k s h
    by_cases hk : k ∈ ioSlots l
    · obtain ⟨j, hj⟩ := ioSlots_at hk
      obtain ⟨d0, e1, e2⟩ := agDs_get had hj
      obtain ⟨b, ho⟩ := agD_own e2
      obtain ⟨a, g1, g2, g3⟩ := c.own ho
      obtain ⟨d, n1, n2⟩ := fr.new j a (by unfold iaOf; rw [hj]; exact g1)
      rw [putAll_in nd hj n1 ho] at h
      refine .inr ⟨b, d, a, (Option.some.inj h).symm, g1, g2, fun hb => ?_, n2⟩
      subst hb
      obtain ⟨a', q1, q2, _⟩ := c.io k d0 ho
      rw [g1] at q1
      cases q1
      exact q2
    · rw [putAll_out l env ns hk] at h
      exact .inl ⟨hk, h⟩
  have far : ∀ {k : Nat} {a : Addr}, k ∉ ioSlots l → G.r k = some a → H' a = H a := fun {k a} hk h => fr.hold a (c.hid k a h) fun j z => by
    obtain ⟨i, h1, h2⟩ := iaOf_some z
    have := c.inj i k a h2 h
    subst this
    exact hk (ioSlots_mem h1)
  refine ⟨mm, by rw [putAll_len]; exact c.len, fun j d e => ?_, fun j d e => ?_, fun j d e => ?_, c.hid, c.inj, fun a ha => fr.dom a (c.live a ha), fun j d a e g => ?_, fun a h => fr.dom a (c.dom0 a h)⟩
  · rcases pick e with ⟨_, h⟩ | ⟨b, d', a, h, _⟩
    · obtain ⟨v, g1, g2⟩ := c.sh j d h
      exact ⟨v, g1, g2.mono fr.same⟩
    · cases b <;> cases h
  · rcases pick e with ⟨hk, h⟩ | ⟨b, d', a, h, g1, g2, _, g3⟩
    · obtain ⟨a, g1, g2, g3⟩ := c.ow j d h
      exact ⟨a, g1, g2, g3.mono (far hk g1) fr.same⟩
    · cases b with
      | true => cases h
      | false =>
        cases h
        exact ⟨a, g1, g2, g3⟩
  · rcases pick e with ⟨hk, h⟩ | ⟨b, d', a, h, g1, g2, g0, g3⟩
    · obtain ⟨a, g1, g0, g2, g3⟩ := c.io j d h
      exact ⟨a, g1, g0, g2, g3.mono (far hk g1) fr.same⟩
    · cases b with
      | false => cases h
      | true =>
        cases h
        exact ⟨a, g1, g0 rfl, g2, g3⟩
  · rcases pick e with ⟨hk, h⟩ | ⟨b, d', a', h, g1, g2, g0, g3⟩
    · exact c.frs j d a h g
    · cases b with
      | true => cases h
      | false =>
        cases h
        by_cases hk : j ∈ ioSlots l
        · obtain ⟨i, hi⟩ := ioSlots_at hk
          obtain ⟨d0, e1, e2⟩ := agDs_get had hi
          obtain ⟨b, ho⟩ := agD_own e2
          cases b with
          | false => exact c.frs j d0 a ho g
          | true =>
            obtain ⟨d2, n1, n2⟩ := fr.new i a (by unfold iaOf; rw [hi]; exact g)
            rw [putAll_in nd hi n1 ho] at e
            cases e
        · rw [putAll_out l env ns hk] at e
          exact c.frs j _ a e g
/-- .. and the value is new -/
theorem after_callN {a : Addr} (c : Cfg K B G env σ H) (had : agDs env l = some ds) (nd : (ioSlots l).Nodup) (ha : H a = none) (hv : H' a ≠ none) (fr : Frame K B.ct G.S (more G.S a) (iaOf G l) H H' ns) : Mono G H (G.hide a) H' ∧ Cfg K B (G.hide a) (putAll env l ns) σ H' := by
  have un : ¬ G.S a := c.unS ha
  have mm : Mono G H (G.hide a) H' := ⟨fr.same, fun p hp n => ⟨.inl hp, n, fr.hold p hp fun j z => by
    obtain ⟨i, _, h⟩ := iaOf_some z
    exact n i h⟩, fr.dom⟩
  have pick : ∀ {k : Nat} {s : Slot}, (putAll env l ns)[k]? = some s → (k ∉ ioSlots l ∧ env[k]? = some s) ∨ ∃ b d a', s = own b d ∧ G.r k = some a' ∧ σ[k]? = some (some (.ref a')) ∧ (b = true → B.io k = some a') ∧ OwnAt K B.ct H' (off (G.hide a).S H') a' d := by
    intro k s h
    by_cases hk : k ∈ ioSlots l
    · obtain ⟨j, hj⟩ := ioSlots_at hk
      obtain ⟨d0, e1, e2⟩ := agDs_get had hj
      obtain ⟨b, ho⟩ := agD_own e2
      obtain ⟨a, g1, g2, g3⟩ := c.own ho
      obtain ⟨d, n1, n2⟩ := fr.new j a (by unfold iaOf; rw [hj]; exact g1)
      rw [putAll_in nd hj n1 ho] at h
      refine .inr ⟨b, d, a, (Option.some.inj h).symm, g1, g2, fun hb => ?_, n2⟩
      subst hb
      obtain ⟨a', q1, q2, _⟩ := c.io k d0 ho
      rw [g1] at q1
      cases q1
      exact q2
    · rw [putAll_out l env ns hk] at h
      exact .inl ⟨hk, h⟩
  have far : ∀ {k : Nat} {a : Addr}, k ∉ ioSlots l → G.r k = some a → H' a = H a := fun {k a} hk h => fr.hold a (c.hid k a h) fun j z => by
    obtain ⟨i, h1, h2⟩ := iaOf_some z
    have := c.inj i k a h2 h
    subst this
    exact hk (ioSlots_mem h1)
  refine ⟨mm, by rw [putAll_len]; exact c.len, fun j d e => ?_, fun j d e => ?_, fun j d e => ?_, fun i x h => .inl (c.hid i x h), c.inj, fun x hx => hx.elim (fun z => fr.dom x (c.live x z)) fun z => by rw [z]; exact hv, fun j d a e g => ?_, fun a h => fr.dom a (c.dom0 a h)⟩
  · rcases pick e with ⟨_, h⟩ | ⟨b, d', a, h, _⟩
    · obtain ⟨v, g1, g2⟩ := c.sh j d h
      exact ⟨v, g1, g2.mono fr.same⟩
    · cases b <;> cases h
  · rcases pick e with ⟨hk, h⟩ | ⟨b, d', a, h, g1, g2, _, g3⟩
    · obtain ⟨a, g1, g2, g3⟩ := c.ow j d h
      exact ⟨a, g1, g2, g3.mono (far hk g1) fr.same⟩
    · cases b with
      | true => cases h
      | false =>
        cases h
        exact ⟨a, g1, g2, g3⟩
  · rcases pick e with ⟨hk, h⟩ | ⟨b, d', a, h, g1, g2, g0, g3⟩
    · obtain ⟨a, g1, g0, g2, g3⟩ := c.io j d h
      exact ⟨a, g1, g0, g2, g3.mono (far hk g1) fr.same⟩
    · cases b with
      | false => cases h
      | true =>
        cases h
        exact ⟨a, g1, g0 rfl, g2, g3⟩
  · rcases pick e with ⟨hk, h⟩ | ⟨b, d', a', h, g1, g2, g0, g3⟩
    · exact c.frs j d a h g
    · cases b with
      | true => cases h
      | false =>
        cases h
        by_cases hk : j ∈ ioSlots l
        · obtain ⟨i, hi⟩ := ioSlots_at hk
          obtain ⟨d0, e1, e2⟩ := agDs_get had hi
          obtain ⟨b, ho⟩ := agD_own e2
          cases b with
          | false => exact c.frs j d0 a ho g
          | true =>
            obtain ⟨d2, n1, n2⟩ := fr.new i a (by unfold iaOf; rw [hi]; exact g)
            rw [putAll_in nd hi n1 ho] at e
            cases e
        · rw [putAll_out l env ns hk] at e
          exact c.frs j _ a e g
end
section
variable {X : Cx} {B : Bs} {Z : ZX} {CX : CXT} {k : Nat} {f : Addr} {fd : FuncData} {ps : List Str} {E : XK} {dsv : List Value} {dvs : List V} {dd : List D} {x : Str} {p pos : Pos} {e : Expr} {es : List Expr} {m : List Bool} {Φ : List D → Res} {fs : Ev (List Ag)}
theorem off_more {S : Addr → Prop} {a : Addr} {H : Hp} : Same (off (more S a) H) (off S H) := fun x u h => by
  obtain ⟨n, h⟩ := off_inv h
  rw [off_at fun z => n (.inl z)]
  exact h
theorem Frame.bare {K : PySem.W.Frag} {ct : Ct} {S : Addr → Prop} {a : Addr} {ia : Nat → Option Addr} {H H' : Hp} {ns : List D} (f : Frame K ct S (more S a) ia H H' ns) : Frame K ct S S ia H H' ns :=
  ⟨f.same.trans off_more, f.hold, fun j b h => by
    obtain ⟨d, h1, h2⟩ := f.new j b h
    exact ⟨d, h1, h2.mono rfl off_more⟩, f.dom⟩
theorem lift_callN (hZ : ∀ c as env G σ H dd C nm, B.ct c = some (C, nm) → Z c as env G σ H dd → E (.ref C) (some dd) H) (rd : ∀ F, Rps X.K B.ct F dvs dd) (σ : L2.St) (H : Hp) (Q : VK) (h : liftN X.K B Z (fCallN m Φ dd fs) σ H Q) : tCall (spV X.K B.ct m Φ) dvs E (liftAi X.K B Z fs) σ H Q := by
  obtain ⟨G, env, c, q⟩ := h
  refine ⟨G, env, c, post_imp (post_bind q) fun l e1 G1 H1 m1 c1 p1 vs rvs => ?_⟩
  cases had : agDs e1 l with
  | none =>
    rw [had] at p1
    exact p1.elim
  | some ds =>
    rw [had] at p1
    simp only [] at p1
    by_cases hc : l.map Ag.isIo ++ dd.map (fun _ => false) = m ∧ (ioSlots l).Nodup
    · rw [if_pos hc] at p1
      refine ⟨G1.S, iaOf G1 l, ds ++ dd, args_of c1 rvs had hc.1 hc.2 (rd _), ?_⟩
      cases hr : Φ (ds ++ dd) with
      | stuck =>
        rw [hr] at p1
        exact p1.elim
      | ret n r ns =>
        rw [hr] at p1
        cases n with
        | false => exact p1.elim
        | true =>
          intro a H' ha fr ho
          obtain ⟨mm, c'⟩ := after_callN c1 had hc.2 ha ho.some fr
          exact p1 (G1.hide a) H' mm c' a (undom m1 ha) (.inr rfl) (fun i z => c1.unS ha (c1.hid i a z)) ho
      | exc cc as ns =>
        rw [hr] at p1
        intro H' dd' C nm fr xa hC
        obtain ⟨mm, c'⟩ := after_call c1 had hc.2 fr
        exact hZ _ _ _ _ _ _ _ _ _ hC (p1 G1 H' dd' mm c' xa)
    · rw [if_neg hc] at p1
      exact p1.elim
theorem lift_callT (σ : L2.St) (hZ : ∀ c as env G H dd C nm, B.ct c = some (C, nm) → Z c as env G σ H dd → E (.ref C) (some dd) H) (rd : ∀ F, Rps X.K B.ct F dvs dd) (H : Hp) (Q : VK) (h : liftE X.K B Z (fCall m Φ dd fs) σ H Q) : tCall (spV X.K B.ct m Φ) dvs E (liftAi X.K B Z fs) σ H Q := by
  obtain ⟨G, env, c, q⟩ := h
  refine ⟨G, env, c, post_imp (post_bind q) fun l e1 G1 H1 m1 c1 p1 vs rvs => ?_⟩
  cases had : agDs e1 l with
  | none =>
    rw [had] at p1
    exact p1.elim
  | some ds =>
    rw [had] at p1
    simp only [] at p1
    by_cases hc : l.map Ag.isIo ++ dd.map (fun _ => false) = m ∧ (ioSlots l).Nodup
    · rw [if_pos hc] at p1
      refine ⟨G1.S, iaOf G1 l, ds ++ dd, args_of c1 rvs had hc.1 hc.2 (rd _), ?_⟩
      cases hr : Φ (ds ++ dd) with
      | stuck =>
        rw [hr] at p1
        exact p1.elim
      | ret n r ns =>
        rw [hr] at p1
        cases n with
        | false =>
          intro v H' fr rv
          obtain ⟨mm, c'⟩ := after_call c1 had hc.2 fr
          exact p1 G1 H' mm c' v rv
        | true =>
          intro a H' ha fr ho
          obtain ⟨mm, c'⟩ := after_call c1 had hc.2 fr.bare
          exact p1 G1 H' mm c' _ ((ho.mono rfl off_more).rp (off_at (c1.unS ha)))
      | exc cc as ns =>
        rw [hr] at p1
        intro H' dd' C nm fr xa hC
        obtain ⟨mm, c'⟩ := after_call c1 had hc.2 fr
        exact hZ _ _ _ _ _ _ _ _ hC (p1 G1 H' dd' mm c' xa)
    · rw [if_neg hc] at p1
      exact p1.elim
theorem lift_call (hZ : ∀ c as env G σ H dd C nm, B.ct c = some (C, nm) → Z c as env G σ H dd → E (.ref C) (some dd) H) (rd : ∀ F, Rps X.K B.ct F dvs dd) (σ : L2.St) (H : Hp) (Q : VK) (h : liftE X.K B Z (fCall m Φ dd fs) σ H Q) : tCall (spV X.K B.ct m Φ) dvs E (liftAi X.K B Z fs) σ H Q :=
  lift_callT σ (fun c as env G H dd C nm h1 h2 => hZ c as env G σ H dd C nm h1 h2) rd H Q h
theorem de_call (F : FnG X.prog X.w X.K X.mg X.base CX k f fd ps (spV X.K B.ct m Φ)) (hgd : X.A.guards = some []) (hr : Room k X.A) (hg : Gl X x) (hm : X.mg x = some (.ref f)) (hk : PySem.W.keepIn X.K (.ref f) = true) (hb : Binds X.K fd ps dsv) (hd : Vals dvs dsv) (rd : ∀ F, Rps X.K B.ct F dvs dd) (hx : Passes CX X E)
    (hZ : ∀ c as env G σ H dd C nm, B.ct c = some (C, nm) → Z c as env G σ H dd → E (.ref C) (some dd) H) (ha : DAi X B Z (e :: es) fs) (hdb : (x == ("__debug__" : Str)) = false := by decide) (he : starEach (e :: es) X.env = (false, eval e X.env) :: starEach es X.env := by rfl)
    (hpl : (backTo pos (starEach es X.env)).any (·.1) = false := by rfl) : DE X B Z (.Call (.Name x p) (e :: es) [] pos) (fCall m Φ dd fs) :=
  ⟨PE.weak (pe_callG F hgd hr hg hm hk hb hd hx ha.pa hdb he hpl) (lift_call hZ rd)⟩
theorem de_callT {E : L2.St → XK} (F : FnG X.prog X.w X.K X.mg X.base CX k f fd ps (spV X.K B.ct m Φ)) (hgd : X.A.guards = some []) (hr : Room k X.A) (hg : Gl X x) (hm : X.mg x = some (.ref f)) (hk : PySem.W.keepIn X.K (.ref f) = true) (hb : Binds X.K fd ps dsv) (hd : Vals dvs dsv) (rd : ∀ F, Rps X.K B.ct F dvs dd) (hx : ∀ σ, PassesS CX X σ (E σ))
    (hZ : ∀ c as env G σ H dd C nm, B.ct c = some (C, nm) → Z c as env G σ H dd → E σ (.ref C) (some dd) H) (ha : DAi X B Z (e :: es) fs) (hdb : (x == ("__debug__" : Str)) = false := by decide) (he : starEach (e :: es) X.env = (false, eval e X.env) :: starEach es X.env := by rfl)
    (hpl : (backTo pos (starEach es X.env)).any (·.1) = false := by rfl) : DE X B Z (.Call (.Name x p) (e :: es) [] pos) (fCall m Φ dd fs) :=
  ⟨PE.weak (pe_callGT F hgd hr hg hm hk hb hd hx ha.pa hdb he hpl) fun σ H Q h => lift_callT σ (fun c as env G H dd C nm h1 h2 => hZ c as env G σ H dd C nm h1 h2) rd H Q h⟩
theorem dn_call (F : FnG X.prog X.w X.K X.mg X.base CX k f fd ps (spV X.K B.ct m Φ)) (hgd : X.A.guards = some []) (hr : Room k X.A) (hg : Gl X x) (hm : X.mg x = some (.ref f)) (hk : PySem.W.keepIn X.K (.ref f) = true) (hb : Binds X.K fd ps dsv) (hd : Vals dvs dsv) (rd : ∀ F, Rps X.K B.ct F dvs dd) (hx : Passes CX X E)
    (hZ : ∀ c as env G σ H dd C nm, B.ct c = some (C, nm) → Z c as env G σ H dd → E (.ref C) (some dd) H) (ha : DAi X B Z (e :: es) fs) (hdb : (x == ("__debug__" : Str)) = false := by decide) (he : starEach (e :: es) X.env = (false, eval e X.env) :: starEach es X.env := by rfl)
    (hpl : (backTo pos (starEach es X.env)).any (·.1) = false := by rfl) : DN X B Z (.Call (.Name x p) (e :: es) [] pos) (fCallN m Φ dd fs) :=
  ⟨PE.weak (pe_callG F hgd hr hg hm hk hb hd hx ha.pa hdb he hpl) (lift_callN hZ rd)⟩
theorem zno_any {E : XK} {ct : Ct} : ∀ c as env G σ H dd C nm, ct c = some (C, nm) → ZNo c as env G σ H dd → E (.ref C) (some dd) H := fun _ _ _ _ _ _ _ _ _ _ h => h.elim
end
end Vl

set_option Elab.async false
set_option linter.all false
set_option maxRecDepth 100000
set_option maxHeartbeats 2000000
/-! Vh: built-ins over data. -/
namespace Vl
open PySem PySem.Spec PyProof.Rows L2 Sb
section
variable {K : PySem.W.Frag} {ct : Ct}
theorem Rps.one1 {F : Hp} {vs : List V} {d : D} (h : Rps K ct F vs [d]) : ∃ v, vs = [v] ∧ Rp K ct F v d := by
  obtain ⟨v, ws, rfl, h1, h2⟩ := h.consE
  exact ⟨v, by rw [h2.nilE], h1⟩
theorem Rps.two2 {F : Hp} {vs : List V} {d e : D} (h : Rps K ct F vs [d, e]) : ∃ v w, vs = [v, w] ∧ Rp K ct F v d ∧ Rp K ct F w e := by
  obtain ⟨v, ws, rfl, h1, h2⟩ := h.consE
  obtain ⟨w, rfl, h3⟩ := h2.one1
  exact ⟨v, w, rfl, h1, h3⟩
def o1 (o : D → Option D) : List D → Option D := fun l => match l with | [d] => o d | _ => none
def o2 (o : D → D → Option D) : List D → Option D := fun l => match l with | [d, e] => o d e | _ => none
/-- one argument -/
theorem cv1 {r : List V → Hp → VK → Prop} {o : D → Option D} (h : ∀ (S : Addr → Prop) (H : Hp) (x : V) (d z : D) (Q : VK), (∀ a, S a → H a ≠ none) → Rp K ct (off S H) x d → o d = some z → (∀ v H', Same H H' → Rp K ct (off S H') v z → Q v H') → r [x] H Q) :
    CallV K ct r (o1 o) := by
  intro S H xs ds z Q live rs ho hq
  unfold o1 at ho
  split at ho
  · obtain ⟨v, rfl, rv⟩ := rs.one1
    exact h S H v _ z Q live rv ho hq
  · cases ho
theorem cv2 {r : List V → Hp → VK → Prop} {o : D → D → Option D} (h : ∀ (S : Addr → Prop) (H : Hp) (x y : V) (d e z : D) (Q : VK), (∀ a, S a → H a ≠ none) → Rp K ct (off S H) x d → Rp K ct (off S H) y e → o d e = some z → (∀ v H', Same H H' → Rp K ct (off S H') v z → Q v H') → r [x, y] H Q) :
    CallV K ct r (o2 o) := by
  intro S H xs ds z Q live rs ho hq
  unfold o2 at ho
  split at ho
  · obtain ⟨v, w, rfl, rv, rw'⟩ := rs.two2
    exact h S H v w _ _ z Q live rv rw' ho hq
  · cases ho
end
section
variable {X : Cx} {ct : Ct}
/-! len -/
def oLen : D → Option D
  | .lst l => some (.int (l.length : Int))
  | .tup l => some (.int (l.length : Int))
  | .ctup l => some (.int (l.length : Int))
  | .scr ns => some (.int (ns.length : Int))
  | .str s => if s.length ≤ sizeLine then some (.int (s.length : Int)) else none
  | _ => none
theorem call_lenA : CallR X (.builtin "len") (fun xs H Q => (∃ p ys, xs = [.ref p] ∧ (SqL X.K H p ys ∨ SqT X.K H p ys) ∧ Q (.int ys.length) H) ∨ ∃ z, xs = [.str z] ∧ z.length ≤ sizeLine ∧ Q (.int z.length) H) := call_len_seq.or call_len_str
theorem cv_len : CallV X.K ct (fun xs H Q => (∃ p ys, xs = [.ref p] ∧ (SqL X.K H p ys ∨ SqT X.K H p ys) ∧ Q (.int ys.length) H) ∨ ∃ z, xs = [.str z] ∧ z.length ≤ sizeLine ∧ Q (.int z.length) H) (o1 oLen) := cv1 fun S H x d z Q live rx ho hq => by
  unfold oLen at ho
  split at ho
  · cases ho
    obtain ⟨a, vs, rfl, h1, t1⟩ := rx.lstE
    exact .inl ⟨a, vs, rfl, .inl (SqL.of (off_le _ _ h1)), by rw [t1.len]; exact hq _ H (Same.refl _) (.int _)⟩
  · cases ho
    obtain ⟨a, vs, rfl, h1, t1⟩ := rx.tupE
    exact .inl ⟨a, vs, rfl, .inr (sqT_le h1), by rw [t1.len]; exact hq _ H (Same.refl _) (.int _)⟩
  · cases ho
    obtain ⟨a, vs, rfl, h1, t1⟩ := rx.ctupE
    exact .inl ⟨a, vs, rfl, .inr (sqT_le h1), by rw [t1.len]; exact hq _ H (Same.refl _) (.int _)⟩
  · cases ho
    obtain ⟨a, rfl, h1⟩ := rx.scrE
    exact .inl ⟨a, _, rfl, .inl (off_le.seq h1), by rw [List.length_map]; exact hq _ H (Same.refl _) (.int _)⟩
  · split at ho
    · cases ho
      exact .inr ⟨_, by rw [rx.strE], by assumption, hq _ H (Same.refl _) (.int _)⟩
    · cases ho
  · cases ho
/-! list(x), tuple(x) -/
def oList : D → Option D
  | .lst l => some (.lst l)
  | .tup l => some (.lst l)
  | _ => none
theorem cv_list : CallV X.K ct (fun xs H Q => ∃ p ys, xs = [.ref p] ∧ (SqL X.K H p ys ∨ SqT X.K H p ys) ∧ ∀ l, H l = none → Q (.ref l) (upd H l (.lst ys))) (o1 oList) := cv1 fun S H x d z Q live rx ho hq => by
  unfold oList at ho
  split at ho
  · cases ho
    obtain ⟨a, vs, rfl, h1, t1⟩ := rx.lstE
    exact ⟨a, vs, rfl, .inl (SqL.of (off_le _ _ h1)), fun l hl => hq _ _ (Sb.Same.upd hl) (new_lst live hl t1)⟩
  · cases ho
    obtain ⟨a, vs, rfl, h1, t1⟩ := rx.tupE
    exact ⟨a, vs, rfl, .inr (sqT_le h1), fun l hl => hq _ _ (Sb.Same.upd hl) (new_lst live hl t1)⟩
  · cases ho
def oTuple : D → Option D
  | .lst l => some (.tup l)
  | .tup l => some (.tup l)
  | _ => none
theorem cv_tuple : CallV X.K ct (fun xs H Q => ∃ p ys, xs = [.ref p] ∧ ((SqL X.K H p ys ∧ ∀ l, H l = none → Q (.ref l) (upd H l (.tup ys))) ∨ (SqT X.K H p ys ∧ Q (.ref p) H))) (o1 oTuple) := cv1 fun S H x d z Q live rx ho hq => by
  unfold oTuple at ho
  split at ho
  · cases ho
    obtain ⟨a, vs, rfl, h1, t1⟩ := rx.lstE
    exact ⟨a, vs, rfl, .inl ⟨SqL.of (off_le _ _ h1), fun l hl => hq _ _ (Sb.Same.upd hl) (new_tup live hl t1)⟩⟩
  · cases ho
    obtain ⟨a, vs, rfl, h1, t1⟩ := rx.tupP
    exact ⟨a, vs, rfl, .inr ⟨SqT.of (off_le _ _ h1), hq _ H (Same.refl _) (.tup h1 t1)⟩⟩
  · cases ho
/-! numbers -/
def oAbs : D → Option D
  | .int i => some (.int (if i < 0 then -i else i))
  | _ => none
theorem cv_abs : CallV X.K ct (fun xs H Q => ∃ i, xs = [.int i] ∧ Q (.int (if i < 0 then -i else i)) H) (o1 oAbs) := cv1 fun S H x d z Q live rx ho hq => by
  unfold oAbs at ho
  split at ho
  · cases ho
    exact ⟨_, by rw [rx.intE], hq _ H (Same.refl _) (.int _)⟩
  · cases ho
def oMax : D → D → Option D
  | .int i, .int j => some (.int (if j > i then j else i))
  | _, _ => none
theorem cv_max : CallV X.K ct (fun xs H Q => ∃ i j, xs = [.int i, .int j] ∧ Q (.int (if j > i then j else i)) H) (o2 oMax) := cv2 fun S H x y d e z Q live rx ry ho hq => by
  unfold oMax at ho
  split at ho
  · cases ho
    exact ⟨_, _, by rw [rx.intE, ry.intE], hq _ H (Same.refl _) (.int _)⟩
  · cases ho
def oMin : D → D → Option D
  | .int i, .int j => some (.int (if j < i then j else i))
  | _, _ => none
theorem cv_min : CallV X.K ct (fun xs H Q => ∃ i j, xs = [.int i, .int j] ∧ Q (.int (if j < i then j else i)) H) (o2 oMin) := cv2 fun S H x y d e z Q live rx ry ho hq => by
  unfold oMin at ho
  split at ho
  · cases ho
    exact ⟨_, _, by rw [rx.intE, ry.intE], hq _ H (Same.refl _) (.int _)⟩
  · cases ho
def oInt : D → Option D
  | .int i => some (.int i)
  | .bl b => some (.int (if b then 1 else 0))
  | _ => none
theorem cv_int : CallV X.K ct (fun xs H Q => (∃ i, xs = [.int i] ∧ Q (.int i) H) ∨ ∃ k, xs = [.bl k] ∧ Q (.int (if k then 1 else 0)) H) (o1 oInt) := cv1 fun S H x d z Q live rx ho hq => by
  unfold oInt at ho
  split at ho
  · cases ho
    exact .inl ⟨_, by rw [rx.intE], hq _ H (Same.refl _) (.int _)⟩
  · cases ho
    exact .inr ⟨_, by rw [rx.blE], hq _ H (Same.refl _) (.int _)⟩
  · cases ho
def oBool : D → Option D
  | .int i => some (.bl (i != 0))
  | .bl b => some (.bl b)
  | _ => none
theorem cv_bool : CallV X.K ct (fun xs H Q => (∃ i, xs = [.int i] ∧ Q (.bl (i != 0)) H) ∨ ∃ k, xs = [.bl k] ∧ Q (.bl k) H) (o1 oBool) := cv1 fun S H x d z Q live rx ho hq => by
  unfold oBool at ho
  split at ho
  · cases ho
    exact .inl ⟨_, by rw [rx.intE], hq _ H (Same.refl _) (.bl _)⟩
  · cases ho
    exact .inr ⟨_, by rw [rx.blE], hq _ H (Same.refl _) (.bl _)⟩
  · cases ho
def oStr : D → Option D
  | .int i => if i.natAbs.log2 < 1920 then some (.str (toString i)) else none
  | _ => none
theorem cv_str : CallV X.K ct (fun xs H Q => ∃ i, xs = [.int i] ∧ i.natAbs.log2 < 1920 ∧ Q (.str (toString i)) H) (o1 oStr) := cv1 fun S H x d z Q live rx ho hq => by
  unfold oStr at ho
  split at ho
  · split at ho
    · cases ho
      exact ⟨_, by rw [rx.intE], by assumption, hq _ H (Same.refl _) (.str _)⟩
    · cases ho
  · cases ho
/-! repr of data -/
def oRepr (d : D) : Option D := if d.plain && d.py.showable && SeqAt.shaped d.py && decide (d.py.shown.length ≤ sizeLine) then some (.str d.py.shown) else none
theorem cv_repr : CallV X.K ct (rReprD X.K) (o1 oRepr) := cv1 fun S H x d z Q live rx ho hq => by
  unfold oRepr at ho
  split at ho
  · rename_i c
    cases ho
    simp only [Bool.and_eq_true, decide_eq_true_eq] at c
    obtain ⟨⟨⟨c1, c2⟩, c3⟩, c4⟩ := c
    exact ⟨_, _, rfl, (rx.mono off_le).dp c1, c2, c3, c4, hq _ H (Same.refl _) (.str _)⟩
  · cases ho
/-! any, all of truths -/
def blsOf : List D → Option (List Bool)
  | [] => some []
  | .bl b :: l => (blsOf l).map (b :: ·)
  | _ => none
theorem bls_v {F : Hp} : ∀ {l : List D} {vs : List V} {bs : List Bool}, Rps X.K ct F vs l → blsOf l = some bs → vs = bs.map V.bl
  | [], _, _, h, e => by
    cases e
    exact h.nilE
  | d :: l, vs, bs, h, e => by
    obtain ⟨v, ws, rfl, h1, h2⟩ := h.consE
    cases d with
    | bl b =>
      simp only [blsOf] at e
      cases e2 : blsOf l with
      | none =>
        rw [e2] at e
        cases e
      | some cs =>
        rw [e2] at e
        cases e
        rw [h1.blE, bls_v h2 e2]
        rfl
    | _ => cases e
def oAny : D → Option D
  | .lst l => (blsOf l).map fun bs => .bl (bs.any id)
  | _ => none
theorem cv_any : CallV X.K ct (rAnyB X.K) (o1 oAny) := cv1 fun S H x d z Q live rx ho hq => by
  unfold oAny at ho
  split at ho
  · rename_i l
    cases e : blsOf l with
    | none =>
      rw [e] at ho
      cases ho
    | some bs =>
      rw [e] at ho
      cases ho
      obtain ⟨a, vs, rfl, h1, t1⟩ := rx.lstE
      rw [bls_v t1 e] at h1
      exact ⟨a, bs, rfl, SqL.of (off_le _ _ h1), hq _ H (Same.refl _) (.bl _)⟩
  · cases ho
/-! slices -/
def cutD (xs : List D) (lo hi : Option Int) : List D := (xs.drop (HT.sIx xs.length 0 lo)).take (HT.sIx xs.length xs.length hi - HT.sIx xs.length 0 lo)
theorem Rps.cut {F : Hp} {vs : List V} {l : List D} (h : Rps X.K ct F vs l) (lo hi : Option Int) : Rps X.K ct F (cutV vs lo hi) (cutD l lo hi) := by
  unfold cutV cutD
  rw [h.len]
  exact (h.drop _).take _
def oSlL : D → Option Int → Option Int → Option D
  | .lst l, lo, hi => some (.lst (cutD l lo hi))
  | _, _, _ => none
theorem sv_lst : SlV X.K ct (rSlL X.K) oSlL := by
  intro S H x d z lo hi Q live rx ho hq
  unfold oSlL at ho
  split at ho
  · cases ho
    obtain ⟨a, vs, rfl, h1, t1⟩ := rx.lstE
    exact ⟨a, vs, rfl, SqL.of (off_le _ _ h1), fun p hp => hq _ _ (Sb.Same.upd hp) (new_lst live hp (t1.cut _ _))⟩
  · cases ho
def oSlT : D → Option Int → Option Int → Option D
  | .tup l, lo, hi => some (.tup (cutD l lo hi))
  | _, _, _ => none
theorem cutD_all {l : List D} {lo hi : Option Int} (h : HT.sIx l.length 0 lo = 0 ∧ HT.sIx l.length l.length hi = l.length) : cutD l lo hi = l := by
  unfold cutD
  rw [h.1, h.2]
  simp
theorem sv_tup : SlV X.K ct (rSlA X.K) oSlT := by
  intro S H x d z lo hi Q live rx ho hq
  unfold oSlT at ho
  split at ho
  · cases ho
    obtain ⟨a, vs, rfl, h1, t1⟩ := rx.tupP
    refine ⟨a, vs, rfl, SqT.of (off_le _ _ h1), fun e => ?_, fun _ p hp => hq _ _ (Sb.Same.upd hp) (new_tup live hp (t1.cut _ _))⟩
    rw [t1.len] at e
    refine hq _ H (Same.refl _) ?_
    rw [cutD_all e]
    exact .tup h1 t1
  · cases ho
/-! isinstance -/
inductive Ty where
  | non | bool | int | str | tuple | list | dict
  deriving DecidableEq
def Ty.nm : Ty → String
  | .non => "NoneType"
  | .bool => "bool"
  | .int => "int"
  | .str => "str"
  | .tuple => "tuple"
  | .list => "list"
  | .dict => "dict"
def isi (t n : Ty) : Bool := decide (t = n) || (decide (t = .bool) && decide (n = .int))
theorem isi_ok : ∀ t n : Ty, n ≠ .non → kitB t.nm n.nm = some (isi t n) := by
  intro t n h
  cases n <;> first | exact absurd rfl h | (cases t <;> decide +kernel)
def D.ty : D → Option Ty
  | .non => some .non
  | .bl _ => some .bool
  | .int _ => some .int
  | .str _ => some .str
  | .tup _ => some .tuple
  | .ctup _ => some .tuple
  | .lst _ => some .list
  | .dk _ _ => some .dict
  | .dt _ _ => some .dict
  | .scr _ => some .list
  | .ob _ _ => none
  | .cl _ => none
theorem Rp.tyx {K : PySem.W.Frag} {S : Addr → Prop} {H : Hp} {v : V} {d : D} {t : Ty} (r : Rp K ct (off S H) v d) (e : d.ty = some t) : TyX K H v (.type t.nm) := by
  cases r with
  | non =>
    cases e
    exact .base .non
  | bl b =>
    cases e
    exact .base (.bl _)
  | int i =>
    cases e
    exact .base (.int _)
  | str s =>
    cases e
    exact .base (.str _)
  | tup h t =>
    cases e
    exact .base (.tup (off_le _ _ h))
  | ctup h t =>
    cases e
    have h := sqT_le h
    rcases h with (h | ⟨o, h⟩) | ⟨o, its, n, h1, h2, _⟩
    · exact .base (.tup h)
    · exact .fTuple h
    · exact .kTuple h1 h2
  | lst h t =>
    cases e
    exact .base (.lst (off_le _ _ h))
  | ob _ _ _ _ => cases e
  | dk _ h _ =>
    cases e
    exact .base (.dK (off_le _ _ h))
  | dt _ h _ =>
    cases e
    exact .base (.dT (off_le _ _ h))
  | scr h =>
    cases e
    rcases off_le.seq h with (h | ⟨o, h⟩) | ⟨o, its, n, h1, h2, _⟩
    · exact .base (.lst h)
    · exact .base (.frz h)
    · exact .kList h1 h2
  | cl _ => cases e
variable {B : Bs} {Z : ZX} {e c1 : Expr} {f : Ev D} {pos px : Pos}
def fIsi (n : Ty) (f : Ev D) : Ev D := fun env => (f env).bind fun d e => match d.ty with
  | some t => .val (.bl (isi t n)) e
  | none => .stuck
theorem de_isi {n : Ty} {nm : String} (hnm : n.nm = nm) (hn : n ≠ .non) (hm : X.mg "isinstance" = none) (hg : Gl X "isinstance") (he : DE X B Z e f) (hc : PE X c1 (tC (.ty nm))) (hs : starEach [e, c1] X.env = (false, eval e X.env) :: starEach [c1] X.env := by rfl) (hs2 : starEach (c1 :: []) X.env = (false, eval c1 X.env) :: starEach [] X.env := by rfl)
    (hpl : (backTo pos (starEach [c1] X.env)).any (·.1) = false := by rfl) : DE X B Z (.Call (.Name "isinstance" px) [e, c1] [] pos) (fIsi n f) :=
  ⟨PE.weak (pe_callB call_isi hg hm (by decide +kernel) (pa_cons he.pe (pa_cons hc pa_nil hs2) hs) (by decide) (by decide) hs hpl) fun σ H Q ⟨G, env, c, q⟩ => ⟨G, env, c, post_imp (post_bind q) fun d e1 G1 H1 m1 c1 p1 v rv => by
    subst hnm
    cases ht : d.ty with
    | none =>
      rw [ht] at p1
      exact p1.elim
    | some t =>
      rw [ht] at p1
      exact ⟨v, .ty n.nm, _, _, _, rfl, .ty _, rv.tyx ht, kit_ty (isi_ok t n hn), p1 G1 H1 Mono.refl c1 _ (.bl _)⟩⟩⟩
/-- isinstance(x, (T1, T2)) -/
def fIsi2 (n1 n2 : Ty) (f : Ev D) : Ev D := fun env => (f env).bind fun d e => match d.ty with
  | some t => .val (.bl (isi t n1 || isi t n2)) e
  | none => .stuck
theorem kitAny2 {K : PySem.W.Frag} {t a b : Value} {x y : Bool} (h1 : PySem.W.kitOne K t a = some x) (h2 : PySem.W.kitOne K t b = some y) : PySem.W.kitAny K t [a, b] = some (x || y) := by
  cases x with
  | true => exact kitAny_cons h1 (fun z => by cases z) fun _ => rfl
  | false => exact kitAny_cons h1 (fun _ => by
      cases y with
      | true => exact kitAny_cons h2 (fun z => by cases z) fun _ => rfl
      | false => exact kitAny_cons h2 (fun _ => rfl) fun z => by cases z) fun z => by cases z
theorem de_isi2 {n1 n2 : Ty} {m1 m2 : String} {c2 : Expr} {tk : Nat} {tpos : Pos} (hn1 : n1.nm = m1) (hn2 : n2.nm = m2) (h1 : n1 ≠ .non) (h2 : n2 ≠ .non) (hm : X.mg "isinstance" = none) (hg : Gl X "isinstance") (he : DE X B Z e f) (hc1 : PE X c1 (tC (.ty m1))) (hc2 : PE X c2 (tC (.ty m2)))
    (hs : starEach [e, .Tuple [c1, c2] tk tpos] X.env = (false, eval e X.env) :: starEach [.Tuple [c1, c2] tk tpos] X.env := by rfl) (hs1 : starEach [.Tuple [c1, c2] tk tpos] X.env = (false, eval (.Tuple [c1, c2] tk tpos) X.env) :: starEach [] X.env := by rfl) (hs2 : starEach (c1 :: [c2]) X.env = (false, eval c1 X.env) :: starEach [c2] X.env := by rfl) (hs3 : starEach [c2] X.env = (false, eval c2 X.env) :: starEach [] X.env := by rfl)
    (hpl : (backTo pos (starEach [.Tuple [c1, c2] tk tpos] X.env)).any (·.1) = false := by rfl) : DE X B Z (.Call (.Name "isinstance" px) [e, .Tuple [c1, c2] tk tpos] [] pos) (fIsi2 n1 n2 f) :=
  ⟨PE.weak (pe_callB call_isiT hg hm (by decide +kernel) (pa_cons he.pe (pa_cons (pe_tup (pa_cons hc1 (pa_cons hc2 pa_nil hs3) hs2)) pa_nil hs1) hs) (by decide) (by decide) hs hpl) fun σ H Q ⟨G, env, c, q⟩ => ⟨G, env, c, post_imp (post_bind q) fun d e1 G1 H1 m1 c1 p1 v rv => by
    subst hn1 hn2
    refine ⟨by show 2 ≤ sizeLine; decide, fun p hp => ?_⟩
    cases ht : d.ty with
    | none =>
      rw [ht] at p1
      exact p1.elim
    | some t =>
      rw [ht] at p1
      refine ⟨v, p, _, _, _, _, rfl, upd_same, .cons (.ty _) (.cons (.ty _) .nil), (rv.mono (off_same (Sb.Same.upd hp))).tyx ht, kitAny2 (kit_ty (isi_ok t n1 h1)) (kit_ty (isi_ok t n2 h2)), ?_⟩
      exact p1 G1 _ (c1.mono (Sb.Same.upd hp)) (c1.same (Sb.Same.upd hp)) _ (.bl _)⟩⟩
end
end Vl

set_option Elab.async false
set_option linter.all false
set_option maxRecDepth 100000
set_option maxHeartbeats 2000000
/-! Vi: the rules in short; more of owned things. -/
namespace Vl
open PySem PySem.Spec PyProof.Rows L2 Sb
section
variable {X : Cx} {B : Bs} {Z : ZX} {a b c e : Expr} {es : List Expr} {pos : Pos} {f g : Ev D} {fs : Ev (List D)}
theorem dv (i : Nat) {x : Str} {pos : Pos} (hN : X.N[i]? = some x := by rfl) (hv : Vis X.env.scope x := by first | exact Or.inl rfl | exact Or.inr (Or.inl rfl) | exact Or.inr (Or.inr rfl)) (hd : (x == ("__debug__" : Str)) = false := by decide)
    (hcd : (x == ("__classdict__" : Str)) = false := by decide) : DE X B Z (.Name x pos) (fVar i) := de_var hN hv hd hcd
theorem dio (i : Nat) {x : Str} {gs : Ev (List Ag)} (hr : DAi X B Z es gs) (hN : X.N[i]? = some x := by rfl) (hv : Vis X.env.scope x := by first | exact Or.inl rfl | exact Or.inr (Or.inl rfl) | exact Or.inr (Or.inr rfl)) (hd : (x == ("__debug__" : Str)) = false := by decide)
    (hcd : (x == ("__classdict__" : Str)) = false := by decide) (hs : starEach (.Name x pos :: es) X.env = (false, eval (.Name x pos) X.env) :: starEach es X.env := by rfl) : DAi X B Z (.Name x pos :: es) (gIo i gs) := dai_io hN hv hr hd hcd hs
theorem dix (ha : DE X B Z a f) (hb : DE X B Z b g) (hs : PlainIx b := by exact fun _ _ => rfl) : DE X B Z (.Subscript a b pos) (fOp oIx f g) := de_ix opv_ix ha hb hs
theorem dixO (i : Nat) {x : Str} {apos : Pos} (hb : DE X B Z b g) (hN : X.N[i]? = some x := by rfl) (hv : Vis X.env.scope x := by first | exact Or.inl rfl | exact Or.inr (Or.inl rfl) | exact Or.inr (Or.inr rfl)) (hs : PlainIx b := by exact fun _ _ => rfl) (hd : (x == ("__debug__" : Str)) = false := by decide)
    (hcd : (x == ("__classdict__" : Str)) = false := by decide) : DE X B Z (.Subscript (.Name x apos) b pos) (fIxO i g) := de_ixO hN hv hb hs hd hcd
theorem dapp (i : Nat) {x : Str} {xpos apos cpos : Pos} (he : DE X B Z e f) (hN : X.N[i]? = some x := by rfl) (hv : Vis X.env.scope x := by first | exact Or.inl rfl | exact Or.inr (Or.inl rfl) | exact Or.inr (Or.inr rfl))
    (hd : (x == ("__debug__" : Str)) = false := by decide) (hcd : (x == ("__classdict__" : Str)) = false := by decide)
    (hbase : attributeBase (.Name x xpos) "append" X.env (eval (.Name x xpos) X.env) = eval (.Name x xpos) X.env := by rfl)
    (hfew : ((backTo cpos (starEach [e] X.env)).all (fun x => !x.1) && (backToKw cpos (keywordEach [] X.env)).all (fun x => x.1.isSome)
      && decide ([e].length + ([] : List Keyword).length + (if ([] : List Keyword).isEmpty then 0 else 1) < 30)) = true := by rfl)
    (hline : (apos.endLine == cpos.line) = true := by rfl) (hst : starEach [e] X.env = (false, eval e X.env) :: starEach [] X.env := by rfl) (hplain : (backTo cpos (starEach [] X.env)).any (·.1) = false := by rfl)
    (hs : swapsWith (.Call (.Attribute (.Name x xpos) "append" apos) [e] [] cpos) none pos.line X.env = pure false := by rfl) :
    DS X B Z (.Expr (.Call (.Attribute (.Name x xpos) "append" apos) [e] [] cpos) pos) (fApp i f) := ds_append hN hv he hd hcd hbase hfew hline hst hplain hs
theorem dgn (i : Nat) {x : Str} (hN : X.N.Nodup) (hi : X.N[i]? = some x := by rfl) (hx : Loc X.env.scope x := by first | exact Or.inl rfl | exact Or.inr rfl) (hf : X.fn x = true ∨ X.env.scope.names.lookup x = some .local := by first | exact .inl rfl | exact .inr rfl | assumption) : DG X B (.Name x pos) (.nm i) := dg_name hN hi hx hf
theorem dset (i : Nat) {x : Str} {pos' : Pos} (hN : X.N.Nodup) (he : DE X B Z e f) (hi : X.N[i]? = some x := by rfl) (hx : Loc X.env.scope x := by first | exact Or.inl rfl | exact Or.inr rfl) (hs : swapsWith e (some (.Name x pos')) pos.line X.env = pure false := by rfl)
    (hf : X.fn x = true ∨ X.env.scope.names.lookup x = some .local := by first | exact .inl rfl | exact .inr rfl | assumption) : DS X B Z (.Assign [.Name x pos'] e pos) (fAsg (.nm i) f) := ds_set hN hi hx he hs hf
theorem dsetL (i : Nat) {x : Str} {pos' lpos : Pos} (hN : X.N.Nodup) (he : DA X B Z es fs) (hi : X.N[i]? = some x := by rfl) (hx : Loc X.env.scope x := by first | exact Or.inl rfl | exact Or.inr rfl) (hs : swapsWith (.List es lpos) (some (.Name x pos')) pos.line X.env = pure false := by rfl)
    (hf : X.fn x = true ∨ X.env.scope.names.lookup x = some .local := by first | exact .inl rfl | exact .inr rfl | assumption) : DS X B Z (.Assign [.Name x pos'] (.List es lpos) pos) (fSetL i fs) := ds_setL hN hi hx he hs hf
/-! len(x), x in y of an owned list -/
def fLenO (i : Nat) : Ev D := fun env => match slotL env i with
  | some (_, l) => .val (.int (l.length : Int)) env
  | none => .stuck
theorem dlenO (i : Nat) {x : Str} {xpos px : Pos} (hm : X.mg "len" = none) (hg : Gl X "len" := by rfl) (hN : X.N[i]? = some x := by rfl) (hv : Vis X.env.scope x := by first | exact Or.inl rfl | exact Or.inr (Or.inl rfl) | exact Or.inr (Or.inr rfl)) (hd : (x == ("__debug__" : Str)) = false := by decide)
    (hcd : (x == ("__classdict__" : Str)) = false := by decide) (hs : starEach [.Name x xpos] X.env = (false, eval (.Name x xpos) X.env) :: starEach [] X.env := by rfl) (hpl : (backTo pos (starEach [] X.env)).any (·.1) = false := by rfl) : DE X B Z (.Call (.Name "len" px) [.Name x xpos] [] pos) (fLenO i) :=
  ⟨PE.weak (pe_callB call_len_seq hg hm (by decide +kernel) (pa_cons (pe_var hN hv hd hcd) pa_nil hs) (by decide) (by decide) hs hpl) fun σ H Q ⟨G, env, c, q⟩ => by
    unfold fLenO at q
    cases h0 : slotL env i with
    | none =>
      rw [h0] at q
      exact q.elim
    | some p0 =>
      obtain ⟨b0, l0⟩ := p0
      rw [h0] at q
      obtain ⟨a, r1, r2, vs0, r3, r4⟩ := c.own (slotL_own h0)
      exact ⟨_, r2, a, vs0, rfl, .inl (SqL.of r3), by rw [r4.len]; exact q G H Mono.refl c _ (.int _)⟩⟩
def fInO (neg : Bool) (f : Ev D) (i : Nat) : Ev D := fun env => (f env).bind fun d e => match slotL e i with
  | some (_, l) => Out.opt (oIn neg d (.lst l)) e
  | none => .stuck
theorem OwnAt.rpL {K : PySem.W.Frag} {ct : Ct} {H : Hp} {S : Addr → Prop} {a : Addr} {l : List D} (h : OwnAt K ct H (off S H) a (.lst l)) : Rp K ct H (.ref a) (.lst l) := by
  obtain ⟨vs, h1, h2⟩ := h
  exact .lst h1 (h2.mono off_le)
theorem oIn_bl {neg : Bool} {d e z : D} (h : oIn neg d e = some z) : ∃ b, z = .bl b := by
  unfold oIn at h
  split at h
  · split at h
    · cases h
      exact ⟨_, rfl⟩
    · cases h
  · cases h
theorem off_none {H : Hp} : off (fun _ => False) H = H := by
  funext a
  exact off_at id
theorem dinO (i : Nat) {x : Str} {xpos : Pos} (hu : X.A.units + 65 < cLine) (ha : DE X B Z a f) (hN : X.N[i]? = some x := by rfl) (hv : Vis X.env.scope x := by first | exact Or.inl rfl | exact Or.inr (Or.inl rfl) | exact Or.inr (Or.inr rfl)) (hd : (x == ("__debug__" : Str)) = false := by decide)
    (hcd : (x == ("__classdict__" : Str)) = false := by decide) (hmk : behindInMarks .In (.Name x xpos) = false := by rfl) : DE X B Z (.Compare a [.In] [.Name x xpos] pos) (fInO false f i) :=
  ⟨PE.weak (pe_cmpR (op_inD hu) ha.pe (pe_var hN hv hd hcd) hmk) fun σ H Q ⟨G, env, c, q⟩ => ⟨G, env, c, post_imp (post_bind q) fun d e1 G1 H1 m1 c1 p1 v rv => by
    cases h0 : slotL e1 i with
    | none =>
      rw [h0] at p1
      exact p1.elim
    | some p0 =>
      obtain ⟨b0, l⟩ := p0
      rw [h0] at p1
      simp only [] at p1
      obtain ⟨x', r1, r2, r3⟩ := c1.own (slotL_own h0)
      refine ⟨_, r2, ?_⟩
      cases ho : oIn false d (.lst l) with
      | none =>
        rw [ho] at p1
        exact p1.elim
      | some z =>
        rw [ho] at p1
        obtain ⟨b, rfl⟩ := oIn_bl ho
        refine opv_inD (ct := B.ct) (fun _ => False) H1 v _ d _ _ Q (fun _ h => h.elim) (by rw [off_none]; exact rv.mono off_le) (by rw [off_none]; exact r3.rpL) ho fun u H' s' ru => ?_
        exact p1 G1 H' (c1.mono s') (c1.same s') u (by rw [ru.blE]; exact .bl _)⟩⟩
theorem dnotInO (i : Nat) {x : Str} {xpos : Pos} (hu : X.A.units + 65 < cLine) (ha : DE X B Z a f) (hN : X.N[i]? = some x := by rfl) (hv : Vis X.env.scope x := by first | exact Or.inl rfl | exact Or.inr (Or.inl rfl) | exact Or.inr (Or.inr rfl)) (hd : (x == ("__debug__" : Str)) = false := by decide)
    (hcd : (x == ("__classdict__" : Str)) = false := by decide) (hmk : behindInMarks .NotIn (.Name x xpos) = false := by rfl) : DE X B Z (.Compare a [.NotIn] [.Name x xpos] pos) (fInO true f i) :=
  ⟨PE.weak (pe_cmpR (op_notInD hu) ha.pe (pe_var hN hv hd hcd) hmk) fun σ H Q ⟨G, env, c, q⟩ => ⟨G, env, c, post_imp (post_bind q) fun d e1 G1 H1 m1 c1 p1 v rv => by
    cases h0 : slotL e1 i with
    | none =>
      rw [h0] at p1
      exact p1.elim
    | some p0 =>
      obtain ⟨b0, l⟩ := p0
      rw [h0] at p1
      simp only [] at p1
      obtain ⟨x', r1, r2, r3⟩ := c1.own (slotL_own h0)
      refine ⟨_, r2, ?_⟩
      cases ho : oIn true d (.lst l) with
      | none =>
        rw [ho] at p1
        exact p1.elim
      | some z =>
        rw [ho] at p1
        obtain ⟨b, rfl⟩ := oIn_bl ho
        refine opv_notInD (ct := B.ct) (fun _ => False) H1 v _ d _ _ Q (fun _ h => h.elim) (by rw [off_none]; exact rv.mono off_le) (by rw [off_none]; exact r3.rpL) ho fun u H' s' ru => ?_
        exact p1 G1 H' (c1.mono s') (c1.same s') u (by rw [ru.blE]; exact .bl _)⟩⟩
theorem lift_inO {neg : Bool} {i : Nat} {r : R2} (ov : OpV X.K B.ct r (oIn neg)) (σ : L2.St) (H : Hp) (Q : VK) (h : liftE X.K B Z (fInO neg f i) σ H Q) : tOp r (liftE X.K B Z f) (tVar i) σ H Q := by
  obtain ⟨G, env, c, q⟩ := h
  refine ⟨G, env, c, post_imp (post_bind q) fun d e1 G1 H1 m1 c1 p1 v rv => ?_⟩
  cases h0 : slotL e1 i with
  | none =>
    rw [h0] at p1
    exact p1.elim
  | some p0 =>
    obtain ⟨b0, l⟩ := p0
    rw [h0] at p1
    simp only [] at p1
    obtain ⟨x', r1, r2, r3⟩ := c1.own (slotL_own h0)
    refine ⟨_, r2, ?_⟩
    cases ho : oIn neg d (.lst l) with
    | none =>
      rw [ho] at p1
      exact p1.elim
    | some z =>
      rw [ho] at p1
      obtain ⟨b, rfl⟩ := oIn_bl ho
      refine ov (fun _ => False) H1 v _ d _ _ Q (fun _ h => h.elim) (by rw [off_none]; exact rv.mono off_le) (by rw [off_none]; exact r3.rpL) ho fun u H' s' ru => ?_
      exact p1 G1 H' (c1.mono s') (c1.same s') u (by rw [ru.blE]; exact .bl _)
theorem dtinO (i : Nat) {x : Str} {xpos : Pos} (hu : X.A.units + 65 < cLine) (ha : DE X B Z a f) (hN : X.N[i]? = some x := by rfl) (hv : Vis X.env.scope x := by first | exact Or.inl rfl | exact Or.inr (Or.inl rfl) | exact Or.inr (Or.inr rfl)) (hd : (x == ("__debug__" : Str)) = false := by decide)
    (hcd : (x == ("__classdict__" : Str)) = false := by decide) (hmk : behindInMarks .In (.Name x xpos) = false := by rfl) : DT X B Z (.Compare a [.In] [.Name x xpos] pos) (fB (fInO false f i)) :=
  ⟨PT.weak (pt_cmpR (op_inD hu) ha.pe (pe_var hN hv hd hcd) hmk) fun σ H Q ⟨G, env, c, q⟩ => lift_inO opv_inD σ H _ ⟨G, env, c, post_imp (post_bind q) fun d e1 G1 H1 m1 c1 p1 v rv => by
    cases d with
    | bl k => exact ⟨k, rv.blE, p1 G1 H1 Mono.refl c1⟩
    | _ => exact p1.elim⟩⟩
theorem dtnotInO (i : Nat) {x : Str} {xpos : Pos} (hu : X.A.units + 65 < cLine) (ha : DE X B Z a f) (hN : X.N[i]? = some x := by rfl) (hv : Vis X.env.scope x := by first | exact Or.inl rfl | exact Or.inr (Or.inl rfl) | exact Or.inr (Or.inr rfl)) (hd : (x == ("__debug__" : Str)) = false := by decide)
    (hcd : (x == ("__classdict__" : Str)) = false := by decide) (hmk : behindInMarks .NotIn (.Name x xpos) = false := by rfl) : DT X B Z (.Compare a [.NotIn] [.Name x xpos] pos) (fB (fInO true f i)) :=
  ⟨PT.weak (pt_cmpR (op_notInD hu) ha.pe (pe_var hN hv hd hcd) hmk) fun σ H Q ⟨G, env, c, q⟩ => lift_inO opv_notInD σ H _ ⟨G, env, c, post_imp (post_bind q) fun d e1 G1 H1 m1 c1 p1 v rv => by
    cases d with
    | bl k => exact ⟨k, rv.blE, p1 G1 H1 Mono.refl c1⟩
    | _ => exact p1.elim⟩⟩
/-! -e -/
def oNeg : D → Option D
  | .int i => some (.int (-i))
  | _ => none
def fNeg (f : Ev D) : Ev D := fun env => (f env).bind fun d e => Out.opt (oNeg d) e
theorem dneg (h : DE X B Z e f) : DE X B Z (.UnaryOp .USub e pos) (fNeg f) :=
  ⟨PE.weak (pe_un un_neg h.pe) fun σ H Q ⟨G, env, c, q⟩ => ⟨G, env, c, post_imp (post_bind q) fun d e1 G1 H1 m1 c1 p1 v rv => by
    cases d with
    | int i => exact ⟨i, rv.intE, p1 G1 H1 Mono.refl c1 _ (.int _)⟩
    | _ => exact p1.elim⟩⟩
/-! x[k] = e -/
theorem dputL (i : Nat) {x : Str} {k : Expr} {fk : Ev D} {xpos spos : Pos} (he : DE X B Z e f) (hk : DE X B Z k fk) (hN : X.N[i]? = some x := by rfl) (hv : Vis X.env.scope x := by first | exact Or.inl rfl | exact Or.inr (Or.inl rfl) | exact Or.inr (Or.inr rfl)) (hd : (x == ("__debug__" : Str)) = false := by decide)
    (hcd : (x == ("__classdict__" : Str)) = false := by decide)
    (ha : ∀ v, assign (.Subscript (.Name x xpos) k spos) X.env v = (do
      let ov ← holding [v] (eval (.Name x xpos) X.env)
      let iv ← holding [v, ov] (eval k X.env)
      standAt spos
      holding [v, ov, iv] (setItem ov iv v)
      release [v, ov, iv] []) := by intro _; rfl)
    (hs : swapsWithSole [.Subscript (.Name x xpos) k spos] e pos.line X.env = pure false := by rfl) (hw : swappedStores [.Subscript (.Name x xpos) k spos] e X.env = pure none := by rfl) (h1 : (assignEach [.Subscript (.Name x xpos) k spos] X.env).map (·.2) = [assign (.Subscript (.Name x xpos) k spos) X.env] := by rfl) :
    DS X B Z (.Assign [.Subscript (.Name x xpos) k spos] e pos) (fPutL i fk f) :=
  ⟨PS.weak (ps_asg he.pe (pg_sub (pe_var hN hv hd hcd) hk.pe set_list ha) hs hw h1) fun E σ H h => by
    obtain ⟨G, env, c, q⟩ := h
    refine ⟨G, env, c, post_imp (exprS q) fun d e1 G1 H1 m1 c1 p1 v rv => ?_⟩
    cases h0 : slotL e1 i with
    | none =>
      rw [h0] at p1
      exact p1.elim
    | some p0 =>
      obtain ⟨b0, l0⟩ := p0
      rw [h0] at p1
      obtain ⟨a, r1, r2, vs0, r3, r4⟩ := c1.own (slotL_own h0)
      refine ⟨_, r2, G1, e1, c1, post_imp (exprS p1) fun z e2 G2 H2 m2 c2 p2 w rw' => ?_⟩
      cases z with
      | int j =>
        cases h2 : slotL e2 i with
        | none =>
          rw [h2] at p2
          exact p2.elim
        | some p3 =>
          obtain ⟨b, l⟩ := p3
          rw [h2] at p2
          simp only [] at p2
          obtain ⟨a', g1, g2, vs, g3, g4⟩ := c2.own (slotL_own h2)
          rw [r2] at g2
          cases g2
          cases hn : ixN l.length j with
          | none =>
            rw [hn] at p2
            exact p2.elim
          | some n =>
            rw [hn] at p2
            refine ⟨a, vs, j, n, rfl, rw'.intE, g3, by rw [g4.len]; exact hn, ?_⟩
            exact p2 G2 _ _ (Mono.chg g1 (c2.hid i a g1)) (c2.chg g1 (slotL_own h2) ⟨vs.set n v, upd_same, Rps.set (rv.mono m2.same) n g4⟩)
      | _ => 
        have p2' := p2
        simp only [] at p2'
        exact p2'.elim⟩
/-! x += e -/
def fAugI (i : Nat) (o : Int → Int → Int) (f : Ev D) : Ev Fl := fun env => match env[i]? with
  | some (.sh (.int a)) => (f env).bind fun d e => match d with
    | .int b => .val .nx (e.set i (.sh (.int (o a b))))
    | _ => .stuck
  | _ => .stuck
theorem daug (i : Nat) {x : Str} {op : Operator} {pos' : Pos} {o : Int → Int → Int} (hN : X.N.Nodup) (he : DE X B Z e f) (ho : PIp X op (ipI o)) (hi : X.N[i]? = some x := by rfl) (hx : Loc X.env.scope x := by first | exact Or.inl rfl | exact Or.inr rfl)
    (hf : X.fn x = true ∨ X.env.scope.names.lookup x = some .local := by first | exact .inl rfl | exact .inr rfl | assumption) : DS X B Z (.AugAssign (.Name x pos') op e pos) (fAugI i o f) :=
  ⟨PS.weak (ps_aug hN hi hx he.pe ho hf) fun E σ H h => by
    obtain ⟨G, env, c, q⟩ := h
    unfold fAugI at q
    split at q
    · rename_i a ha
      obtain ⟨v, h1, h2⟩ := c.sh i _ ha
      refine ⟨v, h1, G, env, c, post_imp (exprS q) fun d e1 G1 H1 m1 c1 p1 w rw' => ?_⟩
      cases d with
      | int b => exact ⟨a, b, h2.intE, rw'.intE, p1 G1 _ H1 Mono.refl (c1.put (.int _))⟩
      | _ => exact p1.elim
    · exact q.elim⟩
/-! a def over data -/
structure Vx (P : Program) (w : World) (K : PySem.W.Frag) (mg : Str → Option Value) (base : Heap) (k : Nat) (x : Str) (f : Addr) (fd : FuncData) (ps : List Str) (ct : Ct) (m : List Bool) (Φ : List D → Res) : Prop where
  ok : FnG P w K mg base CX0 k f fd ps (spV K ct m Φ)
  mg : mg x = some (.ref f)
  kp : PySem.W.keepIn K (.ref f) = true
  bd : Binds K fd ps []
theorem okVg {P : Program} {w : World} {K : PySem.W.Frag} {mg : Str → Option Value} {base : Heap} {k : Nat} {f : Addr} {ct : Ct} {x qual : Str} {st : Stmt} {fd : FuncData} {N ps : List Str} {m : List Bool} {Fs : Ev Fl} (F : Fun K x qual st f fd) (Zs : FnScope N ps (defScope st)) (hm : m.length = ps.length)
    (hb : ∀ (io : Nat → Option Addr) (cdv : Value) (A : Around) (out : List Env) (s : Shared) (H : Hp) (E : XK), (A.deeper (envOfC qual (defScope st) s.heap.objs.size f cdv)).guards = some [] → Room k (A.deeper (envOfC qual (defScope st) s.heap.objs.size f cdv)) →
      (A.deeper (envOfC qual (defScope st) s.heap.objs.size f cdv)).units + 66 < cLine → DSs (cxOf CX0 P w K mg base N qual (defScope st) f cdv A out s H E).nox ⟨ct, io, H⟩ ZNo (defBody st) Fs) : FnG P w K mg base CX0 (k + 1) f fd ps (spV K ct m fun ds => (runV m N.length Fs ds).quiet) :=
  okV F Zs hm fun io cdv A out s H E hg hr => hb io cdv A out s H E (guards_in hg) hr (by have := hr.un; omega)
def E0v : XK := fun _ _ _ => False
end
end Vl

set_option Elab.async false
set_option linter.all false
set_option maxRecDepth 100000
set_option maxHeartbeats 4000000
/-! Vj0: tuple * int, any number. -/
namespace Vl
open PySem PySem.Spec PyProof.Rows L2 Sb
theorem tuple_mul_same (l : Addr) (items : Array Value) (n : Nat) (dd : Option Addr) (sl : Array (Option Value)) (u : Tok) :
    Meets (Builtin.«tuple.__mul__» ⟨[.ref l, .int 1 u], []⟩) (fun _ R s => s.heap.get? l = some { cls := .type "tuple", dict := dd, data := .seq items n, slots := sl } ∧ R (.ok (.ret (Value.ref l))) s) :=
  .of_wp fun prog w A R s h => by
    obtain ⟨hp, g, d, tk, os⟩ := s
    obtain ⟨hl, h⟩ := h
    have f1 := AutoSeq1.idx_int
    have c0 : (decide ((1 : Int) < -(2 ^ 63)) || decide ((1 : Int) ≥ 2 ^ 63)) = false := by decide
    have c1 : (items.isEmpty || (1 : Int) == 1) = true := by simp
    wp_walk using wpAny_loadPart' hl
    repeat (first
      | (refine wpAny_ite_false (decide_eq_false (by rw [c0]; exact Bool.false_ne_true)) ?_; wp_walk using wpAny_loadPart' hl)
      | (refine wpAny_ite_true (decide_eq_true c1) ?_; wp_walk using wpAny_loadPart' hl))
    exact ⟨_, rfl, h⟩
theorem tuple_mul_none (l : Addr) (items : Array Value) (n : Nat) (dd : Option Addr) (sl : Array (Option Value)) (x : Int) (u : Tok) (c0 : (decide (x < -(2 ^ 63)) || decide (x ≥ 2 ^ 63)) = false) (c1 : (items.isEmpty || x == 1) = false) (c2 : (decide (x ≤ 0) || items.isEmpty) = true) :
    Meets (Builtin.«tuple.__mul__» ⟨[.ref l, .int x u], []⟩) (fun _ R s => s.heap.get? l = some { cls := .type "tuple", dict := dd, data := .seq items n, slots := sl } ∧
      R (.ok (.ret (Value.ref s.heap.objs.size))) { s with heap := s.heap.push { cls := Value.type "tuple", data := Data.seq #[] }, toks := s.toks }) :=
  .of_wp fun prog w A R s h => by
    obtain ⟨hp, g, d, tk, os⟩ := s
    obtain ⟨hl, h⟩ := h
    have f1 := AutoSeq1.idx_int
    wp_walk using wpAny_loadPart' hl
    repeat (first
      | (refine wpAny_ite_false (decide_eq_false (by rw [c0]; exact Bool.false_ne_true)) ?_; wp_walk using wpAny_loadPart' hl)
      | (refine wpAny_ite_false (decide_eq_false (by rw [c1]; exact Bool.false_ne_true)) ?_; wp_walk using wpAny_loadPart' hl)
      | (refine wpAny_ite_true (decide_eq_true c2) ?_; wp_walk using wpAny_loadPart' hl))
    exact ⟨_, rfl, h⟩
def rRepTA (K : PySem.W.Frag) : R2 := fun x y H Q => ∃ l k xs, x = .ref l ∧ y = .int k ∧ SqT K H l xs ∧ xs ≠ [] ∧ -(2 ^ 62) < k ∧ k ≤ 1000 ∧ xs.length ≤ 1000 ∧ (k = 1 → Q (.ref l) H) ∧ (k ≠ 1 → ∀ p, H p = none → Q (.ref p) (upd H p (.tup (List.replicate k.toNat xs).flatten)))
theorem op_repTA {X : Cx} : OpR X (binaryOp .Mult) (rRepTA X.K) := by
  intro pins s σ H x y v u Q I rx ry h
  obtain ⟨l, k, xs, rfl, rfl, hT, hne, h0, h2, hz, q1, q⟩ := h
  by_cases k2 : 2 ≤ k
  · exact op_repT pins s σ H _ _ v u Q I rx ry ⟨l, k, xs, rfl, rfl, hT, hne, k2, h2, hz, q (by omega)⟩
  cases rx
  obtain ⟨t, rfl⟩ := ry
  obtain ⟨its, r, ⟨⟨cls, dd, data, sl⟩, ho, hc, n, hd⟩, hs⟩ := I.tuple hT
  simp only at hc hd
  subst hc hd
  have hle : its.length = xs.length := r.length.symm
  have hn : its ≠ [] := fun e => hne (by
    rw [e] at hle
    exact List.eq_nil_of_length_eq_zero hle.symm)
  have hi : its.toArray.isEmpty = false := by
    cases its with
    | nil => exact absurd rfl hn
    | cons a b => rfl
  have c0 : (decide (k < -(2 ^ 63)) || decide (k ≥ 2 ^ 63)) = false := by
    rw [decide_eq_false (by omega), decide_eq_false (by omega)] <;> rfl
  by_cases k1 : k = 1
  · subst k1
    refine wpAny_binaryOp_repeat_ref (T := "tuple") (U := "int") (by decide) ⟨_, ho, rfl⟩ (fun s' => typeIs_int s' 1 t) noFill_tuple_mul F.fills_int_mul F.slot_int_rmul repeat_tuple F.slot_int_index.lookup
      (call_meets F.slot_int_rmul (typeIs_int s 1 t) F.entry_int_rmul (F.args_int_rmul_2 _ _) (int_rmul_tuple 1 t l its.toArray n dd sl)
        ⟨ho, rfl, ⟨_, ho, rfl⟩, call_meets F.slot_tuple_mul ⟨_, ho, rfl⟩ F.entry_tuple_mul (F.args_tuple_mul_2 _ _) (tuple_mul_same l its.toArray n dd sl t) ⟨ho, ?_⟩⟩)
    exact ⟨.ref l, H, I, rfl, q1 rfl⟩
  · have c1 : (its.toArray.isEmpty || k == 1) = false := by
      rw [hi, Bool.false_or]
      exact beq_eq_false_iff_ne.mpr k1
    have c2 : (decide (k ≤ 0) || its.toArray.isEmpty) = true := by
      rw [decide_eq_true (show k ≤ 0 by omega)]
      rfl
    refine wpAny_binaryOp_repeat_ref (T := "tuple") (U := "int") (by decide) ⟨_, ho, rfl⟩ (fun s' => typeIs_int s' k t) noFill_tuple_mul F.fills_int_mul F.slot_int_rmul repeat_tuple F.slot_int_index.lookup
      (call_meets F.slot_int_rmul (typeIs_int s k t) F.entry_int_rmul (F.args_int_rmul_2 _ _) (int_rmul_tuple k t l its.toArray n dd sl)
        ⟨ho, rfl, ⟨_, ho, rfl⟩, call_meets F.slot_tuple_mul ⟨_, ho, rfl⟩ F.entry_tuple_mul (F.args_tuple_mul_2 _ _) (tuple_mul_none l its.toArray n dd sl k t c0 c1 c2) ⟨ho, ?_⟩⟩)
    have e : (List.replicate k.toNat xs).flatten = [] := by
      rw [show k.toNat = 0 by omega]
      rfl
    have q := q k1
    rw [e] at q
    refine ⟨.ref s.heap.objs.size, _, I.laid (t' := s.toks) (o := .tup []) (fun b ob q => Heap.get?_push_of_some _ q) (Nat.le_refl _) ?_, rfl, q _ (I.hok.fresh (Nat.le_refl _))⟩
    exact ⟨by rw [sizeLine_eq]; decide, [], .nil, IsTup.new _ _⟩
theorem lo62' {j : Int} (h : -4611686018427387904 < j) : -(2 ^ 62) < j := by
  have e62 : (2 : Int) ^ 62 = 4611686018427387904 := by decide
  rw [e62]
  exact h
/-- a tuple repeated -/
def oRepTA : D → D → Option D
  | .tup l, .int k => if l ≠ [] ∧ -4611686018427387904 < k ∧ k ≤ 1000 ∧ l.length ≤ 1000 then some (.tup (List.replicate k.toNat l).flatten) else none
  | _, _ => none
theorem opv_repTA {X : Cx} {ct : Ct} : OpV X.K ct (rRepTA X.K) oRepTA := by
  intro S H x y d e z Q live rx ry ho hq
  unfold oRepTA at ho
  split at ho
  · rename_i l k
    split at ho
    · rename_i c
      cases ho
      obtain ⟨a, vs, rfl, h1, t1⟩ := rx.tupP
      obtain ⟨c0, c1, c2, c3⟩ := c
      refine ⟨_, _, _, rfl, ry.intE, SqT.of (off_le _ _ h1), ?_, lo62' c1, c2, by rw [t1.len]; exact c3, fun e1 => ?_, fun _ p hp => hq _ _ (Sb.Same.upd hp) (new_tup live hp (t1.rep _))⟩
      · intro z
        exact c0 (List.length_eq_zero_iff.mp (by rw [← t1.len, z]; rfl))
      · subst e1
        refine hq _ H (Same.refl _) ?_
        rw [show (1 : Int).toNat = 1 from rfl, List.replicate_one, List.flatten_cons, List.flatten_nil, List.append_nil]
        exact .tup h1 t1
    · cases ho
  · cases ho
end Vl

set_option Elab.async false
set_option linter.all false
set_option maxRecDepth 100000
set_option maxHeartbeats 2000000
/-! Vj: sorted, list(range), calls with keywords, owned lists walked and cut. -/
namespace Vl
open PySem PySem.Spec PyProof.Rows L2 Sb
/-! ### sorted -/
section
variable {α : Type}
def ins (le : α → α → Bool) (x : α) : List α → List α
  | [] => [x]
  | y :: l => if le x y then x :: y :: l else y :: ins le x l
def isort (le : α → α → Bool) : List α → List α
  | [] => []
  | x :: l => ins le x (isort le l)
theorem ins_perm (le : α → α → Bool) (x : α) : ∀ l, (ins le x l).Perm (x :: l)
  | [] => .refl _
  | y :: l => by
    unfold ins
    split
    · exact .refl _
    · exact ((ins_perm le x l).cons y).trans (.swap x y l)
theorem isort_perm (le : α → α → Bool) : ∀ l, (isort le l).Perm l
  | [] => .refl _
  | x :: l => (ins_perm le x _).trans ((isort_perm le l).cons x)
theorem ins_pw {le : α → α → Bool} (tot : ∀ a b, le a b = false → le b a = true) (tr : ∀ a b c, le a b = true → le b c = true → le a c = true) (x : α) : ∀ l, l.Pairwise (fun a b => le a b = true) → (ins le x l).Pairwise (fun a b => le a b = true)
  | [], _ => by simp [ins]
  | y :: l, h => by
    unfold ins
    obtain ⟨h1, h2⟩ := List.pairwise_cons.mp h
    cases e : le x y with
    | true =>
      rw [if_pos rfl]
      refine List.pairwise_cons.mpr ⟨fun z hz => ?_, h⟩
      rcases List.mem_cons.mp hz with rfl | hz
      · exact e
      · exact tr _ _ _ e (h1 z hz)
    | false =>
      rw [if_neg Bool.false_ne_true]
      refine List.pairwise_cons.mpr ⟨fun z hz => ?_, ins_pw tot tr x l h2⟩
      rcases List.mem_cons.mp ((ins_perm le x l).mem_iff.mp hz) with rfl | hz
      · exact tot _ _ e
      · exact h1 z hz
theorem isort_pw {le : α → α → Bool} (tot : ∀ a b, le a b = false → le b a = true) (tr : ∀ a b c, le a b = true → le b c = true → le a c = true) : ∀ l, (isort le l).Pairwise (fun a b => le a b = true)
  | [] => .nil
  | x :: l => ins_pw tot tr x _ (isort_pw tot tr l)
theorem isort_unique {le : α → α → Bool} (tot : ∀ a b, le a b = false → le b a = true) (tr : ∀ a b c, le a b = true → le b c = true → le a c = true) (anti : ∀ a b, le a b = true → le b a = true → a = b) {l m : List α} (p : m.Perm l) (s : m.Pairwise (fun a b => le a b = true)) : m = isort le l :=
  List.Perm.eq_of_pairwise (le := fun a b => le a b = true) (fun a b _ _ => anti a b) s (isort_pw tot tr l) (p.trans (isort_perm le l).symm)
end
def leS (a b : Str) : Bool := !ltCps b.cps.toList a.cps.toList
theorem ltCps_irr : ∀ l : List Nat, ltCps l l = false
  | [] => rfl
  | a :: l => by simp [ltCps, ltCps_irr l]
theorem ltCps_tr : ∀ l m n : List Nat, ltCps l m = true → ltCps m n = true → ltCps l n = true
  | [], [], _, h, _ => by simp [ltCps] at h
  | [], _ :: _, [], _, h => by simp [ltCps] at h
  | [], _ :: _, _ :: _, _, _ => rfl
  | _ :: _, [], _, h, _ => by simp [ltCps] at h
  | _ :: _, _ :: _, [], _, h => by simp [ltCps] at h
  | a :: l, b :: m, c :: n, h, g => by
    simp only [ltCps, Bool.or_eq_true, decide_eq_true_eq, Bool.and_eq_true, beq_iff_eq] at h g ⊢
    rcases h with h | ⟨h1, h2⟩ <;> rcases g with g | ⟨g1, g2⟩
    · exact .inl (by omega)
    · exact .inl (by omega)
    · exact .inl (by omega)
    · exact .inr ⟨by omega, ltCps_tr l m n h2 g2⟩
theorem ltCps_tot : ∀ l m : List Nat, ltCps l m = false → ltCps m l = false → l = m
  | [], [], _, _ => rfl
  | [], _ :: _, h, _ => by simp [ltCps] at h
  | _ :: _, [], _, h => by simp [ltCps] at h
  | a :: l, b :: m, h, g => by
    simp only [ltCps, Bool.or_eq_false_iff, decide_eq_false_iff_not, Bool.and_eq_false_iff] at h g
    have e : a = b := by omega
    subst e
    have h2 : ltCps l m = false := by
      rcases h.2 with z | z
      · simp at z
      · exact z
    have g2 : ltCps m l = false := by
      rcases g.2 with z | z
      · simp at z
      · exact z
    rw [ltCps_tot l m h2 g2]
theorem leS_tot (a b : Str) (h : leS a b = false) : leS b a = true := by
  unfold leS at h ⊢
  have h' : ltCps b.cps.toList a.cps.toList = true := by
    cases e : ltCps b.cps.toList a.cps.toList with
    | true => rfl
    | false => rw [e] at h; cases h
  cases e : ltCps a.cps.toList b.cps.toList with
  | false => rfl
  | true =>
    have := ltCps_tr _ _ _ e h'
    rw [ltCps_irr] at this
    cases this
theorem leS_tr (a b c : Str) (h : leS a b = true) (g : leS b c = true) : leS a c = true := by
  unfold leS at h g ⊢
  cases e : ltCps c.cps.toList a.cps.toList with
  | false => rfl
  | true =>
    have h' : ltCps b.cps.toList a.cps.toList = false := by simpa using h
    have g' : ltCps c.cps.toList b.cps.toList = false := by simpa using g
    cases e2 : ltCps a.cps.toList b.cps.toList with
    | true =>
      have := ltCps_tr _ _ _ e e2
      rw [g'] at this
      cases this
    | false =>
      have ee := ltCps_tot _ _ e2 h'
      rw [ee] at e
      rw [e] at g'
      cases g'
theorem str_ext {a b : Str} (h : a.cps.toList = b.cps.toList) : a = b := by
  cases a; cases b
  congr 1
  exact Array.ext' h
theorem leS_anti (a b : Str) (h : leS a b = true) (g : leS b a = true) : a = b := by
  unfold leS at h g
  exact str_ext (ltCps_tot _ _ (by simpa using g) (by simpa using h))
theorem rising_pw : ∀ (l : List Str) (x : Str), risingS x l = true → (x :: l).Pairwise (fun a b => leS a b = true)
  | [], _, _ => by simp
  | y :: l, x, h => by
    unfold risingS at h
    rw [Bool.and_eq_true] at h
    have ih := rising_pw l y h.2
    obtain ⟨h1, _⟩ := List.pairwise_cons.mp ih
    refine List.pairwise_cons.mpr ⟨fun z hz => ?_, ih⟩
    rcases List.mem_cons.mp hz with rfl | hz
    · exact h.1
    · exact leS_tr _ _ _ h.1 (h1 z hz)
theorem sortedS_pw {l : List Str} (h : PyProof.Rows.sortedS l = true) : l.Pairwise (fun a b => leS a b = true) := by
  cases l with
  | nil => exact .nil
  | cons x l => exact rising_pw l x h
def strsOf : List D → Option (List Str)
  | [] => some []
  | .str b :: l => (strsOf l).map (b :: ·)
  | _ => none
def intsOf : List D → Option (List Int)
  | [] => some []
  | .int b :: l => (intsOf l).map (b :: ·)
  | _ => none
section
variable {X : Cx} {ct : Ct}
theorem strs_v {F : Hp} : ∀ {l : List D} {vs : List V} {bs : List Str}, Rps X.K ct F vs l → strsOf l = some bs → vs = bs.map V.str
  | [], _, _, h, e => by
    cases e
    exact h.nilE
  | d :: l, vs, bs, h, e => by
    obtain ⟨v, ws, rfl, h1, h2⟩ := h.consE
    cases d with
    | str b =>
      simp only [strsOf] at e
      cases e2 : strsOf l with
      | none =>
        rw [e2] at e
        cases e
      | some cs =>
        rw [e2] at e
        cases e
        rw [h1.strE, strs_v h2 e2]
        rfl
    | _ => cases e
theorem ints_v {F : Hp} : ∀ {l : List D} {vs : List V} {bs : List Int}, Rps X.K ct F vs l → intsOf l = some bs → vs = bs.map V.int
  | [], _, _, h, e => by
    cases e
    exact h.nilE
  | d :: l, vs, bs, h, e => by
    obtain ⟨v, ws, rfl, h1, h2⟩ := h.consE
    cases d with
    | int b =>
      simp only [intsOf] at e
      cases e2 : intsOf l with
      | none =>
        rw [e2] at e
        cases e
      | some cs =>
        rw [e2] at e
        cases e
        rw [h1.intE, ints_v h2 e2]
        rfl
    | _ => cases e
theorem Rps.strs {F : Hp} : ∀ {ns : List Str}, Rps X.K ct F (ns.map V.str) (ns.map D.str)
  | [] => .nil
  | n :: ns => .cons (.str n) Rps.strs
def oSortS : D → Option D
  | .lst l => if l.length < 64 then (strsOf l).map fun bs => .lst ((isort leS bs).map D.str) else none
  | _ => none
theorem strsOf_len : ∀ {l : List D} {bs : List Str}, strsOf l = some bs → bs.length = l.length
  | [], _, e => by cases e; rfl
  | d :: l, bs, e => by
    cases d with
    | str b =>
      simp only [strsOf] at e
      cases e2 : strsOf l with
      | none => rw [e2] at e; cases e
      | some cs =>
        rw [e2] at e
        cases e
        simp [strsOf_len e2]
    | _ => cases e
theorem cv_sortS : CallV X.K ct (rSortedS X.K) (o1 oSortS) := cv1 fun S H x d z Q live rx ho hq => by
  unfold oSortS at ho
  split at ho
  · rename_i l
    split at ho
    · rename_i c
      cases e : strsOf l with
      | none =>
        rw [e] at ho
        cases ho
      | some bs =>
        rw [e] at ho
        cases ho
        obtain ⟨a, vs, rfl, h1, t1⟩ := rx.lstE
        rw [strs_v t1 e] at h1
        refine ⟨a, bs, rfl, SqL.of (off_le _ _ h1), by rw [strsOf_len e]; exact c, fun ys p perm srt hp => ?_⟩
        rw [isort_unique leS_tot leS_tr leS_anti perm (sortedS_pw srt)]
        exact hq _ _ (Sb.Same.upd hp) (new_lst live hp Rps.strs)
    · cases ho
  · cases ho
def leI (a b : Int) : Bool := decide (a ≤ b)
def oSortI : D → Option D
  | .lst l => (intsOf l).map fun bs => .lst ((isort leI bs).map D.int)
  | _ => none
theorem cv_sortI : CallV X.K ct (rSortedI X.K) (o1 oSortI) := cv1 fun S H x d z Q live rx ho hq => by
  unfold oSortI at ho
  split at ho
  · rename_i l
    cases e : intsOf l with
    | none =>
      rw [e] at ho
      cases ho
    | some bs =>
      rw [e] at ho
      cases ho
      obtain ⟨a, vs, rfl, h1, t1⟩ := rx.lstE
      rw [ints_v t1 e] at h1
      refine ⟨a, bs, rfl, SqL.of (off_le _ _ h1), fun ys p perm srt hp => ?_⟩
      rw [isort_unique (le := leI) (fun a b h => by unfold leI at h ⊢; rw [decide_eq_false_iff_not] at h; exact decide_eq_true (by omega)) (fun a b c h g => by unfold leI at h g ⊢; rw [decide_eq_true_eq] at h g ⊢; omega)
        (fun a b h g => by unfold leI at h g; rw [decide_eq_true_eq] at h g; omega) perm (srt.imp fun h => decide_eq_true h)]
      exact hq _ _ (Sb.Same.upd hp) (new_lst live hp Rps.ints)
  · cases ho
end
/-! ### list(range(..)) -/
section
variable {X : Cx} {B : Bs} {Z : ZX} {a b c e : Expr} {es : List Expr} {pos : Pos} {f g : Ev D} {fs gs : Ev (List D)}
def rgOk (a b : Int) : Bool := sm62 a && sm62 b && Nat.ble (b - a).toNat 16777216
theorem rgOk_ok {a b : Int} (h : rgOk a b = true) : RgOk a b := by
  simp only [rgOk, Bool.and_eq_true] at h
  exact ⟨(sm62_ok h.1.1).1, (sm62_ok h.1.1).2, (sm62_ok h.1.2).1, (sm62_ok h.1.2).2, Nat.le_of_ble_eq_true h.2⟩
def fListRg1 (f : Ev D) : Ev D := fun env => (f env).bind fun d e => match d with
  | .int j => if rgOk 0 j then .val (.lst (rangeD 0 j.toNat)) e else .stuck
  | _ => .stuck
def fListRg2 (f g : Ev D) : Ev D := fun env => (f env).bind fun d e => (g e).bind fun d2 e2 => match d, d2 with
  | .int i, .int j => if rgOk i j then .val (.lst (rangeD i (j - i).toNat)) e2 else .stuck
  | _, _ => .stuck
theorem Rps.rg {F : Hp} {K : PySem.W.Frag} {ct : Ct} (a b : Int) : Rps K ct F (rgV a b) (rangeD a (b - a).toNat) := by
  unfold rgV rangeD
  generalize List.range (b - a).toNat = l
  induction l with
  | nil => exact .nil
  | cons x l ih => exact .cons (.int _) ih
theorem de_listRg1 {p q pos2 : Pos} (hc : X.calm = true) (hg : Gl X "list") (hm : X.mg "list" = none) (hg2 : Gl X "range") (hm2 : X.mg "range" = none) (ha : DE X B Z a f) (na2 : starEach [a] X.env = (false, eval a X.env) :: starEach [] X.env := by rfl)
    (na : starEach [.Call (.Name "range" q) [a] [] pos2] X.env = (false, eval (.Call (.Name "range" q) [a] [] pos2) X.env) :: starEach [] X.env := by rfl) : DE X B Z (.Call (.Name "list" p) [.Call (.Name "range" q) [a] [] pos2] [] pos) (fListRg1 f) :=
  ⟨PE.weak (pe_listRg hc hg hm (prg_1 hg2 hm2 ha.pe na2) na) fun σ H Q ⟨G, env, c, q⟩ => ⟨G, env, c, post_imp (post_bind q) fun d e1 G1 H1 m1 c1 p1 v rv => by
    cases d with
    | int j =>
      simp only [] at p1
      by_cases hj : rgOk 0 j = true
      · rw [if_pos hj] at p1
        refine ⟨j, rv.intE, rgOk_ok hj, fun p hp => p1 G1 _ (c1.mono (Sb.Same.upd hp)) (c1.same (Sb.Same.upd hp)) _ (new_lst c1.live hp ?_)⟩
        have := Rps.rg (K := X.K) (ct := B.ct) (F := off G1.S H1) 0 j
        rw [Int.sub_zero] at this
        exact this
      · rw [if_neg hj] at p1
        exact p1.elim
    | _ => exact p1.elim⟩⟩
theorem de_listRg2 {p q pos2 : Pos} (hc : X.calm = true) (hg : Gl X "list") (hm : X.mg "list" = none) (hg2 : Gl X "range") (hm2 : X.mg "range" = none) (ha : DE X B Z a f) (hb : DE X B Z b g) (na2 : starEach [a, b] X.env = (false, eval a X.env) :: starEach [b] X.env := by rfl)
    (nb : starEach [b] X.env = (false, eval b X.env) :: starEach [] X.env := by rfl) (hp : (backTo pos2 (starEach [b] X.env)).any (·.1) = false := by rfl)
    (na : starEach [.Call (.Name "range" q) [a, b] [] pos2] X.env = (false, eval (.Call (.Name "range" q) [a, b] [] pos2) X.env) :: starEach [] X.env := by rfl) : DE X B Z (.Call (.Name "list" p) [.Call (.Name "range" q) [a, b] [] pos2] [] pos) (fListRg2 f g) :=
  ⟨PE.weak (pe_listRg hc hg hm (prg_2 hg2 hm2 ha.pe hb.pe na2 nb hp) na) fun σ H Q ⟨G, env, c, q⟩ => ⟨G, env, c, post_imp (post_bind q) fun d e1 G1 H1 m1 c1 p1 v rv => ⟨G1, e1, c1, post_imp (post_bind p1) fun d2 e2 G2 H2 m2 c2 p2 w rw' => by
    cases d with
    | int i =>
      cases d2 with
      | int j =>
        simp only [] at p2
        by_cases hj : rgOk i j = true
        · rw [if_pos hj] at p2
          exact ⟨i, j, rv.intE, rw'.intE, rgOk_ok hj, fun p hp => p2 G2 _ (c2.mono (Sb.Same.upd hp)) (c2.same (Sb.Same.upd hp)) _ (new_lst c2.live hp (Rps.rg i j))⟩
        · rw [if_neg hj] at p2
          exact p2.elim
      | _ => exact p2.elim
    | _ => exact p2.elim⟩⟩⟩
end
end Vl

set_option Elab.async false
set_option linter.all false
set_option maxRecDepth 100000
set_option maxHeartbeats 2000000
/-! Vk: values that are new; calls with keywords; owned lists walked and cut. -/
namespace Vl
open PySem PySem.Spec PyProof.Rows L2 Sb
/-- operations whose value is a new list -/
def OpN (K : PySem.W.Frag) (ct : Ct) (r : R2) (o : D → D → Option D) : Prop := ∀ (S : Addr → Prop) (H : Hp) (x y : V) (d e z : D) (Q : VK), Rp K ct (off S H) x d → Rp K ct (off S H) y e → o d e = some z →
  (∀ p vs l, z = .lst l → H p = none → Rps K ct (off S H) vs l → Q (.ref p) (upd H p (.lst vs))) → r x y H Q
def CallN (K : PySem.W.Frag) (ct : Ct) (r : List V → Hp → VK → Prop) (o : List D → Option D) : Prop := ∀ (S : Addr → Prop) (H : Hp) (xs : List V) (ds : List D) (z : D) (Q : VK), Rps K ct (off S H) xs ds → o ds = some z →
  (∀ p vs l, z = .lst l → H p = none → Rps K ct (off S H) vs l → Q (.ref p) (upd H p (.lst vs))) → r xs H Q
def SlN (K : PySem.W.Frag) (ct : Ct) (r : V → Option Int → Option Int → Hp → VK → Prop) (o : D → Option Int → Option Int → Option D) : Prop := ∀ (S : Addr → Prop) (H : Hp) (x : V) (d z : D) (lo hi : Option Int) (Q : VK), Rp K ct (off S H) x d → o d lo hi = some z →
  (∀ p vs l, z = .lst l → H p = none → Rps K ct (off S H) vs l → Q (.ref p) (upd H p (.lst vs))) → r x lo hi H Q
section
variable {K : PySem.W.Frag} {B : Bs} {Z : ZX} {G G1 : Gh} {env : List Slot} {σ : L2.St} {H0 H1 : Hp} {Q : VK} {l : List D} {vs : List V} {q : Addr}
/-- a new list is handed on as owned -/
theorem put_new (c1 : Cfg K B G1 env σ H1) (hq : H1 q = none) (h0 : H0 q = none) (rvs : Rps K B.ct (off G1.S H1) vs l) (p : postG K B Z G1 σ H1 (.val (.lst l) env) (fun d _ G' H' => ∀ p, H0 p = none → G'.S p → (∀ i, G'.r i ≠ some p) → OwnAt K B.ct H' (off G'.S H') p d → Q (.ref p) H')) :
    Q (.ref q) (upd H1 q (.lst vs)) :=
  p (G1.hide q) _ (Mono.hide hq c1.live) (c1.hide hq) q h0 (.inr rfl) (fun i z => c1.unS hq (c1.hid i q z)) ⟨vs, upd_same, rvs.mono (Mono.hide hq c1.live).same⟩
end
section
variable {X : Cx} {B : Bs} {Z : ZX} {a b c e elt tg : Expr} {es : List Expr} {pos : Pos} {f g fe : Ev D} {fs gs : Ev (List D)} {ft : Ev Bool} {p : Pat}
theorem dn_op {op : Operator} {r : R2} {o : D → D → Option D} (ho : OpR X (binaryOp op) r) (ov : OpN X.K B.ct r o) (ha : DE X B Z a f) (hb : DE X B Z b g) : DN X B Z (.BinOp a op b pos) (fOp o f g) :=
  ⟨PE.weak (pe_op ho ha.pe hb.pe) fun σ H Q ⟨G, env, c, q⟩ => ⟨G, env, c, post_imp (post_bind q) fun d e1 G1 H1 m1 c1 p1 v rv => ⟨G1, e1, c1, post_imp (post_bind p1) fun d2 e2 G2 H2 m2 c2 p2 w rw' => by
    cases ho : o d d2 with
    | none =>
      rw [ho] at p2
      exact p2.elim
    | some z =>
      rw [ho] at p2
      exact ov G2.S H2 v w d d2 z Q (rv.mono m2.same) rw' ho fun q vs l ez hq rvs => put_new c2 hq (undom m1 (undom m2 hq)) rvs (by subst ez; exact p2)⟩⟩⟩
theorem lift_cn {r : List V → Hp → VK → Prop} {o : List D → Option D} (ov : CallN X.K B.ct r o) (σ : L2.St) (H : Hp) (Q : VK) (h : liftN X.K B Z (fCB o fs) σ H Q) : liftA X.K B Z fs σ H fun vs H1 => r vs H1 Q := by
  obtain ⟨G, env, c, q⟩ := h
  refine ⟨G, env, c, post_imp (post_bind q) fun l e1 G1 H1 m1 c1 p1 vs rvs => ?_⟩
  cases ho : o l with
  | none =>
    rw [ho] at p1
    exact p1.elim
  | some z =>
    rw [ho] at p1
    exact ov G1.S H1 vs l z Q rvs ho fun q vs l ez hq rvs => put_new c1 hq (undom m1 hq) rvs (by subst ez; exact p1)
theorem dn_callB {id : String} {x : Str} {px : Pos} {r : List V → Hp → VK → Prop} {o : List D → Option D} (hc : CallR X (.builtin id) r) (ov : CallN X.K B.ct r o) (hg : Gl X x) (hm : X.mg x = none) (hv : bootBuiltins x = some (.builtin id)) (ha : DA X B Z (e :: es) fs)
    (hn : x ≠ "__name__" := by decide) (hdb : (x == ("__debug__" : Str)) = false := by decide) (he : starEach (e :: es) X.env = (false, eval e X.env) :: starEach es X.env := by rfl) (hpl : (backTo pos (starEach es X.env)).any (·.1) = false := by rfl) :
    DN X B Z (.Call (.Name x px) (e :: es) [] pos) (fCB o fs) := ⟨PE.weak (pe_callB hc hg hm hv ha.pa hn hdb he hpl) (lift_cn ov)⟩
theorem dn_callTy {T : String} {x : Str} {px : Pos} {r : List V → Hp → VK → Prop} {o : List D → Option D} (hc : CallR X (.type T) r) (ov : CallN X.K B.ct r o) (hg : Gl X x) (hm : X.mg x = none) (hv : bootBuiltins x = some (.type T)) (ha : DA X B Z (e :: es) fs)
    (hn : x ≠ "__name__" := by decide) (hdb : (x == ("__debug__" : Str)) = false := by decide) (he : starEach (e :: es) X.env = (false, eval e X.env) :: starEach es X.env := by rfl) (hpl : (backTo pos (starEach es X.env)).any (·.1) = false := by rfl) :
    DN X B Z (.Call (.Name x px) (e :: es) [] pos) (fCB o fs) := ⟨PE.weak (pe_callTy hc hg hm hv ha.pa hn hdb he hpl) (lift_cn ov)⟩
theorem dn_slice {r : V → Option Int → Option Int → Hp → VK → Prop} {o : D → Option Int → Option Int → Option D} {lo hi : Option Expr} {fl fh : Ev (Option Int)} {p2 : Pos} (hr : SlR X r) (ov : SlN X.K B.ct r o) (he : DE X B Z e f) (hl : DO X B Z lo fl) (hu : DO X B Z hi fh) :
    DN X B Z (.Subscript e (.Slice lo hi none p2) pos) (fSl o f fl fh) :=
  ⟨PE.weak (pe_slice hr he.pe hl.po hu.po) fun σ H Q ⟨G, env, c, p⟩ => ⟨G, env, c, post_imp (post_bind p) fun d e1 G1 H1 m1 c1 p1 v rv => ⟨G1, e1, c1, post_imp (post_bind p1) fun l e2 G2 H2 m2 c2 p2 =>
    ⟨G2, e2, c2, post_imp (post_bind p2) fun u e3 G3 H3 m3 c3 p3 => by
      cases ho : o d l u with
      | none =>
        rw [ho] at p3
        exact p3.elim
      | some z =>
        rw [ho] at p3
        exact ov G3.S H3 v d z l u Q ((rv.mono m2.same).mono m3.same) ho fun q vs l ez hq rvs => put_new c3 hq (undom m1 (undom m2 (undom m3 hq))) rvs (by subst ez; exact p3)⟩⟩⟩⟩
/-! which ones -/
theorem opn_cat {ct : Ct} : OpN X.K ct rCat oCat := by
  intro S H x y d e z Q rx ry ho hq
  unfold oCat at ho
  split at ho
  · rename_i l m
    split at ho
    · rename_i c
      cases ho
      obtain ⟨a, vs, rfl, h1, t1⟩ := rx.lstE
      obtain ⟨b, ws, rfl, h2, t2⟩ := ry.lstE
      exact ⟨_, _, _, _, rfl, rfl, off_le _ _ h1, off_le _ _ h2, by rw [t1.len, t2.len]; exact c, fun p hp => hq _ _ _ rfl hp (t1.app t2)⟩
    · cases ho
  · cases ho
theorem opn_rep {ct : Ct} : OpN X.K ct rRep oRep := by
  intro S H x y d e z Q rx ry ho hq
  unfold oRep at ho
  split at ho
  · rename_i l k
    split at ho
    · rename_i c
      cases ho
      obtain ⟨a, vs, rfl, h1, t1⟩ := rx.lstE
      have e : (2 : Int) ^ 20 = 1048576 := by decide
      have e3 : (2 : Int) ^ 63 = 9223372036854775808 := by decide
      obtain ⟨c1, c2, c3⟩ := c
      rw [e] at c1 c2
      exact ⟨_, _, _, rfl, ry.intE, off_le _ _ h1, by omega, by omega, by rw [t1.len]; exact c3, fun p hp => hq _ _ _ rfl hp (t1.rep _)⟩
    · cases ho
  · cases ho
theorem cn1 {K : PySem.W.Frag} {ct : Ct} {r : List V → Hp → VK → Prop} {o : D → Option D} (h : ∀ (S : Addr → Prop) (H : Hp) (x : V) (d z : D) (Q : VK), Rp K ct (off S H) x d → o d = some z → (∀ p vs l, z = .lst l → H p = none → Rps K ct (off S H) vs l → Q (.ref p) (upd H p (.lst vs))) → r [x] H Q) : CallN K ct r (o1 o) := by
  intro S H xs ds z Q rs ho hq
  unfold o1 at ho
  split at ho
  · obtain ⟨v, rfl, rv⟩ := rs.one1
    exact h S H v _ z Q rv ho hq
  · cases ho
theorem cn_list {ct : Ct} : CallN X.K ct (fun xs H Q => ∃ p ys, xs = [.ref p] ∧ (SqL X.K H p ys ∨ SqT X.K H p ys) ∧ ∀ l, H l = none → Q (.ref l) (upd H l (.lst ys))) (o1 oList) := cn1 fun S H x d z Q rx ho hq => by
  unfold oList at ho
  split at ho
  · cases ho
    obtain ⟨a, vs, rfl, h1, t1⟩ := rx.lstE
    exact ⟨a, vs, rfl, .inl (SqL.of (off_le _ _ h1)), fun l hl => hq _ _ _ rfl hl t1⟩
  · cases ho
    obtain ⟨a, vs, rfl, h1, t1⟩ := rx.tupE
    exact ⟨a, vs, rfl, .inr (sqT_le h1), fun l hl => hq _ _ _ rfl hl t1⟩
  · cases ho
theorem cn_sortS {ct : Ct} : CallN X.K ct (rSortedS X.K) (o1 oSortS) := cn1 fun S H x d z Q rx ho hq => by
  unfold oSortS at ho
  split at ho
  · rename_i l
    split at ho
    · rename_i c
      cases e : strsOf l with
      | none =>
        rw [e] at ho
        cases ho
      | some bs =>
        rw [e] at ho
        cases ho
        obtain ⟨a, vs, rfl, h1, t1⟩ := rx.lstE
        rw [strs_v t1 e] at h1
        refine ⟨a, bs, rfl, SqL.of (off_le _ _ h1), by rw [strsOf_len e]; exact c, fun ys p perm srt hp => ?_⟩
        rw [isort_unique leS_tot leS_tr leS_anti perm (sortedS_pw srt)]
        exact hq _ _ _ rfl hp Rps.strs
    · cases ho
  · cases ho
theorem sn_lst {ct : Ct} : SlN X.K ct (rSlL X.K) oSlL := by
  intro S H x d z lo hi Q rx ho hq
  unfold oSlL at ho
  split at ho
  · cases ho
    obtain ⟨a, vs, rfl, h1, t1⟩ := rx.lstE
    exact ⟨a, vs, rfl, SqL.of (off_le _ _ h1), fun p hp => hq _ _ _ rfl hp (t1.cut _ _)⟩
  · cases ho
theorem dn_listRg1 {p q pos2 : Pos} (hc : X.calm = true) (hg : Gl X "list") (hm : X.mg "list" = none) (hg2 : Gl X "range") (hm2 : X.mg "range" = none) (ha : DE X B Z a f) (na2 : starEach [a] X.env = (false, eval a X.env) :: starEach [] X.env := by rfl)
    (na : starEach [.Call (.Name "range" q) [a] [] pos2] X.env = (false, eval (.Call (.Name "range" q) [a] [] pos2) X.env) :: starEach [] X.env := by rfl) : DN X B Z (.Call (.Name "list" p) [.Call (.Name "range" q) [a] [] pos2] [] pos) (fListRg1 f) :=
  ⟨PE.weak (pe_listRg hc hg hm (prg_1 hg2 hm2 ha.pe na2) na) fun σ H Q ⟨G, env, c, q⟩ => ⟨G, env, c, post_imp (post_bind q) fun d e1 G1 H1 m1 c1 p1 v rv => by
    cases d with
    | int j =>
      simp only [] at p1
      by_cases hj : rgOk 0 j = true
      · rw [if_pos hj] at p1
        refine ⟨j, rv.intE, rgOk_ok hj, fun p hp => put_new c1 hp (undom m1 hp) ?_ p1⟩
        have := Rps.rg (K := X.K) (ct := B.ct) (F := off G1.S H1) 0 j
        rw [Int.sub_zero] at this
        exact this
      · rw [if_neg hj] at p1
        exact p1.elim
    | _ => exact p1.elim⟩⟩
theorem dn_listRg2 {p q pos2 : Pos} (hc : X.calm = true) (hg : Gl X "list") (hm : X.mg "list" = none) (hg2 : Gl X "range") (hm2 : X.mg "range" = none) (ha : DE X B Z a f) (hb : DE X B Z b g) (na2 : starEach [a, b] X.env = (false, eval a X.env) :: starEach [b] X.env := by rfl)
    (nb : starEach [b] X.env = (false, eval b X.env) :: starEach [] X.env := by rfl) (hp : (backTo pos2 (starEach [b] X.env)).any (·.1) = false := by rfl)
    (na : starEach [.Call (.Name "range" q) [a, b] [] pos2] X.env = (false, eval (.Call (.Name "range" q) [a, b] [] pos2) X.env) :: starEach [] X.env := by rfl) : DN X B Z (.Call (.Name "list" p) [.Call (.Name "range" q) [a, b] [] pos2] [] pos) (fListRg2 f g) :=
  ⟨PE.weak (pe_listRg hc hg hm (prg_2 hg2 hm2 ha.pe hb.pe na2 nb hp) na) fun σ H Q ⟨G, env, c, q⟩ => ⟨G, env, c, post_imp (post_bind q) fun d e1 G1 H1 m1 c1 p1 v rv => ⟨G1, e1, c1, post_imp (post_bind p1) fun d2 e2 G2 H2 m2 c2 p2 w rw' => by
    cases d with
    | int i =>
      cases d2 with
      | int j =>
        simp only [] at p2
        by_cases hj : rgOk i j = true
        · rw [if_pos hj] at p2
          exact ⟨i, j, rv.intE, rw'.intE, rgOk_ok hj, fun p hp => put_new c2 hp (undom m1 (undom m2 hp)) (Rps.rg i j) p2⟩
        · rw [if_neg hj] at p2
          exact p2.elim
      | _ => exact p2.elim
    | _ => exact p2.elim⟩⟩⟩
/-! ### an owned list cut -/
def fSlO (i : Nat) (lo hi : Ev (Option Int)) : Ev D := fun env => match slotL env i with
  | some _ => (lo env).bind fun l e2 => (hi e2).bind fun u e3 => match slotL e3 i with
    | some (_, m) => .val (.lst (cutD m l u)) e3
    | none => .stuck
  | none => .stuck
theorem slO_core {i : Nat} {fl fh : Ev (Option Int)} {σ : L2.St} {H : Hp} {Q : VK} {R : D → List Slot → Gh → Hp → Prop} {G : Gh} {env : List Slot} (c : Cfg X.K B G env σ H) (q : postG X.K B Z G σ H (fSlO i fl fh env) R)
    (k : ∀ G3 H3 e3 m vs p l u, Cfg X.K B G3 e3 σ H3 → Mono G H G3 H3 → H3 p = none → Rps X.K B.ct (off G3.S H3) vs m → postG X.K B Z G3 σ H3 (.val (.lst (cutD m l u)) e3) R → Q (.ref p) (upd H3 p (.lst (cutV vs l u)))) :
    ∃ v, σ[i]? = some (some v) ∧ liftO X.K B Z fl σ H fun l H2 => liftO X.K B Z fh σ H2 fun u H3 => rSlL X.K v l u H3 Q := by
  unfold fSlO at q
  cases h0 : slotL env i with
  | none =>
    rw [h0] at q
    exact q.elim
  | some p0 =>
    obtain ⟨b0, l0⟩ := p0
    rw [h0] at q
    obtain ⟨x, r1, r2, _⟩ := c.own (slotL_own h0)
    refine ⟨_, r2, G, env, c, post_imp (post_bind q) fun l e2 G2 H2 m2 c2 p2 => ⟨G2, e2, c2, post_imp (post_bind p2) fun u e3 G3 H3 m3 c3 p3 => ?_⟩⟩
    cases h3 : slotL e3 i with
    | none =>
      rw [h3] at p3
      exact p3.elim
    | some p4 =>
      obtain ⟨b1, m⟩ := p4
      rw [h3] at p3
      obtain ⟨y, g1, g2, vs, g3, g4⟩ := c3.own (slotL_own h3)
      rw [r2] at g2
      cases g2
      exact ⟨x, vs, rfl, SqL.of g3, fun p hp => k G3 H3 e3 m vs p l u c3 (m2.trans m3) hp g4 p3⟩
theorem de_slO {i : Nat} {x : Str} {xpos : Pos} {lo hi : Option Expr} {fl fh : Ev (Option Int)} {p2 : Pos} (hN : X.N[i]? = some x) (hv : Vis X.env.scope x) (hl : DO X B Z lo fl) (hu : DO X B Z hi fh) (hd : (x == ("__debug__" : Str)) = false := by decide) (hcd : (x == ("__classdict__" : Str)) = false := by decide) :
    DE X B Z (.Subscript (.Name x xpos) (.Slice lo hi none p2) pos) (fSlO i fl fh) :=
  ⟨PE.weak (pe_slice sl_list (pe_var hN hv hd hcd) hl.po hu.po) fun σ H Q ⟨G, env, c, q⟩ => slO_core c q fun G3 H3 e3 m vs p l u c3 mm hp g4 p3 => by
    exact p3 G3 _ (c3.mono (Sb.Same.upd hp)) (c3.same (Sb.Same.upd hp)) _ (new_lst c3.live hp (g4.cut _ _))⟩
theorem dn_slO {i : Nat} {x : Str} {xpos : Pos} {lo hi : Option Expr} {fl fh : Ev (Option Int)} {p2 : Pos} (hN : X.N[i]? = some x) (hv : Vis X.env.scope x) (hl : DO X B Z lo fl) (hu : DO X B Z hi fh) (hd : (x == ("__debug__" : Str)) = false := by decide) (hcd : (x == ("__classdict__" : Str)) = false := by decide) :
    DN X B Z (.Subscript (.Name x xpos) (.Slice lo hi none p2) pos) (fSlO i fl fh) :=
  ⟨PE.weak (pe_slice sl_list (pe_var hN hv hd hcd) hl.po hu.po) fun σ H Q ⟨G, env, c, q⟩ => slO_core c q fun G3 H3 e3 m vs p l u c3 mm hp g4 p3 => put_new c3 hp (undom mm hp) (g4.cut _ _) p3⟩
end
end Vl

set_option Elab.async false
set_option linter.all false
set_option maxRecDepth 100000
set_option maxHeartbeats 2000000
/-! Vn: calls with keywords; owned lists walked. -/
namespace Vl
open PySem PySem.Spec PyProof.Rows L2 Sb
section
variable {X : Cx} {kws : List Keyword}
theorem PK.weak {t t' : TA} (h : PK X kws t) (k : ∀ σ H Q, t' σ H Q → t σ H Q) : PK X kws t' := ⟨fun pos pins s σ H Q I q => h.run pos pins s σ H Q I (k σ H Q q)⟩
end
structure DK (X : Cx) (B : Bs) (Z : ZX) (kws : List Keyword) (f : Ev (List D)) : Prop where
  pk : PK X kws (liftA X.K B Z f)
section
variable {X : Cx} {B : Bs} {Z : ZX} {CX : CXT} {k n : Nat} {fa : Addr} {fd : FuncData} {ps ks : List Str} {E : XK} {x : Str} {p pos kpos : Pos} {e : Expr} {es : List Expr} {kws : List Keyword} {nm : Option Str} {f : Ev D} {fs gs : Ev (List D)} {m : List Bool} {Φ : List D → Res} {g : List Value → List Value → List Value} {gV : List V → List V → List V} {gD : List D → List D → List D}
theorem dk_nil : DK X B Z [] fNil := ⟨PK.weak pk_nil fun σ H Q ⟨G, env, c, p⟩ => p G H Mono.refl c [] .nil⟩
theorem dk_cons (ha : DE X B Z e f) (hr : DK X B Z kws fs) : DK X B Z (⟨nm, e, kpos⟩ :: kws) (fCons f fs) :=
  ⟨PK.weak (pk_cons ha.pe hr.pk) fun σ H Q ⟨G, env, c, p⟩ =>
    ⟨G, env, c, post_imp (post_bind p) fun d e1 G1 H1 m1 c1 p1 v rv => ⟨G1, e1, c1, post_imp (post_bind p1) fun l e2 G2 H2 m2 c2 p2 vs rvs => p2 G2 H2 Mono.refl c2 (v :: vs) (.cons (rv.mono m2.same) rvs)⟩⟩⟩
def fCallK (m : List Bool) (Φ : List D → Res) (n k : Nat) (gD : List D → List D → List D) (fs gs : Ev (List D)) : Ev D := fun env => (fs env).bind fun l e1 => (gs e1).bind fun z e2 =>
  if l.length = n ∧ z.length = k ∧ (gD l z).map (fun _ => false) = m then (match Φ (gD l z) with
    | .ret _ r ns => .val r e2
    | .exc c as ns => .exc c as e2
    | .stuck => .stuck) else .stuck
def fCallKN (m : List Bool) (Φ : List D → Res) (n k : Nat) (gD : List D → List D → List D) (fs gs : Ev (List D)) : Ev D := fun env => (fs env).bind fun l e1 => (gs e1).bind fun z e2 =>
  if l.length = n ∧ z.length = k ∧ (gD l z).map (fun _ => false) = m then (match Φ (gD l z) with
    | .ret true r ns => .val r e2
    | .ret false _ _ => .stuck
    | .exc c as ns => .exc c as e2
    | .stuck => .stuck) else .stuck
theorem run_fnNG {pins : List (Addr × Obj)} {σ : L2.St} {H : Hp} {s : Shared} {Q : VK} {sp : Sp} {us ws : List Value} {vs zs : List V} (F : FnG X.prog X.w X.K X.mg X.base CX k fa fd ps sp) (hgd : X.A.guards = some []) (hr : Room k X.A) (hb : KBn X.K fd ps n ks g gV) (hx : Passes CX X E)
    (I : Inv X pins σ H s) (r : Vals vs us) (rz : Vals zs ws) (l1 : vs.length = n) (l2 : zs.length = ks.length) (h : sp (gV vs zs) H Q E) : wpAny (model X.prog X.w) X.A (call (.ref fa) us (ks.zip ws)) (EP X pins σ Q) X.xe s := by
  have r2 := hb.rel r rz
  refine wpAny_call (codeAny_mono (F.go X.A X.stack s H ⟨us, ks.zip ws⟩ (g us ws) (gV vs zs) Q E hgd hr I.env0 (hb.to s us ws I.kIn (r.length.symm.trans l1) (rz.length.symm.trans l2)) r2 h) fun r s' hq => ?_)
  match r, hq with
  | .error e, hq => exact hx pins σ H s e s' I hq
  | .ok (.ret u), hq => exact I.after hq
  | .ok .next, hq => exact False.elim hq
  | .ok .brk, hq => exact False.elim hq
  | .ok .cont, hq => exact False.elim hq
theorem pe_callNG {sp : Sp} {t tk : TA} (F : FnG X.prog X.w X.K X.mg X.base CX k fa fd ps sp) (hgd : X.A.guards = some []) (hr : Room k X.A) (hg : Gl X x) (hm : X.mg x = some (.ref fa)) (hk : PySem.W.keepIn X.K (.ref fa) = true) (hb : KBn X.K fd ps n ks g gV) (hx : Passes CX X E)
    (ha : PA X (e :: es) t) (hkw : PK X kws tk) (hall : (backToKw pos (keywordEach kws X.env)).all (·.1.isSome) = true := by rfl) (hks : (backToKw pos (keywordEach kws X.env)).filterMap (·.1) = ks := by rfl)
    (hdb : (x == ("__debug__" : Str)) = false := by decide) (he : starEach (e :: es) X.env = (false, eval e X.env) :: starEach es X.env := by rfl)
    (hpl : ((backTo pos (starEach (e :: es) X.env)).any (·.1) || (backToKw pos (keywordEach kws X.env)).any (·.1.isNone)) = false := by rfl) :
    PE X (.Call (.Name x p) (e :: es) kws pos) (tCallN n ks.length sp gV E t tk) := by
  refine ⟨fun pins s σ H Q I h => ?_⟩
  refine wpAny_Call_Name_kw (ld_glob I hg hm ?_ hdb)
  refine PySem.W.callWith_KW (h₀ := X.base) I.ok.mod.kin hk hall (thn (ha.run pos pins s σ H _ I h) fun us s1 ⟨vs, H1, I1, r, q⟩ => ?_) hpl he
  refine thn (hkw.run pos pins s1 σ H1 _ I1 q) fun ws s2 ⟨zs, H2, I2, rz, l1, l2, q2⟩ => ⟨I2.kIn, ?_⟩
  rw [hks]
  exact run_fnNG F hgd hr hb hx I2 r rz l1 l2 q2
theorem argsK {G : Gh} {env : List Slot} {σ : L2.St} {H : Hp} {vs : List V} {ds : List D} (c : Cfg X.K B G env σ H) (hm : ds.map (fun _ => false) = m) (rd : Rps X.K B.ct (off G.S H) vs ds) : ArgsOk X.K B.ct G.S (iaOf G []) m vs ds H := by
  have := args_of (l := []) (ds := []) (dd := ds) (vs := []) (dvs := vs) (m := m) c .nil rfl (by simpa using hm) (by simp [ioSlots]) rd
  simpa using this
theorem lift_callK (hZ : ∀ c as env G σ H dd C nm, B.ct c = some (C, nm) → Z c as env G σ H dd → E (.ref C) (some dd) H) (hgv : ∀ F vs l zs z, Rps X.K B.ct F vs l → Rps X.K B.ct F zs z → Rps X.K B.ct F (gV vs zs) (gD l z)) (σ : L2.St) (H : Hp) (Q : VK) (h : liftE X.K B Z (fCallK m Φ n ks.length gD fs gs) σ H Q) :
    tCallN n ks.length (spV X.K B.ct m Φ) gV E (liftA X.K B Z fs) (liftA X.K B Z gs) σ H Q := by
  obtain ⟨G, env, c, q⟩ := h
  refine ⟨G, env, c, post_imp (post_bind q) fun l e1 G1 H1 m1 c1 p1 vs rvs => ⟨G1, e1, c1, post_imp (post_bind p1) fun z e2 G2 H2 m2 c2 p2 zs rzs => ?_⟩⟩
  by_cases hc : l.length = n ∧ z.length = ks.length ∧ (gD l z).map (fun _ => false) = m
  · rw [if_pos hc] at p2
    refine ⟨rvs.len.trans hc.1, rzs.len.trans hc.2.1, G2.S, iaOf G2 [], gD l z, argsK c2 hc.2.2 (hgv _ _ _ _ _ (rvs.mono m2.same) rzs), ?_⟩
    cases hr : Φ (gD l z) with
    | stuck =>
      rw [hr] at p2
      exact p2.elim
    | ret nw r ns =>
      rw [hr] at p2
      cases nw with
      | false =>
        intro v H' fr rv
        obtain ⟨mm, c'⟩ := after_call (l := []) (ds := []) c2 rfl (by simp [ioSlots]) fr
        exact p2 G2 H' mm c' v rv
      | true =>
        intro a H' ha fr ho
        obtain ⟨mm, c'⟩ := after_call (l := []) (ds := []) c2 rfl (by simp [ioSlots]) fr.bare
        exact p2 G2 H' mm c' _ ((ho.mono rfl off_more).rp (off_at (c2.unS ha)))
    | exc cc as ns =>
      rw [hr] at p2
      intro H' dd' C nm fr xa hC
      obtain ⟨mm, c'⟩ := after_call (l := []) (ds := []) c2 rfl (by simp [ioSlots]) fr
      exact hZ _ _ _ _ _ _ _ _ _ hC (p2 G2 H' dd' mm c' xa)
  · rw [if_neg hc] at p2
    exact p2.elim
theorem lift_callKN (hZ : ∀ c as env G σ H dd C nm, B.ct c = some (C, nm) → Z c as env G σ H dd → E (.ref C) (some dd) H) (hgv : ∀ F vs l zs z, Rps X.K B.ct F vs l → Rps X.K B.ct F zs z → Rps X.K B.ct F (gV vs zs) (gD l z)) (σ : L2.St) (H : Hp) (Q : VK) (h : liftN X.K B Z (fCallKN m Φ n ks.length gD fs gs) σ H Q) :
    tCallN n ks.length (spV X.K B.ct m Φ) gV E (liftA X.K B Z fs) (liftA X.K B Z gs) σ H Q := by
  obtain ⟨G, env, c, q⟩ := h
  refine ⟨G, env, c, post_imp (post_bind q) fun l e1 G1 H1 m1 c1 p1 vs rvs => ⟨G1, e1, c1, post_imp (post_bind p1) fun z e2 G2 H2 m2 c2 p2 zs rzs => ?_⟩⟩
  by_cases hc : l.length = n ∧ z.length = ks.length ∧ (gD l z).map (fun _ => false) = m
  · rw [if_pos hc] at p2
    refine ⟨rvs.len.trans hc.1, rzs.len.trans hc.2.1, G2.S, iaOf G2 [], gD l z, argsK c2 hc.2.2 (hgv _ _ _ _ _ (rvs.mono m2.same) rzs), ?_⟩
    cases hr : Φ (gD l z) with
    | stuck =>
      rw [hr] at p2
      exact p2.elim
    | ret nw r ns =>
      rw [hr] at p2
      cases nw with
      | false => exact p2.elim
      | true =>
        intro a H' ha fr ho
        obtain ⟨mm, c'⟩ := after_callN (l := []) (ds := []) c2 rfl (by simp [ioSlots]) ha ho.some fr
        exact p2 (G2.hide a) H' mm c' a (undom m1 (undom m2 ha)) (.inr rfl) (fun i z => c2.unS ha (c2.hid i a z)) ho
    | exc cc as ns =>
      rw [hr] at p2
      intro H' dd' C nm fr xa hC
      obtain ⟨mm, c'⟩ := after_call (l := []) (ds := []) c2 rfl (by simp [ioSlots]) fr
      exact hZ _ _ _ _ _ _ _ _ _ hC (p2 G2 H' dd' mm c' xa)
  · rw [if_neg hc] at p2
    exact p2.elim
theorem de_callK {kk : Nat} (F : FnG X.prog X.w X.K X.mg X.base CX k fa fd ps (spV X.K B.ct m Φ)) (hgd : X.A.guards = some []) (hr : Room k X.A) (hg : Gl X x) (hm : X.mg x = some (.ref fa)) (hk : PySem.W.keepIn X.K (.ref fa) = true) (hb : KBn X.K fd ps n ks g gV) (hgv : ∀ F vs l zs z, Rps X.K B.ct F vs l → Rps X.K B.ct F zs z → Rps X.K B.ct F (gV vs zs) (gD l z)) (hx : Passes CX X E)
    (hZ : ∀ c as env G σ H dd C nm, B.ct c = some (C, nm) → Z c as env G σ H dd → E (.ref C) (some dd) H) (ha : DA X B Z (e :: es) fs) (hkw : DK X B Z kws gs) (hall : (backToKw pos (keywordEach kws X.env)).all (·.1.isSome) = true := by rfl) (hks : (backToKw pos (keywordEach kws X.env)).filterMap (·.1) = ks := by rfl)
    (hkk : ks.length = kk := by rfl) (hdb : (x == ("__debug__" : Str)) = false := by decide) (he : starEach (e :: es) X.env = (false, eval e X.env) :: starEach es X.env := by rfl)
    (hpl : ((backTo pos (starEach (e :: es) X.env)).any (·.1) || (backToKw pos (keywordEach kws X.env)).any (·.1.isNone)) = false := by rfl) : DE X B Z (.Call (.Name x p) (e :: es) kws pos) (fCallK m Φ n kk gD fs gs) := by
  subst hkk
  exact ⟨PE.weak (pe_callNG F hgd hr hg hm hk hb hx ha.pa hkw.pk hall hks hdb he hpl) (lift_callK hZ hgv)⟩
theorem dn_callK {kk : Nat} (F : FnG X.prog X.w X.K X.mg X.base CX k fa fd ps (spV X.K B.ct m Φ)) (hgd : X.A.guards = some []) (hr : Room k X.A) (hg : Gl X x) (hm : X.mg x = some (.ref fa)) (hk : PySem.W.keepIn X.K (.ref fa) = true) (hb : KBn X.K fd ps n ks g gV) (hgv : ∀ F vs l zs z, Rps X.K B.ct F vs l → Rps X.K B.ct F zs z → Rps X.K B.ct F (gV vs zs) (gD l z)) (hx : Passes CX X E)
    (hZ : ∀ c as env G σ H dd C nm, B.ct c = some (C, nm) → Z c as env G σ H dd → E (.ref C) (some dd) H) (ha : DA X B Z (e :: es) fs) (hkw : DK X B Z kws gs) (hall : (backToKw pos (keywordEach kws X.env)).all (·.1.isSome) = true := by rfl) (hks : (backToKw pos (keywordEach kws X.env)).filterMap (·.1) = ks := by rfl)
    (hkk : ks.length = kk := by rfl) (hdb : (x == ("__debug__" : Str)) = false := by decide) (he : starEach (e :: es) X.env = (false, eval e X.env) :: starEach es X.env := by rfl)
    (hpl : ((backTo pos (starEach (e :: es) X.env)).any (·.1) || (backToKw pos (keywordEach kws X.env)).any (·.1.isNone)) = false := by rfl) : DN X B Z (.Call (.Name x p) (e :: es) kws pos) (fCallKN m Φ n kk gD fs gs) := by
  subst hkk
  exact ⟨PE.weak (pe_callNG F hgd hr hg hm hk hb hx ha.pa hkw.pk hall hks hdb he hpl) (lift_callKN hZ hgv)⟩
end
end Vl

set_option Elab.async false
set_option linter.all false
set_option maxRecDepth 100000
set_option maxHeartbeats 2000000
/-! Vo: owned lists walked in comprehensions. -/
namespace Vl
open PySem PySem.Spec PyProof.Rows L2 Sb
/-- the list at slot i is walked where it stands -/
def compO (i : Nat) (p : Pat) (ft : Ev Bool) (fe : Ev D) (vs : List Nat) : Nat → Nat → List D → Ev (List D)
  | 0, k, acc, env => match slotL (wipeE env vs) i with
    | some (_, l) => if l.length ≤ k then .val acc env else .stuck
    | none => .stuck
  | n + 1, k, acc, env => match slotL (wipeE env vs) i with
    | some (_, l) => (match l[k]? with
      | none => .val acc env
      | some d => match p.put d (wipeE env vs) with
        | none => .stuck
        | some e1 => (ft e1).bind fun b e2 => if b = true then (fe e2).bind fun y e3 => if acc.length < sizeLine then compO i p ft fe vs n (k + 1) (acc ++ [y]) e3 else .stuck
          else compO i p ft fe vs n (k + 1) acc e2)
    | none => .stuck
def fCompO (i : Nat) (p : Pat) (ft : Ev Bool) (fe : Ev D) (vs : List Nat) : Ev D := fun env => match slotL env i with
  | some (_, l) => if calmE env vs then (match compO i p ft fe vs l.length 0 [] env with
    | .val acc e2 => .val (.lst acc) (backE env e2 vs)
    | _ => .stuck) else .stuck
  | none => .stuck
theorem set_un_slot {env : List Slot} {v i : Nat} {b : Bool} {l : List D} (h : slotL (env.set v .un) i = some (b, l)) : v ≠ i ∧ slotL env i = some (b, l) := by
  unfold slotL at h ⊢
  by_cases e : v = i
  · subst e
    by_cases hl : v < env.length
    · rw [List.getElem?_set_self hl] at h
      cases h
    · rw [List.getElem?_eq_none (by simpa using hl)] at h
      cases h
  · rw [List.getElem?_set_ne e] at h
    exact ⟨e, h⟩
theorem wipe_slot {env : List Slot} {i : Nat} {b : Bool} {l : List D} : ∀ {vs : List Nat}, slotL (wipeE env vs) i = some (b, l) → i ∉ vs
  | [], _ => by simp
  | v :: vs, h => by
    obtain ⟨h1, h2⟩ := set_un_slot (env := wipeE env vs) h
    intro z
    rcases List.mem_cons.mp z with z | z
    · exact h1 z.symm
    · exact wipe_slot h2 z
section
variable {X : Cx} {B : Bs} {Z Zb : ZX} {elt tg : Expr} {pos : Pos} {fe : Ev D} {ft : Ev Bool} {p : Pat} {i0 : Nat} {x : Str}
def iOwn (K : PySem.W.Frag) (i : Nat) : TI := fun σ H R => ∃ a, σ[i]? = some (some (.ref a)) ∧ (∃ vs, SqL K H a vs) ∧ R (Itl K a) H
theorem pi_own (xpos : Pos) (hN : X.N[i0]? = some x) (hv : Vis X.env.scope x) (hd : (x == ("__debug__" : Str)) = false := by decide) (hcd : (x == ("__classdict__" : Str)) = false := by decide) : PI X tg (.Name x xpos) (iOwn X.K i0) :=
  PI.weak (pi_list (pe_var hN hv hd hcd)) fun σ H R ⟨a, h1, h2, h3⟩ => ⟨_, h1, a, rfl, h2, h3⟩
theorem lc_ON {vs : List Nat} {G1 : Gh} {H1 : Hp} {e1 eF : List Slot} {σ : L2.St} {acF : List D} {n : Nat} {a : Addr} {Q : VK} (hw : p.wi vs = true) (ha : σ[i0]? = some (some (.ref a))) (c1 : Cfg X.K B G1 e1 σ H1) (calm : calmE e1 vs = true) (q : compO i0 p ft fe vs n 0 [] e1 = .val acF eF)
    (hq : ∀ G' H' L, H1 L = none → Mono G1 H1 G' H' → Cfg X.K B G' (backE e1 eF vs) σ H' → G'.S L → (∀ i, G'.r i ≠ some L) → OwnAt X.K B.ct H' (off G'.S H') L (.lst acF) → Q (.ref L) H') : ∀ L, H1 L = none → ∃ W : Nat → Nat → Hp → Prop, (∃ m, W 0 m (upd H1 L (.lst []))) ∧ ∀ i m H, W i m H →
      ((Itl X.K a).stop i H ∧ Q (.ref L) H) ∨ ((Itl X.K a).go i H ∧ ∃ Nx : Hp → Prop, (∀ H', Nx H' → ∃ m', m' < m ∧ W (i + 1) m' H') ∧ ∀ x H', (Itl X.K a).yld i H x H' → liftG X.K B p x (L2.wipe σ vs) H' fun σ2 H2 => L2.wipe σ2 vs = L2.wipe σ vs ∧ liftT X.K B Zb ft σ2 H2 fun b H3 =>
        if b = true then liftE X.K B Zb fe σ2 H3 fun y H4 => ∃ acc, H4 L = some (.lst acc) ∧ acc.length < sizeLine ∧ Nx (upd H4 L (.lst (acc ++ [y]))) else Nx H3) := by
  intro L hL
  have nS1 : ¬ G1.S L := fun z => c1.live L z hL
  let W : Nat → Nat → Hp → Prop := fun i m H => ∃ G env acV acc, Cfg X.K B G (wipeE env vs) (L2.wipe σ vs) H ∧ Mono G1 H1 G H ∧ G.S L ∧ (∀ i, G.r i ≠ some L) ∧ H L = some (.lst acV) ∧ Rps X.K B.ct (off G.S H) acV acc ∧ compO i0 p ft fe vs m i acc env = .val acF eF
  refine ⟨W, ⟨n, G1.hide L, e1, [], [], ((c1.wipe vs).hide hL), Mono.hide hL c1.live, .inr rfl, fun i z => nS1 (c1.hid i L z), upd_same, .nil, q⟩, ?_⟩
  rintro i m H ⟨G, env, acV, acc, c, mm, hS, hR, hLH, rac, hc⟩
  -- the list as it stands
  have cur : ∀ {b : Bool} {l : List D}, slotL (wipeE env vs) i0 = some (b, l) → ∃ ws, H a = some (.lst ws) ∧ Rps X.K B.ct (off G.S H) ws l := fun {b l} h0 => by
    obtain ⟨a', g1, g2, ws, g3, g4⟩ := c.own (slotL_own h0)
    rw [wipe_out (wipe_slot h0), ha] at g2
    cases g2
    exact ⟨ws, g3, g4⟩
  have fin : ∀ {b : Bool} {l : List D}, slotL (wipeE env vs) i0 = some (b, l) → l.length ≤ i → acc = acF → env = eF → (Itl X.K a).stop i H ∧ Q (.ref L) H := fun {b l} h0 hl ea ee => by
    obtain ⟨ws, g3, g4⟩ := cur h0
    subst ea ee
    exact ⟨⟨ws, SqL.of g3, by rw [g4.len]; exact hl⟩, hq G H L hL mm (Cfg.back c1 calm c mm) hS hR ⟨acV, hLH, rac⟩⟩
  cases m with
  | zero =>
    unfold compO at hc
    cases h0 : slotL (wipeE env vs) i0 with
    | none =>
      rw [h0] at hc
      cases hc
    | some p0 =>
      obtain ⟨b0, l⟩ := p0
      rw [h0] at hc
      simp only [] at hc
      by_cases hl : l.length ≤ i
      · rw [if_pos hl] at hc
        cases hc
        exact .inl (fin h0 hl rfl rfl)
      · rw [if_neg hl] at hc
        cases hc
  | succ m =>
    unfold compO at hc
    cases h0 : slotL (wipeE env vs) i0 with
    | none =>
      rw [h0] at hc
      cases hc
    | some p0 =>
      obtain ⟨b0, l⟩ := p0
      rw [h0] at hc
      simp only [] at hc
      cases hd : l[i]? with
      | none =>
        rw [hd] at hc
        cases hc
        exact .inl (fin h0 (List.getElem?_eq_none_iff.mp hd) rfl rfl)
      | some d =>
        rw [hd] at hc
        simp only [] at hc
        obtain ⟨ws, g3, g4⟩ := cur h0
        obtain ⟨v, ev, rd⟩ := g4.get' hd
        refine .inr ⟨⟨ws, v, SqL.of g3, ev⟩, W (i + 1) m, fun H' h => ⟨m, Nat.lt_succ_self _, h⟩, fun x H'' y => ?_⟩
        obtain ⟨rfl, y⟩ := y
        have y := y ws (SqL.of g3)
        rw [ev] at y
        cases y
        cases hp : p.put d (wipeE env vs) with
        | none =>
          rw [hp] at hc
          cases hc
        | some e2 =>
          rw [hp] at hc
          obtain ⟨b, e3, hft, hc⟩ := Out.bind_val hc
          refine ⟨G, wipeE env vs, d, e2, c, rd, hp, fun σ2 c2 w2 => ⟨by rw [w2 vs hw, wipe_idem], G, e2, c2, ?_⟩⟩
          rw [hft]
          intro G3 H3 m3 c3
          have w3 : L2.wipe σ2 vs = L2.wipe σ vs := by rw [w2 vs hw, wipe_idem]
          obtain ⟨t1, t2, t3⟩ := m3.tmp L hS hR
          cases b with
          | false =>
            rw [if_neg Bool.false_ne_true] at hc
            refine iteF ⟨G3, e3, acV, acc, ?_, mm.trans m3, t1, t2, t3.trans hLH, rac.mono m3.same, hc⟩
            rw [← w3]
            exact c3.wipe vs
          | true =>
            rw [if_pos rfl] at hc
            obtain ⟨yd, e4, hfe, hc⟩ := Out.bind_val hc
            refine iteT ⟨G3, e3, c3, ?_⟩
            rw [hfe]
            intro G4 H4 m4 c4 v rv
            obtain ⟨u1, u2, u3⟩ := m4.tmp L t1 t2
            have hL4 : H4 L = some (.lst acV) := u3.trans (t3.trans hLH)
            have rac4 := (rac.mono m3.same).mono m4.same
            by_cases hl : acc.length < sizeLine
            · rw [if_pos hl] at hc
              have keep : Same (off G4.S H4) (off G4.S (upd H4 L (.lst (acV ++ [v])))) := fun c u e => by
                obtain ⟨n, e⟩ := off_inv e
                rw [off_at n, upd_ne fun z => n (by rw [z]; exact u1)]
                exact e
              refine ⟨acV, hL4, by rw [rac4.len]; exact hl, G4, e4, acV ++ [v], acc ++ [yd], ?_, ((mm.trans m3).trans m4).tmpUpd u1 nS1, u1, u2, upd_same, (rac4.app (.one rv)).mono keep, hc⟩
              rw [← w3]
              exact (c4.wipe vs).tmpUpd u1 u2
            · rw [if_neg hl] at hc
              cases hc
theorem lift_co {vs : List Nat} (hw : p.wi vs = true) (σ : L2.St) (H : Hp) (Q : VK) (h : liftE X.K B Z (fCompO i0 p ft fe vs) σ H Q) : tLc (iOwn X.K i0) (liftG X.K B p) (liftT X.K B Zb ft) (liftE X.K B Zb fe) vs σ H Q := by
  obtain ⟨G, env, c, q⟩ := h
  unfold fCompO at q
  cases h0 : slotL env i0 with
  | none =>
    rw [h0] at q
    exact q.elim
  | some p0 =>
    obtain ⟨b0, l⟩ := p0
    rw [h0] at q
    simp only [] at q
    obtain ⟨a, g1, g2, ws, g3, g4⟩ := c.own (slotL_own h0)
    refine ⟨a, g2, ⟨ws, SqL.of g3⟩, ?_⟩
    by_cases calm : calmE env vs = true
    · rw [if_pos calm] at q
      cases hc : compO i0 p ft fe vs l.length 0 [] env with
      | val acF eF =>
        rw [hc] at q
        refine lc_ON hw g2 c calm hc fun G' H' L hL mm c' hS hR ho => ?_
        have nS1 : ¬ G.S L := fun z => c.live L z hL
        obtain ⟨vs', h1, h2⟩ := ho
        exact q (G'.show L) H' (mm.show nS1) (c'.show hR) _ (.lst (by rw [off_at (show ¬ (G'.S L ∧ L ≠ L) from fun z => z.2 rfl)]; exact h1) (h2.mono off_show))
      | stuck =>
        rw [hc] at q
        exact q.elim
      | exc cc as e2 =>
        rw [hc] at q
        exact q.elim
    · rw [if_neg calm] at q
      exact q.elim
theorem lift_coN {vs : List Nat} (hw : p.wi vs = true) (σ : L2.St) (H : Hp) (Q : VK) (h : liftN X.K B Z (fCompO i0 p ft fe vs) σ H Q) : tLc (iOwn X.K i0) (liftG X.K B p) (liftT X.K B Zb ft) (liftE X.K B Zb fe) vs σ H Q := by
  obtain ⟨G, env, c, q⟩ := h
  unfold fCompO at q
  cases h0 : slotL env i0 with
  | none =>
    rw [h0] at q
    exact q.elim
  | some p0 =>
    obtain ⟨b0, l⟩ := p0
    rw [h0] at q
    simp only [] at q
    obtain ⟨a, g1, g2, ws, g3, g4⟩ := c.own (slotL_own h0)
    refine ⟨a, g2, ⟨ws, SqL.of g3⟩, ?_⟩
    by_cases calm : calmE env vs = true
    · rw [if_pos calm] at q
      cases hc : compO i0 p ft fe vs l.length 0 [] env with
      | val acF eF =>
        rw [hc] at q
        exact lc_ON hw g2 c calm hc fun G' H' L hL mm c' hS hR ho => q G' H' mm c' L hL hS hR ho
      | stuck =>
        rw [hc] at q
        exact q.elim
      | exc cc as e2 =>
        rw [hc] at q
        exact q.elim
    · rw [if_neg calm] at q
      exact q.elim
theorem de_compO {ifs : List Expr} {scope : Scope} {own : List (Str × Nat)} {xpos : Pos} (hc : X.calm = true) (hN : X.N.Nodup) (hi : PI X tg (.Name x xpos) (iOwn X.K i0)) (ok : BlkOk X.N X.env.scope scope own) (hw : p.wi (own.map (·.2)) = true)
    (hg : ∀ (s : Shared) (H : Hp) (C : Addr) (cl : List (Str × Addr)) (fp : List Addr), DG (X.blk s H scope (compEnvC scope cl C X.env) fp) B tg p) (ht : ∀ (s : Shared) (H : Hp) (C : Addr) (cl : List (Str × Addr)) (fp : List Addr), DTs (X.blk s H scope (compEnvC scope cl C X.env) fp) B Zb ifs ft)
    (he : ∀ (s : Shared) (H : Hp) (C : Addr) (cl : List (Str × Addr)) (fp : List Addr), DE (X.blk s H scope (compEnvC scope cl C X.env) fp) B Zb elt fe) (hs : ∀ y, foldedSetIterable (.Name x xpos) X.env y = pure y := by intro _; rfl) :
    DE X B Z (.ListComp elt [⟨tg, .Name x xpos, ifs, 0⟩] scope pos) (fCompO i0 p ft fe (own.map (·.2))) :=
  ⟨PE.weak (pe_lc hc hN hi ok (fun s H C cl fp => (hg s H C cl fp).pg) (fun s H C cl fp => (ht s H C cl fp).pts) (fun s H C cl fp => (he s H C cl fp).pe) hs) (lift_co hw)⟩
theorem dn_compO {ifs : List Expr} {scope : Scope} {own : List (Str × Nat)} {xpos : Pos} (hc : X.calm = true) (hN : X.N.Nodup) (hi : PI X tg (.Name x xpos) (iOwn X.K i0)) (ok : BlkOk X.N X.env.scope scope own) (hw : p.wi (own.map (·.2)) = true)
    (hg : ∀ (s : Shared) (H : Hp) (C : Addr) (cl : List (Str × Addr)) (fp : List Addr), DG (X.blk s H scope (compEnvC scope cl C X.env) fp) B tg p) (ht : ∀ (s : Shared) (H : Hp) (C : Addr) (cl : List (Str × Addr)) (fp : List Addr), DTs (X.blk s H scope (compEnvC scope cl C X.env) fp) B Zb ifs ft)
    (he : ∀ (s : Shared) (H : Hp) (C : Addr) (cl : List (Str × Addr)) (fp : List Addr), DE (X.blk s H scope (compEnvC scope cl C X.env) fp) B Zb elt fe) (hs : ∀ y, foldedSetIterable (.Name x xpos) X.env y = pure y := by intro _; rfl) :
    DN X B Z (.ListComp elt [⟨tg, .Name x xpos, ifs, 0⟩] scope pos) (fCompO i0 p ft fe (own.map (·.2))) :=
  ⟨PE.weak (pe_lc hc hN hi ok (fun s H C cl fp => (hg s H C cl fp).pg) (fun s H C cl fp => (ht s H C cl fp).pts) (fun s H C cl fp => (he s H C cl fp).pe) hs) (lift_coN hw)⟩
theorem ds_compO {i : Nat} {y : Str} {py spos xpos : Pos} {ifs : List Expr} {scope : Scope} {own : List (Str × Nat)} (hc : X.calm = true) (hN : X.N.Nodup) (hy : X.N[i]? = some y) (hyl : X.env.scope.names.lookup y = some .local)
    (hsw : swapsWith (.ListComp elt [⟨tg, .Name x xpos, ifs, 0⟩] scope pos) (some (.Name y py)) spos.line X.env = pure true) (hi : PI X tg (.Name x xpos) (iOwn X.K i0)) (ok : BlkOk X.N X.env.scope scope own) (hw : p.wi (own.map (·.2)) = true)
    (hg : ∀ (s : Shared) (H : Hp) (C : Addr) (cl : List (Str × Addr)) (fp : List Addr), DG (X.blk s H scope (compEnvC scope cl C X.env) fp) B tg p) (ht : ∀ (s : Shared) (H : Hp) (C : Addr) (cl : List (Str × Addr)) (fp : List Addr), DTs (X.blk s H scope (compEnvC scope cl C X.env) fp) B Zb ifs ft)
    (he : ∀ (s : Shared) (H : Hp) (C : Addr) (cl : List (Str × Addr)) (fp : List Addr), DE (X.blk s H scope (compEnvC scope cl C X.env) fp) B Zb elt fe) (hs : ∀ z, foldedSetIterable (.Name x xpos) X.env z = pure z := by intro _; rfl) :
    DS X B Z (.Assign [.Name y py] (.ListComp elt [⟨tg, .Name x xpos, ifs, 0⟩] scope pos) spos) (fAsg (.nm i) (fCompO i0 p ft fe (own.map (·.2)))) :=
  ⟨PS.weak (ps_setLc hc hN hy hyl hsw hi ok (fun s H C cl fp => (hg s H C cl fp).pg) (fun s H C cl fp => (ht s H C cl fp).pts) (fun s H C cl fp => (he s H C cl fp).pe) hs) fun E σ H h => by
    obtain ⟨G, env, c, q⟩ := h
    refine lift_co (Z := Z) (Zb := Zb) hw σ H _ ⟨G, env, c, post_imp (exprS q) fun d e1 G1 H1 m1 c1 p1 v rv => ?_⟩
    simp only [Pat.put] at p1
    exact p1 G1 _ H1 Mono.refl (c1.put rv)⟩
end
end Vl

set_option Elab.async false
set_option linter.all false
set_option maxRecDepth 100000
set_option maxHeartbeats 2000000
/-! Vm: the meaning of code, worked out. -/
namespace Vl
open PySem L2 Sb
section
variable {α : Type} (l : List α) (a b c d e x y z u v w : α)
theorem atI_0 : atI l 0 = l[0]? := by
  cases l with
  | nil => rfl
  | cons a l => exact atI_nat (j := 0) rfl
theorem atI_ge (k : Nat) (i : Int) (h : i = (k : Int)) : atI l i = l[k]? := by
  subst h
  by_cases e : k < l.length
  · exact (atI_nat (by rw [List.getElem?_eq_getElem e])).trans (by rw [List.getElem?_eq_getElem e])
  · rw [List.getElem?_eq_none (by omega)]
    unfold atI ixN
    rw [if_pos (by omega), if_neg (by omega)]
    rfl
theorem atI_1 : atI l 1 = l[1]? := atI_ge l 1 1 rfl
theorem atI_2 : atI l 2 = l[2]? := atI_ge l 2 2 rfl
theorem atI_3 : atI l 3 = l[3]? := atI_ge l 3 3 rfl
theorem atI_4 : atI l 4 = l[4]? := atI_ge l 4 4 rfl
theorem ixN_ge (n k : Nat) (i : Int) (h : i = (k : Int)) (hk : k < n) : ixN n i = some k := by
  subst h
  unfold ixN
  rw [if_pos (by omega), if_pos (by omega)]
  simp
theorem ixN_0 (n : Nat) : ixN (n + 1) 0 = some 0 := ixN_ge _ 0 0 rfl (by omega)
theorem ixN_1 (n : Nat) : ixN (n + 2) 1 = some 1 := ixN_ge _ 1 1 rfl (by omega)
theorem ixN_2 (n : Nat) : ixN (n + 3) 2 = some 2 := ixN_ge _ 2 2 rfl (by omega)
end
end Vl

set_option Elab.async false
set_option linter.all false
set_option maxRecDepth 100000
set_option maxHeartbeats 2000000
/-! Vp: defs with defaults. -/
namespace Vl
open PySem PySem.Spec PyProof.Rows L2 Sb
structure Vy (P : Program) (w : World) (K : PySem.W.Frag) (mg : Str → Option Value) (base : Heap) (k : Nat) (x : Str) (f : Addr) (fd : FuncData) (ps : List Str) (ct : Ct) (m : List Bool) (Φ : List D → Res) : Prop where
  ok : FnG P w K mg base CX0 k f fd ps (spV K ct m Φ)
  mg : mg x = some (.ref f)
  kp : PySem.W.keepIn K (.ref f) = true
/-- a call without keywords: the defaults behind -/
def Bd (K : PySem.W.Frag) (fd : FuncData) (ps : List Str) (dvs : List V) : Prop := ∃ ds, Vals dvs ds ∧ Binds K fd ps ds
/-- a call with keywords -/
def KB (K : PySem.W.Frag) (fd : FuncData) (ps : List Str) (n : Nat) (ks : List Str) (gV : List V → List V → List V) : Prop := ∃ g, KBn K fd ps n ks g gV
end Vl

set_option Elab.async false
set_option linter.all false
set_option maxRecDepth 100000
set_option maxHeartbeats 2000000
/-! Vq: helpers to work meanings out: bags. -/
namespace Vl
open PySem L2 Sb
theorem cMulR {i j : Int} (h : -(2 ^ 60) < j ∧ j < 2 ^ 60) : cMul i j = true := by
  unfold cMul
  have e : (2 : Nat) ^ 60 = 1152921504606846976 := by decide
  have e2 : (2 : Int) ^ 60 = 1152921504606846976 := by decide
  rw [e2] at h
  rw [Bool.or_eq_true, decide_eq_true_eq, decide_eq_true_eq, e]
  exact .inr (by omega)
theorem cMulL {i j : Int} (h : -(2 ^ 60) < i ∧ i < 2 ^ 60) : cMul i j = true := by
  unfold cMul
  have e : (2 : Nat) ^ 60 = 1152921504606846976 := by decide
  have e2 : (2 : Int) ^ 60 = 1152921504606846976 := by decide
  rw [e2] at h
  rw [Bool.or_eq_true, decide_eq_true_eq, decide_eq_true_eq, e]
  exact .inl (by omega)
theorem powOk {i j : Int} (k : Nat) (h : -(2 ^ k) < i ∧ i < 2 ^ k) (h0 : 0 ≤ j) (hj : (k : Int) * j ≤ 2 ^ 27) : (decide (0 ≤ j) && decide ((Builtin.Int.intBits i : Int) * j ≤ 2 ^ 27)) = true := by
  have hn : i.natAbs < 2 ^ k := by
    have e : ((2 ^ k : Nat) : Int) = 2 ^ k := by norm_cast
    have : ((i.natAbs : Nat) : Int) < ((2 ^ k : Nat) : Int) := by
      rw [e]
      omega
    exact_mod_cast this
  have := pow_fits (i := i) (j := j) hn h0 hj
  rw [Bool.and_eq_true, decide_eq_true_eq, decide_eq_true_eq]
  exact this
theorem divOk {j : Int} (h0 : 0 < j) (h1 : j < 1073741824) : (decide (0 < j) && decide (j < 1073741824)) = true := by
  rw [Bool.and_eq_true, decide_eq_true_eq, decide_eq_true_eq]
  exact ⟨h0, h1⟩
/-- a source of numbers: what is left of the digits, the mixed number, how often -/
def BagL (k : Int) (d : D) : Prop := ∃ g m c : Int, d = .lst [.int g, .int m, .int c] ∧ 0 ≤ g ∧ 0 ≤ m ∧ m < 2147483648 ∧ 0 ≤ c ∧ c ≤ k
theorem BagL.more {k k' : Int} {d : D} (h : BagL k d) (hk : k ≤ k') : BagL k' d := by
  obtain ⟨g, m, c, e, h1, h2, h3, h4, h5⟩ := h
  exact ⟨g, m, c, e, h1, h2, h3, h4, by omega⟩
/-- what a def that draws comes to -/
def TakeOk (Φ : List D → Res) : Prop := ∀ (k n : Int) (d : D), BagL k d → k < 1000000 → 0 < n → n < 1073741824 → ∃ r d', Φ [d, .int n] = .ret false (.int r) [d', .non] ∧ BagL (k + 1) d' ∧ 0 ≤ r ∧ r < n
/-- a loop that keeps something -/
theorem loop_ok {p : Pat} {s : Ev Fl} {ds : List D} (I : Nat → List Slot → Prop) (h : ∀ i d env, ds[i]? = some d → I i env → ∃ e1 e2, p.put d env = some e1 ∧ (s e1 = .val .nx e2 ∨ s e1 = .val .ct e2) ∧ I (i + 1) e2) {env : List Slot} (h0 : I 0 env) : ∃ env', loopF p s ds env = .val .nx env' ∧ I ds.length env' := by
  have key : ∀ (rest : List D) (k : Nat) (env : List Slot), ds.drop k = rest → I k env → ∃ env', loopF p s rest env = .val .nx env' ∧ I (k + rest.length) env' := by
    intro rest
    induction rest with
    | nil => exact fun k env _ hi => ⟨env, rfl, hi⟩
    | cons d rest ih =>
      intro k env e hi
      have hd : ds[k]? = some d := by
        have := congrArg (fun l => l[0]?) e
        simpa using this
      obtain ⟨e1, e2, hp, hs, hi2⟩ := h k d env hd hi
      have e' : ds.drop (k + 1) = rest := by
        have := congrArg List.tail e
        simpa using this
      obtain ⟨env', r1, r2⟩ := ih (k + 1) e2 e' hi2
      refine ⟨env', ?_, by rw [List.length_cons, show k + (rest.length + 1) = k + 1 + rest.length by omega]; exact r2⟩
      unfold loopF
      rw [hp]
      rcases hs with hs | hs <;> (simp only [hs]; exact r1)
  obtain ⟨env', r1, r2⟩ := key ds 0 env (by simp) h0
  exact ⟨env', r1, by simpa using r2⟩
theorem rangeD_get {lo : Int} {n i : Nat} {d : D} (h : (rangeD lo n)[i]? = some d) : i < n ∧ d = .int (lo + (i : Int)) := by
  unfold rangeD at h
  rw [List.getElem?_map] at h
  cases e : (List.range n)[i]? with
  | none =>
    rw [e] at h
    cases h
  | some j =>
    rw [e] at h
    have hl : i < n := by simpa using (List.getElem?_eq_some_iff.mp e).1
    have hj : j = i := by
      rw [List.getElem?_range hl] at e
      exact (Option.some.inj e).symm
    subst hj
    cases h
    exact ⟨hl, rfl⟩
theorem rangeD_len {lo : Int} {n : Nat} : (rangeD lo n).length = n := by simp [rangeD]
theorem seq7 {f g : Ev Fl} {e1 e2 : List Slot} {r : Out Fl} (h1 : f e1 = .val .nx e2) (h2 : g e2 = r) : fSeq f g e1 = r := by
  simp only [fSeq, h1]
  exact h2
/-- the promise of a law by its meaning -/
def spLawV (K : PySem.W.Frag) (ct : Ct) (Φ : List D → Res) : Sp := spV K ct [false] Φ
theorem lawV {K : PySem.W.Frag} {ct : Ct} {Φ : List D → Res} {T : Hp} {a : Addr} {ns : List Int} (h : SqL K T a (ns.map V.int)) (hΦ : ∃ l, Φ [.scr ns] = .ret false (.bl true) l) : spLawV K ct Φ [.ref a] T (fun v _ => v = .bl true) fun _ _ _ => False := by
  obtain ⟨l, e⟩ := hΦ
  have h0 : off (fun _ => False) T = T := off_none
  refine ⟨fun _ => False, fun _ => none, [.scr ns], ⟨rfl, rfl, fun j v d h1 h2 h3 => ?_, fun j v d h1 h2 h3 => ?_, fun j b z => (by cases z), fun j b z => (by cases z), fun i j b z => (by cases z), fun b z => z.elim⟩, ?_⟩
  · cases j with
    | zero =>
      cases h2
      cases h3
      rw [h0]
      exact .scr h
    | succ j => simp at h1
  · cases j with
    | zero => cases h1
    | succ j => simp at h1
  · rw [e]
    exact fun v H' _ rv => rv.blE
end Vl

set_option Elab.async false
set_option linter.all false
set_option maxRecDepth 100000
set_option maxHeartbeats 2000000
/-! Vr: defs that raise. -/
namespace Vl
open PySem PySem.Spec PyProof.Rows L2 Sb
/-- __init__ of an own exception: the fields ns, the last argument first -/
def spXI (C : Addr) (ns : List Str) : Sp := fun vs H Q _ => ∃ (a : Addr) (ws : List V), vs = .ref a :: ws ∧ ws.length = ns.length ∧ H a = some (exo a C none) ∧
  ∀ (H' : Hp) (d : Addr), H' a = some (exo a C (some d)) → H d = none → d ≠ a → H' d = some (exd d (ns.zip ws.reverse)) → (∀ b o, H b = some o → b ≠ a → H' b = some o) → Q .non H'
/-- what a def lets out -/
def ZE (ct : Ct) (E : XK) : ZX := fun c as env G σ H dd => ∀ C nm, ct c = some (C, nm) → E (.ref C) (some dd) H
theorem zE {ct : Ct} {E : XK} : ∀ c as env G σ H dd C nm, ct c = some (C, nm) → ZE ct E c as env G σ H dd → E (.ref C) (some dd) H := fun _ _ _ _ _ _ _ C nm h z => z C nm h
def fRaise (c : Str) (fs : Ev (List D)) : Ev Fl := fun env => (fs env).bind fun l e => if l.length ≤ 1000 then .exc c l.reverse e else .stuck
theorem Rps.rev {K : PySem.W.Frag} {ct : Ct} {F : Hp} {vs : List V} {l : List D} (h : Rps K ct F vs l) : Rps K ct F vs.reverse l.reverse := by
  have key : ∀ {vs : List V} {l : List D}, Rps K ct F vs l → ∀ {ws : List V} {m : List D}, Rps K ct F ws m → Rps K ct F (vs.reverseAux ws) (l.reverseAux m) := by
    intro vs
    induction vs with
    | nil =>
      intro l h ws m g
      cases h
      exact g
    | cons v vs ih =>
      intro l h ws m g
      cases h with
      | cons h t => exact ih t (.cons h g)
  exact key h .nil
section
variable {X : Cx} {B : Bs} {Z : ZX} {e : Expr} {es : List Expr} {pos cpos p : Pos} {fs : Ev (List D)} {E : XK} {x c : Str} {C fI : Addr} {fd : FuncData} {ps ns : List Str} {kk : Nat}
theorem ds_raise (O : Ox X.prog X.w X.K X.mg X.base kk x C fI fd ps (spXI C ns)) (hct : B.ct c = some (C, ns)) (hc : X.calm = true) (tk : Takes X (fun cls d _ H => E cls d H)) (hr : Room (kk + 1) X.A) (hg : Gl X x)
    (hZ : ∀ c as env G σ H dd C nm, B.ct c = some (C, nm) → Z c as env G σ H dd → E (.ref C) (some dd) H) (ha : DA X B Z (e :: es) fs) (hlen : ∀ env l e', fs env = .val l e' → l.length = ns.length)
    (hdb : (x == ("__debug__" : Str)) = false := by decide) (he : starEach (e :: es) X.env = (false, eval e X.env) :: starEach es X.env := by rfl) (hpl : (backTo cpos (starEach es X.env)).any (·.1) = false := by rfl) :
    DS X B Z (.Raise (some (.Call (.Name x p) (e :: es) [] cpos)) none pos) (fRaise c fs) :=
  ⟨PS.weak (ps_raise hc tk (pmk_oex O.c O.iC O.tI O.ok hr O.bd .nil pass0 hg O.mg ha.pa hdb he hpl)) fun E' σ H h => by
    obtain ⟨G, env, cf, q⟩ := h
    refine ⟨G, env, cf, ?_⟩
    cases hf : fs env with
    | stuck =>
      unfold fRaise at q
      rw [hf] at q
      exact q.elim
    | exc cc as e1 =>
      unfold fRaise at q
      rw [hf] at q
      exact fun G1 H1 dd m1 c1 xx => q G1 σ H1 dd m1 c1 xx
    | val l e1 =>
      intro G1 H1 m1 c1 vs rvs
      unfold fRaise at q
      rw [hf] at q
      simp only [Out.bind] at q
      by_cases hl : l.length ≤ 1000
      · rw [if_pos hl] at q
        have ln := hlen _ _ _ hf
        refine ⟨by rw [rvs.len]; exact hl, fun a hA => ?_⟩
        rw [List.append_nil]
        refine ⟨a, vs, rfl, by rw [rvs.len, ln], upd_same, fun H2 d e1' n1 ne e2 kp => ⟨rfl, d, _, e1', e2, ?_, ?_⟩⟩
        · rw [upd_ne ne] at n1
          exact n1
        · have hd : H1 d = none := by
            rw [upd_ne ne] at n1
            exact n1
          have sm : Same H1 (upd (del H2 a) d (.xd (ns.zip vs.reverse))) := fun b o hb => by
            have nb : b ≠ a := ne_of_none hb hA
            have nd : b ≠ d := ne_of_none hb hd
            rw [upd_ne nd, del_ne nb]
            exact kp b o (by rw [upd_ne nb]; exact hb) nb
          refine hZ _ _ _ _ _ _ _ _ _ hct (q G1 σ _ d (m1.trans (c1.mono sm)) (c1.same sm) ⟨C, ns, vs.reverse, hct, by rw [List.length_reverse, rvs.len, ln], ?_, (rvs.mono (off_same sm)).rev⟩)
          rw [off_at fun z => c1.live d z hd]
          exact upd_same
      · rw [if_neg hl] at q
        exact q.elim⟩
end
/-- a def's promise by its body over data, which may raise -/
theorem okGX {P : Program} {w : World} {K : PySem.W.Frag} {mg : Str → Option Value} {base : Heap} {k : Nat} {f : Addr} {x qual : Str} {st : Stmt} {fd : FuncData} {N ps : List Str} {sp : Sp} (F : Fun K x qual st f fd) (Z : FnScope N ps (defScope st)) (size : ∀ xs H Q E, sp xs H Q E → xs.length = ps.length)
    (hb : ∀ (cdv : Value) (A : Around) (out : List Env) (s : Shared) (H : Hp) (xs : List V) (Q : VK) (E : XK), A.guards = some [] → Room k (A.deeper (envOfC qual (defScope st) s.heap.objs.size f cdv)) → sp xs H Q E →
      ∃ t, PSs (cxOf (L2.CX P w) P w K mg base N qual (defScope st) f cdv A out s H E) (defBody st) t ∧ t { nx := fun _ H' => Q .non H', rt := Q } (start N xs) H) : FnG P w K mg base (L2.CX P w) (k + 1) f fd ps sp := by
  obtain ⟨oc, od, kV, doc, pm, an, cdv, ct, osl, rfl, at_, cd_⟩ := F.ex
  exact fnG at_ cd_ Z size fun A out s H xs Q E hg hr hs => hb cdv A out s H xs Q E hg hr hs
section
variable {P : Program} {w : World} {K : PySem.W.Frag} {mg : Str → Option Value} {base : Heap} {k : Nat} {f : Addr} {ct : Ct}
theorem okXV {x qual : Str} {st : Stmt} {fd : FuncData} {N ps : List Str} {m : List Bool} {Fs : Ev Fl} (F : Fun K x qual st f fd) (Zs : FnScope N ps (defScope st)) (hm : m.length = ps.length)
    (hb : ∀ (io : Nat → Option Addr) (cdv : Value) (A : Around) (out : List Env) (s : Shared) (H : Hp) (E : XK), (A.deeper (envOfC qual (defScope st) s.heap.objs.size f cdv)).guards = some [] → Room k (A.deeper (envOfC qual (defScope st) s.heap.objs.size f cdv)) →
      (A.deeper (envOfC qual (defScope st) s.heap.objs.size f cdv)).units + 66 < cLine → DSs (cxOf (L2.CX P w) P w K mg base N qual (defScope st) f cdv A out s H E) ⟨ct, io, H⟩ (ZE ct E) (defBody st) Fs) : FnG P w K mg base (L2.CX P w) (k + 1) f fd ps (spV K ct m fun ds => runV m N.length Fs ds) := by
  have hn : m.length ≤ N.length := by
    rw [hm]
    have := congrArg List.length Zs.pre
    rw [List.length_take] at this
    omega
  refine okGX F Zs (fun vs H Q E h => ?_) (fun cdv A out s H vs Q E hg hr h => ?_)
  · obtain ⟨S, ia, ds, A, _⟩ := h
    rw [A.lv, hm]
  · obtain ⟨S, ia, ds, Ar, q⟩ := h
    refine ⟨_, (hb ia cdv A out s H E (guards_in hg) hr (by have := hr.un; omega)).pss, ⟨S, ia⟩, mkEnv m N.length ds, start_cfg Ar hn, ?_⟩
    have fin : ∀ {G' : Gh} {env : List Slot} {σ' : L2.St} {H' : Hp} {l : List D}, Mono ⟨S, ia⟩ H G' H' → Cfg K ⟨ct, ia, H⟩ G' env σ' H' → ioAt env 0 m = some l → Frame K ct S S ia H H' l ∧ Same (off G'.S H') (off S H') := fun a b c => end_frame Ar a b c fun _ h => .inl h
    have q : (match runV m N.length Fs ds with
  | .stuck => False
  | .ret false r ns => ∀ v H', Frame K ct S S ia H H' ns → Rp K ct (off S H') v r → Q v H'
  | .ret true r ns => ∀ a H', H a = none → Frame K ct S (more S a) ia H H' ns → OwnAt K ct H' (off (more S a) H') a r → Q (.ref a) H'
  | .exc c as ns => ∀ H' dd C nm, Frame K ct S S ia H H' ns → ExcAt K ct (off S H') dd c as → ct c = some (C, nm) → E (.ref C) (some dd) H') := q
    unfold runV at q
    cases ho : Fs (mkEnv m N.length ds) with
    | stuck =>
      rw [ho] at q
      exact q.elim
    | exc c as env =>
      rw [ho] at q
      simp only [Res.of] at q
      cases hl : ioAt env 0 m with
      | none =>
        rw [hl] at q
        exact q.elim
      | some l =>
        rw [hl] at q
        intro G' σ' H' dd mm cf xx C nm hC
        obtain ⟨fr, sm⟩ := fin mm cf hl
        obtain ⟨C2, ns2, vs2, y1, y2, y3, y4⟩ := xx
        exact q H' dd C nm fr ⟨C2, ns2, vs2, y1, y2, sm _ _ y3, y4.mono sm⟩ hC
    | val fl env =>
      rw [ho] at q
      cases fl with
      | bk => exact q.elim
      | ct => exact q.elim
      | nx =>
        simp only [Res.of] at q
        cases hl : ioAt env 0 m with
        | none =>
          rw [hl] at q
          exact q.elim
        | some l =>
          rw [hl] at q
          exact fun G' σ' H' mm c => q _ H' (fin mm c hl).1 .non
      | rt n d =>
        simp only [Res.of] at q
        cases hl : ioAt env 0 m with
        | none =>
          rw [hl] at q
          exact q.elim
        | some l =>
          rw [hl] at q
          cases n with
          | false => exact fun G' σ' H' mm c v rv => q v H' (fin mm c hl).1 (rv.mono (fin mm c hl).2)
          | true =>
            intro G' σ' H' mm c a h0 hs ho'
            have ee := end_frame (S' := more S a) Ar mm c hl fun x hx => hx.elim .inl fun e => .inr (by rw [e]; exact hs)
            exact q a H' h0 ee.1 (ho'.mono rfl ee.2)
end
end Vl

set_option Elab.async false
set_option linter.all false
set_option maxRecDepth 100000
set_option maxHeartbeats 2000000
/-! Vs: own objects: made, their fields. -/
namespace Vl
open PySem PySem.Spec PyProof.Rows L2 Sb
section
variable {X : Cx} {B : Bs} {Z : ZX} {CX : CXT} {k : Nat} {C fa : Addr} {fd : FuncData} {ps ns : List Str} {E : XK} {dsv : List Value} {dvs : List V} {dd : List D} {x c fn : Str} {p pos : Pos} {e o : Expr} {es : List Expr} {m : List Bool} {Φ : List D → Res} {f g : Ev D} {fs : Ev (List D)}
theorem run_makeGT {pins : List (Addr × Obj)} {σ : L2.St} {H : Hp} {s : Shared} {Q : VK} {us : List Value} {vs : List V} {sp : Sp} {ds : List Value} (M : Mk X.K C fa) (F : FnG X.prog X.w X.K X.mg X.base CX k fa fd ps sp) (hgd : X.A.guards = some []) (hr : Room (k + 1) X.A) (hb : Binds X.K fd ps ds) (hd : Vals dvs ds)
    (hx : PassesS CX X σ E) (I : Inv X pins σ H s) (r : Vals vs us)
    (h : ∀ x dx, H x = none → H dx = none → dx ≠ x → sp (.ref x :: (vs ++ dvs)) (upd (upd H dx (.own x)) x (.ins C dx [])) (fun v H2 => v = .non ∧ Q (.ref x) H2) E) :
    wpAny (model X.prog X.w) X.A (call (.ref C) us) (EP X pins σ Q) X.xe s := by
  have hq := h (s.heap.objs.size + 1) s.heap.objs.size (I.hok.fresh (Nat.le_succ _)) (I.hok.fresh (Nat.le_refl _)) (Nat.ne_of_lt (Nat.lt_succ_self _))
  have I2 := Inv.made (C := C) I
  have r2 : Vals (V.ref (s.heap.objs.size + 1) :: (vs ++ dvs)) (Value.ref (s.heap.objs.size + 1) :: (us ++ ds)) := .cons rfl (r.append hd)
  have hl : (Value.ref (s.heap.objs.size + 1) :: us ++ ds).length = ps.length := by
    have e := r2.length
    rw [F.size _ _ _ _ hq] at e
    exact e.symm
  refine wpAny_call (make_map (f := fa) I.kIn M.makes M.init (beq_iff_eq.mp M.fn) (codeAny_mono (F.go _ X.stack _ _ ⟨Value.ref (s.heap.objs.size + 1) :: us, []⟩ (Value.ref (s.heap.objs.size + 1) :: (us ++ ds)) _ _ E hgd (hr.make C us [])
    (I2.env0.make C us []) (hb _ (Value.ref (s.heap.objs.size + 1) :: us) I2.kIn hl) r2 hq) fun r s' hq' => ?_))
  match r, hq' with
  | .error e, hq' => exact hx pins _ _ e s' I2 hq'
  | .ok (.ret u), hq' =>
    obtain ⟨v, H', I3, rv, ev, q3⟩ := I2.after hq'
    subst ev
    exact ⟨rv, ⟨V.ref (s.heap.objs.size + 1), H', I3, rfl, q3⟩⟩
  | .ok .next, hq' => exact False.elim hq'
  | .ok .brk, hq' => exact False.elim hq'
  | .ok .cont, hq' => exact False.elim hq'
theorem run_makeG {pins : List (Addr × Obj)} {σ : L2.St} {H : Hp} {s : Shared} {Q : VK} {us : List Value} {vs : List V} {sp : Sp} {ds : List Value} (M : Mk X.K C fa) (F : FnG X.prog X.w X.K X.mg X.base CX k fa fd ps sp) (hgd : X.A.guards = some []) (hr : Room (k + 1) X.A) (hb : Binds X.K fd ps ds) (hd : Vals dvs ds)
    (hx : Passes CX X E) (I : Inv X pins σ H s) (r : Vals vs us)
    (h : ∀ x dx, H x = none → H dx = none → dx ≠ x → sp (.ref x :: (vs ++ dvs)) (upd (upd H dx (.own x)) x (.ins C dx [])) (fun v H2 => v = .non ∧ Q (.ref x) H2) E) :
    wpAny (model X.prog X.w) X.A (call (.ref C) us) (EP X pins σ Q) X.xe s :=
  run_makeGT M F hgd hr hb hd (fun pins H s e s' => hx pins σ H s e s') I r h
theorem pe_makeG {sp : Sp} {ds : List Value} {t : TA} (M : Mk X.K C fa) (F : FnG X.prog X.w X.K X.mg X.base CX k fa fd ps sp) (hgd : X.A.guards = some []) (hr : Room (k + 1) X.A) (hg : Gl X x) (hm : X.mg x = some (.ref C)) (hb : Binds X.K fd ps ds) (hd : Vals dvs ds) (hx : Passes CX X E)
    (ha : PA X (e :: es) t) (hdb : (x == ("__debug__" : Str)) = false := by decide) (he : starEach (e :: es) X.env = (false, eval e X.env) :: starEach es X.env := by rfl) (hpl : (backTo pos (starEach es X.env)).any (·.1) = false := by rfl) :
    PE X (.Call (.Name x p) (e :: es) [] pos) (tMake C sp dvs E t) := by
  refine ⟨fun pins s σ H Q I h => ?_⟩
  refine wpAny_Call_Name_kw (ld_glob I hg hm ?_ hdb)
  refine PySem.W.callWith_K (h₀ := X.base) I.ok.mod.kin M.kp (thn (ha.run pos pins s σ H _ I h) fun us s1 ⟨vs, H1, I1, r, q⟩ => ⟨I1.kIn, ?_⟩) he hpl
  exact run_makeG M F hgd hr hb hd hx I1 r q
theorem pe_makeGT {E : L2.St → XK} {sp : Sp} {ds : List Value} {t : TA} (M : Mk X.K C fa) (F : FnG X.prog X.w X.K X.mg X.base CX k fa fd ps sp) (hgd : X.A.guards = some []) (hr : Room (k + 1) X.A) (hg : Gl X x) (hm : X.mg x = some (.ref C)) (hb : Binds X.K fd ps ds) (hd : Vals dvs ds) (hx : ∀ σ, PassesS CX X σ (E σ))
    (ha : PA X (e :: es) t) (hdb : (x == ("__debug__" : Str)) = false := by decide) (he : starEach (e :: es) X.env = (false, eval e X.env) :: starEach es X.env := by rfl) (hpl : (backTo pos (starEach es X.env)).any (·.1) = false := by rfl) :
    PE X (.Call (.Name x p) (e :: es) [] pos) (fun σ H Q => tMake C sp dvs (E σ) t σ H Q) := by
  refine ⟨fun pins s σ H Q I h => ?_⟩
  refine wpAny_Call_Name_kw (ld_glob I hg hm ?_ hdb)
  refine PySem.W.callWith_K (h₀ := X.base) I.ok.mod.kin M.kp (thn (ha.run pos pins s σ H _ I h) fun us s1 ⟨vs, H1, I1, r, q⟩ => ⟨I1.kIn, ?_⟩) he hpl
  exact run_makeGT M F hgd hr hb hd (hx σ) I1 r q
def fMake (c : Str) (m : List Bool) (Φ : List D → Res) (dd : List D) (fs : Ev (List D)) : Ev D := fun env => (fs env).bind fun l e => if true :: (l ++ dd).map (fun _ => false) = m then (match Φ (.ob c [] :: (l ++ dd)) with
    | .ret false .non (z :: _) => .val z e
    | .exc c as _ => .exc c as e
    | _ => .stuck) else .stuck
theorem made_same {S : Addr → Prop} {H1 : Hp} {a dx : Addr} {o1 o2 : HO} (live : ∀ a, S a → H1 a ≠ none) (ha : H1 a = none) (hdx : H1 dx = none) : Same (off S H1) (off (more S a) (upd (upd H1 dx o1) a o2)) := fun b u h => by
  obtain ⟨n, h⟩ := off_inv h
  have nb : b ≠ a := ne_of_none h ha
  have nd : b ≠ dx := ne_of_none h hdx
  rw [off_at fun z => z.elim n nb, upd_ne nb, upd_ne nd]
  exact h
theorem lift_makeT {E : L2.St → XK} (hct : B.ct c = some (C, ns)) (rd : ∀ F, Rps X.K B.ct F dvs dd) (hZ : ∀ c as env G σ H dd C nm, B.ct c = some (C, nm) → Z c as env G σ H dd → E σ (.ref C) (some dd) H) (σ : L2.St) (H : Hp) (Q : VK) (h : liftE X.K B Z (fMake c m Φ dd fs) σ H Q) :
    tMake C (spV X.K B.ct m Φ) dvs (E σ) (liftA X.K B Z fs) σ H Q := by
  obtain ⟨G, env, cf, q⟩ := h
  refine ⟨G, env, cf, post_imp (post_bind q) fun l e1 G1 H1 m1 c1 p1 vs rvs => ?_⟩
  intro a dx hna hndx hne
  by_cases hc : true :: (l ++ dd).map (fun _ => false) = m
  · rw [if_pos hc] at p1
    have sm := made_same (o1 := .own a) (o2 := .ins C dx []) c1.live hna hndx
    have rall : Rps X.K B.ct (off (more G1.S a) (upd (upd H1 dx (.own a)) a (.ins C dx []))) (vs ++ dvs) (l ++ dd) := (rvs.mono sm).app (rd _)
    have un : ¬ G1.S a := c1.unS hna
    have keepS : ∀ b, G1.S b → upd (upd H1 dx (.own a)) a (.ins C dx []) b = H1 b := fun b hb => by
      have n1 : b ≠ a := fun z => un (by rw [← z]; exact hb)
      have n2 : b ≠ dx := fun z => c1.live b hb (by rw [z]; exact hndx)
      rw [upd_ne n1, upd_ne n2]
    have md : ∀ {j : Nat} {b : Bool}, m[j]? = some b → (j = 0 ∧ b = true) ∨ ∃ i, j = i + 1 ∧ b = false := fun {j b} h => by
      rw [← hc] at h
      cases j with
      | zero =>
        cases h
        exact .inl ⟨rfl, rfl⟩
      | succ i =>
        have := List.mem_of_getElem? (show ((l ++ dd).map fun _ => false)[i]? = some b by simpa using h)
        obtain ⟨_, _, z⟩ := List.mem_map.mp this
        exact .inr ⟨i, rfl, z.symm⟩
    refine ⟨more G1.S a, fun j => if j = 0 then some a else none, .ob c [] :: (l ++ dd), ⟨?_, ?_, fun j v d h1 h2 h3 => ?_, fun j v d h1 h2 h3 => ?_, fun j b z => ?_, fun j b z => ?_, fun i j b z1 z2 => ?_, fun b hb => ?_⟩, ?_⟩
    · rw [← hc]
      simp [rall.len]
    · rw [← hc]
      simp
    · rcases md h1 with ⟨_, z⟩ | ⟨i, rfl, _⟩
      · cases z
      · obtain ⟨d', g1, g2⟩ := rall.get (i := i) (by simpa using h2)
        have h3' : (l ++ dd)[i]? = some d := by simpa using h3
        rw [h3'] at g1
        cases g1
        exact g2
    · rcases md h1 with ⟨rfl, _⟩ | ⟨i, _, z⟩
      · cases h2
        cases h3
        exact ⟨a, if_pos rfl, rfl, C, dx, ns, [], hct, Nat.zero_le _, by rw [List.zip_nil_right]; exact upd_same, .nil⟩
      · cases z
    · by_cases ej : j = 0
      · subst ej
        rw [← hc]
        rfl
      · rw [if_neg ej] at z
        cases z
    · by_cases ej : j = 0
      · rw [if_pos ej] at z
        cases z
        exact .inr rfl
      · rw [if_neg ej] at z
        cases z
    · by_cases ei : i = 0
      · by_cases ej : j = 0
        · omega
        · rw [if_neg ej] at z2
          cases z2
      · rw [if_neg ei] at z1
        cases z1
    · rcases hb with hb | rfl
      · rw [keepS b hb]
        exact c1.live b hb
      · rw [upd_same]
        exact Option.some_ne_none _
    · have fr1 : ∀ {H' : Hp} {ns' : List D}, Frame X.K B.ct (more G1.S a) (more G1.S a) (fun j => if j = 0 then some a else none) (upd (upd H1 dx (.own a)) a (.ins C dx [])) H' ns' → Frame X.K B.ct G1.S G1.S (iaOf G1 []) H1 H' [] := fun {H' ns'} fr =>
        ⟨fun b u h => off_more _ _ (fr.same _ _ (sm _ _ h)), fun b hb _ => by
          rw [fr.hold b (.inl hb) fun j z => by
            by_cases ej : j = 0
            · rw [if_pos ej] at z
              cases z
              exact un hb
            · rw [if_neg ej] at z
              cases z]
          exact keepS b hb, fun j b z => by
          obtain ⟨i, z1, _⟩ := iaOf_some z
          simp at z1, fun b hb => fr.dom b (by
          by_cases n1 : b = a
          · rw [n1, upd_same]
            exact Option.some_ne_none _
          · rw [upd_ne n1]
            by_cases n2 : b = dx
            · rw [n2, upd_same]
              exact Option.some_ne_none _
            · rw [upd_ne n2]
              exact hb)⟩
      cases hr : Φ (.ob c [] :: (l ++ dd)) with
      | stuck =>
        rw [hr] at p1
        exact p1.elim
      | exc cc as ns' =>
        rw [hr] at p1
        intro H' dd' C' nm fr xa hC
        obtain ⟨mm, c'⟩ := after_call (l := []) (ds := []) c1 rfl (by simp [ioSlots]) (fr1 fr)
        obtain ⟨C2, ns2, vs2, y1, y2, y3, y4⟩ := xa
        exact hZ _ _ _ _ _ _ _ _ _ hC (p1 G1 H' dd' mm c' ⟨C2, ns2, vs2, y1, y2, off_more _ _ y3, y4.mono off_more⟩)
      | ret nw r ns' =>
        rw [hr] at p1
        cases nw with
        | true => exact p1.elim
        | false =>
          cases r with
          | non =>
            cases ns' with
            | nil => exact p1.elim
            | cons z rest =>
              intro v H' fr rv
              refine ⟨rv.nonE, ?_⟩
              obtain ⟨d, g1, g2⟩ := fr.new 0 a (if_pos rfl)
              cases g1
              obtain ⟨mm, c'⟩ := after_call (l := []) (ds := []) c1 rfl (by simp [ioSlots]) (fr1 fr)
              exact p1 G1 H' mm c' _ ((g2.mono rfl off_more).rp (off_at un))
          | _ => exact p1.elim
  · rw [if_neg hc] at p1
    exact p1.elim
theorem de_makeT {E : L2.St → XK} {M : Mk X.K C fa} (F : FnG X.prog X.w X.K X.mg X.base CX k fa fd ps (spV X.K B.ct m Φ)) (hct : B.ct c = some (C, ns)) (hgd : X.A.guards = some []) (hr : Room (k + 1) X.A) (hg : Gl X x) (hm : X.mg x = some (.ref C)) (hb : Binds X.K fd ps dsv) (hd : Vals dvs dsv) (rd : ∀ F, Rps X.K B.ct F dvs dd) (hx : ∀ σ, PassesS CX X σ (E σ))
    (hZ : ∀ c as env G σ H dd C nm, B.ct c = some (C, nm) → Z c as env G σ H dd → E σ (.ref C) (some dd) H) (ha : DA X B Z (e :: es) fs) (hdb : (x == ("__debug__" : Str)) = false := by decide) (he : starEach (e :: es) X.env = (false, eval e X.env) :: starEach es X.env := by rfl)
    (hpl : (backTo pos (starEach es X.env)).any (·.1) = false := by rfl) : DE X B Z (.Call (.Name x p) (e :: es) [] pos) (fMake c m Φ dd fs) :=
  ⟨PE.weak (pe_makeGT M F hgd hr hg hm hb hd hx ha.pa hdb he hpl) (lift_makeT hct rd hZ)⟩
theorem de_make {M : Mk X.K C fa} (F : FnG X.prog X.w X.K X.mg X.base CX k fa fd ps (spV X.K B.ct m Φ)) (hct : B.ct c = some (C, ns)) (hgd : X.A.guards = some []) (hr : Room (k + 1) X.A) (hg : Gl X x) (hm : X.mg x = some (.ref C)) (hb : Binds X.K fd ps dsv) (hd : Vals dvs dsv) (rd : ∀ F, Rps X.K B.ct F dvs dd) (hx : Passes CX X E)
    (hZ : ∀ c as env G σ H dd C nm, B.ct c = some (C, nm) → Z c as env G σ H dd → E (.ref C) (some dd) H) (ha : DA X B Z (e :: es) fs) (hdb : (x == ("__debug__" : Str)) = false := by decide) (he : starEach (e :: es) X.env = (false, eval e X.env) :: starEach es X.env := by rfl)
    (hpl : (backTo pos (starEach es X.env)).any (·.1) = false := by rfl) : DE X B Z (.Call (.Name x p) (e :: es) [] pos) (fMake c m Φ dd fs) :=
  de_makeT (M := M) (E := fun _ => E) F hct hgd hr hg hm hb hd rd (fun σ pins H s e s' => hx pins σ H s e s') hZ ha hdb he hpl
/-! fields -/
def oFld (c : Str) (j : Nat) : D → Option D
  | .ob c' l => if c' = c then l[j]? else none
  | _ => none
def fUn (o : D → Option D) (f : Ev D) : Ev D := fun env => (f env).bind fun d e => Out.opt (o d) e
theorem zip_lookup {ns : List Str} {vs : List V} {j : Nat} {v : V} {n : Str} (nd : ns.Nodup) (hn : ns[j]? = some n) (hv : vs[j]? = some v) : (ns.zip vs).lookup n = some v := by
  induction ns generalizing vs j with
  | nil => simp at hn
  | cons y ns ih =>
    cases vs with
    | nil => simp at hv
    | cons w vs =>
      obtain ⟨h1, h2⟩ := List.nodup_cons.mp nd
      cases j with
      | zero =>
        simp at hn hv
        subst hn hv
        simp [List.lookup]
      | succ j =>
        simp only [List.getElem?_cons_succ] at hn hv
        have hne : n ≠ y := fun z => h1 (by rw [← z]; exact List.mem_of_getElem? hn)
        have hb : (n == y) = false := by simpa using hne
        rw [List.zip_cons_cons, List.lookup_cons, hb]
        exact ih h2 hn hv
theorem de_fld {j : Nat} (cl : Cls X.K C) (nf : NoAttr X.K C fn) (hct : B.ct c = some (C, ns)) (nd : ns.Nodup) (hj : ns[j]? = some fn) (h : DE X B Z o f) (hb : attributeBase o fn X.env (eval o X.env) = eval o X.env := by rfl) : DE X B Z (.Attribute o fn pos) (fUn (oFld c j) f) :=
  ⟨PE.weak (pe_fld h.pe hb) fun σ H Q ⟨G, env, cf, q⟩ => ⟨G, env, cf, post_imp (post_bind q) fun d e1 G1 H1 m1 c1 p1 v rv => by
    cases ho : oFld c j d with
    | none =>
      rw [ho] at p1
      exact p1.elim
    | some z =>
      rw [ho] at p1
      unfold oFld at ho
      split at ho
      · split at ho
        · rename_i ec
          subst ec
          obtain ⟨a, C', dx, ns', vs, rfl, h1, h2, h3, h4⟩ := rv.obE
          rw [hct] at h1
          cases h1
          obtain ⟨w, g1, g2⟩ := h4.get' ho
          exact ⟨a, C, dx, _, w, rfl, off_le _ _ h3, cl, nf, zip_lookup nd hj g1, p1 G1 H1 Mono.refl c1 w g2⟩
        · cases ho
      · cases ho⟩⟩
/-- a property that hands an attribute out -/
theorem de_prop {j : Nat} {pa ga : Addr} {fdg : FuncData} {at_ : Str} {E : XK} (P : Px X.prog X.w X.K X.mg X.base C pa ga fdg fn at_) (cl : Cls X.K C) (hct : B.ct c = some (C, ns)) (nd : ns.Nodup) (hj : ns[j]? = some at_) (hr : Room 2 X.A) (h : DE X B Z o f) (hb : attributeBase o fn X.env (eval o X.env) = eval o X.env := by rfl) : DE X B Z (.Attribute o fn pos) (fUn (oFld c j) f) :=
  ⟨PE.weak (pe_prop (E := E0) h.pe cl P.pof P.ok hr P.bd .nil pass0 hb) fun σ H Q ⟨G, env, cf, q⟩ => ⟨G, env, cf, post_imp (post_bind q) fun d e1 G1 H1 m1 c1 p1 v rv => by
    cases ho : oFld c j d with
    | none =>
      rw [ho] at p1
      exact p1.elim
    | some z =>
      rw [ho] at p1
      unfold oFld at ho
      split at ho
      · split at ho
        · rename_i ec
          subst ec
          obtain ⟨a, C', dx, ns', vs, rfl, h1, h2, h3, h4⟩ := rv.obE
          rw [hct] at h1
          cases h1
          obtain ⟨w, g1, g2⟩ := h4.get' ho
          exact ⟨a, dx, _, rfl, off_le _ _ h3, a, dx, _, w, rfl, off_le _ _ h3, zip_lookup nd hj g1, p1 G1 H1 Mono.refl c1 w g2⟩
        · cases ho
      · cases ho⟩⟩
end
end Vl

set_option Elab.async false
set_option linter.all false
set_option maxRecDepth 100000
set_option maxHeartbeats 2000000
/-! Vt: self.x = e; dicts. -/
namespace Vl
open PySem PySem.Spec PyProof.Rows L2 Sb
theorem putF_new {ns : List Str} {vs : List V} {fn : Str} {y : V} (nd : ns.Nodup) (hj : ns[vs.length]? = some fn) : putF fn y (ns.zip vs) = ns.zip (vs ++ [y]) := by
  induction ns generalizing vs with
  | nil => simp at hj
  | cons n ns ih =>
    obtain ⟨h1, h2⟩ := List.nodup_cons.mp nd
    cases vs with
    | nil =>
      simp at hj
      subst hj
      simp [putF]
    | cons v vs =>
      have hj' : ns[vs.length]? = some fn := by simpa using hj
      have hne : ¬ n = fn := fun z => h1 (by rw [z]; exact List.mem_of_getElem? hj')
      show putF fn y ((n, v) :: ns.zip vs) = (n, v) :: ns.zip (vs ++ [y])
      unfold putF
      rw [if_neg hne, ih h2 hj']
section
variable {X : Cx} {B : Bs} {Z : ZX} {a b e o : Expr} {es : List Expr} {pos xpos apos : Pos} {f g h : Ev D} {fs : Ev (List D)} {x c fn : Str} {C : Addr} {ns : List Str} {i j : Nat}
def fFldS (c : Str) (i j : Nat) (f : Ev D) : Ev Fl := fun env => (f env).bind fun d e1 => match e1[i]? with
  | some (.io (.ob c' l)) => if c' = c ∧ l.length = j then .val .nx (e1.set i (.io (.ob c (l ++ [d])))) else .stuck
  | _ => .stuck
theorem ds_fldS (cl : Cls X.K C) (nf : NoAttr X.K C fn) (hct : B.ct c = some (C, ns)) (nd : ns.Nodup) (hj : ns[j]? = some fn) (few : ns.length < 1000) (hN : X.N[i]? = some x) (hv : Vis X.env.scope x) (he : DE X B Z e f)
    (hd : (x == ("__debug__" : Str)) = false := by decide) (hcd : (x == ("__classdict__" : Str)) = false := by decide) (hs : swapsWith e (some (.Attribute (.Name x xpos) fn apos)) pos.line X.env = pure false := by rfl) :
    DS X B Z (.Assign [.Attribute (.Name x xpos) fn apos] e pos) (fFldS c i j f) :=
  ⟨PS.weak (ps_fld (pe_var hN hv hd hcd) he.pe hs) fun E σ H h => by
    obtain ⟨G, env, cf, q⟩ := h
    refine ⟨G, env, cf, post_imp (exprS q) fun d e1 G1 H1 m1 c1 p1 v rv => ?_⟩
    split at p1
    · rename_i c' l hs1
      split at p1
      · rename_i hc
        obtain ⟨rfl, hl⟩ := hc
        obtain ⟨a', g1, g2, C', dx, ns', vs, h0, h1, h2, h3⟩ := c1.own (b := true) hs1
        rw [hct] at h0
        cases h0
        have hl' : vs.length = j := h3.len.trans hl
        subst hl'
        refine ⟨_, g2, a', C, dx, _, rfl, h2, cl, nf, ?_, ?_⟩
        · rw [List.length_zip]
          omega
        · rw [putF_new nd hj]
          exact p1 G1 _ _ (Mono.chg g1 (c1.hid i a' g1)) (c1.chg (b := true) g1 hs1 ⟨C, dx, ns, vs ++ [v], hct, by
            have := (List.getElem?_eq_some_iff.mp hj).1
            rw [List.length_append, List.length_singleton]
            omega, upd_same, h3.app (.one rv)⟩)
      · exact p1.elim
    · exact p1.elim⟩
/-! ### dicts -/
def keyOf : D → Option Key
  | .int i => some (.inl i)
  | .str s => some (.inr s)
  | _ => none
def keysOf : List D → Option (List Key)
  | [] => some []
  | d :: l => match keyOf d, keysOf l with
    | some k, some ks => some (k :: ks)
    | _, _ => none
def tkeyOf : D → Option (List Key)
  | .tup l => keysOf l
  | _ => none
theorem keyOf_v {K : PySem.W.Frag} {ct : Ct} {F : Hp} {v : V} {d : D} {k : Key} (r : Rp K ct F v d) (e : keyOf d = some k) : v = kV k := by
  cases d with
  | int i =>
    cases e
    exact r.intE
  | str s =>
    cases e
    exact r.strE
  | _ => cases e
theorem keysOf_v {K : PySem.W.Frag} {ct : Ct} {F : Hp} : ∀ {l : List D} {vs : List V} {ks : List Key}, Rps K ct F vs l → keysOf l = some ks → vs = ks.map kV
  | [], _, _, r, e => by
    cases e
    exact r.nilE
  | d :: l, vs, ks, r, e => by
    obtain ⟨v, ws, rfl, h1, h2⟩ := r.consE
    unfold keysOf at e
    cases e1 : keyOf d with
    | none =>
      rw [e1] at e
      cases e
    | some k =>
      cases e2 : keysOf l with
      | none =>
        rw [e1, e2] at e
        cases e
      | some ks' =>
        rw [e1, e2] at e
        cases e
        rw [keyOf_v h1 e1, keysOf_v h2 e2]
        rfl
theorem tkeyOf_v {K : PySem.W.Frag} {ct : Ct} {F : Hp} {v : V} {d : D} {ks : List Key} (r : Rp K ct F v d) (e : tkeyOf d = some ks) : ∃ b, v = .ref b ∧ F b = some (.tup (ks.map kV)) := by
  cases d with
  | tup l =>
    obtain ⟨b, vs, rfl, h1, h2⟩ := r.tupP
    rw [keysOf_v h2 e] at h1
    exact ⟨b, rfl, h1⟩
  | _ => cases e
variable {κ : Type} [DecidableEq κ]
/-- what stands at a key -/
def getD' (ks : List κ) (l : List D) (k : κ) : Option D := ((ks.zip l).find? fun p => decide (p.1 = k)).map (·.2)
theorem getD_v {K : PySem.W.Frag} {ct : Ct} {F : Hp} {k : κ} : ∀ {ks : List κ} {vs : List V} {l : List D}, Rps K ct F vs l → (match getD' ks l k with | some d => ∃ v, valV (ks.zip vs) k = some v ∧ Rp K ct F v d | none => valV (ks.zip vs) k = none)
  | [], _, _, _ => by simp [getD', valV]
  | y :: ks, vs, l, r => by
    cases r with
    | nil => simp [getD', valV]
    | @cons v vs d l h t =>
      have ih := getD_v (ks := ks) (k := k) t
      unfold getD' valV at ih ⊢
      simp only [List.zip_cons_cons, List.find?_cons]
      by_cases e : y = k
      · simp only [e, decide_true]
        exact ⟨v, rfl, h⟩
      · simp only [e, decide_false]
        exact ih
/-- in its place, or at the end -/
def putKs (ks : List κ) (l : List D) (k : κ) (d : D) : List κ × List D := if (ks.any fun y => decide (y = k)) = true then (ks, List.zipWith (fun y e => if y = k then d else e) ks l) else (ks ++ [k], l ++ [d])
def putVs (ks : List κ) (vs : List V) (k : κ) (v : V) : List V := if (ks.any fun y => decide (y = k)) = true then List.zipWith (fun y e => if y = k then v else e) ks vs else vs ++ [v]
theorem zip_any {k : κ} : ∀ {ks : List κ} {vs : List V}, ks.length = vs.length → ((ks.zip vs).any fun p => decide (p.1 = k)) = ks.any fun y => decide (y = k)
  | [], [], _ => rfl
  | y :: ks, v :: vs, h => by
    simp only [List.zip_cons_cons, List.any_cons]
    rw [zip_any (by simpa using h)]
theorem putK_zip {ks : List κ} {vs : List V} (k : κ) (v : V) (d : D) (l : List D) (h : ks.length = vs.length) : putK (ks.zip vs) k v = (putKs ks l k d).1.zip (putVs ks vs k v) ∧ (putKs ks l k d).1.length = (putVs ks vs k v).length := by
  unfold putK putKs putVs
  rw [zip_any h]
  by_cases e : (ks.any fun y => decide (y = k)) = true
  · rw [if_pos e, if_pos e, if_pos e]
    clear e
    constructor
    · induction ks generalizing vs with
      | nil => rfl
      | cons y ks ih =>
        cases vs with
        | nil => simp at h
        | cons w vs =>
          simp only [List.zip_cons_cons, List.map_cons, List.zipWith_cons_cons]
          rw [ih (by simpa using h)]
          by_cases ey : y = k
          · rw [if_pos ey, if_pos ey]
          · rw [if_neg ey, if_neg ey]
    · simp [h]
  · rw [if_neg e, if_neg e, if_neg e]
    refine ⟨?_, by simp [h]⟩
    rw [List.zip_append h]
    rfl
theorem putVs_rp {K : PySem.W.Frag} {ct : Ct} {F : Hp} {k : κ} {v : V} {d : D} (r : Rp K ct F v d) {ks : List κ} {vs : List V} {l : List D} (t : Rps K ct F vs l) : Rps K ct F (putVs ks vs k v) (putKs ks l k d).2 := by
  unfold putVs putKs
  by_cases e : (ks.any fun y => decide (y = k)) = true
  · rw [if_pos e, if_pos e]
    clear e
    show Rps K ct F (List.zipWith _ ks vs) (List.zipWith _ ks l)
    induction ks generalizing vs l with
    | nil => exact .nil
    | cons y ks ih =>
      cases t with
      | nil => exact .nil
      | cons h t =>
        simp only [List.zipWith_cons_cons]
        refine .cons ?_ (ih t)
        by_cases ey : y = k
        · rw [if_pos ey, if_pos ey]
          exact r
        · rw [if_neg ey, if_neg ey]
          exact h
  · rw [if_neg e, if_neg e]
    exact t.app (.one r)
def oDGet : D → D → Option (Option D)
  | .dk ks l, y => (keyOf y).map fun k => getD' ks l k
  | .dt ks l, y => (tkeyOf y).map fun k => getD' ks l k
  | _, _ => none
def oDPut : D → D → D → Option D
  | .dk ks l, y, d => if l.length < sizeLine then (keyOf y).map fun k => .dk (putKs ks l k d).1 (putKs ks l k d).2 else none
  | .dt ks l, y, d => if l.length < sizeLine then (tkeyOf y).map fun k => .dt (putKs ks l k d).1 (putKs ks l k d).2 else none
  | _, _, _ => none
/-- the relation of what is got -/
def GotV (K : PySem.W.Frag) (ct : Ct) (F : Hp) (o : Option V) : Option D → Prop
  | some d => ∃ v, o = some v ∧ Rp K ct F v d
  | none => o = none
theorem own_get {K : PySem.W.Frag} {ct : Ct} {S : Addr → Prop} {H : Hp} {p : Addr} {d y : D} {yv : V} {r : Option D} (w : OwnAt K ct H (off S H) p d) (ry : Rp K ct (off S H) yv y) (e : oDGet d y = some r) : ∃ o, DGet H p yv o ∧ GotV K ct (off S H) o r := by
  cases d with
  | dk ks l =>
    obtain ⟨vs, h0, h1, h2⟩ := w
    have e : (keyOf y).map (fun k => getD' ks l k) = some r := e
    cases ek : keyOf y with
    | none =>
      rw [ek] at e
      cases e
    | some k =>
      rw [ek] at e
      cases e
      rw [keyOf_v ry ek]
      refine ⟨_, DGet.k h1, ?_⟩
      have := getD_v (ks := ks) (k := k) h2
      show GotV K ct (off S H) (valV (ks.zip vs) k) (getD' ks l k)
      split at this <;> (rename_i q; rw [q]; exact this)
  | dt ks l =>
    obtain ⟨vs, h0, h1, h2⟩ := w
    have e : (tkeyOf y).map (fun k => getD' ks l k) = some r := e
    cases ek : tkeyOf y with
    | none =>
      rw [ek] at e
      cases e
    | some k =>
      rw [ek] at e
      cases e
      obtain ⟨b, rfl, hb⟩ := tkeyOf_v ry ek
      refine ⟨_, DGet.t h1 (off_le _ _ hb), ?_⟩
      have := getD_v (ks := ks) (k := k) h2
      show GotV K ct (off S H) (valV (ks.zip vs) k) (getD' ks l k)
      split at this <;> (rename_i q; rw [q]; exact this)
  | _ => cases e
theorem own_put {K : PySem.W.Frag} {ct : Ct} {S : Addr → Prop} {H : Hp} {p : Addr} {d y z d' : D} {yv v : V} (w : OwnAt K ct H (off S H) p d) (ry : Rp K ct (off S H) yv y) (rz : Rp K ct (off S H) v z) (e : oDPut d y z = some d') : ∃ o, DPut H p yv v (upd H p o) ∧ OwnAt K ct (upd H p o) (off S H) p d' := by
  cases d with
  | dk ks l =>
    obtain ⟨vs, h0, h1, h2⟩ := w
    have e : (if l.length < sizeLine then (keyOf y).map (fun k => D.dk (putKs ks l k z).1 (putKs ks l k z).2) else none) = some d' := e
    by_cases hl : l.length < sizeLine
    · rw [if_pos hl] at e
      cases ek : keyOf y with
      | none =>
        rw [ek] at e
        cases e
      | some k =>
        rw [ek] at e
        cases e
        rw [keyOf_v ry ek]
        obtain ⟨e1, e2⟩ := putK_zip k v z l h0
        exact ⟨_, DPut.k h1 (by rw [List.length_zip, h2.len]; omega), _, e2, by rw [upd_same, e1], putVs_rp rz h2⟩
    · rw [if_neg hl] at e
      cases e
  | dt ks l =>
    obtain ⟨vs, h0, h1, h2⟩ := w
    have e : (if l.length < sizeLine then (tkeyOf y).map (fun k => D.dt (putKs ks l k z).1 (putKs ks l k z).2) else none) = some d' := e
    by_cases hl : l.length < sizeLine
    · rw [if_pos hl] at e
      cases ek : tkeyOf y with
      | none =>
        rw [ek] at e
        cases e
      | some k =>
        rw [ek] at e
        cases e
        obtain ⟨b, rfl, hb⟩ := tkeyOf_v ry ek
        obtain ⟨e1, e2⟩ := putK_zip k v z l h0
        exact ⟨_, DPut.t h1 (off_le _ _ hb) (by rw [List.length_zip, h2.len]; omega), _, e2, by rw [upd_same, e1], putVs_rp rz h2⟩
    · rw [if_neg hl] at e
      cases e
  | _ => cases e
end
section
variable {X : Cx} {B : Bs} {Z : ZX} {a b e o : Expr} {es : List Expr} {pos xpos apos spos cpos : Pos} {f g h : Ev D} {x : Str} {i : Nat}
/-- the dict that slot i owns -/
def slotO (env : List Slot) (i : Nat) : Option (Bool × D) := match env[i]? with
  | some (.ow d) => some (false, d)
  | some (.io d) => some (true, d)
  | _ => none
theorem slotO_own {env : List Slot} {b : Bool} {d : D} (h : slotO env i = some (b, d)) : env[i]? = some (own b d) := by
  unfold slotO at h
  split at h
  · cases h
    assumption
  · cases h
    assumption
  · cases h
/-- d[k] -/
def fDGetO (i : Nat) (f : Ev D) : Ev D := fun env => match slotO env i with
  | some _ => (f env).bind fun y e => match slotO e i with
    | some (_, d) => (match oDGet d y with
      | some (some z) => .val z e
      | _ => .stuck)
    | none => .stuck
  | none => .stuck
theorem de_dgetO (hu : X.A.units + 65 < cLine) (hN : X.N[i]? = some x) (hv : Vis X.env.scope x) (hi : DE X B Z a f) (hs : NoSl a := by intro _ _; rfl) (hd : (x == ("__debug__" : Str)) = false := by decide) (hcd : (x == ("__classdict__" : Str)) = false := by decide) : DE X B Z (.Subscript (.Name x xpos) a pos) (fDGetO i f) :=
  ⟨PE.weak (pe_dget (by omega) (pe_var hN hv hd hcd) hi.pe hs) fun σ H Q h => by
    obtain ⟨G, env, c, q⟩ := h
    unfold fDGetO at q
    cases h0 : slotO env i with
    | none =>
      rw [h0] at q
      exact q.elim
    | some p0 =>
      obtain ⟨b0, d0⟩ := p0
      rw [h0] at q
      obtain ⟨y, r1, r2, _⟩ := c.own (slotO_own h0)
      refine ⟨_, r2, G, env, c, post_imp (post_bind q) fun yd e1 G1 H1 m1 c1 p1 yv ry => ?_⟩
      cases h1 : slotO e1 i with
      | none =>
        rw [h1] at p1
        exact p1.elim
      | some p2 =>
        obtain ⟨b1, d1⟩ := p2
        rw [h1] at p1
        obtain ⟨y', g1, g2, g3⟩ := c1.own (slotO_own h1)
        rw [r2] at g2
        cases g2
        cases hg : oDGet d1 yd with
        | none =>
          simp only [hg] at p1
          exact p1.elim
        | some r =>
          cases r with
          | none =>
            simp only [hg] at p1
            exact p1.elim
          | some z =>
            simp only [hg] at p1
            obtain ⟨o, k1, v, rfl, k2⟩ := own_get g3 ry hg
            exact ⟨y, v, rfl, k1, p1 G1 H1 Mono.refl c1 v k2⟩⟩
/-- k in d -/
def fDInO (neg : Bool) (i : Nat) (f : Ev D) : Ev D := fun env => (f env).bind fun y e => match slotO e i with
    | some (_, d) => (match oDGet d y with
      | some r => .val (.bl (if neg then !r.isSome else r.isSome)) e
      | _ => .stuck)
    | none => .stuck
theorem GotV.some {K : PySem.W.Frag} {ct : Ct} {F : Hp} {o : Option V} {r : Option D} (h : GotV K ct F o r) : o.isSome = r.isSome := by
  cases r with
  | none =>
    rw [show o = none from h]
    rfl
  | some d =>
    obtain ⟨v, rfl, _⟩ := h
    rfl
theorem lift_dinO {neg : Bool} (σ : L2.St) (H : Hp) (Q : VK) (h : liftE X.K B Z (fDInO neg i f) σ H Q) : liftE X.K B Z f σ H fun y H1 => tVar i σ H1 fun x H2 => ∃ a o, x = .ref a ∧ DGet H2 a y o ∧ Q (.bl (if neg then !o.isSome else o.isSome)) H2 := by
  obtain ⟨G, env, c, q⟩ := h
  refine ⟨G, env, c, post_imp (post_bind q) fun yd e1 G1 H1 m1 c1 p1 yv ry => ?_⟩
  cases h1 : slotO e1 i with
  | none =>
    rw [h1] at p1
    exact p1.elim
  | some p2 =>
    obtain ⟨b1, d1⟩ := p2
    rw [h1] at p1
    obtain ⟨y', g1, g2, g3⟩ := c1.own (slotO_own h1)
    cases hg : oDGet d1 yd with
    | none =>
      simp only [hg] at p1
      exact p1.elim
    | some r =>
      simp only [hg] at p1
      obtain ⟨o, k1, k2⟩ := own_get g3 ry hg
      exact ⟨_, g2, y', o, rfl, k1, by rw [k2.some]; exact p1 G1 H1 Mono.refl c1 _ (.bl _)⟩
/-- d[k] = e -/
def fDPutO (i : Nat) (k f : Ev D) : Ev Fl := fun env => (f env).bind fun v e1 => match slotO e1 i with
  | some _ => (k e1).bind fun y e2 => (match slotO e2 i with
    | some (b, d) => (match oDPut d y v with
      | some d' => .val .nx (e2.set i (own b d'))
      | none => .stuck)
    | none => .stuck)
  | none => .stuck
theorem ds_dputO (hu : X.A.units + 65 < cLine) (hN : X.N[i]? = some x) (hv : Vis X.env.scope x) (he : DE X B Z e f) (hk : DE X B Z a g) (hd : (x == ("__debug__" : Str)) = false := by decide) (hcd : (x == ("__classdict__" : Str)) = false := by decide)
    (hs : swapsWith e (some (.Subscript (.Name x xpos) a spos)) pos.line X.env = pure false := by rfl) : DS X B Z (.Assign [.Subscript (.Name x xpos) a spos] e pos) (fDPutO i g f) :=
  ⟨PS.weak (ps_dput (by omega) (pe_var hN hv hd hcd) hk.pe he.pe hs) fun E σ H h => by
    obtain ⟨G, env, c, q⟩ := h
    refine ⟨G, env, c, post_imp (exprS q) fun vd e1 G1 H1 m1 c1 p1 v rv => ?_⟩
    cases h0 : slotO e1 i with
    | none =>
      rw [h0] at p1
      exact p1.elim
    | some p0 =>
      obtain ⟨b0, d0⟩ := p0
      rw [h0] at p1
      obtain ⟨y, r1, r2, _⟩ := c1.own (slotO_own h0)
      refine ⟨_, r2, G1, e1, c1, post_imp (exprS p1) fun yd e2 G2 H2 m2 c2 p2 yv ry => ?_⟩
      cases h1 : slotO e2 i with
      | none =>
        rw [h1] at p2
        exact p2.elim
      | some p3 =>
        obtain ⟨b1, d1⟩ := p3
        rw [h1] at p2
        obtain ⟨y', g1, g2, g3⟩ := c2.own (slotO_own h1)
        rw [r2] at g2
        cases g2
        cases hp : oDPut d1 yd vd with
        | none =>
          simp only [hp] at p2
          exact p2.elim
        | some d' =>
          simp only [hp] at p2
          obtain ⟨o, k1, k2⟩ := own_put g3 ry (rv.mono m2.same) hp
          exact ⟨y, _, rfl, k1, p2 G2 _ _ (Mono.chg g1 (c2.hid i y g1)) (c2.chg g1 (slotO_own h1) k2)⟩⟩
end
end Vl

set_option Elab.async false
set_option linter.all false
set_option maxRecDepth 100000
set_option maxHeartbeats 2000000
/-! Vu: more of owned dicts and lists. -/
namespace Vl
open PySem PySem.Spec PyProof.Rows L2 Sb
section
variable {X : Cx} {B : Bs} {Z : ZX} {a b e o : Expr} {es : List Expr} {pos xpos apos spos cpos : Pos} {f g h : Ev D} {x : Str} {i : Nat}
theorem lift_dinB {neg : Bool} (σ : L2.St) (H : Hp) (Q : Bool → Hp → Prop) (h : liftT X.K B Z (fB (fDInO neg i f)) σ H Q) : liftE X.K B Z f σ H fun y H1 => tVar i σ H1 fun x H2 => ∃ a o, x = .ref a ∧ DGet H2 a y o ∧ ∃ k, V.bl (if neg then !o.isSome else o.isSome) = .bl k ∧ Q k H2 := by
  obtain ⟨G, env, c, q⟩ := h
  have := lift_dinO (Z := Z) (neg := neg) (i := i) (f := f) σ H (fun v H' => ∃ k, v = .bl k ∧ Q k H') ⟨G, env, c, post_imp (post_bind q) fun d e1 G1 H1 m1 c1 p1 v rv => by
    cases d with
    | bl k => exact ⟨k, rv.blE, p1 G1 H1 Mono.refl c1⟩
    | _ => exact p1.elim⟩
  exact this
theorem de_dinO (hu : X.A.units + 65 < cLine) (hN : X.N[i]? = some x) (hv : Vis X.env.scope x) (hi : DE X B Z a f) (hd : (x == ("__debug__" : Str)) = false := by decide) (hcd : (x == ("__classdict__" : Str)) = false := by decide) (hm : behindInMarks .In (.Name x xpos) = false := by rfl) :
    DE X B Z (.Compare a [.In] [.Name x xpos] pos) (fDInO false i f) :=
  ⟨PE.weak (pe_cmp (pc_din (by omega) hi.pe (pe_var hN hv hd hcd)) hm) fun σ H Q h => lift_dinO (neg := false) σ H Q h⟩
theorem de_dnotInO (hu : X.A.units + 65 < cLine) (hN : X.N[i]? = some x) (hv : Vis X.env.scope x) (hi : DE X B Z a f) (hd : (x == ("__debug__" : Str)) = false := by decide) (hcd : (x == ("__classdict__" : Str)) = false := by decide) (hm : behindInMarks .NotIn (.Name x xpos) = false := by rfl) :
    DE X B Z (.Compare a [.NotIn] [.Name x xpos] pos) (fDInO true i f) :=
  ⟨PE.weak (pe_cmp (pc_dnotin (by omega) hi.pe (pe_var hN hv hd hcd)) hm) fun σ H Q h => lift_dinO (neg := true) σ H Q h⟩
theorem dt_dinO (hu : X.A.units + 65 < cLine) (hN : X.N[i]? = some x) (hv : Vis X.env.scope x) (hi : DE X B Z a f) (hd : (x == ("__debug__" : Str)) = false := by decide) (hcd : (x == ("__classdict__" : Str)) = false := by decide) (hm : behindInMarks .In (.Name x xpos) = false := by rfl) :
    DT X B Z (.Compare a [.In] [.Name x xpos] pos) (fB (fDInO false i f)) :=
  ⟨PT.weak (pt_cmp (pc_din (by omega) hi.pe (pe_var hN hv hd hcd)) hm) fun σ H Q h => lift_dinB (neg := false) σ H Q h⟩
theorem dt_dnotInO (hu : X.A.units + 65 < cLine) (hN : X.N[i]? = some x) (hv : Vis X.env.scope x) (hi : DE X B Z a f) (hd : (x == ("__debug__" : Str)) = false := by decide) (hcd : (x == ("__classdict__" : Str)) = false := by decide) (hm : behindInMarks .NotIn (.Name x xpos) = false := by rfl) :
    DT X B Z (.Compare a [.NotIn] [.Name x xpos] pos) (fB (fDInO true i f)) :=
  ⟨PT.weak (pt_cmp (pc_dnotin (by omega) hi.pe (pe_var hN hv hd hcd)) hm) fun σ H Q h => lift_dinB (neg := true) σ H Q h⟩
/-! {} and {k: v} -/
def fDNewK : Ev D := fun env => .val (.dk [] []) env
def fDNewT : Ev D := fun env => .val (.dt [] []) env
theorem put_newD {G1 : Gh} {env : List Slot} {σ : L2.St} {H0 H1 : Hp} {Q : VK} {q : Addr} {o : HO} {d : D} (c1 : Cfg X.K B G1 env σ H1) (hq : H1 q = none) (h0 : H0 q = none) (w : OwnAt X.K B.ct (upd H1 q o) (off G1.S H1) q d) (p : postG X.K B Z G1 σ H1 (.val d env) (fun d _ G' H' => ∀ p, H0 p = none → G'.S p → (∀ i, G'.r i ≠ some p) → OwnAt X.K B.ct H' (off G'.S H') p d → Q (.ref p) H')) :
    Q (.ref q) (upd H1 q o) :=
  p (G1.hide q) _ (Mono.hide hq c1.live) (c1.hide hq) q h0 (.inr rfl) (fun i z => c1.unS hq (c1.hid i q z)) (w.mono rfl (Mono.hide hq c1.live).same)
theorem dn_newK : DN X B Z (.Dict [] [] pos) fDNewK :=
  ⟨PE.weak pe_dnewK fun σ H Q ⟨G, env, c, q⟩ p hp => put_newD (d := .dk [] []) c hp hp ⟨[], rfl, upd_same, .nil⟩ q⟩
theorem dn_newT : DN X B Z (.Dict [] [] pos) fDNewT :=
  ⟨PE.weak pe_dnewT fun σ H Q ⟨G, env, c, q⟩ p hp => put_newD (d := .dt [] []) c hp hp ⟨[], rfl, upd_same, .nil⟩ q⟩
/-! x.pop() -/
def fPop (i : Nat) : Ev D := fun env => match slotL env i with
  | some (b, l) => (match l[l.length - 1]? with
    | some d => .val d (env.set i (own b (.lst l.dropLast)))
    | none => .stuck)
  | none => .stuck
theorem Rps.dropLast {K : PySem.W.Frag} {ct : Ct} {F : Hp} {vs : List V} {l : List D} (h : Rps K ct F vs l) : Rps K ct F vs.dropLast l.dropLast := by
  rw [List.dropLast_eq_take, List.dropLast_eq_take, h.len]
  exact h.take _
theorem Cfg.keepσ {K : PySem.W.Frag} {G : Gh} {env : List Slot} {σ : L2.St} {H : Hp} (c : Cfg K B G env σ H) : Cfg K B G env σ H := c
end
end Vl

set_option Elab.async false
set_option linter.all false
set_option maxRecDepth 100000
set_option maxHeartbeats 2000000
/-! Sbt: str of an own class; the texts of machines. -/
namespace Sb
open PySem PySem.Spec PyProof.Rows L2
section
variable {X : Cx} {CX : CXT} {k : Nat} {C f : Addr} {fd : FuncData} {ps : List Str} {sp : Sp} {E : XK}
/-- a def runs two levels below the body -/
theorem run_in2 {pins : List (Addr × Obj)} {σ : L2.St} {H : Hp} {s : Shared} {Q : VK} {us : List Value} {vs : List V} (F : FnOk X.prog X.w X.K X.mg X.base CX k f fd ps sp) (hr : Room (k + 2) X.A) (hb : Binds X.K fd ps []) (hx : Passes CX X E)
    (I : Inv X pins σ H s) (r : Vals vs us) (h : sp vs H Q E) : wpAny (model X.prog X.w) X.A.in1.in1 (call (.ref f) us) (EP X pins σ Q) X.xe s := by
  have hl : us.length = ps.length := by
    rw [← r.length]
    exact F.len _ _ _ _ h
  have bnd := hb s us I.kIn (by rw [List.append_nil]; exact hl)
  rw [List.append_nil] at bnd
  have run := F.run X.A.in1.in1 X.stack s H ⟨us, []⟩ us vs Q E hr.in1.in1 I.env0.in1.in1 bnd r h
  refine wpAny_call (codeAny_mono run fun q s' hq => ?_)
  match q, hq with
  | .error er, hq => exact hx pins σ H s er s' I hq
  | .ok (.ret u), hq => exact I.after hq
  | .ok .next, hq => exact False.elim hq
  | .ok .brk, hq => exact False.elim hq
  | .ok .cont, hq => exact False.elim hq
/-- str(x) by an own __str__ -/
def rStrOwn (C : Addr) (sp : Sp) (E : XK) : List V → Hp → VK → Prop := fun xs H Q => ∃ (a dx : Addr) (fs : List (Str × V)), xs = [.ref a] ∧ H a = some (.ins C dx fs) ∧ sp [.ref a] H (fun v H' => ∃ z : Str, v = .str z ∧ Q (.str z) H') E
theorem call_strOwn (M : Meth X.K C "__str__" f) (F : FnOk X.prog X.w X.K X.mg X.base CX k f fd ps sp) (hr : Room (k + 2) X.A) (hb : Binds X.K fd ps []) (hx : Passes CX X E) : CallR X (.type "str") (rStrOwn C sp E) := by
  intro pins s σ H xs us Q I r h
  obtain ⟨a, dx, fs, rfl, ha, hsp⟩ := h
  obtain ⟨u, rfl, rx⟩ := vals1 r
  cases (show u = Value.ref a from rx)
  obtain ⟨mA, O, _⟩ := ins_get I.hok ha
  obtain ⟨od, J, _⟩ := O.look
  refine PySem.W.kso_call hr.in1.in1.units0 I.kIn J M.at_ M.fn (wpAny_mono (run_in2 (us := [.ref a]) (vs := [.ref a]) F hr hb hx I (.cons rfl .nil) hsp) (fun w s' z => ?_) fun _ _ q => q)
  obtain ⟨v', H', I', rv, y, ey, q⟩ := z
  subst ey
  obtain ⟨tk, e⟩ := (show ∃ t, w = Value.str y t from rv)
  subst e
  exact ⟨.str y, H', I', ⟨_, rfl⟩, q⟩
end
/-- the text of a part, of a row, of a machine, of an end -/
def plT : Pl → Str
  | .num n => Str.ofString (toString (n : Int))
  | .word s => s
def rowT (r : Row) : Str := ((((Str.empty ++ Str.ofString (toString (r.put : Int))) ++ (" " : Str)) ++ plT r.a) ++ (" " : Str)) ++ plT r.b
def machT (rs : List Row) : Str := Txt.join (", " : Str) (rs.map rowT)
def endT (hs ss : List Row) : Str := ((Str.empty ++ machT hs) ++ (" | " : Str)) ++ machT ss
def smallPl : Pl → Prop
  | .num n => n ≤ 1000
  | .word s => okWord s
def smallRow (r : Row) : Prop := r.put ≤ 1000 ∧ smallPl r.a ∧ smallPl r.b
theorem num_len {n : Nat} (h : n ≤ 1000) : (Str.ofString (toString (n : Int))).length ≤ 10 := by
  have key : ∀ m : Fin 1001, (Str.ofString (toString ((m.val : Nat) : Int))).length ≤ 10 := by decide +kernel
  exact key ⟨n, by omega⟩
theorem num_log {n : Nat} (h : n ≤ 1000) : ((n : Int)).natAbs.log2 < 1920 := Nat.lt_of_le_of_lt (Nat.log2_le_self _) (by omega)
theorem plT_len {p : Pl} (h : smallPl p) : (plT p).length ≤ 10 := by
  cases p with
  | num n => exact num_len h
  | word s => rcases okWord_cases h with rfl | rfl | rfl | rfl <;> decide +kernel
theorem rowT_len {r : Row} (h : smallRow r) : (rowT r).length ≤ 32 := by
  have h1 := num_len h.1
  have h2 := plT_len h.2.1
  have h3 := plT_len h.2.2
  have e : (" " : Str).length = 1 := by decide +kernel
  have e0 : Str.empty.length = 0 := by decide +kernel
  unfold rowT
  rw [strLen_append, strLen_append, strLen_append, strLen_append, strLen_append, e, e0]
  omega
theorem smallPl_of {many : Nat} {ws : List Str} (hw : isWords ws) (hm : many ≤ 1000) {p : Pl} (h : p.Ok many ws) : smallPl p := by
  cases p with
  | num n => exact Nat.le_of_lt (Nat.lt_of_lt_of_le h hm)
  | word s => exact okPl_of hw h
theorem smallRow_of {many : Nat} {ws : List Str} (hw : isWords ws) (hm : many ≤ 1000) {r : Row} (h : r.Ok many ws) : smallRow r := ⟨by have := h.1; omega, smallPl_of hw hm h.2.1, smallPl_of hw hm h.2.2⟩
/-- {x}: a part of a row, as a text -/
def tFmtP (te : TE) : TE := fun σ H Q => te σ H fun x H1 => ∃ p : Pl, x = p.v ∧ smallPl p ∧ Q (.str (plT p)) H1
theorem pe_fmtP {X : Cx} {e : Expr} {te : TE} {pos : Pos} (he : PE X e te) : PE X (.FormattedValue e (-1) none pos) (tFmtP te) := by
  refine ⟨fun pins s σ H Q I h => wpAny_FormattedValue_plain (thn (he.run pins s σ H _ I h) fun v s1 hv => ?_)⟩
  obtain ⟨x, H1, I1, r1, p, ep, hp, q⟩ := hv
  subst ep
  cases p with
  | num n =>
    obtain ⟨t, rfl⟩ := (show ∃ t, v = Value.int (n : Int) t from r1)
    exact wpAny_formatField_int (num_log hp) ⟨.str (plT (.num n)), H1, I1.tok _, ⟨_, rfl⟩, q⟩
  | word z =>
    obtain ⟨t, rfl⟩ := (show ∃ t, v = Value.str z t from r1)
    exact wpAny_formatField_str ⟨.str z, H1, I1, ⟨t, rfl⟩, q⟩ ⟨.str z, H1, I1.tok _, ⟨_, rfl⟩, q⟩ (Nat.le_trans (plT_len (p := .word z) hp) (by decide))
theorem machT_len {rs : List Row} (h : ∀ r, r ∈ rs → smallRow r) : ((rs.map rowT).map (·.length)).sum ≤ 32 * rs.length := by
  induction rs with
  | nil => simp
  | cons r rs ih =>
    have h1 := rowT_len (h r (by simp))
    have h2 := ih fun q hq => h q (by simp [hq])
    simp only [List.map_cons, List.sum_cons, List.length_cons]
    omega
theorem join_len (sep : Str) (xs : List Str) : (Txt.join sep xs).length ≤ (xs.map (·.length)).sum + xs.length * sep.length := by
  show (Builtin.Str.glued sep xs).length ≤ _
  rw [StrLaws.glued_eq_join]
  exact StrLaws.join_length_le sep xs
theorem machT_fits {rs : List Row} (h : ∀ r, r ∈ rs → smallRow r) (hn : rs.length ≤ 1000) : (machT rs).length ≤ 34000 := by
  have h1 := join_len (", " : Str) (rs.map rowT)
  have h2 := machT_len h
  have e : (", " : Str).length = 2 := by decide +kernel
  rw [e, List.length_map] at h1
  unfold machT
  omega
end Sb

set_option Elab.async false
set_option linter.all false
set_option maxRecDepth 100000
set_option maxHeartbeats 2000000
/-! Sbi: an own __iter__ that hands out a tuple's iterator. -/
namespace Sb
open PySem PySem.Spec PyProof.Rows L2
/-- at it an iterator over the tuple at a, at its i-th place -/
def TiO (a it : Addr) (i : Nat) : HO := .ext fun h => h.IsTupleIter it a i
theorem tiO_ok {P : Program} {w : World} {H : Hp} {h : Heap} {a it : Addr} {i : Nat} (e : h.IsTupleIter it a i) : ObjOk P w H h it (TiO a it i) :=
  ⟨e, let ⟨o, z, _⟩ := e; ⟨o, z⟩, fun h1 h2 q k => q.at fun o z => k o z⟩
/-- iter(e), e a tuple -/
def rIterT (K : PySem.W.Frag) (n : Nat) : List V → Hp → VK → Prop := fun xs H Q => ∃ (a : Addr) (zs : List V), xs = [.ref a] ∧ SqT K H a zs ∧ ∀ it, H it = none → n ≤ it → Q (.ref it) (upd H it (TiO a it 0))
theorem call_iterT {X : Cx} : CallR X (.builtin "iter") (rIterT X.K X.s_0.heap.objs.size) := by
  intro pins s σ H xs us Q I r h
  obtain ⟨a, zs, rfl, hq, q⟩ := h
  obtain ⟨u, rfl, ru⟩ := vals1 r
  cases (show u = Value.ref a from ru)
  obtain ⟨its, rv, tp, hz⟩ := I.tuple hq
  refine Calls.call_function_entry (by decide +kernel) (by decide +kernel) PySem.W.kdk_entry_iter (PySem.W.kdk_args_iter _) ?_
  unfold Builtin.«iter»
  refine wpAny_bind (m := someArgs "iter" 1 2 _) (wpAny_of_eq (a := [Value.ref a]) (by first | rfl | kernel_rfl!) ?_)
  show wpAny _ _ (pyIter (.ref a) >>= _) _ _ _
  refine wpAny_bind (wpAny_pyIter_tuple tp (wpAny_pure ⟨_, rfl, ?_⟩))
  exact ⟨.ref s.heap.objs.size, _, I.laid (t' := s.toks) (fun b u e => Heap.get?_push_of_some _ e) (Nat.le_refl _) (tiO_ok ⟨_, Heap.get?_push_size _ rfl, rfl, rfl⟩), rfl, q _ (I.hok.fresh (Nat.le_refl _)) I.sz⟩
/-- what a def keeps, by the size of the heap it comes to -/
structure FnN (P : Program) (w : World) (K : PySem.W.Frag) (mg : Str → Option Value) (base : Heap) (CX : CXT) (k : Nat) (f : Addr) (fd : FuncData) (ps : List Str) (sp : Nat → Sp) : Prop where
  size : ∀ n xs H Q E, sp n xs H Q E → xs.length = ps.length
  go : ∀ (A : Around) (st : List Env) (s : Shared) (H : Hp) (args : Args) (us : List Value) (xs : List V) (Q : VK) (E : XK), Room k A → Env0 P w K mg base A st s H → BindsTo s fd args (ps.zip us) → Vals xs us → sp s.heap.objs.size xs H Q E →
    codeAny (model P w) A (.call (.ref f) args) (CR CX st P w H s Q E) s
theorem okN {P : Program} {w : World} {K : PySem.W.Frag} {mg : Str → Option Value} {base : Heap} {k : Nat} {f : Addr} {x qual : Str} {st : Stmt} {fd : FuncData} {N ps : List Str} {sp : Nat → Sp} (F : Fun K x qual st f fd) (Z : FnScope N ps (defScope st)) (size : ∀ n xs H Q E, sp n xs H Q E → xs.length = ps.length)
    (hb : ∀ (cdv : Value) (A : Around) (out : List Env) (s : Shared) (H : Hp) (xs : List V) (Q : VK) (E : XK), Room k (A.deeper (envOfC qual (defScope st) s.heap.objs.size f cdv)) → sp s.heap.objs.size xs H Q E →
      ∃ t, PSs (cxOf CX0 P w K mg base N qual (defScope st) f cdv A out s H E).nox (defBody st) t ∧ t { nx := fun _ H' => Q .non H', rt := Q } (start N xs) H) : FnN P w K mg base CX0 (k + 1) f fd ps sp := by
  obtain ⟨oc, od, kV, doc, pm, an, cdv, ct, osl, rfl, at_, cd_⟩ := F.ex
  refine ⟨size, fun A out s H args us xs Q E hr e0 bnd r hs => ?_⟩
  have hlen := size _ _ _ _ _ hs
  have inK : K.In s.heap := e0.mod.kin.keeps fun b o e => (e0.bs b o e).1
  have nol : s.heap.NoLimit := e0.mod.nolimit.keeps fun b o e => (e0.bs b o e).1
  refine codeAny_call_function hr.depth (inK _ _ at_) rfl Z.co Z.gen rfl (PySem.W.codeRec_of inK cd_) (bnd _ _ _ _ ?_)
  refine wpAny_newFunctionEnv_cells Z.kind (fun ⟨n, v⟩ hy => ?_) fun env he s1 x => ?_
  · rcases Z.par n (List.of_mem_zip hy).1 with q | q
    · exact .inl q
    · exact .inr ⟨q, PySem.W.cellsFrom_some _ _ _ (.inl q)⟩
  subst he
  refine ⟨nol.keeps x.toInCall.keep, codeAny_func ?_⟩
  obtain ⟨t, ht, hq⟩ := hb cdv A out s H xs Q E (hr.deeper _) hs
  have I : Inv (cxOf CX0 P w K mg base N qual (defScope st) f cdv A out s H E) [] (start N xs) H s1 := inv_start Z hr.hd e0 hlen r x
  refine wpAny_mono (ht.nox.run [] s1 (start N xs) H _ I hq) (fun fl s' z => ?_) fun e s' z => z
  match fl, z with
  | .ret u, ⟨v, σ', H', J, rv, q⟩ => exact ⟨v, H', J.os, J.bare, J.base, J.hok, rv, q⟩
  | .next, ⟨σ', H', J, q⟩ => exact ⟨V.non, H', J.os, J.bare, J.base, J.hok, rfl, q⟩
  | .brk, ⟨_, _, _, q⟩ => exact False.elim q
  | .cont, ⟨_, _, _, q⟩ => exact False.elim q
/-- x.__iter__(): an iterator over the tuple that one attribute holds -/
def spIterOf (K : PySem.W.Frag) (C : Addr) (fld : Str) : Nat → Sp := fun n vs H Q _ => ∃ (a dx t : Addr) (fs : List (Str × V)) (xs : List V), vs = [.ref a] ∧ H a = some (.ins C dx fs) ∧ fs.lookup fld = some (.ref t) ∧ SqT K H t xs ∧
  ∀ it, H it = none → n ≤ it → Q (.ref it) (upd H it (TiO t it 0))
/-- for x in e, e of an own class with such an __iter__ -/
def iOwn (K : PySem.W.Frag) (C : Addr) (fld : Str) (te : TE) : TI := fun σ H R => te σ H fun x H1 => ∃ (a dx t : Addr) (fs : List (Str × V)) (xs : List V), x = .ref a ∧ H1 a = some (.ins C dx fs) ∧ fs.lookup fld = some (.ref t) ∧ SqT K H1 t xs ∧ R (Itt K t) H1
theorem pi_own {X : Cx} {k : Nat} {C f : Addr} {fd : FuncData} {fld : Str} {tg e : Expr} {te : TE} (he : PE X e te) (M : Meth X.K C "__iter__" f) (F : FnN X.prog X.w X.K X.mg X.base CX0 k f fd ["self"] (spIterOf X.K C fld)) (hr : Room k X.A) (hb : Binds X.K fd ["self"] []) :
    PI X tg e (iOwn X.K C fld te) := by
  refine ⟨fun pins s σ H R I h => ?_⟩
  refine thn (he.run pins s σ H _ I h) fun u s1 ⟨x, H1, I1, r1, a, dx, t, fs, xs, ex, ea, el, et, q⟩ => ?_
  subst ex
  cases (show u = Value.ref a from r1)
  obtain ⟨mA, O, _⟩ := ins_get I1.hok ea
  obtain ⟨od, J, _⟩ := O.look
  obtain ⟨m, hF⟩ := I1.fr
  refine PySem.W.owit_iter hF I1.ok.mod.kin J M.at_ M.fn ?_
  have bnd := hb s1 [.ref a] I1.kIn rfl
  rw [List.append_nil] at bnd
  have run := F.go X.A X.stack s1 H1 ⟨[.ref a], []⟩ [.ref a] [.ref a] (fun v H2 => ∃ it, v = .ref it ∧ H1 it = none ∧ s1.heap.objs.size ≤ it ∧ H2 = upd H1 it (TiO t it 0)) E0 hr I1.env0 bnd (.cons rfl .nil)
    ⟨a, dx, t, fs, xs, rfl, ea, el, et, fun it n1 n2 => ⟨it, rfl, n1, n2, rfl⟩⟩
  refine wpAny_call (codeAny_mono run fun r s' hq => ?_)
  match r, hq with
  | .error er, hq => exact False.elim hq
  | .ok .next, hq => exact False.elim hq
  | .ok .brk, hq => exact False.elim hq
  | .ok .cont, hq => exact False.elim hq
  | .ok (.ret v), hq =>
    obtain ⟨v', H2, I2, rv, it, ev, n1, n2, eH⟩ := I1.after hq
    subst ev
    cases (show v = Value.ref it from rv)
    subst eH
    have st : s'.heap.IsTupleIter it t 0 := (I2.hok it _ upd_same).1
    show wpAny _ _ (specialOf (.ref it) "__next__") _ _ s'
    refine wpAny_specialOf st.typeIs PySem.F.slot_tuple_iterator_next.lookup ?_
    have Id := ItX.inv_drop I2 (φ := fun h => h.IsTupleIter it t 0) upd_same
    have fp := ItX.inv_fp I2 upd_same (Nat.le_trans I1.sz n2)
    rw [ItX.dropH_upd n1] at Id fp
    refine ⟨it, [it], _, Itt X.K t, H1, rfl, Id, turn_tuple t it, st, fun b hb => ?_, q⟩
    have e : b = it := by simpa using hb
    rw [e]
    exact fp
end Sb

set_option Elab.async false
set_option linter.all false
set_option maxRecDepth 100000
set_option maxHeartbeats 2000000
/-! Vw: own classes over data: ==, in, len, str, repr, isinstance; defs that raise, called. -/
namespace Vl
open PySem PySem.Spec PyProof.Rows L2 Sb
/-- a def that raises nothing, as one that may -/
theorem _root_.Sb.FnG.up {P : Program} {w : World} {K : PySem.W.Frag} {mg : Str → Option Value} {base : Heap} {CX : CXT} {k : Nat} {f : Addr} {fd : FuncData} {ps : List Str} {sp : Sp} (F : FnG P w K mg base CX0 k f fd ps sp) : FnG P w K mg base CX k f fd ps sp := by
  refine ⟨F.size, fun A st s H args us xs Q E hg hr he hb hv hs => codeAny_mono (F.go A st s H args us xs Q E hg hr he hb hv hs) fun r s' h => ?_⟩
  match r, h with
  | .error e, h => exact h.elim
  | .ok (.ret u), h => exact h
  | .ok .next, h => exact h
  | .ok .brk, h => exact h
  | .ok .cont, h => exact h
theorem _root_.Sb.FnG.mono {P : Program} {w : World} {K : PySem.W.Frag} {mg : Str → Option Value} {base : Heap} {CX : CXT} {j k : Nat} {f : Addr} {fd : FuncData} {ps : List Str} {sp : Sp} (F : FnG P w K mg base CX j f fd ps sp) (h : j ≤ k) : FnG P w K mg base CX k f fd ps sp :=
  ⟨F.size, fun A st s H args us xs Q E hg hr => F.go A st s H args us xs Q E hg (hr.mono h)⟩
section
variable {K : PySem.W.Frag} {ct : Ct} {S : Addr → Prop} {H : Hp} {vs : List V} {ds : List D} {m : List Bool} {Φ : List D → Res} {Q : VK} {E : XK}
theorem args0 (live : ∀ a, S a → H a ≠ none) (hm : ds.map (fun _ => false) = m) (rd : Rps K ct (off S H) vs ds) : ArgsOk K ct S (fun _ => none) m vs ds H := by
  refine ⟨by rw [rd.len, ← hm]; simp, by rw [← hm]; simp, fun j v d h1 h2 h3 => ?_, fun j v d h1 h2 h3 => ?_, fun _ _ z => (by cases z), fun _ _ z => (by cases z), fun _ _ _ z => (by cases z), live⟩
  · obtain ⟨d', g1, g2⟩ := rd.get h2
    rw [h3] at g1
    cases g1
    exact g2
  · rw [← hm, List.getElem?_map] at h1
    cases e : ds[j]? with
    | none =>
      rw [e] at h1
      cases h1
    | some x =>
      rw [e] at h1
      cases h1
theorem Frame.all {S' : Addr → Prop} {H' : Hp} {ns : List D} (fr : Frame K ct S S (fun _ => none) H H' ns) : Same H H' := fun b o h => by
  by_cases hs : S b
  · rw [fr.hold b hs fun _ z => by cases z]
    exact h
  · have := fr.same b o (by rw [off_at hs]; exact h)
    exact (off_inv this).2
/-- a def called by shared values, and its value -/
theorem spV_use (live : ∀ a, S a → H a ≠ none) (hm : ds.map (fun _ => false) = m) (rd : Rps K ct (off S H) vs ds) {r : D} {nw : Bool} {ns : List D} (e : Φ ds = .ret nw r ns) (hq : ∀ v H', Same H H' → Rp K ct (off S H') v r → Q v H') : spV K ct m Φ vs H Q E := by
  refine ⟨S, fun _ => none, ds, args0 live hm rd, ?_⟩
  rw [e]
  cases nw with
  | false =>
    intro v H' fr rv
    have s : Same H H' := Frame.all (S' := S) fr
    exact hq v H' s rv
  | true =>
    intro a H' ha fr ho
    have s : Same H H' := Frame.all (S' := S) fr.bare
    exact hq _ H' s ((ho.mono rfl off_more).rp (off_at fun z => live a z ha))
end
/-- what the value of a call is, where nothing is changed and nothing raised -/
def Res.val : Res → Option D
  | .ret _ r _ => some r
  | _ => none
theorem Res.val_ret {r : Res} {d : D} (h : r.val = some d) : ∃ nw ns, r = .ret nw d ns := by
  cases r with
  | ret nw r ns =>
    cases h
    exact ⟨_, _, rfl⟩
  | _ => cases h
/-- facts of an own class, as it is asked by isinstance -/
structure OwC (K : PySem.W.Frag) (C : Addr) : Prop where
  cl : Cls K C
  i : (PySem.W.clsIn K C).isSome = true
  t : PySem.W.typeIn K (.ref C) = some (.type "type")
  u : PySem.W.findIn K (.ref C) "__class__" = some (some (.builtin "object.__class__"))
  g : PySem.W.specialIn K (.builtin "object.__class__") "__get__" = some (some (.builtin "getset_descriptor.__get__"))
  k : PySem.W.takesIn K (.builtin "object.__class__") = some true
  m : PySem.W.mroIn K C (.type "object") = some true
theorem kit_self {K : PySem.W.Frag} {C : Addr} : PySem.W.kitOne K (.ref C) (.ref C) = some true := by
  unfold PySem.W.kitOne
  rw [if_pos (by simp)]
theorem kit_other {K : PySem.W.Frag} {C : Addr} (c : OwC K C) {n : String} {l : List Value} (e : fastBuiltinMro n = some l) (h : l.contains (.ref C) = false) : PySem.W.kitOne K (.type n) (.ref C) = some false := by
  unfold PySem.W.kitOne
  rw [if_neg (by intro z; cases z)]
  unfold PySem.W.kitCls
  dsimp only
  rw [if_pos (by rw [c.i, c.t]; rfl)]
  show (fastBuiltinMro n).map (·.contains (.ref C)) = some false
  rw [e]
  simpa using h
theorem ty_mro (t : Ty) (C : Addr) : ∃ l, fastBuiltinMro t.nm = some l ∧ l.contains (.ref C) = false := by
  cases t <;> exact ⟨_, rfl, rfl⟩
section
variable {X : Cx} {CX : CXT} {k : Nat} {C f : Addr} {fd : FuncData} {ps : List Str} {sp : Sp} {E : XK}
theorem run_in1G {pins : List (Addr × Obj)} {σ : L2.St} {H : Hp} {s : Shared} {Q : VK} {us : List Value} {vs : List V} (F : FnG X.prog X.w X.K X.mg X.base CX k f fd ps sp) (hgd : X.A.guards = some []) (hr : Room (k + 1) X.A) (hb : Binds X.K fd ps []) (hx : Passes CX X E)
    (I : Inv X pins σ H s) (r : Vals vs us) (h : sp vs H Q E) : wpAny (model X.prog X.w) X.A.in1 (call (.ref f) us) (EP X pins σ Q) X.xe s := by
  have hl : us.length = ps.length := by
    rw [← r.length]
    exact F.size _ _ _ _ h
  have bnd := hb s us I.kIn (by rw [List.append_nil]; exact hl)
  rw [List.append_nil] at bnd
  have run := F.go X.A.in1 X.stack s H ⟨us, []⟩ us vs Q E hgd hr.in1 I.env0.in1 bnd r h
  refine wpAny_call (codeAny_mono run fun q s' hq => ?_)
  match q, hq with
  | .error er, hq => exact hx pins σ H s er s' I hq
  | .ok (.ret u), hq => exact I.after hq
  | .ok .next, hq => exact False.elim hq
  | .ok .brk, hq => exact False.elim hq
  | .ok .cont, hq => exact False.elim hq
theorem run_in2G {pins : List (Addr × Obj)} {σ : L2.St} {H : Hp} {s : Shared} {Q : VK} {us : List Value} {vs : List V} (F : FnG X.prog X.w X.K X.mg X.base CX k f fd ps sp) (hgd : X.A.guards = some []) (hr : Room (k + 2) X.A) (hb : Binds X.K fd ps []) (hx : Passes CX X E)
    (I : Inv X pins σ H s) (r : Vals vs us) (h : sp vs H Q E) : wpAny (model X.prog X.w) X.A.in1.in1 (call (.ref f) us) (EP X pins σ Q) X.xe s := by
  have hl : us.length = ps.length := by
    rw [← r.length]
    exact F.size _ _ _ _ h
  have bnd := hb s us I.kIn (by rw [List.append_nil]; exact hl)
  rw [List.append_nil] at bnd
  have run := F.go X.A.in1.in1 X.stack s H ⟨us, []⟩ us vs Q E hgd hr.in1.in1 I.env0.in1.in1 bnd r h
  refine wpAny_call (codeAny_mono run fun q s' hq => ?_)
  match q, hq with
  | .error er, hq => exact hx pins σ H s er s' I hq
  | .ok (.ret u), hq => exact I.after hq
  | .ok .next, hq => exact False.elim hq
  | .ok .brk, hq => exact False.elim hq
  | .ok .cont, hq => exact False.elim hq
theorem op_eqG (M : Meth X.K C "__eq__" f) (F : FnG X.prog X.w X.K X.mg X.base CX k f fd ps sp) (hgd : X.A.guards = some []) (hr : Room k X.A) (hb : Binds X.K fd ps []) (hx : Passes CX X E) : OpR X (compareOp .Eq) (rEqOwn X.K C sp E) := by
  intro pins s σ H x y v u Q I rx ry h
  obtain ⟨a, dx, fs, t, rfl, ha, ty, nf, hsp⟩ := h
  have ru := ry
  obtain ⟨P, Z, p, _⟩ := kit_of I ry ty
  cases (show v = Value.ref a from rx)
  obtain ⟨mA, O, _⟩ := ins_get I.hok ha
  obtain ⟨od, J, _⟩ := O.look
  obtain ⟨m, hF⟩ := I.fr
  show wpAny (model X.prog X.w) X.A (richCompare .Eq (.ref a) u) (EP X pins σ Q) X.xe s
  refine PySem.W.cmp_K (op := .Eq) (tb := t) hr.units0 hF I.ok.mod.kin J (Z.ty _ _ I.kIn p) nf M.at_ M.fn ?_
  refine wpAny_mono (run_fnG (Q := fun v H' => ∃ b, v = .bl b ∧ Q (.bl b) H') (us := [.ref a, u]) (vs := [.ref a, y]) (ds := []) (dvs := []) F hgd hr hb .nil hx I (.cons rfl (.cons ru .nil)) (by rw [List.append_nil]; exact hsp)) (fun w s' z => ?_) fun _ _ q => q
  obtain ⟨v', H', I', rv, b, eb, q⟩ := z
  subst eb
  cases (show w = Value.bool b from rv)
  exact ⟨.bl b, H', I', rfl, q⟩
theorem op_inG (M : Meth X.K C "__contains__" f) (F : FnG X.prog X.w X.K X.mg X.base CX k f fd ps sp) (hgd : X.A.guards = some []) (hr : Room k X.A) (hb : Binds X.K fd ps []) (hx : Passes CX X E) : OpR X (compareOp .In) (rInOwn false C sp E) := by
  intro pins s σ H y x u v Q I ry rx h
  obtain ⟨a, dx, fs, rfl, ha, hsp⟩ := h
  have ru := ry
  cases (show v = Value.ref a from rx)
  obtain ⟨mA, O, _⟩ := ins_get I.hok ha
  obtain ⟨od, J, _⟩ := O.look
  obtain ⟨m, hF⟩ := I.fr
  refine PySem.W.in_K hF I.ok.mod.kin J M.at_ M.fn ?_
  refine wpAny_mono (run_fnG (Q := fun v H' => ∃ b, v = .bl b ∧ Q (.bl (if false then !b else b)) H') (us := [.ref a, u]) (vs := [.ref a, y]) (ds := []) (dvs := []) F hgd hr hb .nil hx I (.cons rfl (.cons ru .nil)) (by rw [List.append_nil]; exact hsp)) (fun w s' z => ?_) fun _ _ q => q
  obtain ⟨v', H', I', rv, b, eb, q⟩ := z
  subst eb
  cases (show w = Value.bool b from rv)
  exact wpAny_pure ⟨.bl b, H', I', rfl, q⟩
theorem op_notInG (M : Meth X.K C "__contains__" f) (F : FnG X.prog X.w X.K X.mg X.base CX k f fd ps sp) (hgd : X.A.guards = some []) (hr : Room k X.A) (hb : Binds X.K fd ps []) (hx : Passes CX X E) : OpR X (compareOp .NotIn) (rInOwn true C sp E) := by
  intro pins s σ H y x u v Q I ry rx h
  obtain ⟨a, dx, fs, rfl, ha, hsp⟩ := h
  have ru := ry
  cases (show v = Value.ref a from rx)
  obtain ⟨mA, O, _⟩ := ins_get I.hok ha
  obtain ⟨od, J, _⟩ := O.look
  obtain ⟨m, hF⟩ := I.fr
  refine PySem.W.notIn_K hF I.ok.mod.kin J M.at_ M.fn ?_
  refine wpAny_mono (run_fnG (Q := fun v H' => ∃ b, v = .bl b ∧ Q (.bl (if true then !b else b)) H') (us := [.ref a, u]) (vs := [.ref a, y]) (ds := []) (dvs := []) F hgd hr hb .nil hx I (.cons rfl (.cons ru .nil)) (by rw [List.append_nil]; exact hsp)) (fun w s' z => ?_) fun _ _ q => q
  obtain ⟨v', H', I', rv, b, eb, q⟩ := z
  subst eb
  cases (show w = Value.bool b from rv)
  exact wpAny_pure ⟨.bl (!b), H', I', rfl, q⟩
theorem call_lenG (M : Meth X.K C "__len__" f) (F : FnG X.prog X.w X.K X.mg X.base CX k f fd ps sp) (hgd : X.A.guards = some []) (hr : Room (k + 1) X.A) (hb : Binds X.K fd ps []) (hx : Passes CX X E) : CallR X (.builtin "len") (rLenOwn C sp E) := by
  intro pins s σ H xs us Q I r h
  obtain ⟨a, dx, fs, rfl, ha, hsp⟩ := h
  obtain ⟨u, rfl, rx⟩ := vals1 r
  cases (show u = Value.ref a from rx)
  obtain ⟨mA, O, _⟩ := ins_get I.hok ha
  obtain ⟨od, J, _⟩ := O.look
  obtain ⟨m, hF⟩ := I.fr
  refine PySem.W.len_K hF I.ok.mod.kin J M.at_ M.fn (wpAny_mono (run_in1G (us := [.ref a]) (vs := [.ref a]) F hgd hr hb hx I (.cons rfl .nil) hsp) (fun w s' z => ?_) fun _ _ q => q)
  obtain ⟨v', H', I', rv, n, en, h0, h1, q⟩ := z
  subst en
  obtain ⟨tk, e⟩ := (show ∃ t, w = Value.int n t from rv)
  subst e
  exact ⟨⟨h0, h1⟩, .int n, H', I'.tok _, ⟨_, rfl⟩, q⟩
theorem call_reprG (M : Meth X.K C "__repr__" f) (F : FnG X.prog X.w X.K X.mg X.base CX k f fd ps sp) (hgd : X.A.guards = some []) (hr : Room (k + 1) X.A) (hb : Binds X.K fd ps []) (hx : Passes CX X E) : CallR X (.builtin "repr") (rReprOwn C sp E) := by
  intro pins s σ H xs us Q I r h
  obtain ⟨a, dx, fs, rfl, ha, hsp⟩ := h
  obtain ⟨u, rfl, rx⟩ := vals1 r
  cases (show u = Value.ref a from rx)
  obtain ⟨mA, O, _⟩ := ins_get I.hok ha
  obtain ⟨od, J, _⟩ := O.look
  obtain ⟨m, hF⟩ := I.fr
  refine PySem.W.repr_K hr.in1.units0 hF I.ok.mod.kin J M.at_ M.fn (wpAny_mono (run_in1G (us := [.ref a]) (vs := [.ref a]) F hgd hr hb hx I (.cons rfl .nil) hsp) (fun w s' z => ?_) fun _ _ q => q)
  obtain ⟨v', H', I', rv, y, ey, q⟩ := z
  subst ey
  obtain ⟨tk, e⟩ := (show ∃ t, w = Value.str y t from rv)
  subst e
  exact ⟨.str y, H', I', ⟨_, rfl⟩, q⟩
theorem call_strG (M : Meth X.K C "__str__" f) (F : FnG X.prog X.w X.K X.mg X.base CX k f fd ps sp) (hgd : X.A.guards = some []) (hr : Room (k + 2) X.A) (hb : Binds X.K fd ps []) (hx : Passes CX X E) : CallR X (.type "str") (rStrOwn C sp E) := by
  intro pins s σ H xs us Q I r h
  obtain ⟨a, dx, fs, rfl, ha, hsp⟩ := h
  obtain ⟨u, rfl, rx⟩ := vals1 r
  cases (show u = Value.ref a from rx)
  obtain ⟨mA, O, _⟩ := ins_get I.hok ha
  obtain ⟨od, J, _⟩ := O.look
  refine PySem.W.kso_call hr.in1.in1.units0 I.kIn J M.at_ M.fn (wpAny_mono (run_in2G (us := [.ref a]) (vs := [.ref a]) F hgd hr hb hx I (.cons rfl .nil) hsp) (fun w s' z => ?_) fun _ _ q => q)
  obtain ⟨v', H', I', rv, y, ey, q⟩ := z
  subst ey
  obtain ⟨tk, e⟩ := (show ∃ t, w = Value.str y t from rv)
  subst e
  exact ⟨.str y, H', I', ⟨_, rfl⟩, q⟩
end
/-! ### the meanings -/
def D.isOb (c : Str) : D → Bool
  | .ob c' _ => decide (c' = c)
  | _ => false
def bOf (b : Bool) : Option D → Option D
  | some (.bl x) => some (.bl (if b then !x else x))
  | _ => none
def sOf : Option D → Option D
  | some (.str x) => some (.str x)
  | _ => none
theorem isOb_ob {c : Str} {d : D} (h : d.isOb c = true) : ∃ l, d = .ob c l := by
  unfold D.isOb at h
  split at h
  · rename_i c' l
    have := of_decide_eq_true h
    subst this
    exact ⟨l, rfl⟩
  · cases h
theorem bOf_some {b : Bool} {o : Option D} {z : D} (h : bOf b o = some z) : ∃ x, o = some (.bl x) ∧ z = .bl (if b then !x else x) := by
  unfold bOf at h
  split at h
  · cases h
    exact ⟨_, rfl, rfl⟩
  · cases h
theorem sOf_some {o : Option D} {z : D} (h : sOf o = some z) : ∃ x, o = some (.str x) ∧ z = .str x := by
  unfold sOf at h
  split at h
  · cases h
    exact ⟨_, rfl, rfl⟩
  · cases h
def oEqOwn (c : Str) (Φ : List D → Res) (d e : D) : Option D := if d.isOb c && (e.ty.isSome || e.isOb c) then bOf false (Φ [d, e]).val else none
def oInOwn (c : Str) (neg : Bool) (Φ : List D → Res) (e d : D) : Option D := if d.isOb c then bOf neg (Φ [d, e]).val else none
def oStrOwn (c : Str) (Φ : List D → Res) (d : D) : Option D := if d.isOb c then sOf (Φ [d]).val else none
def oLenOwn (c : Str) (Φ : List D → Res) (d : D) : Option D := if d.isOb c then (match (Φ [d]).val with
  | some (.int n) => if 0 ≤ n ∧ sm62 n = true then some (.int n) else none
  | _ => none) else none
def oIsO (c : Str) (d : D) : Option D := if d.isOb c then some (.bl true) else if d.ty.isSome then some (.bl false) else none
section
variable {X : Cx} {ct : Ct} {c : Str} {C : Addr} {ns : List Str} {Φ : List D → Res} {E : XK}
theorem tyx_of {K : PySem.W.Frag} {S : Addr → Prop} {H : Hp} {v : V} {d : D} (o : OwC K C) (hct : ct c = some (C, ns)) (r : Rp K ct (off S H) v d) (h : (d.ty.isSome || d.isOb c) = true) :
    (d.isOb c = true ∧ TyX K H v (.ref C)) ∨ ∃ t : Ty, d.isOb c = false ∧ TyX K H v (.type t.nm) := by
  cases e : d.isOb c with
  | true =>
    obtain ⟨l, rfl⟩ := isOb_ob e
    obtain ⟨a, C', dx, ns', vs, rfl, h1, h2, h3, h4⟩ := r.obE
    rw [hct] at h1
    cases h1
    exact .inl ⟨rfl, .base (.ins (off_le _ _ h3) o.cl o.u o.g o.k o.m)⟩
  | false =>
    rw [e, Bool.or_false] at h
    obtain ⟨t, ht⟩ := Option.isSome_iff_exists.mp h
    exact .inr ⟨t, rfl, r.tyx ht⟩
theorem opv_eqOwn (o : OwC X.K C) (hct : ct c = some (C, ns)) : OpV X.K ct (rEqOwn X.K C (spV X.K ct [false, false] Φ) E) (oEqOwn c Φ) := by
  intro S H x y d e z Q live rx ry ho hq
  unfold oEqOwn at ho
  split at ho
  · rename_i hc
    rw [Bool.and_eq_true] at hc
    obtain ⟨b, hb, rfl⟩ := bOf_some ho
    obtain ⟨nw, nl, hr⟩ := Res.val_ret hb
    have fin : spV X.K ct [false, false] Φ [x, y] H (fun v H' => ∃ b, v = .bl b ∧ Q (.bl b) H') E := spV_use live rfl (.cons rx (.one ry)) hr fun v H' s rv => ⟨b, rv.blE, hq _ H' s (.bl _)⟩
    obtain ⟨l, rfl⟩ := isOb_ob hc.1
    obtain ⟨a, C', dx, ns', vs, rfl, h1, h2, h3, h4⟩ := rx.obE
    rw [hct] at h1
    cases h1
    rcases tyx_of o hct ry hc.2 with ⟨_, ty⟩ | ⟨t, _, ty⟩
    · exact ⟨a, dx, _, _, rfl, off_le _ _ h3, ty, first_self, fin⟩
    · obtain ⟨l', e1, e2⟩ := ty_mro t C
      exact ⟨a, dx, _, _, rfl, off_le _ _ h3, ty, not_first e1 e2, fin⟩
  · cases ho
theorem opv_inOwn {neg : Bool} (hct : ct c = some (C, ns)) : OpV X.K ct (rInOwn neg C (spV X.K ct [false, false] Φ) E) (oInOwn c neg Φ) := by
  intro S H x y d e z Q live rx ry ho hq
  unfold oInOwn at ho
  split at ho
  · rename_i hc
    obtain ⟨b, hb, rfl⟩ := bOf_some ho
    obtain ⟨nw, nl, hr⟩ := Res.val_ret hb
    obtain ⟨l, rfl⟩ := isOb_ob hc
    have fin : spV X.K ct [false, false] Φ [y, x] H (fun v H' => ∃ b, v = .bl b ∧ Q (.bl (if neg then !b else b)) H') E := spV_use live rfl (.cons ry (.one rx)) hr fun v H' s rv => ⟨b, rv.blE, hq _ H' s (.bl _)⟩
    obtain ⟨a, C', dx, ns', vs, rfl, h1, h2, h3, h4⟩ := ry.obE
    rw [hct] at h1
    cases h1
    exact ⟨a, dx, _, rfl, off_le _ _ h3, fin⟩
  · cases ho
theorem cv_strOwn (hct : ct c = some (C, ns)) : CallV X.K ct (rStrOwn C (spV X.K ct [false] Φ) E) (o1 (oStrOwn c Φ)) := cv1 fun S H x d z Q live rx ho hq => by
  unfold oStrOwn at ho
  split at ho
  · rename_i hc
    obtain ⟨b, hb, rfl⟩ := sOf_some ho
    obtain ⟨nw, nl, hr⟩ := Res.val_ret hb
    obtain ⟨l, rfl⟩ := isOb_ob hc
    have fin : spV X.K ct [false] Φ [x] H (fun v H' => ∃ b, v = .str b ∧ Q (.str b) H') E := spV_use live rfl (.one rx) hr fun v H' s rv => ⟨b, rv.strE, hq _ H' s (.str _)⟩
    obtain ⟨a, C', dx, ns', vs, rfl, h1, h2, h3, h4⟩ := rx.obE
    rw [hct] at h1
    cases h1
    exact ⟨a, dx, _, rfl, off_le _ _ h3, fin⟩
  · cases ho
theorem cv_reprOwn (hct : ct c = some (C, ns)) : CallV X.K ct (rReprOwn C (spV X.K ct [false] Φ) E) (o1 (oStrOwn c Φ)) := cv_strOwn (X := X) hct
theorem cv_lenOwn (hct : ct c = some (C, ns)) : CallV X.K ct (rLenOwn C (spV X.K ct [false] Φ) E) (o1 (oLenOwn c Φ)) := cv1 fun S H x d z Q live rx ho hq => by
  unfold oLenOwn at ho
  split at ho
  · rename_i hc
    split at ho
    · rename_i n hb
      split at ho
      · rename_i hn
        cases ho
        obtain ⟨nw, nl, hr⟩ := Res.val_ret hb
        obtain ⟨l, rfl⟩ := isOb_ob hc
        have fin : spV X.K ct [false] Φ [x] H (fun v H' => ∃ n : Int, v = .int n ∧ 0 ≤ n ∧ n < 2 ^ 63 ∧ Q (.int n) H') E := spV_use live rfl (.one rx) hr fun v H' s rv => ⟨n, rv.intE, hn.1, by have := (sm62_ok hn.2).2; omega, hq _ H' s (.int _)⟩
        obtain ⟨a, C', dx, ns', vs, rfl, h1, h2, h3, h4⟩ := rx.obE
        rw [hct] at h1
        cases h1
        exact ⟨a, dx, _, rfl, off_le _ _ h3, fin⟩
      · cases ho
    · cases ho
  · cases ho
variable {B : Bs} {Z : ZX} {e : Expr} {f : Ev D} {pos px pc : Pos} {x : Str}
theorem de_isO (o : OwC X.K C) (hct : B.ct c = some (C, ns)) (hm : X.mg "isinstance" = none) (hg : Gl X "isinstance") (he : DE X B Z e f) (hgC : Gl X x) (hmC : X.mg x = some (.ref C)) (hdb : (x == ("__debug__" : Str)) = false := by decide)
    (hs : starEach [e, .Name x pc] X.env = (false, eval e X.env) :: starEach [.Name x pc] X.env := by rfl) (hs2 : starEach (.Name x pc :: []) X.env = (false, eval (.Name x pc) X.env) :: starEach [] X.env := by rfl)
    (hpl : (backTo pos (starEach [.Name x pc] X.env)).any (·.1) = false := by rfl) : DE X B Z (.Call (.Name "isinstance" px) [e, .Name x pc] [] pos) (fUn (oIsO c) f) :=
  ⟨PE.weak (pe_callB call_isi hg hm (by decide +kernel) (pa_cons he.pe (pa_cons (pe_glob (v := .ref C) hgC hmC rfl hdb) pa_nil hs2) hs) (by decide) (by decide) hs hpl) fun σ H Q ⟨G, env, cf, q⟩ => ⟨G, env, cf, post_imp (post_bind q) fun d e1 G1 H1 m1 c1 p1 v rv => by
    cases ho : oIsO c d with
    | none =>
      rw [ho] at p1
      exact p1.elim
    | some z =>
      rw [ho] at p1
      unfold oIsO at ho
      split at ho
      · rename_i hc
        cases ho
        rcases tyx_of o hct rv (by rw [hc, Bool.or_true]) with ⟨_, ty⟩ | ⟨t, h, _⟩
        · exact ⟨v, .ref C, _, _, _, rfl, .own _, ty, kit_self, p1 G1 H1 Mono.refl c1 _ (.bl _)⟩
        · rw [hc] at h
          cases h
      · rename_i hc
        split at ho
        · rename_i ht
          cases ho
          rcases tyx_of o hct rv (by rw [ht, Bool.true_or]) with ⟨h, _⟩ | ⟨t, _, ty⟩
          · exact absurd h hc
          · obtain ⟨l', e1, e2⟩ := ty_mro t C
            exact ⟨v, .ref C, _, _, _, rfl, .own _, ty, kit_other o e1 e2, p1 G1 H1 Mono.refl c1 _ (.bl _)⟩
        · cases ho⟩⟩
end
end Vl

set_option Elab.async false
set_option linter.all false
set_option maxRecDepth 100000
set_option maxHeartbeats 2000000
/-! Vz: constants of the module and of classes, f-strings, join, what a body lets out. -/
namespace Vl
open PySem PySem.Spec PyProof.Rows L2 Sb
/-- the address of a class -/
def cA (ct : Ct) (c : Str) : Addr := ((ct c).map (·.1)).getD 0
/-! what a def's body lets out -/
section
variable {P : Program} {w : World} {K : PySem.W.Frag} {mg : Str → Option Value} {base : Heap} {N : List Str} {qual : Str} {sc : Scope} {f : Addr} {cdv : Value} {A : Around} {out : List Env} {s : Shared} {H : Hp} {E : XK}
theorem tk_of : Takes (cxOf (L2.CX P w) P w K mg base N qual sc f cdv A out s H E) (fun cls d _ H => E cls d H) := takes_of rfl rfl rfl rfl
theorem pw_of : PassesOwn (model P w) (cxOf (L2.CX P w) P w K mg base N qual sc f cdv A out s H E).A (cxOf (L2.CX P w) P w K mg base N qual sc f cdv A out s H E).env (cxOf (L2.CX P w) P w K mg base N qual sc f cdv A out s H E).xe := passes_of (X := cxOf (L2.CX P w) P w K mg base N qual sc f cdv A out s H E) rfl
theorem ps_of : Passes (L2.CX P w) (cxOf (L2.CX P w) P w K mg base N qual sc f cdv A out s H E) E := passes_call tk_of (fun _ _ _ _ h => h)
end
/-- a constant of the module -/
def GC (K : PySem.W.Frag) (mg : Str → Option Value) (ct : Ct) (x : Str) (d : D) : Prop := ∃ v, (∃ u, mg x = some u ∧ RelV v u) ∧ ∀ F, Rp K ct F v d
section
variable {X : Cx} {B : Bs} {Z : ZX} {e o e2 : Expr} {es : List Expr} {pos pos' apos : Pos} {f g : Ev D} {x y c : Str} {d : D} {C : Addr}
theorem de_gc (h : GC X.K X.mg B.ct x d) (hg : Gl X x := by rfl) (hd : (x == ("__debug__" : Str)) = false := by decide) : DE X B Z (.Name x pos) (fC d) := by
  obtain ⟨v, h1, h2⟩ := h
  exact de_const (C8.pe_gc hg h1 hd) h2
/-- C.f, a constant of the class -/
theorem de_cval {v : V} (hm : X.mg x = some (.ref C)) (h : ∃ mc u, ClX.CRead X.K C mc ∧ ClX.CVal X.K C mc y v u) (r : ∀ F, Rp X.K B.ct F v d) (hg : Gl X x := by rfl) (hd : (x == ("__debug__" : Str)) = false := by decide)
    (hb : attributeBase (.Name x pos') y X.env (eval (.Name x pos') X.env) = eval (.Name x pos') X.env := by rfl) : DE X B Z (.Attribute (.Name x pos') y pos) (fC d) := by
  obtain ⟨mc, u, h1, h2⟩ := h
  exact ⟨PE.weak (ClX.pe_cval (pe_glob (v := .ref C) hg hm rfl hd) hb) fun σ H Q ⟨G, env, c, p⟩ => ⟨C, mc, v, u, rfl, h1, h2, p G H Mono.refl c v (r _)⟩⟩
/-- {} as a value -/
theorem de_newK : DE X B Z (.Dict [] [] pos) fDNewK :=
  ⟨PE.weak pe_dnewK fun σ H Q ⟨G, env, c, p⟩ q hq => p G _ (c.mono (Sb.Same.upd hq)) (c.same (Sb.Same.upd hq)) _ (.dk (ks := []) (vs := []) rfl (by rw [off_at fun z => c.live q z hq]; exact upd_same) .nil)⟩
/-! f-strings -/
def oFmt : D → Option D
  | .str y => if y.length ≤ sizeLine then some (.str y) else none
  | .int i => if i.natAbs.log2 < 1920 then some (.str (toString i)) else none
  | _ => none
def fFmt (f : Ev D) : Ev D := fun env => (f env).bind fun d e => Out.opt (oFmt d) e
theorem de_fmt (h : DE X B Z e f) : DE X B Z (.FormattedValue e (-1) none pos) (fFmt f) :=
  ⟨PE.weak (pe_fmt h.pe) fun σ H Q ⟨G, env, cf, q⟩ => ⟨G, env, cf, post_imp (post_bind q) fun d e1 G1 H1 m1 c1 p1 v rv => by
    cases ho : oFmt d with
    | none =>
      rw [ho] at p1
      exact p1.elim
    | some z =>
      rw [ho] at p1
      unfold oFmt at ho
      split at ho
      · split at ho
        · cases ho
          exact .inl ⟨_, rv.strE, by assumption, p1 G1 H1 Mono.refl c1 _ (.str _)⟩
        · cases ho
      · split at ho
        · cases ho
          exact .inr ⟨_, rv.intE, by assumption, p1 G1 H1 Mono.refl c1 _ (.str _)⟩
        · cases ho
      · cases ho⟩⟩
/-- the parts one behind the other -/
def fJs : List (Ev D) → Str → Ev D
  | [], acc, env => .val (.str acc) env
  | f :: fs, acc, env => (f env).bind fun d e => match d with
    | .str y => if (acc ++ y).length ≤ sizeLine then fJs fs (acc ++ y) e else .stuck
    | _ => .stuck
inductive DJ (X : Cx) (B : Bs) (Z : ZX) : List Expr → List (Ev D) → Prop where
  | nil : DJ X B Z [] []
  | cons {e : Expr} {f : Ev D} {es : List Expr} {fs : List (Ev D)} (h : DE X B Z e f) (r : DJ X B Z es fs) : DJ X B Z (e :: es) (f :: fs)
theorem DJ.pj {es : List Expr} {fs : List (Ev D)} (h : DJ X B Z es fs) : PJ X es (fs.map (liftE X.K B Z)) := by
  induction h with
  | nil => exact .nil
  | cons h r ih => exact .cons h.pe ih
theorem lift_js {σ : L2.St} : ∀ {fs : List (Ev D)} {acc : Str} {H : Hp} {Q : VK} {G : Gh} {env : List Slot}, Cfg X.K B G env σ H → postG X.K B Z G σ H (fJs fs acc env) (fun d _ G' H' => ∀ v, Rp X.K B.ct (off G'.S H') v d → Q v H') → tJs (fs.map (liftE X.K B Z)) acc σ H (fun out H1 => Q (.str out) H1)
  | [], acc, H, Q, G, env, c, q => q G H Mono.refl c _ (.str _)
  | f :: fs, acc, H, Q, G, env, c, q => by
    refine ⟨G, env, c, post_imp (post_bind q) fun d e1 G1 H1 m1 c1 p1 v rv => ?_⟩
    cases d with
    | str y =>
      simp only at p1
      by_cases hl : (acc ++ y).length ≤ sizeLine
      · rw [if_pos hl] at p1
        exact ⟨y, rv.strE, hl, lift_js c1 p1⟩
      · rw [if_neg hl] at p1
        exact p1.elim
    | _ => exact p1.elim
theorem de_joined {v1 v2 : Expr} {rest : List Expr} {fs : List (Ev D)} (h : DJ X B Z (v1 :: v2 :: rest) fs) : DE X B Z (.JoinedStr (v1 :: v2 :: rest) pos) (fJs fs Str.empty) :=
  ⟨PE.weak (pe_joined h.pj) fun σ H Q ⟨G, env, cf, q⟩ => lift_js cf q⟩
theorem de_joined1 (h : DE X B Z e f) : DE X B Z (.JoinedStr [e] pos) f := ⟨pe_joined1 h.pe⟩
/-! methods of texts -/
def fM0 (o : Str → Option D) (f : Ev D) : Ev D := fun env => (f env).bind fun d e => match d with
  | .str a => Out.opt (o a) e
  | _ => .stuck
def fM1 (o : Str → D → Option D) (f g : Ev D) : Ev D := fun env => (f env).bind fun d e => match d with
  | .str a => (g e).bind fun y e2 => Out.opt (o a y) e2
  | _ => .stuck
def M0V (K : PySem.W.Frag) (ct : Ct) (r : V → List V → Hp → VK → Prop) (o : Str → Option D) : Prop := ∀ (S : Addr → Prop) (H : Hp) (a : Str) (z : D) (Q : VK), (∀ a, S a → H a ≠ none) → o a = some z → (∀ v H', Same H H' → Rp K ct (off S H') v z → Q v H') → r (.str a) [] H Q
def M1V (K : PySem.W.Frag) (ct : Ct) (r : V → List V → Hp → VK → Prop) (o : Str → D → Option D) : Prop := ∀ (S : Addr → Prop) (H : Hp) (a : Str) (y : V) (d z : D) (Q : VK), (∀ a, S a → H a ≠ none) → Rp K ct (off S H) y d → o a d = some z → (∀ v H', Same H H' → Rp K ct (off S H') v z → Q v H') → r (.str a) [y] H Q
theorem lift_m0 {r : V → List V → Hp → VK → Prop} {m : Str → Option D} (ov : M0V X.K B.ct r m) (σ : L2.St) (H : Hp) (Q : VK) (h : liftE X.K B Z (fM0 m f) σ H Q) : tM0 r (liftE X.K B Z f) σ H Q := by
  obtain ⟨G, env, cf, q⟩ := h
  refine ⟨G, env, cf, post_imp (post_bind q) fun d e1 G1 H1 m1 c1 p1 v rv => ?_⟩
  cases d with
  | str a =>
    refine ⟨⟨_, rv.strE⟩, ?_⟩
    rw [rv.strE]
    simp only at p1
    cases ho : m a with
    | none =>
      rw [ho] at p1
      exact p1.elim
    | some z =>
      rw [ho] at p1
      exact ov G1.S H1 a z Q c1.live ho fun u H' s' ru => p1 G1 H' (c1.mono s') (c1.same s') u ru
  | _ => exact p1.elim
theorem lift_m1 {r : V → List V → Hp → VK → Prop} {m : Str → D → Option D} (ov : M1V X.K B.ct r m) (σ : L2.St) (H : Hp) (Q : VK) (h : liftE X.K B Z (fM1 m f g) σ H Q) : tM1 r (liftE X.K B Z f) (liftE X.K B Z g) σ H Q := by
  obtain ⟨G, env, cf, q⟩ := h
  refine ⟨G, env, cf, post_imp (post_bind q) fun d e1 G1 H1 m1 c1 p1 v rv => ?_⟩
  cases d with
  | str a =>
    refine ⟨⟨_, rv.strE⟩, G1, e1, c1, ?_⟩
    rw [rv.strE]
    simp only at p1
    refine post_imp (post_bind p1) fun d2 e2 G2 H2 m2 c2 p2 y ry => ?_
    cases ho : m a d2 with
    | none =>
      rw [ho] at p2
      exact p2.elim
    | some z =>
      rw [ho] at p2
      exact ov G2.S H2 a y d2 z Q c2.live ry ho fun u H' s' ru => p2 G2 H' (c2.mono s') (c2.same s') u ru
  | _ => exact p1.elim
theorem de_m0 {id : String} {name : Str} {r : V → List V → Hp → VK → Prop} {m : Str → Option D} (slot : PySem.Slot "str" name id) (ty : typeOf (.builtin id) = pure (.type "method_descriptor")) (rule : MtR X id r) (ov : M0V X.K B.ct r m) (ho : DE X B Z o f)
    (hbase : attributeBase o name X.env (eval o X.env) = eval o X.env := by rfl) (hline : (apos.endLine == pos.line) = true := by rfl) : DE X B Z (.Call (.Attribute o name apos) [] [] pos) (fM0 m f) :=
  ⟨PE.weak (pe_m0 slot ty rule ho.pe hbase hline) (lift_m0 ov)⟩
theorem de_m1 {id : String} {name : Str} {r : V → List V → Hp → VK → Prop} {m : Str → D → Option D} (slot : PySem.Slot "str" name id) (ty : typeOf (.builtin id) = pure (.type "method_descriptor")) (rule : MtR X id r) (ov : M1V X.K B.ct r m) (ho : DE X B Z o f) (he : DE X B Z e g)
    (hs : starEach [e] X.env = [(false, eval e X.env)] := by rfl) (hbase : attributeBase o name X.env (eval o X.env) = eval o X.env := by rfl) (hline : (apos.endLine == pos.line) = true := by rfl) : DE X B Z (.Call (.Attribute o name apos) [e] [] pos) (fM1 m f g) :=
  ⟨PE.weak (pe_m1 slot ty rule ho.pe he.pe hs hbase hline) (lift_m1 ov)⟩
/-- sep.join(xs) -/
def oJoin (a : Str) : D → Option D
  | .lst l => (strsOf l).bind fun ys => if (ys.map (·.length)).sum + ys.length * a.length ≤ 16777216 then some (.str (Txt.join a ys)) else none
  | _ => none
theorem mv_join : M1V X.K B.ct (fun x xs H Q => ∃ a p, ∃ ys : List Str, x = .str a ∧ xs = [.ref p] ∧ (SqL X.K H p (ys.map V.str) ∨ SqT X.K H p (ys.map V.str)) ∧ (ys.map (·.length)).sum + ys.length * a.length ≤ 16777216 ∧ Q (.str (Txt.join a ys)) H) oJoin := by
  intro S H a y d z Q live ry ho hq
  unfold oJoin at ho
  split at ho
  · rename_i l
    cases hs : strsOf l with
    | none =>
      rw [hs] at ho
      cases ho
    | some ys =>
      rw [hs] at ho
      simp only [Option.bind_some] at ho
      split at ho
      · cases ho
        obtain ⟨p, vs, rfl, h1, t1⟩ := ry.lstE
        have e := strs_v (X := X) t1 hs
        subst e
        exact ⟨a, p, ys, rfl, rfl, .inl (SqL.of (off_le _ _ h1)), by assumption, hq _ H (Same.refl _) (.str _)⟩
      · cases ho
  · cases ho
theorem de_join (ho : DE X B Z o f) (he : DE X B Z e g) (hs : starEach [e] X.env = [(false, eval e X.env)] := by rfl) (hbase : attributeBase o "join" X.env (eval o X.env) = eval o X.env := by rfl) (hline : (apos.endLine == pos.line) = true := by rfl) :
    DE X B Z (.Call (.Attribute o "join" apos) [e] [] pos) (fM1 oJoin f g) := de_m1 PySem.F.slot_str_join PySem.F.type_str_join mt_join mv_join ho he hs hbase hline
end
/-! x not in a tuple -/
section
variable {X : Cx} {ct : Ct}
def rNotInT (K : PySem.W.Frag) : R2 := fun x y H Q => ∃ d ds, Dp K H x d ∧ Dp K H y (.tuple ds) ∧ SeqAt.shaped d = true ∧ SeqAt.shaped (.tuple ds) = true ∧ Q (.bl (!(ds.any fun z => PyData.eqv z d))) H
theorem op_notInT (hu : X.A.units + 66 < cLine) : OpR X (compareOp .NotIn) (rNotInT X.K) := by
  intro pins s σ H x y v u Q I rx ry h
  obtain ⟨d, ds, hd, he, sd, se, q⟩ := h
  obtain ⟨as, r1⟩ := Dp.reads I d x v hd rx
  obtain ⟨bs, r2⟩ := Dp.reads I (.tuple ds) y u he ry
  have dd : d.depth ≤ 64 := by
    have h' : (d.canLay0 && decide (d.depth ≤ 64)) = true := sd
    rw [Bool.and_eq_true] at h'
    exact of_decide_eq_true h'.2
  have cs : PyData.canLayAll0 ds = true := by
    have := SeqAt.canLay_of_shaped se
    simpa [PyData.canLay0] using this
  exact SeqAt.notIn_tuple_reads r2 r1 cs (SeqAt.canLay_of_shaped sd) (by have := Nat.min_le_right (PyData.depthAll ds) d.depth; omega) ⟨.bl _, H, I, rfl, q⟩
theorem opv_notInT : OpV X.K ct (rNotInT X.K) (oInT true) := by
  intro S H x y d e z Q live rx ry ho hq
  unfold oInT at ho
  split at ho <;> first | cases ho | skip
  all_goals
    rename_i l
    split at ho
    · rename_i c
      cases ho
      simp only [D.eok, Bool.and_eq_true] at c
      have h2 := (ry.mono off_le).dp c.2.1
      simp only [D.py] at h2 c
      refine ⟨_, D.pyAll l, (rx.mono off_le).dp c.1.1, h2, c.1.2, c.2.2, ?_⟩
      rw [any_py]
      exact hq _ H (Same.refl _) (.bl _)
    · cases ho
end
section
variable {X : Cx} {B : Bs} {Z : ZX} {a b e : Expr} {pos xpos apos cpos px : Pos} {f g : Ev D} {x : Str}
/-! x.pop() -/
theorem dpop (i : Nat) (hN : X.N[i]? = some x := by rfl) (hv : Vis X.env.scope x := by first | exact Or.inl rfl | exact Or.inr (Or.inl rfl) | exact Or.inr (Or.inr rfl)) (hd : (x == ("__debug__" : Str)) = false := by decide) (hcd : (x == ("__classdict__" : Str)) = false := by decide)
    (hbase : attributeBase (.Name x xpos) "pop" X.env (eval (.Name x xpos) X.env) = eval (.Name x xpos) X.env := by rfl) (hline : (apos.endLine == cpos.line) = true := by rfl) : DE X B Z (.Call (.Attribute (.Name x xpos) "pop" apos) [] [] cpos) (fPop i) :=
  ⟨PE.weak (pe_bm0 PySem.F.plainAttrs_list PySem.F.slot_list_pop PySem.F.type_list_pop mt_pop (pe_var hN hv hd hcd) hbase hline) fun σ H Q ⟨G, env, c, q⟩ => by
    unfold fPop at q
    cases h0 : slotL env i with
    | none =>
      rw [h0] at q
      exact q.elim
    | some p0 =>
      obtain ⟨b0, l⟩ := p0
      rw [h0] at q
      simp only at q
      obtain ⟨a, r1, r2, vs, r3, r4⟩ := c.own (slotL_own h0)
      cases h1 : l[l.length - 1]? with
      | none =>
        rw [h1] at q
        exact q.elim
      | some d =>
        rw [h1] at q
        obtain ⟨v, g1, g2⟩ := r4.get' h1
        rw [← r4.len] at g1
        refine ⟨_, r2, .inl ⟨rfl, _, SqL.of r3⟩, a, vs, v, rfl, rfl, r3, g1, ?_⟩
        have m := Mono.chg (o := .lst vs.dropLast) r1 (c.hid i a r1) (H := H)
        exact q G _ m (c.chg r1 (slotL_own h0) ⟨vs.dropLast, upd_same, r4.dropLast⟩) v (g2.mono m.same)⟩
/-! the truth of an owned thing -/
def fTruO (i : Nat) : Ev Bool := fun env => match slotO env i with
  | some (_, d) => Out.opt d.tru env
  | none => match env[i]? with
    | some (.sh d) => Out.opt d.tru env
    | _ => .stuck
theorem own_tru {S : Addr → Prop} {H : Hp} {p : Addr} {d : D} {k : Bool} (w : OwnAt X.K B.ct H (off S H) p d) (e : d.tru = some k) : TruV X.K (.ref p) H k := by
  cases d with
  | lst l =>
    obtain ⟨vs, h1, h2⟩ := w
    cases e
    exact .inl ⟨vs, SqL.of h1, by rw [h2.emp]⟩
  | dk ks l =>
    obtain ⟨vs, hl, h1, h2⟩ := w
    cases e
    exact .inr (.inr ⟨_, h1, by rw [zip_emp hl h2.len]⟩)
  | dt ks l => cases e
  | ob c l => cases e
  | _ => exact w.elim
theorem dt_truO (i : Nat) (hN : X.N[i]? = some x := by rfl) (hv : Vis X.env.scope x := by first | exact Or.inl rfl | exact Or.inr (Or.inl rfl) | exact Or.inr (Or.inr rfl)) (hd : (x == ("__debug__" : Str)) = false := by decide) (hcd : (x == ("__classdict__" : Str)) = false := by decide)
    (he : ∀ whole, isTrue (.Name x pos) X.env whole = (do let v ← whole; standAt (Expr.Name x pos).pos; holding [v] (truthy v)) := by intro _; rfl) : DT X B Z (.Name x pos) (fTruO i) :=
  ⟨PT.weak (pt_truth (pe_var hN hv hd hcd) he) fun σ H Q ⟨G, env, c, q⟩ => by
    unfold fTruO at q
    split at q
    · rename_i b d h0
      obtain ⟨a, r1, r2, r3⟩ := c.own (slotO_own h0)
      cases ho : d.tru with
      | none =>
        rw [ho] at q
        exact q.elim
      | some k =>
        rw [ho] at q
        exact ⟨_, r2, k, own_tru r3 ho, q G H Mono.refl c⟩
    · split at q
      · rename_i d hd
        obtain ⟨v, h1, h2⟩ := c.sh i d hd
        cases ho : d.tru with
        | none =>
          rw [ho] at q
          exact q.elim
        | some k =>
          rw [ho] at q
          exact ⟨v, h1, k, tru_v h2 ho, q G H Mono.refl c⟩
      · exact q.elim⟩
/-! list(d), the keys of an owned dict -/
def keyD : Key → D
  | .inl i => .int i
  | .inr s => .str s
def fListD (i : Nat) : Ev D := fun env => match slotO env i with
  | some (_, .dk ks _) => .val (.lst (ks.map keyD)) env
  | _ => .stuck
theorem Rps.keys {K : PySem.W.Frag} {ct : Ct} {F : Hp} : ∀ {ks : List Key} {vs : List V}, ks.length = vs.length → Rps K ct F ((ks.zip vs).map fun kv => kV kv.1) (ks.map keyD)
  | [], [], _ => .nil
  | k :: ks, v :: vs, h => by
    refine .cons ?_ (Rps.keys (by simpa using h))
    cases k with
    | inl i => exact .int i
    | inr s => exact .str s
theorem delistD (i : Nat) (hc : X.calm = true := by rfl) (hm : X.mg "list" = none) (hg : Gl X "list" := by rfl) (hN : X.N[i]? = some x := by rfl) (hv : Vis X.env.scope x := by first | exact Or.inl rfl | exact Or.inr (Or.inl rfl) | exact Or.inr (Or.inr rfl)) (hd : (x == ("__debug__" : Str)) = false := by decide) (hcd : (x == ("__classdict__" : Str)) = false := by decide)
    (he : starEach [.Name x xpos] X.env = (false, eval (.Name x xpos) X.env) :: starEach [] X.env := by rfl) (hpl : (backTo pos (starEach [] X.env)).any (·.1) = false := by rfl) : DE X B Z (.Call (.Name "list" px) [.Name x xpos] [] pos) (fListD i) :=
  ⟨PE.weak (pe_callTy (call_list_dK hc) hg hm (by decide +kernel) (pa_cons (pe_var hN hv hd hcd) pa_nil he) (by decide) (by decide) he hpl) fun σ H Q ⟨G, env, c, q⟩ => by
    unfold fListD at q
    split at q
    · rename_i b ks l h0
      obtain ⟨a, r1, r2, vs, hl, r3, r4⟩ := c.own (slotO_own h0)
      refine ⟨_, r2, a, _, rfl, r3, fun p hp => ?_⟩
      exact q G _ (c.mono (Sb.Same.upd hp)) (c.same (Sb.Same.upd hp)) _ (new_lst c.live hp (Rps.keys hl))
    · exact q.elim⟩
theorem dnlistD (i : Nat) (hc : X.calm = true := by rfl) (hm : X.mg "list" = none) (hg : Gl X "list" := by rfl) (hN : X.N[i]? = some x := by rfl) (hv : Vis X.env.scope x := by first | exact Or.inl rfl | exact Or.inr (Or.inl rfl) | exact Or.inr (Or.inr rfl)) (hd : (x == ("__debug__" : Str)) = false := by decide) (hcd : (x == ("__classdict__" : Str)) = false := by decide)
    (he : starEach [.Name x xpos] X.env = (false, eval (.Name x xpos) X.env) :: starEach [] X.env := by rfl) (hpl : (backTo pos (starEach [] X.env)).any (·.1) = false := by rfl) : DN X B Z (.Call (.Name "list" px) [.Name x xpos] [] pos) (fListD i) :=
  ⟨PE.weak (pe_callTy (call_list_dK hc) hg hm (by decide +kernel) (pa_cons (pe_var hN hv hd hcd) pa_nil he) (by decide) (by decide) he hpl) fun σ H Q ⟨G, env, c, q⟩ => by
    unfold fListD at q
    split at q
    · rename_i b ks l h0
      obtain ⟨a, r1, r2, vs, hl, r3, r4⟩ := c.own (slotO_own h0)
      refine ⟨_, r2, a, _, rfl, r3, fun p hp => ?_⟩
      exact put_new c hp hp (Rps.keys hl) q
    · exact q.elim⟩
/-! {k: v} -/
def fDOne (f g : Ev D) : Ev D := fun env => (f env).bind fun k e1 => (g e1).bind fun d e2 => match keyOf k with
  | some y => .val (.dk [y] [d]) e2
  | none => .stuck
theorem dn_oneK (ha : DE X B Z a f) (hb : DE X B Z b g) : DN X B Z (.Dict [some a] [b] pos) (fDOne f g) :=
  ⟨PE.weak (pe_disp (pps_cons ha.pe hb.pe pps_nil) (by rfl) (by rfl) (fun z => by cases z) (by show 1 ≤ 15; omega)) fun σ H Q ⟨G, env, c, q⟩ p hp => by
    have c0 := c.hide (o := .dK []) hp
    have m0 := Mono.hide (o := .dK []) hp c.live
    have un : ∀ i, G.r i ≠ some p := fun i z => c.unS hp (c.hid i p z)
    unfold fDOne at q
    refine ⟨G.hide p, env, c0, ?_⟩
    cases hf : f env with
    | stuck =>
      rw [hf] at q
      exact q.elim
    | exc cc as e1 =>
      rw [hf] at q
      exact fun G' H' dd m' c' x => q G' H' dd (m0.trans m') c' x
    | val k e1 =>
      rw [hf] at q
      intro G1 H1 m1 c1 kv rk
      refine ⟨G1, e1, c1, ?_⟩
      simp only [Out.bind] at q
      cases hg : g e1 with
      | stuck =>
        rw [hg] at q
        exact q.elim
      | exc cc as e2 =>
        rw [hg] at q
        exact fun G' H' dd m' c' x => q G' H' dd ((m0.trans m1).trans m') c' x
      | val d e2 =>
        rw [hg] at q
        intro G2 H2 m2 c2 v rv
        simp only at q
        cases hk : keyOf k with
        | none =>
          rw [hk] at q
          exact q.elim
        | some y =>
          rw [hk] at q
          have ek := keyOf_v rk hk
          obtain ⟨x1, x2, x3⟩ := m1.tmp p (.inr rfl) (fun i z => un i z)
          obtain ⟨y1, y2, y3⟩ := m2.tmp p x1 x2
          have eH : H2 p = some (.dK []) := by rw [y3, x3, upd_same]
          refine ⟨eH, [(y, v)], by rw [ek]; rfl, (by show 1 ≤ 15; omega), ?_⟩
          have mm := ((m0.trans m1).trans m2).tmpUpd (o := .dK (mergeK [] [(y, v)])) y1 (c.unS hp)
          exact q G2 _ mm (c2.tmpUpd y1 y2) p hp y1 y2 ⟨[v], rfl, upd_same, .one (rv.mono (fun b u h => by
            obtain ⟨n, h⟩ := off_inv h
            rw [off_at n, upd_ne fun z => n (by rw [z]; exact y1)]
            exact h))⟩⟩
end
/-! tuples added, any ones -/
def oCatA : D → D → Option D
  | .tup l, .tup m => if l.length + m.length ≤ sizeLine then some (.tup (l ++ m)) else none
  | _, _ => none
theorem opv_catA {X : Cx} {ct : Ct} : OpV X.K ct (rCatA X.K) oCatA := by
  intro S H x y d e z Q live rx ry ho hq
  unfold oCatA at ho
  split at ho
  · rename_i l m
    split at ho
    · rename_i c
      cases ho
      have ry0 := ry
      obtain ⟨a, vs, rfl, h1, t1⟩ := rx.tupP
      obtain ⟨b, ws, rfl, h2, t2⟩ := ry.tupE
      have hl1 := t1.len
      have hl2 := t2.len
      refine ⟨_, _, _, _, rfl, rfl, SqT.of (off_le _ _ h1), sqT_le h2, by rw [hl1, hl2]; exact c, fun e => ?_, fun _ e => ?_, fun _ _ p hp => hq _ _ (Sb.Same.upd hp) (new_tup live hp (t1.app t2))⟩
      · have em : l = [] := List.length_eq_zero_iff.mp (by rw [← hl1, e]; rfl)
        subst em
        exact hq _ H (Same.refl _) ry0
      · have em : m = [] := List.length_eq_zero_iff.mp (by rw [← hl2, e]; rfl)
        subst em
        rw [List.append_nil] at hq
        exact hq _ H (Same.refl _) (.tup h1 t1)
    · cases ho
  · cases ho
/-! defs, methods, classes -/
section
variable (P : Program) (w : World) (K : PySem.W.Frag) (mg : Str → Option Value) (base : Heap)
/-- a def that may raise -/
structure VxX (k : Nat) (x : Str) (f : Addr) (fd : FuncData) (ps : List Str) (ct : Ct) (m : List Bool) (Φ : List D → Res) : Prop where
  ok : FnG P w K mg base (L2.CX P w) k f fd ps (spV K ct m Φ)
  mg : mg x = some (.ref f)
  kp : PySem.W.keepIn K (.ref f) = true
  bd : Binds K fd ps []
/-- a method of a class -/
structure Vm (CX : CXT) (k : Nat) (C : Addr) (n : Str) (f : Addr) (fd : FuncData) (ps : List Str) (ct : Ct) (m : List Bool) (Φ : List D → Res) : Prop where
  mt : Meth K C n f
  ok : FnG P w K mg base CX k f fd ps (spV K ct m Φ)
  bd : Binds K fd ps []
/-- a class with its __init__ -/
structure Vc (CX : CXT) (k : Nat) (x : Str) (C : Addr) (f : Addr) (fd : FuncData) (ps : List Str) (ct : Ct) (m : List Bool) (Φ : List D → Res) : Prop where
  mkC : Mk K C f
  ok : FnG P w K mg base CX k f fd ps (spV K ct m Φ)
  mg : mg x = some (.ref C)
  bd : Binds K fd ps []
end
theorem len_nil : ∀ env l e', fNil env = .val l e' → l.length = 0 := fun env l e' h => by
  cases h
  rfl
theorem len_cons {f : Ev D} {fs : Ev (List D)} {n : Nat} (h : ∀ env l e', fs env = .val l e' → l.length = n) : ∀ env l e', fCons f fs env = .val l e' → l.length = n + 1 := fun env l e' q => by
  unfold fCons at q
  cases h1 : f env with
  | val d e1 =>
    rw [h1] at q
    simp only [Out.bind] at q
    cases h2 : fs e1 with
    | val l2 e2 =>
      rw [h2] at q
      cases q
      rw [List.length_cons, h _ _ _ h2]
    | stuck =>
      rw [h2] at q
      cases q
    | exc c as e2 =>
      rw [h2] at q
      cases q
  | stuck =>
    rw [h1] at q
    cases q
  | exc c as e2 =>
    rw [h1] at q
    cases q
end Vl

set_option Elab.async false
set_option linter.all false
set_option maxRecDepth 100000
set_option maxHeartbeats 2000000
/-! Vy: calls that only look at what is owned. -/
namespace Vl
open PySem PySem.Spec PyProof.Rows L2 Sb
def D.atom : D → Bool
  | .non | .bl _ | .int _ | .str _ => true
  | _ => false
/-- what can hold nothing of what was looked at -/
def flatR : Bool → D → Bool
  | true, .lst l => l.all D.atom
  | _, d => d.atom
theorem Rp.atom {K : PySem.W.Frag} {ct : Ct} {F F' : Hp} {v : V} {d : D} (r : Rp K ct F v d) (h : d.atom = true) : Rp K ct F' v d := by
  cases r with
  | non => exact .non
  | bl b => exact .bl b
  | int i => exact .int i
  | str s => exact .str s
  | _ => cases h
theorem Rps.atoms {K : PySem.W.Frag} {ct : Ct} {F F' : Hp} : ∀ {l : List D} {vs : List V}, Rps K ct F vs l → l.all D.atom = true → Rps K ct F' vs l
  | [], _, r, _ => by
    cases r
    exact .nil
  | d :: l, _, r, h => by
    rw [List.all_cons, Bool.and_eq_true] at h
    cases r with
    | cons r t => exact .cons (r.atom h.1) (t.atoms h.2)
/-- a call that looks at owned things -/
def fCallL (m : List Bool) (Φ : List D → Res) (fs : Ev (List Ag)) : Ev D := fun env => (fs env).bind fun l e => match agDs e l with
  | none => .stuck
  | some ds => if l.map (fun _ => false) = m then (match Φ ds with
    | .ret n r _ => if flatR n r then .val r e else .stuck
    | _ => .stuck) else .stuck
section
variable {X : Cx} {B : Bs} {Z : ZX} {CX : CXT} {k : Nat} {f : Addr} {fd : FuncData} {ps : List Str} {E : XK} {x : Str} {p pos : Pos} {e : Expr} {es : List Expr} {m : List Bool} {Φ : List D → Res} {fs : Ev (List Ag)}
theorem look_args {K : PySem.W.Frag} {B : Bs} {G : Gh} {env : List Slot} {σ : L2.St} {H : Hp} {S : Addr → Prop} (c : Cfg K B G env σ H) (hS : ∀ x, S x → G.S x) : ∀ {l : List Ag} {vs : List V} {ds : List D}, (∀ i a, i ∈ ioSlots l → G.r i = some a → ¬ S a) → Paired (fun v (g : Ag) => match g with
  | .inl d => Rp K B.ct (off G.S H) v d
  | .inr i => σ[i]? = some (some v)) vs l → agDs env l = some ds → Rps K B.ct (off S H) vs ds
  | [], _, ds, _, .nil, h => by
    cases h
    exact .nil
  | g :: l, v :: vs, ds, nS, .cons r t, h => by
    unfold agDs at h
    split at h
    · rename_i d ds' e1 e2
      cases h
      have le : Same (off G.S H) (off S H) := fun x u h => by
        obtain ⟨n, h⟩ := off_inv h
        rw [off_at fun z => n (hS x z)]
        exact h
      refine .cons ?_ (look_args c hS (fun i a hi => nS i a ?_) t e2)
      · cases g with
        | inl d0 =>
          cases e1
          exact r.mono le
        | inr i =>
          obtain ⟨b, ho⟩ := agD_own e1
          obtain ⟨a, g1, g2, g3⟩ := c.own ho
          have r : σ[i]? = some (some v) := r
          rw [g2] at r
          cases r
          exact (g3.mono rfl le).rp (off_at (nS i a (by simp [ioSlots]) g1))
      · cases g with
        | inl d0 => exact hi
        | inr j => exact List.mem_cons_of_mem _ hi
    · cases h
theorem lift_callL (σ : L2.St) (H : Hp) (Q : VK) (h : liftE X.K B Z (fCallL m Φ fs) σ H Q) : tCall (spV X.K B.ct m Φ) [] E (liftAi X.K B Z fs) σ H Q := by
  obtain ⟨G, env, c, q⟩ := h
  refine ⟨G, env, c, post_imp (post_bind q) fun l e1 G1 H1 m1 c1 p1 vs rvs => ?_⟩
  cases had : agDs e1 l with
  | none =>
    rw [had] at p1
    exact p1.elim
  | some ds =>
    rw [had] at p1
    simp only [] at p1
    by_cases hc : l.map (fun _ => false) = m
    · rw [if_pos hc] at p1
      have ra := look_args (S := fun x => G1.S x ∧ ∀ i, i ∈ ioSlots l → G1.r i ≠ some x) c1 (fun x h => h.1) (fun i a hi e z => z.2 i hi e) rvs had
      have sm : ∀ {H' : Hp} {S' : Addr → Prop} {ns : List D}, Frame X.K B.ct (fun x => G1.S x ∧ ∀ i, i ∈ ioSlots l → G1.r i ≠ some x) S' (fun _ => none) H1 H' ns → Same H1 H' := fun {H' S' ns} fr x u hx => by
        by_cases hs : G1.S x ∧ ∀ i, i ∈ ioSlots l → G1.r i ≠ some x
        · rw [fr.hold x hs fun j z => by cases z]
          exact hx
        · exact (off_inv (fr.same x u (by rw [off_at hs]; exact hx))).2
      have ml : ∀ {j : Nat} {b : Bool}, m[j]? = some b → b = false := fun {j b} h => by
        rw [← hc] at h
        obtain ⟨_, _, z⟩ := List.mem_map.mp (List.mem_of_getElem? h)
        exact z.symm
      have lm : m.length = l.length := by rw [← hc, List.length_map]
      refine ⟨fun x => G1.S x ∧ ∀ i, i ∈ ioSlots l → G1.r i ≠ some x, fun _ => none, ds, ⟨?_, ?_, fun j v d h1 h2 h3 => ?_, fun j v d h1 => ?_, (fun j a h => nomatch h), (fun j a h => nomatch h), (fun i j a h => nomatch h), fun a h => c1.live a h.1⟩, ?_⟩
      · rw [List.append_nil, lm, ra.len]
        exact agDs_len had
      · rw [lm]
        exact agDs_len had
      · rw [List.append_nil] at h2
        obtain ⟨d', e1', e2⟩ := ra.get h2
        rw [h3] at e1'
        cases e1'
        exact e2
      · cases ml h1
      · cases hr : Φ ds with
        | stuck =>
          rw [hr] at p1
          exact p1.elim
        | exc cc as ns =>
          rw [hr] at p1
          exact p1.elim
        | ret n r ns =>
          rw [hr] at p1
          simp only [] at p1
          by_cases hf : flatR n r = true
          · rw [if_pos hf] at p1
            cases n with
            | false =>
              intro v H' fr rv
              have s := sm fr
              have ha : r.atom = true := by cases r <;> first | exact hf | (exact hf)
              exact p1 G1 H' (c1.mono s) (c1.same s) v (rv.atom ha)
            | true =>
              intro a H' hn fr ho
              have s := sm fr
              cases r with
              | lst l2 =>
                obtain ⟨ws, h1, h2⟩ := ho
                refine p1 G1 H' (c1.mono s) (c1.same s) _ (.lst (vs := ws) ?_ (h2.atoms hf))
                rw [off_at (c1.unS hn)]
                exact h1
              | non | bl | int | str | tup | ctup | scr | cl => exact ho.elim
              | ob | dk | dt => cases hf
          · rw [if_neg hf] at p1
            exact p1.elim
    · rw [if_neg hc] at p1
      exact p1.elim
theorem de_callL (F : FnG X.prog X.w X.K X.mg X.base CX k f fd ps (spV X.K B.ct m Φ)) (hgd : X.A.guards = some []) (hr : Room k X.A) (hg : Gl X x) (hm : X.mg x = some (.ref f)) (hk : PySem.W.keepIn X.K (.ref f) = true) (hb : Binds X.K fd ps []) (hd : Vals [] []) (hx : Passes CX X E)
    (ha : DAi X B Z (e :: es) fs) (hdb : (x == ("__debug__" : Str)) = false := by decide) (he : starEach (e :: es) X.env = (false, eval e X.env) :: starEach es X.env := by rfl)
    (hpl : (backTo pos (starEach es X.env)).any (·.1) = false := by rfl) : DE X B Z (.Call (.Name x p) (e :: es) [] pos) (fCallL m Φ fs) :=
  ⟨PE.weak (pe_callG F hgd hr hg hm hk hb hd hx ha.pa hdb he hpl) lift_callL⟩
end
end Vl

set_option Elab.async false
set_option linter.all false
set_option maxRecDepth 100000
set_option maxHeartbeats 2000000
/-! Vta: try .. except C as e: return .. over data. -/
namespace Vl
open PySem PySem.Spec PyProof.Rows L2 Sb
/-- what the body of a try lets out -/
def ZW (ct : Ct) (W : WX) : ZX := fun c as env G σ H dd => ∀ C nm, ct c = some (C, nm) → W (.ref C) (some dd) σ H
theorem zW {ct : Ct} {W : WX} : ∀ c as env G σ H dd C nm, ct c = some (C, nm) → ZW ct W c as env G σ H dd → (fun (σ : L2.St) (cls : Value) (d : Option Addr) (H : Hp) => W cls d σ H) σ (.ref C) (some dd) H := fun _ _ _ _ _ _ _ C nm h z => z C nm h
theorem passW {X : Cx} {W : WX} (tk : Takes X W) (σ : L2.St) : PassesS (L2.CX X.prog X.w) X σ ((fun (σ : L2.St) (cls : Value) (d : Option Addr) (H : Hp) => W cls d σ H) σ) := fun _ _ _ e s' I c => tk e s' (XE.of_call I (fun _ _ _ h => h) c)
/-- an expression of a caught error's fields -/
def tX (K : PySem.W.Frag) (ct : Ct) (i : Nat) (c : Str) (a : Addr) (d : Option Addr) (g : List D → Option D) : TE := fun σ H Q => ∃ (S : Addr → Prop) (dd : Addr) (l : List D) (z : D), d = some dd ∧ σ[i]? = some (some (.ref a)) ∧ ExcAt K ct (off S H) dd c l ∧ (∀ x, S x → H x ≠ none) ∧ g l = some z ∧
  ∀ v H', Same H H' → Rp K ct (off S H') v z → Q v H'
def tXs (K : PySem.W.Frag) (ct : Ct) (i : Nat) (c : Str) (a : Addr) (d : Option Addr) (g : List D → Option (List D)) : TA := fun σ H Q => ∃ (S : Addr → Prop) (dd : Addr) (l : List D) (z : List D), d = some dd ∧ σ[i]? = some (some (.ref a)) ∧ ExcAt K ct (off S H) dd c l ∧ (∀ x, S x → H x ≠ none) ∧ g l = some z ∧
  ∀ v H', Same H H' → Rps K ct (off S H') v z → Q v H'
structure XD (X : Cx) (ct : Ct) (i : Nat) (c : Str) (a : Addr) (d : Option Addr) (e : Expr) (g : List D → Option D) : Prop where
  pe : PE X e (tX X.K ct i c a d g)
structure XDs (X : Cx) (ct : Ct) (i : Nat) (c : Str) (a : Addr) (d : Option Addr) (es : List Expr) (g : List D → Option (List D)) : Prop where
  pa : PA X es (tXs X.K ct i c a d g)
theorem ExcAt.mono {K : PySem.W.Frag} {ct : Ct} {F F' : Hp} {dd : Addr} {c : Str} {l : List D} (s : Same F F') (h : ExcAt K ct F dd c l) : ExcAt K ct F' dd c l := by
  obtain ⟨C, ns, vs, h1, h2, h3, h4⟩ := h
  exact ⟨C, ns, vs, h1, h2, s _ _ h3, h4.mono s⟩
theorem off_same2 {S : Addr → Prop} {H H' : Hp} (live : ∀ x, S x → H x ≠ none) (s : Same H H') : Same (off S H) (off S H') := off_same s
theorem live_same {S : Addr → Prop} {H H' : Hp} (live : ∀ x, S x → H x ≠ none) (s : Same H H') : ∀ x, S x → H' x ≠ none := fun x hx => same_dom s x (live x hx)
section
variable {X : Cx} {ct : Ct} {i : Nat} {c : Str} {C a : Addr} {d : Option Addr} {e : Expr} {es : List Expr} {g : List D → Option D} {gs : List D → Option (List D)} {pos : Pos}
def gK (z : D) : List D → Option D := fun _ => some z
def gF (j : Nat) : List D → Option D := fun l => l[j]?
def gNil : List D → Option (List D) := fun _ => some []
def gCons (g : List D → Option D) (gs : List D → Option (List D)) : List D → Option (List D) := fun l => match g l, gs l with
  | some x, some xs => some (x :: xs)
  | _, _ => none
def gTup (gs : List D → Option (List D)) : List D → Option D := fun l => match gs l with
  | some xs => if xs.length ≤ 1000 then some (.tup xs) else none
  | none => none
def gLst (gs : List D → Option (List D)) : List D → Option D := fun l => match gs l with
  | some xs => if xs.length ≤ 1000 then some (.lst xs) else none
  | none => none
theorem xd_const {v : V} {z : D} (he : PE X e (tC v)) (hv : ∀ F, Rp X.K ct F v z) : XD X ct i c a d e (gK z) :=
  ⟨PE.weak he fun σ H Q ⟨S, dd, l, z', _, _, _, _, hz, q⟩ => by
    cases hz
    exact q v H (Same.refl _) (hv _)⟩
theorem xds_nil : XDs X ct i c a d [] gNil :=
  ⟨PA.weak pa_nil fun σ H Q ⟨S, dd, l, z', _, _, _, _, hz, q⟩ => by
    cases hz
    exact q [] H (Same.refl _) .nil⟩
theorem xds_cons (he : XD X ct i c a d e g) (hr : XDs X ct i c a d es gs) (hs : starEach (e :: es) X.env = (false, eval e X.env) :: starEach es X.env := by rfl) : XDs X ct i c a d (e :: es) (gCons g gs) :=
  ⟨PA.weak (pa_cons he.pe hr.pa hs) fun σ H Q ⟨S, dd, l, z', h1, h2, h3, h4, hz, q⟩ => by
    unfold gCons at hz
    split at hz
    · rename_i x xs e1 e2
      cases hz
      refine ⟨S, dd, l, x, h1, h2, h3, h4, e1, fun v H1 s1 r1 => ⟨S, dd, l, xs, h1, h2, h3.mono (off_same s1), live_same h4 s1, e2, fun vs H2 s2 r2 => q _ H2 (s1.trans s2) (.cons (r1.mono (off_same s2)) r2)⟩⟩
    · cases hz⟩
theorem xd_tup {k : Nat} (h : XDs X ct i c a d es gs) : XD X ct i c a d (.Tuple es k pos) (gTup gs) :=
  ⟨PE.weak (pe_tup h.pa) fun σ H Q ⟨S, dd, l, z', h1, h2, h3, h4, hz, q⟩ => by
    unfold gTup at hz
    split at hz
    · rename_i xs e1
      split at hz
      · rename_i hl
        cases hz
        refine ⟨S, dd, l, xs, h1, h2, h3, h4, e1, fun vs H1 s1 r1 => ⟨by rw [r1.len]; exact Nat.le_trans hl (by decide), fun p hp => q _ _ (s1.trans (Sb.Same.upd hp)) (new_tup (live_same h4 s1) hp r1)⟩⟩
      · cases hz
    · cases hz⟩
theorem xd_lst (h : XDs X ct i c a d es gs) : XD X ct i c a d (.List es pos) (gLst gs) :=
  ⟨PE.weak (pe_lst h.pa) fun σ H Q ⟨S, dd, l, z', h1, h2, h3, h4, hz, q⟩ => by
    unfold gLst at hz
    split at hz
    · rename_i xs e1
      split at hz
      · rename_i hl
        cases hz
        refine ⟨S, dd, l, xs, h1, h2, h3, h4, e1, fun vs H1 s1 r1 => ⟨by rw [r1.len]; exact Nat.le_trans hl (by decide), fun p hp => q _ _ (s1.trans (Sb.Same.upd hp)) (new_lst (live_same h4 s1) hp r1)⟩⟩
      · cases hz
    · cases hz⟩
end
/-- e.f -/
theorem xd_fld {X : Cx} {ct : Ct} {i j : Nat} {c n y : Str} {C a : Addr} {oe : Obj} {d : Option Addr} {pn : List (Addr × Obj)} {pos px : Pos} {ns : List Str} (T : XfC X.K C) (hct : ct c = some (C, ns)) (nd : ns.Nodup) (hn : ns[j]? = some n) (hno : PySem.W.findIn X.K (.ref C) n = some none)
    (hz : Zc (.ref C) d oe) (hf : ∃ vs, oe.data = .fields vs) (hN : X.N[i]? = some y) (hv : Vis X.env.scope y) (hb : attributeBase (.Name y px) n X.env (eval (.Name y px) X.env) = eval (.Name y px) X.env := by rfl) (hd : (y == ("__debug__" : Str)) = false := by decide) (hcd : (y == ("__classdict__" : Str)) = false := by decide) :
    XD (X.suite a ((a, oe) :: pn)) ct i c a d (.Attribute (.Name y px) n pos) (gF j) :=
  ⟨PE.weak (pe_xf T hno hz hf (pe_var (X := X.suite a ((a, oe) :: pn)) hN hv hd hcd) hb) fun σ H Q ⟨S, dd, l, z, h1, h2, h3, h4, hz, q⟩ => by
    obtain ⟨C', ns', vs, y1, y2, y3, y4⟩ := h3
    rw [hct] at y1
    cases y1
    obtain ⟨v, g1, g2⟩ := y4.get' hz
    exact ⟨_, h2, rfl, rfl, dd, _, v, h1, (off_inv y3).2, zip_lookup nd hn g1, q v H (Same.refl _) g2⟩⟩
/-- isinstance(e, T), e with fields -/
def rIsED (K : PySem.W.Frag) (D a : Addr) (d : Option Addr) : List V → Hp → VK → Prop := fun xs H Q => ∃ (c : V) (cv : Value) (b : Bool) (dd : Addr) (fs : List (Str × V)), xs = [.ref a, c] ∧ (∀ u, RelV c u → u = cv) ∧ PySem.W.kitOne K (.ref D) cv = some b ∧ d = some dd ∧ H dd = some (.xd fs) ∧ Q (.bl b) H
theorem call_isED {X : Cx} {a D : Addr} {oe : Obj} {d : Option Addr} {pn : List (Addr × Obj)} (C : ExcC X.K D) (hz : Zc (.ref D) d oe) (hf : ∃ vs, oe.data = .fields vs) : CallR (X.suite a ((a, oe) :: pn)) (.builtin "isinstance") (rIsED X.K D a d) := by
  intro pins s σ H xs us Q I r h
  obtain ⟨c, cv, b, dd, fs, rfl, hcv, e, rfl, hdd, q⟩ := h
  cases r with
  | cons rx rr =>
    cases rr with
    | cons rt rr =>
      cases rr
      cases rx
      have ec := hcv _ rt
      subst ec
      obtain ⟨hget, _⟩ := I.pin (a, oe) (List.mem_append.mpr (.inl List.mem_cons_self))
      obtain ⟨vs, hv⟩ := hf
      have hx : ObjOk X.prog X.w H s.heap dd (.xd fs) := I.hok dd _ hdd
      obtain ⟨mA, hns, hr⟩ := hx
      obtain ⟨od, ho, hl⟩ := lookIn_ns hns
      have J : PySem.W.InstAt s.heap a oe D (some od) := ⟨hget, hz.1, by unfold PySem.W.notCls; rw [hv] <;> rfl, by rw [hz.2]; exact ho⟩
      have hcl : (PySem.W.clsIn X.K D).isSome = true := by
        obtain ⟨cd, hc, _⟩ := PySem.W.any_some C.hd
        rw [hc]
        rfl
      exact PySem.W.kia_one (PySem.W.kitx_exc hcl C.hg C.hk C.hs C.ha C.hn C.ht C.hm) I.kIn J e (fun z => nomatch z) fun tk => ⟨.bl b, H, I.kept (t' := tk) fun _ _ z => z, rfl, q⟩
theorem xd_isi {X : Cx} {ct : Ct} {i : Nat} {c n y : Str} {C a : Addr} {oe : Obj} {d : Option Addr} {pn : List (Addr × Obj)} {pos px pc pi : Pos} {b : Bool} {nm : String} (E : ExcC X.K C) (hk : PySem.W.kitOne X.K (.ref C) (.type nm) = some b)
    (hz : Zc (.ref C) d oe) (hf : ∃ vs, oe.data = .fields vs) (hg : Gl X "isinstance") (hm : X.mg "isinstance" = none) (hN : X.N[i]? = some y) (hv : Vis X.env.scope y) (hgn : Gl X n) (hmn : X.mg n = none) (hbn : bootBuiltins n = some (.type nm)) (hnn : n ≠ "__name__" := by decide) (hdn : (n == ("__debug__" : Str)) = false := by decide)
    (hd : (y == ("__debug__" : Str)) = false := by decide) (hcd : (y == ("__classdict__" : Str)) = false := by decide)
    (hs : starEach [.Name y px, .Name n pc] X.env = (false, eval (.Name y px) X.env) :: starEach [.Name n pc] X.env := by rfl) (hs2 : starEach [.Name n pc] X.env = (false, eval (.Name n pc) X.env) :: starEach [] X.env := by rfl) (hpl : (backTo pos (starEach [.Name n pc] X.env)).any (·.1) = false := by rfl) :
    XD (X.suite a ((a, oe) :: pn)) ct i c a d (.Call (.Name "isinstance" pi) [.Name y px, .Name n pc] [] pos) (gK (.bl b)) :=
  ⟨PE.weak (pe_callB (X := X.suite a ((a, oe) :: pn)) (call_isED E hz hf) hg hm (by decide +kernel) (pa_cons (pe_var (X := X.suite a ((a, oe) :: pn)) hN hv hd hcd) (pa_cons (pe_bltn (X := X.suite a ((a, oe) :: pn)) (v := .ty nm) hgn hmn hbn rfl hnn hdn) pa_nil hs2) hs) (by decide) (by decide) hs hpl) fun σ H Q ⟨S, dd, l, z, h1, h2, h3, h4, hz, q⟩ => by
    cases hz
    obtain ⟨C', ns', vs, y1, y2, y3, y4⟩ := h3
    exact ⟨_, h2, .ty nm, .type nm, b, dd, _, rfl, fun u hu => hu, hk, h1, (off_inv y3).2, q _ H (Same.refl _) (.bl b)⟩⟩
/-- a if t else b -/
def gIte (t g1 g2 : List D → Option D) : List D → Option D := fun l => match t l with
  | some (.bl true) => g1 l
  | some (.bl false) => g2 l
  | _ => none
theorem xd_ite {X : Cx} {ct : Ct} {i : Nat} {c : Str} {a : Addr} {d : Option Addr} {t e1 e2 : Expr} {gt g1 g2 : List D → Option D} {pos : Pos} (ht : XD X ct i c a d t gt) (h1 : XD X ct i c a d e1 g1) (h2 : XD X ct i c a d e2 g2)
    (he : ∀ whole, isTrue t X.env whole = (do let v ← whole; standAt t.pos; holding [v] (truthy v)) := by intro _; rfl) : XD X ct i c a d (.IfExp t e1 e2 pos) (gIte gt g1 g2) :=
  ⟨PE.weak (pe_ifExp (pt_val ht.pe he) h1.pe h2.pe) fun σ H Q ⟨S, dd, l, z, w1, w2, w3, w4, hz, q⟩ => by
    unfold gIte at hz
    split at hz
    · rename_i e
      exact ⟨S, dd, l, _, w1, w2, w3, w4, e, fun v H1 s1 r1 => ⟨true, r1.blE, iteT ⟨S, dd, l, z, w1, w2, w3.mono (off_same s1), live_same w4 s1, hz, fun v H' s2 r2 => q v H' (s1.trans s2) r2⟩⟩⟩
    · rename_i e
      exact ⟨S, dd, l, _, w1, w2, w3, w4, e, fun v H1 s1 r1 => ⟨false, r1.blE, iteF ⟨S, dd, l, z, w1, w2, w3.mono (off_same s1), live_same w4 s1, hz, fun v H' s2 r2 => q v H' (s1.trans s2) r2⟩⟩⟩
    · cases hz⟩
/-- try: body / except C as e: return .. -/
def fTry (c : Str) (i : Nat) (g : List D → Option D) (fb : Ev Fl) : Ev Fl := fun env => match fb env with
  | .exc c' l e => if c' = c ∧ i < e.length then (match g l with
    | some z => .val (.rt false z) e
    | none => .stuck) else .stuck
  | o => o
theorem ds_try {X : Cx} {B : Bs} {i : Nat} {x n c : Str} {C : Addr} {nm : List Str} {body : List Stmt} {np pos pos' rpos : Pos} {e : Expr} {g : List D → Option D} {fb : Ev Fl} (hs : X.stack = X.env :: X.outer) (hf : X.env.frame = some X.env.locals) (hN : X.N.Nodup) (hi : X.N[i]? = some n) (hln : X.env.kindOf n = some .local)
    (hc : Names X x (.ref C)) (hct : B.ct c = some (C, nm)) (te : PySem.W.exmOne X.K (.ref C) (.ref C) = some true)
    (hb : ∀ (W : WX) (pn : List (Addr × Obj)) (xe : Value → Shared → Prop), Takes (X.tr pn xe) W → DSs (X.tr pn xe) B (ZW B.ct W) body fb)
    (hx : ∀ (a : Addr) (oe : Obj) (d : Option Addr) (pn : List (Addr × Obj)), Zc (.ref C) d oe → (∃ vs, oe.data = .fields vs) → XD (X.suite a ((a, oe) :: pn)) B.ct i c a d e g) :
    DS X B ZNo (.Try body [.ExceptHandler (some (.Name x np)) (some n) [.Return (some e) rpos] pos'] [] [] pos) (fTry c i g fb) := by
  refine ⟨PS.weak (ps_try_as (i := i) (tb := fun W => liftS X.K B (ZW B.ct W) fb) (ts := fun a cls d => fun D σ H => cls = .ref C ∧ tRet (tX X.K B.ct i c a d g) D σ H) (Wout := fun _ _ _ _ => False) hs hf hN hi hln hc takes0 (fun W pn xe tk _ => (hb W pn xe tk).pss)
    (fun a oe cls d pn hz hfl => ⟨fun pins s σ H D I h => ?_⟩)) fun E σ H h => ?_⟩
  · obtain ⟨rfl, h⟩ := h
    exact (pss_one (ps_ret (hx a oe d pn hz hfl).pe)).run pins s σ H D I h
  · obtain ⟨G, env, cf, q⟩ := h
    refine ⟨G, env, cf, ?_⟩
    cases ho : fb env with
    | stuck =>
      unfold fTry at q
      rw [ho] at q
      exact q.elim
    | val fl e1 =>
      unfold fTry at q
      rw [ho] at q
      exact q
    | exc c' l e1 =>
      unfold fTry at q
      rw [ho] at q
      simp only [] at q
      by_cases hcc : c' = c ∧ i < e1.length
      · rw [if_pos hcc] at q
        obtain ⟨rfl, hlen⟩ := hcc
        cases hg : g l with
        | none =>
          rw [hg] at q
          exact q.elim
        | some z =>
          rw [hg] at q
          intro G1 σ1 H1 dd m1 c1 xx C' nm' hC
          rw [hct] at hC
          cases hC
          exact ⟨true, te, fun _ a ha => ⟨rfl, G1.S, dd, l, z, rfl, List.getElem?_set_self (by rw [← c1.len]; exact hlen), xx, c1.live, hg, fun v H' s' rv => q G1 σ1 H' (m1.trans (c1.mono s')) (c1.same s') v rv⟩, fun z => by cases z⟩
      · rw [if_neg hcc] at q
        exact q.elim
theorem te_own {K : PySem.W.Frag} {C : Addr} (h1 : PySem.W.subIn K (.ref C) (.type "BaseException") = some true) (h2 : PySem.W.isClsIn K C = true) (h3 : PySem.W.typeIn K (.ref C) = some (.type "type")) (h4 : PySem.W.subIn K (.ref C) (.ref C) = some true) : PySem.W.exmOne K (.ref C) (.ref C) = some true := by
  have e1 : (PySem.W.subIn K (.ref C) (.type "BaseException") == some true) = true := by rw [h1] <;> rfl
  have h2' : (PySem.W.clsIn K C).isSome = true := h2
  have e2 : ((PySem.W.clsIn K C).isSome && PySem.W.typeIn K (.ref C) == some (.type "type")) = true := by rw [h2', h3] <;> rfl
  unfold PySem.W.exmOne
  rw [if_pos e1]
  unfold PySem.W.kitCls
  dsimp only
  rw [if_pos e2]
  exact h4
theorem ki_own {K : PySem.W.Frag} {C : Addr} {t : String} {b : Bool} (h : PySem.W.kitMeta t = true) (h2 : PySem.W.subIn K (.ref C) (.type t) = some b) : PySem.W.kitOne K (.ref C) (.type t) = some b := by
  unfold PySem.W.kitOne
  rw [if_neg (by simp)]
  unfold PySem.W.kitCls
  dsimp only
  rw [if_pos h]
  exact h2
end Vl

set_option Elab.async false
set_option linter.all false
set_option maxRecDepth 100000
set_option maxHeartbeats 2000000
/-! Vre: repr of data that may hold empty dicts. -/
namespace Vl
open PySem PySem.Spec PyProof.Rows L2 Sb
mutual
def D.pyR : D → PyData
  | .non => .none
  | .bl b => .bool b
  | .int i => .int i
  | .str s => .str s
  | .tup l => .tuple (D.pyRs l)
  | .lst l => .list (D.pyRs l)
  | .dk _ _ => .dict []
  | _ => .none
def D.pyRs : List D → List PyData
  | [] => []
  | d :: l => D.pyR d :: D.pyRs l
end
mutual
def D.rok : D → Bool
  | .non => true
  | .bl _ => true
  | .int _ => true
  | .str _ => true
  | .tup l => D.roks l
  | .lst l => D.roks l
  | .dk ks _ => ks.isEmpty
  | _ => false
def D.roks : List D → Bool
  | [] => true
  | d :: l => D.rok d && D.roks l
end
section
variable {X : Cx} {ct : Ct} {F : Hp} {pins : List (Addr × Obj)} {σ : L2.St} {H : Hp} {s : Shared}
theorem dk_none {a : Addr} (I : Inv X pins σ H s) (e : H a = some (.dK [])) : (a == sysModules) = false ∧ ∃ o n, s.heap.get? a = some o ∧ o.cls = .type "dict" ∧ o.data = .dict #[] n := by
  obtain ⟨_, h1, vs, kv, dd⟩ := dk_of I.hok e
  cases kv
  obtain ⟨o, es, ep, ho, he, hd, _, hp, _⟩ := dd
  have e0 : es = #[] := by
    have := hp.length
    simpa using this
  subst e0
  exact ⟨h1, o, ep, ho, he.1, hd⟩
mutual
theorem shows (I : Inv X pins σ H s) (sF : Same F H) : ∀ (d : D) {v : V} {u : Value}, d.rok = true → Rp X.K ct F v d → RelV v u → d.pyR.showable = true → d.pyR.shown.length ≤ sizeLine →
    ∃ as bs, Reads s.heap u d.pyR as ∧ ReadAtMost s.heap d.pyR.depth bs ∧ ReprK X.prog X.w bs s.heap d.pyR.depth u d.pyR.shown
  | .non, v, u, _, r, e, _, _ => by
    cases r
    cases e
    simp only [D.pyR, PyData.shown]
    exact ⟨_, [], .none, (fun _ z => nomatch z), .of_is ReprIs.none _ _ _⟩
  | .bl b, v, u, _, r, e, _, _ => by
    cases r
    cases e
    simp only [D.pyR, PyData.shown]
    exact ⟨_, [], .bool b, (fun _ z => nomatch z), .of_is (ReprIs.bool b) _ _ _⟩
  | .int i, v, u, _, r, e, q, _ => by
    cases r
    obtain ⟨t, rfl⟩ := e
    simp only [D.pyR, PyData.shown]
    exact ⟨_, [], .int i t, (fun _ z => nomatch z), .of_is (ReprIs.int t (by simpa [D.pyR, PyData.showable] using q)) _ _ _⟩
  | .str y, v, u, _, r, e, _, q => by
    cases r
    obtain ⟨t, rfl⟩ := e
    simp only [D.pyR, PyData.shown] at q ⊢
    exact ⟨_, [], .str y t, (fun _ z => nomatch z), .of_is (ReprIs.str y t q) _ _ _⟩
  | .tup l, v, u, k, r, e, q, z => by
    obtain ⟨a, vs, rfl, h1, t1⟩ := r.tupE
    cases (show u = Value.ref a from e)
    simp only [D.pyR, PyData.shown] at q z
    have k : D.roks l = true := by simpa [D.rok] using k
    obtain ⟨its, rv, ⟨o, ho, hc, n, hd⟩, _⟩ := I.tuple (sqT_same sF h1)
    obtain ⟨as, bs, r1, r2, r3⟩ := showsAll I sF l k t1 rv (by simpa [PyData.showable] using q) fun t ht => Nat.le_trans (tupleText_mem_le ht) z
    have rd : Reads s.heap (.ref a) (.tuple (D.pyRs l)) _ := .tuple ho hc hd r1
    simp only [D.pyR, PyData.shown, PyData.depth]
    exact ⟨_, a :: bs, rd, ReadAtMost.cons rd (by simp only [PyData.depth]; omega) r2, ReprK.tuple ho hc hd (not_mem_of_deeper rd (by simp only [PyData.depth]; omega) r2) r3⟩
  | .lst l, v, u, k, r, e, q, z => by
    obtain ⟨a, vs, rfl, h1, t1⟩ := r.lstE
    cases (show u = Value.ref a from e)
    simp only [D.pyR, PyData.shown] at q z
    have k : D.roks l = true := by simpa [D.rok] using k
    obtain ⟨its, rv, ⟨o, n, ho, hc, _, hd⟩, _⟩ := I.list (SqL.of (sF _ _ h1))
    obtain ⟨as, bs, r1, r2, r3⟩ := showsAll I sF l k t1 rv (by simpa [PyData.showable] using q) fun t ht => Nat.le_trans (listText_mem_le ht) z
    have rd : Reads s.heap (.ref a) (.list (D.pyRs l)) _ := .list ho hc hd r1
    have nm := not_mem_of_deeper rd (by simp only [PyData.depth]; omega) r2
    simp only [D.pyR, PyData.shown, PyData.depth]
    refine ⟨_, a :: bs, rd, ReadAtMost.cons rd (by simp only [PyData.depth]; omega) r2, ?_⟩
    generalize D.pyRs l = ds at r1 r3
    cases its with
    | nil =>
      cases r1
      simp only [PyData.shownAll, listText_nil]
      exact ReprK.listEmpty ho hc hd
    | cons x xs => exact ReprK.list ho hc hd nm (by simpa using r3.length_eq) fun i y g => r3.item i y (by simpa using g)
  | .dk ks l, v, u, k, r, e, _, _ => by
    cases r with
    | @dk a ks vs l hl h t =>
      have k : ks = [] := by simpa [D.rok] using k
      subst k
      cases (show u = Value.ref a from e)
      have h : F a = some (.dK []) := h
      obtain ⟨n1, o, n, g1, g2, g3⟩ := dk_none I (sF _ _ h)
      have rd : Reads s.heap (.ref a) (.dict []) _ := .dict g1 g2 g3 .nil .nil
      simp only [D.pyR, PyData.shown, PyData.depth, PyData.shownKv, PyData.depthKv]
      exact ⟨_, [a], rd, ReadAtMost.cons rd (n := 0) (by simp only [PyData.depth]; omega) (fun _ z => nomatch z), ReprK.dict g1 g2 g3 n1 (by simp) .nil⟩
  | .ctup _, _, _, k, _, _, _, _ => by cases k
  | .ob _ _, _, _, k, _, _, _, _ => by cases k
  | .dt _ _, _, _, k, _, _, _, _ => by cases k
  | .scr _, _, _, k, _, _, _, _ => by cases k
  | .cl _, _, _, k, _, _, _, _ => by cases k
theorem showsAll (I : Inv X pins σ H s) (sF : Same F H) : ∀ (l : List D) {vs : List V} {us : List Value}, D.roks l = true → Rps X.K ct F vs l → Vals vs us → PyData.showableAll (D.pyRs l) = true → (∀ t, t ∈ PyData.shownAll (D.pyRs l) → t.length ≤ sizeLine) →
    ∃ as bs, ReadsAll s.heap us (D.pyRs l) as ∧ ReadAtMost s.heap (PyData.depthAll (D.pyRs l)) bs ∧ ReprAllK X.prog X.w bs s.heap (PyData.depthAll (D.pyRs l)) us (PyData.shownAll (D.pyRs l))
  | [], vs, us, _, r, e, _, _ => by
    cases r
    cases e
    simp only [D.pyRs, PyData.shownAll]
    exact ⟨_, [], .nil, (fun _ z => nomatch z), .nil⟩
  | d :: l, vs, us, k, r, e, q, z => by
    cases r with
    | cons r t =>
      cases e with
      | cons e es =>
        have k : d.rok = true ∧ D.roks l = true := by simpa [D.roks] using k
        simp only [D.pyRs] at q z
        have q : d.pyR.showable = true ∧ PyData.showableAll (D.pyRs l) = true := by simpa [PyData.showableAll] using q
        obtain ⟨as, bs, a1, a2, a3⟩ := shows I sF d k.1 r e q.1 (z _ (by simp [PyData.shownAll]))
        obtain ⟨cs, ds, b1, b2, b3⟩ := showsAll I sF l k.2 t es q.2 fun y hy => z y (by simp [PyData.shownAll, hy])
        have m1 : d.pyR.depth ≤ PyData.depthAll (D.pyR d :: D.pyRs l) := by simp only [PyData.depthAll]; exact Nat.le_max_left _ _
        have m2 : PyData.depthAll (D.pyRs l) ≤ PyData.depthAll (D.pyR d :: D.pyRs l) := by simp only [PyData.depthAll]; exact Nat.le_max_right _ _
        simp only [D.pyRs]
        refine ⟨_, bs ++ ds, .cons a1 b1, (a2.mono m1).append (b2.mono m2), ?_⟩
        simp only [PyData.shownAll]
        exact .cons ((a3.more fun b hb => List.mem_append_left _ hb).level_le m1) (b3.more_le (fun b hb => List.mem_append_right _ hb) m2)
end
def D.isDk : D → Bool
  | .dk _ _ => true
  | _ => false
theorem repr_shows {a : Addr} {d : D} {as bs : List Addr} {Q : Value → Shared → Prop} {A : Around} {E : Value → Shared → Prop} (I : Inv X pins σ H s) (sF : Same F H) (k : d.rok = true) (kd : d.isDk = false) (r : Rp X.K ct F (.ref a) d) (q : d.pyR.showable = true) (z : d.pyR.shown.length ≤ sizeLine) (hg : A.guards = some []) (hu : A.units + (d.pyR.depth + 1) < cLine)
    (hQ : ∀ h' t tk, (∀ b o, s.heap.get? b = some o → h'.get? b = some o) → Q (.str d.pyR.shown t) { s with heap := h', toks := tk }) : wpAny (model X.prog X.w) A (call (.builtin "repr") [.ref a]) Q E s := by
  cases d with
  | non => cases r
  | bl b => cases r
  | int i => cases r
  | str y => cases r
  | ctup l => cases k
  | ob c l => cases k
  | dt ks l => cases k
  | scr ns => cases k
  | cl c => cases k
  | tup l =>
    obtain ⟨a', vs, e, h1, t1⟩ := r.tupE
    cases e
    simp only [D.pyR, PyData.shown] at q z hQ
    have k : D.roks l = true := by simpa [D.rok] using k
    obtain ⟨its, rv, ⟨o, ho, hc, n, hd⟩, _⟩ := I.tuple (sqT_same sF h1)
    obtain ⟨as, bs, r1, r2, r3⟩ := showsAll I sF l k t1 rv (by simpa [PyData.showable] using q) fun t ht => Nat.le_trans (tupleText_mem_le ht) z
    have rd : Reads s.heap (.ref a) (.tuple (D.pyRs l)) _ := .tuple ho hc hd r1
    simp only [D.pyR, PyData.depth] at hu
    refine call_repr_slot (by omega) ⟨o, ho, hc⟩ PySem.F.slot_tuple_repr (call_tuple_reprK ho hc hd (not_mem_of_deeper rd (by simp only [PyData.depth]; omega) r2) r3 hg (fun b _ => Clear.nil b) (by show A.units + 1 + (PyData.depthAll (D.pyRs l) + 1) < cLine; omega) (fun _ _ e => e) (fun h' t tk hk => ⟨_, _, rfl, hQ h' t tk hk⟩) z)
  | lst l =>
    obtain ⟨a', vs, e, h1, t1⟩ := r.lstE
    cases e
    simp only [D.pyR, PyData.shown] at q z hQ
    have k : D.roks l = true := by simpa [D.rok] using k
    obtain ⟨its, rv, ⟨o, n, ho, hc, _, hd⟩, _⟩ := I.list (SqL.of (sF _ _ h1))
    obtain ⟨as, bs, r1, r2, r3⟩ := showsAll I sF l k t1 rv (by simpa [PyData.showable] using q) fun t ht => Nat.le_trans (listText_mem_le ht) z
    have rd : Reads s.heap (.ref a) (.list (D.pyRs l)) _ := .list ho hc hd r1
    have nm := not_mem_of_deeper rd (by simp only [PyData.depth]; omega) r2
    simp only [D.pyR, PyData.depth] at hu
    generalize D.pyRs l = ds at r1 r3 z hQ hu
    cases its with
    | nil =>
      cases r1
      simp only [PyData.shownAll, listText_nil] at hQ
      exact call_repr_slot (by omega) ⟨o, ho, hc⟩ PySem.F.slot_list_repr.toG (call_list_repr_empty ⟨o, ho, hc⟩ ho hd ⟨_, _, rfl, hQ s.heap _ _ fun _ _ e => e⟩)
    | cons x xs =>
      exact call_repr_slot (by omega) ⟨o, ho, hc⟩ PySem.F.slot_list_repr.toG (call_list_reprK ho hc hd nm (by simpa using r3.length_eq) (fun i y g => r3.item i y (by simpa using g)) hg (fun b _ => Clear.nil b) (by show A.units + 1 + (PyData.depthAll ds + 1) < cLine; omega) (fun _ _ e => e) (fun h' t tk hk => ⟨_, _, rfl, hQ h' t tk hk⟩) z)
  | dk ks l => cases kd
def rReprX (K : PySem.W.Frag) (ct : Ct) : List V → Hp → VK → Prop := fun xs H Q => ∃ (v : V) (d : D) (F : Hp), xs = [v] ∧ Rp K ct F v d ∧ Same F H ∧ d.rok = true ∧ d.isDk = false ∧ d.pyR.showable = true ∧ d.pyR.depth ≤ 64 ∧ d.pyR.shown.length ≤ sizeLine ∧ Q (.str d.pyR.shown) H
theorem call_reprX (hg : X.A.guards = some []) (hu : X.A.units + 66 < cLine) : CallR X (.builtin "repr") (rReprX X.K ct) := by
  intro pins s σ H xs us Q I r h
  obtain ⟨v, d, F, rfl, hd, sF, h1, h2, h3, h4, h5, q⟩ := h
  obtain ⟨u, rfl, rx⟩ := vals1 r
  have ref : ∀ {a : Addr}, v = .ref a → wpAny (model X.prog X.w) X.A (call (.builtin "repr") [u]) (EP X pins σ Q) X.xe s := fun {a} e => by
    subst e
    cases (show u = Value.ref a from rx)
    exact repr_shows (as := []) (bs := []) I sF h1 h2 hd h3 h5 hg (by omega) fun h' t tk hk => ⟨.str _, H, I.kept hk, ⟨_, rfl⟩, q⟩
  cases hd with
  | non =>
    cases (show u = Value.none from rx)
    exact PySem.P.repr_of_none ⟨.str _, H, I.tok _, ⟨_, rfl⟩, by simpa [D.pyR, PyData.shown] using q⟩
  | bl b =>
    cases (show u = Value.bool b from rx)
    exact PySem.P.repr_of_bool ⟨.str _, H, I.tok _, ⟨_, rfl⟩, by simpa [D.pyR, PyData.shown] using q⟩
  | int i =>
    obtain ⟨t, rfl⟩ := (show ∃ t, u = Value.int i t from rx)
    exact PySem.P.repr_of_int (by simpa [D.pyR, PyData.showable] using h3) ⟨.str _, H, I.tok _, ⟨_, rfl⟩, by simpa [D.pyR, PyData.shown] using q⟩
  | str x =>
    obtain ⟨t, rfl⟩ := (show ∃ t, u = Value.str x t from rx)
    exact PySem.P.repr_of_str ⟨.str _, H, I.tok _, ⟨_, rfl⟩, by simpa [D.pyR, PyData.shown] using q⟩ (by simpa [D.pyR, PyData.shown] using h5)
  | _ => exact ref rfl
def oReprX (d : D) : Option D := if d.rok && (!d.isDk && (d.pyR.showable && (decide (d.pyR.depth ≤ 64) && decide (d.pyR.shown.length ≤ sizeLine)))) then some (.str d.pyR.shown) else none
theorem cv_reprX : CallV X.K ct (rReprX X.K ct) (o1 oReprX) := cv1 fun S H x d z Q live rx ho hq => by
  unfold oReprX at ho
  split at ho
  · rename_i c
    cases ho
    simp only [Bool.and_eq_true, decide_eq_true_eq, Bool.not_eq_true'] at c
    exact ⟨x, d, _, rfl, rx, off_le, c.1, c.2.1, c.2.2.1, c.2.2.2.1, c.2.2.2.2, hq _ H (Same.refl _) (.str _)⟩
  · cases ho
end
end Vl

set_option Elab.async false
set_option linter.all false
set_option maxRecDepth 100000
set_option maxHeartbeats 2000000
/-! Vcm: class methods called, a class held by a name called; texts parted and read. -/
namespace Vl
open PySem PySem.Spec PyProof.Rows L2 Sb
section
variable {X : Cx} {B : Bs} {Z : ZX} {CX : CXT} {k n : Nat} {C fa g : Addr} {fd : FuncData} {ps ns ks : List Str} {c x m y : Str} {p pos px apos kpos : Pos} {e : Expr} {es : List Expr} {kws : List Keyword} {ml : List Bool} {Φ : List D → Res} {fs : Ev (List D)} {f : Ev D}
theorem pT {E : XK} (h : Passes CX X E) : ∀ σ, PassesS CX X σ E := fun σ pins H s e s' I c => h pins σ H s e s' I c
/-! a class by its name -/
theorem de_cls (hg : Gl X x) (hm : X.mg x = some (.ref C)) (hct : B.ct c = some (C, ns)) (hdb : (x == ("__debug__" : Str)) = false := by decide) : DE X B Z (.Name x pos) (fC (.cl c)) :=
  de_const (pe_glob (v := .ref C) hg hm rfl hdb) fun _ => .cl hct
theorem Rp.clE {K : PySem.W.Frag} {ct : Ct} {F : Hp} {v : V} (h : Rp K ct F v (.cl c)) : ∃ C ns, ct c = some (C, ns) ∧ v = .ref C := by
  cases h with
  | cl hc => exact ⟨_, _, hc, rfl⟩
/-! calls of a record that binds a def to a class -/
theorem run_fnNGT {g' : List Value → List Value → List Value} {gV : List V → List V → List V} {E : XK} {pins : List (Addr × Obj)} {σ : L2.St} {H : Hp} {s : Shared} {Q : VK} {sp : Sp} {us ws : List Value} {vs zs : List V} (F : FnG X.prog X.w X.K X.mg X.base CX k fa fd ps sp) (hgd : X.A.guards = some []) (hr : Room k X.A) (hb : KBn X.K fd ps n ks g' gV) (hx : PassesS CX X σ E)
    (I : Inv X pins σ H s) (r : Vals vs us) (rz : Vals zs ws) (l1 : vs.length = n) (l2 : zs.length = ks.length) (h : sp (gV vs zs) H Q E) : wpAny (model X.prog X.w) X.A (call (.ref fa) us (ks.zip ws)) (EP X pins σ Q) X.xe s := by
  have r2 := hb.rel r rz
  refine wpAny_call (codeAny_mono (F.go X.A X.stack s H ⟨us, ks.zip ws⟩ (g' us ws) (gV vs zs) Q E hgd hr I.env0 (hb.to s us ws I.kIn (r.length.symm.trans l1) (rz.length.symm.trans l2)) r2 h) fun r s' hq => ?_)
  match r, hq with
  | .error e, hq => exact hx pins H s e s' I hq
  | .ok (.ret u), hq => exact I.after hq
  | .ok .next, hq => exact False.elim hq
  | .ok .brk, hq => exact False.elim hq
  | .ok .cont, hq => exact False.elim hq
/-- the class's method, its arguments by position -/
def tCM (C : Addr) (sp : Sp) (E : XK) (t : TA) : TE := fun σ H Q => t σ H fun vs H2 => sp (.ref C :: vs) H2 Q E
theorem pe_cmG {E : L2.St → XK} {sp : Sp} {t : TA} {mc : Value} {q : Addr} {pl : Sem Bool} (r : ClX.CRead X.K C mc) (cm : ClX.CMet X.K C mc m q g) (F : FnG X.prog X.w X.K X.mg X.base CX k g fd ps sp) (hgd : X.A.guards = some []) (hr : Room k X.A) (hg : Gl X x) (hm : X.mg x = some (.ref C)) (hb : Binds X.K fd ps []) (hx : ∀ σ, PassesS CX X σ (E σ)) (ha : PA X (e :: es) t)
    (hdb : (x == ("__debug__" : Str)) = false := by decide) (hst : starEach (e :: es) X.env = (false, eval e X.env) :: starEach es X.env := by rfl) (hpl : (backTo pos (starEach es X.env)).any (·.1) = false := by rfl)
    (ht : eval (.Call (.Attribute (.Name x px) m apos) (e :: es) [] pos) X.env = (do
      let ov ← eval (.Name x px) X.env
      standAt apos.atName
      let (f, first) ← holding [ov] (getMethod ov m pl)
      callWith pos f first (backTo pos (starEach (e :: es) X.env)) (backToKw pos (keywordEach [] X.env))) := by rfl) :
    PE X (.Call (.Attribute (.Name x px) m apos) (e :: es) [] pos) (fun σ H Q => tCM C sp (E σ) t σ H Q) := by
  refine ⟨fun pins s σ H Q I h => ?_⟩
  refine PySem.W.methodCall_KW (pl := pl) (thn ((pe_glob (X := X) (pos := px) (v := .ref C) hg hm rfl hdb).run pins s σ H (fun v H1 => v = .ref C ∧ tCM C sp (E σ) t σ H1 Q) I ⟨rfl, h⟩) fun u s1 ⟨v, H1, I1, rx, ex, q1⟩ => ?_) ht
  subst ex
  obtain rfl : u = Value.ref C := rx
  refine ClX.getmethcm_ok I1 r cm fun s2 I2 => ?_
  refine ClX.callwith_cm I2 (ClX.base_none I1 (Nat.le_refl _)) cm.fi (thn (ha.run pos _ s2 σ H1 _ I2 q1) fun us s3 ⟨vs, H2, I3, rv, q2⟩ => ⟨⟨ClX.pin_at I3, I3.kIn⟩, ?_⟩) hst hpl
  suffices z : wpAny (model X.prog X.w) X.A (call (.ref s1.heap.objs.size) us) (EP X ((s1.heap.objs.size, PySem.W.methodObj (.ref g) (.ref C)) :: pins) σ Q) X.xe s3 from thn z fun _ _ y => ClX.unpinE y
  refine wpAny_call (PySem.W.method_call (ClX.pin_at I3) ?_)
  have r2 : Vals (V.ref C :: vs) (Value.ref C :: us) := .cons rfl rv
  have hl : (Value.ref C :: us ++ []).length = ps.length := by
    rw [List.append_nil, ← r2.length]
    exact F.size _ _ _ _ q2
  have hbb := hb s3 (Value.ref C :: us) I3.kIn hl
  rw [List.append_nil] at hbb
  refine codeAny_mono (F.go X.A X.stack s3 H2 ⟨.ref C :: us, []⟩ (.ref C :: us) (.ref C :: vs) Q (E σ) hgd hr I3.env0 hbb r2 q2) fun r s' hq => ?_
  match r, hq with
  | .error e, hq => exact hx σ _ _ _ e s' I3 hq
  | .ok (.ret u), hq => exact I3.after hq
  | .ok .next, hq => exact False.elim hq
  | .ok .brk, hq => exact False.elim hq
  | .ok .cont, hq => exact False.elim hq
/-- .. by keywords alone -/
def tCMK (C : Addr) (sp : Sp) (gV : List V → List V → List V) (nk : Nat) (E : XK) (tk : TA) : TE := fun σ H Q => tk σ H fun zs H2 => zs.length = nk ∧ sp (gV [.ref C] zs) H2 Q E
theorem pe_cmGK {E : L2.St → XK} {sp : Sp} {tk : TA} {mc : Value} {q : Addr} {pl : Sem Bool} {g' : List Value → List Value → List Value} {gV : List V → List V → List V} (r : ClX.CRead X.K C mc) (cm : ClX.CMet X.K C mc m q g) (F : FnG X.prog X.w X.K X.mg X.base CX k g fd ps sp) (hgd : X.A.guards = some []) (hr : Room k X.A) (hg : Gl X x) (hm : X.mg x = some (.ref C)) (hb : KBn X.K fd ps 1 ks g' gV) (hx : ∀ σ, PassesS CX X σ (E σ)) (hkw : PK X kws tk)
    (hall : (backToKw pos (keywordEach kws X.env)).all (·.1.isSome) = true := by rfl) (hks : (backToKw pos (keywordEach kws X.env)).filterMap (·.1) = ks := by rfl) (hdb : (x == ("__debug__" : Str)) = false := by decide)
    (hpl : ((backTo pos (starEach [] X.env)).any (·.1) || (backToKw pos (keywordEach kws X.env)).any (·.1.isNone)) = false := by rfl)
    (ht : eval (.Call (.Attribute (.Name x px) m apos) [] kws pos) X.env = (do
      let ov ← eval (.Name x px) X.env
      standAt apos.atName
      let (f, first) ← holding [ov] (getMethod ov m pl)
      callWith pos f first (backTo pos (starEach [] X.env)) (backToKw pos (keywordEach kws X.env))) := by rfl) :
    PE X (.Call (.Attribute (.Name x px) m apos) [] kws pos) (fun σ H Q => tCMK C sp gV ks.length (E σ) tk σ H Q) := by
  refine ⟨fun pins s σ H Q I h => ?_⟩
  refine PySem.W.methodCall_KW (pl := pl) (thn ((pe_glob (X := X) (pos := px) (v := .ref C) hg hm rfl hdb).run pins s σ H (fun v H1 => v = .ref C ∧ tCMK C sp gV ks.length (E σ) tk σ H1 Q) I ⟨rfl, h⟩) fun u s1 ⟨v, H1, I1, rx, ex, q1⟩ => ?_) ht
  subst ex
  obtain rfl : u = Value.ref C := rx
  refine ClX.getmethcm_ok I1 r cm fun s2 I2 => ?_
  refine PySem.W.callWith_of (P := PySem.W.MethP X.K s1.heap.objs.size g (.ref C)) hpl (PySem.W.keeps_M cm.fi) (evalArgs_kw2_nil hall (thn (hkw.run pos _ s2 σ H1 _ I2 q1) fun ws s3 ⟨zs, H2, I3, rz, l2, q2⟩ => ⟨⟨ClX.pin_at I3, I3.kIn⟩, ?_⟩))
  rw [hks]
  suffices z : wpAny (model X.prog X.w) X.A (call (.ref s1.heap.objs.size) [] (ks.zip ws)) (EP X ((s1.heap.objs.size, PySem.W.methodObj (.ref g) (.ref C)) :: pins) σ Q) X.xe s3 from thn z fun _ _ y => ClX.unpinE y
  refine wpAny_call (PySem.W.method_call (ClX.pin_at I3) ?_)
  have r2 := hb.rel (vs := [.ref C]) (us := [.ref C]) (.cons rfl .nil) rz
  refine codeAny_mono (F.go X.A X.stack s3 H2 ⟨[.ref C], ks.zip ws⟩ (g' [.ref C] ws) (gV [.ref C] zs) Q (E σ) hgd hr I3.env0 (hb.to s3 [.ref C] ws I3.kIn rfl (rz.length.symm.trans l2)) r2 q2) fun r s' hq => ?_
  match r, hq with
  | .error e, hq => exact hx σ _ _ _ e s' I3 hq
  | .ok (.ret u), hq => exact I3.after hq
  | .ok .next, hq => exact False.elim hq
  | .ok .brk, hq => exact False.elim hq
  | .ok .cont, hq => exact False.elim hq
/-- what the method gives -/
def resE (r : Res) (e : List Slot) : Out D := match r with
  | .ret _ r _ => .val r e
  | .exc c as _ => .exc c as e
  | .stuck => .stuck
def fCM (c : Str) (m : List Bool) (Φ : List D → Res) (fs : Ev (List D)) : Ev D := fun env => (fs env).bind fun l e => if (D.cl c :: l).map (fun _ => false) = m then resE (Φ (.cl c :: l)) e else .stuck
def fCMK (c : Str) (m : List Bool) (Φ : List D → Res) (n : Nat) (gD : List D → List D → List D) (fs : Ev (List D)) : Ev D := fun env => (fs env).bind fun z e => if z.length = n ∧ (gD [.cl c] z).map (fun _ => false) = m then resE (Φ (gD [.cl c] z)) e else .stuck
theorem lift_res {E : XK} {sp : Sp} {ds : List D} {vs : List V} {σ : L2.St} {G : Gh} {env : List Slot} {H : Hp} {Q : VK} (hZ : ∀ c as env G H dd C nm, B.ct c = some (C, nm) → Z c as env G σ H dd → E (.ref C) (some dd) H) (c : Cfg X.K B G env σ H) (hm : ds.map (fun _ => false) = ml) (rd : Rps X.K B.ct (off G.S H) vs ds)
    (p : postG X.K B Z G σ H (resE (Φ ds) env) fun d _ G' H' => ∀ v, Rp X.K B.ct (off G'.S H') v d → Q v H') : spV X.K B.ct ml Φ vs H Q E := by
  refine ⟨G.S, iaOf G [], ds, argsK c hm rd, ?_⟩
  cases hr : Φ ds with
  | stuck =>
    rw [hr] at p
    exact p.elim
  | ret nw r ns =>
    rw [hr] at p
    cases nw with
    | false =>
      intro v H' fr rv
      obtain ⟨mm, c'⟩ := after_call (l := []) (ds := []) c rfl (by simp [ioSlots]) fr
      exact p G H' mm c' v rv
    | true =>
      intro a H' ha fr ho
      obtain ⟨mm, c'⟩ := after_call (l := []) (ds := []) c rfl (by simp [ioSlots]) fr.bare
      exact p G H' mm c' _ ((ho.mono rfl off_more).rp (off_at (c.unS ha)))
  | exc cc as ns =>
    rw [hr] at p
    intro H' dd' C nm fr xa hC
    obtain ⟨mm, c'⟩ := after_call (l := []) (ds := []) c rfl (by simp [ioSlots]) fr
    exact hZ _ _ _ _ _ _ _ _ hC (p G H' dd' mm c' xa)
/-- C.m(..), m a class method of C -/
theorem de_cm {E : L2.St → XK} {pl : Sem Bool} (r : ∃ mc q, ClX.CRead X.K C mc ∧ ClX.CMet X.K C mc m q g) (F : FnG X.prog X.w X.K X.mg X.base CX k g fd ps (spV X.K B.ct ml Φ)) (hct : B.ct c = some (C, ns)) (hgd : X.A.guards = some []) (hr : Room k X.A) (hg : Gl X x) (hm : X.mg x = some (.ref C)) (hb : Binds X.K fd ps []) (hx : ∀ σ, PassesS CX X σ (E σ))
    (hZ : ∀ c as env G σ H dd C nm, B.ct c = some (C, nm) → Z c as env G σ H dd → E σ (.ref C) (some dd) H) (ha : DA X B Z (e :: es) fs)
    (hdb : (x == ("__debug__" : Str)) = false := by decide) (hst : starEach (e :: es) X.env = (false, eval e X.env) :: starEach es X.env := by rfl) (hpl : (backTo pos (starEach es X.env)).any (·.1) = false := by rfl)
    (ht : eval (.Call (.Attribute (.Name x px) m apos) (e :: es) [] pos) X.env = (do
      let ov ← eval (.Name x px) X.env
      standAt apos.atName
      let (f, first) ← holding [ov] (getMethod ov m pl)
      callWith pos f first (backTo pos (starEach (e :: es) X.env)) (backToKw pos (keywordEach [] X.env))) := by rfl) :
    DE X B Z (.Call (.Attribute (.Name x px) m apos) (e :: es) [] pos) (fCM c ml Φ fs) := by
  obtain ⟨mc, q, r1, r2⟩ := r
  exact ⟨PE.weak (pe_cmG (E := E) r1 r2 F hgd hr hg hm hb hx ha.pa hdb hst hpl ht) fun σ H Q ⟨G, env, cf, p⟩ => ⟨G, env, cf, post_imp (post_bind p) fun l e1 G1 H1 m1 c1 p1 vs rvs => by
    by_cases hc : (D.cl c :: l).map (fun _ => false) = ml
    · rw [if_pos hc] at p1
      exact lift_res (sp := spV X.K B.ct ml Φ) (fun c as env G H dd C nm => hZ c as env G σ H dd C nm) c1 hc (.cons (.cl hct) rvs) p1
    · rw [if_neg hc] at p1
      exact p1.elim⟩⟩
theorem de_cmK {E : L2.St → XK} {pl : Sem Bool} {nk : Nat} {g' : List Value → List Value → List Value} {gV : List V → List V → List V} {gD : List D → List D → List D} (r : ∃ mc q, ClX.CRead X.K C mc ∧ ClX.CMet X.K C mc m q g) (F : FnG X.prog X.w X.K X.mg X.base CX k g fd ps (spV X.K B.ct ml Φ)) (hct : B.ct c = some (C, ns)) (hgd : X.A.guards = some []) (hr : Room k X.A) (hg : Gl X x) (hm : X.mg x = some (.ref C)) (hb : KBn X.K fd ps 1 ks g' gV) (hgv : ∀ F vs l zs z, Rps X.K B.ct F vs l → Rps X.K B.ct F zs z → Rps X.K B.ct F (gV vs zs) (gD l z)) (hx : ∀ σ, PassesS CX X σ (E σ))
    (hZ : ∀ c as env G σ H dd C nm, B.ct c = some (C, nm) → Z c as env G σ H dd → E σ (.ref C) (some dd) H) (hkw : DK X B Z kws fs)
    (hall : (backToKw pos (keywordEach kws X.env)).all (·.1.isSome) = true := by rfl) (hks : (backToKw pos (keywordEach kws X.env)).filterMap (·.1) = ks := by rfl) (hnk : ks.length = nk := by rfl) (hdb : (x == ("__debug__" : Str)) = false := by decide)
    (hpl : ((backTo pos (starEach [] X.env)).any (·.1) || (backToKw pos (keywordEach kws X.env)).any (·.1.isNone)) = false := by rfl)
    (ht : eval (.Call (.Attribute (.Name x px) m apos) [] kws pos) X.env = (do
      let ov ← eval (.Name x px) X.env
      standAt apos.atName
      let (f, first) ← holding [ov] (getMethod ov m pl)
      callWith pos f first (backTo pos (starEach [] X.env)) (backToKw pos (keywordEach kws X.env))) := by rfl) :
    DE X B Z (.Call (.Attribute (.Name x px) m apos) [] kws pos) (fCMK c ml Φ nk gD fs) := by
  obtain ⟨mc, q, r1, r2⟩ := r
  subst hnk
  exact ⟨PE.weak (pe_cmGK (E := E) r1 r2 F hgd hr hg hm hb hx hkw.pk hall hks hdb hpl ht) fun σ H Q ⟨G, env, cf, p⟩ => ⟨G, env, cf, post_imp (post_bind p) fun z e1 G1 H1 m1 c1 p1 zs rzs => by
    by_cases hc : z.length = ks.length ∧ (gD [.cl c] z).map (fun _ => false) = ml
    · rw [if_pos hc] at p1
      exact ⟨rzs.len.trans hc.1, lift_res (sp := spV X.K B.ct ml Φ) (fun c as env G H dd C nm => hZ c as env G σ H dd C nm) c1 hc.2 (hgv _ _ _ _ _ (.cons (.cl hct) .nil) rzs) p1⟩
    · rw [if_neg hc] at p1
      exact p1.elim⟩⟩
/-! a class held by a name, called -/
theorem pe_makeL {E : L2.St → XK} {sp : Sp} {ds : List Value} {dvs : List V} {t : TA} {i : Nat} (M : Mk X.K C fa) (F : FnG X.prog X.w X.K X.mg X.base CX k fa fd ps sp) (hgd : X.A.guards = some []) (hr : Room (k + 1) X.A) (hN : X.N[i]? = some x) (hv : Vis X.env.scope x) (hb : Binds X.K fd ps ds) (hd : Vals dvs ds) (hx : ∀ σ, PassesS CX X σ (E σ))
    (ha : PA X (e :: es) t) (hdb : (x == ("__debug__" : Str)) = false := by decide) (hcd : (x == ("__classdict__" : Str)) = false := by decide) (he : starEach (e :: es) X.env = (false, eval e X.env) :: starEach es X.env := by rfl) (hpl : (backTo pos (starEach es X.env)).any (·.1) = false := by rfl) :
    PE X (.Call (.Name x p) (e :: es) [] pos) (fun σ H Q => σ[i]? = some (some (.ref C)) ∧ tMake C sp dvs (E σ) t σ H Q) := by
  refine ⟨fun pins s σ H Q I ⟨hs, h⟩ => ?_⟩
  refine wpAny_Call_Name_kw (thn ((pe_var (pos := p) hN hv hdb hcd).run pins s σ H (fun v H1 => v = .ref C ∧ H1 = H) I ⟨.ref C, hs, rfl, rfl⟩) fun u s1 ⟨v, H1, I1, r1, q1⟩ => ?_)
  obtain ⟨rfl, rfl⟩ := q1
  cases r1
  refine PySem.W.callWith_K (h₀ := X.base) I.ok.mod.kin M.kp (thn (ha.run pos pins s1 σ _ _ I1 h) fun us s2 ⟨vs, H2, I2, r, q⟩ => ⟨I2.kIn, ?_⟩) he hpl
  exact run_makeGT M F hgd hr hb hd (hx σ) I2 r q
def fMakeL (i : Nat) (c : Str) (m : List Bool) (Φ : List D → Res) (dd : List D) (fs : Ev (List D)) : Ev D := fun env => match env[i]? with
  | some (.sh (.cl c')) => if c' = c then fMake c m Φ dd fs env else .stuck
  | _ => .stuck
theorem de_makeL {E : L2.St → XK} {M : Mk X.K C fa} {i : Nat} {dsv : List Value} {dvs : List V} {dd : List D} (F : FnG X.prog X.w X.K X.mg X.base CX k fa fd ps (spV X.K B.ct ml Φ)) (hct : B.ct c = some (C, ns)) (hgd : X.A.guards = some []) (hr : Room (k + 1) X.A) (hN : X.N[i]? = some x) (hv : Vis X.env.scope x) (hb : Binds X.K fd ps dsv) (hd : Vals dvs dsv) (rd : ∀ F, Rps X.K B.ct F dvs dd) (hx : ∀ σ, PassesS CX X σ (E σ))
    (hZ : ∀ c as env G σ H dd C nm, B.ct c = some (C, nm) → Z c as env G σ H dd → E σ (.ref C) (some dd) H) (ha : DA X B Z (e :: es) fs) (hdb : (x == ("__debug__" : Str)) = false := by decide) (hcd : (x == ("__classdict__" : Str)) = false := by decide) (he : starEach (e :: es) X.env = (false, eval e X.env) :: starEach es X.env := by rfl)
    (hpl : (backTo pos (starEach es X.env)).any (·.1) = false := by rfl) : DE X B Z (.Call (.Name x p) (e :: es) [] pos) (fMakeL i c ml Φ dd fs) :=
  ⟨PE.weak (pe_makeL M F hgd hr hN hv hb hd hx ha.pa hdb hcd he hpl) fun σ H Q ⟨G, env, cf, q⟩ => by
    unfold fMakeL at q
    cases hi : env[i]? with
    | none =>
      rw [hi] at q
      exact q.elim
    | some s =>
      rw [hi] at q
      cases s with
      | sh d =>
        cases d with
        | cl c' =>
          simp only at q
          by_cases ec : c' = c
          · rw [if_pos ec] at q
            subst ec
            obtain ⟨v, h1, h2⟩ := cf.sh i _ hi
            obtain ⟨C', ns', h3, rfl⟩ := h2.clE
            rw [hct] at h3
            cases h3
            exact ⟨h1, lift_makeT hct rd hZ σ H Q ⟨G, env, cf, q⟩⟩
          · rw [if_neg ec] at q
            exact q.elim
        | _ => exact q.elim
      | _ => exact q.elim⟩
/-! texts -/
def oSplit (a : Str) : D → Option D
  | .str b => if (b.length == 0) = false ∧ a.length + 2 ≤ sizeLine then some (.lst ((Txt.split a b).map D.str)) else none
  | _ => none
theorem strs_rp {K : PySem.W.Frag} {ct : Ct} {F : Hp} : ∀ l : List Str, Rps K ct F (l.map V.str) (l.map D.str)
  | [] => .nil
  | s :: l => .cons (.str s) (strs_rp l)
theorem mv_split {K : PySem.W.Frag} {ct : Ct} : M1V K ct (fun x xs H Q => ∃ a b, x = .str a ∧ xs = [.str b] ∧ (b.length == 0) = false ∧ a.length + 2 ≤ sizeLine ∧ rNewStrs (Txt.split a b) H Q) oSplit := by
  intro S H a y d z Q live ry ho hq
  unfold oSplit at ho
  split at ho
  · rename_i b
    split at ho
    · rename_i hc
      cases ho
      rw [ry.strE]
      refine ⟨a, b, rfl, rfl, hc.1, hc.2, fun p hp => ?_⟩
      exact hq _ _ (Sb.Same.upd hp) (new_lst live hp (strs_rp _))
    · cases ho
  · cases ho
theorem de_split {o : Expr} {f h : Ev D} (ho : DE X B Z o f) (he : DE X B Z e h) (hs : starEach [e] X.env = [(false, eval e X.env)] := by rfl) (hbase : attributeBase o "split" X.env (eval o X.env) = eval o X.env := by rfl) (hline : (apos.endLine == pos.line) = true := by rfl) :
    DE X B Z (.Call (.Attribute o "split" apos) [e] [] pos) (fM1 oSplit f h) := de_m1 PySem.F.slot_str_split PySem.F.type_str_split mt_split mv_split ho he hs hbase hline
def oStarts (a : Str) : D → Option D
  | .str b => some (.bl (Txt.startswith a b))
  | _ => none
theorem mv_starts {K : PySem.W.Frag} {ct : Ct} : M1V K ct (fun x xs H Q => ∃ a b, x = .str a ∧ xs = [.str b] ∧ Q (.bl (Txt.startswith a b)) H) oStarts := by
  intro S H a y d z Q live ry ho hq
  unfold oStarts at ho
  split at ho
  · cases ho
    rw [ry.strE]
    exact ⟨a, _, rfl, rfl, hq _ H (Same.refl _) (.bl _)⟩
  · cases ho
theorem de_starts {o : Expr} {f h : Ev D} (ho : DE X B Z o f) (he : DE X B Z e h) (hs : starEach [e] X.env = [(false, eval e X.env)] := by rfl) (hbase : attributeBase o "startswith" X.env (eval o X.env) = eval o X.env := by rfl) (hline : (apos.endLine == pos.line) = true := by rfl) :
    DE X B Z (.Call (.Attribute o "startswith" apos) [e] [] pos) (fM1 oStarts f h) := de_m1 PySem.F.slot_str_startswith PySem.F.type_str_startswith mt_startswith mv_starts ho he hs hbase hline
def oIsDigit (a : Str) : Option D := some (.bl (Txt.isdigit a))
def oIsAscii (a : Str) : Option D := some (.bl (Txt.isascii a))
theorem mv_isdigit {K : PySem.W.Frag} {ct : Ct} : M0V K ct (fun x xs H Q => ∃ a, x = .str a ∧ xs = [] ∧ True ∧ Q (.bl (Txt.isdigit a)) H) oIsDigit := by
  intro S H a z Q live ho hq
  cases ho
  exact ⟨a, rfl, rfl, trivial, hq _ H (Same.refl _) (.bl _)⟩
theorem mv_isascii {K : PySem.W.Frag} {ct : Ct} : M0V K ct (fun x xs H Q => ∃ a, x = .str a ∧ xs = [] ∧ True ∧ Q (.bl (Txt.isascii a)) H) oIsAscii := by
  intro S H a z Q live ho hq
  cases ho
  exact ⟨a, rfl, rfl, trivial, hq _ H (Same.refl _) (.bl _)⟩
theorem de_isdigit {o : Expr} {f : Ev D} (ho : DE X B Z o f) (hbase : attributeBase o "isdigit" X.env (eval o X.env) = eval o X.env := by rfl) (hline : (apos.endLine == pos.line) = true := by rfl) : DE X B Z (.Call (.Attribute o "isdigit" apos) [] [] pos) (fM0 oIsDigit f) :=
  de_m0 PySem.F.slot_str_isdigit PySem.F.type_str_isdigit mt_isdigit mv_isdigit ho hbase hline
theorem de_isascii {o : Expr} {f : Ev D} (ho : DE X B Z o f) (hbase : attributeBase o "isascii" X.env (eval o X.env) = eval o X.env := by rfl) (hline : (apos.endLine == pos.line) = true := by rfl) : DE X B Z (.Call (.Attribute o "isascii" apos) [] [] pos) (fM0 oIsAscii f) :=
  de_m0 PySem.F.slot_str_isascii PySem.F.type_str_isascii mt_isascii mv_isascii ho hbase hline
/-- int(text) -/
def oIntS : D → Option D
  | .str a => (PySem.intText? a).bind fun n => if a.length ≤ 640 then some (.int n) else none
  | _ => none
theorem cv_intS {K : PySem.W.Frag} {ct : Ct} : CallV K ct (fun xs H Q => ∃ a n, xs = [.str a] ∧ PySem.intText? a = some n ∧ a.length ≤ 640 ∧ Q (.int n) H) (o1 oIntS) := cv1 fun S H x d z Q live rx ho hq => by
  unfold oIntS at ho
  split at ho
  · rename_i a
    cases hn : PySem.intText? a with
    | none =>
      rw [hn] at ho
      cases ho
    | some n =>
      rw [hn] at ho
      simp only [Option.bind_some] at ho
      split at ho
      · rename_i hl
        cases ho
        exact ⟨a, n, by rw [rx.strE], hn, hl, hq _ H (Same.refl _) (.int _)⟩
      · cases ho
  · cases ho
end
/-- a class method -/
structure Vcm (P : Program) (w : World) (K : PySem.W.Frag) (mg : Str → Option Value) (base : Heap) (CX : CXT) (k : Nat) (C : Addr) (n : Str) (f : Addr) (fd : FuncData) (ps : List Str) (ct : Ct) (m : List Bool) (Φ : List D → Res) : Prop where
  cm : ∃ mc q, ClX.CRead K C mc ∧ ClX.CMet K C mc n q f
  ok : FnG P w K mg base CX k f fd ps (spV K ct m Φ)
  bd : Binds K fd ps []
end Vl

set_option Elab.async false
set_option linter.all false
set_option maxRecDepth 100000
set_option maxHeartbeats 4000000
namespace Pg
open PySem L2 Sb Vl
def F_L_take : Ev Fl := (fSeq (fIte (fB (fOp (oI fun i j => .bl (decide (j < i))) (fIxO 0 (fC (.int 0))) (fC (.int 0)))) (fSeq (fAsg (.nm 2) (fOp (oIC (fun _ j => decide (0 < j)) fun i j => .int (i % j)) (fCB (o1 oInt) (fCons (fIxO 0 (fC (.int 0))) fNil)) (fVar 1)))
  (fSeq (fPutL 0 (fC (.int 0)) (fOp (oIC (fun _ j => decide (0 < j) && decide (j < 1073741824)) fun i j => .int (i / j)) (fIxO 0 (fC (.int 0))) (fVar 1)))
  (fRet (fVar 2)))) fNx)
  (fSeq (fPutL 0 (fC (.int 2)) (fOp (oI fun i j => .int (i + j)) (fIxO 0 (fC (.int 2))) (fC (.int 1))))
  (fSeq (fAsg (.nm 3) (fOp (oIC (fun _ j => decide (0 < j)) fun i j => .int (i % j)) (fCB (o1 oInt) (fCons (fOp (oIC (fun i j => decide (0 ≤ j) && decide ((Builtin.Int.intBits i : Int) * j ≤ 2 ^ 27)) fun i j => .int (i ^ j.toNat)) (fOp (oI fun i j => .int (i + j)) (fIxO 0 (fC (.int 1))) (fOp (oIC cMul fun i j => .int (i * j)) (fC (.int 1000003)) (fIxO 0 (fC (.int 2))))) (fC (.int 3))) fNil)) (fC (.int 2305843009213693921))))
  (fSeq (fAsg (.nm 3) (fOp (oIC (fun _ j => decide (0 < j)) fun i j => .int (i % j)) (fCB (o1 oInt) (fCons (fOp (oIC (fun i j => decide (0 ≤ j) && decide ((Builtin.Int.intBits i : Int) * j ≤ 2 ^ 27)) fun i j => .int (i ^ j.toNat)) (fOp (oI fun i j => .int (i + j)) (fVar 3) (fOp (oIC cMul fun i j => .int (i * j)) (fC (.int 179424673)) (fIxO 0 (fC (.int 2))))) (fC (.int 2))) fNil)) (fC (.int 2305843009213693951))))
  (fRet (fOp (oIC (fun _ j => decide (0 < j)) fun i j => .int (i % j)) (fOp (oIC (fun _ j => decide (0 < j) && decide (j < 1073741824)) fun i j => .int (i / j)) (fVar 3) (fC (.int 4096))) (fVar 1)))))))
def Φ_L_take : List D → Res := fun ds => (runV [true, false] 4 F_L_take ds).quiet
def F_L_of : Ev Fl := (fRet (fOp oIx (fVar 1) (fCall [true, false] Φ_L_take [] (gIo 0 (gCn (fCB (o1 oLen) (fCons (fVar 1) fNil)) gNl)))))
def Φ_L_of : List D → Res := fun ds => (runV [true, false] 2 F_L_of ds).quiet
def F_L_place : Ev Fl := (fSeq (fAsg (.nm 3) (fCall [true, false] Φ_L_take [] (gIo 0 (gCn (fOp (oI fun i j => .int (i + j)) (fVar 1) (fC (.int 4))) gNl))))
  (fRet (fIte (fB (fOp (oI fun i j => .bl (decide (i < j))) (fVar 3) (fVar 1))) (fVar 3) (fOp oIx (fVar 2) (fOp (oIC (fun _ j => decide (0 < j)) fun i j => .int (i % j)) (fCB (o1 oInt) (fCons (fVar 3) fNil)) (fC (.int 2)))))))
def Φ_L_place : List D → Res := fun ds => (runV [true, false, false] 4 F_L_place ds).quiet
def E_L_rows_1 : Ev D := (fTup (fCons (fCall [true, false] Φ_L_take [] (gIo 0 (gCn (fC (.int 2)) gNl))) (fCons (fCall [true, false, false] Φ_L_place [] (gIo 0 (gCn (fVar 1) (gCn (fVar 2) gNl)))) (fCons (fCall [true, false, false] Φ_L_place [] (gIo 0 (gCn (fVar 1) (gCn (fVar 2) gNl)))) fNil))))
def F_L_rows : Ev Fl := (fRetW (fComp (fRng1 (fCons (fVar 1) fNil)) (.nm 3) fYes E_L_rows_1 [3]))
def Φ_L_rows : List D → Res := fun ds => (runV [true, false, false] 4 F_L_rows ds).quiet
def B_L_led_1 : Ev Fl := (fIte (fAndT (fNotT (fB (fIsi .str (fVar 4)))) (fB (fInO true (fVar 4) 2))) (fApp 2 (fVar 4)) fNx)
def L_L_led_1 : Ev Fl := (fFor (fItems (fSl oSlT (fOp oIx (fVar 0) (fIxO 2 (fVar 3))) (fPart (fC (.int 1))) fNoPart)) (.nm 4) B_L_led_1)
def T_L_led_1 : Ev Bool := (fB (fOp (oI fun i j => .bl (decide (i < j))) (fVar 3) (fLenO 2)))
def B_L_led_2 : Ev Fl := (fSeq L_L_led_1
  (fAsg (.nm 3) (fOp (oI fun i j => .int (i + j)) (fVar 3) (fC (.int 1)))))
def L_L_led_2 : Ev Fl := (wloop T_L_led_1 B_L_led_2 100000)
def F_L_led : Ev Fl := (fSeq (fPar 2 3 (fLst (fCons (fVar 1) fNil)) (fC (.int 0)) true false)
  (fSeq L_L_led_2
  (fRetO 2)))
def Φ_L_led : List D → Res := fun ds => (runV [false, false] 5 F_L_led ds).quiet
def B_L_hearer_1 : Ev Fl := (fSeq (fAsg (.tp [(.nm 4), (.nm 5), (.nm 6)]) (fIxO 2 (fVar 3)))
  (fPutL 2 (fVar 3) (fTup (fCons (fVar 4) (fCons (fIte (fB (fOp (oEq false) (fVar 5) (fC (.str "taken")))) (fC (.str "lost")) (fVar 5)) (fCons (fIte (fB (fOp (oEq false) (fVar 6) (fC (.str "taken")))) (fC (.str "lost")) (fVar 6)) fNil))))))
def L_L_hearer_1 : Ev Fl := (fFor (fItems (fCallL [false, false] Φ_L_led (gIo 2 (gCn (fC (.int 1)) gNl)))) (.nm 3) B_L_hearer_1)
def F_L_hearer : Ev Fl := (fSeq (fSetN 2 (fCallN [true, false, false] Φ_L_rows [] (gIo 0 (gCn (fVar 1) (gCn (fLst (fCons (fC (.str "taken")) (fCons (fC (.str "lost")) fNil))) gNl)))))
  (fSeq L_L_hearer_1
  (fRetO 2)))
def Φ_L_hearer : List D → Res := fun ds => (runV [true, false] 7 F_L_hearer ds).quiet
def F_L_sender : Ev Fl := (fRetW (fCallN [true, false, false] Φ_L_rows [] (gIo 0 (gCn (fVar 1) (gCn (fLst (fCons (fC (.str "done")) (fCons (fC (.str "again")) fNil))) gNl)))))
def Φ_L_sender : List D → Res := fun ds => (runV [true, false] 2 F_L_sender ds).quiet
end Pg

set_option Elab.async false
set_option linter.all false
set_option maxRecDepth 100000
set_option maxHeartbeats 4000000
namespace Pg
open PySem L2 Sb Vl
def F_is_number : Ev Fl := (fRet (fAnd (fIsi .int (fVar 0)) (fNot (fIsi .bool (fVar 0)))))
def Φ_is_number : List D → Res := fun ds => (runV [false] 1 F_is_number ds).quiet
def F_is_follower : Ev Fl := (fSeq (fIte (fB (fIsi .str (fVar 0))) (fRet (fOp (oInT false) (fVar 0) (fVar 2))) fNx)
  (fRet (fAnd (fCall [false] Φ_is_number [] (gCn (fVar 0) gNl)) (fChain (oI fun i j => .bl (decide (i ≤ j))) (oI fun i j => .bl (decide (i < j))) (fC (.int 0)) (fVar 0) (fVar 1)))))
def Φ_is_follower : List D → Res := fun ds => (runV [false, false, false] 3 F_is_follower ds).quiet
def F_is_row : Ev Fl := (fSeq (fIte (fOrT (fNotT (fB (fIsi .tuple (fVar 0)))) (fB (fOp (oEqS true) (fCB (o1 oLen) (fCons (fVar 0) fNil)) (fC (.int 3))))) (fRet (fC (.bl false))) fNx)
  (fSeq (fAsg (.tp [(.nm 3), (.nm 4), (.nm 5)]) (fVar 0))
  (fSeq (fIte (fOrT (fNotT (fB (fCall [false] Φ_is_number [] (gCn (fVar 3) gNl)))) (fB (fOp (oInT true) (fVar 3) (fTup (fCons (fC (.int 0)) (fCons (fC (.int 1)) fNil)))))) (fRet (fC (.bl false))) fNx)
  (fRet (fAnd (fCall [false, false, false] Φ_is_follower [] (gCn (fVar 4) (gCn (fVar 1) (gCn (fVar 2) gNl)))) (fCall [false, false, false] Φ_is_follower [] (gCn (fVar 5) (gCn (fVar 1) (gCn (fVar 2) gNl)))))))))
def Φ_is_row : List D → Res := fun ds => (runV [false, false, false] 6 F_is_row ds).quiet
def B_reached_1 : Ev Fl := (fSeq (fIte (fB (fDInO false 2 (fVar 5))) fCt fNx)
  (fSeq (fDPutO 2 (fVar 5) (fC (.bl true)))
  (fIte (fB (fCall [false] Φ_is_number [] (gCn (fVar 5) gNl))) (fApp 3 (fVar 5)) fNx)))
def L_reached_1 : Ev Fl := (fFor (fItems (fSl oSlT (fOp oIx (fVar 0) (fVar 4)) (fPart (fC (.int 1))) fNoPart)) (.nm 5) B_reached_1)
def T_reached_1 : Ev Bool := (fTruO 3)
def B_reached_2 : Ev Fl := (fSeq (fAsg (.nm 4) (fPop 3))
  L_reached_1)
def L_reached_2 : Ev Fl := (wloop T_reached_1 B_reached_2 100000)
def F_reached : Ev Fl := (fSeq (fSetN 2 (fDOne (fVar 1) (fC (.bl true))))
  (fSeq (fSetN 3 (fLst (fCons (fVar 1) fNil)))
  (fSeq L_reached_2
  (fRetW (fListD 2)))))
def Φ_reached : List D → Res := fun ds => (runV [false, false] 6 F_reached ds).quiet
def B_check_machine_1 : Ev Fl := (fIte (fNotT (fB (fCall [false, false, false] Φ_is_row [] (gCn (fVar 6) (gCn (fCB (o1 oLen) (fCons (fVar 1) fNil)) (gCn (fVar 4) gNl)))))) (fRaise "BadEnd" (fCons (fVar 0) (fCons (fVar 5) fNil))) fNx)
def L_check_machine_1 : Ev Fl := (fFor (fEnum (fCons (fVar 1) fNil)) (.tp [(.nm 5), (.nm 6)]) B_check_machine_1)
def F_check_machine : Ev Fl := (fSeq (fIte (fOrT (fNotT (fB (fIsi2 .list .tuple (fVar 1)))) (fNotT (fB (fChain (oI fun i j => .bl (decide (i ≤ j))) (oI fun i j => .bl (decide (i ≤ j))) (fVar 2) (fCB (o1 oLen) (fCons (fVar 1) fNil)) (fVar 3))))) (fRaise "BadEnd" (fCons (fVar 0) (fCons (fC .non) fNil))) fNx)
  L_check_machine_1)
def Φ_check_machine : List D → Res := fun ds => (runV [false, false, false, false, false] 7 F_check_machine ds)
def E_numbered_rows_1 : Ev D := (fTup (fCons (fVar 0) (fCons (fVar 2) (fCons (fVar 3) fNil))))
def F_numbered_rows : Ev Fl := (fRetW (fComp (fEnum (fCons (fVar 1) fNil)) (.tp [(.nm 2), (.nm 3)]) fYes E_numbered_rows_1 [2, 3]))
def Φ_numbered_rows : List D → Res := fun ds => (runV [false, false] 4 F_numbered_rows ds).quiet
def F_End_init : Ev Fl := (fSeq (fDrop (fCall [false, false, false, false, false] Φ_check_machine [] (gCn (fC (.str "hearer")) (gCn (fVar 1) (gCn (fC (.int 2)) (gCn (fC (.int 100)) (gCn (fC (.ctup [(.str "taken"), (.str "lost")])) gNl)))))))
  (fSeq (fDrop (fCall [false, false, false, false, false] Φ_check_machine [] (gCn (fC (.str "sender")) (gCn (fVar 2) (gCn (fC (.int 1)) (gCn (fC (.int 100)) (gCn (fC (.ctup [(.str "done"), (.str "again")])) gNl)))))))
  (fSeq (fIte (fB (fOp (oIn false) (fC (.str "taken")) (fCall [false, false] Φ_reached [] (gCn (fVar 1) (gCn (fC (.int 1)) gNl))))) (fRaise "BadEnd" (fCons (fC (.str "body")) (fCons (fC .non) fNil))) fNx)
  (fSeq (fFldS "End" 0 0 (fCB (o1 oTuple) (fCons (fVar 1) fNil)))
  (fSeq (fFldS "End" 0 1 (fCB (o1 oTuple) (fCons (fVar 2) fNil)))
  (fFldS "End" 0 2 (fCB (o1 oTuple) (fCons (fOp oCat (fCall [false, false] Φ_numbered_rows [] (gCn (fC (.str "hearer")) (gCn (fVar 1) gNl))) (fCall [false, false] Φ_numbered_rows [] (gCn (fC (.str "sender")) (gCn (fVar 2) gNl)))) fNil))))))))
def Φ_End_init : List D → Res := fun ds => (runV [true, false, false] 3 F_End_init ds)
def F_End_eq : Ev Fl := (fRet (fAnd (fUn (oIsO "End") (fVar 1)) (fAnd (fOp (oEq false) (fUn (oFld "End" 0) (fVar 0)) (fUn (oFld "End" 0) (fVar 1))) (fOp (oEq false) (fUn (oFld "End" 1) (fVar 0)) (fUn (oFld "End" 1) (fVar 1))))))
def Φ_End_eq : List D → Res := fun ds => (runV [false, false] 2 F_End_eq ds).quiet
def E_End_contains_1 : Ev D := (fIsi .bool (fVar 2))
def F_End_contains : Ev Fl := (fSeq (fIte (fOrT (fNotT (fB (fIsi .tuple (fVar 1)))) (fB (fCB (o1 oAny) (fCons (fComp (fItems (fVar 1)) (.nm 2) fYes E_End_contains_1 [2]) fNil)))) (fRet (fC (.bl false))) fNx)
  (fRet (fOr (fOp (oInT false) (fVar 1) (fUn (oFld "End" 0) (fVar 0))) (fOp (oInT false) (fVar 1) (fUn (oFld "End" 1) (fVar 0))))))
def Φ_End_contains : List D → Res := fun ds => (runV [false, false] 3 F_End_contains ds).quiet
def E_machine_text_1 : Ev D := (fJs [(fFmt (fVar 1)), (fC (.str " ")), (fFmt (fVar 2)), (fC (.str " ")), (fFmt (fVar 3))] Str.empty)
def F_machine_text : Ev Fl := (fRet (fM1 oJoin (fC (.str ", ")) (fComp (fItems (fVar 0)) (.tp [(.nm 1), (.nm 2), (.nm 3)]) fYes E_machine_text_1 [1, 2, 3])))
def Φ_machine_text : List D → Res := fun ds => (runV [false] 4 F_machine_text ds).quiet
def F_End_str : Ev Fl := (fRet (fJs [(fFmt (fCall [false] Φ_machine_text [] (gCn (fUn (oFld "End" 0) (fVar 0)) gNl))), (fC (.str " | ")), (fFmt (fCall [false] Φ_machine_text [] (gCn (fUn (oFld "End" 1) (fVar 0)) gNl)))] Str.empty))
def Φ_End_str : List D → Res := fun ds => (runV [false] 1 F_End_str ds).quiet
end Pg

set_option Elab.async false
set_option linter.all false
set_option maxRecDepth 100000
set_option maxHeartbeats 4000000
namespace Pg
open PySem L2 Sb Vl
def F_is_numeral : Ev Fl := (fSeq (fIte (fOrT (fNotT (fB (fM0 oIsAscii (fVar 0)))) (fOrT (fNotT (fB (fM0 oIsDigit (fVar 0)))) (fB (fOp (oI fun i j => .bl (decide (j < i))) (fCB (o1 oLen) (fCons (fVar 0) fNil)) (fC (.int 9)))))) (fRet (fC (.bl false))) fNx)
  (fRet (fOr (fOp (oEqS false) (fVar 0) (fC (.str "0"))) (fNot (fM1 oStarts (fVar 0) (fC (.str "0")))))))
def Φ_is_numeral : List D → Res := fun ds => (runV [false] 1 F_is_numeral ds).quiet
def F_read_follower : Ev Fl := (fSeq (fIte (fOrT (fB (fOp (oInT false) (fVar 0) (fC (.ctup [(.str "taken"), (.str "lost")])))) (fB (fOp (oInT false) (fVar 0) (fC (.ctup [(.str "done"), (.str "again")]))))) (fRet (fVar 0)) fNx)
  (fSeq (fIte (fB (fCall [false] Φ_is_numeral [] (gCn (fVar 0) gNl))) (fRet (fCB (o1 oIntS) (fCons (fVar 0) fNil))) fNx)
  (fRet (fC .non))))
def Φ_read_follower : List D → Res := fun ds => (runV [false] 1 F_read_follower ds).quiet
def F_read_row : Ev Fl := (fSeq (fAsg (.nm 1) (fM1 oSplit (fVar 0) (fC (.str " "))))
  (fSeq (fIte (fOrT (fB (fOp (oEqS true) (fCB (o1 oLen) (fCons (fVar 1) fNil)) (fC (.int 3)))) (fB (fOp (oInT true) (fOp oIx (fVar 1) (fC (.int 0))) (fTup (fCons (fC (.str "0")) (fCons (fC (.str "1")) fNil)))))) (fRet (fC .non)) fNx)
  (fSeq (fAsg (.nm 2) (fCall [false] Φ_read_follower [] (gCn (fOp oIx (fVar 1) (fC (.int 1))) gNl)))
  (fSeq (fAsg (.nm 3) (fCall [false] Φ_read_follower [] (gCn (fOp oIx (fVar 1) (fC (.int 2))) gNl)))
  (fSeq (fIte (fOrT (fB (fOp (oIsN false) (fVar 2) (fC .non))) (fB (fOp (oIsN false) (fVar 3) (fC .non)))) (fRet (fC .non)) fNx)
  (fRet (fTup (fCons (fCB (o1 oIntS) (fCons (fOp oIx (fVar 1) (fC (.int 0))) fNil)) (fCons (fVar 2) (fCons (fVar 3) fNil))))))))))
def Φ_read_row : List D → Res := fun ds => (runV [false] 4 F_read_row ds).quiet
def E_read_machines_1 : Ev D := (fCall [false] Φ_read_row [] (gCn (fVar 3) gNl))
def E_read_machines_2 : Ev D := (fComp (fItems (fM1 oSplit (fVar 2) (fC (.str ", ")))) (.nm 3) fYes E_read_machines_1 [3])
def F_read_machines : Ev Fl := (fSeq (fIte (fNotT (fB (fIsi .str (fVar 0)))) (fRet (fC .non)) fNx)
  (fSeq (fAsg (.nm 1) (fComp (fItems (fM1 oSplit (fVar 0) (fC (.str " | ")))) (.nm 2) fYes E_read_machines_2 [2]))
  (fSeq (fIte (fOrT (fB (fOp (oEqS true) (fCB (o1 oLen) (fCons (fVar 1) fNil)) (fC (.int 2)))) (fOrT (fB (fOp (oIn false) (fC .non) (fOp oIx (fVar 1) (fC (.int 0))))) (fB (fOp (oIn false) (fC .non) (fOp oIx (fVar 1) (fC (.int 1))))))) (fRet (fC .non)) fNx)
  (fRet (fVar 1)))))
def Φ_read_machines : List D → Res := fun ds => (runV [false] 4 F_read_machines ds).quiet
def F_End_from_text : Ev Fl := (fSeq (fAsg (.nm 2) (fCall [false] Φ_read_machines [] (gCn (fVar 1) gNl)))
  (fSeq (fIte (fB (fOp (oIsN false) (fVar 2) (fC .non))) (fRaise "BadText" (fCons (fVar 1) fNil)) fNx)
  (fSeq (fAsg (.ul [(.nm 3), (.nm 4)]) (fVar 2))
  (fRet (fMakeL 0 "End" [true, false, false] Φ_End_init [] (fCons (fVar 3) (fCons (fVar 4) fNil)))))))
def Φ_End_from_text : List D → Res := fun ds => (runV [false, false] 5 F_End_from_text ds)
end Pg

set_option Elab.async false
set_option linter.all false
set_option maxRecDepth 100000
set_option maxHeartbeats 4000000
namespace K05
open PySem L2 Sb Vl Pg
def top (i : Nat) : Stmt := PySem.Challenge.pw_strongbit_k05_texts_of_ends.main.body.getD i (.Pass ⟨0, 0, 0, 0⟩)
abbrev sis_number : Stmt := top 6
theorem scis_number : FnScope ["value"] ["value"] (defScope sis_number) := ⟨rfl, rfl, rfl, by decide +kernel, rfl, by decide +kernel, by decide +kernel⟩
abbrev sis_follower : Stmt := top 7
theorem scis_follower : FnScope ["value", "size", "words"] ["value", "size", "words"] (defScope sis_follower) := ⟨rfl, rfl, rfl, by decide +kernel, rfl, by decide +kernel, by decide +kernel⟩
abbrev sis_row : Stmt := top 8
theorem scis_row : FnScope ["value", "size", "words", "put", "on_strong", "on_weak"] ["value", "size", "words"] (defScope sis_row) := ⟨rfl, rfl, rfl, by decide +kernel, rfl, by decide +kernel, by decide +kernel⟩
abbrev sreached : Stmt := top 9
theorem screached : FnScope ["rows", "begin", "found", "ahead", "place", "follower"] ["rows", "begin"] (defScope sreached) := ⟨rfl, rfl, rfl, by decide +kernel, rfl, by decide +kernel, by decide +kernel⟩
abbrev scheck_machine : Stmt := top 18
theorem sccheck_machine : FnScope ["part", "machine", "fewest", "most", "words", "index", "row"] ["part", "machine", "fewest", "most", "words"] (defScope scheck_machine) := ⟨rfl, rfl, rfl, by decide +kernel, rfl, by decide +kernel, by decide +kernel⟩
abbrev snumbered_rows : Stmt := top 19
theorem scnumbered_rows : FnScope ["part", "machine", "index", "row"] ["part", "machine"] (defScope snumbered_rows) := ⟨rfl, rfl, rfl, by decide +kernel, rfl, by decide +kernel, by decide +kernel⟩
abbrev sEnd_init : Stmt := inClass (top 20) 1
theorem scEnd_init : FnScope ["self", "hearer", "sender"] ["self", "hearer", "sender"] (defScope sEnd_init) := ⟨rfl, rfl, rfl, by decide +kernel, rfl, by decide +kernel, by decide +kernel⟩
abbrev sEnd_eq : Stmt := inClass (top 20) 5
theorem scEnd_eq : FnScope ["self", "other"] ["self", "other"] (defScope sEnd_eq) := ⟨rfl, rfl, rfl, by decide +kernel, rfl, by decide +kernel, by decide +kernel⟩
abbrev smachine_text : Stmt := top 12
theorem scmachine_text : FnScope ["rows", "put", "on_strong", "on_weak"] ["rows"] (defScope smachine_text) := ⟨rfl, rfl, rfl, by decide +kernel, rfl, by decide +kernel, by decide +kernel⟩
abbrev sEnd_str : Stmt := inClass (top 20) 8
theorem scEnd_str : FnScope ["self"] ["self"] (defScope sEnd_str) := ⟨rfl, rfl, rfl, by decide +kernel, rfl, by decide +kernel, by decide +kernel⟩
abbrev sis_numeral : Stmt := top 13
theorem scis_numeral : FnScope ["piece"] ["piece"] (defScope sis_numeral) := ⟨rfl, rfl, rfl, by decide +kernel, rfl, by decide +kernel, by decide +kernel⟩
abbrev sread_follower : Stmt := top 14
theorem scread_follower : FnScope ["piece"] ["piece"] (defScope sread_follower) := ⟨rfl, rfl, rfl, by decide +kernel, rfl, by decide +kernel, by decide +kernel⟩
abbrev sread_row : Stmt := top 15
theorem scread_row : FnScope ["text", "pieces", "on_strong", "on_weak"] ["text"] (defScope sread_row) := ⟨rfl, rfl, rfl, by decide +kernel, rfl, by decide +kernel, by decide +kernel⟩
abbrev sread_machines : Stmt := top 16
theorem scread_machines : FnScope ["text", "machines", "machine", "row"] ["text"] (defScope sread_machines) := ⟨rfl, rfl, rfl, by decide +kernel, rfl, by decide +kernel, by decide +kernel⟩
abbrev sEnd_from_text : Stmt := inClass (top 20) 2
theorem scEnd_from_text : FnScope ["cls", "text", "machines", "hearer", "sender"] ["cls", "text"] (defScope sEnd_from_text) := ⟨rfl, rfl, rfl, by decide +kernel, rfl, by decide +kernel, by decide +kernel⟩
abbrev sL_bag : Stmt := top 22
theorem scL_bag : FnScope ["_law_script", "_law_at", "_law_cell", "_law_great"] ["_law_script", "_law_at"] (defScope sL_bag) := ⟨rfl, rfl, rfl, by decide +kernel, rfl, by decide +kernel, by decide +kernel⟩
abbrev sL_take : Stmt := top 23
theorem scL_take : FnScope ["_law_bag_here", "_law_many", "_law_digit", "_law_mixed"] ["_law_bag_here", "_law_many"] (defScope sL_take) := ⟨rfl, rfl, rfl, by decide +kernel, rfl, by decide +kernel, by decide +kernel⟩
abbrev sL_place : Stmt := top 24
theorem scL_place : FnScope ["_law_bag_here", "_law_many", "_law_words", "_law_way"] ["_law_bag_here", "_law_many", "_law_words"] (defScope sL_place) := ⟨rfl, rfl, rfl, by decide +kernel, rfl, by decide +kernel, by decide +kernel⟩
abbrev sL_rows : Stmt := top 25
theorem scL_rows : FnScope ["_law_bag_here", "_law_many", "_law_words", "_law_k"] ["_law_bag_here", "_law_many", "_law_words"] (defScope sL_rows) := ⟨rfl, rfl, rfl, by decide +kernel, rfl, by decide +kernel, by decide +kernel⟩
abbrev sL_led : Stmt := top 26
theorem scL_led : FnScope ["_law_rows_here", "_law_first", "_law_found", "_law_at", "_law_place_here"] ["_law_rows_here", "_law_first"] (defScope sL_led) := ⟨rfl, rfl, rfl, by decide +kernel, rfl, by decide +kernel, by decide +kernel⟩
abbrev sL_hearer : Stmt := top 27
theorem scL_hearer : FnScope ["_law_bag_here", "_law_many", "_law_rows_here", "_law_at", "_law_put", "_law_strong", "_law_weak"] ["_law_bag_here", "_law_many"] (defScope sL_hearer) := ⟨rfl, rfl, rfl, by decide +kernel, rfl, by decide +kernel, by decide +kernel⟩
abbrev sL_sender : Stmt := top 28
theorem scL_sender : FnScope ["_law_bag_here", "_law_many"] ["_law_bag_here", "_law_many"] (defScope sL_sender) := ⟨rfl, rfl, rfl, by decide +kernel, rfl, by decide +kernel, by decide +kernel⟩
abbrev sL_word : Stmt := top 29
theorem scL_word : FnScope ["_law_part"] ["_law_part"] (defScope sL_word) := ⟨rfl, rfl, rfl, by decide +kernel, rfl, by decide +kernel, by decide +kernel⟩
abbrev sL_text : Stmt := top 30
theorem scL_text : FnScope ["_law_hearer_here", "_law_sender_here", "_law_told", "_law_machines", "_law_number", "_law_index", "_law_row"] ["_law_hearer_here", "_law_sender_here"] (defScope sL_text) := ⟨rfl, rfl, rfl, by decide +kernel, rfl, by decide +kernel, by decide +kernel⟩
abbrev sL_right : Stmt := top 31
theorem scL_right : FnScope ["_law_hearer_here", "_law_sender_here", "_law_end", "_law_due", "_law_read"] ["_law_hearer_here", "_law_sender_here"] (defScope sL_right) := ⟨rfl, rfl, rfl, by decide +kernel, rfl, by decide +kernel, by decide +kernel⟩
abbrev slaw : Stmt := top 32
theorem sclaw : FnScope ["_law_script", "_law_k", "_law_bag_here", "_law_turn", "_law_step", "_law_long", "_law_at"] ["_law_script"] (defScope slaw) := ⟨rfl, rfl, rfl, by decide +kernel, rfl, by decide +kernel, by decide +kernel⟩
structure Txt (K : PySem.W.Frag) (mg : Str → Option Value) (ct : Ct) : Prop where
  b_abs : mg "abs" = none
  b_bool : mg "bool" = none
  b_enumerate : mg "enumerate" = none
  b_int : mg "int" = none
  b_isinstance : mg "isinstance" = none
  b_len : mg "len" = none
  b_list : mg "list" = none
  b_max : mg "max" = none
  b_min : mg "min" = none
  b_range : mg "range" = none
  b_str : mg "str" = none
  b_tuple : mg "tuple" = none
  m_HEARER_WORDS : GC K mg ct "HEARER_WORDS" (.ctup [(.str "taken"), (.str "lost")])
  m_MOST_DIGITS : GC K mg ct "MOST_DIGITS" (.int 9)
  m_SENDER_WORDS : GC K mg ct "SENDER_WORDS" (.ctup [(.str "done"), (.str "again")])
  c_BadEnd : ct "BadEnd" = some (cA ct "BadEnd", (["row", "part"] : List Str))
  c_BadText : ct "BadText" = some (cA ct "BadText", (["text"] : List Str))
  c_End : ct "End" = some (cA ct "End", (["hearer_rows", "sender_rows", "rows"] : List Str))
  mc_End : mg "End" = some (.ref (cA ct "End"))
  o_End : OwC K (cA ct "End")
  n_End_hearer_rows : NoAttr K (cA ct "End") "hearer_rows"
  n_End_rows : NoAttr K (cA ct "End") "rows"
  n_End_sender_rows : NoAttr K (cA ct "End") "sender_rows"
  cv_End_MOST : ∃ mc u, ClX.CRead K (cA ct "End") mc ∧ ClX.CVal K (cA ct "End") mc "MOST" (.int 100) u
section
variable {P : Program} {w : World} {K : PySem.W.Frag} {mg : Str → Option Value} {base : Heap}
theorem dv_is_number {ct : Ct} {f : Addr} {fd : FuncData} (T : Txt K mg ct) (F : Fun K "is_number" "is_number" sis_number f fd) : FnG P w K mg base CX0 1 f fd ["value"] (spV K ct [false] Φ_is_number) :=
  okVg F scis_number rfl fun io cdv A out s H E hg hr hu66 => by
    have hu65 : (A.deeper (PyProof.Rows.envOfC "is_number" (defScope sis_number) s.heap.objs.size f cdv)).units + 65 < cLine := by omega
    exact (dss_one (ds_ret (de_and (de_isi (n := .int) rfl (by decide) T.b_isinstance (by rfl) (dv 0) (pe_bltn (v := .ty "int") (by rfl) T.b_int (by decide +kernel) rfl)) (de_one (de_not (de_isi (n := .bool) rfl (by decide) T.b_isinstance (by rfl) (dv 0) (pe_bltn (v := .ty "bool") (by rfl) T.b_bool (by decide +kernel) rfl)))))))

theorem dv_is_follower {ct : Ct} {f : Addr} {fd : FuncData} {f_is_number : Addr} {fd_is_number : FuncData} (T : Txt K mg ct) (V_is_number : Vx P w K mg base 1 "is_number" f_is_number fd_is_number ["value"] ct [false] Φ_is_number) (F : Fun K "is_follower" "is_follower" sis_follower f fd) : FnG P w K mg base CX0 2 f fd ["value", "size", "words"] (spV K ct [false, false, false] Φ_is_follower) :=
  okVg F scis_follower rfl fun io cdv A out s H E hg hr hu66 => by
    have hu65 : (A.deeper (PyProof.Rows.envOfC "is_follower" (defScope sis_follower) s.heap.objs.size f cdv)).units + 65 < cLine := by omega
    exact (dss_cons (ds_if (dt_val (de_isi (n := .str) rfl (by decide) T.b_isinstance (by rfl) (dv 0) (pe_bltn (v := .ty "str") (by rfl) T.b_str (by decide +kernel) rfl))) (dss_one (ds_ret (de_cmp (op_inT hu66) opv_inT (dv 0) (dv 2) (by rfl)))) dss_nil)
  (dss_one (ds_ret (de_and (de_call V_is_number.ok hg (hr.mono (by decide)) (by rfl) V_is_number.mg V_is_number.kp V_is_number.bd .nil (fun _ => .nil) (E := E0v) pass0 zno_any (dai_cons (dv 0) dai_nil)) (de_one (de_chain op_le opv_le op_lt opv_lt de_int (dv 0) (dv 1)))))))

theorem dv_is_row {ct : Ct} {f : Addr} {fd : FuncData} {f_is_follower : Addr} {fd_is_follower : FuncData} {f_is_number : Addr} {fd_is_number : FuncData} (T : Txt K mg ct) (V_is_follower : Vx P w K mg base 2 "is_follower" f_is_follower fd_is_follower ["value", "size", "words"] ct [false, false, false] Φ_is_follower) (V_is_number : Vx P w K mg base 1 "is_number" f_is_number fd_is_number ["value"] ct [false] Φ_is_number) (F : Fun K "is_row" "is_row" sis_row f fd) : FnG P w K mg base CX0 3 f fd ["value", "size", "words"] (spV K ct [false, false, false] Φ_is_row) :=
  okVg F scis_row rfl fun io cdv A out s H E hg hr hu66 => by
    have hu65 : (A.deeper (PyProof.Rows.envOfC "is_row" (defScope sis_row) s.heap.objs.size f cdv)).units + 65 < cLine := by omega
    exact (dss_cons (ds_if (DW.dt (dw_or (dt_not (dt_val (de_isi (n := .tuple) rfl (by decide) T.b_isinstance (by rfl) (dv 0) (pe_bltn (v := .ty "tuple") (by rfl) T.b_tuple (by decide +kernel) rfl)))) (dw_or1 (dt_cmp op_ne opv_neS (de_callB call_lenA cv_len (by rfl) T.b_len (by decide +kernel) (da_cons (dv 0) da_nil)) de_int (nomark _))))) (dss_one (ds_ret de_bl)) dss_nil)
  (dss_cons (ds_asg (dv 0) (dg_tup rfl (dgs_cons (dgn 3 scis_row.nd) (dgs_cons (dgn 4 scis_row.nd) (dgs_cons (dgn 5 scis_row.nd) dgs_nil)))))
  (dss_cons (ds_if (DW.dt (dw_or (dt_not (dt_val (de_call V_is_number.ok hg (hr.mono (by decide)) (by rfl) V_is_number.mg V_is_number.kp V_is_number.bd .nil (fun _ => .nil) (E := E0v) pass0 zno_any (dai_cons (dv 3) dai_nil)))) (dw_or1 (dt_cmp (op_notInT hu66) opv_notInT (dv 3) (de_tup (da_cons de_int (da_cons de_int da_nil))) (by rfl))))) (dss_one (ds_ret de_bl)) dss_nil)
  (dss_one (ds_ret (de_and (de_call V_is_follower.ok hg (hr.mono (by decide)) (by rfl) V_is_follower.mg V_is_follower.kp V_is_follower.bd .nil (fun _ => .nil) (E := E0v) pass0 zno_any (dai_cons (dv 4) (dai_cons (dv 1) (dai_cons (dv 2) dai_nil)))) (de_one (de_call V_is_follower.ok hg (hr.mono (by decide)) (by rfl) V_is_follower.mg V_is_follower.kp V_is_follower.bd .nil (fun _ => .nil) (E := E0v) pass0 zno_any (dai_cons (dv 5) (dai_cons (dv 1) (dai_cons (dv 2) dai_nil)))))))))))

theorem dv_reached {ct : Ct} {f : Addr} {fd : FuncData} {f_is_number : Addr} {fd_is_number : FuncData} (T : Txt K mg ct) (V_is_number : Vx P w K mg base 1 "is_number" f_is_number fd_is_number ["value"] ct [false] Φ_is_number) (F : Fun K "reached" "reached" sreached f fd) : FnG P w K mg base CX0 2 f fd ["rows", "begin"] (spV K ct [false, false] Φ_reached) :=
  okVg F screached rfl fun io cdv A out s H E hg hr hu66 => by
    have hu65 : (A.deeper (PyProof.Rows.envOfC "reached" (defScope sreached) s.heap.objs.size f cdv)).units + 65 < cLine := by omega
    exact (dss_cons (ds_new (i := 2) screached.nd rfl (by first | exact Or.inl rfl | exact Or.inr rfl) (dn_oneK (dv 1) de_bl))
  (dss_cons (ds_new (i := 3) screached.nd rfl (by first | exact Or.inl rfl | exact Or.inr rfl) (dn_lst (da_cons (dv 1) da_nil)))
  (dss_cons (ds_while 100000 PassesOwn.never (dt_truO 3) (dss_cons (dset 4 screached.nd (dpop 3))
  (dss_one (ds_for PassesOwn.never rfl (di_seq (de_slice sl_tupA sv_tup (dix (dv 0) (dv 4)) (do_some de_int) do_none)) (dgn 5 screached.nd) (dss_cons (ds_if (dt_dinO (i := 2) hu65 rfl (by first | exact Or.inl rfl | exact Or.inr (Or.inl rfl) | exact Or.inr (Or.inr rfl)) (dv 5)) (dss_one ds_continue) dss_nil)
  (dss_cons (ds_dputO (i := 2) hu65 rfl (by first | exact Or.inl rfl | exact Or.inr (Or.inl rfl) | exact Or.inr (Or.inr rfl)) de_bl (dv 5))
  (dss_one (ds_if (dt_val (de_call V_is_number.ok hg (hr.mono (by decide)) (by rfl) V_is_number.mg V_is_number.kp V_is_number.bd .nil (fun _ => .nil) (E := E0v) pass0 zno_any (dai_cons (dv 5) dai_nil))) (dss_one (dapp 3 (dv 5))) dss_nil))))))))
  (dss_one (ds_retW (dnlistD 2 (hm := T.b_list)))))))

theorem dv_check_machine {ct : Ct} {f : Addr} {fd : FuncData} {f_is_row : Addr} {fd_is_row : FuncData} {f_BadEnd_i : Addr} {fd_BadEnd_i : FuncData} (T : Txt K mg ct) (V_is_row : Vx P w K mg base 3 "is_row" f_is_row fd_is_row ["value", "size", "words"] ct [false, false, false] Φ_is_row) (O_BadEnd : Ox P w K mg base 1 "BadEnd" (cA ct "BadEnd") f_BadEnd_i fd_BadEnd_i ["self", "part", "row"] (spXI (cA ct "BadEnd") ["row", "part"])) (F : Fun K "check_machine" "check_machine" scheck_machine f fd) : FnG P w K mg base (L2.CX P w) 4 f fd ["part", "machine", "fewest", "most", "words"] (spV K ct [false, false, false, false, false] Φ_check_machine) :=
  okXV F sccheck_machine rfl fun io cdv A out s H E hg hr hu66 => by
    have hu65 : (A.deeper (PyProof.Rows.envOfC "check_machine" (defScope scheck_machine) s.heap.objs.size f cdv)).units + 65 < cLine := by omega
    exact (dss_cons (ds_if (DW.dt (dw_or (dt_not (dt_val (de_isi2 (n1 := .list) (n2 := .tuple) rfl rfl (by decide) (by decide) T.b_isinstance (by rfl) (dv 1) (pe_bltn (v := .ty "list") (by rfl) T.b_list (by decide +kernel) rfl) (pe_bltn (v := .ty "tuple") (by rfl) T.b_tuple (by decide +kernel) rfl)))) (dw_or1 (dt_not (dt_chain op_le opv_le op_le opv_le (dv 2) (de_callB call_lenA cv_len (by rfl) T.b_len (by decide +kernel) (da_cons (dv 1) da_nil)) (dv 3)))))) (dss_one (ds_raise O_BadEnd T.c_BadEnd rfl tk_of (hr.mono (by decide)) (by rfl) zE (da_cons (dv 0) (da_cons de_non da_nil)) (len_cons (len_cons len_nil)))) dss_nil)
  (dss_one (ds_for pw_of rfl (di_enum (by rfl) T.b_enumerate (da_cons (dv 1) da_nil)) (dg_tup rfl (dgs_cons (dgn 5 sccheck_machine.nd) (dgs_cons (dgn 6 sccheck_machine.nd) dgs_nil))) (dss_one (ds_if (dt_not (dt_val (de_call V_is_row.ok.up hg (hr.mono (by decide)) (by rfl) V_is_row.mg V_is_row.kp V_is_row.bd .nil (fun _ => .nil) (E := E) ps_of zE (dai_cons (dv 6) (dai_cons (de_callB call_lenA cv_len (by rfl) T.b_len (by decide +kernel) (da_cons (dv 1) da_nil)) (dai_cons (dv 4) dai_nil)))))) (dss_one (ds_raise O_BadEnd T.c_BadEnd rfl tk_of (hr.mono (by decide)) (by rfl) zE (da_cons (dv 0) (da_cons (dv 5) da_nil)) (len_cons (len_cons len_nil)))) dss_nil)))))

theorem dv_numbered_rows {ct : Ct} {f : Addr} {fd : FuncData} (T : Txt K mg ct) (F : Fun K "numbered_rows" "numbered_rows" snumbered_rows f fd) : FnG P w K mg base CX0 1 f fd ["part", "machine"] (spV K ct [false, false] Φ_numbered_rows) :=
  okVg F scnumbered_rows rfl fun io cdv A out s H E hg hr hu66 => by
    have hu65 : (A.deeper (PyProof.Rows.envOfC "numbered_rows" (defScope snumbered_rows) s.heap.objs.size f cdv)).units + 65 < cLine := by omega
    exact (dss_one (ds_retW (dn_comp (own := [("index", 2), ("row", 3)]) (Zb := ZNo) rfl scnumbered_rows.nd (di_enum (by rfl) T.b_enumerate (da_cons (dv 1) da_nil)) (blkOk_by (N := ["part", "machine", "index", "row"]) (own := [("index", 2), ("row", 3)]) (sc := defScope snumbered_rows) (by decide +kernel)) (by rfl) (fun _ _ _ _ _ => (dg_tup rfl (dgs_cons (dgn 2 scnumbered_rows.nd) (dgs_cons (dgn 3 scnumbered_rows.nd) dgs_nil)))) (fun _ _ _ _ _ => dts_nil) (fun _ _ _ _ _ => (de_tup (da_cons (dv 0) (da_cons (dv 2) (da_cons (dv 3) da_nil))))))))

theorem dv_End_init {ct : Ct} {f : Addr} {fd : FuncData} {f_check_machine : Addr} {fd_check_machine : FuncData} {f_numbered_rows : Addr} {fd_numbered_rows : FuncData} {f_reached : Addr} {fd_reached : FuncData} {f_BadEnd_i : Addr} {fd_BadEnd_i : FuncData} (T : Txt K mg ct) (V_check_machine : VxX P w K mg base 4 "check_machine" f_check_machine fd_check_machine ["part", "machine", "fewest", "most", "words"] ct [false, false, false, false, false] Φ_check_machine) (V_numbered_rows : Vx P w K mg base 1 "numbered_rows" f_numbered_rows fd_numbered_rows ["part", "machine"] ct [false, false] Φ_numbered_rows) (V_reached : Vx P w K mg base 2 "reached" f_reached fd_reached ["rows", "begin"] ct [false, false] Φ_reached) (O_BadEnd : Ox P w K mg base 1 "BadEnd" (cA ct "BadEnd") f_BadEnd_i fd_BadEnd_i ["self", "part", "row"] (spXI (cA ct "BadEnd") ["row", "part"])) (F : Fun K "__init__" "End.__init__" sEnd_init f fd) : FnG P w K mg base (L2.CX P w) 5 f fd ["self", "hearer", "sender"] (spV K ct [true, false, false] Φ_End_init) :=
  okXV F scEnd_init rfl fun io cdv A out s H E hg hr hu66 => by
    have hu65 : (A.deeper (PyProof.Rows.envOfC "End.__init__" (defScope sEnd_init) s.heap.objs.size f cdv)).units + 65 < cLine := by omega
    exact (dss_cons (ds_expr (de_call V_check_machine.ok hg (hr.mono (by decide)) (by rfl) V_check_machine.mg V_check_machine.kp V_check_machine.bd .nil (fun _ => .nil) (E := E) ps_of zE (dai_cons de_str (dai_cons (dv 1) (dai_cons de_int (dai_cons (de_cval (v := (.int 100)) (d := (.int 100)) T.mc_End T.cv_End_MOST (by exact fun _ => .int _)) (dai_cons (de_gc T.m_HEARER_WORDS) dai_nil)))))))
  (dss_cons (ds_expr (de_call V_check_machine.ok hg (hr.mono (by decide)) (by rfl) V_check_machine.mg V_check_machine.kp V_check_machine.bd .nil (fun _ => .nil) (E := E) ps_of zE (dai_cons de_str (dai_cons (dv 2) (dai_cons de_int (dai_cons (de_cval (v := (.int 100)) (d := (.int 100)) T.mc_End T.cv_End_MOST (by exact fun _ => .int _)) (dai_cons (de_gc T.m_SENDER_WORDS) dai_nil)))))))
  (dss_cons (ds_if (dt_cmp (op_inD hu65) opv_inD de_str (de_call V_reached.ok.up hg (hr.mono (by decide)) (by rfl) V_reached.mg V_reached.kp V_reached.bd .nil (fun _ => .nil) (E := E) ps_of zE (dai_cons (dv 1) (dai_cons de_int dai_nil))) (by rfl)) (dss_one (ds_raise O_BadEnd T.c_BadEnd rfl tk_of (hr.mono (by decide)) (by rfl) zE (da_cons de_str (da_cons de_non da_nil)) (len_cons (len_cons len_nil)))) dss_nil)
  (dss_cons (ds_fldS (i := 0) T.o_End.cl T.n_End_hearer_rows T.c_End (by decide) rfl (by decide) rfl (Or.inl rfl) (de_callTy call_tuple_of cv_tuple (by rfl) T.b_tuple (by decide +kernel) (da_cons (dv 1) da_nil)))
  (dss_cons (ds_fldS (i := 0) T.o_End.cl T.n_End_sender_rows T.c_End (by decide) rfl (by decide) rfl (Or.inl rfl) (de_callTy call_tuple_of cv_tuple (by rfl) T.b_tuple (by decide +kernel) (da_cons (dv 2) da_nil)))
  (dss_one (ds_fldS (i := 0) T.o_End.cl T.n_End_rows T.c_End (by decide) rfl (by decide) rfl (Or.inl rfl) (de_callTy call_tuple_of cv_tuple (by rfl) T.b_tuple (by decide +kernel) (da_cons (de_op op_cat opv_cat (de_call V_numbered_rows.ok.up hg (hr.mono (by decide)) (by rfl) V_numbered_rows.mg V_numbered_rows.kp V_numbered_rows.bd .nil (fun _ => .nil) (E := E) ps_of zE (dai_cons de_str (dai_cons (dv 1) dai_nil))) (de_call V_numbered_rows.ok.up hg (hr.mono (by decide)) (by rfl) V_numbered_rows.mg V_numbered_rows.kp V_numbered_rows.bd .nil (fun _ => .nil) (E := E) ps_of zE (dai_cons de_str (dai_cons (dv 2) dai_nil)))) da_nil)))))))))

theorem dv_End_eq {ct : Ct} {f : Addr} {fd : FuncData} (T : Txt K mg ct) (F : Fun K "__eq__" "End.__eq__" sEnd_eq f fd) : FnG P w K mg base CX0 1 f fd ["self", "other"] (spV K ct [false, false] Φ_End_eq) :=
  okVg F scEnd_eq rfl fun io cdv A out s H E hg hr hu66 => by
    have hu65 : (A.deeper (PyProof.Rows.envOfC "End.__eq__" (defScope sEnd_eq) s.heap.objs.size f cdv)).units + 65 < cLine := by omega
    exact (dss_one (ds_ret (de_and (de_isO T.o_End T.c_End T.b_isinstance (by rfl) (dv 1) (by rfl) T.mc_End) (de_and (de_cmp (op_eqD hr.units) opv_eqD (de_fld (j := 0) T.o_End.cl T.n_End_hearer_rows T.c_End (by decide) rfl (dv 0)) (de_fld (j := 0) T.o_End.cl T.n_End_hearer_rows T.c_End (by decide) rfl (dv 1)) (nomark _)) (de_one (de_cmp (op_eqD hr.units) opv_eqD (de_fld (j := 1) T.o_End.cl T.n_End_sender_rows T.c_End (by decide) rfl (dv 0)) (de_fld (j := 1) T.o_End.cl T.n_End_sender_rows T.c_End (by decide) rfl (dv 1)) (nomark _)))))))

theorem dv_machine_text {ct : Ct} {f : Addr} {fd : FuncData} (T : Txt K mg ct) (F : Fun K "machine_text" "machine_text" smachine_text f fd) : FnG P w K mg base CX0 1 f fd ["rows"] (spV K ct [false] Φ_machine_text) :=
  okVg F scmachine_text rfl fun io cdv A out s H E hg hr hu66 => by
    have hu65 : (A.deeper (PyProof.Rows.envOfC "machine_text" (defScope smachine_text) s.heap.objs.size f cdv)).units + 65 < cLine := by omega
    exact (dss_one (ds_ret (de_join de_str (de_comp (own := [("put", 1), ("on_strong", 2), ("on_weak", 3)]) (Zb := ZNo) rfl scmachine_text.nd (di_seq (dv 0)) (blkOk_by (N := ["rows", "put", "on_strong", "on_weak"]) (own := [("put", 1), ("on_strong", 2), ("on_weak", 3)]) (sc := defScope smachine_text) (by decide +kernel)) (by rfl) (fun _ _ _ _ _ => (dg_tup rfl (dgs_cons (dgn 1 scmachine_text.nd) (dgs_cons (dgn 2 scmachine_text.nd) (dgs_cons (dgn 3 scmachine_text.nd) dgs_nil))))) (fun _ _ _ _ _ => dts_nil) (fun _ _ _ _ _ => (de_joined (.cons (de_fmt (dv 1)) (.cons de_str (.cons (de_fmt (dv 2)) (.cons de_str (.cons (de_fmt (dv 3)) .nil)))))))))))

theorem dv_End_str {ct : Ct} {f : Addr} {fd : FuncData} {f_machine_text : Addr} {fd_machine_text : FuncData} (T : Txt K mg ct) (V_machine_text : Vx P w K mg base 1 "machine_text" f_machine_text fd_machine_text ["rows"] ct [false] Φ_machine_text) (F : Fun K "__str__" "End.__str__" sEnd_str f fd) : FnG P w K mg base CX0 2 f fd ["self"] (spV K ct [false] Φ_End_str) :=
  okVg F scEnd_str rfl fun io cdv A out s H E hg hr hu66 => by
    have hu65 : (A.deeper (PyProof.Rows.envOfC "End.__str__" (defScope sEnd_str) s.heap.objs.size f cdv)).units + 65 < cLine := by omega
    exact (dss_one (ds_ret (de_joined (.cons (de_fmt (de_call V_machine_text.ok hg (hr.mono (by decide)) (by rfl) V_machine_text.mg V_machine_text.kp V_machine_text.bd .nil (fun _ => .nil) (E := E0v) pass0 zno_any (dai_cons (de_fld (j := 0) T.o_End.cl T.n_End_hearer_rows T.c_End (by decide) rfl (dv 0)) dai_nil))) (.cons de_str (.cons (de_fmt (de_call V_machine_text.ok hg (hr.mono (by decide)) (by rfl) V_machine_text.mg V_machine_text.kp V_machine_text.bd .nil (fun _ => .nil) (E := E0v) pass0 zno_any (dai_cons (de_fld (j := 1) T.o_End.cl T.n_End_sender_rows T.c_End (by decide) rfl (dv 0)) dai_nil))) .nil))))))

theorem dv_is_numeral {ct : Ct} {f : Addr} {fd : FuncData} (T : Txt K mg ct) (F : Fun K "is_numeral" "is_numeral" sis_numeral f fd) : FnG P w K mg base CX0 1 f fd ["piece"] (spV K ct [false] Φ_is_numeral) :=
  okVg F scis_numeral rfl fun io cdv A out s H E hg hr hu66 => by
    have hu65 : (A.deeper (PyProof.Rows.envOfC "is_numeral" (defScope sis_numeral) s.heap.objs.size f cdv)).units + 65 < cLine := by omega
    exact (dss_cons (ds_if (DW.dt (dw_or (dt_not (dt_val (de_isascii (dv 0)))) (dw_or (dt_not (dt_val (de_isdigit (dv 0)))) (dw_or1 (dt_cmp op_gt opv_gt (de_callB call_lenA cv_len (by rfl) T.b_len (by decide +kernel) (da_cons (dv 0) da_nil)) (de_gc T.m_MOST_DIGITS) (nomark _)))))) (dss_one (ds_ret de_bl)) dss_nil)
  (dss_one (ds_ret (de_or (de_cmp op_eq opv_eqS (dv 0) de_str (nomark _)) (de_one (de_not (de_starts (dv 0) de_str)))))))

theorem dv_read_follower {ct : Ct} {f : Addr} {fd : FuncData} {f_is_numeral : Addr} {fd_is_numeral : FuncData} (T : Txt K mg ct) (V_is_numeral : Vx P w K mg base 1 "is_numeral" f_is_numeral fd_is_numeral ["piece"] ct [false] Φ_is_numeral) (F : Fun K "read_follower" "read_follower" sread_follower f fd) : FnG P w K mg base CX0 2 f fd ["piece"] (spV K ct [false] Φ_read_follower) :=
  okVg F scread_follower rfl fun io cdv A out s H E hg hr hu66 => by
    have hu65 : (A.deeper (PyProof.Rows.envOfC "read_follower" (defScope sread_follower) s.heap.objs.size f cdv)).units + 65 < cLine := by omega
    exact (dss_cons (ds_if (DW.dt (dw_or (dt_cmp (op_inT hu66) opv_inT (dv 0) (de_gc T.m_HEARER_WORDS) (by rfl)) (dw_or1 (dt_cmp (op_inT hu66) opv_inT (dv 0) (de_gc T.m_SENDER_WORDS) (by rfl))))) (dss_one (ds_ret (dv 0))) dss_nil)
  (dss_cons (ds_if (dt_val (de_call V_is_numeral.ok hg (hr.mono (by decide)) (by rfl) V_is_numeral.mg V_is_numeral.kp V_is_numeral.bd .nil (fun _ => .nil) (E := E0v) pass0 zno_any (dai_cons (dv 0) dai_nil))) (dss_one (ds_ret (de_callTy call_int_str cv_intS (by rfl) T.b_int (by decide +kernel) (da_cons (dv 0) da_nil)))) dss_nil)
  (dss_one (ds_ret de_non))))

theorem dv_read_row {ct : Ct} {f : Addr} {fd : FuncData} {f_read_follower : Addr} {fd_read_follower : FuncData} (T : Txt K mg ct) (V_read_follower : Vx P w K mg base 2 "read_follower" f_read_follower fd_read_follower ["piece"] ct [false] Φ_read_follower) (F : Fun K "read_row" "read_row" sread_row f fd) : FnG P w K mg base CX0 3 f fd ["text"] (spV K ct [false] Φ_read_row) :=
  okVg F scread_row rfl fun io cdv A out s H E hg hr hu66 => by
    have hu65 : (A.deeper (PyProof.Rows.envOfC "read_row" (defScope sread_row) s.heap.objs.size f cdv)).units + 65 < cLine := by omega
    exact (dss_cons (dset 1 scread_row.nd (de_split (dv 0) de_str))
  (dss_cons (ds_if (DW.dt (dw_or (dt_cmp op_ne opv_neS (de_callB call_lenA cv_len (by rfl) T.b_len (by decide +kernel) (da_cons (dv 1) da_nil)) de_int (nomark _)) (dw_or1 (dt_cmp (op_notInT hu66) opv_notInT (dix (dv 1) de_int) (de_tup (da_cons de_str (da_cons de_str da_nil))) (by rfl))))) (dss_one (ds_ret de_non)) dss_nil)
  (dss_cons (dset 2 scread_row.nd (de_call V_read_follower.ok hg (hr.mono (by decide)) (by rfl) V_read_follower.mg V_read_follower.kp V_read_follower.bd .nil (fun _ => .nil) (E := E0v) pass0 zno_any (dai_cons (dix (dv 1) de_int) dai_nil)))
  (dss_cons (dset 3 scread_row.nd (de_call V_read_follower.ok hg (hr.mono (by decide)) (by rfl) V_read_follower.mg V_read_follower.kp V_read_follower.bd .nil (fun _ => .nil) (E := E0v) pass0 zno_any (dai_cons (dix (dv 1) de_int) dai_nil)))
  (dss_cons (ds_if (DW.dt (dw_or (dt_cmp op_isN opv_isN (dv 2) de_non (nomark _)) (dw_or1 (dt_cmp op_isN opv_isN (dv 3) de_non (nomark _))))) (dss_one (ds_ret de_non)) dss_nil)
  (dss_one (ds_ret (de_tup (da_cons (de_callTy call_int_str cv_intS (by rfl) T.b_int (by decide +kernel) (da_cons (dix (dv 1) de_int) da_nil)) (da_cons (dv 2) (da_cons (dv 3) da_nil)))))))))))

theorem dv_read_machines {ct : Ct} {f : Addr} {fd : FuncData} {f_read_row : Addr} {fd_read_row : FuncData} (T : Txt K mg ct) (V_read_row : Vx P w K mg base 3 "read_row" f_read_row fd_read_row ["text"] ct [false] Φ_read_row) (F : Fun K "read_machines" "read_machines" sread_machines f fd) : FnG P w K mg base CX0 4 f fd ["text"] (spV K ct [false] Φ_read_machines) :=
  okVg F scread_machines rfl fun io cdv A out s H E hg hr hu66 => by
    have hu65 : (A.deeper (PyProof.Rows.envOfC "read_machines" (defScope sread_machines) s.heap.objs.size f cdv)).units + 65 < cLine := by omega
    exact (dss_cons (ds_if (dt_not (dt_val (de_isi (n := .str) rfl (by decide) T.b_isinstance (by rfl) (dv 0) (pe_bltn (v := .ty "str") (by rfl) T.b_str (by decide +kernel) rfl)))) (dss_one (ds_ret de_non)) dss_nil)
  (dss_cons (ds_comp (i := 1) (own := [("machine", 2)]) (Zb := ZNo) rfl scread_machines.nd rfl rfl (sw_true rfl rfl rfl (by decide +kernel)) (di_seq (de_split (dv 0) de_str)) (blkOk_by (N := ["text", "machines", "machine", "row"]) (own := [("machine", 2)]) (sc := defScope sread_machines) (by decide +kernel)) (by rfl) (fun _ _ _ _ _ => (dgn 2 scread_machines.nd)) (fun _ _ _ _ _ => dts_nil) (fun _ _ _ _ _ => (de_comp (own := [("row", 3)]) (Zb := ZNo) rfl scread_machines.nd (di_seq (de_split (dv 2) de_str)) (blkOk_by (N := ["text", "machines", "machine", "row"]) (own := [("row", 3)]) (sc := ({ kind := PySem.ScopeKind.function, names := [(PySem.Str.ofString ".0", PySem.NameKind.local), (PySem.Str.ofString "machine", PySem.NameKind.local)], isGenerator := false, isCoroutine := false, more := [] : PySem.Scope })) (by decide +kernel)) (by rfl) (fun _ _ _ _ _ => (dgn 3 scread_machines.nd)) (fun _ _ _ _ _ => dts_nil) (fun _ _ _ _ _ => (de_call V_read_row.ok hg (hr.mono (by decide)) (by rfl) V_read_row.mg V_read_row.kp V_read_row.bd .nil (fun _ => .nil) (E := E0v) pass0 zno_any (dai_cons (dv 3) dai_nil))))))
  (dss_cons (ds_if (DW.dt (dw_or (dt_cmp op_ne opv_neS (de_callB call_lenA cv_len (by rfl) T.b_len (by decide +kernel) (da_cons (dv 1) da_nil)) de_int (nomark _)) (dw_or (dt_cmp (op_inD hu65) opv_inD de_non (dix (dv 1) de_int) (by rfl)) (dw_or1 (dt_cmp (op_inD hu65) opv_inD de_non (dix (dv 1) de_int) (by rfl)))))) (dss_one (ds_ret de_non)) dss_nil)
  (dss_one (ds_ret (dv 1))))))

theorem dv_End_from_text {ct : Ct} {f : Addr} {fd : FuncData} {f_End_init : Addr} {fd_End_init : FuncData} {f_read_machines : Addr} {fd_read_machines : FuncData} {f_BadText_i : Addr} {fd_BadText_i : FuncData} (T : Txt K mg ct) (V_End_init : Vc P w K mg base (L2.CX P w) 5 "End" (cA ct "End") f_End_init fd_End_init ["self", "hearer", "sender"] ct [true, false, false] Φ_End_init) (V_read_machines : Vx P w K mg base 4 "read_machines" f_read_machines fd_read_machines ["text"] ct [false] Φ_read_machines) (O_BadText : Ox P w K mg base 1 "BadText" (cA ct "BadText") f_BadText_i fd_BadText_i ["self", "text"] (spXI (cA ct "BadText") ["text"])) (F : Fun K "from_text" "End.from_text" sEnd_from_text f fd) : FnG P w K mg base (L2.CX P w) 7 f fd ["cls", "text"] (spV K ct [false, false] Φ_End_from_text) :=
  okXV F scEnd_from_text rfl fun io cdv A out s H E hg hr hu66 => by
    have hu65 : (A.deeper (PyProof.Rows.envOfC "End.from_text" (defScope sEnd_from_text) s.heap.objs.size f cdv)).units + 65 < cLine := by omega
    exact (dss_cons (dset 2 scEnd_from_text.nd (de_call V_read_machines.ok.up hg (hr.mono (by decide)) (by rfl) V_read_machines.mg V_read_machines.kp V_read_machines.bd .nil (fun _ => .nil) (E := E) ps_of zE (dai_cons (dv 1) dai_nil)))
  (dss_cons (ds_if (dt_cmp op_isN opv_isN (dv 2) de_non (nomark _)) (dss_one (ds_raise O_BadText T.c_BadText rfl tk_of (hr.mono (by decide)) (by rfl) zE (da_cons (dv 1) da_nil) (len_cons len_nil))) dss_nil)
  (dss_cons (ds_asg (dv 2) (dg_unl rfl (dgs_cons (dgn 3 scEnd_from_text.nd) (dgs_cons (dgn 4 scEnd_from_text.nd) dgs_nil))))
  (dss_one (ds_ret (de_makeL (i := 0) (M := V_End_init.mkC) V_End_init.ok T.c_End hg (hr.mono (by decide)) rfl (by first | exact Or.inl rfl | exact Or.inr (Or.inl rfl) | exact Or.inr (Or.inr rfl)) V_End_init.bd .nil (fun _ => .nil) (E := fun _ => E) (pT ps_of) zE (da_cons (dv 3) (da_cons (dv 4) da_nil))))))))

def F_L_bag : Ev Fl := (fSeq (fAsg (.nm 2) (fIte (fB (fOp (oI fun i j => .bl (decide (i < j))) (fVar 1) (fCB (o1 oLen) (fCons (fVar 0) fNil)))) (fOp oIx (fVar 0) (fVar 1)) (fC (.int 0))))
  (fSeq (fAsg (.nm 3) (fIte (fB (fOp (oI fun i j => .bl (decide (j ≤ i))) (fCB (o1 oAbs) (fCons (fVar 2) fNil)) (fOp (oIC (fun i j => decide (0 ≤ j) && decide ((Builtin.Int.intBits i : Int) * j ≤ 2 ^ 27)) fun i j => .int (i ^ j.toNat)) (fC (.int 10)) (fC (.int 18))))) (fCB (o1 oAbs) (fCons (fVar 2) fNil)) (fC (.int 0))))
  (fRetW (fLst (fCons (fVar 3) (fCons (fOp (oI fun i j => .int (i + j)) (fOp (oI fun i j => .int (i + j)) (fOp (oIC cMul fun i j => .int (i * j)) (fOp (oIC (fun _ j => decide (0 < j)) fun i j => .int (i % j)) (fCB (o1 oInt) (fCons (fVar 2) fNil)) (fC (.int 2305843009213693951))) (fC (.int 44497))) (fOp (oIC cMul fun i j => .int (i * j)) (fC (.int 6301)) (fVar 1))) (fC (.int 31))) (fCons (fC (.int 0)) fNil)))))))
def Φ_L_bag : List D → Res := fun ds => (runV [false, false] 4 F_L_bag ds).quiet
theorem dv_L_bag {ct : Ct} {f : Addr} {fd : FuncData} (T : Txt K mg ct) (F : Fun K "_law_bag" "_law_bag" sL_bag f fd) : FnG P w K mg base CX0 1 f fd ["_law_script", "_law_at"] (spV K ct [false, false] Φ_L_bag) :=
  okVg F scL_bag rfl fun io cdv A out s H E hg hr hu66 => by
    have hu65 : (A.deeper (PyProof.Rows.envOfC "_law_bag" (defScope sL_bag) s.heap.objs.size f cdv)).units + 65 < cLine := by omega
    exact (dss_cons (dset 2 scL_bag.nd (de_ite (dt_cmp op_lt opv_lt (dv 1) (de_callB call_lenA cv_len (by rfl) T.b_len (by decide +kernel) (da_cons (dv 0) da_nil)) (nomark _)) (dix (dv 0) (dv 1)) de_int))
  (dss_cons (dset 3 scL_bag.nd (de_ite (dt_cmp op_ge opv_ge (de_callB call_abs cv_abs (by rfl) T.b_abs (by decide +kernel) (da_cons (dv 2) da_nil)) (de_op Sb.op_powB opv_pow de_int de_int) (nomark _)) (de_callB call_abs cv_abs (by rfl) T.b_abs (by decide +kernel) (da_cons (dv 2) da_nil)) de_int))
  (dss_one (ds_retW (dn_lst (da_cons (dv 3) (da_cons (de_op op_add opv_add (de_op op_add opv_add (de_op op_mul opv_mul (de_op op_mod opv_mod (de_callTy call_int1 cv_int (by rfl) T.b_int (by decide +kernel) (da_cons (dv 2) da_nil)) de_int) de_int) (de_op op_mul opv_mul de_int (dv 1))) de_int) (da_cons de_int da_nil))))))))

theorem dv_L_take {ct : Ct} {f : Addr} {fd : FuncData} (T : Txt K mg ct) (F : Fun K "_law_take" "_law_take" sL_take f fd) : FnG P w K mg base CX0 1 f fd ["_law_bag_here", "_law_many"] (spV K ct [true, false] Φ_L_take) :=
  okVg F scL_take rfl fun io cdv A out s H E hg hr hu66 => by
    have hu65 : (A.deeper (PyProof.Rows.envOfC "_law_take" (defScope sL_take) s.heap.objs.size f cdv)).units + 65 < cLine := by omega
    exact (dss_cons (ds_if (dt_cmp op_gt opv_gt (dixO 0 de_int) de_int (nomark _)) (dss_cons (dset 2 scL_take.nd (de_op op_mod opv_mod (de_callTy call_int1 cv_int (by rfl) T.b_int (by decide +kernel) (da_cons (dixO 0 de_int) da_nil)) (dv 1)))
  (dss_cons (dputL 0 (de_op op_fdiv opv_fdiv (dixO 0 de_int) (dv 1)) de_int)
  (dss_one (ds_ret (dv 2))))) dss_nil)
  (dss_cons (dputL 0 (de_op op_add opv_add (dixO 0 de_int) de_int) de_int)
  (dss_cons (dset 3 scL_take.nd (de_op op_mod opv_mod (de_callTy call_int1 cv_int (by rfl) T.b_int (by decide +kernel) (da_cons (de_op Sb.op_powB opv_pow (de_op op_add opv_add (dixO 0 de_int) (de_op op_mul opv_mul de_int (dixO 0 de_int))) de_int) da_nil)) de_int))
  (dss_cons (dset 3 scL_take.nd (de_op op_mod opv_mod (de_callTy call_int1 cv_int (by rfl) T.b_int (by decide +kernel) (da_cons (de_op Sb.op_powB opv_pow (de_op op_add opv_add (dv 3) (de_op op_mul opv_mul de_int (dixO 0 de_int))) de_int) da_nil)) de_int))
  (dss_one (ds_ret (de_op op_mod opv_mod (de_op op_fdiv opv_fdiv (dv 3) de_int) (dv 1))))))))

theorem dv_L_place {ct : Ct} {f : Addr} {fd : FuncData} {f_L_take : Addr} {fd_L_take : FuncData} (T : Txt K mg ct) (V__law_take : Vx P w K mg base 1 "_law_take" f_L_take fd_L_take ["_law_bag_here", "_law_many"] ct [true, false] Φ_L_take) (F : Fun K "_law_place" "_law_place" sL_place f fd) : FnG P w K mg base CX0 2 f fd ["_law_bag_here", "_law_many", "_law_words"] (spV K ct [true, false, false] Φ_L_place) :=
  okVg F scL_place rfl fun io cdv A out s H E hg hr hu66 => by
    have hu65 : (A.deeper (PyProof.Rows.envOfC "_law_place" (defScope sL_place) s.heap.objs.size f cdv)).units + 65 < cLine := by omega
    exact (dss_cons (dset 3 scL_place.nd (de_call V__law_take.ok hg (hr.mono (by decide)) (by rfl) V__law_take.mg V__law_take.kp V__law_take.bd .nil (fun _ => .nil) (E := E0v) pass0 zno_any (dio 0 (dai_cons (de_op op_add opv_add (dv 1) de_int) dai_nil))))
  (dss_one (ds_ret (de_ite (dt_cmp op_lt opv_lt (dv 3) (dv 1) (nomark _)) (dv 3) (dix (dv 2) (de_op op_mod opv_mod (de_callTy call_int1 cv_int (by rfl) T.b_int (by decide +kernel) (da_cons (dv 3) da_nil)) de_int))))))

theorem dv_L_rows {ct : Ct} {f : Addr} {fd : FuncData} {f_L_place : Addr} {fd_L_place : FuncData} {f_L_take : Addr} {fd_L_take : FuncData} (T : Txt K mg ct) (V__law_place : Vx P w K mg base 2 "_law_place" f_L_place fd_L_place ["_law_bag_here", "_law_many", "_law_words"] ct [true, false, false] Φ_L_place) (V__law_take : Vx P w K mg base 1 "_law_take" f_L_take fd_L_take ["_law_bag_here", "_law_many"] ct [true, false] Φ_L_take) (F : Fun K "_law_rows" "_law_rows" sL_rows f fd) : FnG P w K mg base CX0 3 f fd ["_law_bag_here", "_law_many", "_law_words"] (spV K ct [true, false, false] Φ_L_rows) :=
  okVg F scL_rows rfl fun io cdv A out s H E hg hr hu66 => by
    have hu65 : (A.deeper (PyProof.Rows.envOfC "_law_rows" (defScope sL_rows) s.heap.objs.size f cdv)).units + 65 < cLine := by omega
    exact (dss_one (ds_retW (dn_comp (own := [("_law_k", 3)]) (Zb := ZNo) rfl scL_rows.nd (di_rng1 (by rfl) T.b_range (da_cons (dv 1) da_nil)) (blkOk_by (N := ["_law_bag_here", "_law_many", "_law_words", "_law_k"]) (own := [("_law_k", 3)]) (sc := defScope sL_rows) (by decide +kernel)) (by rfl) (fun _ _ _ _ _ => (dgn 3 scL_rows.nd)) (fun _ _ _ _ _ => dts_nil) (fun _ _ _ _ _ => (de_tup (da_cons (de_call V__law_take.ok hg (hr.mono (by decide)) (by rfl) V__law_take.mg V__law_take.kp V__law_take.bd .nil (fun _ => .nil) (E := E0v) pass0 zno_any (dio 0 (dai_cons de_int dai_nil))) (da_cons (de_call V__law_place.ok hg (hr.mono (by decide)) (by rfl) V__law_place.mg V__law_place.kp V__law_place.bd .nil (fun _ => .nil) (E := E0v) pass0 zno_any (dio 0 (dai_cons (dv 1) (dai_cons (dv 2) dai_nil)))) (da_cons (de_call V__law_place.ok hg (hr.mono (by decide)) (by rfl) V__law_place.mg V__law_place.kp V__law_place.bd .nil (fun _ => .nil) (E := E0v) pass0 zno_any (dio 0 (dai_cons (dv 1) (dai_cons (dv 2) dai_nil)))) da_nil))))))))

theorem dv_L_led {ct : Ct} {f : Addr} {fd : FuncData} (T : Txt K mg ct) (F : Fun K "_law_led" "_law_led" sL_led f fd) : FnG P w K mg base CX0 1 f fd ["_law_rows_here", "_law_first"] (spV K ct [false, false] Φ_L_led) :=
  okVg F scL_led rfl fun io cdv A out s H E hg hr hu66 => by
    have hu65 : (A.deeper (PyProof.Rows.envOfC "_law_led" (defScope sL_led) s.heap.objs.size f cdv)).units + 65 < cLine := by omega
    exact (dss_cons (ds_par (i := 2) (j := 3) rfl scL_led.nd rfl rfl (by decide) rfl rfl (DN.q (dn_lst (da_cons (dv 1) da_nil))) (DE.q de_int) (hp := fun ha => ps_par rfl scL_led.nd rfl rfl (by decide) rfl rfl ha (by rfl)))
  (dss_cons (ds_while 100000 PassesOwn.never (dt_cmp op_lt opv_lt (dv 3) (dlenO 2 T.b_len) (nomark _)) (dss_cons (ds_for PassesOwn.never rfl (di_seq (de_slice sl_tupA sv_tup (dix (dv 0) (dixO 2 (dv 3))) (do_some de_int) do_none)) (dgn 4 scL_led.nd) (dss_one (ds_if (DW.dt (dw_and (dt_not (dt_val (de_isi (n := .str) rfl (by decide) T.b_isinstance (by rfl) (dv 4) (pe_bltn (v := .ty "str") (by rfl) T.b_str (by decide +kernel) rfl)))) (dw_and1 (dtnotInO 2 hu65 (dv 4))))) (dss_one (dapp 2 (dv 4))) dss_nil)))
  (dss_one (dset 3 scL_led.nd (de_op op_add opv_add (dv 3) de_int)))))
  (dss_one (ds_retO (i := 2) (by rfl) (by first | exact Or.inl rfl | exact Or.inr (Or.inl rfl))))))

theorem dv_L_hearer {ct : Ct} {f : Addr} {fd : FuncData} {f_L_led : Addr} {fd_L_led : FuncData} {f_L_rows : Addr} {fd_L_rows : FuncData} (T : Txt K mg ct) (V__law_led : Vx P w K mg base 1 "_law_led" f_L_led fd_L_led ["_law_rows_here", "_law_first"] ct [false, false] Φ_L_led) (V__law_rows : Vx P w K mg base 3 "_law_rows" f_L_rows fd_L_rows ["_law_bag_here", "_law_many", "_law_words"] ct [true, false, false] Φ_L_rows) (F : Fun K "_law_hearer" "_law_hearer" sL_hearer f fd) : FnG P w K mg base CX0 4 f fd ["_law_bag_here", "_law_many"] (spV K ct [true, false] Φ_L_hearer) :=
  okVg F scL_hearer rfl fun io cdv A out s H E hg hr hu66 => by
    have hu65 : (A.deeper (PyProof.Rows.envOfC "_law_hearer" (defScope sL_hearer) s.heap.objs.size f cdv)).units + 65 < cLine := by omega
    exact (dss_cons (ds_new (i := 2) scL_hearer.nd rfl (by first | exact Or.inl rfl | exact Or.inr rfl) (dn_call V__law_rows.ok hg (hr.mono (by decide)) (by rfl) V__law_rows.mg V__law_rows.kp V__law_rows.bd .nil (fun _ => .nil) (E := E0v) pass0 zno_any (dio 0 (dai_cons (dv 1) (dai_cons (de_lst (da_cons de_str (da_cons de_str da_nil))) dai_nil)))))
  (dss_cons (ds_for PassesOwn.never rfl (di_seq (de_callL V__law_led.ok hg (hr.mono (by decide)) (by rfl) V__law_led.mg V__law_led.kp V__law_led.bd .nil (E := E0v) pass0 (dio 2 (dai_cons de_int dai_nil)))) (dgn 3 scL_hearer.nd) (dss_cons (ds_asg (dixO 2 (dv 3)) (dg_tup rfl (dgs_cons (dgn 4 scL_hearer.nd) (dgs_cons (dgn 5 scL_hearer.nd) (dgs_cons (dgn 6 scL_hearer.nd) dgs_nil)))))
  (dss_one (dputL 2 (de_tup (da_cons (dv 4) (da_cons (de_ite (dt_cmp (op_eqD hr.units) opv_eqD (dv 5) de_str (nomark _)) de_str (dv 5)) (da_cons (de_ite (dt_cmp (op_eqD hr.units) opv_eqD (dv 6) de_str (nomark _)) de_str (dv 6)) da_nil)))) (dv 3)))))
  (dss_one (ds_retO (i := 2) (by rfl) (by first | exact Or.inl rfl | exact Or.inr (Or.inl rfl))))))

theorem dv_L_sender {ct : Ct} {f : Addr} {fd : FuncData} {f_L_rows : Addr} {fd_L_rows : FuncData} (T : Txt K mg ct) (V__law_rows : Vx P w K mg base 3 "_law_rows" f_L_rows fd_L_rows ["_law_bag_here", "_law_many", "_law_words"] ct [true, false, false] Φ_L_rows) (F : Fun K "_law_sender" "_law_sender" sL_sender f fd) : FnG P w K mg base CX0 4 f fd ["_law_bag_here", "_law_many"] (spV K ct [true, false] Φ_L_sender) :=
  okVg F scL_sender rfl fun io cdv A out s H E hg hr hu66 => by
    have hu65 : (A.deeper (PyProof.Rows.envOfC "_law_sender" (defScope sL_sender) s.heap.objs.size f cdv)).units + 65 < cLine := by omega
    exact (dss_one (ds_retW (dn_call V__law_rows.ok hg (hr.mono (by decide)) (by rfl) V__law_rows.mg V__law_rows.kp V__law_rows.bd .nil (fun _ => .nil) (E := E0v) pass0 zno_any (dio 0 (dai_cons (dv 1) (dai_cons (de_lst (da_cons de_str (da_cons de_str da_nil))) dai_nil))))))

def F_L_word : Ev Fl := (fRet (fIte (fB (fIsi .str (fVar 0))) (fVar 0) (fCB (o1 oStr) (fCons (fVar 0) fNil))))
def Φ_L_word : List D → Res := fun ds => (runV [false] 1 F_L_word ds).quiet
theorem dv_L_word {ct : Ct} {f : Addr} {fd : FuncData} (T : Txt K mg ct) (F : Fun K "_law_word" "_law_word" sL_word f fd) : FnG P w K mg base CX0 1 f fd ["_law_part"] (spV K ct [false] Φ_L_word) :=
  okVg F scL_word rfl fun io cdv A out s H E hg hr hu66 => by
    have hu65 : (A.deeper (PyProof.Rows.envOfC "_law_word" (defScope sL_word) s.heap.objs.size f cdv)).units + 65 < cLine := by omega
    exact (dss_one (ds_ret (de_ite (dt_val (de_isi (n := .str) rfl (by decide) T.b_isinstance (by rfl) (dv 0) (pe_bltn (v := .ty "str") (by rfl) T.b_str (by decide +kernel) rfl))) (dv 0) (de_callTy call_str_int cv_str (by rfl) T.b_str (by decide +kernel) (da_cons (dv 0) da_nil)))))

def H_L_text_1 : Ev Fl := (fAsg (.nm 2) (fOp oAddS (fOp oAddS (fVar 2) (fOp oIx (fLst (fCons (fC (.str "")) (fCons (fC (.str ", ")) fNil))) (fCB (o1 oInt) (fCons (fOp (oI fun i j => .bl (decide (j < i))) (fVar 5) (fC (.int 0))) fNil)))) (fCall [false] Φ_L_word [] (gCn (fOp oIx (fVar 6) (fC (.int 0))) gNl))))
def R_L_text_1 : Ev Fl := (fAsg (.nm 2) (fOp oAddS (fOp oAddS (fOp oAddS (fOp oAddS (fVar 2) (fC (.str " "))) (fCall [false] Φ_L_word [] (gCn (fOp oIx (fVar 6) (fC (.int 1))) gNl))) (fC (.str " "))) (fCall [false] Φ_L_word [] (gCn (fOp oIx (fVar 6) (fC (.int 2))) gNl))))
def B_L_text_1 : Ev Fl := (fSeq H_L_text_1
  R_L_text_1)
def L_L_text_1 : Ev Fl := (fFor (fEnum (fCons (fOp oIx (fVar 3) (fVar 4)) fNil)) (.tp [(.nm 5), (.nm 6)]) B_L_text_1)
def H_L_text_2 : Ev Fl := (fAsg (.nm 2) (fOp oAddS (fVar 2) (fOp oIx (fLst (fCons (fC (.str "")) (fCons (fC (.str " | ")) fNil))) (fVar 4))))
def R_L_text_2 : Ev Fl := L_L_text_1
def B_L_text_2 : Ev Fl := (fSeq H_L_text_2
  R_L_text_2)
def L_L_text_2 : Ev Fl := (fFor (fRng1 (fCons (fC (.int 2)) fNil)) (.nm 4) B_L_text_2)
def H_L_text_3 : Ev Fl := L_L_text_2
def R_L_text_3 : Ev Fl := (fRet (fVar 2))
def H_L_text_4 : Ev Fl := (fPar 2 3 (fC (.str "")) (fLst (fCons (fVar 0) (fCons (fVar 1) fNil))) false false)
def R_L_text_4 : Ev Fl := (fSeq H_L_text_3
  R_L_text_3)
def F_L_text : Ev Fl := (fSeq H_L_text_4
  R_L_text_4)
def Φ_L_text : List D → Res := fun ds => (runV [false, false] 7 F_L_text ds).quiet
theorem dv_L_text {ct : Ct} {f : Addr} {fd : FuncData} {f_L_word : Addr} {fd_L_word : FuncData} (T : Txt K mg ct) (V__law_word : Vx P w K mg base 1 "_law_word" f_L_word fd_L_word ["_law_part"] ct [false] Φ_L_word) (F : Fun K "_law_text" "_law_text" sL_text f fd) : FnG P w K mg base CX0 2 f fd ["_law_hearer_here", "_law_sender_here"] (spV K ct [false, false] Φ_L_text) :=
  okVg F scL_text rfl fun io cdv A out s H E hg hr hu66 => by
    have hu65 : (A.deeper (PyProof.Rows.envOfC "_law_text" (defScope sL_text) s.heap.objs.size f cdv)).units + 65 < cLine := by omega
    exact (dss_cons (ds_par (i := 2) (j := 3) rfl scL_text.nd rfl rfl (by decide) rfl rfl (DE.q de_str) (DE.q (de_lst (da_cons (dv 0) (da_cons (dv 1) da_nil)))) (hp := fun ha => ps_par rfl scL_text.nd rfl rfl (by decide) rfl rfl ha (by rfl)))
  (dss_cons (ds_for PassesOwn.never rfl (di_rng1 (by rfl) T.b_range (da_cons de_int da_nil)) (dgn 4 scL_text.nd) (dss_cons (dset 2 scL_text.nd (de_op op_add_str opv_addS (dv 2) (dix (de_lst (da_cons de_str (da_cons de_str da_nil))) (dv 4))))
  (dss_one (ds_for PassesOwn.never rfl (di_enum (by rfl) T.b_enumerate (da_cons (dix (dv 3) (dv 4)) da_nil)) (dg_tup rfl (dgs_cons (dgn 5 scL_text.nd) (dgs_cons (dgn 6 scL_text.nd) dgs_nil))) (dss_cons (dset 2 scL_text.nd (de_op op_add_str opv_addS (de_op op_add_str opv_addS (dv 2) (dix (de_lst (da_cons de_str (da_cons de_str da_nil))) (de_callTy call_int1 cv_int (by rfl) T.b_int (by decide +kernel) (da_cons (de_cmp op_gt opv_gt (dv 5) de_int (nomark _)) da_nil)))) (de_call V__law_word.ok hg (hr.mono (by decide)) (by rfl) V__law_word.mg V__law_word.kp V__law_word.bd .nil (fun _ => .nil) (E := E0v) pass0 zno_any (dai_cons (dix (dv 6) de_int) dai_nil))))
  (dss_one (dset 2 scL_text.nd (de_op op_add_str opv_addS (de_op op_add_str opv_addS (de_op op_add_str opv_addS (de_op op_add_str opv_addS (dv 2) de_str) (de_call V__law_word.ok hg (hr.mono (by decide)) (by rfl) V__law_word.mg V__law_word.kp V__law_word.bd .nil (fun _ => .nil) (E := E0v) pass0 zno_any (dai_cons (dix (dv 6) de_int) dai_nil))) de_str) (de_call V__law_word.ok hg (hr.mono (by decide)) (by rfl) V__law_word.mg V__law_word.kp V__law_word.bd .nil (fun _ => .nil) (E := E0v) pass0 zno_any (dai_cons (dix (dv 6) de_int) dai_nil))))))))))
  (dss_one (ds_ret (dv 2)))))

def B_L_right_1 : Ev Fl := (fIte (fOrT (fNotT (fB (fUn (oIsO "End") (fVar 4)))) (fOrT (fNotT (fB (fOp (oEqOwn "End" Φ_End_eq) (fVar 4) (fVar 2)))) (fOrT (fB (fOp (oEqS true) (fCB (o1 (oStrOwn "End" Φ_End_str)) (fCons (fVar 4) fNil)) (fVar 3))) (fB (fOp (oEq true) (fUn (oFld "End" 0) (fVar 4)) (fCB (o1 oTuple) (fCons (fVar 0) fNil))))))) (fRet (fC (.bl false))) fNx)
def L_L_right_1 : Ev Fl := (fFor (fItems (fLst (fCons (fCM "End" [false, false] Φ_End_from_text (fCons (fVar 3) fNil)) (fCons (fCMK "End" [false, false] Φ_End_from_text 1 (fun vs zs => vs ++ zs) (fCons (fVar 3) fNil)) fNil)))) (.nm 4) B_L_right_1)
def H_L_right_1 : Ev Fl := L_L_right_1
def R_L_right_1 : Ev Fl := (fRet (fC (.bl true)))
def H_L_right_2 : Ev Fl := (fIte (fOrT (fB (fOp (oEqS true) (fCB (o1 (oStrOwn "End" Φ_End_str)) (fCons (fVar 2) fNil)) (fVar 3))) (fB (fOp (oEqS true) (fCB (o1 (oStrOwn "End" Φ_End_str)) (fCons (fVar 2) fNil)) (fVar 3)))) (fRet (fC (.bl false))) fNx)
def R_L_right_2 : Ev Fl := (fSeq H_L_right_1
  R_L_right_1)
def H_L_right_3 : Ev Fl := (fPar 2 3 (fMake "End" [true, false, false] Φ_End_init [] (fCons (fVar 0) (fCons (fVar 1) fNil))) (fCall [false, false] Φ_L_text [] (gCn (fVar 0) (gCn (fVar 1) gNl))) false false)
def R_L_right_3 : Ev Fl := (fSeq H_L_right_2
  R_L_right_2)
def F_L_right : Ev Fl := (fSeq H_L_right_3
  R_L_right_3)
def Φ_L_right : List D → Res := fun ds => (runV [false, false] 5 F_L_right ds).quiet
theorem dv_L_right {ct : Ct} {f : Addr} {fd : FuncData} {f_End_eq : Addr} {fd_End_eq : FuncData} {f_End_init : Addr} {fd_End_init : FuncData} {f_End_str : Addr} {fd_End_str : FuncData} {f_End_from_text : Addr} {fd_End_from_text : FuncData} {f_L_text : Addr} {fd_L_text : FuncData} {p_End_hearer g_End_hearer : Addr} {fdg_End_hearer : FuncData} (T : Txt K mg ct) (V_End_eq : Vm P w K mg base CX0 1 (cA ct "End") "__eq__" f_End_eq fd_End_eq ["self", "other"] ct [false, false] Φ_End_eq) (V_End_init : Vc P w K mg base (L2.CX P w) 5 "End" (cA ct "End") f_End_init fd_End_init ["self", "hearer", "sender"] ct [true, false, false] Φ_End_init) (V_End_str : Vm P w K mg base CX0 2 (cA ct "End") "__str__" f_End_str fd_End_str ["self"] ct [false] Φ_End_str) (V_End_from_text : Vcm P w K mg base (L2.CX P w) 7 (cA ct "End") "from_text" f_End_from_text fd_End_from_text ["cls", "text"] ct [false, false] Φ_End_from_text) (Q_End_from_text_1_text : KB K fd_End_from_text ["cls", "text"] 1 ["text"] (fun vs zs => vs ++ zs)) (V__law_text : Vx P w K mg base 2 "_law_text" f_L_text fd_L_text ["_law_hearer_here", "_law_sender_here"] ct [false, false] Φ_L_text) (P_End_hearer : Px P w K mg base (cA ct "End") p_End_hearer g_End_hearer fdg_End_hearer "hearer" "hearer_rows") (F : Fun K "_law_right" "_law_right" sL_right f fd) : FnG P w K mg base CX0 8 f fd ["_law_hearer_here", "_law_sender_here"] (spV K ct [false, false] Φ_L_right) :=
  okVg F scL_right rfl fun io cdv A out s H E hg hr hu66 => by
    have hu65 : (A.deeper (PyProof.Rows.envOfC "_law_right" (defScope sL_right) s.heap.objs.size f cdv)).units + 65 < cLine := by omega
    exact (dss_cons (ds_par (i := 2) (j := 3) rfl scL_right.nd rfl rfl (by decide) rfl rfl (DE.q (de_make (M := V_End_init.mkC) V_End_init.ok T.c_End hg (hr.mono (by decide)) (by rfl) V_End_init.mg V_End_init.bd .nil (fun _ => .nil) (E := E0) passNo zno_any (da_cons (dv 0) (da_cons (dv 1) da_nil)))) (DE.q (de_call V__law_text.ok hg (hr.mono (by decide)) (by rfl) V__law_text.mg V__law_text.kp V__law_text.bd .nil (fun _ => .nil) (E := E0v) pass0 zno_any (dai_cons (dv 0) (dai_cons (dv 1) dai_nil)))) (hp := fun ha => ps_par rfl scL_right.nd rfl rfl (by decide) rfl rfl ha (by rfl)))
  (dss_cons (ds_if (DW.dt (dw_or (dt_cmp op_ne opv_neS (de_callTy (call_strG V_End_str.mt V_End_str.ok hg (hr.mono (by decide)) V_End_str.bd (E := E0v) pass0) (cv_strOwn T.c_End) (by rfl) T.b_str (by decide +kernel) (da_cons (dv 2) da_nil)) (dv 3) (nomark _)) (dw_or1 (dt_cmp op_ne opv_neS (de_callTy (call_strG V_End_str.mt V_End_str.ok hg (hr.mono (by decide)) V_End_str.bd (E := E0v) pass0) (cv_strOwn T.c_End) (by rfl) T.b_str (by decide +kernel) (da_cons (dv 2) da_nil)) (dv 3) (nomark _))))) (dss_one (ds_ret de_bl)) dss_nil)
  (dss_cons (ds_for PassesOwn.never rfl (di_seq (de_lst (da_cons (de_cm V_End_from_text.cm V_End_from_text.ok T.c_End hg (hr.mono (by decide)) (by rfl) T.mc_End V_End_from_text.bd (E := fun _ => E0) (pT passNo) zno_any (da_cons (dv 3) da_nil)) (da_cons (de_cmK (gD := (fun vs zs => vs ++ zs)) V_End_from_text.cm V_End_from_text.ok T.c_End hg (hr.mono (by decide)) (by rfl) T.mc_End Q_End_from_text_1_text.choose_spec (fun _ _ _ _ _ h1 h2 => h1.app h2) (E := fun _ => E0) (pT passNo) zno_any (dk_cons (dv 3) dk_nil)) da_nil)))) (dgn 4 scL_right.nd) (dss_one (ds_if (DW.dt (dw_or (dt_not (dt_val (de_isO T.o_End T.c_End T.b_isinstance (by rfl) (dv 4) (by rfl) T.mc_End))) (dw_or (dt_not (dt_cmp (op_eqG V_End_eq.mt V_End_eq.ok hg (hr.mono (by decide)) V_End_eq.bd (E := E0v) pass0) (opv_eqOwn T.o_End T.c_End) (dv 4) (dv 2) (nomark _))) (dw_or (dt_cmp op_ne opv_neS (de_callTy (call_strG V_End_str.mt V_End_str.ok hg (hr.mono (by decide)) V_End_str.bd (E := E0v) pass0) (cv_strOwn T.c_End) (by rfl) T.b_str (by decide +kernel) (da_cons (dv 4) da_nil)) (dv 3) (nomark _)) (dw_or1 (dt_cmp (op_neD hr.units) opv_neD (de_prop (E := E0) (j := 0) P_End_hearer T.o_End.cl T.c_End (by decide) rfl (hr.mono (by decide)) (dv 4)) (de_callTy call_tuple_of cv_tuple (by rfl) T.b_tuple (by decide +kernel) (da_cons (dv 0) da_nil)) (nomark _))))))) (dss_one (ds_ret de_bl)) dss_nil)))
  (dss_one (ds_ret de_bl)))))

def B_law_1 : Ev Fl := (fIte (fNotT (fB (fCall [false, false] Φ_L_right [] (gCn (fCall [true, false] Φ_L_hearer [] (gIo 2 (gCn (fOp (oI fun i j => .int (i + j)) (fC (.int 2)) (fCall [true, false] Φ_L_take [] (gIo 2 (gCn (fC (.int 7)) gNl)))) gNl))) (gCn (fCall [true, false] Φ_L_sender [] (gIo 2 (gCn (fOp (oI fun i j => .int (i + j)) (fC (.int 1)) (fCall [true, false] Φ_L_take [] (gIo 2 (gCn (fC (.int 8)) gNl)))) gNl))) gNl))))) (fRet (fC (.bl false))) fNx)
def L_law_1 : Ev Fl := (fFor (fRng1 (fCons (fC (.int 6)) fNil)) (.nm 3) B_law_1)
def E_law_1 : Ev D := (fTup (fCons (fOp (oIC (fun _ j => decide (0 < j)) fun i j => .int (i % j)) (fVar 6) (fC (.int 2))) (fCons (fOp (oI fun i j => .int (i - j)) (fC (.int 99)) (fVar 6)) (fCons (fOp (oIC (fun _ j => decide (0 < j)) fun i j => .int (i % j)) (fCB (o1 oInt) (fCons (fOp (oI fun i j => .int (i + j)) (fVar 6) (fVar 4)) fNil)) (fC (.int 100))) fNil))))
def E_law_2 : Ev D := (fTup (fCons (fC (.int 1)) (fCons (fVar 6) (fCons (fOp (oI fun i j => .int (i - j)) (fC (.int 99)) (fVar 6)) fNil))))
def H_law_1 : Ev Fl := (fAsg (.nm 5) (fOp oCat (fLst (fCons (fTup (fCons (fC (.int 1)) (fCons (fC (.int 0)) (fCons (fC (.str "taken")) fNil)))) (fCons (fTup (fCons (fC (.int 0)) (fCons (fC (.str "lost")) (fCons (fC (.int 1)) fNil)))) fNil))) (fComp (fRng2 (fCons (fC (.int 2)) (fCons (fC (.int 100)) fNil))) (.nm 6) fYes E_law_1 [6])))
def R_law_1 : Ev Fl := (fIte (fNotT (fB (fCall [false, false] Φ_L_right [] (gCn (fVar 5) (gCn (fOp oCat (fComp (fRng1 (fCons (fC (.int 99)) fNil)) (.nm 6) fYes E_law_2 [6]) (fLst (fCons (fTup (fCons (fC (.int 0)) (fCons (fC (.str "again")) (fCons (fC (.str "done")) fNil)))) fNil))) gNl))))) (fRet (fC (.bl false))) fNx)
def H_law_2 : Ev Fl := (fAsg (.nm 4) (fOp (oI fun i j => .int (i + j)) (fC (.int 1)) (fCall [true, false] Φ_L_take [] (gIo 2 (gCn (fC (.int 98)) gNl)))))
def R_law_2 : Ev Fl := (fSeq H_law_1
  R_law_1)
def H_law_3 : Ev Fl := L_law_1
def R_law_3 : Ev Fl := (fSeq H_law_2
  R_law_2)
def H_law_4 : Ev Fl := (fSetN 2 (fCallN [false, false] Φ_L_bag [] (gCn (fVar 0) (gCn (fVar 1) gNl))))
def R_law_4 : Ev Fl := (fSeq H_law_3
  R_law_3)
def B_law_2 : Ev Fl := (fSeq H_law_4
  R_law_4)
def L_law_2 : Ev Fl := (fFor (fRng1 (fCons (fCB (o2 oMax) (fCons (fC (.int 2)) (fCons (fCB (o2 oMin) (fCons (fC (.int 4)) (fCons (fCB (o1 oLen) (fCons (fVar 0) fNil)) fNil))) fNil))) fNil)) (.nm 1) B_law_2)
def H_law_5 : Ev Fl := L_law_2
def R_law_5 : Ev Fl := (fRet (fCall [false, false] Φ_L_right [] (gCn (fLst (fCons (fTup (fCons (fC (.int 1)) (fCons (fC (.str "lost")) (fCons (fC (.str "taken")) fNil)))) (fCons (fTup (fCons (fC (.int 0)) (fCons (fC (.str "lost")) (fCons (fC (.str "lost")) fNil)))) fNil))) (gCn (fLst (fCons (fTup (fCons (fC (.int 1)) (fCons (fC (.str "again")) (fCons (fC (.str "done")) fNil)))) fNil)) gNl))))
def F_law : Ev Fl := (fSeq H_law_5
  R_law_5)
def Φ_law : List D → Res := fun ds => (runV [false] 7 F_law ds).quiet
theorem dv_law {ct : Ct} {f : Addr} {fd : FuncData} {f_L_bag : Addr} {fd_L_bag : FuncData} {f_L_hearer : Addr} {fd_L_hearer : FuncData} {f_L_right : Addr} {fd_L_right : FuncData} {f_L_sender : Addr} {fd_L_sender : FuncData} {f_L_take : Addr} {fd_L_take : FuncData} (T : Txt K mg ct) (V__law_bag : Vx P w K mg base 1 "_law_bag" f_L_bag fd_L_bag ["_law_script", "_law_at"] ct [false, false] Φ_L_bag) (V__law_hearer : Vx P w K mg base 4 "_law_hearer" f_L_hearer fd_L_hearer ["_law_bag_here", "_law_many"] ct [true, false] Φ_L_hearer) (V__law_right : Vx P w K mg base 8 "_law_right" f_L_right fd_L_right ["_law_hearer_here", "_law_sender_here"] ct [false, false] Φ_L_right) (V__law_sender : Vx P w K mg base 4 "_law_sender" f_L_sender fd_L_sender ["_law_bag_here", "_law_many"] ct [true, false] Φ_L_sender) (V__law_take : Vx P w K mg base 1 "_law_take" f_L_take fd_L_take ["_law_bag_here", "_law_many"] ct [true, false] Φ_L_take) (F : Fun K "law" "law" slaw f fd) : FnG P w K mg base CX0 9 f fd ["_law_script"] (spV K ct [false] Φ_law) :=
  okVg F sclaw rfl fun io cdv A out s H E hg hr hu66 => by
    have hu65 : (A.deeper (PyProof.Rows.envOfC "law" (defScope slaw) s.heap.objs.size f cdv)).units + 65 < cLine := by omega
    exact (dss_cons (ds_for PassesOwn.never rfl (di_rng1 (by rfl) T.b_range (da_cons (de_callB (call_max2 rfl) cv_max (by rfl) T.b_max (by decide +kernel) (da_cons de_int (da_cons (de_callB (call_min2 rfl) cv_min (by rfl) T.b_min (by decide +kernel) (da_cons de_int (da_cons (de_callB call_lenA cv_len (by rfl) T.b_len (by decide +kernel) (da_cons (dv 0) da_nil)) da_nil))) da_nil))) da_nil)) (dgn 1 sclaw.nd) (dss_cons (ds_new (i := 2) sclaw.nd rfl (by first | exact Or.inl rfl | exact Or.inr rfl) (dn_call V__law_bag.ok hg (hr.mono (by decide)) (by rfl) V__law_bag.mg V__law_bag.kp V__law_bag.bd .nil (fun _ => .nil) (E := E0v) pass0 zno_any (dai_cons (dv 0) (dai_cons (dv 1) dai_nil))))
  (dss_cons (ds_for PassesOwn.never rfl (di_rng1 (by rfl) T.b_range (da_cons de_int da_nil)) (dgn 3 sclaw.nd) (dss_one (ds_if (dt_not (dt_val (de_call V__law_right.ok hg (hr.mono (by decide)) (by rfl) V__law_right.mg V__law_right.kp V__law_right.bd .nil (fun _ => .nil) (E := E0v) pass0 zno_any (dai_cons (de_call V__law_hearer.ok hg (hr.mono (by decide)) (by rfl) V__law_hearer.mg V__law_hearer.kp V__law_hearer.bd .nil (fun _ => .nil) (E := E0v) pass0 zno_any (dio 2 (dai_cons (de_op op_add opv_add de_int (de_call V__law_take.ok hg (hr.mono (by decide)) (by rfl) V__law_take.mg V__law_take.kp V__law_take.bd .nil (fun _ => .nil) (E := E0v) pass0 zno_any (dio 2 (dai_cons de_int dai_nil)))) dai_nil))) (dai_cons (de_call V__law_sender.ok hg (hr.mono (by decide)) (by rfl) V__law_sender.mg V__law_sender.kp V__law_sender.bd .nil (fun _ => .nil) (E := E0v) pass0 zno_any (dio 2 (dai_cons (de_op op_add opv_add de_int (de_call V__law_take.ok hg (hr.mono (by decide)) (by rfl) V__law_take.mg V__law_take.kp V__law_take.bd .nil (fun _ => .nil) (E := E0v) pass0 zno_any (dio 2 (dai_cons de_int dai_nil)))) dai_nil))) dai_nil))))) (dss_one (ds_ret de_bl)) dss_nil)))
  (dss_cons (dset 4 sclaw.nd (de_op op_add opv_add de_int (de_call V__law_take.ok hg (hr.mono (by decide)) (by rfl) V__law_take.mg V__law_take.kp V__law_take.bd .nil (fun _ => .nil) (E := E0v) pass0 zno_any (dio 2 (dai_cons de_int dai_nil)))))
  (dss_cons (dset 5 sclaw.nd (de_op op_cat opv_cat (de_lst (da_cons (de_tup (da_cons de_int (da_cons de_int (da_cons de_str da_nil)))) (da_cons (de_tup (da_cons de_int (da_cons de_str (da_cons de_int da_nil)))) da_nil))) (de_comp (own := [("_law_at", 6)]) (Zb := ZNo) rfl sclaw.nd (di_rng2 (by rfl) T.b_range (da_cons de_int (da_cons de_int da_nil))) (blkOk_by (N := ["_law_script", "_law_k", "_law_bag_here", "_law_turn", "_law_step", "_law_long", "_law_at"]) (own := [("_law_at", 6)]) (sc := defScope slaw) (by decide +kernel)) (by rfl) (fun _ _ _ _ _ => (dgn 6 sclaw.nd)) (fun _ _ _ _ _ => dts_nil) (fun _ _ _ _ _ => (de_tup (da_cons (de_op op_mod opv_mod (dv 6) de_int) (da_cons (de_op op_sub opv_sub de_int (dv 6)) (da_cons (de_op op_mod opv_mod (de_callTy call_int1 cv_int (by rfl) T.b_int (by decide +kernel) (da_cons (de_op op_add opv_add (dv 6) (dv 4)) da_nil)) de_int) da_nil))))))))
  (dss_one (ds_if (dt_not (dt_val (de_call V__law_right.ok hg (hr.mono (by decide)) (by rfl) V__law_right.mg V__law_right.kp V__law_right.bd .nil (fun _ => .nil) (E := E0v) pass0 zno_any (dai_cons (dv 5) (dai_cons (de_op op_cat opv_cat (de_comp (own := [("_law_at", 6)]) (Zb := ZNo) rfl sclaw.nd (di_rng1 (by rfl) T.b_range (da_cons de_int da_nil)) (blkOk_by (N := ["_law_script", "_law_k", "_law_bag_here", "_law_turn", "_law_step", "_law_long", "_law_at"]) (own := [("_law_at", 6)]) (sc := defScope slaw) (by decide +kernel)) (by rfl) (fun _ _ _ _ _ => (dgn 6 sclaw.nd)) (fun _ _ _ _ _ => dts_nil) (fun _ _ _ _ _ => (de_tup (da_cons de_int (da_cons (dv 6) (da_cons (de_op op_sub opv_sub de_int (dv 6)) da_nil)))))) (de_lst (da_cons (de_tup (da_cons de_int (da_cons de_str (da_cons de_str da_nil)))) da_nil))) dai_nil))))) (dss_one (ds_ret de_bl)) dss_nil)))))))
  (dss_one (ds_ret (de_call V__law_right.ok hg (hr.mono (by decide)) (by rfl) V__law_right.mg V__law_right.kp V__law_right.bd .nil (fun _ => .nil) (E := E0v) pass0 zno_any (dai_cons (de_lst (da_cons (de_tup (da_cons de_int (da_cons de_str (da_cons de_str da_nil)))) (da_cons (de_tup (da_cons de_int (da_cons de_str (da_cons de_str da_nil)))) da_nil))) (dai_cons (de_lst (da_cons (de_tup (da_cons de_int (da_cons de_str (da_cons de_str da_nil)))) da_nil)) dai_nil))))))

end
end K05

set_option Elab.async false
set_option linter.all false
set_option maxRecDepth 100000
set_option maxHeartbeats 2000000
/-! Va0: the end of a law whose defs may hold own classes; exceptions' __init__. -/
namespace Vl
open PySem PySem.Spec PyProof.Rows L2 Sb
/-- what a law keeps -/
def spLawB (K : PySem.W.Frag) : Sp := fun vs H Q _ => ∃ (a : Addr) (ns : List Int), vs = [.ref a] ∧ SqL K H a (ns.map V.int) ∧ ns.length ≤ 63 ∧ ∀ H', Q (.bl true) H'
theorem _root_.Sb.FnG.imp {P : Program} {w : World} {K : PySem.W.Frag} {mg : Str → Option Value} {base : Heap} {CX : CXT} {k : Nat} {f : Addr} {fd : FuncData} {ps : List Str} {sp sp' : Sp} (F : FnG P w K mg base CX k f fd ps sp) (h : ∀ vs H Q E, sp' vs H Q E → sp vs H Q E) : FnG P w K mg base CX k f fd ps sp' :=
  ⟨fun vs H Q E q => F.size vs H Q E (h _ _ _ _ q), fun A st s H args us xs Q E hg hr he hb hv hs => F.go A st s H args us xs Q E hg hr he hb hv (h _ _ _ _ hs)⟩
theorem law_of {P : Program} {w : World} {K : PySem.W.Frag} {mg : Str → Option Value} {base : Heap} {CX : CXT} {k : Nat} {f : Addr} {fd : FuncData} {ps : List Str} {ct : Ct} {Φ : List D → Res} (F : FnG P w K mg base CX k f fd ps (spV K ct [false] Φ))
    (hΦ : ∀ ns : List Int, ns.length ≤ 63 → ∃ l, Φ [.scr ns] = .ret false (.bl true) l) : FnG P w K mg base CX k f fd ps (spLawB K) := F.imp fun vs H Q E h => by
  obtain ⟨a, ns, rfl, hS, hl, hq⟩ := h
  obtain ⟨l, e⟩ := hΦ ns hl
  have h0 : off (fun _ => False) H = H := off_none
  exact spV_use (S := fun _ => False) (ds := [.scr ns]) (fun _ z => z.elim) rfl (by rw [h0]; exact .one (.scr hS)) e fun v H' _ rv => by
    rw [rv.blE]
    exact hq H'
/-- an exception's __init__ of one field, of two -/
theorem spXI_one {C : Addr} {n : Str} {vs : List V} {H : Hp} {Q : VK} {E : XK} (h : spXI C [n] vs H Q E) : ∃ (a : Addr) (v : V), vs = [.ref a, v] ∧ H a = some (exo a C none) ∧ ∀ (H' : Hp) (d : Addr), H' a = some (exo a C (some d)) → H d = none → d ≠ a → H' d = some (exd d [(n, v)]) → (∀ b o, H b = some o → b ≠ a → H' b = some o) → Q .non H' := by
  obtain ⟨a, ws, rfl, hl, ha, k⟩ := h
  match ws, hl, k with
  | [v], _, k => exact ⟨a, v, rfl, ha, k⟩
theorem spXI_two {C : Addr} {n1 n2 : Str} {vs : List V} {H : Hp} {Q : VK} {E : XK} (h : spXI C [n2, n1] vs H Q E) : ∃ (a : Addr) (v1 v2 : V), vs = [.ref a, v1, v2] ∧ H a = some (exo a C none) ∧ ∀ (H' : Hp) (d : Addr), H' a = some (exo a C (some d)) → H d = none → d ≠ a → H' d = some (exd d [(n2, v2), (n1, v1)]) → (∀ b o, H b = some o → b ≠ a → H' b = some o) → Q .non H' := by
  obtain ⟨a, ws, rfl, hl, ha, k⟩ := h
  match ws, hl, k with
  | [v1, v2], _, k => exact ⟨a, v1, v2, rfl, ha, k⟩
end Vl

set_option Elab.async false
set_option linter.all false
set_option maxRecDepth 100000
set_option maxHeartbeats 1000000
/-! Mv: operations, by the kinds of their arguments. -/
namespace Vl
open PySem L2 Sb
/-- range(n) as it is walked -/
def rng1 (l : List D) (e : List Slot) : Out (List D) := match l with
  | [.int j] => if sm62 j then .val (rangeD 0 j.toNat) e else .stuck
  | _ => .stuck
theorem fRng1_app (fs : Ev (List D)) (env : List Slot) : fRng1 fs env = (fs env).bind rng1 := by
  have h : fRng1 = fun (fs : Ev (List D)) (env : List Slot) => (fs env).bind rng1 := by
    funext fs env
    rfl
  exact congrFun (congrFun h fs) env
theorem fRng1_one (f : Ev D) (env : List Slot) : fRng1 (fCons f fNil) env = (f env).bind fun d e => rng1 [d] e := by
  rw [fRng1_app]
  unfold fCons fNil
  cases h : f env <;> rfl
theorem rng1_nat {n : Nat} (hn : n ≤ 1000000) (e : List Slot) : rng1 [.int (n : Int)] e = .val (rangeD 0 n) e := by
  have c : sm62 (n : Int) = true := sm62_of (by omega) (by omega)
  simp only [rng1, if_pos c, Int.toNat_natCast]
theorem rng1_int {j : Int} (n : Nat) (hj : j = (n : Int)) (hn : n ≤ 1000000) (e : List Slot) : rng1 [.int j] e = .val (rangeD 0 n) e := by
  subst hj
  exact rng1_nat hn e
section
variable (l m : List D) (i j : Int) (a b : Str) (p q : Bool) (ns : List Int) (ks : List Key) (env : List Slot)
theorem oLen_lst : oLen (.lst l) = some (.int (l.length : Int)) := rfl
theorem oLen_tup : oLen (.tup l) = some (.int (l.length : Int)) := rfl
theorem oLen_ctup : oLen (.ctup l) = some (.int (l.length : Int)) := rfl
theorem oLen_scr : oLen (.scr ns) = some (.int (ns.length : Int)) := rfl
theorem oIx_lst : oIx (.lst l) (.int i) = atI l i := rfl
theorem oIx_tup : oIx (.tup l) (.int i) = atI l i := rfl
theorem oIx_ctup : oIx (.ctup l) (.int i) = atI l i := rfl
theorem oIx_scr : oIx (.scr ns) (.int i) = (atI ns i).map D.int := rfl
theorem oInt_int : oInt (.int i) = some (.int i) := rfl
theorem oInt_bl : oInt (.bl p) = some (.int (if p then 1 else 0)) := rfl
theorem oAbs_int : oAbs (.int i) = some (.int (if i < 0 then -i else i)) := rfl
theorem oMax_int : oMax (.int i) (.int j) = some (.int (if j > i then j else i)) := rfl
theorem oMin_int : oMin (.int i) (.int j) = some (.int (if j < i then j else i)) := rfl
theorem oTuple_lst : oTuple (.lst l) = some (.tup l) := rfl
theorem oTuple_tup : oTuple (.tup l) = some (.tup l) := rfl
theorem oList_lst : oList (.lst l) = some (.lst l) := rfl
theorem oList_tup : oList (.tup l) = some (.lst l) := rfl
theorem oNeg_int : oNeg (.int i) = some (.int (-i)) := rfl
theorem ty_non : D.ty .non = some .non := rfl
theorem ty_bl : D.ty (.bl p) = some .bool := rfl
theorem ty_int : D.ty (.int i) = some .int := rfl
theorem ty_str : D.ty (.str a) = some .str := rfl
theorem ty_tup : D.ty (.tup l) = some .tuple := rfl
theorem ty_ctup : D.ty (.ctup l) = some .tuple := rfl
theorem ty_lst : D.ty (.lst l) = some .list := rfl
theorem ty_dk : D.ty (.dk ks l) = some .dict := rfl
theorem ty_scr : D.ty (.scr ns) = some .list := rfl
theorem tru_non : D.tru .non = some false := rfl
theorem tru_bl : D.tru (.bl p) = some p := rfl
theorem tru_int : D.tru (.int i) = some (i != 0) := rfl
theorem tru_lst : D.tru (.lst l) = some (!l.isEmpty) := rfl
theorem tru_tup : D.tru (.tup l) = some (!l.isEmpty) := rfl
theorem oEqS_int (neg : Bool) : oEqS neg (.int i) (.int j) = some (.bl (if neg then !decide (i = j) else decide (i = j))) := rfl
theorem oEqS_str (neg : Bool) : oEqS neg (.str a) (.str b) = some (.bl (if neg then !decide (a = b) else decide (a = b))) := rfl
theorem oEqS_bl (neg : Bool) : oEqS neg (.bl p) (.bl q) = some (.bl (if neg then !decide (p = q) else decide (p = q))) := rfl
theorem oCat_lst : oCat (.lst l) (.lst m) = if l.length + m.length ≤ sizeLine then some (.lst (l ++ m)) else none := rfl
theorem oCatA_tup : oCatA (.tup l) (.tup m) = if l.length + m.length ≤ sizeLine then some (.tup (l ++ m)) else none := rfl
theorem oSlT_tup (lo hi : Option Int) : oSlT (.tup l) lo hi = some (.tup (cutD l lo hi)) := rfl
theorem oSlL_lst (lo hi : Option Int) : oSlL (.lst l) lo hi = some (.lst (cutD l lo hi)) := rfl
theorem keyOf_int : keyOf (.int i) = some (.inl i) := rfl
theorem keyOf_str : keyOf (.str a) = some (.inr a) := rfl
theorem isNon_non : D.isNon .non = true := rfl
theorem isNon_bl : D.isNon (.bl p) = false := rfl
theorem isNon_int : D.isNon (.int i) = false := rfl
theorem isNon_str : D.isNon (.str a) = false := rfl
theorem isNon_tup : D.isNon (.tup l) = false := rfl
theorem isNon_lst : D.isNon (.lst l) = false := rfl
theorem oFld_ob (c : Str) (k : Nat) : oFld c k (.ob c l) = l[k]? := if_pos rfl
theorem isOb_ob' (c : Str) : D.isOb c (.ob c l) = true := decide_eq_true rfl
theorem small3 (k : Nat) (h : k ≤ 1000) : (k ≤ sizeLine) = True := by
  simp only [eq_iff_iff, iff_true]
  exact Nat.le_trans h (by decide)
end
end Vl

set_option Elab.async false
set_option linter.all false
set_option maxRecDepth 100000
set_option maxHeartbeats 1000000
/-! MeA: rows as data; what the program's defs over machines come to. -/
namespace Pg
open PySem L2 Sb Vl
local macro_rules | `(tactic| walk_at "ev") => `(tactic| simp only [Vl.runV, Vl.mkEnv, Vl.Res.of, Vl.Res.quiet, Vl.Res.val, Vl.ioAt, Vl.fSeq, Vl.fIte, Vl.fAsg, Vl.fVar, Vl.fC, Vl.fOp, Vl.fIxO, Vl.fPutL, Vl.fRet, Vl.fRetW, Vl.fRetO, Vl.fRetN, Vl.fLst, Vl.fTup, Vl.fB, Vl.fTru, Vl.fCB, Vl.fCons, Vl.fNil, Vl.o1, Vl.o2, Vl.oI, Vl.oIC, Vl.slotL, Vl.slotO, Vl.own, Vl.Pat.put, Vl.Pat.puts, Vl.Out.bind, Vl.Out.opt, Vl.fNx, Vl.fCt, Vl.fBk, Vl.fPar, Vl.fCall, Vl.fCallN, Vl.fCallL, Vl.fSetN, Vl.gIo, Vl.gCn, Vl.gNl, Vl.agDs, Vl.agD, Vl.ioSlots, Vl.putAll, Vl.put1, Vl.Ag.isIo, Vl.fAnd, Vl.fOr, Vl.fNot, Vl.fAndT, Vl.fOrT, Vl.fNotT, Vl.fChain, Vl.fIsi, Vl.fIsi2, Vl.fUn, Vl.fDrop, Vl.fApp, Vl.fLenO, Vl.fMake, Vl.fRaise, Vl.fFldS, Vl.fDInO, Vl.fDPutO, Vl.fDGetO, Vl.fPop, Vl.fListD, Vl.fDOne, Vl.fDNewK, Vl.isi, Vl.bOf, Vl.sOf, Vl.fFmt, Vl.fJs, Vl.oFmt, Vl.fM1, Vl.fM0, Vl.fFor, Vl.fItems, Vl.fEnum, Vl.fSl, Vl.fPart, Vl.fNoPart, Vl.fNeg, Vl.fAugI, Vl.fInO, Vl.fYes, Vl.fTruO, Vl.fComp, Vl.fCompO, Vl.calmE, Vl.wipeE, Vl.backE, Vl.oIsN, Vl.oStr, ↓Vl.fRng1_one, Vl.oLen_lst, Vl.oLen_tup, Vl.oLen_ctup, Vl.oLen_scr, Vl.oIx_lst, Vl.oIx_tup, Vl.oIx_ctup, Vl.oIx_scr, Vl.oInt_int, Vl.oInt_bl, Vl.oAbs_int, Vl.oMax_int, Vl.oMin_int, Vl.oTuple_lst, Vl.oTuple_tup, Vl.oList_lst, Vl.oList_tup, Vl.oNeg_int, Vl.ty_non, Vl.ty_bl, Vl.ty_int, Vl.ty_str, Vl.ty_tup, Vl.ty_ctup, Vl.ty_lst, Vl.ty_dk, Vl.ty_scr, Vl.tru_non, Vl.tru_bl, Vl.tru_int, Vl.tru_lst, Vl.tru_tup, Vl.oEqS_int, Vl.oEqS_str, Vl.oEqS_bl, Vl.oCat_lst, Vl.oCatA_tup, Vl.oSlT_tup, Vl.oSlL_lst, Vl.keyOf_int, Vl.keyOf_str, Vl.isNon_non, Vl.isNon_bl, Vl.isNon_int, Vl.isNon_str, Vl.isNon_tup, Vl.isNon_lst, Vl.oFld_ob, Vl.isOb_ob', Vl.atI_0, Vl.atI_1, Vl.atI_2, Vl.atI_3, Vl.ixN_0, Vl.ixN_1, Vl.ixN_2, List.zipWith, List.replicate, List.append, List.cons_append, List.nil_append, List.append_nil, List.getElem?_cons_zero, List.getElem?_cons_succ, List.getElem?_nil, List.set_cons_zero, List.set_cons_succ, List.length_cons, List.length_nil, List.map_cons, List.map_nil, List.nodup_cons, List.nodup_nil, List.not_mem_nil, List.reverse_cons, List.reverse_nil, Bool.false_eq_true, ite_true, ite_false, if_true, if_false, reduceIte, decide_true, decide_false, Bool.true_and, Bool.and_true, Bool.false_and, Bool.and_false, Bool.not_true, Bool.not_false, Bool.or_false, Bool.false_or, Bool.or_true, Bool.true_or, reduceCtorEq, not_false_eq_true, not_true_eq_false, and_self, and_true, true_and, or_false, or_true, Nat.reduceSub, Nat.reduceAdd, Nat.reduceLeDiff, Nat.zero_add, Option.map_some, Option.map_none, Option.bind_some, Option.bind_none, Option.isSome_some, Option.isSome_none, List.mem_cons, List.all_cons, List.all_nil, eq_self, Int.cast_ofNat_Int, Int.natCast_zero, Int.natCast_one, Int.reduceEq, Int.reduceLT, Int.reduceLE, Int.reduceAdd, Int.reduceSub, Int.reduceNeg, Nat.reduceEqDiff, *])
local macro_rules | `(tactic| walk_at "e0") => `(tactic| simp only [Vl.runV, Vl.mkEnv, Vl.Res.of, Vl.Res.quiet, Vl.Res.val, Vl.ioAt, Vl.fSeq, Vl.fIte, Vl.fAsg, Vl.fVar, Vl.fC, Vl.fOp, Vl.fIxO, Vl.fPutL, Vl.fRet, Vl.fRetW, Vl.fRetO, Vl.fRetN, Vl.fLst, Vl.fTup, Vl.fB, Vl.fTru, Vl.fCB, Vl.fCons, Vl.fNil, Vl.o1, Vl.o2, Vl.oI, Vl.oIC, Vl.slotL, Vl.slotO, Vl.own, Vl.Pat.put, Vl.Pat.puts, Vl.Out.bind, Vl.Out.opt, Vl.fNx, Vl.fCt, Vl.fBk, Vl.fPar, Vl.fCall, Vl.fCallN, Vl.fCallL, Vl.fSetN, Vl.gIo, Vl.gCn, Vl.gNl, Vl.agDs, Vl.agD, Vl.ioSlots, Vl.putAll, Vl.put1, Vl.Ag.isIo, Vl.fAnd, Vl.fOr, Vl.fNot, Vl.fAndT, Vl.fOrT, Vl.fNotT, Vl.fChain, Vl.fIsi, Vl.fIsi2, Vl.fUn, Vl.fDrop, Vl.fApp, Vl.fLenO, Vl.fMake, Vl.fRaise, Vl.fFldS, Vl.fDInO, Vl.fDPutO, Vl.fDGetO, Vl.fPop, Vl.fListD, Vl.fDOne, Vl.fDNewK, Vl.isi, Vl.bOf, Vl.sOf, Vl.fFmt, Vl.fJs, Vl.oFmt, Vl.fM1, Vl.fM0, Vl.fFor, Vl.fItems, Vl.fEnum, Vl.fSl, Vl.fPart, Vl.fNoPart, Vl.fNeg, Vl.fAugI, Vl.fInO, Vl.fYes, Vl.fTruO, Vl.fComp, Vl.fCompO, Vl.calmE, Vl.wipeE, Vl.backE, Vl.oIsN, Vl.oStr, ↓Vl.fRng1_one, Vl.oLen_lst, Vl.oLen_tup, Vl.oLen_ctup, Vl.oLen_scr, Vl.oIx_lst, Vl.oIx_tup, Vl.oIx_ctup, Vl.oIx_scr, Vl.oInt_int, Vl.oInt_bl, Vl.oAbs_int, Vl.oMax_int, Vl.oMin_int, Vl.oTuple_lst, Vl.oTuple_tup, Vl.oList_lst, Vl.oList_tup, Vl.oNeg_int, Vl.ty_non, Vl.ty_bl, Vl.ty_int, Vl.ty_str, Vl.ty_tup, Vl.ty_ctup, Vl.ty_lst, Vl.ty_dk, Vl.ty_scr, Vl.tru_non, Vl.tru_bl, Vl.tru_int, Vl.tru_lst, Vl.tru_tup, Vl.oEqS_int, Vl.oEqS_str, Vl.oEqS_bl, Vl.oCat_lst, Vl.oCatA_tup, Vl.oSlT_tup, Vl.oSlL_lst, Vl.keyOf_int, Vl.keyOf_str, Vl.isNon_non, Vl.isNon_bl, Vl.isNon_int, Vl.isNon_str, Vl.isNon_tup, Vl.isNon_lst, Vl.oFld_ob, Vl.isOb_ob', Vl.atI_0, Vl.atI_1, Vl.atI_2, Vl.atI_3, Vl.ixN_0, Vl.ixN_1, Vl.ixN_2, List.zipWith, List.replicate, List.append, List.cons_append, List.nil_append, List.append_nil, List.getElem?_cons_zero, List.getElem?_cons_succ, List.getElem?_nil, List.set_cons_zero, List.set_cons_succ, List.length_cons, List.length_nil, List.map_cons, List.map_nil, List.nodup_cons, List.nodup_nil, List.not_mem_nil, List.reverse_cons, List.reverse_nil, Bool.false_eq_true, ite_true, ite_false, if_true, if_false, reduceIte, decide_true, decide_false, Bool.true_and, Bool.and_true, Bool.false_and, Bool.and_false, Bool.not_true, Bool.not_false, Bool.or_false, Bool.false_or, Bool.or_true, Bool.true_or, reduceCtorEq, not_false_eq_true, not_true_eq_false, and_self, and_true, true_and, or_false, or_true, Nat.reduceSub, Nat.reduceAdd, Nat.reduceLeDiff, Nat.zero_add, Option.map_some, Option.map_none, Option.bind_some, Option.bind_none, Option.isSome_some, Option.isSome_none, List.mem_cons, List.all_cons, List.all_nil, eq_self, Int.cast_ofNat_Int, Int.natCast_zero, Int.natCast_one, Int.reduceEq, Int.reduceLT, Int.reduceLE, Int.reduceAdd, Int.reduceSub, Int.reduceNeg, Nat.reduceEqDiff])
def plD : Pl → D
  | .num n => .int (n : Int)
  | .word s => .str s
def rowD (r : Row) : D := .tup [.int (r.put : Int), plD r.a, plD r.b]
def rowsD (rs : List Row) : List D := rs.map rowD
def isNum : D → Bool
  | .int _ => true
  | _ => false
theorem number_ok {d : D} (h : d.ty.isSome = true) : Φ_is_number [d] = .ret false (.bl (isNum d)) [.non] := by
  cases d with
  | ob _ _ => cases h
  | cl _ => cases h
  | _ => rfl
/-- what may follow in a machine -/
def folD (d : D) (n : Int) (ws : List Str) : Bool := match d with
  | .str s => decide (s ∈ ws)
  | .int i => decide (0 ≤ i) && decide (i < n)
  | _ => false
theorem eqv_str (a b : Str) : PyData.eqv (.str a) (.str b) = decide (a = b) := by
  have : PyData.eqv (.str a) (.str b) = (a == b) := by first | rfl | simp [PyData.eqv]
  rw [this]
  by_cases h : a = b
  · subst h
    simp
  · simp [h]
theorem str_any (ws : List Str) (s : Str) : ((ws.map D.str).any fun z => PyData.eqv z.py (D.str s).py) = decide (s ∈ ws) := by
  induction ws with
  | nil => simp
  | cons w ws ih =>
    rw [List.map_cons, List.any_cons, ih]
    show (PyData.eqv (.str w) (.str s) || _) = _
    rw [eqv_str]
    by_cases h : w = s
    · subst h
      simp
    · have h2 : ¬ s = w := fun z => h z.symm
      simp [h, h2]
theorem strs_plain : ∀ ws : List Str, D.plainAll (ws.map D.str) = true
  | [] => rfl
  | w :: ws => by
    rw [List.map_cons]
    show (true && D.plainAll (ws.map D.str)) = true
    rw [strs_plain ws]
    rfl
theorem hearer_eok : (D.ctup [.str "taken", .str "lost"]).eok = true := by decide +kernel
theorem sender_eok : (D.ctup [.str "done", .str "again"]).eok = true := by decide +kernel
theorem follower_ok {d : D} {n : Int} {ws : List Str} (h : d.ty.isSome = true) (hd : d.eok = true) (hw : (D.ctup (ws.map D.str)).eok = true) : Φ_is_follower [d, .int n, .ctup (ws.map D.str)] = .ret false (.bl (folD d n ws)) [.non, .non, .non] := by
  have hn := number_ok h
  cases d with
  | ob _ _ => cases h
  | cl _ => cases h
  | str s =>
    have e : oInT false (.str s) (.ctup (ws.map D.str)) = some (.bl (decide (s ∈ ws))) := by
      unfold oInT
      simp only []
      rw [if_pos (by rw [hd, hw]; rfl), str_any]
      rfl
    unfold Φ_is_follower F_is_follower
    walk_at "ev"
    rfl
  | int i =>
    unfold Φ_is_follower F_is_follower
    cases h0 : decide (0 ≤ i) <;> (walk_at "ev"; simp only [folD, h0]; rfl)
  | _ => rfl
/-- a value that may stand within a machine: its kind is known, and it can be compared -/
def D.fine (d : D) : Bool := d.ty.isSome && d.eok
theorem in01 (i : Int) : oInT true (.int i) (.tup [.int 0, .int 1]) = some (.bl (!(decide (i = 0) || decide (i = 1)))) := by
  have e1 : (D.int i).eok = true := by simp [D.eok, D.plain, SeqAt.shaped, D.py, PyData.canLay0, PyData.depth]
  have e2 : (D.tup [.int 0, .int 1]).eok = true := by decide +kernel
  have e3 : ∀ a b : Int, PyData.eqv (.int a) (.int b) = decide (a = b) := fun a b => by
    have : PyData.eqv (.int a) (.int b) = (a == b) := by first | rfl | simp [PyData.eqv]
    rw [this]
    by_cases h : a = b
    · subst h
      simp
    · simp [h]
  unfold oInT
  simp only []
  rw [if_pos (by rw [e1, e2]; rfl)]
  simp only [List.any_cons, List.any_nil, D.py, e3, Bool.or_false, if_true]
  congr 3
  rw [show decide (0 = i) = decide (i = 0) from decide_eq_decide.mpr eq_comm, show decide (1 = i) = decide (i = 1) from decide_eq_decide.mpr eq_comm]
def rowOkD (d : D) (n : Int) (ws : List Str) : Bool := match d with
  | .tup [.int p, a, b] => (decide (p = 0) || decide (p = 1)) && folD a n ws && folD b n ws
  | _ => false
theorem len3 (p a b x : D) (l : List D) : decide (((p :: a :: b :: x :: l).length : Int) = 3) = false := by
  apply decide_eq_false
  simp only [List.length_cons]
  omega
theorem row_ok {d : D} {n : Int} {ws : List Str} (h : d.ty.isSome = true) (hc : ∀ l, d ≠ .ctup l) (hd : ∀ l, d = .tup l → ∀ x, x ∈ l → D.fine x = true) (hw : (D.ctup (ws.map D.str)).eok = true) :
    Φ_is_row [d, .int n, .ctup (ws.map D.str)] = .ret false (.bl (rowOkD d n ws)) [.non, .non, .non] := by
  cases d with
  | ob _ _ => cases h
  | cl _ => cases h
  | ctup l => exact absurd rfl (hc l)
  | tup l =>
    have hx := hd l rfl
    match l, hx with
    | [], _ => rfl
    | [_], _ =>
      unfold Φ_is_row F_is_row
      walk_at "e0"
      simp [rowOkD]
    | [_, _], _ =>
      unfold Φ_is_row F_is_row
      walk_at "e0"
      simp [rowOkD]
    | p :: a :: b :: x :: l, _ =>
      have e := len3 p a b x l
      simp only [List.length_cons] at e
      unfold Φ_is_row F_is_row
      walk_at "ev"
      simp only [rowOkD]
    | [p, a, b], hx =>
      have hp := hx p (by simp)
      have ha := hx a (by simp)
      have hb := hx b (by simp)
      unfold D.fine at hp ha hb
      rw [Bool.and_eq_true] at hp ha hb
      have e1 := number_ok hp.1
      have e2 := follower_ok (n := n) ha.1 ha.2 hw
      have e3 := follower_ok (n := n) hb.1 hb.2 hw
      cases p with
      | int i =>
        have e4 := in01 i
        replace e1 : Φ_is_number [.int i] = .ret false (.bl true) [.non] := e1
        unfold Φ_is_row F_is_row
        cases h0 : decide (i = 0) <;> cases h1 : decide (i = 1) <;> cases h2 : folD a n ws <;> cases h3 : folD b n ws <;> (rw [h0, h1] at e4; rw [h2] at e2; rw [h3] at e3; simp only [rowOkD, h0, h1, h2, h3]; clear h0 h1 h2 h3 hx; walk_at "ev")
      | _ =>
        unfold Φ_is_row F_is_row
        simp only [isNum] at e1
        walk_at "ev"
        simp only [rowOkD]
  | _ => rfl
end Pg

set_option Elab.async false
set_option linter.all false
set_option maxRecDepth 100000
set_option maxHeartbeats 1000000
/-! MeB: machines checked, what rows lead to, ends made. -/
namespace Vl
open PySem L2 Sb
/-- a while loop -/
theorem while_ok {t : Ev Bool} {s : Ev Fl} {Q : List Slot → Prop} (I : Nat → List Slot → Prop) (h : ∀ m env, I m env → (∃ e1, t env = .val false e1 ∧ Q e1) ∨ ∃ e1 e2 m', t env = .val true e1 ∧ (s e1 = .val .nx e2 ∨ s e1 = .val .ct e2) ∧ m' < m ∧ I m' e2) : ∀ n m env, I m env → m < n → ∃ e', wloop t s n env = .val .nx e' ∧ Q e' := by
  intro n
  induction n with
  | zero => exact fun m env _ hl => absurd hl (Nat.not_lt_zero _)
  | succ n ih =>
    intro m env hi hl
    rcases h m env hi with ⟨e1, h1, q⟩ | ⟨e1, e2, m', h1, h2, hm, hi'⟩
    · refine ⟨e1, ?_, q⟩
      unfold wloop
      rw [h1]
      rfl
    · obtain ⟨e', g1, g2⟩ := ih m' e2 hi' (by omega)
      refine ⟨e', ?_, g2⟩
      unfold wloop
      rw [h1]
      simp only [Out.bind, if_true]
      rcases h2 with h2 | h2 <;> (rw [h2]; exact g1)
/-- a comprehension -/
theorem comp_ok {p : Pat} {ft : Ev Bool} {fe : Ev D} {vs : List Nat} {ds : List D} (I : Nat → List D → List Slot → Prop)
    (h : ∀ i d acc env, ds[i]? = some d → I i acc env → ∃ e1 b e2, p.put d (wipeE env vs) = some e1 ∧ ft e1 = .val b e2 ∧ (b = true → ∃ y e3, fe e2 = .val y e3 ∧ acc.length < sizeLine ∧ I (i + 1) (acc ++ [y]) e3) ∧ (b = false → I (i + 1) acc e2))
    {env : List Slot} (h0 : I 0 [] env) : ∃ acc env', compF p ft fe vs ds [] env = .val acc env' ∧ I ds.length acc env' := by
  have key : ∀ (rest : List D) (k : Nat) (acc : List D) (env : List Slot), ds.drop k = rest → I k acc env → ∃ acc' env', compF p ft fe vs rest acc env = .val acc' env' ∧ I (k + rest.length) acc' env' := by
    intro rest
    induction rest with
    | nil => exact fun k acc env _ hi => ⟨acc, env, rfl, hi⟩
    | cons d rest ih =>
      intro k acc env e hi
      have hd : ds[k]? = some d := by
        have := congrArg (fun l => l[0]?) e
        simpa using this
      have e' : ds.drop (k + 1) = rest := by
        have := congrArg List.tail e
        simpa using this
      obtain ⟨e1, b, e2, g1, g2, g3, g4⟩ := h k d acc env hd hi
      have hk : k + (d :: rest).length = k + 1 + rest.length := by
        rw [List.length_cons]
        omega
      rw [hk]
      cases b with
      | true =>
        obtain ⟨y, e3, g5, g6, g7⟩ := g3 rfl
        obtain ⟨acc', env', r1, r2⟩ := ih (k + 1) _ e3 e' g7
        refine ⟨acc', env', ?_, r2⟩
        unfold compF
        rw [g1]
        simp only [g2, Out.bind, if_true, g5]
        rw [if_pos g6]
        exact r1
      | false =>
        obtain ⟨acc', env', r1, r2⟩ := ih (k + 1) _ e2 e' (g4 rfl)
        refine ⟨acc', env', ?_, r2⟩
        unfold compF
        rw [g1]
        simp only [g2, Out.bind, Bool.false_eq_true, if_false]
        exact r1
  obtain ⟨acc', env', r1, r2⟩ := key ds 0 [] env (by simp) h0
  exact ⟨acc', env', r1, by simpa using r2⟩
theorem getD'_some {κ : Type} [DecidableEq κ] {k : κ} : ∀ {ks : List κ} {l : List D}, ks.length = l.length → ((getD' ks l k).isSome = true ↔ k ∈ ks)
  | [], [], _ => by simp [getD']
  | y :: ks, d :: l, h => by
    have ih := getD'_some (k := k) (ks := ks) (l := l) (by simpa using h)
    unfold getD' at ih ⊢
    rw [List.zip_cons_cons, List.find?_cons]
    by_cases e : y = k
    · subst e
      simp
    · have e2 : ¬ k = y := fun z => e z.symm
      simp only [e, decide_false, List.mem_cons, e2, false_or]
      exact ih
theorem putKs_new {κ : Type} [DecidableEq κ] {k : κ} {ks : List κ} {l : List D} {d : D} (h : k ∉ ks) : putKs ks l k d = (ks ++ [k], l ++ [d]) := by
  unfold putKs
  rw [if_neg]
  simp only [List.any_eq_true, decide_eq_true_eq, not_exists, not_and]
  intro x hx e
  exact h (by rw [← e]; exact hx)
end Vl
namespace Pg
open PySem L2 Sb Vl
local macro_rules | `(tactic| walk_at "ev") => `(tactic| simp only [Vl.runV, Vl.mkEnv, Vl.Res.of, Vl.Res.quiet, Vl.Res.val, Vl.ioAt, Vl.fSeq, Vl.fIte, Vl.fAsg, Vl.fVar, Vl.fC, Vl.fOp, Vl.fIxO, Vl.fPutL, Vl.fRet, Vl.fRetW, Vl.fRetO, Vl.fRetN, Vl.fLst, Vl.fTup, Vl.fB, Vl.fTru, Vl.fCB, Vl.fCons, Vl.fNil, Vl.o1, Vl.o2, Vl.oI, Vl.oIC, Vl.slotL, Vl.slotO, Vl.own, Vl.Pat.put, Vl.Pat.puts, Vl.Out.bind, Vl.Out.opt, Vl.fNx, Vl.fCt, Vl.fBk, Vl.fPar, Vl.fCall, Vl.fCallN, Vl.fSetN, Vl.gIo, Vl.gCn, Vl.gNl, Vl.agDs, Vl.agD, Vl.ioSlots, Vl.putAll, Vl.put1, Vl.Ag.isIo, Vl.fAnd, Vl.fOr, Vl.fNot, Vl.fAndT, Vl.fOrT, Vl.fNotT, Vl.fChain, Vl.fIsi, Vl.fIsi2, Vl.fUn, Vl.fDrop, Vl.fApp, Vl.fLenO, Vl.fMake, Vl.fRaise, Vl.fFldS, Vl.fDInO, Vl.fDPutO, Vl.fDGetO, Vl.fPop, Vl.fListD, Vl.fDOne, Vl.fDNewK, Vl.isi, Vl.bOf, Vl.sOf, Vl.fFmt, Vl.fJs, Vl.oFmt, Vl.fM1, Vl.fM0, Vl.fFor, Vl.fItems, Vl.fEnum, Vl.fSl, Vl.fPart, Vl.fNoPart, Vl.fNeg, Vl.fAugI, Vl.fInO, Vl.fYes, Vl.fTruO, Vl.fComp, Vl.fCompO, Vl.calmE, Vl.wipeE, Vl.backE, Vl.oIsN, Vl.oStr, ↓Vl.fRng1_one, Vl.oLen_lst, Vl.oLen_tup, Vl.oLen_ctup, Vl.oLen_scr, Vl.oIx_lst, Vl.oIx_tup, Vl.oIx_ctup, Vl.oIx_scr, Vl.oInt_int, Vl.oInt_bl, Vl.oAbs_int, Vl.oMax_int, Vl.oMin_int, Vl.oTuple_lst, Vl.oTuple_tup, Vl.oList_lst, Vl.oList_tup, Vl.oNeg_int, Vl.ty_non, Vl.ty_bl, Vl.ty_int, Vl.ty_str, Vl.ty_tup, Vl.ty_ctup, Vl.ty_lst, Vl.ty_dk, Vl.ty_scr, Vl.tru_non, Vl.tru_bl, Vl.tru_int, Vl.tru_lst, Vl.tru_tup, Vl.oEqS_int, Vl.oEqS_str, Vl.oEqS_bl, Vl.oCat_lst, Vl.oCatA_tup, Vl.oSlT_tup, Vl.oSlL_lst, Vl.keyOf_int, Vl.keyOf_str, Vl.isNon_non, Vl.isNon_bl, Vl.isNon_int, Vl.isNon_str, Vl.isNon_tup, Vl.isNon_lst, Vl.oFld_ob, Vl.isOb_ob', Vl.atI_0, Vl.atI_1, Vl.atI_2, Vl.atI_3, Vl.ixN_0, Vl.ixN_1, Vl.ixN_2, List.zipWith, List.replicate, List.append, List.cons_append, List.nil_append, List.append_nil, List.getElem?_cons_zero, List.getElem?_cons_succ, List.getElem?_nil, List.set_cons_zero, List.set_cons_succ, List.length_cons, List.length_nil, List.map_cons, List.map_nil, List.nodup_cons, List.nodup_nil, List.not_mem_nil, List.reverse_cons, List.reverse_nil, Bool.false_eq_true, ite_true, ite_false, if_true, if_false, reduceIte, decide_true, decide_false, Bool.true_and, Bool.and_true, Bool.false_and, Bool.and_false, Bool.not_true, Bool.not_false, Bool.or_false, Bool.false_or, Bool.or_true, Bool.true_or, reduceCtorEq, not_false_eq_true, not_true_eq_false, and_self, and_true, true_and, or_false, or_true, Nat.reduceSub, Nat.reduceAdd, Nat.reduceLeDiff, Nat.zero_add, Option.map_some, Option.map_none, Option.bind_some, Option.bind_none, Option.isSome_some, Option.isSome_none, List.mem_cons, List.all_cons, List.all_nil, eq_self, Int.cast_ofNat_Int, Int.natCast_zero, Int.natCast_one, Int.reduceEq, Int.reduceLT, Int.reduceLE, Int.reduceAdd, Int.reduceSub, Int.reduceNeg, Nat.reduceEqDiff, *])
local macro_rules | `(tactic| walk_at "e0") => `(tactic| simp only [Vl.runV, Vl.mkEnv, Vl.Res.of, Vl.Res.quiet, Vl.Res.val, Vl.ioAt, Vl.fSeq, Vl.fIte, Vl.fAsg, Vl.fVar, Vl.fC, Vl.fOp, Vl.fIxO, Vl.fPutL, Vl.fRet, Vl.fRetW, Vl.fRetO, Vl.fRetN, Vl.fLst, Vl.fTup, Vl.fB, Vl.fTru, Vl.fCB, Vl.fCons, Vl.fNil, Vl.o1, Vl.o2, Vl.oI, Vl.oIC, Vl.slotL, Vl.slotO, Vl.own, Vl.Pat.put, Vl.Pat.puts, Vl.Out.bind, Vl.Out.opt, Vl.fNx, Vl.fCt, Vl.fBk, Vl.fPar, Vl.fCall, Vl.fCallN, Vl.fSetN, Vl.gIo, Vl.gCn, Vl.gNl, Vl.agDs, Vl.agD, Vl.ioSlots, Vl.putAll, Vl.put1, Vl.Ag.isIo, Vl.fAnd, Vl.fOr, Vl.fNot, Vl.fAndT, Vl.fOrT, Vl.fNotT, Vl.fChain, Vl.fIsi, Vl.fIsi2, Vl.fUn, Vl.fDrop, Vl.fApp, Vl.fLenO, Vl.fMake, Vl.fRaise, Vl.fFldS, Vl.fDInO, Vl.fDPutO, Vl.fDGetO, Vl.fPop, Vl.fListD, Vl.fDOne, Vl.fDNewK, Vl.isi, Vl.bOf, Vl.sOf, Vl.fFmt, Vl.fJs, Vl.oFmt, Vl.fM1, Vl.fM0, Vl.fFor, Vl.fItems, Vl.fEnum, Vl.fSl, Vl.fPart, Vl.fNoPart, Vl.fNeg, Vl.fAugI, Vl.fInO, Vl.fYes, Vl.fTruO, Vl.fComp, Vl.fCompO, Vl.calmE, Vl.wipeE, Vl.backE, Vl.oIsN, Vl.oStr, ↓Vl.fRng1_one, Vl.oLen_lst, Vl.oLen_tup, Vl.oLen_ctup, Vl.oLen_scr, Vl.oIx_lst, Vl.oIx_tup, Vl.oIx_ctup, Vl.oIx_scr, Vl.oInt_int, Vl.oInt_bl, Vl.oAbs_int, Vl.oMax_int, Vl.oMin_int, Vl.oTuple_lst, Vl.oTuple_tup, Vl.oList_lst, Vl.oList_tup, Vl.oNeg_int, Vl.ty_non, Vl.ty_bl, Vl.ty_int, Vl.ty_str, Vl.ty_tup, Vl.ty_ctup, Vl.ty_lst, Vl.ty_dk, Vl.ty_scr, Vl.tru_non, Vl.tru_bl, Vl.tru_int, Vl.tru_lst, Vl.tru_tup, Vl.oEqS_int, Vl.oEqS_str, Vl.oEqS_bl, Vl.oCat_lst, Vl.oCatA_tup, Vl.oSlT_tup, Vl.oSlL_lst, Vl.keyOf_int, Vl.keyOf_str, Vl.isNon_non, Vl.isNon_bl, Vl.isNon_int, Vl.isNon_str, Vl.isNon_tup, Vl.isNon_lst, Vl.oFld_ob, Vl.isOb_ob', Vl.atI_0, Vl.atI_1, Vl.atI_2, Vl.atI_3, Vl.ixN_0, Vl.ixN_1, Vl.ixN_2, List.zipWith, List.replicate, List.append, List.cons_append, List.nil_append, List.append_nil, List.getElem?_cons_zero, List.getElem?_cons_succ, List.getElem?_nil, List.set_cons_zero, List.set_cons_succ, List.length_cons, List.length_nil, List.map_cons, List.map_nil, List.nodup_cons, List.nodup_nil, List.not_mem_nil, List.reverse_cons, List.reverse_nil, Bool.false_eq_true, ite_true, ite_false, if_true, if_false, reduceIte, decide_true, decide_false, Bool.true_and, Bool.and_true, Bool.false_and, Bool.and_false, Bool.not_true, Bool.not_false, Bool.or_false, Bool.false_or, Bool.or_true, Bool.true_or, reduceCtorEq, not_false_eq_true, not_true_eq_false, and_self, and_true, true_and, or_false, or_true, Nat.reduceSub, Nat.reduceAdd, Nat.reduceLeDiff, Nat.zero_add, Option.map_some, Option.map_none, Option.bind_some, Option.bind_none, Option.isSome_some, Option.isSome_none, List.mem_cons, List.all_cons, List.all_nil, eq_self, Int.cast_ofNat_Int, Int.natCast_zero, Int.natCast_one, Int.reduceEq, Int.reduceLT, Int.reduceLE, Int.reduceAdd, Int.reduceSub, Int.reduceNeg, Nat.reduceEqDiff])
theorem plD_key (p : Pl) : keyOf (plD p) = some p.key := by cases p <;> rfl
theorem plD_ty (p : Pl) : (plD p).ty.isSome = true := by cases p <;> rfl
theorem rowD_ty (r : Row) : (rowD r).ty.isSome = true := rfl
def okWords (ws : List Str) : Prop := ws = hearerWords ∨ ws = senderWords
theorem words_eok {ws : List Str} (h : okWords ws) : (D.ctup (ws.map D.str)).eok = true := by
  rcases h with rfl | rfl
  · exact hearer_eok
  · exact sender_eok
theorem int_eok (i : Int) : (D.int i).eok = true := by simp [D.eok, D.plain, SeqAt.shaped, D.py, PyData.canLay0, PyData.depth]
theorem plD_eok {n : Nat} {ws : List Str} (h : okWords ws) {p : Pl} (hp : p.Ok n ws) : (plD p).eok = true := by
  cases p with
  | num i => exact int_eok _
  | word s =>
    have hs : s ∈ ws := hp
    have key : ∀ y : Str, y = "taken" ∨ y = "lost" ∨ y = "done" ∨ y = "again" → (D.str y).eok = true := by
      rintro y (rfl | rfl | rfl | rfl) <;> decide +kernel
    refine key s ?_
    rcases h with rfl | rfl <;> (simp only [hearerWords, senderWords, List.mem_cons, List.not_mem_nil, or_false] at hs; rcases hs with rfl | rfl <;> simp)
theorem fol_ok {n : Nat} {ws : List Str} {p : Pl} (hp : p.Ok n ws) : folD (plD p) (n : Int) ws = true := by
  cases p with
  | num i =>
    have hi : i < n := hp
    show (decide ((0 : Int) ≤ (i : Int)) && decide ((i : Int) < (n : Int))) = true
    rw [decide_eq_true (by omega), decide_eq_true (by omega)]
    rfl
  | word s => exact decide_eq_true hp
theorem row_good {n : Nat} {ws : List Str} (hw : okWords ws) {r : Row} (hr : r.Ok n ws) : Φ_is_row [rowD r, .int (n : Int), .ctup (ws.map D.str)] = .ret false (.bl true) [.non, .non, .non] := by
  have e : rowOkD (rowD r) (n : Int) ws = true := by
    show ((decide ((r.put : Int) = 0) || decide ((r.put : Int) = 1)) && folD (plD r.a) n ws && folD (plD r.b) n ws) = true
    rw [fol_ok hr.2.1, fol_ok hr.2.2]
    rcases hr.1 with h | h <;> rw [h] <;> rfl
  rw [row_ok (rowD_ty r) (fun l z => by cases z) (fun l z x hx => ?_) (words_eok hw), e]
  cases z
  simp only [List.mem_cons, List.not_mem_nil, or_false] at hx
  unfold D.fine
  rcases hx with rfl | rfl | rfl
  · rw [int_eok]
    rfl
  · rw [plD_eok hw hr.2.1, plD_ty]
    rfl
  · rw [plD_eok hw hr.2.2, plD_ty]
    rfl
/-- a list or a tuple of rows -/
def IsRows (m : D) (rs : List Row) : Prop := m = .lst (rowsD rs) ∨ m = .tup (rowsD rs)
theorem IsRows.len {m : D} {rs : List Row} (h : IsRows m rs) : oLen m = some (.int (rs.length : Int)) := by
  rcases h with rfl | rfl <;> simp [oLen, rowsD]
theorem rowsD_len (rs : List Row) : (rowsD rs).length = rs.length := by simp [rowsD]
theorem rowsD_get {rs : List Row} {i : Nat} {d : D} (h : (rowsD rs)[i]? = some d) : ∃ r, rs[i]? = some r ∧ d = rowD r := by
  unfold rowsD at h
  rw [List.getElem?_map] at h
  cases e : rs[i]? with
  | none =>
    rw [e] at h
    cases h
  | some r =>
    rw [e] at h
    exact ⟨r, rfl, (Option.some.inj h).symm⟩
theorem checked {part : Str} {m : D} {rs : List Row} {few most : Nat} {ws : List Str} (hm : IsRows m rs) (hw : okWords ws) (h1 : few ≤ rs.length) (h2 : rs.length ≤ most) (hr : ∀ r, r ∈ rs → r.Ok rs.length ws) :
    Φ_check_machine [.str part, m, .int (few : Int), .int (most : Int), .ctup (ws.map D.str)] = .ret false .non [.non, .non, .non, .non, .non] := by
  have hl := hm.len
  have t1 : decide ((few : Int) ≤ (rs.length : Int)) = true := decide_eq_true (by omega)
  have t2 : decide ((rs.length : Int) ≤ (most : Int)) = true := decide_eq_true (by omega)
  have ty : m.ty = some .list ∨ m.ty = some .tuple := by rcases hm with rfl | rfl <;> simp [D.ty]
  obtain ⟨env', e, hi⟩ := loop_ok (p := .tp [.nm 5, .nm 6]) (s := B_check_machine_1) (ds := enumD 0 (rowsD rs)) (fun i env => ∃ s5 s6, env = [.sh (.str part), .sh m, .sh (.int (few : Int)), .sh (.int (most : Int)), .sh (.ctup (ws.map D.str)), s5, s6])
    (fun i d env hd hi => by
      obtain ⟨s5, s6, rfl⟩ := hi
      rw [enumD_get] at hd
      cases e : (rowsD rs)[i]? with
      | none =>
        rw [e] at hd
        cases hd
      | some y =>
        rw [e] at hd
        cases hd
        obtain ⟨r, hr1, rfl⟩ := rowsD_get e
        have hg := row_good hw (hr r (List.mem_of_getElem? hr1))
        refine ⟨_, [.sh (.str part), .sh m, .sh (.int (few : Int)), .sh (.int (most : Int)), .sh (.ctup (ws.map D.str)), .sh (.int ((0 + i : Nat) : Int)), .sh (rowD r)], rfl, .inl ?_, _, _, rfl⟩
        unfold B_check_machine_1
        walk_at "ev") (env := [.sh (.str part), .sh m, .sh (.int (few : Int)), .sh (.int (most : Int)), .sh (.ctup (ws.map D.str)), .un, .un]) ⟨_, _, rfl⟩
  obtain ⟨s5, s6, rfl⟩ := hi
  unfold Φ_check_machine F_check_machine L_check_machine_1
  rcases hm with rfl | rfl
  · walk_at "ev"
  · walk_at "ev"
/-- the rows with their part and number -/
def numbD (part : Str) (rs : List Row) : List D := (enumD 0 (rowsD rs)).map fun d => match d with
  | .tup [i, r] => .tup [.str part, i, r]
  | d => d
theorem numbered {part : Str} {m : D} {rs : List Row} (hm : IsRows m rs) (hs : rs.length ≤ 100) : Φ_numbered_rows [.str part, m] = .ret true (.lst (numbD part rs)) [.non, .non] := by
  have key : ∃ acc env', compF (.tp [.nm 2, .nm 3]) fYes E_numbered_rows_1 [2, 3] (enumD 0 (rowsD rs)) [] [.sh (.str part), .sh m, .un, .un] = .val acc env' ∧ acc = (numbD part rs).take (enumD 0 (rowsD rs)).length ∧ ∃ s2 s3, env' = [.sh (.str part), .sh m, s2, s3] := by
    refine comp_ok (fun i acc env => acc = (numbD part rs).take i ∧ ∃ s2 s3, env = [.sh (.str part), .sh m, s2, s3]) (fun i d acc env hd hi => ?_) ⟨by simp, _, _, rfl⟩
    obtain ⟨rfl, s2, s3, rfl⟩ := hi
    have hd0 := hd
    rw [enumD_get] at hd
    cases e : (rowsD rs)[i]? with
    | none =>
      rw [e] at hd
      cases hd
    | some y =>
      rw [e] at hd
      cases hd
      have hn : (numbD part rs)[i]? = some (.tup [.str part, .int ((0 + i : Nat) : Int), y]) := by
        unfold numbD
        rw [List.getElem?_map, hd0]
        rfl
      have hlen : i < (numbD part rs).length := (List.getElem?_eq_some_iff.mp hn).1
      have hl2 : (numbD part rs).length = rs.length := by
        unfold numbD
        rw [List.length_map, enumD_len, rowsD_len]
      refine ⟨_, true, _, rfl, rfl, fun _ => ⟨.tup [.str part, .int ((0 + i : Nat) : Int), y], _, rfl, ?_, ?_, _, _, rfl⟩, fun z => by cases z⟩
      · rw [List.length_take]
        have : (200 : Nat) ≤ sizeLine := by decide
        omega
      · rw [List.take_add_one, hn]
        rfl
  obtain ⟨acc, env', e, ha, s2, s3, rfl⟩ := key
  have hl : (numbD part rs).length = (enumD 0 (rowsD rs)).length := by
    unfold numbD
    rw [List.length_map]
  rw [← hl, List.take_length] at ha
  subst ha
  unfold Φ_numbered_rows F_numbered_rows
  rcases hm with rfl | rfl
  · walk_at "ev"
  · walk_at "ev"
/-- where heard bits lead -/
def St (m : D) (b : Nat) (fs : List Pl) (as : List Nat) (env : List Slot) : Prop := ∃ l s4 s5, env = [.sh m, .sh (.int (b : Int)), .ow (.dk (fs.map Pl.key) l), .ow (.lst (as.map fun (i : Nat) => D.int (i : Int))), s4, s5] ∧ l.length = fs.length
theorem mem_key {p : Pl} {fs : List Pl} : p.key ∈ fs.map Pl.key ↔ p ∈ fs := by
  rw [List.mem_map]
  constructor
  · rintro ⟨q, hq, e⟩
    rw [← Pl.key_inj e]
    exact hq
  · exact fun h => ⟨p, h, rfl⟩
theorem reach_step {m : D} {rows : List Row} {b i j : Nat} {fs : List Pl} {as : List Nat} {r : Row} {p : Pl} {ws : List Str} {s4 : Slot} {l : List D} (hsz : rows.length ≤ 100) (hl : l.length = fs.length) (I : RInv rows b fs as (some (i, j))) (hr : rows[i]? = some r) (hp : (j = 0 ∧ p = r.a) ∨ (j = 1 ∧ p = r.b)) (hok : r.Ok rows.length ws)
    (c1 : as.length + 1 ≤ nums fs) (c2 : fs.length + 2 * as.length + 2 ≤ 1 + 2 * nums fs + j) :
    ∃ fs' as' env', (B_reached_1 [.sh m, .sh (.int (b : Int)), .ow (.dk (fs.map Pl.key) l), .ow (.lst (as.map fun (i : Nat) => D.int (i : Int))), s4, .sh (plD p)] = .val .nx env' ∨ B_reached_1 [.sh m, .sh (.int (b : Int)), .ow (.dk (fs.map Pl.key) l), .ow (.lst (as.map fun (i : Nat) => D.int (i : Int))), s4, .sh (plD p)] = .val .ct env') ∧
      (∃ l', env' = [.sh m, .sh (.int (b : Int)), .ow (.dk (fs'.map Pl.key) l'), .ow (.lst (as'.map fun (i : Nat) => D.int (i : Int))), s4, .sh (plD p)] ∧ l'.length = fs'.length) ∧ RInv rows b fs' as' (some (i, j + 1)) ∧
      2 * (rows.length - nums fs') + as'.length ≤ 2 * (rows.length - nums fs) + as.length ∧ as'.length + 1 ≤ nums fs' ∧ fs'.length + 2 * as'.length + 2 ≤ 1 + 2 * nums fs' + (j + 1) := by
  have nle := nums_le I.nd I.small
  have hsm : ∀ k, p = .num k → k < rows.length := fun k e => by
    rcases hp with ⟨_, e2⟩ | ⟨_, e2⟩
    · have := hok.2.1
      rw [← e2, e] at this
      exact this
    · have := hok.2.2
      rw [← e2, e] at this
      exact this
  have hin := getD'_some (k := p.key) (ks := fs.map Pl.key) (l := l) (by simp [hl])
  rw [mem_key] at hin
  have hkey := plD_key p
  have hnum := number_ok (plD_ty p)
  by_cases hf : p ∈ fs
  · have hin := hin.mpr hf
    refine ⟨fs, as, _, .inr ?_, ⟨l, rfl, hl⟩, I.skip hr hp hf, Nat.le_refl _, c1, by omega⟩
    unfold B_reached_1
    simp only [fSeq, fIte, fB, fDInO, fVar, List.getElem?_cons_succ, List.getElem?_cons_zero, Out.bind, slotO, oDGet, hkey, Option.map_some, hin, if_true, Bool.false_eq_true, if_false, fCt]
  · have hin : (getD' (fs.map Pl.key) l p.key).isSome = false := Bool.eq_false_iff.mpr fun z => hf (hin.mp z)
    have I6 := I.add hr hp hf hsm
    have nle6 := nums_le I6.nd I6.small
    rw [nums_snoc] at nle6
    have hput := putKs_new (k := p.key) (ks := fs.map Pl.key) (l := l) (d := .bl true) (fun z => hf (mem_key.mp z))
    have big : l.length < sizeLine := by
      have : (1000 : Nat) < sizeLine := by decide
      omega
    cases p with
    | num z =>
      have big2 : (as.map fun (i : Nat) => D.int (i : Int)).length < sizeLine := by
        have : (1000 : Nat) < sizeLine := by decide
        rw [List.length_map]
        omega
      refine ⟨fs ++ [Pl.num z], as ++ [z], [.sh m, .sh (.int (b : Int)), .ow (.dk ((fs ++ [Pl.num z]).map Pl.key) (l ++ [.bl true])), .ow (.lst ((as ++ [z]).map fun (i : Nat) => D.int (i : Int))), s4, .sh (plD (.num z))], .inl ?_, ⟨l ++ [.bl true], rfl, by simp [hl]⟩, I6, ?_, ?_, ?_⟩
      · unfold B_reached_1
        have hnum : Φ_is_number [plD (Pl.num z)] = .ret false (.bl true) [.non] := hnum
        rw [List.map_append, List.map_append]
        simp only [List.length_map] at big2
        simp only [fSeq, fIte, fB, fDInO, fDPutO, fApp, fNx, fC, fVar, fCall, gCn, gNl, agDs, agD, ioSlots, putAll, Ag.isIo, own, slotL, List.set_cons_succ, List.set_cons_zero, List.getElem?_cons_succ, List.getElem?_cons_zero, Out.bind, slotO, oDGet, oDPut, hkey, Option.map_some, hin, if_true, Bool.false_eq_true, if_false, big, hput, hnum,
          List.map_cons, List.map_nil, List.append_nil, List.nodup_nil, and_self, List.length_map, big2]
        rfl
      · rw [nums_snoc]
        simp at nle6 ⊢
        omega
      · rw [nums_snoc]
        simp
        omega
      · rw [nums_snoc]
        simp
        omega
    | word z =>
      refine ⟨fs ++ [Pl.word z], as, [.sh m, .sh (.int (b : Int)), .ow (.dk ((fs ++ [Pl.word z]).map Pl.key) (l ++ [.bl true])), .ow (.lst (as.map fun (i : Nat) => D.int (i : Int))), s4, .sh (plD (.word z))], .inl ?_, ⟨l ++ [.bl true], rfl, by simp [hl]⟩, I6, ?_, ?_, ?_⟩
      · unfold B_reached_1
        have hnum : Φ_is_number [plD (Pl.word z)] = .ret false (.bl false) [.non] := hnum
        rw [List.map_append]
        simp only [fSeq, fIte, fB, fDInO, fDPutO, fApp, fNx, fC, fVar, fCall, gCn, gNl, agDs, agD, ioSlots, putAll, Ag.isIo, own, slotL, List.set_cons_succ, List.set_cons_zero, List.getElem?_cons_succ, List.getElem?_cons_zero, Out.bind, slotO, oDGet, oDPut, hkey, Option.map_some, hin, if_true, Bool.false_eq_true, if_false, big, hput, hnum,
          List.map_cons, List.map_nil, List.append_nil, List.nodup_nil, and_self, List.length_map]
      · rw [nums_snoc]
        simp
      · rw [nums_snoc]
        simpa using c1
      · rw [nums_snoc]
        simp
        omega
theorem cut_row (r : Row) : cutD [D.int (r.put : Int), plD r.a, plD r.b] (some 1) none = [plD r.a, plD r.b] := rfl
theorem rows_at {m : D} {rows : List Row} (hm : IsRows m rows) {i : Nat} {r : Row} (hr : rows[i]? = some r) : oIx m (.int (i : Int)) = some (rowD r) := by
  have : atI (rowsD rows) (i : Int) = some (rowD r) := by
    rw [atI_ge _ i _ rfl]
    unfold rowsD
    rw [List.getElem?_map, hr]
    rfl
  rcases hm with rfl | rfl <;> exact this
theorem loop_two {p : Pat} {s : Ev Fl} {d1 d2 : D} {e0 e1 e2 e3 e4 : List Slot} (h1 : p.put d1 e0 = some e1) (h2 : s e1 = .val .nx e2 ∨ s e1 = .val .ct e2) (h3 : p.put d2 e2 = some e3) (h4 : s e3 = .val .nx e4 ∨ s e3 = .val .ct e4) : loopF p s [d1, d2] e0 = .val .nx e4 := by
  have a1 : loopF p s [d2] e2 = .val .nx e4 := by
    unfold loopF
    rw [h3]
    rcases h4 with h4 | h4 <;> (simp only [h4]; rfl)
  unfold loopF
  rw [h1]
  rcases h2 with h2 | h2 <;> (simp only [h2]; exact a1)
theorem reached_ok {m : D} {rows : List Row} {b : Nat} {ws : List Str} (hm : IsRows m rows) (hb : b < rows.length) (hsz : rows.length ≤ 100) (hok : ∀ r, r ∈ rows → r.Ok rows.length ws) :
    ∃ fs : List Pl, Φ_reached [m, .int (b : Int)] = .ret true (.lst (fs.map plD)) [.non, .non] ∧ fs.Nodup ∧ ∀ x, x ∈ fs ↔ Reach rows b x := by
  obtain ⟨env', e, fs, ⟨l, s4, s5, rfl, hl⟩, I⟩ := while_ok (t := T_reached_1) (s := B_reached_2) (Q := fun env => ∃ fs, St m b fs [] env ∧ RInv rows b fs [] none)
    (fun k env => ∃ fs as, St m b fs as env ∧ RInv rows b fs as none ∧ k = 2 * (rows.length - nums fs) + as.length ∧ as.length ≤ nums fs ∧ fs.length + 2 * as.length ≤ 1 + 2 * nums fs) (fun k env hi => by
      obtain ⟨fs, as, ⟨l, s4, s5, rfl, hl⟩, I, rfl, c1, c2⟩ := hi
      rcases List.eq_nil_or_concat as with z | ⟨as', i, z⟩
      · subst z
        exact .inl ⟨_, rfl, fs, ⟨l, s4, s5, rfl, hl⟩, I⟩
      · try rw [List.concat_eq_append] at z
        subst z
        refine .inr ?_
        have hi : i < rows.length := I.small i (I.sub i (by simp))
        obtain ⟨r, hr⟩ : ∃ r, rows[i]? = some r := ⟨rows[i], List.getElem?_eq_getElem hi⟩
        have hrok := hok r (List.mem_of_getElem? hr)
        obtain ⟨fs1, as1, env1, b1, ⟨l1, rfl, hl1⟩, I1, m1, d1, d2⟩ := reach_step (m := m) (s4 := .sh (.int (i : Int))) hsz hl I.pop hr (.inl ⟨rfl, rfl⟩) hrok (by simpa using c1) (by simp at c2; omega)
        obtain ⟨fs2, as2, env2, b2, ⟨l2, rfl, hl2⟩, I2, m2, d3, d4⟩ := reach_step (m := m) (s4 := .sh (.int (i : Int))) hsz hl1 I1 hr (.inr ⟨rfl, rfl⟩) hrok d1 d2
        have hrow := rows_at hm hr
        have hloop := loop_two (p := .nm 5) (s := B_reached_1) (e0 := [.sh m, .sh (.int (b : Int)), .ow (.dk (fs.map Pl.key) l), .ow (.lst (as'.map fun (i : Nat) => D.int (i : Int))), .sh (.int (i : Int)), s5]) rfl b1 rfl b2
        refine ⟨[.sh m, .sh (.int (b : Int)), .ow (.dk (fs.map Pl.key) l), .ow (.lst ((as' ++ [i]).map fun (i : Nat) => D.int (i : Int))), s4, s5], _, 2 * (rows.length - nums fs2) + as2.length, ?_, .inl ?_, ?_, fs2, as2, ⟨l2, .sh (.int (i : Int)), .sh (plD r.b), rfl, hl2⟩, I2.done, rfl, by omega, by omega⟩
        · simp only [T_reached_1, fTruO, slotO, List.getElem?_cons_succ, List.getElem?_cons_zero, tru_lst, Out.opt, List.map_append, List.map_cons, List.map_nil]
          cases as' <;> rfl
        · have g1 : ((as' ++ [i]).map fun (i : Nat) => D.int (i : Int))[((as' ++ [i]).map fun (i : Nat) => D.int (i : Int)).length - 1]? = some (.int (i : Int)) := by simp
          have g2 : ((as' ++ [i]).map fun (i : Nat) => D.int (i : Int)).dropLast = as'.map fun (i : Nat) => D.int (i : Int) := by
            rw [List.map_append, List.map_cons, List.map_nil, List.dropLast_concat]
          unfold B_reached_2 L_reached_1
          simp only [fSeq, fAsg, fPop, slotL, List.getElem?_cons_succ, List.getElem?_cons_zero, g1, g2, own, Out.bind, Pat.put, List.set_cons_succ, List.set_cons_zero, fFor, fItems, fSl, fOp, fVar, hrow, Out.opt, fPart, fC, fNoPart, oSlT_tup, rowD, cut_row, hloop, Bool.false_eq_true, if_false]
        · rw [List.length_append, List.length_singleton]
          omega) 100000 (2 * (rows.length - nums [Pl.num b]) + 1) [.sh m, .sh (.int (b : Int)), .ow (.dk ([Pl.num b].map Pl.key) [.bl true]), .ow (.lst ([b].map fun (i : Nat) => D.int (i : Int))), .un, .un]
      ⟨[.num b], [b], ⟨_, _, _, rfl, rfl⟩, RInv.begin hb, rfl, Nat.le_refl 1, Nat.le_refl 3⟩ (by omega)
  refine ⟨fs, ?_, I.nd, I.all⟩
  have hk : (fs.map Pl.key).map keyD = fs.map plD := by
    rw [List.map_map]
    apply List.map_congr_left
    intro p _
    cases p <;> rfl
  unfold Φ_reached F_reached L_reached_2
  simp only [List.map_cons, List.map_nil, Pl.key] at e
  walk_at "ev"
end Pg

set_option Elab.async false
set_option linter.all false
set_option maxRecDepth 100000
set_option maxHeartbeats 1000000
/-! MeC: ends as data: made, compared, asked for rows, written. -/
namespace Pg
open PySem L2 Sb Vl
local macro_rules | `(tactic| walk_at "ev") => `(tactic| simp only [Vl.runV, Vl.mkEnv, Vl.Res.of, Vl.Res.quiet, Vl.Res.val, Vl.ioAt, Vl.fSeq, Vl.fIte, Vl.fAsg, Vl.fVar, Vl.fC, Vl.fOp, Vl.fIxO, Vl.fPutL, Vl.fRet, Vl.fRetW, Vl.fRetO, Vl.fRetN, Vl.fLst, Vl.fTup, Vl.fB, Vl.fTru, Vl.fCB, Vl.fCons, Vl.fNil, Vl.o1, Vl.o2, Vl.oI, Vl.oIC, Vl.slotL, Vl.slotO, Vl.own, Vl.Pat.put, Vl.Pat.puts, Vl.Out.bind, Vl.Out.opt, Vl.fNx, Vl.fCt, Vl.fBk, Vl.fPar, Vl.fCall, Vl.fCallN, Vl.fSetN, Vl.gIo, Vl.gCn, Vl.gNl, Vl.agDs, Vl.agD, Vl.ioSlots, Vl.putAll, Vl.put1, Vl.Ag.isIo, Vl.fAnd, Vl.fOr, Vl.fNot, Vl.fAndT, Vl.fOrT, Vl.fNotT, Vl.fChain, Vl.fIsi, Vl.fIsi2, Vl.fUn, Vl.fDrop, Vl.fApp, Vl.fLenO, Vl.fMake, Vl.fRaise, Vl.fFldS, Vl.fDInO, Vl.fDPutO, Vl.fDGetO, Vl.fPop, Vl.fListD, Vl.fDOne, Vl.fDNewK, Vl.isi, Vl.bOf, Vl.sOf, Vl.fFmt, Vl.fJs, Vl.oFmt, Vl.fM1, Vl.fM0, Vl.fFor, Vl.fItems, Vl.fEnum, Vl.fSl, Vl.fPart, Vl.fNoPart, Vl.fNeg, Vl.fAugI, Vl.fInO, Vl.fYes, Vl.fTruO, Vl.fComp, Vl.fCompO, Vl.calmE, Vl.wipeE, Vl.backE, Vl.oIsN, Vl.oStr, ↓Vl.fRng1_one, Vl.oLen_lst, Vl.oLen_tup, Vl.oLen_ctup, Vl.oLen_scr, Vl.oIx_lst, Vl.oIx_tup, Vl.oIx_ctup, Vl.oIx_scr, Vl.oInt_int, Vl.oInt_bl, Vl.oAbs_int, Vl.oMax_int, Vl.oMin_int, Vl.oTuple_lst, Vl.oTuple_tup, Vl.oList_lst, Vl.oList_tup, Vl.oNeg_int, Vl.ty_non, Vl.ty_bl, Vl.ty_int, Vl.ty_str, Vl.ty_tup, Vl.ty_ctup, Vl.ty_lst, Vl.ty_dk, Vl.ty_scr, Vl.tru_non, Vl.tru_bl, Vl.tru_int, Vl.tru_lst, Vl.tru_tup, Vl.oEqS_int, Vl.oEqS_str, Vl.oEqS_bl, Vl.oCat_lst, Vl.oCatA_tup, Vl.oSlT_tup, Vl.oSlL_lst, Vl.keyOf_int, Vl.keyOf_str, Vl.isNon_non, Vl.isNon_bl, Vl.isNon_int, Vl.isNon_str, Vl.isNon_tup, Vl.isNon_lst, Vl.oFld_ob, Vl.isOb_ob', Vl.atI_0, Vl.atI_1, Vl.atI_2, Vl.atI_3, Vl.ixN_0, Vl.ixN_1, Vl.ixN_2, List.zipWith, List.replicate, List.append, List.cons_append, List.nil_append, List.append_nil, List.getElem?_cons_zero, List.getElem?_cons_succ, List.getElem?_nil, List.set_cons_zero, List.set_cons_succ, List.length_cons, List.length_nil, List.map_cons, List.map_nil, List.nodup_cons, List.nodup_nil, List.not_mem_nil, List.reverse_cons, List.reverse_nil, Bool.false_eq_true, ite_true, ite_false, if_true, if_false, reduceIte, decide_true, decide_false, Bool.true_and, Bool.and_true, Bool.false_and, Bool.and_false, Bool.not_true, Bool.not_false, Bool.or_false, Bool.false_or, Bool.or_true, Bool.true_or, reduceCtorEq, not_false_eq_true, not_true_eq_false, and_self, and_true, true_and, or_false, or_true, Nat.reduceSub, Nat.reduceAdd, Nat.reduceLeDiff, Nat.zero_add, Option.map_some, Option.map_none, Option.bind_some, Option.bind_none, Option.isSome_some, Option.isSome_none, List.mem_cons, List.all_cons, List.all_nil, eq_self, Int.cast_ofNat_Int, Int.natCast_zero, Int.natCast_one, Int.reduceEq, Int.reduceLT, Int.reduceLE, Int.reduceAdd, Int.reduceSub, Int.reduceNeg, Nat.reduceEqDiff, *])
local macro_rules | `(tactic| walk_at "e0") => `(tactic| simp only [Vl.runV, Vl.mkEnv, Vl.Res.of, Vl.Res.quiet, Vl.Res.val, Vl.ioAt, Vl.fSeq, Vl.fIte, Vl.fAsg, Vl.fVar, Vl.fC, Vl.fOp, Vl.fIxO, Vl.fPutL, Vl.fRet, Vl.fRetW, Vl.fRetO, Vl.fRetN, Vl.fLst, Vl.fTup, Vl.fB, Vl.fTru, Vl.fCB, Vl.fCons, Vl.fNil, Vl.o1, Vl.o2, Vl.oI, Vl.oIC, Vl.slotL, Vl.slotO, Vl.own, Vl.Pat.put, Vl.Pat.puts, Vl.Out.bind, Vl.Out.opt, Vl.fNx, Vl.fCt, Vl.fBk, Vl.fPar, Vl.fCall, Vl.fCallN, Vl.fSetN, Vl.gIo, Vl.gCn, Vl.gNl, Vl.agDs, Vl.agD, Vl.ioSlots, Vl.putAll, Vl.put1, Vl.Ag.isIo, Vl.fAnd, Vl.fOr, Vl.fNot, Vl.fAndT, Vl.fOrT, Vl.fNotT, Vl.fChain, Vl.fIsi, Vl.fIsi2, Vl.fUn, Vl.fDrop, Vl.fApp, Vl.fLenO, Vl.fMake, Vl.fRaise, Vl.fFldS, Vl.fDInO, Vl.fDPutO, Vl.fDGetO, Vl.fPop, Vl.fListD, Vl.fDOne, Vl.fDNewK, Vl.isi, Vl.bOf, Vl.sOf, Vl.fFmt, Vl.fJs, Vl.oFmt, Vl.fM1, Vl.fM0, Vl.fFor, Vl.fItems, Vl.fEnum, Vl.fSl, Vl.fPart, Vl.fNoPart, Vl.fNeg, Vl.fAugI, Vl.fInO, Vl.fYes, Vl.fTruO, Vl.fComp, Vl.fCompO, Vl.calmE, Vl.wipeE, Vl.backE, Vl.oIsN, Vl.oStr, ↓Vl.fRng1_one, Vl.oLen_lst, Vl.oLen_tup, Vl.oLen_ctup, Vl.oLen_scr, Vl.oIx_lst, Vl.oIx_tup, Vl.oIx_ctup, Vl.oIx_scr, Vl.oInt_int, Vl.oInt_bl, Vl.oAbs_int, Vl.oMax_int, Vl.oMin_int, Vl.oTuple_lst, Vl.oTuple_tup, Vl.oList_lst, Vl.oList_tup, Vl.oNeg_int, Vl.ty_non, Vl.ty_bl, Vl.ty_int, Vl.ty_str, Vl.ty_tup, Vl.ty_ctup, Vl.ty_lst, Vl.ty_dk, Vl.ty_scr, Vl.tru_non, Vl.tru_bl, Vl.tru_int, Vl.tru_lst, Vl.tru_tup, Vl.oEqS_int, Vl.oEqS_str, Vl.oEqS_bl, Vl.oCat_lst, Vl.oCatA_tup, Vl.oSlT_tup, Vl.oSlL_lst, Vl.keyOf_int, Vl.keyOf_str, Vl.isNon_non, Vl.isNon_bl, Vl.isNon_int, Vl.isNon_str, Vl.isNon_tup, Vl.isNon_lst, Vl.oFld_ob, Vl.isOb_ob', Vl.atI_0, Vl.atI_1, Vl.atI_2, Vl.atI_3, Vl.ixN_0, Vl.ixN_1, Vl.ixN_2, List.zipWith, List.replicate, List.append, List.cons_append, List.nil_append, List.append_nil, List.getElem?_cons_zero, List.getElem?_cons_succ, List.getElem?_nil, List.set_cons_zero, List.set_cons_succ, List.length_cons, List.length_nil, List.map_cons, List.map_nil, List.nodup_cons, List.nodup_nil, List.not_mem_nil, List.reverse_cons, List.reverse_nil, Bool.false_eq_true, ite_true, ite_false, if_true, if_false, reduceIte, decide_true, decide_false, Bool.true_and, Bool.and_true, Bool.false_and, Bool.and_false, Bool.not_true, Bool.not_false, Bool.or_false, Bool.false_or, Bool.or_true, Bool.true_or, reduceCtorEq, not_false_eq_true, not_true_eq_false, and_self, and_true, true_and, or_false, or_true, Nat.reduceSub, Nat.reduceAdd, Nat.reduceLeDiff, Nat.zero_add, Option.map_some, Option.map_none, Option.bind_some, Option.bind_none, Option.isSome_some, Option.isSome_none, List.mem_cons, List.all_cons, List.all_nil, eq_self, Int.cast_ofNat_Int, Int.natCast_zero, Int.natCast_one, Int.reduceEq, Int.reduceLT, Int.reduceLE, Int.reduceAdd, Int.reduceSub, Int.reduceNeg, Nat.reduceEqDiff])
/-- an end as data -/
def endD (hs ss : List Row) : D := .ob "End" [.tup (rowsD hs), .tup (rowsD ss), .tup (numbD "hearer" hs ++ numbD "sender" ss)]
/-- data that can be compared, so many levels deep -/
def eokN (n : Nat) (d : D) : Prop := d.plain = true ∧ d.py.canLay0 = true ∧ d.py.depth ≤ n
theorem eokN.eok {n : Nat} {d : D} (h : eokN n d) (hn : n ≤ 64) : d.eok = true := by
  obtain ⟨h1, h2, h3⟩ := h
  unfold D.eok SeqAt.shaped
  rw [h1, h2, decide_eq_true (by omega)]
  rfl
theorem eokN.of {d : D} (h : d.eok = true) : eokN 64 d := by
  unfold D.eok SeqAt.shaped at h
  simp only [Bool.and_eq_true, decide_eq_true_eq] at h
  exact ⟨h.1, h.2.1, h.2.2⟩
theorem eokN.more {m n : Nat} {d : D} (h : eokN m d) (hn : m ≤ n) : eokN n d := ⟨h.1, h.2.1, Nat.le_trans h.2.2 hn⟩
theorem eokN_all {n : Nat} : ∀ {l : List D}, (∀ d, d ∈ l → eokN n d) → D.plainAll l = true ∧ PyData.canLayAll0 (D.pyAll l) = true ∧ PyData.depthAll (D.pyAll l) ≤ n
  | [], _ => ⟨rfl, by simp [D.pyAll, PyData.canLayAll0], by simp [D.pyAll, PyData.depthAll]⟩
  | d :: l, h => by
    obtain ⟨a1, a2, a3⟩ := h d (by simp)
    obtain ⟨b1, b2, b3⟩ := eokN_all (l := l) fun x hx => h x (List.mem_cons_of_mem _ hx)
    refine ⟨?_, ?_, ?_⟩
    · simp only [D.plainAll, a1, b1, Bool.and_self]
    · simp only [D.pyAll, PyData.canLayAll0, a2, b2, Bool.and_self]
    · simp only [D.pyAll, PyData.depthAll]
      omega
theorem eokN_lst {n : Nat} {l : List D} (h : ∀ d, d ∈ l → eokN n d) : eokN (n + 1) (.lst l) := by
  obtain ⟨h1, h2, h3⟩ := eokN_all h
  exact ⟨by simpa only [D.plain] using h1, by simpa only [D.py, PyData.canLay0] using h2, by simp only [D.py, PyData.depth]; omega⟩
theorem eokN_tup {n : Nat} {l : List D} (h : ∀ d, d ∈ l → eokN n d) : eokN (n + 1) (.tup l) := by
  obtain ⟨h1, h2, h3⟩ := eokN_all h
  exact ⟨by simpa only [D.plain] using h1, by simpa only [D.py, PyData.canLay0] using h2, by simp only [D.py, PyData.depth]; omega⟩
theorem eokN_int (i : Int) : eokN 0 (.int i) := ⟨rfl, by simp [D.py, PyData.canLay0], by simp [D.py, PyData.depth]⟩
theorem eokN_bl (i : Bool) : eokN 0 (.bl i) := ⟨rfl, by simp [D.py, PyData.canLay0], by simp [D.py, PyData.depth]⟩
theorem eokN_non : eokN 0 .non := ⟨rfl, by simp [D.py, PyData.canLay0], by simp [D.py, PyData.depth]⟩
theorem eokN_str {s : Str} (h : PyData.strOk s = true) : eokN 0 (.str s) := ⟨rfl, by simpa [D.py, PyData.canLay0] using h, by simp [D.py, PyData.depth]⟩
theorem plD_eokN {n : Nat} {ws : List Str} (h : okWords ws) {p : Pl} (hp : p.Ok n ws) : eokN 0 (plD p) := by
  have := eokN.of (plD_eok h hp)
  cases p with
  | num i => exact eokN_int _
  | word s => exact ⟨this.1, this.2.1, by simp [plD, D.py, PyData.depth]⟩
theorem rowD_eokN {n : Nat} {ws : List Str} (h : okWords ws) {r : Row} (hr : r.Ok n ws) : eokN 1 (rowD r) := eokN_tup fun d hd => by
  simp only [List.mem_cons, List.not_mem_nil, or_false] at hd
  rcases hd with rfl | rfl | rfl
  · exact eokN_int _
  · exact plD_eokN h hr.2.1
  · exact plD_eokN h hr.2.2
theorem rowsD_eokN {n : Nat} {ws : List Str} (h : okWords ws) {rs : List Row} (hr : ∀ r, r ∈ rs → r.Ok n ws) : ∀ d, d ∈ rowsD rs → eokN 1 d := fun d hd => by
  obtain ⟨r, hr1, rfl⟩ := List.mem_map.mp hd
  exact rowD_eokN h (hr r hr1)
/-! equal data -/
theorem eqv_plD (p q : Pl) : PyData.eqv (plD p).py (plD q).py = decide (p = q) := by
  cases p with
  | num i =>
    cases q with
    | num j =>
      have : PyData.eqv (plD (.num i)).py (plD (.num j)).py = ((i : Int) == (j : Int)) := by simp [plD, D.py, PyData.eqv]
      rw [this]
      by_cases h : i = j
      · subst h
        simp
      · have h2 : ¬ (i : Int) = (j : Int) := by omega
        simp [h, h2]
    | word s => simp [plD, D.py, PyData.eqv]
  | word a =>
    cases q with
    | num j => simp [plD, D.py, PyData.eqv]
    | word b =>
      have : PyData.eqv (plD (.word a)).py (plD (.word b)).py = (a == b) := by simp [plD, D.py, PyData.eqv]
      rw [this]
      by_cases h : a = b
      · subst h
        simp
      · simp [h]
theorem eqv_rowD (p q : Row) : PyData.eqv (rowD p).py (rowD q).py = decide (p = q) := by
  have e : PyData.eqv (rowD p).py (rowD q).py = (((p.put : Int) == (q.put : Int)) && (PyData.eqv (plD p.a).py (plD q.a).py && (PyData.eqv (plD p.b).py (plD q.b).py && true))) := by
    simp [rowD, D.py, D.pyAll, PyData.eqv, PyData.eqvAll]
  rw [e, eqv_plD, eqv_plD]
  obtain ⟨a, b, c⟩ := p
  obtain ⟨a', b', c'⟩ := q
  by_cases h1 : a = a'
  · subst h1
    by_cases h2 : b = b'
    · subst h2
      by_cases h3 : c = c'
      · subst h3
        simp
      · simp [h3]
    · simp [h2]
  · have h2 : ¬ (a : Int) = (a' : Int) := by omega
    simp [h1, h2]
theorem eqv_rowsD : ∀ ps qs : List Row, PyData.eqvAll (D.pyAll (rowsD ps)) (D.pyAll (rowsD qs)) = decide (ps = qs)
  | [], [] => by simp [rowsD, D.pyAll, PyData.eqvAll]
  | [], _ :: _ => by simp [rowsD, D.pyAll, PyData.eqvAll]
  | _ :: _, [] => by simp [rowsD, D.pyAll, PyData.eqvAll]
  | p :: ps, q :: qs => by
    have ih := eqv_rowsD ps qs
    have e : PyData.eqvAll (D.pyAll (rowsD (p :: ps))) (D.pyAll (rowsD (q :: qs))) = (PyData.eqv (rowD p).py (rowD q).py && PyData.eqvAll (D.pyAll (rowsD ps)) (D.pyAll (rowsD qs))) := by
      simp [rowsD, D.pyAll, PyData.eqvAll]
    rw [e, ih, eqv_rowD]
    by_cases h1 : p = q
    · by_cases h2 : ps = qs <;> simp [h1, h2]
    · simp [h1]
theorem taken_in {fs : List Pl} (hf : ∀ p, p ∈ fs → eokN 0 (plD p)) : oIn false (.str "taken") (.lst (fs.map plD)) = some (.bl (decide (Pl.word "taken" ∈ fs))) := by
  have e1 : (D.str "taken").eok = true := by decide +kernel
  have e2 : (D.lst (fs.map plD)).eok = true := (eokN_lst (n := 0) fun d hd => by
    obtain ⟨p, hp, rfl⟩ := List.mem_map.mp hd
    exact hf p hp).eok (by omega)
  unfold oIn
  simp only []
  rw [if_pos (by rw [e1, e2]; rfl)]
  simp only [Bool.false_eq_true, if_false]
  congr 2
  have e3 : ∀ p : Pl, PyData.eqv (plD p).py (D.str "taken").py = decide (p = .word "taken") := fun p => eqv_plD p (.word "taken")
  rw [List.any_map]
  rw [Bool.eq_iff_iff, List.any_eq_true, decide_eq_true_eq]
  constructor
  · rintro ⟨p, hp, h⟩
    have h := (e3 p).symm.trans h
    rw [← of_decide_eq_true h]
    exact hp
  · exact fun h => ⟨_, h, (e3 _).trans (by simp)⟩
theorem reach_ok {rows : List Row} {ws : List Str} {b : Nat} {p : Pl} (h : ∀ r, r ∈ rows → r.Ok rows.length ws) (hb : b < rows.length) (hp : Reach rows b p) : p.Ok rows.length ws := by
  cases hp with
  | base => exact hb
  | step _ f =>
    obtain ⟨r, hr, e⟩ := f
    have := h r (List.mem_of_getElem? hr)
    rcases e with rfl | rfl
    · exact this.2.1
    · exact this.2.2
theorem made {h1 h2 : D} {hs ss : List Row} (m1 : IsRows h1 hs) (m2 : IsRows h2 ss) (k1 : HearerOk hs) (k2 : SenderOk ss) : Φ_End_init [.ob "End" [], h1, h2] = .ret false .non [endD hs ss, .non, .non] := by
  obtain ⟨a1, a2, a3, a4⟩ := k1
  obtain ⟨b1, b2, b3⟩ := k2
  have c1 := checked (part := "hearer") (few := 2) (most := 100) m1 (.inl rfl) a1 a2 a3
  have c2 := checked (part := "sender") (few := 1) (most := 100) m2 (.inr rfl) b1 b2 b3
  obtain ⟨fs, r1, r2, r3⟩ := reached_ok (b := 1) m1 (by omega) a2 a3
  have t1 := taken_in (fs := fs) (fun p hp => by
    have ok := reach_ok a3 (by omega) ((r3 p).mp hp)
    exact plD_eokN (.inl rfl) ok)
  have t2 : decide (Pl.word "taken" ∈ fs) = false := decide_eq_false fun z => a4 ((r3 _).mp z)
  rw [t2] at t1
  have n1 := numbered (part := "hearer") m1 a2
  have n2 := numbered (part := "sender") m2 b2
  have c1 : Φ_check_machine [.str "hearer", h1, .int 2, .int 100, .ctup [.str "taken", .str "lost"]] = .ret false .non [.non, .non, .non, .non, .non] := c1
  have c2 : Φ_check_machine [.str "sender", h2, .int 1, .int 100, .ctup [.str "done", .str "again"]] = .ret false .non [.non, .non, .non, .non, .non] := c2
  have r1 : Φ_reached [h1, .int 1] = .ret true (.lst (fs.map plD)) [.non, .non] := r1
  have l1 : ∀ (part : Str) (rs : List Row), (numbD part rs).length = rs.length := fun part rs => by
    unfold numbD
    rw [List.length_map, enumD_len, rowsD_len]
  have sz : ((numbD "hearer" hs).length + (numbD "sender" ss).length ≤ sizeLine) = True := small3 _ (by rw [l1, l1]; omega)
  have tu : ∀ {m : D} {rs : List Row}, IsRows m rs → oTuple m = some (.tup (rowsD rs)) := fun h => by rcases h with rfl | rfl <;> rfl
  have u1 := tu m1
  have u2 := tu m2
  clear a1 a2 a3 a4 b1 b2 b3 r3 t2 l1
  unfold Φ_End_init F_End_init
  walk_at "ev"
  rfl
theorem rows_tup_eok {n : Nat} {ws : List Str} (h : okWords ws) {rs : List Row} (hr : ∀ r, r ∈ rs → r.Ok n ws) : (D.tup (rowsD rs)).eok = true := (eokN_tup (rowsD_eokN h hr)).eok (by omega)
theorem oEq_rows {n n' : Nat} {ws : List Str} (h : okWords ws) {ps qs : List Row} (hp : ∀ r, r ∈ ps → r.Ok n ws) (hq : ∀ r, r ∈ qs → r.Ok n' ws) : oEq false (.tup (rowsD ps)) (.tup (rowsD qs)) = some (.bl (decide (ps = qs))) := by
  unfold oEq
  rw [if_pos (by rw [rows_tup_eok h hp, rows_tup_eok h hq]; rfl)]
  have : PyData.eqv (D.tup (rowsD ps)).py (D.tup (rowsD qs)).py = decide (ps = qs) := by
    rw [← eqv_rowsD]
    simp [D.py, PyData.eqv]
  rw [this]
  rfl
/-- two ends compared -/
theorem end_eq {hs ss hs' ss' : List Row} (k1 : HearerOk hs) (k2 : SenderOk ss) (k3 : HearerOk hs') (k4 : SenderOk ss') : Φ_End_eq [endD hs ss, endD hs' ss'] = .ret false (.bl (decide (hs = hs' ∧ ss = ss'))) [.non, .non] := by
  have e1 := oEq_rows (.inl rfl) k1.2.2.1 k3.2.2.1
  have e2 := oEq_rows (.inr rfl) k2.2.2 k4.2.2
  have e3 : oIsO "End" (endD hs' ss') = some (.bl true) := rfl
  unfold Φ_End_eq F_End_eq
  unfold endD at *
  by_cases h1 : hs = hs'
  · by_cases h2 : ss = ss'
    · rw [decide_eq_true h1] at e1
      rw [decide_eq_true h2] at e2
      rw [decide_eq_true (⟨h1, h2⟩ : hs = hs' ∧ ss = ss')]
      clear k1 k2 k3 k4 h1 h2
      walk_at "ev"
    · rw [decide_eq_true h1] at e1
      rw [decide_eq_false h2] at e2
      rw [decide_eq_false (fun z => h2 z.2 : ¬ (hs = hs' ∧ ss = ss'))]
      clear k1 k2 k3 k4 h1 h2
      walk_at "ev"
  · rw [decide_eq_false h1] at e1
    rw [decide_eq_false (fun z => h1 z.1 : ¬ (hs = hs' ∧ ss = ss'))]
    clear k1 k2 k3 k4 h1
    walk_at "ev"
end Pg

set_option Elab.async false
set_option linter.all false
set_option maxRecDepth 100000
set_option maxHeartbeats 1000000
/-! MeD: what is drawn: numbers, rows, machines. -/
namespace Pg
open PySem L2 Sb Vl
local macro_rules | `(tactic| walk_at "ev") => `(tactic| simp only [Vl.runV, Vl.mkEnv, Vl.Res.of, Vl.Res.quiet, Vl.Res.val, Vl.ioAt, Vl.fSeq, Vl.fIte, Vl.fAsg, Vl.fVar, Vl.fC, Vl.fOp, Vl.fIxO, Vl.fPutL, Vl.fRet, Vl.fRetW, Vl.fRetO, Vl.fRetN, Vl.fLst, Vl.fTup, Vl.fB, Vl.fTru, Vl.fCB, Vl.fCons, Vl.fNil, Vl.o1, Vl.o2, Vl.oI, Vl.oIC, Vl.slotL, Vl.slotO, Vl.own, Vl.Pat.put, Vl.Pat.puts, Vl.Out.bind, Vl.Out.opt, Vl.fNx, Vl.fCt, Vl.fBk, Vl.fPar, Vl.fCall, Vl.fCallN, Vl.fSetN, Vl.gIo, Vl.gCn, Vl.gNl, Vl.agDs, Vl.agD, Vl.ioSlots, Vl.putAll, Vl.put1, Vl.Ag.isIo, Vl.fAnd, Vl.fOr, Vl.fNot, Vl.fAndT, Vl.fOrT, Vl.fNotT, Vl.fChain, Vl.fIsi, Vl.fIsi2, Vl.fUn, Vl.fDrop, Vl.fApp, Vl.fLenO, Vl.fMake, Vl.fRaise, Vl.fFldS, Vl.fDInO, Vl.fDPutO, Vl.fDGetO, Vl.fPop, Vl.fListD, Vl.fDOne, Vl.fDNewK, Vl.isi, Vl.bOf, Vl.sOf, Vl.fFmt, Vl.fJs, Vl.oFmt, Vl.fM1, Vl.fM0, Vl.fFor, Vl.fItems, Vl.fEnum, Vl.fSl, Vl.fPart, Vl.fNoPart, Vl.fNeg, Vl.fAugI, Vl.fInO, Vl.fYes, Vl.fTruO, Vl.fComp, Vl.fCompO, Vl.calmE, Vl.wipeE, Vl.backE, Vl.oIsN, Vl.oStr, ↓Vl.fRng1_one, Vl.oLen_lst, Vl.oLen_tup, Vl.oLen_ctup, Vl.oLen_scr, Vl.oIx_lst, Vl.oIx_tup, Vl.oIx_ctup, Vl.oIx_scr, Vl.oInt_int, Vl.oInt_bl, Vl.oAbs_int, Vl.oMax_int, Vl.oMin_int, Vl.oTuple_lst, Vl.oTuple_tup, Vl.oList_lst, Vl.oList_tup, Vl.oNeg_int, Vl.ty_non, Vl.ty_bl, Vl.ty_int, Vl.ty_str, Vl.ty_tup, Vl.ty_ctup, Vl.ty_lst, Vl.ty_dk, Vl.ty_scr, Vl.tru_non, Vl.tru_bl, Vl.tru_int, Vl.tru_lst, Vl.tru_tup, Vl.oEqS_int, Vl.oEqS_str, Vl.oEqS_bl, Vl.oCat_lst, Vl.oCatA_tup, Vl.oSlT_tup, Vl.oSlL_lst, Vl.keyOf_int, Vl.keyOf_str, Vl.isNon_non, Vl.isNon_bl, Vl.isNon_int, Vl.isNon_str, Vl.isNon_tup, Vl.isNon_lst, Vl.oFld_ob, Vl.isOb_ob', Vl.atI_0, Vl.atI_1, Vl.atI_2, Vl.atI_3, Vl.ixN_0, Vl.ixN_1, Vl.ixN_2, List.zipWith, List.replicate, List.append, List.cons_append, List.nil_append, List.append_nil, List.getElem?_cons_zero, List.getElem?_cons_succ, List.getElem?_nil, List.set_cons_zero, List.set_cons_succ, List.length_cons, List.length_nil, List.map_cons, List.map_nil, List.nodup_cons, List.nodup_nil, List.not_mem_nil, List.reverse_cons, List.reverse_nil, Bool.false_eq_true, ite_true, ite_false, if_true, if_false, reduceIte, decide_true, decide_false, Bool.true_and, Bool.and_true, Bool.false_and, Bool.and_false, Bool.not_true, Bool.not_false, Bool.or_false, Bool.false_or, Bool.or_true, Bool.true_or, reduceCtorEq, not_false_eq_true, not_true_eq_false, and_self, and_true, true_and, or_false, or_true, Nat.reduceSub, Nat.reduceAdd, Nat.reduceLeDiff, Nat.zero_add, Option.map_some, Option.map_none, Option.bind_some, Option.bind_none, Option.isSome_some, Option.isSome_none, List.mem_cons, List.all_cons, List.all_nil, eq_self, Int.cast_ofNat_Int, Int.natCast_zero, Int.natCast_one, Int.reduceEq, Int.reduceLT, Int.reduceLE, Int.reduceAdd, Int.reduceSub, Int.reduceNeg, Nat.reduceEqDiff, *])
local macro_rules | `(tactic| walk_at "e0") => `(tactic| simp only [Vl.runV, Vl.mkEnv, Vl.Res.of, Vl.Res.quiet, Vl.Res.val, Vl.ioAt, Vl.fSeq, Vl.fIte, Vl.fAsg, Vl.fVar, Vl.fC, Vl.fOp, Vl.fIxO, Vl.fPutL, Vl.fRet, Vl.fRetW, Vl.fRetO, Vl.fRetN, Vl.fLst, Vl.fTup, Vl.fB, Vl.fTru, Vl.fCB, Vl.fCons, Vl.fNil, Vl.o1, Vl.o2, Vl.oI, Vl.oIC, Vl.slotL, Vl.slotO, Vl.own, Vl.Pat.put, Vl.Pat.puts, Vl.Out.bind, Vl.Out.opt, Vl.fNx, Vl.fCt, Vl.fBk, Vl.fPar, Vl.fCall, Vl.fCallN, Vl.fSetN, Vl.gIo, Vl.gCn, Vl.gNl, Vl.agDs, Vl.agD, Vl.ioSlots, Vl.putAll, Vl.put1, Vl.Ag.isIo, Vl.fAnd, Vl.fOr, Vl.fNot, Vl.fAndT, Vl.fOrT, Vl.fNotT, Vl.fChain, Vl.fIsi, Vl.fIsi2, Vl.fUn, Vl.fDrop, Vl.fApp, Vl.fLenO, Vl.fMake, Vl.fRaise, Vl.fFldS, Vl.fDInO, Vl.fDPutO, Vl.fDGetO, Vl.fPop, Vl.fListD, Vl.fDOne, Vl.fDNewK, Vl.isi, Vl.bOf, Vl.sOf, Vl.fFmt, Vl.fJs, Vl.oFmt, Vl.fM1, Vl.fM0, Vl.fFor, Vl.fItems, Vl.fEnum, Vl.fSl, Vl.fPart, Vl.fNoPart, Vl.fNeg, Vl.fAugI, Vl.fInO, Vl.fYes, Vl.fTruO, Vl.fComp, Vl.fCompO, Vl.calmE, Vl.wipeE, Vl.backE, Vl.oIsN, Vl.oStr, ↓Vl.fRng1_one, Vl.oLen_lst, Vl.oLen_tup, Vl.oLen_ctup, Vl.oLen_scr, Vl.oIx_lst, Vl.oIx_tup, Vl.oIx_ctup, Vl.oIx_scr, Vl.oInt_int, Vl.oInt_bl, Vl.oAbs_int, Vl.oMax_int, Vl.oMin_int, Vl.oTuple_lst, Vl.oTuple_tup, Vl.oList_lst, Vl.oList_tup, Vl.oNeg_int, Vl.ty_non, Vl.ty_bl, Vl.ty_int, Vl.ty_str, Vl.ty_tup, Vl.ty_ctup, Vl.ty_lst, Vl.ty_dk, Vl.ty_scr, Vl.tru_non, Vl.tru_bl, Vl.tru_int, Vl.tru_lst, Vl.tru_tup, Vl.oEqS_int, Vl.oEqS_str, Vl.oEqS_bl, Vl.oCat_lst, Vl.oCatA_tup, Vl.oSlT_tup, Vl.oSlL_lst, Vl.keyOf_int, Vl.keyOf_str, Vl.isNon_non, Vl.isNon_bl, Vl.isNon_int, Vl.isNon_str, Vl.isNon_tup, Vl.isNon_lst, Vl.oFld_ob, Vl.isOb_ob', Vl.atI_0, Vl.atI_1, Vl.atI_2, Vl.atI_3, Vl.ixN_0, Vl.ixN_1, Vl.ixN_2, List.zipWith, List.replicate, List.append, List.cons_append, List.nil_append, List.append_nil, List.getElem?_cons_zero, List.getElem?_cons_succ, List.getElem?_nil, List.set_cons_zero, List.set_cons_succ, List.length_cons, List.length_nil, List.map_cons, List.map_nil, List.nodup_cons, List.nodup_nil, List.not_mem_nil, List.reverse_cons, List.reverse_nil, Bool.false_eq_true, ite_true, ite_false, if_true, if_false, reduceIte, decide_true, decide_false, Bool.true_and, Bool.and_true, Bool.false_and, Bool.and_false, Bool.not_true, Bool.not_false, Bool.or_false, Bool.false_or, Bool.or_true, Bool.true_or, reduceCtorEq, not_false_eq_true, not_true_eq_false, and_self, and_true, true_and, or_false, or_true, Nat.reduceSub, Nat.reduceAdd, Nat.reduceLeDiff, Nat.zero_add, Option.map_some, Option.map_none, Option.bind_some, Option.bind_none, Option.isSome_some, Option.isSome_none, List.mem_cons, List.all_cons, List.all_nil, eq_self, Int.cast_ofNat_Int, Int.natCast_zero, Int.natCast_one, Int.reduceEq, Int.reduceLT, Int.reduceLE, Int.reduceAdd, Int.reduceSub, Int.reduceNeg, Nat.reduceEqDiff])
/-- a source of numbers -/
def BagA (k : Int) (d : D) : Prop := ∃ g m c : Int, d = .lst [.int g, .int m, .int c] ∧ 0 ≤ g ∧ 0 ≤ m ∧ m < 2 ^ 90 ∧ 0 ≤ c ∧ c ≤ k
theorem BagA.more {k k' : Int} {d : D} (h : BagA k d) (hk : k ≤ k') : BagA k' d := by
  obtain ⟨g, m, c, e, h1, h2, h3, h4, h5⟩ := h
  exact ⟨g, m, c, e, h1, h2, h3, h4, by omega⟩
theorem take_ok (k n : Int) (d : D) (hb : BagA k d) (hk : k < 1000000) (hn : 0 < n) (hn2 : n < 1073741824) : ∃ r d', Φ_L_take [d, .int n] = .ret false (.int r) [d', .non] ∧ BagA (k + 1) d' ∧ 0 ≤ r ∧ r < n := by
  obtain ⟨g, m, c, rfl, hg, hm, hm2, hc, hck⟩ := hb
  have a1 := divOk hn hn2
  by_cases h0 : 0 < g
  · refine ⟨g % n, .lst [.int (g / n), .int m, .int c], ?_, ⟨g / n, m, c, rfl, Int.ediv_nonneg hg (by omega), hm, hm2, hc, by omega⟩, Int.emod_nonneg _ (by omega), Int.emod_lt_of_pos _ hn⟩
    unfold Φ_L_take F_L_take
    walk_at "ev"
  · have p90 : (2 : Int) ^ 90 = 1237940039285380274899124224 := by decide
    rw [p90] at hm2
    have e2 : cMul 1000003 (c + 1) = true := cMulL (by decide)
    have e4 : cMul 179424673 (c + 1) = true := cMulL (by decide)
    have a4 := divOk (j := 4096) (by decide) (by decide)
    have e5 := powOk (i := m + 1000003 * (c + 1)) (j := 3) 91 (by
      have p91 : (2 : Int) ^ 91 = 2475880078570760549798248448 := by decide
      rw [p91]
      omega) (by decide) (by decide)
    have q0 := Int.emod_nonneg ((m + 1000003 * (c + 1)) ^ (3 : Int).toNat) (b := 2305843009213693921) (by decide)
    have q1 := Int.emod_lt_of_pos ((m + 1000003 * (c + 1)) ^ (3 : Int).toNat) (b := 2305843009213693921) (by decide)
    have e6 := powOk (i := (m + 1000003 * (c + 1)) ^ (3 : Int).toNat % 2305843009213693921 + 179424673 * (c + 1)) (j := 2) 63 (by
      have p63 : (2 : Int) ^ 63 = 9223372036854775808 := by decide
      rw [p63]
      omega) (by decide) (by decide)
    have z1 : decide ((0 : Int) < 2305843009213693921) = true := rfl
    have z2 : decide ((0 : Int) < 2305843009213693951) = true := rfl
    have q2 := Int.emod_nonneg (((m + 1000003 * (c + 1)) ^ (3 : Int).toNat % 2305843009213693921 + 179424673 * (c + 1)) ^ (2 : Int).toNat) (b := 2305843009213693951) (by decide)
    have h0' : decide (0 < g) = false := decide_eq_false h0
    have hn' : decide (0 < n) = true := decide_eq_true hn
    refine ⟨((m + 1000003 * (c + 1)) ^ (3 : Int).toNat % 2305843009213693921 + 179424673 * (c + 1)) ^ (2 : Int).toNat % 2305843009213693951 / 4096 % n, .lst [.int g, .int m, .int (c + 1)], ?_, ⟨_, _, _, rfl, hg, hm, by rw [p90]; exact hm2, by omega, by omega⟩, Int.emod_nonneg _ (by omega), Int.emod_lt_of_pos _ hn⟩
    rw [Bool.and_eq_true] at e5 e6
    replace e5 := e5.2
    replace e6 := e6.2
    clear q0 q1 q2 hm hm2 hc hck hg p90 hk hn2 z1 z2 a4
    unfold Φ_L_take F_L_take
    walk_at "ev"
def wordsD (w0 w1 : Str) : D := .lst [.str w0, .str w1]
theorem place_ok (k : Int) (many : Nat) (w0 w1 : Str) (d : D) (hb : BagA k d) (hk : k < 900000) (hm : 1 ≤ many) (hm2 : many ≤ 1000) : ∃ p d', Φ_L_place [d, .int (many : Int), wordsD w0 w1] = .ret false (plD p) [d', .non, .non] ∧ BagA (k + 1) d' ∧ p.Ok many [w0, w1] := by
  obtain ⟨r, d', e, hb', r0, r1⟩ := take_ok k ((many : Int) + 4) d hb (by omega) (by omega) (by omega)
  by_cases h : r < (many : Int)
  · refine ⟨.num r.toNat, d', ?_, hb', ?_⟩
    · have e1 : plD (.num r.toNat) = .int r := by
        show D.int (r.toNat : Int) = _
        rw [Int.toNat_of_nonneg r0]
      rw [e1]
      have h' : decide (r < (many : Int)) = true := decide_eq_true h
      unfold Φ_L_place F_L_place
      walk_at "ev"
    · show r.toNat < many
      omega
  · have h' : decide (r < (many : Int)) = false := decide_eq_false h
    have h2 : r % 2 = 0 ∨ r % 2 = 1 := by omega
    have z : decide ((0 : Int) < 2) = true := rfl
    rcases h2 with h2 | h2
    · refine ⟨.word w0, d', ?_, hb', by simp [Pl.Ok]⟩
      unfold Φ_L_place F_L_place wordsD plD
      walk_at "ev"
    · refine ⟨.word w1, d', ?_, hb', by simp [Pl.Ok]⟩
      unfold Φ_L_place F_L_place wordsD plD
      walk_at "ev"
theorem elt_ok (k : Int) (many : Nat) (w0 w1 : Str) (d : D) (s : Slot) (hb : BagA k d) (hk : k < 850000) (hm : 1 ≤ many) (hm2 : many ≤ 1000) : ∃ r d', E_L_rows_1 [.io d, .sh (.int (many : Int)), .sh (wordsD w0 w1), s] = .val (rowD r) [.io d', .sh (.int (many : Int)), .sh (wordsD w0 w1), s] ∧ BagA (k + 3) d' ∧ r.Ok many [w0, w1] := by
  obtain ⟨v, d1, e1, hb1, v0, v1⟩ := take_ok k 2 d hb (by omega) (by omega) (by omega)
  obtain ⟨p, d2, e2, hb2, hp⟩ := place_ok (k + 1) many w0 w1 d1 hb1 (by omega) hm hm2
  obtain ⟨q, d3, e3, hb3, hq⟩ := place_ok (k + 1 + 1) many w0 w1 d2 hb2 (by omega) hm hm2
  have ev : rowD ⟨v.toNat, p, q⟩ = .tup [.int v, plD p, plD q] := by
    unfold rowD
    rw [Int.toNat_of_nonneg v0]
  refine ⟨⟨v.toNat, p, q⟩, d3, ?_, hb3.more (by omega), ?_, hp, hq⟩
  · rw [ev]
    clear hb hb1 hb2 hb3 hp hq v0 v1 hk hm hm2 ev
    unfold E_L_rows_1
    walk_at "ev"
  · show v.toNat = 0 ∨ v.toNat = 1
    omega
end Pg

set_option Elab.async false
set_option linter.all false
set_option maxRecDepth 100000
set_option maxHeartbeats 1000000
/-! MeE: rows drawn, and who is led to. -/
namespace Pg
open PySem L2 Sb Vl
local macro_rules | `(tactic| walk_at "ev") => `(tactic| simp only [Vl.runV, Vl.mkEnv, Vl.Res.of, Vl.Res.quiet, Vl.Res.val, Vl.ioAt, Vl.fSeq, Vl.fIte, Vl.fAsg, Vl.fVar, Vl.fC, Vl.fOp, Vl.fIxO, Vl.fPutL, Vl.fRet, Vl.fRetW, Vl.fRetO, Vl.fRetN, Vl.fLst, Vl.fTup, Vl.fB, Vl.fTru, Vl.fCB, Vl.fCons, Vl.fNil, Vl.o1, Vl.o2, Vl.oI, Vl.oIC, Vl.slotL, Vl.slotO, Vl.own, Vl.Pat.put, Vl.Pat.puts, Vl.Out.bind, Vl.Out.opt, Vl.fNx, Vl.fCt, Vl.fBk, Vl.fPar, Vl.fCall, Vl.fCallN, Vl.fSetN, Vl.gIo, Vl.gCn, Vl.gNl, Vl.agDs, Vl.agD, Vl.ioSlots, Vl.putAll, Vl.put1, Vl.Ag.isIo, Vl.fAnd, Vl.fOr, Vl.fNot, Vl.fAndT, Vl.fOrT, Vl.fNotT, Vl.fChain, Vl.fIsi, Vl.fIsi2, Vl.fUn, Vl.fDrop, Vl.fApp, Vl.fLenO, Vl.fMake, Vl.fRaise, Vl.fFldS, Vl.fDInO, Vl.fDPutO, Vl.fDGetO, Vl.fPop, Vl.fListD, Vl.fDOne, Vl.fDNewK, Vl.isi, Vl.bOf, Vl.sOf, Vl.fFmt, Vl.fJs, Vl.oFmt, Vl.fM1, Vl.fM0, Vl.fFor, Vl.fItems, Vl.fEnum, Vl.fSl, Vl.fPart, Vl.fNoPart, Vl.fNeg, Vl.fAugI, Vl.fInO, Vl.fYes, Vl.fTruO, Vl.fComp, Vl.fCompO, Vl.calmE, Vl.wipeE, Vl.backE, Vl.oIsN, Vl.oStr, ↓Vl.fRng1_one, Vl.oLen_lst, Vl.oLen_tup, Vl.oLen_ctup, Vl.oLen_scr, Vl.oIx_lst, Vl.oIx_tup, Vl.oIx_ctup, Vl.oIx_scr, Vl.oInt_int, Vl.oInt_bl, Vl.oAbs_int, Vl.oMax_int, Vl.oMin_int, Vl.oTuple_lst, Vl.oTuple_tup, Vl.oList_lst, Vl.oList_tup, Vl.oNeg_int, Vl.ty_non, Vl.ty_bl, Vl.ty_int, Vl.ty_str, Vl.ty_tup, Vl.ty_ctup, Vl.ty_lst, Vl.ty_dk, Vl.ty_scr, Vl.tru_non, Vl.tru_bl, Vl.tru_int, Vl.tru_lst, Vl.tru_tup, Vl.oEqS_int, Vl.oEqS_str, Vl.oEqS_bl, Vl.oCat_lst, Vl.oCatA_tup, Vl.oSlT_tup, Vl.oSlL_lst, Vl.keyOf_int, Vl.keyOf_str, Vl.isNon_non, Vl.isNon_bl, Vl.isNon_int, Vl.isNon_str, Vl.isNon_tup, Vl.isNon_lst, Vl.oFld_ob, Vl.isOb_ob', Vl.atI_0, Vl.atI_1, Vl.atI_2, Vl.atI_3, Vl.ixN_0, Vl.ixN_1, Vl.ixN_2, List.zipWith, List.replicate, List.append, List.cons_append, List.nil_append, List.append_nil, List.getElem?_cons_zero, List.getElem?_cons_succ, List.getElem?_nil, List.set_cons_zero, List.set_cons_succ, List.length_cons, List.length_nil, List.map_cons, List.map_nil, List.nodup_cons, List.nodup_nil, List.not_mem_nil, List.reverse_cons, List.reverse_nil, Bool.false_eq_true, ite_true, ite_false, if_true, if_false, reduceIte, decide_true, decide_false, Bool.true_and, Bool.and_true, Bool.false_and, Bool.and_false, Bool.not_true, Bool.not_false, Bool.or_false, Bool.false_or, Bool.or_true, Bool.true_or, reduceCtorEq, not_false_eq_true, not_true_eq_false, and_self, and_true, true_and, or_false, or_true, Nat.reduceSub, Nat.reduceAdd, Nat.reduceLeDiff, Nat.zero_add, Option.map_some, Option.map_none, Option.bind_some, Option.bind_none, Option.isSome_some, Option.isSome_none, List.mem_cons, List.all_cons, List.all_nil, eq_self, Int.cast_ofNat_Int, Int.natCast_zero, Int.natCast_one, Int.reduceEq, Int.reduceLT, Int.reduceLE, Int.reduceAdd, Int.reduceSub, Int.reduceNeg, Nat.reduceEqDiff, *])
local macro_rules | `(tactic| walk_at "e0") => `(tactic| simp only [Vl.runV, Vl.mkEnv, Vl.Res.of, Vl.Res.quiet, Vl.Res.val, Vl.ioAt, Vl.fSeq, Vl.fIte, Vl.fAsg, Vl.fVar, Vl.fC, Vl.fOp, Vl.fIxO, Vl.fPutL, Vl.fRet, Vl.fRetW, Vl.fRetO, Vl.fRetN, Vl.fLst, Vl.fTup, Vl.fB, Vl.fTru, Vl.fCB, Vl.fCons, Vl.fNil, Vl.o1, Vl.o2, Vl.oI, Vl.oIC, Vl.slotL, Vl.slotO, Vl.own, Vl.Pat.put, Vl.Pat.puts, Vl.Out.bind, Vl.Out.opt, Vl.fNx, Vl.fCt, Vl.fBk, Vl.fPar, Vl.fCall, Vl.fCallN, Vl.fSetN, Vl.gIo, Vl.gCn, Vl.gNl, Vl.agDs, Vl.agD, Vl.ioSlots, Vl.putAll, Vl.put1, Vl.Ag.isIo, Vl.fAnd, Vl.fOr, Vl.fNot, Vl.fAndT, Vl.fOrT, Vl.fNotT, Vl.fChain, Vl.fIsi, Vl.fIsi2, Vl.fUn, Vl.fDrop, Vl.fApp, Vl.fLenO, Vl.fMake, Vl.fRaise, Vl.fFldS, Vl.fDInO, Vl.fDPutO, Vl.fDGetO, Vl.fPop, Vl.fListD, Vl.fDOne, Vl.fDNewK, Vl.isi, Vl.bOf, Vl.sOf, Vl.fFmt, Vl.fJs, Vl.oFmt, Vl.fM1, Vl.fM0, Vl.fFor, Vl.fItems, Vl.fEnum, Vl.fSl, Vl.fPart, Vl.fNoPart, Vl.fNeg, Vl.fAugI, Vl.fInO, Vl.fYes, Vl.fTruO, Vl.fComp, Vl.fCompO, Vl.calmE, Vl.wipeE, Vl.backE, Vl.oIsN, Vl.oStr, ↓Vl.fRng1_one, Vl.oLen_lst, Vl.oLen_tup, Vl.oLen_ctup, Vl.oLen_scr, Vl.oIx_lst, Vl.oIx_tup, Vl.oIx_ctup, Vl.oIx_scr, Vl.oInt_int, Vl.oInt_bl, Vl.oAbs_int, Vl.oMax_int, Vl.oMin_int, Vl.oTuple_lst, Vl.oTuple_tup, Vl.oList_lst, Vl.oList_tup, Vl.oNeg_int, Vl.ty_non, Vl.ty_bl, Vl.ty_int, Vl.ty_str, Vl.ty_tup, Vl.ty_ctup, Vl.ty_lst, Vl.ty_dk, Vl.ty_scr, Vl.tru_non, Vl.tru_bl, Vl.tru_int, Vl.tru_lst, Vl.tru_tup, Vl.oEqS_int, Vl.oEqS_str, Vl.oEqS_bl, Vl.oCat_lst, Vl.oCatA_tup, Vl.oSlT_tup, Vl.oSlL_lst, Vl.keyOf_int, Vl.keyOf_str, Vl.isNon_non, Vl.isNon_bl, Vl.isNon_int, Vl.isNon_str, Vl.isNon_tup, Vl.isNon_lst, Vl.oFld_ob, Vl.isOb_ob', Vl.atI_0, Vl.atI_1, Vl.atI_2, Vl.atI_3, Vl.ixN_0, Vl.ixN_1, Vl.ixN_2, List.zipWith, List.replicate, List.append, List.cons_append, List.nil_append, List.append_nil, List.getElem?_cons_zero, List.getElem?_cons_succ, List.getElem?_nil, List.set_cons_zero, List.set_cons_succ, List.length_cons, List.length_nil, List.map_cons, List.map_nil, List.nodup_cons, List.nodup_nil, List.not_mem_nil, List.reverse_cons, List.reverse_nil, Bool.false_eq_true, ite_true, ite_false, if_true, if_false, reduceIte, decide_true, decide_false, Bool.true_and, Bool.and_true, Bool.false_and, Bool.and_false, Bool.not_true, Bool.not_false, Bool.or_false, Bool.false_or, Bool.or_true, Bool.true_or, reduceCtorEq, not_false_eq_true, not_true_eq_false, and_self, and_true, true_and, or_false, or_true, Nat.reduceSub, Nat.reduceAdd, Nat.reduceLeDiff, Nat.zero_add, Option.map_some, Option.map_none, Option.bind_some, Option.bind_none, Option.isSome_some, Option.isSome_none, List.mem_cons, List.all_cons, List.all_nil, eq_self, Int.cast_ofNat_Int, Int.natCast_zero, Int.natCast_one, Int.reduceEq, Int.reduceLT, Int.reduceLE, Int.reduceAdd, Int.reduceSub, Int.reduceNeg, Nat.reduceEqDiff])
theorem rows_ok (k : Int) (many : Nat) (w0 w1 : Str) (d : D) (hb : BagA k d) (hk : k < 800000) (hm : 1 ≤ many) (hm2 : many ≤ 1000) : ∃ rs d', Φ_L_rows [d, .int (many : Int), wordsD w0 w1] = .ret true (.lst (rowsD rs)) [d', .non, .non] ∧ BagA (k + 3 * many) d' ∧ rs.length = many ∧ ∀ r, r ∈ rs → r.Ok many [w0, w1] := by
  have big : (1001 : Nat) < sizeLine := by decide
  obtain ⟨acc, env', e, rs, d', s, rfl, hl, hok, hb', rfl⟩ := comp_ok (p := .nm 3) (ft := fYes) (fe := E_L_rows_1) (vs := [3]) (ds := rangeD 0 many) (fun i acc env => ∃ rs d' s, acc = rowsD rs ∧ rs.length = i ∧ (∀ r, r ∈ rs → r.Ok many [w0, w1]) ∧ BagA (k + 3 * i) d' ∧ env = [.io d', .sh (.int (many : Int)), .sh (wordsD w0 w1), s]) (fun i y acc env hd hi => by
    obtain ⟨rs, d0, s, rfl, hl, hok, hb0, rfl⟩ := hi
    obtain ⟨hi, rfl⟩ := rangeD_get hd
    obtain ⟨r, d1, e1, hb1, hr⟩ := elt_ok (k + 3 * i) many w0 w1 d0 (.sh (.int (0 + (i : Int)))) hb0 (by omega) hm hm2
    refine ⟨_, true, _, rfl, rfl, fun _ => ⟨rowD r, _, e1, ?_, rs ++ [r], d1, _, ?_, by simp [hl], ?_, hb1.more (by omega), rfl⟩, fun z => by cases z⟩
    · rw [rowsD_len, hl]
      omega
    · simp [rowsD]
    · intro r' hr'
      rcases List.mem_append.mp hr' with z | z
      · exact hok r' z
      · simp at z
        subst z
        exact hr) (env := [.io d, .sh (.int (many : Int)), .sh (wordsD w0 w1), .un]) ⟨[], d, .un, rfl, rfl, fun r hr => by simp at hr, by simpa using hb, rfl⟩
  rw [rangeD_len] at hl hb'
  refine ⟨rs, d', ?_, hb', hl, hok⟩
  have hr := rng1_nat (n := many) (by omega)
  unfold Φ_L_rows F_L_rows
  clear hb hb' hok hl hk hm hm2 big
  walk_at "ev"
/-- a follower that is met -/
def addP (fs : List Nat) : Pl → List Nat
  | .num j => if j ∈ fs then fs else fs ++ [j]
  | .word _ => fs
def intsD (fs : List Nat) : List D := fs.map fun (i : Nat) => D.int (i : Int)
theorem in_ints {fs : List Nat} {j : Nat} : oIn true (.int (j : Int)) (.lst (intsD fs)) = some (.bl (!decide (j ∈ fs))) := by
  have e2 : (D.lst (intsD fs)).eok = true := (eokN_lst (n := 0) fun d hd => by
    obtain ⟨p, hp, rfl⟩ := List.mem_map.mp hd
    exact eokN_int _).eok (by omega)
  unfold oIn
  simp only []
  rw [if_pos (by rw [int_eok, e2]; rfl)]
  simp only [if_true]
  congr 3
  unfold intsD
  rw [List.any_map, Bool.eq_iff_iff, List.any_eq_true, decide_eq_true_eq]
  have e3 : ∀ i : Nat, PyData.eqv (D.int (i : Int)).py (D.int (j : Int)).py = decide (Pl.num i = .num j) := fun i => eqv_plD (.num i) (.num j)
  constructor
  · rintro ⟨p, hp, h⟩
    have h := (e3 p).symm.trans h
    have h := of_decide_eq_true h
    cases h
    exact hp
  · exact fun h => ⟨_, h, (e3 _).trans (by simp)⟩
theorem led_step {m first : D} {fs : List Nat} {t : Int} {p : Pl} (hl : fs.length ≤ 1000) : B_L_led_1 [.sh m, .sh first, .ow (.lst (intsD fs)), .sh (.int t), .sh (plD p)] = .val .nx [.sh m, .sh first, .ow (.lst (intsD (addP fs p))), .sh (.int t), .sh (plD p)] := by
  cases p with
  | word s =>
    unfold B_L_led_1 plD addP
    walk_at "e0"
  | num j =>
    have h1 := in_ints (fs := fs) (j := j)
    have h2 : ((intsD fs).length < sizeLine) = True := by
      simp only [eq_iff_iff, iff_true, intsD, List.length_map]
      exact Nat.lt_of_le_of_lt hl (by decide)
    by_cases hj : j ∈ fs
    · rw [decide_eq_true hj] at h1
      have e : addP fs (.num j) = fs := if_pos hj
      rw [e]
      unfold B_L_led_1 plD
      clear hl e hj
      walk_at "ev"
    · rw [decide_eq_false hj] at h1
      have e : addP fs (.num j) = fs ++ [j] := if_neg hj
      have e' : intsD (fs ++ [j]) = intsD fs ++ [.int (j : Int)] := by simp [intsD]
      rw [e, e']
      unfold B_L_led_1 plD
      clear hl e e' hj
      walk_at "ev"
theorem linv_add {rows : List Row} {b t i : Nat} {fs : List Nat} {p : Pl} {ws : List Str} (h : LInv rows b fs t) (hi : i ∈ fs) (f : Fol rows i p) (hp : p.Ok rows.length ws) (ht : t ≤ fs.length) : LInv rows b (addP fs p) t ∧ (∀ j, p = .num j → j ∈ addP fs p) ∧ ∃ l, addP fs p = fs ++ l := by
  cases p with
  | word s => exact ⟨h, (fun j z => by cases z), [], by simp [addP]⟩
  | num j =>
    by_cases hj : j ∈ fs
    · have e : addP fs (.num j) = fs := if_pos hj
      rw [e]
      exact ⟨h, (fun k z => by cases z; exact hj), [], by simp⟩
    · have e : addP fs (.num j) = fs ++ [j] := if_neg hj
      rw [e]
      exact ⟨h.add hi f hj hp ht, (fun k z => by cases z; simp), [j], rfl⟩
end Pg

set_option Elab.async false
set_option linter.all false
set_option maxRecDepth 100000
set_option maxHeartbeats 1000000
/-! MeF: whom rows lead to in their order; drawn hearers and senders. -/
namespace Pg
open PySem L2 Sb Vl
local macro_rules | `(tactic| walk_at "ev") => `(tactic| simp only [Vl.runV, Vl.mkEnv, Vl.Res.of, Vl.Res.quiet, Vl.Res.val, Vl.ioAt, Vl.fSeq, Vl.fIte, Vl.fAsg, Vl.fVar, Vl.fC, Vl.fOp, Vl.fIxO, Vl.fPutL, Vl.fRet, Vl.fRetW, Vl.fRetO, Vl.fRetN, Vl.fLst, Vl.fTup, Vl.fB, Vl.fTru, Vl.fCB, Vl.fCons, Vl.fNil, Vl.o1, Vl.o2, Vl.oI, Vl.oIC, Vl.slotL, Vl.slotO, Vl.own, Vl.Pat.put, Vl.Pat.puts, Vl.Out.bind, Vl.Out.opt, Vl.fNx, Vl.fCt, Vl.fBk, Vl.fPar, Vl.fCall, Vl.fCallN, Vl.fSetN, Vl.gIo, Vl.gCn, Vl.gNl, Vl.agDs, Vl.agD, Vl.ioSlots, Vl.putAll, Vl.put1, Vl.Ag.isIo, Vl.fAnd, Vl.fOr, Vl.fNot, Vl.fAndT, Vl.fOrT, Vl.fNotT, Vl.fChain, Vl.fIsi, Vl.fIsi2, Vl.fUn, Vl.fDrop, Vl.fApp, Vl.fLenO, Vl.fMake, Vl.fRaise, Vl.fFldS, Vl.fDInO, Vl.fDPutO, Vl.fDGetO, Vl.fPop, Vl.fListD, Vl.fDOne, Vl.fDNewK, Vl.isi, Vl.bOf, Vl.sOf, Vl.fFmt, Vl.fJs, Vl.oFmt, Vl.fM1, Vl.fM0, Vl.fFor, Vl.fItems, Vl.fEnum, Vl.fSl, Vl.fPart, Vl.fNoPart, Vl.fNeg, Vl.fAugI, Vl.fInO, Vl.fYes, Vl.fTruO, Vl.fComp, Vl.fCompO, Vl.calmE, Vl.wipeE, Vl.backE, Vl.oIsN, Vl.oStr, ↓Vl.fRng1_one, Vl.oLen_lst, Vl.oLen_tup, Vl.oLen_ctup, Vl.oLen_scr, Vl.oIx_lst, Vl.oIx_tup, Vl.oIx_ctup, Vl.oIx_scr, Vl.oInt_int, Vl.oInt_bl, Vl.oAbs_int, Vl.oMax_int, Vl.oMin_int, Vl.oTuple_lst, Vl.oTuple_tup, Vl.oList_lst, Vl.oList_tup, Vl.oNeg_int, Vl.ty_non, Vl.ty_bl, Vl.ty_int, Vl.ty_str, Vl.ty_tup, Vl.ty_ctup, Vl.ty_lst, Vl.ty_dk, Vl.ty_scr, Vl.tru_non, Vl.tru_bl, Vl.tru_int, Vl.tru_lst, Vl.tru_tup, Vl.oEqS_int, Vl.oEqS_str, Vl.oEqS_bl, Vl.oCat_lst, Vl.oCatA_tup, Vl.oSlT_tup, Vl.oSlL_lst, Vl.keyOf_int, Vl.keyOf_str, Vl.isNon_non, Vl.isNon_bl, Vl.isNon_int, Vl.isNon_str, Vl.isNon_tup, Vl.isNon_lst, Vl.oFld_ob, Vl.isOb_ob', Vl.atI_0, Vl.atI_1, Vl.atI_2, Vl.atI_3, Vl.ixN_0, Vl.ixN_1, Vl.ixN_2, List.zipWith, List.replicate, List.append, List.cons_append, List.nil_append, List.append_nil, List.getElem?_cons_zero, List.getElem?_cons_succ, List.getElem?_nil, List.set_cons_zero, List.set_cons_succ, List.length_cons, List.length_nil, List.map_cons, List.map_nil, List.nodup_cons, List.nodup_nil, List.not_mem_nil, List.reverse_cons, List.reverse_nil, Bool.false_eq_true, ite_true, ite_false, if_true, if_false, reduceIte, decide_true, decide_false, Bool.true_and, Bool.and_true, Bool.false_and, Bool.and_false, Bool.not_true, Bool.not_false, Bool.or_false, Bool.false_or, Bool.or_true, Bool.true_or, reduceCtorEq, not_false_eq_true, not_true_eq_false, and_self, and_true, true_and, or_false, or_true, Nat.reduceSub, Nat.reduceAdd, Nat.reduceLeDiff, Nat.zero_add, Option.map_some, Option.map_none, Option.bind_some, Option.bind_none, Option.isSome_some, Option.isSome_none, List.mem_cons, List.all_cons, List.all_nil, eq_self, Int.cast_ofNat_Int, Int.natCast_zero, Int.natCast_one, Int.reduceEq, Int.reduceLT, Int.reduceLE, Int.reduceAdd, Int.reduceSub, Int.reduceNeg, Nat.reduceEqDiff, *])
local macro_rules | `(tactic| walk_at "e0") => `(tactic| simp only [Vl.runV, Vl.mkEnv, Vl.Res.of, Vl.Res.quiet, Vl.Res.val, Vl.ioAt, Vl.fSeq, Vl.fIte, Vl.fAsg, Vl.fVar, Vl.fC, Vl.fOp, Vl.fIxO, Vl.fPutL, Vl.fRet, Vl.fRetW, Vl.fRetO, Vl.fRetN, Vl.fLst, Vl.fTup, Vl.fB, Vl.fTru, Vl.fCB, Vl.fCons, Vl.fNil, Vl.o1, Vl.o2, Vl.oI, Vl.oIC, Vl.slotL, Vl.slotO, Vl.own, Vl.Pat.put, Vl.Pat.puts, Vl.Out.bind, Vl.Out.opt, Vl.fNx, Vl.fCt, Vl.fBk, Vl.fPar, Vl.fCall, Vl.fCallN, Vl.fSetN, Vl.gIo, Vl.gCn, Vl.gNl, Vl.agDs, Vl.agD, Vl.ioSlots, Vl.putAll, Vl.put1, Vl.Ag.isIo, Vl.fAnd, Vl.fOr, Vl.fNot, Vl.fAndT, Vl.fOrT, Vl.fNotT, Vl.fChain, Vl.fIsi, Vl.fIsi2, Vl.fUn, Vl.fDrop, Vl.fApp, Vl.fLenO, Vl.fMake, Vl.fRaise, Vl.fFldS, Vl.fDInO, Vl.fDPutO, Vl.fDGetO, Vl.fPop, Vl.fListD, Vl.fDOne, Vl.fDNewK, Vl.isi, Vl.bOf, Vl.sOf, Vl.fFmt, Vl.fJs, Vl.oFmt, Vl.fM1, Vl.fM0, Vl.fFor, Vl.fItems, Vl.fEnum, Vl.fSl, Vl.fPart, Vl.fNoPart, Vl.fNeg, Vl.fAugI, Vl.fInO, Vl.fYes, Vl.fTruO, Vl.fComp, Vl.fCompO, Vl.calmE, Vl.wipeE, Vl.backE, Vl.oIsN, Vl.oStr, ↓Vl.fRng1_one, Vl.oLen_lst, Vl.oLen_tup, Vl.oLen_ctup, Vl.oLen_scr, Vl.oIx_lst, Vl.oIx_tup, Vl.oIx_ctup, Vl.oIx_scr, Vl.oInt_int, Vl.oInt_bl, Vl.oAbs_int, Vl.oMax_int, Vl.oMin_int, Vl.oTuple_lst, Vl.oTuple_tup, Vl.oList_lst, Vl.oList_tup, Vl.oNeg_int, Vl.ty_non, Vl.ty_bl, Vl.ty_int, Vl.ty_str, Vl.ty_tup, Vl.ty_ctup, Vl.ty_lst, Vl.ty_dk, Vl.ty_scr, Vl.tru_non, Vl.tru_bl, Vl.tru_int, Vl.tru_lst, Vl.tru_tup, Vl.oEqS_int, Vl.oEqS_str, Vl.oEqS_bl, Vl.oCat_lst, Vl.oCatA_tup, Vl.oSlT_tup, Vl.oSlL_lst, Vl.keyOf_int, Vl.keyOf_str, Vl.isNon_non, Vl.isNon_bl, Vl.isNon_int, Vl.isNon_str, Vl.isNon_tup, Vl.isNon_lst, Vl.oFld_ob, Vl.isOb_ob', Vl.atI_0, Vl.atI_1, Vl.atI_2, Vl.atI_3, Vl.ixN_0, Vl.ixN_1, Vl.ixN_2, List.zipWith, List.replicate, List.append, List.cons_append, List.nil_append, List.append_nil, List.getElem?_cons_zero, List.getElem?_cons_succ, List.getElem?_nil, List.set_cons_zero, List.set_cons_succ, List.length_cons, List.length_nil, List.map_cons, List.map_nil, List.nodup_cons, List.nodup_nil, List.not_mem_nil, List.reverse_cons, List.reverse_nil, Bool.false_eq_true, ite_true, ite_false, if_true, if_false, reduceIte, decide_true, decide_false, Bool.true_and, Bool.and_true, Bool.false_and, Bool.and_false, Bool.not_true, Bool.not_false, Bool.or_false, Bool.false_or, Bool.or_true, Bool.true_or, reduceCtorEq, not_false_eq_true, not_true_eq_false, and_self, and_true, true_and, or_false, or_true, Nat.reduceSub, Nat.reduceAdd, Nat.reduceLeDiff, Nat.zero_add, Option.map_some, Option.map_none, Option.bind_some, Option.bind_none, Option.isSome_some, Option.isSome_none, List.mem_cons, List.all_cons, List.all_nil, eq_self, Int.cast_ofNat_Int, Int.natCast_zero, Int.natCast_one, Int.reduceEq, Int.reduceLT, Int.reduceLE, Int.reduceAdd, Int.reduceSub, Int.reduceNeg, Nat.reduceEqDiff])
theorem intsD_len (fs : List Nat) : (intsD fs).length = fs.length := by simp [intsD]
theorem intsD_at {fs : List Nat} {t i : Nat} (h : fs[t]? = some i) : atI (intsD fs) (t : Int) = some (.int (i : Int)) := by
  rw [atI_ge _ t _ rfl]
  unfold intsD
  rw [List.getElem?_map, h]
  rfl
theorem led_ok {m : D} {rows : List Row} {b : Nat} {ws : List Str} (hm : IsRows m rows) (hb : b < rows.length) (hsz : rows.length ≤ 100) (hok : ∀ r, r ∈ rows → r.Ok rows.length ws) :
    ∃ fs : List Nat, Φ_L_led [m, .int (b : Int)] = .ret true (.lst (intsD fs)) [.non, .non] ∧ fs.Nodup ∧ (∀ i, i ∈ fs ↔ Reach rows b (.num i)) ∧ ∀ i, i ∈ fs → i < rows.length := by
  obtain ⟨env', e, fs, t, s4, rfl, I, hle⟩ := while_ok (t := T_L_led_1) (s := B_L_led_2) (Q := fun env => ∃ (fs : List Nat) (t : Nat) (s4 : Slot), env = [.sh m, .sh (.int (b : Int)), .ow (.lst (intsD fs)), .sh (.int (t : Int)), s4] ∧ LInv rows b fs t ∧ fs.length ≤ t)
    (fun k env => ∃ (fs : List Nat) (t : Nat) (s4 : Slot), env = [.sh m, .sh (.int (b : Int)), .ow (.lst (intsD fs)), .sh (.int (t : Int)), s4] ∧ LInv rows b fs t ∧ t ≤ fs.length ∧ k = rows.length - t) (fun k env hi => by
      obtain ⟨fs, t, s4, rfl, I, ht, rfl⟩ := hi
      have hfl := nodup_len I.nd I.small
      by_cases c : t < fs.length
      · refine .inr ?_
        obtain ⟨i, hi⟩ : ∃ i, fs[t]? = some i := ⟨fs[t], List.getElem?_eq_getElem c⟩
        have him : i ∈ fs := List.mem_of_getElem? hi
        have hil := I.small i him
        obtain ⟨r, hr⟩ : ∃ r, rows[i]? = some r := ⟨rows[i], List.getElem?_eq_getElem hil⟩
        have hrok := hok r (List.mem_of_getElem? hr)
        have s1 := led_step (m := m) (first := .int (b : Int)) (fs := fs) (t := (t : Int)) (p := r.a) (by omega)
        obtain ⟨I1, c1, l1, e1⟩ := linv_add I him ⟨r, hr, .inl rfl⟩ hrok.2.1 ht
        have hfl1 := nodup_len I1.nd I1.small
        have s2 := led_step (m := m) (first := .int (b : Int)) (fs := addP fs r.a) (t := (t : Int)) (p := r.b) (by omega)
        obtain ⟨I2, c2, l2, e2⟩ := linv_add I1 (i := i) (by rw [e1]; exact List.mem_append_left _ him) ⟨r, hr, .inr rfl⟩ hrok.2.2 (by rw [e1, List.length_append]; omega)
        have hrow := rows_at hm hr
        have hat := intsD_at hi
        have hloop := loop_two (p := .nm 4) (s := B_L_led_1) (e0 := [.sh m, .sh (.int (b : Int)), .ow (.lst (intsD fs)), .sh (.int (t : Int)), s4]) rfl (.inl s1) rfl (.inl s2)
        refine ⟨[.sh m, .sh (.int (b : Int)), .ow (.lst (intsD fs)), .sh (.int (t : Int)), s4], [.sh m, .sh (.int (b : Int)), .ow (.lst (intsD (addP (addP fs r.a) r.b))), .sh (.int ((t + 1 : Nat) : Int)), .sh (plD r.b)], rows.length - (t + 1), ?_, .inl ?_, by omega, addP (addP fs r.a) r.b, t + 1, .sh (plD r.b), rfl, I2.next (i := i) ?_ ?_, ?_, rfl⟩
        · have h : decide ((t : Int) < ((intsD fs).length : Int)) = true := decide_eq_true (by rw [intsD_len]; omega)
          unfold T_L_led_1
          clear hloop hat hrow e2 e1 s1 s2 c1 c2 I2 I1 I hrok hok hr hil him hi hm hb hsz hfl hfl1 c ht
          walk_at "ev"
        · clear e2 e1 s1 s2 c1 c2 I2 I1 I hrok hok hr hil him hi hm hb hsz hfl hfl1 c ht
          unfold B_L_led_2 L_L_led_1
          unfold rowD at hrow
          have hcut := cut_row r
          walk_at "ev"
          rfl
        · rw [e2, e1, List.append_assoc, List.getElem?_append_left c]
          exact hi
        · rintro j ⟨r', hr', hj⟩
          rw [hr] at hr'
          cases hr'
          rcases hj with hj | hj
          · have := c1 j hj.symm
            rw [e2]
            exact List.mem_append_left _ this
          · exact c2 j hj.symm
        · rw [e2, e1, List.length_append, List.length_append]
          omega
      · refine .inl ⟨[.sh m, .sh (.int (b : Int)), .ow (.lst (intsD fs)), .sh (.int (t : Int)), s4], ?_, fs, t, s4, rfl, I, by omega⟩
        have h : decide ((t : Int) < ((intsD fs).length : Int)) = false := decide_eq_false (by rw [intsD_len]; omega)
        unfold T_L_led_1
        clear I hm hb hsz hok hfl c ht
        walk_at "ev") 100000 rows.length [.sh m, .sh (.int (b : Int)), .ow (.lst (intsD [b])), .sh (.int ((0 : Nat) : Int)), .un] ⟨[b], 0, .un, rfl, LInv.begin hb, by simp, by omega⟩ (by omega)
  refine ⟨fs, ?_, I.nd, I.all hle, I.small⟩
  have e : L_L_led_2 [.sh m, .sh (.int (b : Int)), .ow (.lst [.int (b : Int)]), .sh (.int 0), .un] = _ := e
  unfold Φ_L_led F_L_led
  clear I hle hm hb hsz hok
  walk_at "ev"
end Pg

set_option Elab.async false
set_option linter.all false
set_option maxRecDepth 100000
set_option maxHeartbeats 1000000
/-! MeG: drawn hearers and senders. -/
namespace Pg
open PySem L2 Sb Vl
local macro_rules | `(tactic| walk_at "ev") => `(tactic| simp only [Vl.runV, Vl.mkEnv, Vl.Res.of, Vl.Res.quiet, Vl.Res.val, Vl.ioAt, Vl.fSeq, Vl.fIte, Vl.fAsg, Vl.fVar, Vl.fC, Vl.fOp, Vl.fIxO, Vl.fPutL, Vl.fRet, Vl.fRetW, Vl.fRetO, Vl.fRetN, Vl.fLst, Vl.fTup, Vl.fB, Vl.fTru, Vl.fCB, Vl.fCons, Vl.fNil, Vl.o1, Vl.o2, Vl.oI, Vl.oIC, Vl.slotL, Vl.slotO, Vl.own, Vl.Pat.put, Vl.Pat.puts, Vl.Out.bind, Vl.Out.opt, Vl.fNx, Vl.fCt, Vl.fBk, Vl.fPar, Vl.fCall, Vl.fCallN, Vl.fCallL, Vl.fSetN, Vl.gIo, Vl.gCn, Vl.gNl, Vl.agDs, Vl.agD, Vl.ioSlots, Vl.putAll, Vl.put1, Vl.Ag.isIo, Vl.fAnd, Vl.fOr, Vl.fNot, Vl.fAndT, Vl.fOrT, Vl.fNotT, Vl.fChain, Vl.fIsi, Vl.fIsi2, Vl.fUn, Vl.fDrop, Vl.fApp, Vl.fLenO, Vl.fMake, Vl.fRaise, Vl.fFldS, Vl.fDInO, Vl.fDPutO, Vl.fDGetO, Vl.fPop, Vl.fListD, Vl.fDOne, Vl.fDNewK, Vl.isi, Vl.bOf, Vl.sOf, Vl.fFmt, Vl.fJs, Vl.oFmt, Vl.fM1, Vl.fM0, Vl.fFor, Vl.fItems, Vl.fEnum, Vl.fSl, Vl.fPart, Vl.fNoPart, Vl.fNeg, Vl.fAugI, Vl.fInO, Vl.fYes, Vl.fTruO, Vl.fComp, Vl.fCompO, Vl.calmE, Vl.wipeE, Vl.backE, Vl.oIsN, Vl.oStr, ↓Vl.fRng1_one, Vl.oLen_lst, Vl.oLen_tup, Vl.oLen_ctup, Vl.oLen_scr, Vl.oIx_lst, Vl.oIx_tup, Vl.oIx_ctup, Vl.oIx_scr, Vl.oInt_int, Vl.oInt_bl, Vl.oAbs_int, Vl.oMax_int, Vl.oMin_int, Vl.oTuple_lst, Vl.oTuple_tup, Vl.oList_lst, Vl.oList_tup, Vl.oNeg_int, Vl.ty_non, Vl.ty_bl, Vl.ty_int, Vl.ty_str, Vl.ty_tup, Vl.ty_ctup, Vl.ty_lst, Vl.ty_dk, Vl.ty_scr, Vl.tru_non, Vl.tru_bl, Vl.tru_int, Vl.tru_lst, Vl.tru_tup, Vl.oEqS_int, Vl.oEqS_str, Vl.oEqS_bl, Vl.oCat_lst, Vl.oCatA_tup, Vl.oSlT_tup, Vl.oSlL_lst, Vl.keyOf_int, Vl.keyOf_str, Vl.isNon_non, Vl.isNon_bl, Vl.isNon_int, Vl.isNon_str, Vl.isNon_tup, Vl.isNon_lst, Vl.oFld_ob, Vl.isOb_ob', Vl.atI_0, Vl.atI_1, Vl.atI_2, Vl.atI_3, Vl.ixN_0, Vl.ixN_1, Vl.ixN_2, List.zipWith, List.replicate, List.append, List.cons_append, List.nil_append, List.append_nil, List.getElem?_cons_zero, List.getElem?_cons_succ, List.getElem?_nil, List.set_cons_zero, List.set_cons_succ, List.length_cons, List.length_nil, List.map_cons, List.map_nil, List.nodup_cons, List.nodup_nil, List.not_mem_nil, List.reverse_cons, List.reverse_nil, Bool.false_eq_true, ite_true, ite_false, if_true, if_false, reduceIte, decide_true, decide_false, Bool.true_and, Bool.and_true, Bool.false_and, Bool.and_false, Bool.not_true, Bool.not_false, Bool.or_false, Bool.false_or, Bool.or_true, Bool.true_or, reduceCtorEq, not_false_eq_true, not_true_eq_false, and_self, and_true, true_and, or_false, or_true, Nat.reduceSub, Nat.reduceAdd, Nat.reduceLeDiff, Nat.zero_add, Option.map_some, Option.map_none, Option.bind_some, Option.bind_none, Option.isSome_some, Option.isSome_none, List.mem_cons, List.all_cons, List.all_nil, eq_self, Int.cast_ofNat_Int, Int.natCast_zero, Int.natCast_one, Int.reduceEq, Int.reduceLT, Int.reduceLE, Int.reduceAdd, Int.reduceSub, Int.reduceNeg, Nat.reduceEqDiff, *])
local macro_rules | `(tactic| walk_at "e0") => `(tactic| simp only [Vl.runV, Vl.mkEnv, Vl.Res.of, Vl.Res.quiet, Vl.Res.val, Vl.ioAt, Vl.fSeq, Vl.fIte, Vl.fAsg, Vl.fVar, Vl.fC, Vl.fOp, Vl.fIxO, Vl.fPutL, Vl.fRet, Vl.fRetW, Vl.fRetO, Vl.fRetN, Vl.fLst, Vl.fTup, Vl.fB, Vl.fTru, Vl.fCB, Vl.fCons, Vl.fNil, Vl.o1, Vl.o2, Vl.oI, Vl.oIC, Vl.slotL, Vl.slotO, Vl.own, Vl.Pat.put, Vl.Pat.puts, Vl.Out.bind, Vl.Out.opt, Vl.fNx, Vl.fCt, Vl.fBk, Vl.fPar, Vl.fCall, Vl.fCallN, Vl.fCallL, Vl.fSetN, Vl.gIo, Vl.gCn, Vl.gNl, Vl.agDs, Vl.agD, Vl.ioSlots, Vl.putAll, Vl.put1, Vl.Ag.isIo, Vl.fAnd, Vl.fOr, Vl.fNot, Vl.fAndT, Vl.fOrT, Vl.fNotT, Vl.fChain, Vl.fIsi, Vl.fIsi2, Vl.fUn, Vl.fDrop, Vl.fApp, Vl.fLenO, Vl.fMake, Vl.fRaise, Vl.fFldS, Vl.fDInO, Vl.fDPutO, Vl.fDGetO, Vl.fPop, Vl.fListD, Vl.fDOne, Vl.fDNewK, Vl.isi, Vl.bOf, Vl.sOf, Vl.fFmt, Vl.fJs, Vl.oFmt, Vl.fM1, Vl.fM0, Vl.fFor, Vl.fItems, Vl.fEnum, Vl.fSl, Vl.fPart, Vl.fNoPart, Vl.fNeg, Vl.fAugI, Vl.fInO, Vl.fYes, Vl.fTruO, Vl.fComp, Vl.fCompO, Vl.calmE, Vl.wipeE, Vl.backE, Vl.oIsN, Vl.oStr, ↓Vl.fRng1_one, Vl.oLen_lst, Vl.oLen_tup, Vl.oLen_ctup, Vl.oLen_scr, Vl.oIx_lst, Vl.oIx_tup, Vl.oIx_ctup, Vl.oIx_scr, Vl.oInt_int, Vl.oInt_bl, Vl.oAbs_int, Vl.oMax_int, Vl.oMin_int, Vl.oTuple_lst, Vl.oTuple_tup, Vl.oList_lst, Vl.oList_tup, Vl.oNeg_int, Vl.ty_non, Vl.ty_bl, Vl.ty_int, Vl.ty_str, Vl.ty_tup, Vl.ty_ctup, Vl.ty_lst, Vl.ty_dk, Vl.ty_scr, Vl.tru_non, Vl.tru_bl, Vl.tru_int, Vl.tru_lst, Vl.tru_tup, Vl.oEqS_int, Vl.oEqS_str, Vl.oEqS_bl, Vl.oCat_lst, Vl.oCatA_tup, Vl.oSlT_tup, Vl.oSlL_lst, Vl.keyOf_int, Vl.keyOf_str, Vl.isNon_non, Vl.isNon_bl, Vl.isNon_int, Vl.isNon_str, Vl.isNon_tup, Vl.isNon_lst, Vl.oFld_ob, Vl.isOb_ob', Vl.atI_0, Vl.atI_1, Vl.atI_2, Vl.atI_3, Vl.ixN_0, Vl.ixN_1, Vl.ixN_2, List.zipWith, List.replicate, List.append, List.cons_append, List.nil_append, List.append_nil, List.getElem?_cons_zero, List.getElem?_cons_succ, List.getElem?_nil, List.set_cons_zero, List.set_cons_succ, List.length_cons, List.length_nil, List.map_cons, List.map_nil, List.nodup_cons, List.nodup_nil, List.not_mem_nil, List.reverse_cons, List.reverse_nil, Bool.false_eq_true, ite_true, ite_false, if_true, if_false, reduceIte, decide_true, decide_false, Bool.true_and, Bool.and_true, Bool.false_and, Bool.and_false, Bool.not_true, Bool.not_false, Bool.or_false, Bool.false_or, Bool.or_true, Bool.true_or, reduceCtorEq, not_false_eq_true, not_true_eq_false, and_self, and_true, true_and, or_false, or_true, Nat.reduceSub, Nat.reduceAdd, Nat.reduceLeDiff, Nat.zero_add, Option.map_some, Option.map_none, Option.bind_some, Option.bind_none, Option.isSome_some, Option.isSome_none, List.mem_cons, List.all_cons, List.all_nil, eq_self, Int.cast_ofNat_Int, Int.natCast_zero, Int.natCast_one, Int.reduceEq, Int.reduceLT, Int.reduceLE, Int.reduceAdd, Int.reduceSub, Int.reduceNeg, Nat.reduceEqDiff])
theorem eq_taken {n : Nat} {p : Pl} (hp : p.Ok n hearerWords) : oEq false (plD p) (.str "taken") = some (.bl (decide (p = .word "taken"))) := by
  have e1 : (plD p).eok = true := plD_eok (.inl rfl) hp
  have e2 : (D.str "taken").eok = true := (plD_eokN (n := 0) (.inl rfl) (p := .word "taken") (by simp [Pl.Ok, hearerWords])).eok (by omega)
  unfold oEq
  rw [if_pos (by rw [e1, e2]; rfl)]
  have h := eqv_plD p (.word "taken")
  have h : PyData.eqv (plD p).py (D.str "taken").py = _ := h
  simp only [Bool.false_eq_true, if_false, h]
theorem plD_unTaken (p : Pl) : plD (unTaken p) = if p = .word "taken" then .str "lost" else plD p := by
  cases p with
  | num n => rfl
  | word s =>
    rw [unTaken_word]
    by_cases h : s = "taken"
    · subst h
      rfl
    · have h' : ¬ Pl.word s = .word "taken" := fun z => h (by cases z; rfl)
      rw [if_neg h, if_neg h']
theorem rowsD_set {rs : List Row} {i : Nat} {r : Row} : (rowsD rs).set i (rowD r) = rowsD (rs.set i r) := by simp [rowsD, List.map_set]
theorem rowsD_at {rs : List Row} {i : Nat} {r : Row} (h : rs[i]? = some r) : oIx (.lst (rowsD rs)) (.int (i : Int)) = some (.tup [.int r.put, plD r.a, plD r.b]) := rows_at (.inl rfl) h
theorem ixN_at {n i : Nat} (h : i < n) : ixN n (i : Int) = some i := ixN_ge n i _ rfl h
theorem flat_ints (fs : List Nat) : flatR true (.lst (intsD fs)) = true := by
  unfold flatR intsD
  rw [List.all_eq_true]
  intro d hd
  obtain ⟨i, _, rfl⟩ := List.mem_map.mp hd
  rfl
theorem hearer_step {d : D} {many : Int} {rs : List Row} {j n : Nat} {r : Row} {s4 s5 s6 : Slot} (hr : rs[j]? = some r) (hok : r.Ok n hearerWords) : ∃ t4 t5 t6, B_L_hearer_1 [.io d, .sh (.int many), .ow (.lst (rowsD rs)), .sh (.int (j : Int)), s4, s5, s6] = .val .nx [.io d, .sh (.int many), .ow (.lst (rowsD (rs.set j (unRow r)))), .sh (.int (j : Int)), t4, t5, t6] := by
  refine ⟨.sh (.int r.put), .sh (plD r.a), .sh (plD r.b), ?_⟩
  have h1 := rowsD_at hr
  have h2 := eq_taken hok.2.1
  have h3 := eq_taken hok.2.2
  have h4 : ixN (rowsD rs).length (j : Int) = some j := ixN_at (by rw [rowsD_len]; exact (List.getElem?_eq_some_iff.mp hr).1)
  have h5 : (rowsD rs).set j (.tup [.int r.put, plD (unTaken r.a), plD (unTaken r.b)]) = rowsD (rs.set j (unRow r)) := rowsD_set (r := unRow r)
  rw [plD_unTaken, plD_unTaken] at h5
  clear hok hr
  unfold B_L_hearer_1
  by_cases c1 : r.a = .word "taken" <;> by_cases c2 : r.b = .word "taken"
  · rw [decide_eq_true c1] at h2
    rw [decide_eq_true c2] at h3
    rw [if_pos c1, if_pos c2] at h5
    clear c1 c2
    walk_at "ev"
  · rw [decide_eq_true c1] at h2
    rw [decide_eq_false c2] at h3
    rw [if_pos c1, if_neg c2] at h5
    clear c1 c2
    walk_at "ev"
  · rw [decide_eq_false c1] at h2
    rw [decide_eq_true c2] at h3
    rw [if_neg c1, if_pos c2] at h5
    clear c1 c2
    walk_at "ev"
  · rw [decide_eq_false c1] at h2
    rw [decide_eq_false c2] at h3
    rw [if_neg c1, if_neg c2] at h5
    clear c1 c2
    walk_at "ev"
theorem hearer_ok (k : Int) (many : Nat) (d : D) (hb : BagA k d) (hk : k < 800000) (hm : 2 ≤ many) (hm2 : many ≤ 100) : ∃ rs d', Φ_L_hearer [d, .int (many : Int)] = .ret true (.lst (rowsD rs)) [d', .non] ∧ BagA (k + 3 * many) d' ∧ rs.length = many ∧ HearerOk rs := by
  obtain ⟨rs, d1, e1, hb1, hl, hok⟩ := rows_ok k many "taken" "lost" d hb hk (by omega) (by omega)
  have hok' : ∀ r, r ∈ rs → r.Ok rs.length hearerWords := by rw [hl]; exact hok
  obtain ⟨fs, e2, nd, hall, hsm⟩ := led_ok (m := .lst (rowsD rs)) (rows := rs) (b := 1) (.inl rfl) (by omega) (by omega) hok'
  obtain ⟨env', e3, s3, s4, s5, s6, rfl⟩ := loop_ok (p := .nm 3) (s := B_L_hearer_1) (ds := intsD fs) (fun i env => ∃ s3 s4 s5 s6, env = [.io d1, .sh (.int (many : Int)), .ow (.lst (rowsD (unRows rs (fs.take i)))), s3, s4, s5, s6]) (fun i x env hx hi => by
    obtain ⟨s3, s4, s5, s6, rfl⟩ := hi
    unfold intsD at hx
    rw [List.getElem?_map] at hx
    cases hj : fs[i]? with
    | none =>
      rw [hj] at hx
      cases hx
    | some j =>
      rw [hj] at hx
      cases hx
      have hjl := hsm j (List.mem_of_getElem? hj)
      obtain ⟨r, hr⟩ : ∃ r, (unRows rs (fs.take i))[j]? = some r := ⟨_, List.getElem?_eq_getElem (by rw [unRows_len]; exact hjl)⟩
      have hrok := unRows_ok (is := fs.take i) (by simp [hearerWords]) hok' r (List.mem_of_getElem? hr)
      obtain ⟨s4', s5', s6', e⟩ := hearer_step (d := d1) (many := (many : Int)) (s4 := s4) (s5 := s5) (s6 := s6) hr hrok
      have et : fs.take (i + 1) = fs.take i ++ [j] := by
        rw [List.take_succ, hj]
        rfl
      refine ⟨_, _, rfl, .inl e, .sh (.int (j : Int)), s4', s5', s6', ?_⟩
      rw [et, unRows_snoc, hr]) (env := [.io d1, .sh (.int (many : Int)), .ow (.lst (rowsD rs)), .un, .un, .un, .un]) ⟨.un, .un, .un, .un, by rw [List.take_zero]; rfl⟩
  have et : fs.take (intsD fs).length = fs := by rw [intsD_len, List.take_length]
  rw [et] at e3
  refine ⟨unRows rs fs, d1, ?_, hb1, by rw [unRows_len, hl], by rw [unRows_len]; omega, by rw [unRows_len]; omega, ?_, ?_⟩
  · have hf := flat_ints fs
    have e2 : Φ_L_led [.lst (rowsD rs), .int 1] = _ := e2
    have e1 : Φ_L_rows [d, .int (many : Int), .lst [.str "taken", .str "lost"]] = _ := e1
    unfold Φ_L_hearer F_L_hearer L_L_hearer_1
    clear hb hb1 hl hok hok' nd hall hsm et hk hm hm2
    walk_at "ev"
  · rw [unRows_len]
    exact unRows_ok (by simp [hearerWords]) hok'
  · exact unRows_body fun i hi => (hall i).mpr hi
theorem sender_ok (k : Int) (many : Nat) (d : D) (hb : BagA k d) (hk : k < 800000) (hm : 1 ≤ many) (hm2 : many ≤ 100) : ∃ rs d', Φ_L_sender [d, .int (many : Int)] = .ret true (.lst (rowsD rs)) [d', .non] ∧ BagA (k + 3 * many) d' ∧ rs.length = many ∧ SenderOk rs := by
  obtain ⟨rs, d1, e1, hb1, hl, hok⟩ := rows_ok k many "done" "again" d hb hk hm (by omega)
  refine ⟨rs, d1, ?_, hb1, hl, by omega, by omega, by rw [hl]; exact hok⟩
  have e1 : Φ_L_rows [d, .int (many : Int), .lst [.str "done", .str "again"]] = _ := e1
  unfold Φ_L_sender F_L_sender
  clear hb hb1 hl hok hk hm hm2
  walk_at "ev"
theorem of_ok (k : Int) (d : D) (l : List D) (hb : BagA k d) (hk : k < 1000000) (h0 : l ≠ []) (hl : l.length < 1000000) : ∃ (i : Nat) (x : D) (d' : D), Φ_L_of [d, .lst l] = .ret false x [d', .non] ∧ BagA (k + 1) d' ∧ l[i]? = some x := by
  have h1 : 0 < l.length := List.length_pos_iff.mpr h0
  obtain ⟨r, d', e, hb', r0, r1⟩ := take_ok k (l.length : Int) d hb hk (by omega) (by omega)
  have hi : r.toNat < l.length := by omega
  have er : r = (r.toNat : Int) := (Int.toNat_of_nonneg r0).symm
  have hx : atI l r = some l[r.toNat] := by rw [atI_ge l r.toNat r er, List.getElem?_eq_getElem hi]
  refine ⟨r.toNat, l[r.toNat], d', ?_, hb', List.getElem?_eq_getElem hi⟩
  generalize l[r.toNat] = x at hx ⊢
  unfold Φ_L_of F_L_of
  clear er hi hb hb' hk h0 hl h1 r0 r1
  walk_at "ev"
end Pg

set_option Elab.async false
set_option linter.all false
set_option maxRecDepth 100000
set_option maxHeartbeats 2000000
/-! Sbq: parts of tuples as plain things; their texts tell them apart. -/
namespace Sb
open PySem PySem.Spec PyProof.Rows L2 TL
inductive At where
  | int (i : Int) | str (s : Str) | bl (b : Bool) | non
  deriving DecidableEq
def At.v : At → V
  | .int i => .int i
  | .str s => .str s
  | .bl b => .bl b
  | .non => .non
def At.d : At → PyData
  | .int i => .int i
  | .str s => .str s
  | .bl b => .bool b
  | .non => .none
def At.isB : At → Bool
  | .bl _ => true
  | _ => false
def Pl.at : Pl → At
  | .num n => .int (n : Int)
  | .word s => .str s
theorem plD_at (p : Pl) : plD p = p.at.d := by cases p <;> rfl
theorem plV_at (p : Pl) : p.v = p.at.v := by cases p <;> rfl
def Row.ats (r : Row) : List At := [.int (r.put : Int), r.a.at, r.b.at]
/-- those that a law draws -/
def atoms : List At := [.int (-1), .int 0, .int 1, .int 2, .int 3, .int 4, .int 5, .int 6, .str "taken", .str "lost", .str "done", .str "again", .str "1", .bl true, .bl false, .non]
def comma : Nat := 44
/-- the text of one -/
def At.t (a : At) : List Nat := (a.d.shown).cps.toList
theorem atoms_t : ∀ a ∈ atoms, comma ∉ a.t := by decide +kernel
theorem atoms_inj : ∀ a ∈ atoms, ∀ b ∈ atoms, a.t = b.t → a = b := by decide +kernel
theorem part_eq {a b x y : List Nat} (ha : comma ∉ a) (hb : comma ∉ b) (h : a ++ comma :: x = b ++ comma :: y) : a = b ∧ x = y := by
  induction a generalizing b with
  | nil =>
    cases b with
    | nil => exact ⟨rfl, by simpa using h⟩
    | cons c b =>
      simp at h
      exact absurd (by rw [← h.1]; simp : comma ∈ c :: b) hb
  | cons c a ih =>
    cases b with
    | nil =>
      simp at h
      exact absurd (by rw [h.1]; simp : comma ∈ c :: a) ha
    | cons e b =>
      simp at h
      obtain ⟨q1, q2⟩ := ih (b := b) (fun z => ha (by simp [z])) (fun z => hb (by simp [z])) h.2
      exact ⟨by rw [h.1, q1], q2⟩
theorem no_part {a b x : List Nat} (hb : comma ∉ b) (h : a ++ comma :: x = b) : False := hb (by rw [← h]; simp)
/-- the text of a tuple of such -/
theorem tup_text (as : List At) : tl (PyData.tuple (as.map At.d)).shown = 40 :: (joinL [44, 32] (as.map At.t) ++ (if as.length = 1 then [44, 41] else [41])) := by
  have e1 : ∀ l : List At, PyData.shownAll (l.map At.d) = l.map fun a => a.d.shown := by
    intro l
    induction l with
    | nil => simp [PyData.shownAll]
    | cons a l ih => simp [PyData.shownAll, ih]
  have e2 : (PyData.tuple (as.map At.d)).shown = tupleText (as.map fun a => a.d.shown) := by
    simp only [PyData.shown, e1]
  rw [e2]
  unfold tupleText
  rw [tl_append, tl_append, tl_join, List.map_map, List.length_map]
  have a1 : tl ("(" : Str) = [40] := by decide +kernel
  have a2 : tl (", " : Str) = [44, 32] := by decide +kernel
  rw [a1, a2]
  have a3 : tl (Str.ofString (if (as.length == 1) = true then ",)" else ")")) = if as.length = 1 then [44, 41] else [41] := by
    by_cases c : as.length = 1
    · rw [if_pos c, if_pos (by simpa using c)]
      decide +kernel
    · rw [if_neg c, if_neg (by simpa using c)]
      decide +kernel
  rw [a3]
  rfl
theorem row_at (r : Row) : rowD r = .tuple (r.ats.map At.d) := by
  obtain ⟨p, a, b⟩ := r
  show PyData.tuple [.int (p : Int), plD a, plD b] = _
  rw [plD_at, plD_at]
  rfl
theorem row_vs (r : Row) : r.vs = r.ats.map At.v := by
  obtain ⟨p, a, b⟩ := r
  show [V.int (p : Int), a.v, b.v] = _
  rw [plV_at, plV_at]
  rfl
theorem shown_inj {x y : Str} (h : x = y) : tl x = tl y := by rw [h]
/-- the texts of two such tuples, one of three parts -/
theorem tup_inj {as : List At} {x y z : At} (ha : ∀ a, a ∈ as → a ∈ atoms) (hx : x ∈ atoms) (hy : y ∈ atoms) (hz : z ∈ atoms) (h : (PyData.tuple (as.map At.d)).shown = (PyData.tuple ([x, y, z].map At.d)).shown) : as = [x, y, z] := by
  have h1 := shown_inj h
  rw [tup_text, tup_text] at h1
  have h2 := List.cons.inj h1 |>.2
  have cx := atoms_t x hx
  have cy := atoms_t y hy
  have cz := atoms_t z hz
  have e3 : joinL [44, 32] ([x, y, z].map At.t) ++ (if [x, y, z].length = 1 then [44, 41] else [41]) = x.t ++ comma :: 32 :: (y.t ++ comma :: 32 :: (z.t ++ [41])) := by
    show (x.t ++ ([44, 32] ++ (y.t ++ ([44, 32] ++ z.t)))) ++ [41] = _
    simp [comma]
  rw [e3] at h2
  have nz : comma ∉ z.t ++ [41] := by
    simp [cz]
    decide
  match as, ha with
  | [], _ =>
    have h3 : ([41] : List Nat) = x.t ++ comma :: 32 :: (y.t ++ comma :: 32 :: (z.t ++ [41])) := h2
    exact (no_part (by decide : comma ∉ ([41] : List Nat)) h3.symm).elim
  | [a], ha =>
    have h3 : a.t ++ comma :: [41] = x.t ++ comma :: 32 :: (y.t ++ comma :: 32 :: (z.t ++ [41])) := h2
    obtain ⟨_, q⟩ := part_eq (atoms_t a (ha a (by simp))) cx h3
    simp at q
  | [a, b], ha =>
    have h3 : a.t ++ comma :: 32 :: (b.t ++ [41]) = x.t ++ comma :: 32 :: (y.t ++ comma :: 32 :: (z.t ++ [41])) := by
      rw [← h2]
      show _ = (a.t ++ ([44, 32] ++ b.t)) ++ [41]
      simp [comma]
    obtain ⟨_, q⟩ := part_eq (atoms_t a (ha a (by simp))) cx h3
    have q2 := List.cons.inj q |>.2
    have nb : comma ∉ b.t ++ [41] := by
      simp [atoms_t b (ha b (by simp))]
      decide
    exact (no_part nb q2.symm).elim
  | [a, b, c], ha =>
    have h3 : a.t ++ comma :: 32 :: (b.t ++ comma :: 32 :: (c.t ++ [41])) = x.t ++ comma :: 32 :: (y.t ++ comma :: 32 :: (z.t ++ [41])) := by
      rw [← h2]
      show _ = (a.t ++ ([44, 32] ++ (b.t ++ ([44, 32] ++ c.t)))) ++ [41]
      simp [comma]
    obtain ⟨p1, q⟩ := part_eq (atoms_t a (ha a (by simp))) cx h3
    obtain ⟨p2, q2⟩ := part_eq (atoms_t b (ha b (by simp))) cy (List.cons.inj q |>.2)
    have p3 : c.t = z.t := List.append_cancel_right (List.cons.inj q2 |>.2)
    rw [atoms_inj a (ha a (by simp)) x hx p1, atoms_inj b (ha b (by simp)) y hy p2, atoms_inj c (ha c (by simp)) z hz p3]
  | a :: b :: c :: d :: r, ha =>
    have h3 : a.t ++ comma :: 32 :: (b.t ++ comma :: 32 :: (c.t ++ comma :: 32 :: (joinL [44, 32] ((d :: r).map At.t) ++ [41]))) = x.t ++ comma :: 32 :: (y.t ++ comma :: 32 :: (z.t ++ [41])) := by
      rw [← h2]
      show _ = (a.t ++ ([44, 32] ++ (b.t ++ ([44, 32] ++ (c.t ++ ([44, 32] ++ joinL [44, 32] ((d :: r).map At.t))))))) ++ (if (a :: b :: c :: d :: r).length = 1 then [44, 41] else [41])
      rw [if_neg (by simp)]
      simp [comma]
    obtain ⟨_, q⟩ := part_eq (atoms_t a (ha a (by simp))) cx h3
    obtain ⟨_, q2⟩ := part_eq (atoms_t b (ha b (by simp))) cy (List.cons.inj q |>.2)
    exact (no_part nz (List.cons.inj q2 |>.2)).elim
end Sb

set_option Elab.async false
set_option linter.all false
set_option maxRecDepth 100000
set_option maxHeartbeats 1000000
/-! MeH: tuples of plain things beside rows; what ends contain. -/
namespace Pg
open PySem L2 Sb Vl
local macro_rules | `(tactic| walk_at "ev") => `(tactic| simp only [Vl.runV, Vl.mkEnv, Vl.Res.of, Vl.Res.quiet, Vl.Res.val, Vl.ioAt, Vl.fSeq, Vl.fIte, Vl.fAsg, Vl.fVar, Vl.fC, Vl.fOp, Vl.fIxO, Vl.fPutL, Vl.fRet, Vl.fRetW, Vl.fRetO, Vl.fRetN, Vl.fLst, Vl.fTup, Vl.fB, Vl.fTru, Vl.fCB, Vl.fCons, Vl.fNil, Vl.o1, Vl.o2, Vl.oI, Vl.oIC, Vl.slotL, Vl.slotO, Vl.own, Vl.Pat.put, Vl.Pat.puts, Vl.Out.bind, Vl.Out.opt, Vl.fNx, Vl.fCt, Vl.fBk, Vl.fPar, Vl.fCall, Vl.fCallN, Vl.fCallL, Vl.fSetN, Vl.gIo, Vl.gCn, Vl.gNl, Vl.agDs, Vl.agD, Vl.ioSlots, Vl.putAll, Vl.put1, Vl.Ag.isIo, Vl.fAnd, Vl.fOr, Vl.fNot, Vl.fAndT, Vl.fOrT, Vl.fNotT, Vl.fChain, Vl.fIsi, Vl.fIsi2, Vl.fUn, Vl.fDrop, Vl.fApp, Vl.fLenO, Vl.fMake, Vl.fRaise, Vl.fFldS, Vl.fDInO, Vl.fDPutO, Vl.fDGetO, Vl.fPop, Vl.fListD, Vl.fDOne, Vl.fDNewK, Vl.isi, Vl.bOf, Vl.sOf, Vl.fFmt, Vl.fJs, Vl.oFmt, Vl.fM1, Vl.fM0, Vl.fFor, Vl.fItems, Vl.fEnum, Vl.fSl, Vl.fPart, Vl.fNoPart, Vl.fNeg, Vl.fAugI, Vl.fInO, Vl.fYes, Vl.fTruO, Vl.fComp, Vl.fCompO, Vl.calmE, Vl.wipeE, Vl.backE, Vl.oIsN, Vl.oStr, ↓Vl.fRng1_one, Vl.oLen_lst, Vl.oLen_tup, Vl.oLen_ctup, Vl.oLen_scr, Vl.oIx_lst, Vl.oIx_tup, Vl.oIx_ctup, Vl.oIx_scr, Vl.oInt_int, Vl.oInt_bl, Vl.oAbs_int, Vl.oMax_int, Vl.oMin_int, Vl.oTuple_lst, Vl.oTuple_tup, Vl.oList_lst, Vl.oList_tup, Vl.oNeg_int, Vl.ty_non, Vl.ty_bl, Vl.ty_int, Vl.ty_str, Vl.ty_tup, Vl.ty_ctup, Vl.ty_lst, Vl.ty_dk, Vl.ty_scr, Vl.tru_non, Vl.tru_bl, Vl.tru_int, Vl.tru_lst, Vl.tru_tup, Vl.oEqS_int, Vl.oEqS_str, Vl.oEqS_bl, Vl.oCat_lst, Vl.oCatA_tup, Vl.oSlT_tup, Vl.oSlL_lst, Vl.keyOf_int, Vl.keyOf_str, Vl.isNon_non, Vl.isNon_bl, Vl.isNon_int, Vl.isNon_str, Vl.isNon_tup, Vl.isNon_lst, Vl.oFld_ob, Vl.isOb_ob', Vl.atI_0, Vl.atI_1, Vl.atI_2, Vl.atI_3, Vl.ixN_0, Vl.ixN_1, Vl.ixN_2, List.zipWith, List.replicate, List.append, List.cons_append, List.nil_append, List.append_nil, List.getElem?_cons_zero, List.getElem?_cons_succ, List.getElem?_nil, List.set_cons_zero, List.set_cons_succ, List.length_cons, List.length_nil, List.map_cons, List.map_nil, List.nodup_cons, List.nodup_nil, List.not_mem_nil, List.reverse_cons, List.reverse_nil, Bool.false_eq_true, ite_true, ite_false, if_true, if_false, reduceIte, decide_true, decide_false, Bool.true_and, Bool.and_true, Bool.false_and, Bool.and_false, Bool.not_true, Bool.not_false, Bool.or_false, Bool.false_or, Bool.or_true, Bool.true_or, reduceCtorEq, not_false_eq_true, not_true_eq_false, and_self, and_true, true_and, or_false, or_true, Nat.reduceSub, Nat.reduceAdd, Nat.reduceLeDiff, Nat.zero_add, Option.map_some, Option.map_none, Option.bind_some, Option.bind_none, Option.isSome_some, Option.isSome_none, List.mem_cons, List.all_cons, List.all_nil, eq_self, Int.cast_ofNat_Int, Int.natCast_zero, Int.natCast_one, Int.reduceEq, Int.reduceLT, Int.reduceLE, Int.reduceAdd, Int.reduceSub, Int.reduceNeg, Nat.reduceEqDiff, *])
local macro_rules | `(tactic| walk_at "e0") => `(tactic| simp only [Vl.runV, Vl.mkEnv, Vl.Res.of, Vl.Res.quiet, Vl.Res.val, Vl.ioAt, Vl.fSeq, Vl.fIte, Vl.fAsg, Vl.fVar, Vl.fC, Vl.fOp, Vl.fIxO, Vl.fPutL, Vl.fRet, Vl.fRetW, Vl.fRetO, Vl.fRetN, Vl.fLst, Vl.fTup, Vl.fB, Vl.fTru, Vl.fCB, Vl.fCons, Vl.fNil, Vl.o1, Vl.o2, Vl.oI, Vl.oIC, Vl.slotL, Vl.slotO, Vl.own, Vl.Pat.put, Vl.Pat.puts, Vl.Out.bind, Vl.Out.opt, Vl.fNx, Vl.fCt, Vl.fBk, Vl.fPar, Vl.fCall, Vl.fCallN, Vl.fCallL, Vl.fSetN, Vl.gIo, Vl.gCn, Vl.gNl, Vl.agDs, Vl.agD, Vl.ioSlots, Vl.putAll, Vl.put1, Vl.Ag.isIo, Vl.fAnd, Vl.fOr, Vl.fNot, Vl.fAndT, Vl.fOrT, Vl.fNotT, Vl.fChain, Vl.fIsi, Vl.fIsi2, Vl.fUn, Vl.fDrop, Vl.fApp, Vl.fLenO, Vl.fMake, Vl.fRaise, Vl.fFldS, Vl.fDInO, Vl.fDPutO, Vl.fDGetO, Vl.fPop, Vl.fListD, Vl.fDOne, Vl.fDNewK, Vl.isi, Vl.bOf, Vl.sOf, Vl.fFmt, Vl.fJs, Vl.oFmt, Vl.fM1, Vl.fM0, Vl.fFor, Vl.fItems, Vl.fEnum, Vl.fSl, Vl.fPart, Vl.fNoPart, Vl.fNeg, Vl.fAugI, Vl.fInO, Vl.fYes, Vl.fTruO, Vl.fComp, Vl.fCompO, Vl.calmE, Vl.wipeE, Vl.backE, Vl.oIsN, Vl.oStr, ↓Vl.fRng1_one, Vl.oLen_lst, Vl.oLen_tup, Vl.oLen_ctup, Vl.oLen_scr, Vl.oIx_lst, Vl.oIx_tup, Vl.oIx_ctup, Vl.oIx_scr, Vl.oInt_int, Vl.oInt_bl, Vl.oAbs_int, Vl.oMax_int, Vl.oMin_int, Vl.oTuple_lst, Vl.oTuple_tup, Vl.oList_lst, Vl.oList_tup, Vl.oNeg_int, Vl.ty_non, Vl.ty_bl, Vl.ty_int, Vl.ty_str, Vl.ty_tup, Vl.ty_ctup, Vl.ty_lst, Vl.ty_dk, Vl.ty_scr, Vl.tru_non, Vl.tru_bl, Vl.tru_int, Vl.tru_lst, Vl.tru_tup, Vl.oEqS_int, Vl.oEqS_str, Vl.oEqS_bl, Vl.oCat_lst, Vl.oCatA_tup, Vl.oSlT_tup, Vl.oSlL_lst, Vl.keyOf_int, Vl.keyOf_str, Vl.isNon_non, Vl.isNon_bl, Vl.isNon_int, Vl.isNon_str, Vl.isNon_tup, Vl.isNon_lst, Vl.oFld_ob, Vl.isOb_ob', Vl.atI_0, Vl.atI_1, Vl.atI_2, Vl.atI_3, Vl.ixN_0, Vl.ixN_1, Vl.ixN_2, List.zipWith, List.replicate, List.append, List.cons_append, List.nil_append, List.append_nil, List.getElem?_cons_zero, List.getElem?_cons_succ, List.getElem?_nil, List.set_cons_zero, List.set_cons_succ, List.length_cons, List.length_nil, List.map_cons, List.map_nil, List.nodup_cons, List.nodup_nil, List.not_mem_nil, List.reverse_cons, List.reverse_nil, Bool.false_eq_true, ite_true, ite_false, if_true, if_false, reduceIte, decide_true, decide_false, Bool.true_and, Bool.and_true, Bool.false_and, Bool.and_false, Bool.not_true, Bool.not_false, Bool.or_false, Bool.false_or, Bool.or_true, Bool.true_or, reduceCtorEq, not_false_eq_true, not_true_eq_false, and_self, and_true, true_and, or_false, or_true, Nat.reduceSub, Nat.reduceAdd, Nat.reduceLeDiff, Nat.zero_add, Option.map_some, Option.map_none, Option.bind_some, Option.bind_none, Option.isSome_some, Option.isSome_none, List.mem_cons, List.all_cons, List.all_nil, eq_self, Int.cast_ofNat_Int, Int.natCast_zero, Int.natCast_one, Int.reduceEq, Int.reduceLT, Int.reduceLE, Int.reduceAdd, Int.reduceSub, Int.reduceNeg, Nat.reduceEqDiff])
def atD : At → D
  | .int i => .int i
  | .str s => .str s
  | .bl b => .bl b
  | .non => .non
def okAt : At → Prop
  | .str s => PyData.strOk s = true
  | _ => True
theorem atD_py (a : At) : (atD a).py = a.d := by cases a <;> simp [atD, D.py, At.d]
def atsD (as : List At) : List D := as.map atD
theorem atsD_py : ∀ as : List At, D.pyAll (atsD as) = as.map At.d
  | [] => by simp [atsD, D.pyAll]
  | a :: as => by
    have := atsD_py as
    simp only [atsD] at this
    simp [atsD, D.pyAll, atD_py, this]
theorem atD_eokN {a : At} (h : okAt a) : eokN 0 (atD a) := by
  cases a with
  | int i => exact eokN_int i
  | str s => exact eokN_str h
  | bl b => exact eokN_bl b
  | non => exact eokN_non
theorem plD_ats (p : Pl) : plD p = atD p.at := by cases p <;> rfl
theorem rowD_ats (r : Row) : rowD r = .tup (atsD r.ats) := by
  obtain ⟨p, a, b⟩ := r
  show D.tup [.int (p : Int), plD a, plD b] = _
  rw [plD_ats, plD_ats]
  rfl
theorem atsD_eokN {as : List At} (h : ∀ a, a ∈ as → okAt a) : eokN 1 (.tup (atsD as)) := eokN_tup fun d hd => by
  obtain ⟨a, ha, rfl⟩ := List.mem_map.mp hd
  exact atD_eokN (h a ha)
/-- without truths they are equal if they are the same -/
theorem eqv_at {a b : At} (ha : a.isB = false) (hb : b.isB = false) : PyData.eqv a.d b.d = decide (a = b) := by
  cases a <;> cases b <;> first | (cases ha; done) | (cases hb; done) | simp [At.d, PyData.eqv] <;> exact Bool.beq_eq_decide_eq _ _
theorem eqv_ats : ∀ {as bs : List At}, as.any At.isB = false → bs.any At.isB = false → PyData.eqvAll (as.map At.d) (bs.map At.d) = decide (as = bs)
  | [], [], _, _ => by simp [PyData.eqvAll]
  | [], _ :: _, _, _ => by simp [PyData.eqvAll]
  | _ :: _, [], _, _ => by simp [PyData.eqvAll]
  | a :: as, b :: bs, ha, hb => by
    rw [List.any_cons, Bool.or_eq_false_iff] at ha hb
    have ih := eqv_ats ha.2 hb.2
    have e : PyData.eqvAll ((a :: as).map At.d) ((b :: bs).map At.d) = (PyData.eqv a.d b.d && PyData.eqvAll (as.map At.d) (bs.map At.d)) := by simp [PyData.eqvAll]
    rw [e, ih, eqv_at ha.1 hb.1]
    by_cases h1 : a = b
    · by_cases h2 : as = bs <;> simp [h1, h2]
    · simp [h1]
theorem ats_noB (r : Row) : r.ats.any At.isB = false := by
  obtain ⟨p, a, b⟩ := r
  cases a <;> cases b <;> rfl
theorem eqv_row {as : List At} (h : as.any At.isB = false) (r : Row) : PyData.eqv (rowD r).py (D.tup (atsD as)).py = decide (as = r.ats) := by
  have e : PyData.eqv (rowD r).py (D.tup (atsD as)).py = PyData.eqvAll (r.ats.map At.d) (as.map At.d) := by
    rw [rowD_ats]
    simp only [D.py, atsD_py, PyData.eqv]
  rw [e, eqv_ats (ats_noB r) h]
  by_cases c : as = r.ats
  · subst c
    simp
  · rw [decide_eq_false c, decide_eq_false fun z => c z.symm]
/-- what is looked for in an end -/
inductive Th where
  | t (as : List At) | l (as : List At) | n (r : Row)
def Th.D : Th → D
  | .t as => .tup (atsD as)
  | .l as => .lst (atsD as)
  | .n r => .tup [rowD r]
def Th.is (x : Th) (r : Row) : Bool := match x with
  | .t as => decide (as = r.ats)
  | _ => false
def Th.Ok : Th → Prop
  | .t as => ∀ a, a ∈ as → okAt a
  | .l as => True
  | .n r => eokN 1 (rowD r)
theorem in_rows {n : Nat} {ws : List Str} (h : okWords ws) {rs : List Row} (hr : ∀ r, r ∈ rs → r.Ok n ws) {x : Th} (hx : x.Ok) (hb : ∀ as, x = .t as → as.any At.isB = false) (hl : ∀ as, x ≠ .l as) : oInT false x.D (.tup (rowsD rs)) = some (.bl (rs.any x.is)) := by
  have e1 : (D.tup (rowsD rs)).eok = true := rows_tup_eok h hr
  have e2 : x.D.eok = true := by
    cases x with
    | t as => exact (atsD_eokN hx).eok (by omega)
    | l as => exact absurd rfl (hl as)
    | n r => exact (eokN_tup (n := 1) fun d hd => by simp at hd; subst hd; exact hx).eok (by omega)
  unfold oInT
  simp only []
  rw [if_pos (by rw [e1, e2]; rfl)]
  simp only [Bool.false_eq_true, if_false]
  congr 2
  unfold rowsD
  rw [List.any_map]
  apply List.any_congr rfl
  intro r
  show PyData.eqv (rowD r).py x.D.py = x.is r
  cases x with
  | t as => exact eqv_row (hb as rfl) r
  | l as => exact absurd rfl (hl as)
  | n r' =>
    show PyData.eqv (rowD r).py (D.tup [rowD r']).py = false
    rw [rowD_ats]
    obtain ⟨p, a, b⟩ := r
    simp [D.py, atsD_py, PyData.eqv, D.pyAll, Row.ats, PyData.eqvAll]
theorem isi_tup : isi .tuple .tuple = true := rfl
theorem bls_of (l : List Bool) : blsOf (l.map D.bl) = some l := by
  induction l with
  | nil => rfl
  | cons b l ih =>
    show (blsOf (l.map D.bl)).map (b :: ·) = _
    rw [ih]
    rfl
theorem any_ats (as : List At) : oAny (.lst (as.map fun a => D.bl a.isB)) = some (.bl (as.any At.isB)) := by
  have e : (as.map fun a => D.bl a.isB) = (as.map At.isB).map D.bl := by rw [List.map_map]; rfl
  rw [e]
  show Option.map (fun bs => D.bl (bs.any id)) (blsOf ((as.map At.isB).map D.bl)) = _
  rw [bls_of, Option.map_some, List.any_map]
  rfl
theorem isB_elt {e d : D} {a : At} : E_End_contains_1 [.sh e, .sh d, .sh (atD a)] = .val (.bl a.isB) [.sh e, .sh d, .sh (atD a)] := by
  cases a <;> rfl
theorem isB_all (e d : D) (as : List At) (hl : as.length ≤ 1000) : ∃ s, compF (.nm 2) fYes E_End_contains_1 [2] (atsD as) [] [.sh e, .sh d, .un] = .val (as.map fun a => D.bl a.isB) [.sh e, .sh d, s] := by
  obtain ⟨acc, env', h, s, rfl, rfl⟩ := comp_ok (p := .nm 2) (ft := fYes) (fe := E_End_contains_1) (vs := [2]) (ds := atsD as) (fun i acc env => ∃ s, acc = ((as.take i).map fun a => D.bl a.isB) ∧ env = [.sh e, .sh d, s]) (fun i y acc env hd hi => by
    obtain ⟨s, rfl, rfl⟩ := hi
    unfold atsD at hd
    rw [List.getElem?_map] at hd
    cases ha : as[i]? with
    | none =>
      rw [ha] at hd
      cases hd
    | some a =>
      rw [ha] at hd
      cases hd
      refine ⟨_, true, _, rfl, rfl, fun _ => ⟨_, _, isB_elt, ?_, _, ?_, rfl⟩, fun z => by cases z⟩
      · rw [List.length_map, List.length_take]
        have := (List.getElem?_eq_some_iff.mp ha).1
        exact Nat.lt_of_le_of_lt (show min i as.length ≤ 1000 by omega) (by decide)
      · rw [List.take_succ, ha, List.map_append]
        rfl) (env := [.sh e, .sh d, .un]) ⟨.un, by rw [List.take_zero]; rfl, rfl⟩
  have et : as.take (atsD as).length = as := by
    unfold atsD
    rw [List.length_map, List.take_length]
  rw [et] at h
  exact ⟨s, h⟩
theorem endD_0 (hs ss : List Row) : oFld "End" 0 (endD hs ss) = some (.tup (rowsD hs)) := rfl
theorem endD_1 (hs ss : List Row) : oFld "End" 1 (endD hs ss) = some (.tup (rowsD ss)) := rfl
/-- a tuple of things that are no truths, once it is known whether it is in the one or the other -/
theorem contains_2 {e : D} {l H S : List D} {h s : Bool} {t : Slot} {bs : List D} {b : Bool} (e0 : oFld "End" 0 e = some (.tup H)) (e1 : oFld "End" 1 e = some (.tup S)) (hc : compF (.nm 2) fYes E_End_contains_1 [2] l [] [.sh e, .sh (.tup l), .un] = .val bs [.sh e, .sh (.tup l), t]) (ha : oAny (.lst bs) = some (.bl b))
    (h0 : b = false → oInT false (.tup l) (.tup H) = some (.bl h)) (h1 : b = false → oInT false (.tup l) (.tup S) = some (.bl s)) : Φ_End_contains [e, .tup l] = .ret false (.bl (!b && (h || s))) [.non, .non] := by
  unfold Φ_End_contains F_End_contains
  cases b with
  | true =>
    clear h0 h1
    have z := isi_tup
    walk_at "ev"
  | false =>
    have h0 := h0 rfl
    have h1 := h1 rfl
    have z := isi_tup
    cases h <;> cases s <;> walk_at "ev"
theorem contains_no {e d : D} {t : Ty} (h : d.ty = some t) (ht : isi t .tuple = false) : Φ_End_contains [e, d] = .ret false (.bl false) [.non, .non] := by
  unfold Φ_End_contains F_End_contains
  cases t <;> first | (cases ht; done) | walk_at "ev"
theorem is_noB {as : List At} {rs : List Row} (h : as.any At.isB = true) : rs.any (Th.t as).is = false := by
  rw [List.any_eq_false]
  intro r _ z
  have z := of_decide_eq_true z
  rw [z, ats_noB] at h
  cases h
theorem contains_ok {hs ss : List Row} (k1 : HearerOk hs) (k2 : SenderOk ss) {x : Th} (hx : x.Ok) (hn : ∀ as, x = .t as → as.length ≤ 1000) : Φ_End_contains [endD hs ss, x.D] = .ret false (.bl ((hs ++ ss).any x.is)) [.non, .non] := by
  rw [List.any_append]
  cases x with
  | t as =>
    obtain ⟨s, hc⟩ := isB_all (endD hs ss) (.tup (atsD as)) as (hn as rfl)
    have h := contains_2 (h := hs.any (Th.t as).is) (s := ss.any (Th.t as).is) (endD_0 hs ss) (endD_1 hs ss) hc (any_ats as) (fun hb => in_rows (x := .t as) (.inl rfl) k1.2.2.1 hx (fun as' z => by cases z; exact hb) (fun _ z => by cases z)) (fun hb => in_rows (x := .t as) (.inr rfl) k2.2.2 hx (fun as' z => by cases z; exact hb) (fun _ z => by cases z))
    refine h.trans ?_
    cases hb : as.any At.isB with
    | false => rfl
    | true =>
      rw [is_noB hb, is_noB hb]
      rfl
  | l as =>
    have e : ∀ rs : List Row, rs.any (Th.l as).is = false := fun rs => by
      rw [List.any_eq_false]
      intro r _ z
      cases z
    rw [e, e]
    exact contains_no (t := .list) rfl rfl
  | n r =>
    have e : ∀ rs : List Row, rs.any (Th.n r).is = false := fun rs => by
      rw [List.any_eq_false]
      intro r _ z
      cases z
    have h := contains_2 (t := .sh (rowD r)) (h := hs.any (Th.n r).is) (s := ss.any (Th.n r).is) (b := false) (bs := [.bl false]) (l := [rowD r]) (endD_0 hs ss) (endD_1 hs ss) rfl rfl (fun hb => in_rows (x := .n r) (.inl rfl) k1.2.2.1 hx (fun as' z => by cases z) (fun _ z => by cases z)) (fun hb => in_rows (x := .n r) (.inr rfl) k2.2.2 hx (fun as' z => by cases z) (fun _ z => by cases z))
    exact h
end Pg

set_option Elab.async false
set_option linter.all false
set_option maxRecDepth 100000
set_option maxHeartbeats 1000000
/-! MeI: the texts of ends. -/
namespace Pg
open PySem L2 Sb Vl
local macro_rules | `(tactic| walk_at "ev") => `(tactic| simp only [Vl.runV, Vl.mkEnv, Vl.Res.of, Vl.Res.quiet, Vl.Res.val, Vl.ioAt, Vl.fSeq, Vl.fIte, Vl.fAsg, Vl.fVar, Vl.fC, Vl.fOp, Vl.fIxO, Vl.fPutL, Vl.fRet, Vl.fRetW, Vl.fRetO, Vl.fRetN, Vl.fLst, Vl.fTup, Vl.fB, Vl.fTru, Vl.fCB, Vl.fCons, Vl.fNil, Vl.o1, Vl.o2, Vl.oI, Vl.oIC, Vl.slotL, Vl.slotO, Vl.own, Vl.Pat.put, Vl.Pat.puts, Vl.Out.bind, Vl.Out.opt, Vl.fNx, Vl.fCt, Vl.fBk, Vl.fPar, Vl.fCall, Vl.fCallN, Vl.fCallL, Vl.fSetN, Vl.gIo, Vl.gCn, Vl.gNl, Vl.agDs, Vl.agD, Vl.ioSlots, Vl.putAll, Vl.put1, Vl.Ag.isIo, Vl.fAnd, Vl.fOr, Vl.fNot, Vl.fAndT, Vl.fOrT, Vl.fNotT, Vl.fChain, Vl.fIsi, Vl.fIsi2, Vl.fUn, Vl.fDrop, Vl.fApp, Vl.fLenO, Vl.fMake, Vl.fRaise, Vl.fFldS, Vl.fDInO, Vl.fDPutO, Vl.fDGetO, Vl.fPop, Vl.fListD, Vl.fDOne, Vl.fDNewK, Vl.isi, Vl.bOf, Vl.sOf, Vl.fFmt, Vl.fJs, Vl.oFmt, Vl.fM1, Vl.fM0, Vl.fFor, Vl.fItems, Vl.fEnum, Vl.fSl, Vl.fPart, Vl.fNoPart, Vl.fNeg, Vl.fAugI, Vl.fInO, Vl.fYes, Vl.fTruO, Vl.fComp, Vl.fCompO, Vl.calmE, Vl.wipeE, Vl.backE, Vl.oIsN, Vl.oStr, ↓Vl.fRng1_one, Vl.oLen_lst, Vl.oLen_tup, Vl.oLen_ctup, Vl.oLen_scr, Vl.oIx_lst, Vl.oIx_tup, Vl.oIx_ctup, Vl.oIx_scr, Vl.oInt_int, Vl.oInt_bl, Vl.oAbs_int, Vl.oMax_int, Vl.oMin_int, Vl.oTuple_lst, Vl.oTuple_tup, Vl.oList_lst, Vl.oList_tup, Vl.oNeg_int, Vl.ty_non, Vl.ty_bl, Vl.ty_int, Vl.ty_str, Vl.ty_tup, Vl.ty_ctup, Vl.ty_lst, Vl.ty_dk, Vl.ty_scr, Vl.tru_non, Vl.tru_bl, Vl.tru_int, Vl.tru_lst, Vl.tru_tup, Vl.oEqS_int, Vl.oEqS_str, Vl.oEqS_bl, Vl.oCat_lst, Vl.oCatA_tup, Vl.oSlT_tup, Vl.oSlL_lst, Vl.keyOf_int, Vl.keyOf_str, Vl.isNon_non, Vl.isNon_bl, Vl.isNon_int, Vl.isNon_str, Vl.isNon_tup, Vl.isNon_lst, Vl.oFld_ob, Vl.isOb_ob', Vl.atI_0, Vl.atI_1, Vl.atI_2, Vl.atI_3, Vl.ixN_0, Vl.ixN_1, Vl.ixN_2, List.zipWith, List.replicate, List.append, List.cons_append, List.nil_append, List.append_nil, List.getElem?_cons_zero, List.getElem?_cons_succ, List.getElem?_nil, List.set_cons_zero, List.set_cons_succ, List.length_cons, List.length_nil, List.map_cons, List.map_nil, List.nodup_cons, List.nodup_nil, List.not_mem_nil, List.reverse_cons, List.reverse_nil, Bool.false_eq_true, ite_true, ite_false, if_true, if_false, reduceIte, decide_true, decide_false, Bool.true_and, Bool.and_true, Bool.false_and, Bool.and_false, Bool.not_true, Bool.not_false, Bool.or_false, Bool.false_or, Bool.or_true, Bool.true_or, reduceCtorEq, not_false_eq_true, not_true_eq_false, and_self, and_true, true_and, or_false, or_true, Nat.reduceSub, Nat.reduceAdd, Nat.reduceLeDiff, Nat.zero_add, Option.map_some, Option.map_none, Option.bind_some, Option.bind_none, Option.isSome_some, Option.isSome_none, List.mem_cons, List.all_cons, List.all_nil, eq_self, Int.cast_ofNat_Int, Int.natCast_zero, Int.natCast_one, Int.reduceEq, Int.reduceLT, Int.reduceLE, Int.reduceAdd, Int.reduceSub, Int.reduceNeg, Nat.reduceEqDiff, *])
local macro_rules | `(tactic| walk_at "e0") => `(tactic| simp only [Vl.runV, Vl.mkEnv, Vl.Res.of, Vl.Res.quiet, Vl.Res.val, Vl.ioAt, Vl.fSeq, Vl.fIte, Vl.fAsg, Vl.fVar, Vl.fC, Vl.fOp, Vl.fIxO, Vl.fPutL, Vl.fRet, Vl.fRetW, Vl.fRetO, Vl.fRetN, Vl.fLst, Vl.fTup, Vl.fB, Vl.fTru, Vl.fCB, Vl.fCons, Vl.fNil, Vl.o1, Vl.o2, Vl.oI, Vl.oIC, Vl.slotL, Vl.slotO, Vl.own, Vl.Pat.put, Vl.Pat.puts, Vl.Out.bind, Vl.Out.opt, Vl.fNx, Vl.fCt, Vl.fBk, Vl.fPar, Vl.fCall, Vl.fCallN, Vl.fCallL, Vl.fSetN, Vl.gIo, Vl.gCn, Vl.gNl, Vl.agDs, Vl.agD, Vl.ioSlots, Vl.putAll, Vl.put1, Vl.Ag.isIo, Vl.fAnd, Vl.fOr, Vl.fNot, Vl.fAndT, Vl.fOrT, Vl.fNotT, Vl.fChain, Vl.fIsi, Vl.fIsi2, Vl.fUn, Vl.fDrop, Vl.fApp, Vl.fLenO, Vl.fMake, Vl.fRaise, Vl.fFldS, Vl.fDInO, Vl.fDPutO, Vl.fDGetO, Vl.fPop, Vl.fListD, Vl.fDOne, Vl.fDNewK, Vl.isi, Vl.bOf, Vl.sOf, Vl.fFmt, Vl.fJs, Vl.oFmt, Vl.fM1, Vl.fM0, Vl.fFor, Vl.fItems, Vl.fEnum, Vl.fSl, Vl.fPart, Vl.fNoPart, Vl.fNeg, Vl.fAugI, Vl.fInO, Vl.fYes, Vl.fTruO, Vl.fComp, Vl.fCompO, Vl.calmE, Vl.wipeE, Vl.backE, Vl.oIsN, Vl.oStr, ↓Vl.fRng1_one, Vl.oLen_lst, Vl.oLen_tup, Vl.oLen_ctup, Vl.oLen_scr, Vl.oIx_lst, Vl.oIx_tup, Vl.oIx_ctup, Vl.oIx_scr, Vl.oInt_int, Vl.oInt_bl, Vl.oAbs_int, Vl.oMax_int, Vl.oMin_int, Vl.oTuple_lst, Vl.oTuple_tup, Vl.oList_lst, Vl.oList_tup, Vl.oNeg_int, Vl.ty_non, Vl.ty_bl, Vl.ty_int, Vl.ty_str, Vl.ty_tup, Vl.ty_ctup, Vl.ty_lst, Vl.ty_dk, Vl.ty_scr, Vl.tru_non, Vl.tru_bl, Vl.tru_int, Vl.tru_lst, Vl.tru_tup, Vl.oEqS_int, Vl.oEqS_str, Vl.oEqS_bl, Vl.oCat_lst, Vl.oCatA_tup, Vl.oSlT_tup, Vl.oSlL_lst, Vl.keyOf_int, Vl.keyOf_str, Vl.isNon_non, Vl.isNon_bl, Vl.isNon_int, Vl.isNon_str, Vl.isNon_tup, Vl.isNon_lst, Vl.oFld_ob, Vl.isOb_ob', Vl.atI_0, Vl.atI_1, Vl.atI_2, Vl.atI_3, Vl.ixN_0, Vl.ixN_1, Vl.ixN_2, List.zipWith, List.replicate, List.append, List.cons_append, List.nil_append, List.append_nil, List.getElem?_cons_zero, List.getElem?_cons_succ, List.getElem?_nil, List.set_cons_zero, List.set_cons_succ, List.length_cons, List.length_nil, List.map_cons, List.map_nil, List.nodup_cons, List.nodup_nil, List.not_mem_nil, List.reverse_cons, List.reverse_nil, Bool.false_eq_true, ite_true, ite_false, if_true, if_false, reduceIte, decide_true, decide_false, Bool.true_and, Bool.and_true, Bool.false_and, Bool.and_false, Bool.not_true, Bool.not_false, Bool.or_false, Bool.false_or, Bool.or_true, Bool.true_or, reduceCtorEq, not_false_eq_true, not_true_eq_false, and_self, and_true, true_and, or_false, or_true, Nat.reduceSub, Nat.reduceAdd, Nat.reduceLeDiff, Nat.zero_add, Option.map_some, Option.map_none, Option.bind_some, Option.bind_none, Option.isSome_some, Option.isSome_none, List.mem_cons, List.all_cons, List.all_nil, eq_self, Int.cast_ofNat_Int, Int.natCast_zero, Int.natCast_one, Int.reduceEq, Int.reduceLT, Int.reduceLE, Int.reduceAdd, Int.reduceSub, Int.reduceNeg, Nat.reduceEqDiff])
theorem fmt_int {n : Nat} (h : n ≤ 1000) : oFmt (.int (n : Int)) = some (.str (Str.ofString (toString (n : Int)))) := if_pos (num_log h)
theorem fmt_pl {p : Pl} (h : smallPl p) : oFmt (plD p) = some (.str (plT p)) := by
  cases p with
  | num n => exact fmt_int h
  | word s => exact if_pos (Nat.le_trans (plT_len (p := .word s) h) (by decide))
theorem smallW {ws : List Str} (h : okWords ws) : isWords ws := by
  rcases h with rfl | rfl <;> first | exact .inl rfl | exact .inr rfl
theorem elt_text {m : D} {r : Row} (h : smallRow r) : E_machine_text_1 [.sh m, .sh (.int (r.put : Int)), .sh (plD r.a), .sh (plD r.b)] = .val (.str (rowT r)) [.sh m, .sh (.int (r.put : Int)), .sh (plD r.a), .sh (plD r.b)] := by
  have f1 := fmt_int h.1
  have f2 := fmt_pl h.2.1
  have f3 := fmt_pl h.2.2
  have l1 := num_len h.1
  have l2 := plT_len h.2.1
  have l3 := plT_len h.2.2
  have e : (" " : Str).length = 1 := by decide +kernel
  have e0 : Str.empty.length = 0 := by decide +kernel
  have big : (1000 : Nat) ≤ sizeLine := by decide
  have er : rowT r = ((((Str.empty ++ Str.ofString (toString (r.put : Int))) ++ (" " : Str)) ++ plT r.a) ++ (" " : Str)) ++ plT r.b := rfl
  rw [er]
  generalize Str.ofString (toString (r.put : Int)) = t1 at f1 l1 ⊢
  generalize plT r.a = t2 at f2 l2 ⊢
  generalize plT r.b = t3 at f3 l3 ⊢
  generalize plD r.a = d2 at f2 ⊢
  generalize plD r.b = d3 at f3 ⊢
  generalize D.int (r.put : Int) = d1 at f1 ⊢
  have c1 : ((Str.empty ++ t1).length ≤ sizeLine) = True := eq_true (Nat.le_trans (by rw [strLen_append, e0]; omega : _ ≤ 1000) big)
  have c2 : ((Str.empty ++ t1 ++ (" " : Str)).length ≤ sizeLine) = True := eq_true (Nat.le_trans (by rw [strLen_append, strLen_append, e, e0]; omega : _ ≤ 1000) big)
  have c3 : ((Str.empty ++ t1 ++ (" " : Str) ++ t2).length ≤ sizeLine) = True := eq_true (Nat.le_trans (by rw [strLen_append, strLen_append, strLen_append, e, e0]; omega : _ ≤ 1000) big)
  have c4 : ((Str.empty ++ t1 ++ (" " : Str) ++ t2 ++ (" " : Str)).length ≤ sizeLine) = True := eq_true (Nat.le_trans (by rw [strLen_append, strLen_append, strLen_append, strLen_append, e, e0]; omega : _ ≤ 1000) big)
  have c5 : ((Str.empty ++ t1 ++ (" " : Str) ++ t2 ++ (" " : Str) ++ t3).length ≤ sizeLine) = True := eq_true (Nat.le_trans (by rw [strLen_append, strLen_append, strLen_append, strLen_append, strLen_append, e, e0]; omega : _ ≤ 1000) big)
  clear l1 l2 l3 h e e0 big er
  unfold E_machine_text_1 fFmt
  generalize oFmt = o at f1 f2 f3 ⊢
  walk_at "ev"
theorem strs_of (l : List Str) : strsOf (l.map D.str) = some l := by
  induction l with
  | nil => rfl
  | cons b l ih =>
    show (strsOf (l.map D.str)).map (b :: ·) = _
    rw [ih]
    rfl
theorem text_ok {rs : List Row} (h : ∀ r, r ∈ rs → smallRow r) (hn : rs.length ≤ 1000) : Φ_machine_text [.tup (rowsD rs)] = .ret false (.str (machT rs)) [.non] := by
  obtain ⟨acc, env', hc, s1, s2, s3, rfl, rfl⟩ := comp_ok (p := .tp [(.nm 1), (.nm 2), (.nm 3)]) (ft := fYes) (fe := E_machine_text_1) (vs := [1, 2, 3]) (ds := rowsD rs) (fun i acc env => ∃ s1 s2 s3, acc = (((rs.take i).map rowT).map D.str) ∧ env = [.sh (.tup (rowsD rs)), s1, s2, s3]) (fun i y acc env hd hi => by
    obtain ⟨s1, s2, s3, rfl, rfl⟩ := hi
    obtain ⟨r, hr, rfl⟩ := rowsD_get hd
    refine ⟨[.sh (.tup (rowsD rs)), .sh (.int (r.put : Int)), .sh (plD r.a), .sh (plD r.b)], true, _, rfl, rfl, fun _ => ⟨_, _, elt_text (h r (List.mem_of_getElem? hr)), ?_, _, _, _, ?_, rfl⟩, fun z => by cases z⟩
    · rw [List.length_map, List.length_map, List.length_take]
      have := (List.getElem?_eq_some_iff.mp hr).1
      exact Nat.lt_of_le_of_lt (show min i rs.length ≤ 1000 by omega) (by decide)
    · rw [List.take_succ, hr, List.map_append, List.map_append]
      rfl) (env := [.sh (.tup (rowsD rs)), .un, .un, .un]) ⟨.un, .un, .un, by rw [List.take_zero]; rfl, rfl⟩
  have et : rs.take (rowsD rs).length = rs := by rw [rowsD_len, List.take_length]
  rw [et] at hc
  have hj : oJoin (", " : Str) (.lst ((rs.map rowT).map D.str)) = some (.str (machT rs)) := by
    show (strsOf _).bind _ = _
    rw [strs_of, Option.bind_some]
    have l1 := machT_len h
    have e : (", " : Str).length = 2 := by decide +kernel
    exact if_pos (by rw [List.length_map, e]; omega)
  unfold Φ_machine_text F_machine_text
  clear h hn et
  walk_at "ev"
theorem str_ok {hs ss : List Row} (k1 : HearerOk hs) (k2 : SenderOk ss) : Φ_End_str [endD hs ss] = .ret false (.str (endT hs ss)) [.non] := by
  have s1 : ∀ r, r ∈ hs → smallRow r := fun r hr => smallRow_of (smallW (.inl rfl)) (Nat.le_trans k1.2.1 (by decide)) (k1.2.2.1 r hr)
  have s2 : ∀ r, r ∈ ss → smallRow r := fun r hr => smallRow_of (smallW (.inr rfl)) (Nat.le_trans k2.2.1 (by decide)) (k2.2.2 r hr)
  have t1 := text_ok s1 (Nat.le_trans k1.2.1 (by decide))
  have t2 := text_ok s2 (Nat.le_trans k2.2.1 (by decide))
  have l1 := machT_fits s1 (Nat.le_trans k1.2.1 (by decide))
  have l2 := machT_fits s2 (Nat.le_trans k2.2.1 (by decide))
  have e : (" | " : Str).length = 3 := by decide +kernel
  have e0 : Str.empty.length = 0 := by decide +kernel
  have big : (100000 : Nat) ≤ sizeLine := by decide
  have er : endT hs ss = ((Str.empty ++ machT hs) ++ (" | " : Str)) ++ machT ss := rfl
  have f1 := endD_0 hs ss
  have f2 := endD_1 hs ss
  rw [er]
  generalize machT hs = m1 at t1 l1 ⊢
  generalize machT ss = m2 at t2 l2 ⊢
  generalize endD hs ss = d at f1 f2 ⊢
  have g1 : oFmt (.str m1) = some (.str m1) := if_pos (Nat.le_trans (by omega : _ ≤ 100000) big)
  have g2 : oFmt (.str m2) = some (.str m2) := if_pos (Nat.le_trans (by omega : _ ≤ 100000) big)
  have c0 : (m1.length ≤ sizeLine) = True := eq_true (Nat.le_trans (by omega : _ ≤ 100000) big)
  have c00 : (m2.length ≤ sizeLine) = True := eq_true (Nat.le_trans (by omega : _ ≤ 100000) big)
  have c1 : ((Str.empty ++ m1).length ≤ sizeLine) = True := eq_true (Nat.le_trans (by rw [strLen_append, e0]; omega : _ ≤ 100000) big)
  have c2 : ((Str.empty ++ m1 ++ (" | " : Str)).length ≤ sizeLine) = True := eq_true (Nat.le_trans (by rw [strLen_append, strLen_append, e, e0]; omega : _ ≤ 100000) big)
  have c3 : ((Str.empty ++ m1 ++ (" | " : Str) ++ m2).length ≤ sizeLine) = True := eq_true (Nat.le_trans (by rw [strLen_append, strLen_append, strLen_append, e, e0]; omega : _ ≤ 100000) big)
  clear s1 s2 l1 l2 e e0 big er k1 k2 g1 g2
  unfold Φ_End_str F_End_str
  walk_at "ev"
end Pg

set_option Elab.async false
set_option linter.all false
set_option maxRecDepth 100000
set_option maxHeartbeats 1000000
/-! MeN: texts read: numbers, places, rows. -/
namespace Pg
open PySem L2 Sb Vl
open Sb hiding plD rowD rowsD
local macro_rules | `(tactic| walk_at "ev") => `(tactic| simp only [Vl.runV, Vl.mkEnv, Vl.Res.of, Vl.Res.quiet, Vl.Res.val, Vl.ioAt, Vl.fSeq, Vl.fIte, Vl.fAsg, Vl.fVar, Vl.fC, Vl.fOp, Vl.fIxO, Vl.fPutL, Vl.fRet, Vl.fRetW, Vl.fRetO, Vl.fRetN, Vl.fLst, Vl.fTup, Vl.fB, Vl.fTru, Vl.fCB, Vl.fCons, Vl.fNil, Vl.o1, Vl.o2, Vl.oI, Vl.oIC, Vl.slotL, Vl.slotO, Vl.own, Vl.Pat.put, Vl.Pat.puts, Vl.Out.bind, Vl.Out.opt, Vl.fNx, Vl.fCt, Vl.fBk, Vl.fPar, Vl.fCall, Vl.fCallN, Vl.fCallL, Vl.fSetN, Vl.gIo, Vl.gCn, Vl.gNl, Vl.agDs, Vl.agD, Vl.ioSlots, Vl.putAll, Vl.put1, Vl.Ag.isIo, Vl.fAnd, Vl.fOr, Vl.fNot, Vl.fAndT, Vl.fOrT, Vl.fNotT, Vl.fChain, Vl.fIsi, Vl.fIsi2, Vl.fUn, Vl.fDrop, Vl.fApp, Vl.fLenO, Vl.fMake, Vl.fRaise, Vl.fFldS, Vl.fDInO, Vl.fDPutO, Vl.fDGetO, Vl.fPop, Vl.fListD, Vl.fDOne, Vl.fDNewK, Vl.isi, Vl.bOf, Vl.sOf, Vl.fFmt, Vl.fJs, Vl.oFmt, Vl.fM1, Vl.fM0, Vl.fFor, Vl.fItems, Vl.fEnum, Vl.fSl, Vl.fPart, Vl.fNoPart, Vl.fNeg, Vl.fAugI, Vl.fInO, Vl.fYes, Vl.fTruO, Vl.fComp, Vl.fCompO, Vl.calmE, Vl.wipeE, Vl.backE, Vl.oIsN, Vl.oStr, ↓Vl.fRng1_one, Vl.oLen_lst, Vl.oLen_tup, Vl.oLen_ctup, Vl.oLen_scr, Vl.oIx_lst, Vl.oIx_tup, Vl.oIx_ctup, Vl.oIx_scr, Vl.oInt_int, Vl.oInt_bl, Vl.oAbs_int, Vl.oMax_int, Vl.oMin_int, Vl.oTuple_lst, Vl.oTuple_tup, Vl.oList_lst, Vl.oList_tup, Vl.oNeg_int, Vl.ty_non, Vl.ty_bl, Vl.ty_int, Vl.ty_str, Vl.ty_tup, Vl.ty_ctup, Vl.ty_lst, Vl.ty_dk, Vl.ty_scr, Vl.tru_non, Vl.tru_bl, Vl.tru_int, Vl.tru_lst, Vl.tru_tup, Vl.oEqS_int, Vl.oEqS_str, Vl.oEqS_bl, Vl.oCat_lst, Vl.oCatA_tup, Vl.oSlT_tup, Vl.oSlL_lst, Vl.keyOf_int, Vl.keyOf_str, Vl.isNon_non, Vl.isNon_bl, Vl.isNon_int, Vl.isNon_str, Vl.isNon_tup, Vl.isNon_lst, Vl.oFld_ob, Vl.isOb_ob', Vl.atI_0, Vl.atI_1, Vl.atI_2, Vl.atI_3, Vl.ixN_0, Vl.ixN_1, Vl.ixN_2, List.zipWith, List.replicate, List.append, List.cons_append, List.nil_append, List.append_nil, List.getElem?_cons_zero, List.getElem?_cons_succ, List.getElem?_nil, List.set_cons_zero, List.set_cons_succ, List.length_cons, List.length_nil, List.map_cons, List.map_nil, List.nodup_cons, List.nodup_nil, List.not_mem_nil, List.reverse_cons, List.reverse_nil, Bool.false_eq_true, ite_true, ite_false, if_true, if_false, reduceIte, decide_true, decide_false, Bool.true_and, Bool.and_true, Bool.false_and, Bool.and_false, Bool.not_true, Bool.not_false, Bool.or_false, Bool.false_or, Bool.or_true, Bool.true_or, reduceCtorEq, not_false_eq_true, not_true_eq_false, and_self, and_true, true_and, or_false, or_true, Nat.reduceSub, Nat.reduceAdd, Nat.reduceLeDiff, Nat.zero_add, Option.map_some, Option.map_none, Option.bind_some, Option.bind_none, Option.isSome_some, Option.isSome_none, List.mem_cons, List.all_cons, List.all_nil, eq_self, Int.cast_ofNat_Int, Int.natCast_zero, Int.natCast_one, Int.reduceEq, Int.reduceLT, Int.reduceLE, Int.reduceAdd, Int.reduceSub, Int.reduceNeg, Nat.reduceEqDiff, *])
local macro_rules | `(tactic| walk_at "e0") => `(tactic| simp only [Vl.runV, Vl.mkEnv, Vl.Res.of, Vl.Res.quiet, Vl.Res.val, Vl.ioAt, Vl.fSeq, Vl.fIte, Vl.fAsg, Vl.fVar, Vl.fC, Vl.fOp, Vl.fIxO, Vl.fPutL, Vl.fRet, Vl.fRetW, Vl.fRetO, Vl.fRetN, Vl.fLst, Vl.fTup, Vl.fB, Vl.fTru, Vl.fCB, Vl.fCons, Vl.fNil, Vl.o1, Vl.o2, Vl.oI, Vl.oIC, Vl.slotL, Vl.slotO, Vl.own, Vl.Pat.put, Vl.Pat.puts, Vl.Out.bind, Vl.Out.opt, Vl.fNx, Vl.fCt, Vl.fBk, Vl.fPar, Vl.fCall, Vl.fCallN, Vl.fCallL, Vl.fSetN, Vl.gIo, Vl.gCn, Vl.gNl, Vl.agDs, Vl.agD, Vl.ioSlots, Vl.putAll, Vl.put1, Vl.Ag.isIo, Vl.fAnd, Vl.fOr, Vl.fNot, Vl.fAndT, Vl.fOrT, Vl.fNotT, Vl.fChain, Vl.fIsi, Vl.fIsi2, Vl.fUn, Vl.fDrop, Vl.fApp, Vl.fLenO, Vl.fMake, Vl.fRaise, Vl.fFldS, Vl.fDInO, Vl.fDPutO, Vl.fDGetO, Vl.fPop, Vl.fListD, Vl.fDOne, Vl.fDNewK, Vl.isi, Vl.bOf, Vl.sOf, Vl.fFmt, Vl.fJs, Vl.oFmt, Vl.fM1, Vl.fM0, Vl.fFor, Vl.fItems, Vl.fEnum, Vl.fSl, Vl.fPart, Vl.fNoPart, Vl.fNeg, Vl.fAugI, Vl.fInO, Vl.fYes, Vl.fTruO, Vl.fComp, Vl.fCompO, Vl.calmE, Vl.wipeE, Vl.backE, Vl.oIsN, Vl.oStr, ↓Vl.fRng1_one, Vl.oLen_lst, Vl.oLen_tup, Vl.oLen_ctup, Vl.oLen_scr, Vl.oIx_lst, Vl.oIx_tup, Vl.oIx_ctup, Vl.oIx_scr, Vl.oInt_int, Vl.oInt_bl, Vl.oAbs_int, Vl.oMax_int, Vl.oMin_int, Vl.oTuple_lst, Vl.oTuple_tup, Vl.oList_lst, Vl.oList_tup, Vl.oNeg_int, Vl.ty_non, Vl.ty_bl, Vl.ty_int, Vl.ty_str, Vl.ty_tup, Vl.ty_ctup, Vl.ty_lst, Vl.ty_dk, Vl.ty_scr, Vl.tru_non, Vl.tru_bl, Vl.tru_int, Vl.tru_lst, Vl.tru_tup, Vl.oEqS_int, Vl.oEqS_str, Vl.oEqS_bl, Vl.oCat_lst, Vl.oCatA_tup, Vl.oSlT_tup, Vl.oSlL_lst, Vl.keyOf_int, Vl.keyOf_str, Vl.isNon_non, Vl.isNon_bl, Vl.isNon_int, Vl.isNon_str, Vl.isNon_tup, Vl.isNon_lst, Vl.oFld_ob, Vl.isOb_ob', Vl.atI_0, Vl.atI_1, Vl.atI_2, Vl.atI_3, Vl.ixN_0, Vl.ixN_1, Vl.ixN_2, List.zipWith, List.replicate, List.append, List.cons_append, List.nil_append, List.append_nil, List.getElem?_cons_zero, List.getElem?_cons_succ, List.getElem?_nil, List.set_cons_zero, List.set_cons_succ, List.length_cons, List.length_nil, List.map_cons, List.map_nil, List.nodup_cons, List.nodup_nil, List.not_mem_nil, List.reverse_cons, List.reverse_nil, Bool.false_eq_true, ite_true, ite_false, if_true, if_false, reduceIte, decide_true, decide_false, Bool.true_and, Bool.and_true, Bool.false_and, Bool.and_false, Bool.not_true, Bool.not_false, Bool.or_false, Bool.false_or, Bool.or_true, Bool.true_or, reduceCtorEq, not_false_eq_true, not_true_eq_false, and_self, and_true, true_and, or_false, or_true, Nat.reduceSub, Nat.reduceAdd, Nat.reduceLeDiff, Nat.zero_add, Option.map_some, Option.map_none, Option.bind_some, Option.bind_none, Option.isSome_some, Option.isSome_none, List.mem_cons, List.all_cons, List.all_nil, eq_self, Int.cast_ofNat_Int, Int.natCast_zero, Int.natCast_one, Int.reduceEq, Int.reduceLT, Int.reduceLE, Int.reduceAdd, Int.reduceSub, Int.reduceNeg, Nat.reduceEqDiff])
/-! parts of a text -/
theorem spl_in (S : List Nat) : ∀ (l : List Nat) (k : Nat) (acc : List Nat), (∀ p, p ∈ TL.spl S k acc l → p.length ≤ acc.length + l.length ∧ ∀ c, c ∈ p → c ∈ acc ∨ c ∈ l) ∧ (TL.spl S k acc l).length ≤ l.length + 1
  | [], k, acc => by
    rw [TL.spl_nil]
    refine ⟨fun p hp => ?_, by simp⟩
    rw [List.mem_singleton] at hp
    subst hp
    exact ⟨by simp, fun c hc => .inl hc⟩
  | c :: r, 0, acc => by
    cases h : TL.pre S (c :: r) with
    | true =>
      rw [TL.spl_hit h]
      obtain ⟨i1, i2⟩ := spl_in S r (S.length - 1) []
      refine ⟨fun p hp => ?_, by simp only [List.length_cons]; omega⟩
      rcases List.mem_cons.mp hp with rfl | hp
      · exact ⟨by simp, fun c hc => .inl hc⟩
      · obtain ⟨j1, j2⟩ := i1 p hp
        refine ⟨by simp only [List.length_cons, List.length_nil] at j1 ⊢; omega, fun x hx => ?_⟩
        rcases j2 x hx with z | z
        · simp at z
        · exact .inr (List.mem_cons_of_mem _ z)
    | false =>
      rw [TL.spl_miss h]
      obtain ⟨i1, i2⟩ := spl_in S r 0 (acc ++ [c])
      refine ⟨fun p hp => ?_, by simp only [List.length_cons]; omega⟩
      obtain ⟨j1, j2⟩ := i1 p hp
      refine ⟨by simp only [List.length_append, List.length_cons, List.length_nil] at j1 ⊢; omega, fun x hx => ?_⟩
      rcases j2 x hx with z | z
      · rcases List.mem_append.mp z with z | z
        · exact .inl z
        · rw [List.mem_singleton] at z
          subst z
          exact .inr List.mem_cons_self
      · exact .inr (List.mem_cons_of_mem _ z)
  | c :: r, k + 1, acc => by
    have e : TL.spl S (k + 1) acc (c :: r) = TL.spl S k acc r := rfl
    rw [e]
    obtain ⟨i1, i2⟩ := spl_in S r k acc
    refine ⟨fun p hp => ?_, by simp only [List.length_cons]; omega⟩
    obtain ⟨j1, j2⟩ := i1 p hp
    exact ⟨by simp only [List.length_cons]; omega, fun x hx => (j2 x hx).elim .inl fun z => .inr (List.mem_cons_of_mem _ z)⟩
/-- a text of the programs: its signs are signs, it is no longer than n -/
def Fine (n : Nat) (s : Str) : Prop := PyData.strOk s = true ∧ s.length ≤ n
theorem strOk_S {a : List Nat} : PyData.strOk (SX.S a) = a.all (· < 0x110000) := by
  unfold PyData.strOk
  rw [← Array.all_toList]
theorem Fine.more {m n : Nat} {s : Str} (h : Fine m s) (hn : m ≤ n) : Fine n s := ⟨h.1, Nat.le_trans h.2 hn⟩
theorem split_fine {n : Nat} {a b : Str} (h : Fine n a) (hb : TL.tl b ≠ []) (hk : (TL.tl b).all (· < 256) = true) : (∀ p, p ∈ Txt.split a b → Fine n p) ∧ (Txt.split a b).length ≤ n + 1 := by
  obtain ⟨h1, h2⟩ := h
  have ea : SX.S (TL.tl a) = a := SX.S_tl a
  have eb : SX.S (TL.tl b) = b := SX.S_tl b
  have hl : a.length = (TL.tl a).length := TL.len_tl a
  rw [← ea, ← eb, SX.split_S hb hk]
  rw [← ea, strOk_S] at h1
  obtain ⟨i1, i2⟩ := spl_in (TL.tl b) (TL.tl a) 0 []
  refine ⟨fun p hp => ?_, by rw [List.length_map]; omega⟩
  obtain ⟨q, hq, rfl⟩ := List.mem_map.mp hp
  obtain ⟨j1, j2⟩ := i1 q hq
  refine ⟨?_, by rw [SX.S_len]; simp only [List.length_nil] at j1; omega⟩
  rw [strOk_S, List.all_eq_true]
  intro c hc
  rcases j2 c hc with z | z
  · simp at z
  · exact List.all_eq_true.mp h1 c z
theorem oSplit_ok {a b : Str} (hb : TL.tl b ≠ []) (hl : a.length ≤ 100000) : oSplit a (.str b) = some (.lst ((Txt.split a b).map D.str)) := by
  refine if_pos ⟨?_, Nat.le_trans (by omega : _ ≤ 100002) (by decide)⟩
  have : b.length = (TL.tl b).length := TL.len_tl b
  rw [this]
  cases h : TL.tl b with
  | nil => exact absurd h hb
  | cons c r => rfl
/-! numbers -/
def isNum9 (s : Str) : Bool := Txt.isascii s && (Txt.isdigit s && (!decide ((9 : Int) < (s.length : Int)) && (decide (s = ("0" : Str)) || !Txt.startswith s ("0" : Str))))
theorem numeral_ok {s : Str} (h : s.length ≤ sizeLine) : Φ_is_numeral [.str s] = .ret false (.bl (isNum9 s)) [.non] := by
  have e4 : oLen (.str s) = some (.int (s.length : Int)) := if_pos h
  clear h
  unfold isNum9 Φ_is_numeral F_is_numeral
  have e1 : oIsAscii s = some (.bl (Txt.isascii s)) := rfl
  have e2 : oIsDigit s = some (.bl (Txt.isdigit s)) := rfl
  have e3 : oStarts s (.str "0") = some (.bl (Txt.startswith s "0")) := rfl
  have e5 : oEqS false (.str s) (.str "0") = some (.bl (decide (s = ("0" : Str)))) := rfl
  generalize oIsAscii = o1 at e1 ⊢
  generalize oIsDigit = o2 at e2 ⊢
  generalize oStarts = o3 at e3 ⊢
  generalize oEqS false = o5 at e5 ⊢
  generalize oLen = o4 at e4 ⊢
  generalize Txt.isascii s = b1 at e1 ⊢
  generalize Txt.isdigit s = b2 at e2 ⊢
  generalize Txt.startswith s "0" = b3 at e3 ⊢
  generalize decide (s = ("0" : Str)) = b4 at e5 ⊢
  generalize hn : (s.length : Int) = n at e4 ⊢
  clear hn
  generalize h5 : decide ((9 : Int) < n) = b5
  cases b1 with
  | false => walk_at "ev"
  | true =>
    cases b2 with
    | false => walk_at "ev"
    | true =>
      cases b5 with
      | true => walk_at "ev"
      | false =>
        cases b4 with
        | true => walk_at "ev"
        | false => cases b3 <;> walk_at "ev"
theorem digit_asc : ∀ c : Fin 128, Unicode.isDigit c.val = true → 48 ≤ c.val ∧ c.val ≤ 57 := by decide +kernel
/-- what is a numeral is a number -/
theorem num_int {s : Str} (h : isNum9 s = true) : ∃ n : Nat, PySem.intText? s = some (n : Int) ∧ s.length ≤ 9 := by
  unfold isNum9 at h
  simp only [Bool.and_eq_true] at h
  obtain ⟨h1, h2, h3, _⟩ := h
  have ea : SX.S (TL.tl s) = s := SX.S_tl s
  have hl : s.length = (TL.tl s).length := TL.len_tl s
  have hle : s.length ≤ 9 := by
    simp only [Bool.not_eq_true', decide_eq_false_iff_not] at h3
    omega
  have a1 : ∀ c, c ∈ TL.tl s → c < 128 := by
    unfold Txt.isascii at h1
    rw [← Array.all_toList, List.all_eq_true] at h1
    exact fun c hc => of_decide_eq_true (h1 c hc)
  unfold Txt.isdigit at h2
  rw [Bool.and_eq_true] at h2
  obtain ⟨g1, g2⟩ := h2
  rw [← Array.all_toList, List.all_eq_true] at g2
  have hd : (TL.tl s).all (fun c => decide (48 ≤ c) && decide (c ≤ 57)) = true := by
    rw [List.all_eq_true]
    intro c hc
    have := digit_asc ⟨c, a1 c hc⟩ (g2 c hc)
    rw [decide_eq_true this.1, decide_eq_true this.2]
    rfl
  have hne : TL.tl s ≠ [] := by
    intro z
    rw [z] at hl
    have g1 := of_decide_eq_true g1
    rw [hl] at g1
    exact absurd g1 (by simp)
  have e := SX.int_S hd hne (by omega)
  rw [ea] at e
  exact ⟨_, e, hle⟩
/-- a place as it is read -/
def readF (s : Str) : Option Pl := if s ∈ hearerWords ∨ s ∈ senderWords then some (.word s) else if isNum9 s = true then (PySem.intText? s).map fun n => .num n.toNat else none
def foD : Option Pl → D
  | none => .non
  | some p => plD p
theorem str_eok {n : Nat} {s : Str} (h : Fine n s) : (D.str s).eok = true := (eokN_str h.1).eok (by omega)
theorem in_words {n : Nat} {s : Str} (h : Fine n s) {ws : List Str} (hw : okWords ws) : oInT false (.str s) (.ctup (ws.map D.str)) = some (.bl (decide (s ∈ ws))) := by
  unfold oInT
  simp only []
  rw [if_pos (by rw [str_eok h, words_eok hw]; rfl), str_any]
  rfl
theorem follower_read {s : Str} (h : Fine 100000 s) : Φ_read_follower [.str s] = .ret false (foD (readF s)) [.non] := by
  have e1 := in_words h (.inl rfl)
  have e2 := in_words h (.inr rfl)
  have e3 := numeral_ok (s := s) (Nat.le_trans h.2 (by decide))
  have e4 : isNum9 s = true → ∃ n : Nat, PySem.intText? s = some (n : Int) ∧ o1 oIntS [.str s] = some (.int (n : Int)) := fun z => by
    obtain ⟨n, g1, g2⟩ := num_int z
    refine ⟨n, g1, ?_⟩
    show oIntS (.str s) = _
    unfold oIntS
    simp only []
    rw [g1, Option.bind_some]
    exact if_pos (by omega)
  clear h
  unfold readF
  have hh : (hearerWords.map D.str) = [.str "taken", .str "lost"] := rfl
  have hs : (senderWords.map D.str) = [.str "done", .str "again"] := rfl
  rw [hh] at e1
  rw [hs] at e2
  unfold Φ_read_follower F_read_follower
  by_cases c1 : s ∈ hearerWords
  · rw [if_pos (.inl c1)]
    rw [decide_eq_true c1] at e1
    clear e2 e3 e4 hh hs c1
    generalize oInT false = o at e1 ⊢
    walk_at "ev"
    rfl
  · rw [decide_eq_false c1] at e1
    by_cases c2 : s ∈ senderWords
    · rw [if_pos (.inr c2)]
      rw [decide_eq_true c2] at e2
      clear e3 e4 hh hs c1 c2
      generalize oInT false = o at e1 e2 ⊢
      walk_at "ev"
      rfl
    · rw [if_neg (fun z => z.elim c1 c2)]
      rw [decide_eq_false c2] at e2
      clear hh hs c1 c2
      cases hb : isNum9 s with
      | true =>
        rw [hb] at e3
        obtain ⟨n, g1, g2⟩ := e4 hb
        rw [g1, if_pos rfl]
        clear e4 hb g1
        generalize oInT false = o at e1 e2 ⊢
        generalize Vl.o1 oIntS = o3 at g2 ⊢
        walk_at "ev"
        rfl
      | false =>
        rw [hb] at e3
        rw [if_neg (by decide)]
        clear e4 hb
        generalize oInT false = o at e1 e2 ⊢
        walk_at "ev"
        rfl
/-! rows -/
def pick2 : Option Pl → Option Pl → Option (Pl × Pl)
  | some u, some v => some (u, v)
  | _, _ => none
def rowOf (p x y : Str) : Option Row := if p = ("0" : Str) ∨ p = ("1" : Str) then (pick2 (readF x) (readF y)).map fun z => ⟨if p = ("1" : Str) then 1 else 0, z.1, z.2⟩ else none
def readRow (a : Str) : Option Row := match Txt.split a (" " : Str) with
  | [p, x, y] => rowOf p x y
  | _ => none
def rowO : Option Row → D
  | none => .non
  | some r => rowD r
theorem tl_space : TL.tl (" " : Str) = [32] := by decide +kernel
theorem tl_comma : TL.tl (", " : Str) = [44, 32] := by decide +kernel
theorem tl_stroke : TL.tl (" | " : Str) = [32, 124, 32] := by decide +kernel
theorem in_01 {n : Nat} {s : Str} (h : Fine n s) : oInT true (.str s) (.tup [.str "0", .str "1"]) = some (.bl (!(decide (s = ("0" : Str) ∨ s = ("1" : Str))))) := by
  have e : oInT true (.str s) (.tup ((["0", "1"] : List Str).map D.str)) = some (.bl (!(decide (s ∈ (["0", "1"] : List Str))))) := by
    unfold oInT
    simp only []
    rw [if_pos (by rw [str_eok h]; decide +kernel), str_any]
    rfl
  have e2 : (decide (s ∈ (["0", "1"] : List Str))) = decide (s = ("0" : Str) ∨ s = ("1" : Str)) := by
    refine decide_eq_decide.mpr ?_
    simp
  rw [e2] at e
  exact e
theorem non_foD (o : Option Pl) : oIsN false (foD o) .non = some (.bl o.isNone) := by
  cases o with
  | none => rfl
  | some p => cases p <;> rfl
theorem readRow_not {a : Str} (h : (Txt.split a (" " : Str)).length ≠ 3) : readRow a = none := by
  unfold readRow
  split
  · rename_i p x y e
    rw [e] at h
    exact absurd rfl h
  · rfl
theorem ints_01 : oIntS (.str "0") = some (.int 0) ∧ oIntS (.str "1") = some (.int 1) := by
  have e0 : PySem.intText? ("0" : Str) = some 0 := SX.int_S (a := [48]) (by decide) (by decide) (by decide)
  have e1 : PySem.intText? ("1" : Str) = some 1 := SX.int_S (a := [49]) (by decide) (by decide) (by decide)
  constructor
  · unfold oIntS
    simp only []
    rw [e0, Option.bind_some]
    exact if_pos (by decide +kernel)
  · unfold oIntS
    simp only []
    rw [e1, Option.bind_some]
    exact if_pos (by decide +kernel)
theorem row_of {p x y : Str} (hx : Fine 100000 x) (hy : Fine 100000 y) (hp : Fine 100000 p) {a : Str} (e0 : oSplit a (.str " ") = some (.lst [.str p, .str x, .str y])) : Φ_read_row [.str a] = .ret false (rowO (rowOf p x y)) [.non] := by
  have e1 := in_01 hp
  have e2 := follower_read hx
  have e3 := follower_read hy
  have n1 := non_foD (readF x)
  have n2 := non_foD (readF y)
  have i0 := ints_01
  clear hx hy hp
  unfold rowOf
  unfold Φ_read_row F_read_row
  by_cases c : p = ("0" : Str) ∨ p = ("1" : Str)
  · rw [if_pos c]
    rw [decide_eq_true c] at e1
    have hi : o1 oIntS [.str p] = some (.int ((if p = ("1" : Str) then 1 else 0 : Nat) : Int)) := by
      rcases c with rfl | rfl
      · rw [if_neg (by decide +kernel)]
        exact i0.1
      · rw [if_pos rfl]
        exact i0.2
    generalize (if p = ("1" : Str) then 1 else 0 : Nat) = k at hi ⊢
    clear i0 c
    generalize oSplit = o1 at e0 ⊢
    generalize oInT true = o2 at e1 ⊢
    generalize Vl.o1 oIntS = o3 at hi ⊢
    cases hu : readF x with
    | none =>
      rw [hu] at e2 n1
      rw [Option.isNone_none] at n1
      generalize foD none = f1 at e2 n1 ⊢
      clear n2
      generalize foD (readF y) = f2 at e3
      generalize oIsN false = o4 at n1 ⊢
      walk_at "ev"
      rfl
    | some u =>
      rw [hu] at e2 n1
      rw [Option.isNone_some] at n1
      cases hv : readF y with
      | none =>
        rw [hv] at e3 n2
        rw [Option.isNone_none] at n2
        generalize foD none = f1 at e3 n2 ⊢
        generalize foD (some u) = f2 at e2 n1 ⊢
        generalize oIsN false = o4 at n1 n2 ⊢
        walk_at "ev"
        rfl
      | some v =>
        rw [hv] at e3 n2
        rw [Option.isNone_some] at n2
        have er : rowO ((pick2 (some u) (some v)).map fun z => (⟨k, z.1, z.2⟩ : Row)) = .tup [.int (k : Int), foD (some u), foD (some v)] := rfl
        rw [er]
        generalize foD (some u) = f2 at e2 n1 ⊢
        generalize foD (some v) = f3 at e3 n2 ⊢
        generalize oIsN false = o4 at n1 n2 ⊢
        walk_at "ev"
  · rw [if_neg c]
    rw [decide_eq_false c] at e1
    clear i0 c e2 e3 n1 n2
    generalize oSplit = o1 at e0 ⊢
    generalize oInT true = o2 at e1 ⊢
    walk_at "ev"
    rfl
theorem len_3 {α : Type} : ∀ {l : List α}, l.length = 3 → ∃ a b c, l = [a, b, c]
  | [a, b, c], _ => ⟨a, b, c, rfl⟩
  | [], h => by simp at h
  | [_], h => by simp at h
  | [_, _], h => by simp at h
  | _ :: _ :: _ :: _ :: _, h => by simp at h
theorem len_2 {α : Type} : ∀ {l : List α}, l.length = 2 → ∃ a b, l = [a, b]
  | [a, b], _ => ⟨a, b, rfl⟩
  | [], h => by simp at h
  | [_], h => by simp at h
  | _ :: _ :: _ :: _, h => by simp at h
theorem row_read {a : Str} (h : Fine 100000 a) : Φ_read_row [.str a] = .ret false (rowO (readRow a)) [.non] := by
  have e0 := oSplit_ok (a := a) (b := " ") (by rw [tl_space]; simp) h.2
  obtain ⟨hp, _⟩ := split_fine h (b := " ") (by rw [tl_space]; simp) (by rw [tl_space]; decide)
  by_cases h3 : (Txt.split a (" " : Str)).length = 3
  · obtain ⟨p, x, y, e⟩ := len_3 h3
    rw [e] at hp e0
    have er : readRow a = rowOf p x y := by
      unfold readRow
      rw [e]
    rw [er]
    exact row_of (hp x (by simp)) (hp y (by simp)) (hp p (by simp)) e0
  · rw [readRow_not h3]
    have e1 : oLen (.lst ((Txt.split a (" " : Str)).map D.str)) = some (.int ((Txt.split a (" " : Str)).length : Int)) := by
      show some (D.int _) = _
      rw [List.length_map]
    have e2 : decide (((Txt.split a (" " : Str)).length : Int) = 3) = false := decide_eq_false (by omega)
    clear h3 hp h
    generalize (Txt.split a (" " : Str)).map D.str = l at e0 e1
    generalize ((Txt.split a (" " : Str)).length : Int) = n at e1 e2
    unfold Φ_read_row F_read_row
    generalize oSplit = o1 at e0 ⊢
    generalize oLen = o2 at e1 ⊢
    walk_at "ev"
    rfl
/-! machines -/
def okAny : Pl → Prop
  | .num _ => True
  | .word s => okWord s
theorem readF_ok {s : Str} {p : Pl} (h : readF s = some p) : okAny p := by
  unfold readF at h
  split at h
  · rename_i c
    cases h
    exact c
  · split at h
    · cases hi : PySem.intText? s with
      | none =>
        rw [hi] at h
        cases h
      | some n =>
        rw [hi] at h
        cases h
        trivial
    · cases h
theorem readRow_ok {a : Str} {r : Row} (h : readRow a = some r) : (r.put = 0 ∨ r.put = 1) ∧ okAny r.a ∧ okAny r.b := by
  unfold readRow at h
  split at h
  · rename_i p x y _
    unfold rowOf at h
    split at h
    · cases hu : readF x with
      | none =>
        rw [hu] at h
        cases h
      | some u =>
        cases hv : readF y with
        | none =>
          rw [hu, hv] at h
          cases h
        | some v =>
          rw [hu, hv] at h
          cases h
          exact ⟨by show (if _ then _ else _) = 0 ∨ (if _ then _ else _) = 1; split <;> simp, readF_ok hu, readF_ok hv⟩
    · cases h
  · cases h
theorem plD_any {p : Pl} (h : okAny p) : eokN 0 (plD p) := by
  cases p with
  | num n => exact eokN_int _
  | word s =>
    refine eokN_str ?_
    rcases okWord_cases h with rfl | rfl | rfl | rfl <;> decide +kernel
theorem rowO_eokN (a : Str) : eokN 1 (rowO (readRow a)) := by
  cases h : readRow a with
  | none => exact eokN_non.more (by omega)
  | some r =>
    obtain ⟨_, h1, h2⟩ := readRow_ok h
    refine eokN_tup fun d hd => ?_
    simp only [List.mem_cons, List.not_mem_nil, or_false] at hd
    rcases hd with rfl | rfl | rfl
    · exact eokN_int _
    · exact plD_any h1
    · exact plD_any h2
theorem rowO_none (o : Option Row) : PyData.eqv (rowO o).py D.non.py = o.isNone := by
  cases o with
  | none => first | rfl | simp [rowO, D.py, PyData.eqv]
  | some r => first | rfl | simp [rowO, Pg.rowD, D.py, PyData.eqv]
theorem none_in (l : List Str) : oIn false .non (.lst ((l.map readRow).map rowO)) = some (.bl ((l.map readRow).any Option.isNone)) := by
  have h1 : (D.lst ((l.map readRow).map rowO)).eok = true := (eokN_lst (n := 1) fun d hd => by
    obtain ⟨o, ho, rfl⟩ := List.mem_map.mp hd
    obtain ⟨a, _, rfl⟩ := List.mem_map.mp ho
    exact rowO_eokN a).eok (by omega)
  have h0 : D.non.eok = true := eokN_non.eok (by omega)
  unfold oIn
  simp only []
  rw [if_pos (by rw [h0, h1]; rfl)]
  have e : (((l.map readRow).map rowO).any fun z => PyData.eqv z.py D.non.py) = (l.map readRow).any Option.isNone := by
    rw [List.any_map]
    congr 1
    funext o
    exact rowO_none o
  rw [e]
  rfl
theorem elt1 {r : Str} (h : Fine 100000 r) (s0 s1 s2 : Slot) : E_read_machines_1 [s0, s1, s2, .sh (.str r)] = .val (rowO (readRow r)) [s0, s1, s2, .sh (.str r)] := by
  have e := row_read h
  clear h
  unfold E_read_machines_1
  walk_at "ev"
theorem strs_at {l : List Str} {i : Nat} {d : D} (h : (l.map D.str)[i]? = some d) : ∃ s, l[i]? = some s ∧ d = .str s := by
  rw [List.getElem?_map] at h
  cases e : l[i]? with
  | none =>
    rw [e] at h
    cases h
  | some s =>
    rw [e] at h
    cases h
    exact ⟨s, rfl, rfl⟩
/-- the rows of a machine's text -/
def rowsIn (m : Str) : List Str := Txt.split m (", " : Str)
theorem machine_read {m : Str} (h : Fine 100000 m) (s0 s1 : Slot) : E_read_machines_2 [s0, s1, .sh (.str m), .un] = .val (.lst (((rowsIn m).map readRow).map rowO)) [s0, s1, .sh (.str m), .un] := by
  have e0 := oSplit_ok (a := m) (b := ", ") (by rw [tl_comma]; simp) h.2
  obtain ⟨hp, hn⟩ := split_fine h (b := ", ") (by rw [tl_comma]; simp) (by rw [tl_comma]; decide)
  have hn : (rowsIn m).length ≤ 100001 := hn
  have hp : ∀ p, p ∈ rowsIn m → Fine 100000 p := hp
  have e0 : oSplit m (.str ", ") = some (.lst ((rowsIn m).map D.str)) := e0
  obtain ⟨acc, env', hc, s3, rfl, rfl⟩ := comp_ok (p := .nm 3) (ft := fYes) (fe := E_read_machines_1) (vs := [3]) (ds := (rowsIn m).map D.str) (fun i acc env => ∃ s3, acc = ((((rowsIn m).take i).map readRow).map rowO) ∧ env = [s0, s1, .sh (.str m), s3]) (fun i y acc env hd hi => by
    obtain ⟨s3, rfl, rfl⟩ := hi
    obtain ⟨r, hr, rfl⟩ := strs_at hd
    refine ⟨[s0, s1, .sh (.str m), .sh (.str r)], true, _, rfl, rfl, fun _ => ⟨_, _, elt1 (hp r (List.mem_of_getElem? hr)) _ _ _, ?_, _, ?_, rfl⟩, fun z => by cases z⟩
    · rw [List.length_map, List.length_map, List.length_take]
      exact Nat.lt_of_le_of_lt (show min i _ ≤ 100001 by omega) (by decide)
    · rw [List.take_succ, hr, List.map_append, List.map_append]
      rfl) (env := [s0, s1, .sh (.str m), .un]) ⟨.un, by rw [List.take_zero]; rfl, rfl⟩
  have et : (rowsIn m).take ((rowsIn m).map D.str).length = rowsIn m := by rw [List.length_map, List.take_length]
  rw [et] at hc
  clear h hp hn et
  generalize (rowsIn m).map D.str = l at e0 hc
  unfold E_read_machines_2
  generalize oSplit = o at e0 ⊢
  walk_at "ev"
def allS {α : Type} : List (Option α) → Option (List α)
  | [] => some []
  | none :: _ => none
  | some x :: l => (allS l).map (x :: ·)
/-- what a text says: the rows of both machines -/
def readM (a : Str) : Option (List Row × List Row) := match Txt.split a (" | " : Str) with
  | [h, s] => (allS ((rowsIn h).map readRow)).bind fun hs => (allS ((rowsIn s).map readRow)).map fun ss => (hs, ss)
  | _ => none
def readD : Option (List Row × List Row) → D
  | none => .non
  | some z => .lst [.lst (rowsD z.1), .lst (rowsD z.2)]
theorem allS_none {α : Type} {l : List (Option α)} : l.any Option.isNone = true → allS l = none := by
  induction l with
  | nil => intro h; cases h
  | cons o l ih =>
    intro h
    cases o with
    | none => rfl
    | some x =>
      have h : l.any Option.isNone = true := by simpa using h
      show (allS l).map _ = none
      rw [ih h]
      rfl
theorem allS_some {l : List (Option Row)} : l.any Option.isNone = false → ∃ rs, allS l = some rs ∧ l.map rowO = Pg.rowsD rs := by
  induction l with
  | nil => intro _; exact ⟨[], rfl, rfl⟩
  | cons o l ih =>
    intro h
    cases o with
    | none => simp at h
    | some x =>
      have h : l.any Option.isNone = false := by simpa using h
      obtain ⟨rs, h1, h2⟩ := ih h
      refine ⟨x :: rs, ?_, ?_⟩
      · show (allS l).map _ = _
        rw [h1]
        rfl
      · rw [List.map_cons, h2]
        rfl
theorem readM_not {a : Str} (h : (Txt.split a (" | " : Str)).length ≠ 2) : readM a = none := by
  unfold readM
  split
  · rename_i p x e
    rw [e] at h
    exact absurd rfl h
  · rfl
def partsD (m : Str) : D := .lst (((rowsIn m).map readRow).map rowO)
theorem machines_read {a : Str} (h : Fine 100000 a) : Φ_read_machines [.str a] = .ret false (readD (readM a)) [.non] := by
  have e0 := oSplit_ok (a := a) (b := " | ") (by rw [tl_stroke]; simp) h.2
  obtain ⟨hp, hn⟩ := split_fine h (b := " | ") (by rw [tl_stroke]; simp) (by rw [tl_stroke]; decide)
  obtain ⟨acc, env', hc, s2, rfl, rfl⟩ := comp_ok (p := .nm 2) (ft := fYes) (fe := E_read_machines_2) (vs := [2]) (ds := (Txt.split a (" | " : Str)).map D.str) (fun i acc env => ∃ s2, acc = ((Txt.split a (" | " : Str)).take i).map partsD ∧ env = [.sh (.str a), .un, s2, .un]) (fun i y acc env hd hi => by
    obtain ⟨s2, rfl, rfl⟩ := hi
    obtain ⟨m, hm, rfl⟩ := strs_at hd
    refine ⟨[.sh (.str a), .un, .sh (.str m), .un], true, _, rfl, rfl, fun _ => ⟨_, _, machine_read (hp m (List.mem_of_getElem? hm)) _ _, ?_, _, ?_, rfl⟩, fun z => by cases z⟩
    · rw [List.length_map, List.length_take]
      exact Nat.lt_of_le_of_lt (show min i _ ≤ 100001 by omega) (by decide)
    · rw [List.take_succ, hm, List.map_append]
      rfl) (env := [.sh (.str a), .un, .un, .un]) ⟨.un, by rw [List.take_zero]; rfl, rfl⟩
  have et : (Txt.split a (" | " : Str)).take ((Txt.split a (" | " : Str)).map D.str).length = Txt.split a (" | " : Str) := by rw [List.length_map, List.take_length]
  rw [et] at hc
  by_cases h2 : (Txt.split a (" | " : Str)).length = 2
  · obtain ⟨x, y, e⟩ := len_2 h2
    have er : readM a = (allS ((rowsIn x).map readRow)).bind fun hs => (allS ((rowsIn y).map readRow)).map fun ss => (hs, ss) := by
      unfold readM
      rw [e]
    generalize hL : (Txt.split a (" | " : Str)).map D.str = l at e0 hc
    rw [e] at hc
    replace hc : compF _ _ _ _ _ _ _ = Out.val [partsD x, partsD y] _ := hc
    clear hL
    have n1 : oIn false .non (partsD x) = some (.bl ((rowsIn x).map readRow |>.any Option.isNone)) := none_in _
    have n2 : oIn false .non (partsD y) = some (.bl ((rowsIn y).map readRow |>.any Option.isNone)) := none_in _
    have key : Φ_read_machines [.str a] = .ret false (if ((rowsIn x).map readRow).any Option.isNone || ((rowsIn y).map readRow).any Option.isNone then .non else .lst [partsD x, partsD y]) [.non] := by
      generalize ((rowsIn x).map readRow).any Option.isNone = b1 at n1 ⊢
      generalize ((rowsIn y).map readRow).any Option.isNone = b2 at n2 ⊢
      generalize partsD x = d1 at hc n1 ⊢
      generalize partsD y = d2 at hc n2 ⊢
      clear er e hp hn et h2 h
      unfold Φ_read_machines F_read_machines
      generalize oSplit = o at e0 ⊢
      generalize oIn false = o2 at n1 n2 ⊢
      cases b1 <;> cases b2 <;> walk_at "ev"
    rw [key, er]
    cases hb1 : ((rowsIn x).map readRow).any Option.isNone with
    | true =>
      rw [allS_none hb1]
      rfl
    | false =>
      obtain ⟨hs, g1, g2⟩ := allS_some hb1
      rw [g1]
      cases hb2 : ((rowsIn y).map readRow).any Option.isNone with
      | true =>
        rw [Option.bind_some, allS_none hb2]
        rfl
      | false =>
        obtain ⟨ss, g3, g4⟩ := allS_some hb2
        rw [Option.bind_some, g3]
        unfold partsD
        rw [g2, g4]
        rfl
  · rw [readM_not h2]
    have e1 : oLen (.lst ((Txt.split a (" | " : Str)).map partsD)) = some (.int ((Txt.split a (" | " : Str)).length : Int)) := by
      show some (D.int _) = _
      rw [List.length_map]
    have e2 : decide (((Txt.split a (" | " : Str)).length : Int) = 2) = false := decide_eq_false (by omega)
    clear h2 hp hn h et
    generalize (Txt.split a (" | " : Str)).map D.str = l at e0 hc
    generalize (Txt.split a (" | " : Str)).map partsD = l2 at hc e1
    generalize ((Txt.split a (" | " : Str)).length : Int) = n at e1 e2
    unfold Φ_read_machines F_read_machines
    generalize oSplit = o1 at e0 ⊢
    generalize oLen = o2 at e1 ⊢
    walk_at "ev"
    rfl
end Pg

set_option Elab.async false
set_option linter.all false
set_option maxRecDepth 100000
set_option maxHeartbeats 1000000
/-! MeO: the text of an end, read, is the end. -/
namespace Pg
open PySem L2 Sb Vl
open Sb hiding plD rowD rowsD
theorem read_num : ∀ m : Fin 1001, isNum9 (Str.ofString (toString ((m.val : Nat) : Int))) = true ∧ Str.ofString (toString ((m.val : Nat) : Int)) ∉ hearerWords ∧ Str.ofString (toString ((m.val : Nat) : Int)) ∉ senderWords := by decide +kernel
theorem readF_num {n : Nat} (h : n ≤ 1000) : readF (Str.ofString (toString (n : Int))) = some (.num n) := by
  obtain ⟨h1, h2, h3⟩ := read_num ⟨n, by omega⟩
  unfold readF
  rw [if_neg (fun z => z.elim h2 h3), if_pos h1]
  have hd : (TL.numL n).all (fun c => decide (48 ≤ c) && decide (c ≤ 57)) = true := by
    rw [List.all_eq_true]
    intro c hc
    have := TL.numL_digits n c hc
    rw [decide_eq_true this.1, decide_eq_true this.2]
    rfl
  have hl : (TL.numL n).length ≤ 4300 := by
    have e : (Str.ofString (toString (n : Int))).length ≤ 10 := num_len h
    rw [SX.num_S, SX.S_len] at e
    omega
  rw [SX.num_S, SX.int_S hd (TL.numL_ne n) hl, TL.numL_val]
  rfl
theorem readF_pl {p : Pl} (h : smallPl p) : readF (plT p) = some p := by
  cases p with
  | num n => exact readF_num h
  | word s => exact if_pos h
theorem num_no {n c : Nat} (h : c < 48 ∨ 57 < c) : c ∉ TL.tl (Str.ofString (toString (n : Int))) := by
  rw [TL.tl_num]
  exact TL.numL_free h
theorem pl_no {p : Pl} (h : smallPl p) {c : Nat} (hc : c = 32 ∨ c = 44 ∨ c = 124) : c ∉ TL.tl (plT p) := by
  cases p with
  | num n => exact num_no (by omega)
  | word s =>
    have h : okWord s := h
    show c ∉ TL.tl s
    rcases okWord_cases h with rfl | rfl | rfl | rfl <;> rcases hc with rfl | rfl | rfl <;> decide +kernel
theorem tl_rowT (r : Row) : TL.tl (rowT r) = TL.tl (Str.ofString (toString (r.put : Int))) ++ (32 :: (TL.tl (plT r.a) ++ (32 :: TL.tl (plT r.b)))) := by
  unfold rowT
  rw [TL.tl_append, TL.tl_append, TL.tl_append, TL.tl_append, TL.tl_append, tl_space]
  have e : TL.tl Str.empty = [] := rfl
  rw [e]
  simp
theorem row_split {r : Row} (h : smallRow r) : Txt.split (rowT r) (" " : Str) = [Str.ofString (toString (r.put : Int)), plT r.a, plT r.b] := by
  have e : rowT r = Txt.join (" " : Str) [Str.ofString (toString (r.put : Int)), plT r.a, plT r.b] := TL.ext_tl (by
    rw [tl_rowT, TL.join_eq, TL.tl_join, tl_space]
    rfl)
  rw [e]
  refine TL.split_join tl_space (by decide +kernel) (by simp) fun p hp => ?_
  simp only [List.mem_cons, List.not_mem_nil, or_false] at hp
  rcases hp with rfl | rfl | rfl
  · exact num_no (by omega)
  · exact pl_no h.2.1 (.inl rfl)
  · exact pl_no h.2.2 (.inl rfl)
theorem put_txt : Str.ofString (toString ((0 : Nat) : Int)) = ("0" : Str) ∧ Str.ofString (toString ((1 : Nat) : Int)) = ("1" : Str) ∧ ("0" : Str) ≠ ("1" : Str) := by decide +kernel
theorem read_row {r : Row} (h : smallRow r) (hp : r.put = 0 ∨ r.put = 1) : readRow (rowT r) = some r := by
  unfold readRow
  rw [row_split h]
  obtain ⟨p, a, b⟩ := r
  show rowOf (Str.ofString (toString (p : Int))) (plT a) (plT b) = _
  unfold rowOf
  rw [readF_pl h.2.1, readF_pl h.2.2]
  obtain ⟨p0, p1, p2⟩ := put_txt
  rcases hp with hp | hp
  · have hp : p = 0 := hp
    subst hp
    rw [p0, if_pos (.inl rfl), if_neg p2]
    rfl
  · have hp : p = 1 := hp
    subst hp
    rw [p1, if_pos (.inr rfl), if_pos rfl]
    rfl
theorem row_no {r : Row} (h : smallRow r) {c : Nat} (hc : c = 44 ∨ c = 124) : c ∉ TL.tl (rowT r) := by
  rw [tl_rowT]
  simp only [List.mem_append, List.mem_cons, not_or]
  refine ⟨num_no (by omega), by omega, pl_no h.2.1 (.inr hc), by omega, pl_no h.2.2 (.inr hc)⟩
theorem rows_in {rs : List Row} (h : ∀ r, r ∈ rs → smallRow r) (h0 : rs ≠ []) : rowsIn (machT rs) = rs.map rowT := by
  refine TL.split_join tl_comma (by decide +kernel) (by simpa using h0) fun p hp => ?_
  obtain ⟨r, hr, rfl⟩ := List.mem_map.mp hp
  exact row_no (h r hr) (.inl rfl)
theorem all_read {rs : List Row} (h : ∀ r, r ∈ rs → smallRow r ∧ (r.put = 0 ∨ r.put = 1)) : allS ((rs.map rowT).map readRow) = some rs := by
  induction rs with
  | nil => rfl
  | cons r rs ih =>
    rw [List.map_cons, List.map_cons, read_row (h r (by simp)).1 (h r (by simp)).2]
    show (allS _).map _ = _
    rw [ih fun q hq => h q (by simp [hq])]
    rfl
theorem joinL_no {c : Nat} {s : List Nat} (hs : c ∉ s) : ∀ {l : List (List Nat)}, (∀ p, p ∈ l → c ∉ p) → c ∉ TL.joinL s l
  | [], _ => by simp [TL.joinL]
  | [p], h => h p (by simp)
  | p :: q :: r, h => by
    show c ∉ p ++ (s ++ TL.joinL s (q :: r))
    simp only [List.mem_append, not_or]
    exact ⟨h p (by simp), hs, joinL_no hs fun z hz => h z (by simp [hz])⟩
theorem mach_no {rs : List Row} (h : ∀ r, r ∈ rs → smallRow r) : 124 ∉ TL.tl (machT rs) := by
  unfold machT
  rw [TL.join_eq, TL.tl_join, tl_comma]
  refine joinL_no (by decide) fun p hp => ?_
  obtain ⟨z, hz, rfl⟩ := List.mem_map.mp hp
  obtain ⟨r, hr, rfl⟩ := List.mem_map.mp hz
  exact row_no (h r hr) (.inr rfl)
theorem pre_second : ∀ {l : List Nat}, l[1]? ≠ some 124 → TL.pre [32, 124, 32] l = false
  | [], _ => rfl
  | [a], _ => by
    show ([a] == [32, 124, 32]) = false
    simp
  | a :: b :: r, h => by
    have hb : b ≠ 124 := fun z => h (by rw [z]; rfl)
    show ((a :: b :: r.take 1) == [32, 124, 32]) = false
    have : ¬ (a :: b :: r.take 1) = [32, 124, 32] := fun z => by
      injection z with z1 z2
      injection z2 with z2 z3
      exact hb z2
    simpa using this
theorem spl_two {a b : List Nat} (ha : 124 ∉ a) (hb : 124 ∉ b) : TL.spl [32, 124, 32] 0 [] (a ++ ([32, 124, 32] ++ b)) = [a, b] := by
  rw [TL.spl_part (by simp) fun i hi => pre_second fun z => ?_, TL.spl_last fun i hi => pre_second fun z => ?_]
  · simp
  · rw [List.getElem?_drop] at z
    exact hb (List.mem_of_getElem? z)
  · rw [List.getElem?_drop] at z
    by_cases c : i + 1 < a.length
    · rw [List.getElem?_append_left c] at z
      exact ha (List.mem_of_getElem? z)
    · have e : i + 1 = a.length := by omega
      rw [e, List.getElem?_append_right (Nat.le_refl _), Nat.sub_self] at z
      cases z
theorem end_split {hs ss : List Row} (h1 : ∀ r, r ∈ hs → smallRow r) (h2 : ∀ r, r ∈ ss → smallRow r) : Txt.split (endT hs ss) (" | " : Str) = [machT hs, machT ss] := by
  have e : endT hs ss = SX.S (TL.tl (machT hs) ++ ([32, 124, 32] ++ TL.tl (machT ss))) := TL.ext_tl (by
    unfold endT
    rw [TL.tl_append, TL.tl_append, TL.tl_append, tl_stroke]
    show [] ++ _ ++ _ ++ _ = _
    simp)
  have es : (" | " : Str) = SX.S [32, 124, 32] := TL.ext_tl tl_stroke
  rw [e, es, SX.split_S (by simp) (by decide), spl_two (mach_no h1) (mach_no h2)]
  show [SX.S _, SX.S _] = _
  rw [SX.S_tl, SX.S_tl]
/-- the read-back -/
theorem readM_end {hs ss : List Row} (k1 : HearerOk hs) (k2 : SenderOk ss) : readM (endT hs ss) = some (hs, ss) := by
  have s1 : ∀ r, r ∈ hs → smallRow r := fun r hr => smallRow_of (smallW (.inl rfl)) (Nat.le_trans k1.2.1 (by decide)) (k1.2.2.1 r hr)
  have s2 : ∀ r, r ∈ ss → smallRow r := fun r hr => smallRow_of (smallW (.inr rfl)) (Nat.le_trans k2.2.1 (by decide)) (k2.2.2 r hr)
  unfold readM
  rw [end_split s1 s2]
  show (allS ((rowsIn (machT hs)).map readRow)).bind _ = _
  rw [rows_in s1 (fun z => by have := k1.1; rw [z] at this; simp at this), all_read fun r hr => ⟨s1 r hr, (k1.2.2.1 r hr).1⟩, Option.bind_some]
  rw [rows_in s2 (fun z => by have := k2.1; rw [z] at this; simp at this), all_read fun r hr => ⟨s2 r hr, (k2.2.2 r hr).1⟩]
  rfl
end Pg

set_option Elab.async false
set_option linter.all false
set_option maxRecDepth 100000
set_option maxHeartbeats 1000000
/-! MeP: ends made of texts. -/
namespace Pg
open PySem L2 Sb Vl
open Sb hiding plD rowD rowsD
local macro_rules | `(tactic| walk_at "ev") => `(tactic| simp only [Vl.runV, Vl.mkEnv, Vl.Res.of, Vl.Res.quiet, Vl.Res.val, Vl.ioAt, Vl.fSeq, Vl.fIte, Vl.fAsg, Vl.fVar, Vl.fC, Vl.fOp, Vl.fIxO, Vl.fPutL, Vl.fRet, Vl.fRetW, Vl.fRetO, Vl.fRetN, Vl.fLst, Vl.fTup, Vl.fB, Vl.fTru, Vl.fCB, Vl.fCons, Vl.fNil, Vl.o1, Vl.o2, Vl.oI, Vl.oIC, Vl.slotL, Vl.slotO, Vl.own, Vl.Pat.put, Vl.Pat.puts, Vl.Out.bind, Vl.Out.opt, Vl.fNx, Vl.fCt, Vl.fBk, Vl.fPar, Vl.fCall, Vl.fCallN, Vl.fCallL, Vl.fSetN, Vl.gIo, Vl.gCn, Vl.gNl, Vl.agDs, Vl.agD, Vl.ioSlots, Vl.putAll, Vl.put1, Vl.Ag.isIo, Vl.fAnd, Vl.fOr, Vl.fNot, Vl.fAndT, Vl.fOrT, Vl.fNotT, Vl.fChain, Vl.fIsi, Vl.fIsi2, Vl.fUn, Vl.fDrop, Vl.fApp, Vl.fLenO, Vl.fMake, Vl.fRaise, Vl.fFldS, Vl.fDInO, Vl.fDPutO, Vl.fDGetO, Vl.fPop, Vl.fListD, Vl.fDOne, Vl.fDNewK, Vl.isi, Vl.bOf, Vl.sOf, Vl.fFmt, Vl.fJs, Vl.oFmt, Vl.fM1, Vl.fM0, Vl.fFor, Vl.fItems, Vl.fEnum, Vl.fSl, Vl.fPart, Vl.fNoPart, Vl.fNeg, Vl.fAugI, Vl.fInO, Vl.fYes, Vl.fTruO, Vl.fComp, Vl.fCompO, Vl.calmE, Vl.wipeE, Vl.backE, Vl.oIsN, Vl.oStr, Vl.fMakeL, Vl.fCM, Vl.fCMK, Vl.resE, ↓Vl.fRng1_one, Vl.oLen_lst, Vl.oLen_tup, Vl.oLen_ctup, Vl.oLen_scr, Vl.oIx_lst, Vl.oIx_tup, Vl.oIx_ctup, Vl.oIx_scr, Vl.oInt_int, Vl.oInt_bl, Vl.oAbs_int, Vl.oMax_int, Vl.oMin_int, Vl.oTuple_lst, Vl.oTuple_tup, Vl.oList_lst, Vl.oList_tup, Vl.oNeg_int, Vl.ty_non, Vl.ty_bl, Vl.ty_int, Vl.ty_str, Vl.ty_tup, Vl.ty_ctup, Vl.ty_lst, Vl.ty_dk, Vl.ty_scr, Vl.tru_non, Vl.tru_bl, Vl.tru_int, Vl.tru_lst, Vl.tru_tup, Vl.oEqS_int, Vl.oEqS_str, Vl.oEqS_bl, Vl.oCat_lst, Vl.oCatA_tup, Vl.oSlT_tup, Vl.oSlL_lst, Vl.keyOf_int, Vl.keyOf_str, Vl.isNon_non, Vl.isNon_bl, Vl.isNon_int, Vl.isNon_str, Vl.isNon_tup, Vl.isNon_lst, Vl.oFld_ob, Vl.isOb_ob', Vl.atI_0, Vl.atI_1, Vl.atI_2, Vl.atI_3, Vl.ixN_0, Vl.ixN_1, Vl.ixN_2, List.zipWith, List.replicate, List.append, List.cons_append, List.nil_append, List.append_nil, List.getElem?_cons_zero, List.getElem?_cons_succ, List.getElem?_nil, List.set_cons_zero, List.set_cons_succ, List.length_cons, List.length_nil, List.map_cons, List.map_nil, List.nodup_cons, List.nodup_nil, List.not_mem_nil, List.reverse_cons, List.reverse_nil, Bool.false_eq_true, ite_true, ite_false, if_true, if_false, reduceIte, decide_true, decide_false, Bool.true_and, Bool.and_true, Bool.false_and, Bool.and_false, Bool.not_true, Bool.not_false, Bool.or_false, Bool.false_or, Bool.or_true, Bool.true_or, reduceCtorEq, not_false_eq_true, not_true_eq_false, and_self, and_true, true_and, or_false, or_true, Nat.reduceSub, Nat.reduceAdd, Nat.reduceLeDiff, Nat.zero_add, Option.map_some, Option.map_none, Option.bind_some, Option.bind_none, Option.isSome_some, Option.isSome_none, List.mem_cons, List.all_cons, List.all_nil, eq_self, Int.cast_ofNat_Int, Int.natCast_zero, Int.natCast_one, Int.reduceEq, Int.reduceLT, Int.reduceLE, Int.reduceAdd, Int.reduceSub, Int.reduceNeg, Nat.reduceEqDiff, *])
local macro_rules | `(tactic| walk_at "e0") => `(tactic| simp only [Vl.runV, Vl.mkEnv, Vl.Res.of, Vl.Res.quiet, Vl.Res.val, Vl.ioAt, Vl.fSeq, Vl.fIte, Vl.fAsg, Vl.fVar, Vl.fC, Vl.fOp, Vl.fIxO, Vl.fPutL, Vl.fRet, Vl.fRetW, Vl.fRetO, Vl.fRetN, Vl.fLst, Vl.fTup, Vl.fB, Vl.fTru, Vl.fCB, Vl.fCons, Vl.fNil, Vl.o1, Vl.o2, Vl.oI, Vl.oIC, Vl.slotL, Vl.slotO, Vl.own, Vl.Pat.put, Vl.Pat.puts, Vl.Out.bind, Vl.Out.opt, Vl.fNx, Vl.fCt, Vl.fBk, Vl.fPar, Vl.fCall, Vl.fCallN, Vl.fCallL, Vl.fSetN, Vl.gIo, Vl.gCn, Vl.gNl, Vl.agDs, Vl.agD, Vl.ioSlots, Vl.putAll, Vl.put1, Vl.Ag.isIo, Vl.fAnd, Vl.fOr, Vl.fNot, Vl.fAndT, Vl.fOrT, Vl.fNotT, Vl.fChain, Vl.fIsi, Vl.fIsi2, Vl.fUn, Vl.fDrop, Vl.fApp, Vl.fLenO, Vl.fMake, Vl.fRaise, Vl.fFldS, Vl.fDInO, Vl.fDPutO, Vl.fDGetO, Vl.fPop, Vl.fListD, Vl.fDOne, Vl.fDNewK, Vl.isi, Vl.bOf, Vl.sOf, Vl.fFmt, Vl.fJs, Vl.oFmt, Vl.fM1, Vl.fM0, Vl.fFor, Vl.fItems, Vl.fEnum, Vl.fSl, Vl.fPart, Vl.fNoPart, Vl.fNeg, Vl.fAugI, Vl.fInO, Vl.fYes, Vl.fTruO, Vl.fComp, Vl.fCompO, Vl.calmE, Vl.wipeE, Vl.backE, Vl.oIsN, Vl.oStr, Vl.fMakeL, Vl.fCM, Vl.fCMK, Vl.resE, ↓Vl.fRng1_one, Vl.oLen_lst, Vl.oLen_tup, Vl.oLen_ctup, Vl.oLen_scr, Vl.oIx_lst, Vl.oIx_tup, Vl.oIx_ctup, Vl.oIx_scr, Vl.oInt_int, Vl.oInt_bl, Vl.oAbs_int, Vl.oMax_int, Vl.oMin_int, Vl.oTuple_lst, Vl.oTuple_tup, Vl.oList_lst, Vl.oList_tup, Vl.oNeg_int, Vl.ty_non, Vl.ty_bl, Vl.ty_int, Vl.ty_str, Vl.ty_tup, Vl.ty_ctup, Vl.ty_lst, Vl.ty_dk, Vl.ty_scr, Vl.tru_non, Vl.tru_bl, Vl.tru_int, Vl.tru_lst, Vl.tru_tup, Vl.oEqS_int, Vl.oEqS_str, Vl.oEqS_bl, Vl.oCat_lst, Vl.oCatA_tup, Vl.oSlT_tup, Vl.oSlL_lst, Vl.keyOf_int, Vl.keyOf_str, Vl.isNon_non, Vl.isNon_bl, Vl.isNon_int, Vl.isNon_str, Vl.isNon_tup, Vl.isNon_lst, Vl.oFld_ob, Vl.isOb_ob', Vl.atI_0, Vl.atI_1, Vl.atI_2, Vl.atI_3, Vl.ixN_0, Vl.ixN_1, Vl.ixN_2, List.zipWith, List.replicate, List.append, List.cons_append, List.nil_append, List.append_nil, List.getElem?_cons_zero, List.getElem?_cons_succ, List.getElem?_nil, List.set_cons_zero, List.set_cons_succ, List.length_cons, List.length_nil, List.map_cons, List.map_nil, List.nodup_cons, List.nodup_nil, List.not_mem_nil, List.reverse_cons, List.reverse_nil, Bool.false_eq_true, ite_true, ite_false, if_true, if_false, reduceIte, decide_true, decide_false, Bool.true_and, Bool.and_true, Bool.false_and, Bool.and_false, Bool.not_true, Bool.not_false, Bool.or_false, Bool.false_or, Bool.or_true, Bool.true_or, reduceCtorEq, not_false_eq_true, not_true_eq_false, and_self, and_true, true_and, or_false, or_true, Nat.reduceSub, Nat.reduceAdd, Nat.reduceLeDiff, Nat.zero_add, Option.map_some, Option.map_none, Option.bind_some, Option.bind_none, Option.isSome_some, Option.isSome_none, List.mem_cons, List.all_cons, List.all_nil, eq_self, Int.cast_ofNat_Int, Int.natCast_zero, Int.natCast_one, Int.reduceEq, Int.reduceLT, Int.reduceLE, Int.reduceAdd, Int.reduceSub, Int.reduceNeg, Nat.reduceEqDiff])
/-- an end made of rows that are data, as a class method gives it -/
def madeOf (r : Res) : Res := match r with
  | .ret false .non (z :: _) => .ret false z [.non, .non]
  | .exc c as _ => .exc c as [.non, .non]
  | _ => .stuck
def fromT (a : Str) : Res := match readM a with
  | none => .exc "BadText" [.str a] [.non, .non]
  | some z => madeOf (Φ_End_init [.ob "End" [], .lst (rowsD z.1), .lst (rowsD z.2)])
theorem from_text {a : Str} (h : Fine 100000 a) : Φ_End_from_text [.cl "End", .str a] = fromT a := by
  have e := machines_read h
  clear h
  unfold fromT
  cases hr : readM a with
  | none =>
    rw [hr] at e
    replace e : Φ_read_machines [.str a] = .ret false .non [.non] := e
    clear hr
    unfold Φ_End_from_text F_End_from_text
    walk_at "ev"
  | some z =>
    rw [hr] at e
    replace e : Φ_read_machines [.str a] = .ret false (.lst [.lst (rowsD z.1), .lst (rowsD z.2)]) [.non] := e
    have e2 : oIsN false (.lst [.lst (rowsD z.1), .lst (rowsD z.2)]) .non = some (.bl false) := rfl
    clear hr
    show _ = madeOf (Φ_End_init [.ob "End" [], .lst (rowsD z.1), .lst (rowsD z.2)])
    unfold Φ_End_from_text F_End_from_text
    generalize rowsD z.1 = l1 at e e2 ⊢
    generalize rowsD z.2 = l2 at e e2 ⊢
    generalize hi : Φ_End_init [.ob "End" [], .lst l1, .lst l2] = r
    cases r with
    | stuck =>
      walk_at "ev"
      rfl
    | exc c as ns =>
      walk_at "ev"
      rfl
    | ret nw d ns =>
      cases nw with
      | true =>
        walk_at "ev"
        rfl
      | false =>
        cases d <;> (try (walk_at "ev"; rfl))
        cases ns with
        | nil =>
          walk_at "ev"
          rfl
        | cons x ns =>
          walk_at "ev"
          rfl
theorem joinL_all {P : Nat → Prop} {s : List Nat} (hs : ∀ c, c ∈ s → P c) : ∀ {l : List (List Nat)}, (∀ p, p ∈ l → ∀ c, c ∈ p → P c) → ∀ c, c ∈ TL.joinL s l → P c
  | [], _, c, h => by simp [TL.joinL] at h
  | [p], h, c, hc => h p (by simp) c hc
  | p :: q :: r, h, c, hc => by
    have hc : c ∈ p ++ (s ++ TL.joinL s (q :: r)) := hc
    rcases List.mem_append.mp hc with z | z
    · exact h p (by simp) c z
    · rcases List.mem_append.mp z with z | z
      · exact hs c z
      · exact joinL_all hs (fun u hu => h u (by simp [hu])) c z
theorem num_asc {n c : Nat} (h : c ∈ TL.tl (Str.ofString (toString (n : Int)))) : c < 128 := by
  rw [TL.tl_num] at h
  have := TL.numL_digits n c h
  omega
theorem pl_asc {p : Pl} (h : smallPl p) : ∀ c, c ∈ TL.tl (plT p) → c < 128 := by
  cases p with
  | num n => exact fun c hc => num_asc hc
  | word s =>
    have h : okWord s := h
    show ∀ c, c ∈ TL.tl s → c < 128
    rcases okWord_cases h with rfl | rfl | rfl | rfl <;> decide +kernel
theorem row_asc {r : Row} (h : smallRow r) : ∀ c, c ∈ TL.tl (rowT r) → c < 128 := fun c hc => by
  rw [tl_rowT] at hc
  simp only [List.mem_append, List.mem_cons] at hc
  rcases hc with z | rfl | z | rfl | z
  · exact num_asc z
  · decide
  · exact pl_asc h.2.1 c z
  · decide
  · exact pl_asc h.2.2 c z
theorem mach_asc {rs : List Row} (h : ∀ r, r ∈ rs → smallRow r) : ∀ c, c ∈ TL.tl (machT rs) → c < 128 := by
  unfold machT
  rw [TL.join_eq, TL.tl_join, tl_comma]
  refine joinL_all (by decide) fun p hp => ?_
  obtain ⟨z, hz, rfl⟩ := List.mem_map.mp hp
  obtain ⟨r, hr, rfl⟩ := List.mem_map.mp hz
  exact row_asc (h r hr)
theorem strOk_of {s : Str} (h : ∀ c, c ∈ TL.tl s → c < 128) : PyData.strOk s = true := by
  rw [← SX.S_tl s, strOk_S, List.all_eq_true]
  exact fun c hc => decide_eq_true (Nat.lt_trans (h c hc) (by decide))
theorem end_asc {hs ss : List Row} (h1 : ∀ r, r ∈ hs → smallRow r) (h2 : ∀ r, r ∈ ss → smallRow r) : ∀ c, c ∈ TL.tl (endT hs ss) → c < 128 := fun c hc => by
  unfold endT at hc
  rw [TL.tl_append, TL.tl_append, TL.tl_append, tl_stroke] at hc
  have e : TL.tl Str.empty = [] := rfl
  rw [e, List.nil_append] at hc
  rcases List.mem_append.mp hc with z | z
  · rcases List.mem_append.mp z with z | z
    · exact mach_asc h1 c z
    · simp only [List.mem_cons, List.not_mem_nil, or_false] at z
      omega
  · exact mach_asc h2 c z
theorem endT_fine {hs ss : List Row} (k1 : HearerOk hs) (k2 : SenderOk ss) : Fine 100000 (endT hs ss) := by
  have s1 : ∀ r, r ∈ hs → smallRow r := fun r hr => smallRow_of (smallW (.inl rfl)) (Nat.le_trans k1.2.1 (by decide)) (k1.2.2.1 r hr)
  have s2 : ∀ r, r ∈ ss → smallRow r := fun r hr => smallRow_of (smallW (.inr rfl)) (Nat.le_trans k2.2.1 (by decide)) (k2.2.2 r hr)
  have l1 := machT_fits s1 (Nat.le_trans k1.2.1 (by decide))
  have l2 := machT_fits s2 (Nat.le_trans k2.2.1 (by decide))
  have e : (" | " : Str).length = 3 := by decide +kernel
  have e0 : Str.empty.length = 0 := by decide +kernel
  refine ⟨strOk_of (end_asc s1 s2), by unfold endT; rw [strLen_append, strLen_append, strLen_append, e, e0]; omega⟩
theorem from_end {hs ss : List Row} (k1 : HearerOk hs) (k2 : SenderOk ss) : Φ_End_from_text [.cl "End", .str (endT hs ss)] = .ret false (endD hs ss) [.non, .non] := by
  rw [from_text (endT_fine k1 k2)]
  unfold fromT
  rw [readM_end k1 k2]
  show madeOf (Φ_End_init [.ob "End" [], .lst (rowsD hs), .lst (rowsD ss)]) = _
  rw [made (.inl rfl) (.inl rfl) k1 k2]
  rfl
end Pg

set_option Elab.async false
set_option linter.all false
set_option maxRecDepth 100000
set_option maxHeartbeats 2000000
/-! K05b: the law's own text of an end. -/
namespace K05
open PySem L2 Vl Pg
open Sb hiding plD rowD rowsD firstBad
local macro_rules | `(tactic| walk_at "ev") => `(tactic| simp only [Vl.runV, Vl.mkEnv, Vl.Res.of, Vl.Res.quiet, Vl.Res.val, Vl.ioAt, Vl.fSeq, Vl.fIte, Vl.fAsg, Vl.fVar, Vl.fC, Vl.fOp, Vl.fIxO, Vl.fPutL, Vl.fRet, Vl.fRetW, Vl.fRetO, Vl.fRetN, Vl.fLst, Vl.fTup, Vl.fB, Vl.fTru, Vl.fCB, Vl.fCons, Vl.fNil, Vl.o1, Vl.o2, Vl.oI, Vl.oIC, Vl.slotL, Vl.slotO, Vl.own, Vl.Pat.put, Vl.Pat.puts, Vl.Out.bind, Vl.Out.opt, Vl.fNx, Vl.fCt, Vl.fBk, Vl.fPar, Vl.fCall, Vl.fCallN, Vl.fCallL, Vl.fSetN, Vl.gIo, Vl.gCn, Vl.gNl, Vl.agDs, Vl.agD, Vl.ioSlots, Vl.putAll, Vl.put1, Vl.Ag.isIo, Vl.fAnd, Vl.fOr, Vl.fNot, Vl.fAndT, Vl.fOrT, Vl.fNotT, Vl.fChain, Vl.fIsi, Vl.fIsi2, Vl.fUn, Vl.fDrop, Vl.fApp, Vl.fLenO, Vl.fMake, Vl.fRaise, Vl.fFldS, Vl.fDInO, Vl.fDPutO, Vl.fDGetO, Vl.fPop, Vl.fListD, Vl.fDOne, Vl.fDNewK, Vl.isi, Vl.bOf, Vl.sOf, Vl.fFmt, Vl.fJs, Vl.oFmt, Vl.fM1, Vl.fM0, Vl.fFor, Vl.fItems, Vl.fEnum, Vl.fSl, Vl.fPart, Vl.fNoPart, Vl.fNeg, Vl.fAugI, Vl.fInO, Vl.fYes, Vl.fTruO, Vl.fComp, Vl.fCompO, Vl.calmE, Vl.wipeE, Vl.backE, Vl.oIsN, Vl.oStr, Vl.fMakeL, Vl.fCM, Vl.fCMK, Vl.resE, ↓Vl.fRng1_one, Vl.oLen_lst, Vl.oLen_tup, Vl.oLen_ctup, Vl.oLen_scr, Vl.oIx_lst, Vl.oIx_tup, Vl.oIx_ctup, Vl.oIx_scr, Vl.oInt_int, Vl.oInt_bl, Vl.oAbs_int, Vl.oMax_int, Vl.oMin_int, Vl.oTuple_lst, Vl.oTuple_tup, Vl.oList_lst, Vl.oList_tup, Vl.oNeg_int, Vl.ty_non, Vl.ty_bl, Vl.ty_int, Vl.ty_str, Vl.ty_tup, Vl.ty_ctup, Vl.ty_lst, Vl.ty_dk, Vl.ty_scr, Vl.tru_non, Vl.tru_bl, Vl.tru_int, Vl.tru_lst, Vl.tru_tup, Vl.oEqS_int, Vl.oEqS_str, Vl.oEqS_bl, Vl.oCat_lst, Vl.oCatA_tup, Vl.oSlT_tup, Vl.oSlL_lst, Vl.keyOf_int, Vl.keyOf_str, Vl.isNon_non, Vl.isNon_bl, Vl.isNon_int, Vl.isNon_str, Vl.isNon_tup, Vl.isNon_lst, Vl.oFld_ob, Vl.isOb_ob', Vl.atI_0, Vl.atI_1, Vl.atI_2, Vl.atI_3, Vl.ixN_0, Vl.ixN_1, Vl.ixN_2, List.zipWith, List.replicate, List.append, List.cons_append, List.nil_append, List.append_nil, List.getElem?_cons_zero, List.getElem?_cons_succ, List.getElem?_nil, List.set_cons_zero, List.set_cons_succ, List.length_cons, List.length_nil, List.map_cons, List.map_nil, List.nodup_cons, List.nodup_nil, List.not_mem_nil, List.reverse_cons, List.reverse_nil, Bool.false_eq_true, ite_true, ite_false, if_true, if_false, reduceIte, decide_true, decide_false, Bool.true_and, Bool.and_true, Bool.false_and, Bool.and_false, Bool.not_true, Bool.not_false, Bool.or_false, Bool.false_or, Bool.or_true, Bool.true_or, reduceCtorEq, not_false_eq_true, not_true_eq_false, and_self, and_true, true_and, or_false, or_true, Nat.reduceSub, Nat.reduceAdd, Nat.reduceLeDiff, Nat.zero_add, Option.map_some, Option.map_none, Option.bind_some, Option.bind_none, Option.isSome_some, Option.isSome_none, List.mem_cons, List.all_cons, List.all_nil, eq_self, Int.cast_ofNat_Int, Int.natCast_zero, Int.natCast_one, Int.reduceEq, Int.reduceLT, Int.reduceLE, Int.reduceAdd, Int.reduceSub, Int.reduceNeg, Nat.reduceEqDiff, *])
local macro_rules | `(tactic| walk_at "e0") => `(tactic| simp only [Vl.runV, Vl.mkEnv, Vl.Res.of, Vl.Res.quiet, Vl.Res.val, Vl.ioAt, Vl.fSeq, Vl.fIte, Vl.fAsg, Vl.fVar, Vl.fC, Vl.fOp, Vl.fIxO, Vl.fPutL, Vl.fRet, Vl.fRetW, Vl.fRetO, Vl.fRetN, Vl.fLst, Vl.fTup, Vl.fB, Vl.fTru, Vl.fCB, Vl.fCons, Vl.fNil, Vl.o1, Vl.o2, Vl.oI, Vl.oIC, Vl.slotL, Vl.slotO, Vl.own, Vl.Pat.put, Vl.Pat.puts, Vl.Out.bind, Vl.Out.opt, Vl.fNx, Vl.fCt, Vl.fBk, Vl.fPar, Vl.fCall, Vl.fCallN, Vl.fCallL, Vl.fSetN, Vl.gIo, Vl.gCn, Vl.gNl, Vl.agDs, Vl.agD, Vl.ioSlots, Vl.putAll, Vl.put1, Vl.Ag.isIo, Vl.fAnd, Vl.fOr, Vl.fNot, Vl.fAndT, Vl.fOrT, Vl.fNotT, Vl.fChain, Vl.fIsi, Vl.fIsi2, Vl.fUn, Vl.fDrop, Vl.fApp, Vl.fLenO, Vl.fMake, Vl.fRaise, Vl.fFldS, Vl.fDInO, Vl.fDPutO, Vl.fDGetO, Vl.fPop, Vl.fListD, Vl.fDOne, Vl.fDNewK, Vl.isi, Vl.bOf, Vl.sOf, Vl.fFmt, Vl.fJs, Vl.oFmt, Vl.fM1, Vl.fM0, Vl.fFor, Vl.fItems, Vl.fEnum, Vl.fSl, Vl.fPart, Vl.fNoPart, Vl.fNeg, Vl.fAugI, Vl.fInO, Vl.fYes, Vl.fTruO, Vl.fComp, Vl.fCompO, Vl.calmE, Vl.wipeE, Vl.backE, Vl.oIsN, Vl.oStr, Vl.fMakeL, Vl.fCM, Vl.fCMK, Vl.resE, ↓Vl.fRng1_one, Vl.oLen_lst, Vl.oLen_tup, Vl.oLen_ctup, Vl.oLen_scr, Vl.oIx_lst, Vl.oIx_tup, Vl.oIx_ctup, Vl.oIx_scr, Vl.oInt_int, Vl.oInt_bl, Vl.oAbs_int, Vl.oMax_int, Vl.oMin_int, Vl.oTuple_lst, Vl.oTuple_tup, Vl.oList_lst, Vl.oList_tup, Vl.oNeg_int, Vl.ty_non, Vl.ty_bl, Vl.ty_int, Vl.ty_str, Vl.ty_tup, Vl.ty_ctup, Vl.ty_lst, Vl.ty_dk, Vl.ty_scr, Vl.tru_non, Vl.tru_bl, Vl.tru_int, Vl.tru_lst, Vl.tru_tup, Vl.oEqS_int, Vl.oEqS_str, Vl.oEqS_bl, Vl.oCat_lst, Vl.oCatA_tup, Vl.oSlT_tup, Vl.oSlL_lst, Vl.keyOf_int, Vl.keyOf_str, Vl.isNon_non, Vl.isNon_bl, Vl.isNon_int, Vl.isNon_str, Vl.isNon_tup, Vl.isNon_lst, Vl.oFld_ob, Vl.isOb_ob', Vl.atI_0, Vl.atI_1, Vl.atI_2, Vl.atI_3, Vl.ixN_0, Vl.ixN_1, Vl.ixN_2, List.zipWith, List.replicate, List.append, List.cons_append, List.nil_append, List.append_nil, List.getElem?_cons_zero, List.getElem?_cons_succ, List.getElem?_nil, List.set_cons_zero, List.set_cons_succ, List.length_cons, List.length_nil, List.map_cons, List.map_nil, List.nodup_cons, List.nodup_nil, List.not_mem_nil, List.reverse_cons, List.reverse_nil, Bool.false_eq_true, ite_true, ite_false, if_true, if_false, reduceIte, decide_true, decide_false, Bool.true_and, Bool.and_true, Bool.false_and, Bool.and_false, Bool.not_true, Bool.not_false, Bool.or_false, Bool.false_or, Bool.or_true, Bool.true_or, reduceCtorEq, not_false_eq_true, not_true_eq_false, and_self, and_true, true_and, or_false, or_true, Nat.reduceSub, Nat.reduceAdd, Nat.reduceLeDiff, Nat.zero_add, Option.map_some, Option.map_none, Option.bind_some, Option.bind_none, Option.isSome_some, Option.isSome_none, List.mem_cons, List.all_cons, List.all_nil, eq_self, Int.cast_ofNat_Int, Int.natCast_zero, Int.natCast_one, Int.reduceEq, Int.reduceLT, Int.reduceLE, Int.reduceAdd, Int.reduceSub, Int.reduceNeg, Nat.reduceEqDiff])
theorem word_pl {p : Pl} (h : smallPl p) : Φ_L_word [plD p] = .ret false (.str (plT p)) [.non] := by
  cases p with
  | num n =>
    have e : oStr (.int (n : Int)) = some (.str (Str.ofString (toString (n : Int)))) := if_pos (num_log h)
    show Φ_L_word [.int (n : Int)] = .ret false (.str (Str.ofString (toString (n : Int)))) [.non]
    unfold Φ_L_word F_L_word
    generalize Str.ofString (toString (n : Int)) = t at e ⊢
    generalize oStr = o at e ⊢
    walk_at "ev"
  | word s =>
    show Φ_L_word [.str s] = .ret false (.str s) [.non]
    clear h
    unfold Φ_L_word F_L_word
    walk_at "ev"
theorem word_put {n : Nat} (h : n ≤ 1000) : Φ_L_word [.int (n : Int)] = .ret false (.str (Str.ofString (toString (n : Int)))) [.non] := word_pl (p := .num n) h
theorem add_ok {a b : Str} (h : a.length + b.length ≤ 100000) : oAddS (.str a) (.str b) = some (.str (a ++ b)) := if_pos (Nat.le_trans h (by decide))
/-- what one row adds -/
def addR (b : Bool) (t : Str) (r : Row) : Str := (((((t ++ (if b then (", " : Str) else ("" : Str))) ++ Str.ofString (toString (r.put : Int))) ++ (" " : Str)) ++ plT r.a) ++ (" " : Str)) ++ plT r.b
theorem b1 {r : Row} (h : smallRow r) {t : Str} (ht : t.length ≤ 90000) (m1 m2 ms n : D) {i : Int} {b : Bool} (hb : decide ((0 : Int) < i) = b) :
    B_L_text_1 [.sh m1, .sh m2, .sh (.str t), .sh ms, .sh n, .sh (.int i), .sh (rowD r)] = .val .nx [.sh m1, .sh m2, .sh (.str (addR b t r)), .sh ms, .sh n, .sh (.int i), .sh (rowD r)] := by
  have w0 := word_put h.1
  have w1 := word_pl h.2.1
  have w2 := word_pl h.2.2
  have l0 := num_len h.1
  have l1 := plT_len h.2.1
  have l2 := plT_len h.2.2
  have e1 : (" " : Str).length = 1 := by decide +kernel
  have ls : (if b then (", " : Str) else ("" : Str)).length ≤ 2 := by cases b <;> decide +kernel
  have er : Pg.rowD r = D.tup [.int (r.put : Int), plD r.a, plD r.b] := rfl
  unfold addR
  rw [er]
  generalize plD r.a = d1 at w1 ⊢
  generalize plD r.b = d2 at w2 ⊢
  generalize (r.put : Int) = p at w0 l0 ⊢
  generalize Str.ofString (toString p) = t0 at w0 l0 ⊢
  generalize plT r.a = t1 at w1 l1 ⊢
  generalize plT r.b = t2 at w2 l2 ⊢
  generalize hsp : (if b then (", " : Str) else ("" : Str)) = sp at ls ⊢
  have c1 : oAddS (.str t) (.str sp) = some (.str (t ++ sp)) := add_ok (by omega)
  have c2 : oAddS (.str (t ++ sp)) (.str t0) = some (.str (t ++ sp ++ t0)) := add_ok (by rw [strLen_append]; omega)
  have c3 : oAddS (.str (t ++ sp ++ t0)) (.str " ") = some (.str (t ++ sp ++ t0 ++ (" " : Str))) := add_ok (by rw [strLen_append, strLen_append, e1]; omega)
  have c4 : oAddS (.str (t ++ sp ++ t0 ++ (" " : Str))) (.str t1) = some (.str (t ++ sp ++ t0 ++ (" " : Str) ++ t1)) := add_ok (by rw [strLen_append, strLen_append, strLen_append, e1]; omega)
  have c5 : oAddS (.str (t ++ sp ++ t0 ++ (" " : Str) ++ t1)) (.str " ") = some (.str (t ++ sp ++ t0 ++ (" " : Str) ++ t1 ++ (" " : Str))) := add_ok (by rw [strLen_append, strLen_append, strLen_append, strLen_append, e1]; omega)
  have c6 : oAddS (.str (t ++ sp ++ t0 ++ (" " : Str) ++ t1 ++ (" " : Str))) (.str t2) = some (.str (t ++ sp ++ t0 ++ (" " : Str) ++ t1 ++ (" " : Str) ++ t2)) := add_ok (by rw [strLen_append, strLen_append, strLen_append, strLen_append, strLen_append, e1]; omega)
  clear l0 l1 l2 ls e1 ht h er
  generalize t ++ sp ++ t0 ++ (" " : Str) ++ t1 ++ (" " : Str) ++ t2 = x6 at c6 ⊢
  generalize t ++ sp ++ t0 ++ (" " : Str) ++ t1 ++ (" " : Str) = x5 at c5 c6
  generalize t ++ sp ++ t0 ++ (" " : Str) ++ t1 = x4 at c4 c5
  generalize t ++ sp ++ t0 ++ (" " : Str) = x3 at c3 c4
  generalize t ++ sp ++ t0 = x2 at c2 c3
  generalize t ++ sp = x1 at c1 c2
  unfold B_L_text_1 H_L_text_1 R_L_text_1
  generalize oAddS = o at c1 c2 c3 c4 c5 c6 ⊢
  cases b with
  | true =>
    have hsp : (", " : Str) = sp := hsp
    subst hsp
    walk_at "ev"
  | false =>
    have hsp : ("" : Str) = sp := hsp
    subst hsp
    walk_at "ev"
theorem tl_addR (b : Bool) (t : Str) (r : Row) : TL.tl (addR b t r) = TL.tl t ++ ((if b then [44, 32] else []) ++ TL.tl (rowT r)) := by
  unfold addR
  rw [tl_rowT, TL.tl_append, TL.tl_append, TL.tl_append, TL.tl_append, TL.tl_append, TL.tl_append, tl_space]
  cases b with
  | true =>
    rw [if_pos rfl, tl_comma]
    simp
  | false =>
    have e : TL.tl ("" : Str) = [] := by decide +kernel
    rw [if_neg (by decide), e]
    simp
theorem joinL_snoc (s p : List Nat) : ∀ l : List (List Nat), TL.joinL s (l ++ [p]) = TL.joinL s l ++ ((if decide (0 < l.length) then s else []) ++ p)
  | [] => by simp [TL.joinL]
  | [q] => by simp [TL.joinL]
  | q :: q2 :: r => by
    show q ++ (s ++ TL.joinL s ((q2 :: r) ++ [p])) = (q ++ (s ++ TL.joinL s (q2 :: r))) ++ _
    rw [joinL_snoc s p (q2 :: r)]
    simp
theorem joinL_take (rs : List Row) (i : Nat) (h : ∀ r, r ∈ rs → smallRow r) (hn : i ≤ 1000) : (TL.joinL [44, 32] ((rs.take i).map fun r => TL.tl (rowT r))).length ≤ 34000 := by
  have h1 := machT_fits (rs := rs.take i) (fun r hr => h r (List.mem_of_mem_take hr)) (by rw [List.length_take]; omega)
  have e : (machT (rs.take i)).length = (TL.tl (machT (rs.take i))).length := TL.len_tl _
  rw [e] at h1
  unfold machT at h1
  rw [TL.join_eq, TL.tl_join, tl_comma, List.map_map] at h1
  exact h1
/-- the rows of a machine, told -/
theorem loop_rows {rs : List Row} (h : ∀ r, r ∈ rs → smallRow r) (hn : rs.length ≤ 1000) {t : Str} (ht : t.length ≤ 50000) (m1 m2 ms n : D) {s5 s6 : Slot} :
    ∃ t5 t6, loopF (.tp [(.nm 5), (.nm 6)]) B_L_text_1 (enumD 0 (Pg.rowsD rs)) [.sh m1, .sh m2, .sh (.str t), .sh ms, .sh n, s5, s6] = .val .nx [.sh m1, .sh m2, .sh (.str (t ++ machT rs)), .sh ms, .sh n, t5, t6] := by
  obtain ⟨env', e, x, t5, t6, hx, rfl⟩ := loop_ok (p := .tp [(.nm 5), (.nm 6)]) (s := B_L_text_1) (ds := enumD 0 (Pg.rowsD rs)) (fun i env => ∃ (x : Str) (t5 t6 : Slot), TL.tl x = TL.tl t ++ TL.joinL [44, 32] ((rs.take i).map fun r => TL.tl (rowT r)) ∧ env = [.sh m1, .sh m2, .sh (.str x), .sh ms, .sh n, t5, t6]) (fun i d env hd hi => by
    obtain ⟨x, t5, t6, hx, rfl⟩ := hi
    rw [enumD_get] at hd
    cases e : (Pg.rowsD rs)[i]? with
    | none =>
      rw [e] at hd
      cases hd
    | some y =>
      rw [e] at hd
      cases hd
      obtain ⟨r, hr, rfl⟩ := rowsD_get e
      have hl : i < rs.length := (List.getElem?_eq_some_iff.mp hr).1
      have lx : x.length ≤ 90000 := by
        have e1 : x.length = (TL.tl x).length := TL.len_tl x
        have e2 : t.length = (TL.tl t).length := TL.len_tl t
        have := joinL_take rs i h (by omega)
        rw [e1, hx, List.length_append]
        omega
      have hb : decide ((0 : Int) < ((0 + i : Nat) : Int)) = decide (0 < ((rs.take i).map fun r => TL.tl (rowT r)).length) := decide_eq_decide.mpr (by rw [List.length_map, List.length_take]; omega)
      refine ⟨_, _, rfl, .inl (b1 (h r (List.mem_of_getElem? hr)) lx m1 m2 ms n hb), _, _, _, ?_, rfl⟩
      rw [tl_addR, hx, List.take_succ, hr, List.map_append]
      show _ = TL.tl t ++ TL.joinL [44, 32] (((rs.take i).map fun r => TL.tl (rowT r)) ++ [TL.tl (rowT r)])
      rw [joinL_snoc]
      simp only [List.append_assoc]) (env := [.sh m1, .sh m2, .sh (.str t), .sh ms, .sh n, s5, s6]) ⟨t, s5, s6, by simp [TL.joinL], rfl⟩
  refine ⟨t5, t6, ?_⟩
  have ex : x = t ++ machT rs := TL.ext_tl (by
    rw [hx, enumD_len, rowsD_len, List.take_length, TL.tl_append]
    unfold machT
    rw [TL.join_eq, TL.tl_join, tl_comma, List.map_map]
    rfl)
  rw [e, ex]
theorem b2 {rs : List Row} (h : ∀ r, r ∈ rs → smallRow r) (hn : rs.length ≤ 1000) {t sp : Str} (ht : t.length ≤ 40000) (hsp : sp.length ≤ 10) (m1 m2 ms n : D) (hix : oIx ms n = some (.lst (Pg.rowsD rs))) (hs : oIx (.lst [.str "", .str " | "]) n = some (.str sp)) {s5 s6 : Slot} :
    ∃ t5 t6, B_L_text_2 [.sh m1, .sh m2, .sh (.str t), .sh ms, .sh n, s5, s6] = .val .nx [.sh m1, .sh m2, .sh (.str ((t ++ sp) ++ machT rs)), .sh ms, .sh n, t5, t6] := by
  have e1 : H_L_text_2 [.sh m1, .sh m2, .sh (.str t), .sh ms, .sh n, s5, s6] = .val .nx [.sh m1, .sh m2, .sh (.str (t ++ sp)), .sh ms, .sh n, s5, s6] := by
    have c1 := add_ok (a := t) (b := sp) (by omega)
    clear hix ht hsp hn h
    unfold H_L_text_2
    generalize oAddS = o at c1 ⊢
    generalize oIx = o2 at hs ⊢
    walk_at "ev"
  obtain ⟨t5, t6, e2⟩ := loop_rows h hn (t := t ++ sp) (by rw [strLen_append]; omega) m1 m2 ms n (s5 := s5) (s6 := s6)
  refine ⟨t5, t6, seq7 e1 ?_⟩
  clear e1 hs ht hsp hn h
  unfold R_L_text_2 L_L_text_1
  generalize oIx = o2 at hix ⊢
  walk_at "ev"
theorem loop_rng {p : Pat} {s : Ev Fl} {n : Nat} {env env' : List Slot} (hn : n ≤ 1000) (h : loopF p s (rangeD 0 n) env = .val .nx env') : fFor (fRng1 (fCons (fC (.int (n : Int))) fNil)) p s env = .val .nx env' := by
  unfold fFor
  rw [fRng1_one]
  show ((rng1 [.int (n : Int)] env).bind fun ds e => loopF p s ds e) = _
  rw [rng1_nat (by omega)]
  exact h
theorem text_due {hs ss : List Row} (k1 : HearerOk hs) (k2 : SenderOk ss) : Φ_L_text [.lst (Pg.rowsD hs), .lst (Pg.rowsD ss)] = .ret false (.str (endT hs ss)) [.non, .non] := by
  have s1 : ∀ r, r ∈ hs → smallRow r := fun r hr => smallRow_of (smallW (.inl rfl)) (Nat.le_trans k1.2.1 (by decide)) (k1.2.2.1 r hr)
  have s2 : ∀ r, r ∈ ss → smallRow r := fun r hr => smallRow_of (smallW (.inr rfl)) (Nat.le_trans k2.2.1 (by decide)) (k2.2.2 r hr)
  have n1 : hs.length ≤ 1000 := Nat.le_trans k1.2.1 (by decide)
  have n2 : ss.length ≤ 1000 := Nat.le_trans k2.2.1 (by decide)
  have g0 : ("" : Str).length = 0 := by decide +kernel
  have g3 : (" | " : Str).length = 3 := by decide +kernel
  have l1 := machT_fits s1 n1
  obtain ⟨u5, u6, e1⟩ := b2 (sp := "") s1 n1 (t := "") (by omega) (by omega) (.lst (Pg.rowsD hs)) (.lst (Pg.rowsD ss)) (.lst [.lst (Pg.rowsD hs), .lst (Pg.rowsD ss)]) (.int 0) rfl rfl (s5 := .un) (s6 := .un)
  obtain ⟨v5, v6, e2⟩ := b2 (sp := " | ") s2 n2 (t := (("" : Str) ++ ("" : Str)) ++ machT hs) (by rw [strLen_append, strLen_append]; omega) (by omega) (.lst (Pg.rowsD hs)) (.lst (Pg.rowsD ss)) (.lst [.lst (Pg.rowsD hs), .lst (Pg.rowsD ss)]) (.int 1) rfl rfl (s5 := u5) (s6 := u6)
  have e3 := loop_rng (n := 2) (by omega) (loop_two (p := .nm 4) (d1 := .int 0) (d2 := .int 1) rfl (.inl e1) rfl (.inl e2) (e0 := [.sh (.lst (Pg.rowsD hs)), .sh (.lst (Pg.rowsD ss)), .sh (.str ""), .sh (.lst [.lst (Pg.rowsD hs), .lst (Pg.rowsD ss)]), .un, .un, .un]))
  have ee : (("" : Str) ++ ("" : Str)) ++ machT hs ++ (" | " : Str) ++ machT ss = endT hs ss := TL.ext_tl (by
    have e : TL.tl ("" : Str) = [] := by decide +kernel
    have e' : TL.tl Str.empty = [] := rfl
    unfold endT
    rw [TL.tl_append, TL.tl_append, TL.tl_append, TL.tl_append, TL.tl_append, TL.tl_append, TL.tl_append, e, e']
    simp)
  rw [ee] at e3
  have e3 : H_L_text_3 _ = _ := e3
  clear e1 e2 ee s1 s2 n1 n2 g0 g3 l1 k1 k2
  unfold Φ_L_text F_L_text R_L_text_4 R_L_text_3 H_L_text_4
  generalize Pg.rowsD hs = l1 at e3 ⊢
  generalize Pg.rowsD ss = l2 at e3 ⊢
  walk_at "ev"
/-! what is right -/
theorem str_own {hs ss : List Row} (k1 : HearerOk hs) (k2 : SenderOk ss) : oStrOwn "End" Φ_End_str (endD hs ss) = some (.str (endT hs ss)) := by
  unfold oStrOwn
  rw [str_ok k1 k2]
  rfl
theorem eq_own {hs ss : List Row} (k1 : HearerOk hs) (k2 : SenderOk ss) : oEqOwn "End" Φ_End_eq (endD hs ss) (endD hs ss) = some (.bl true) := by
  unfold oEqOwn
  rw [end_eq k1 k2 k1 k2, decide_eq_true ⟨rfl, rfl⟩]
  rfl
theorem oEq_neg {d e : D} {b : Bool} (h : oEq false d e = some (.bl b)) : oEq true d e = some (.bl (!b)) := by
  unfold oEq at h ⊢
  by_cases c : (d.eok && e.eok) = true
  · rw [if_pos c] at h ⊢
    have h2 : PyData.eqv d.py e.py = b := by simpa using h
    rw [h2]
    rfl
  · rw [if_neg c] at h
    cases h
theorem right_ok {hs ss : List Row} (k1 : HearerOk hs) (k2 : SenderOk ss) : Φ_L_right [.lst (Pg.rowsD hs), .lst (Pg.rowsD ss)] = .ret false (.bl true) [.non, .non] := by
  have f1 := made (.inl rfl : IsRows (.lst (Pg.rowsD hs)) hs) (.inl rfl : IsRows (.lst (Pg.rowsD ss)) ss) k1 k2
  have f2 := text_due k1 k2
  have f3 := str_own k1 k2
  have f4 := from_end k1 k2
  have f5 := eq_own k1 k2
  have f6 : oEq true (.tup (Pg.rowsD hs)) (.tup (Pg.rowsD hs)) = some (.bl false) := by
    have e := oEq_rows (.inl rfl) k1.2.2.1 k1.2.2.1
    rw [decide_eq_true rfl] at e
    exact oEq_neg e
  have f7 : oFld "End" 0 (endD hs ss) = some (.tup (Pg.rowsD hs)) := rfl
  have f8 : oIsO "End" (endD hs ss) = some (.bl true) := rfl
  clear k1 k2
  generalize endD hs ss = d at f1 f3 f4 f5 f7 f8
  generalize endT hs ss = t at f2 f3 f4
  generalize Pg.rowsD hs = l1 at f1 f2 f6 f7 ⊢
  generalize Pg.rowsD ss = l2 at f1 f2 ⊢
  have g3 : R_L_right_2 [.sh (.lst l1), .sh (.lst l2), .sh d, .sh (.str t), .un] = .val (.rt false (.bl true)) [.sh (.lst l1), .sh (.lst l2), .sh d, .sh (.str t), .sh d] := by
    have b : B_L_right_1 [.sh (.lst l1), .sh (.lst l2), .sh d, .sh (.str t), .sh d] = .val .nx [.sh (.lst l1), .sh (.lst l2), .sh d, .sh (.str t), .sh d] := by
      clear f1 f2 f4
      unfold B_L_right_1
      generalize oStrOwn "End" Φ_End_str = o1 at f3 ⊢
      generalize oEqOwn "End" Φ_End_eq = o2 at f5 ⊢
      generalize oEq true = o3 at f6 ⊢
      generalize oFld "End" 0 = o4 at f7 ⊢
      generalize oIsO "End" = o5 at f8 ⊢
      walk_at "ev"
    have e3 := loop_two (p := .nm 4) (s := B_L_right_1) (d1 := d) (d2 := d) rfl (.inl b) rfl (.inl b) (e0 := [.sh (.lst l1), .sh (.lst l2), .sh d, .sh (.str t), .un])
    clear f1 f2 f3 f5 f6 f7 f8 b
    unfold R_L_right_2 H_L_right_1 R_L_right_1 L_L_right_1
    generalize B_L_right_1 = bb at e3 ⊢
    walk_at "ev"
  have g2 : H_L_right_2 [.sh (.lst l1), .sh (.lst l2), .sh d, .sh (.str t), .un] = .val .nx [.sh (.lst l1), .sh (.lst l2), .sh d, .sh (.str t), .un] := by
    clear f1 f2 f4 f5 f6 f7 f8 g3
    unfold H_L_right_2
    generalize oStrOwn "End" Φ_End_str = o1 at f3 ⊢
    walk_at "ev"
  have g1 : H_L_right_3 [.sh (.lst l1), .sh (.lst l2), .un, .un, .un] = .val .nx [.sh (.lst l1), .sh (.lst l2), .sh d, .sh (.str t), .un] := by
    clear f3 f4 f5 f6 f7 f8 g3 g2
    unfold H_L_right_3
    walk_at "ev"
  have g : F_L_right [.sh (.lst l1), .sh (.lst l2), .un, .un, .un] = _ := seq7 g1 (seq7 g2 g3)
  clear f1 f2 f3 f4 f5 f6 f7 f8 g1 g2 g3
  unfold Φ_L_right
  walk_at "ev"
end K05

set_option Elab.async false
set_option linter.all false
set_option maxRecDepth 100000
set_option maxHeartbeats 4000000
/-! K05d: the law is true. -/
namespace K05
open PySem L2 Vl Pg
open Sb hiding plD rowD rowsD firstBad
local macro_rules | `(tactic| walk_at "ev") => `(tactic| simp only [Vl.runV, Vl.mkEnv, Vl.Res.of, Vl.Res.quiet, Vl.Res.val, Vl.ioAt, Vl.fSeq, Vl.fIte, Vl.fAsg, Vl.fVar, Vl.fC, Vl.fOp, Vl.fIxO, Vl.fPutL, Vl.fRet, Vl.fRetW, Vl.fRetO, Vl.fRetN, Vl.fLst, Vl.fTup, Vl.fB, Vl.fTru, Vl.fCB, Vl.fCons, Vl.fNil, Vl.o1, Vl.o2, Vl.oI, Vl.oIC, Vl.slotL, Vl.slotO, Vl.own, Vl.Pat.put, Vl.Pat.puts, Vl.Out.bind, Vl.Out.opt, Vl.fNx, Vl.fCt, Vl.fBk, Vl.fPar, Vl.fCall, Vl.fCallN, Vl.fCallL, Vl.fSetN, Vl.gIo, Vl.gCn, Vl.gNl, Vl.agDs, Vl.agD, Vl.ioSlots, Vl.putAll, Vl.put1, Vl.Ag.isIo, Vl.fAnd, Vl.fOr, Vl.fNot, Vl.fAndT, Vl.fOrT, Vl.fNotT, Vl.fChain, Vl.fIsi, Vl.fIsi2, Vl.fUn, Vl.fDrop, Vl.fApp, Vl.fLenO, Vl.fMake, Vl.fRaise, Vl.fFldS, Vl.fDInO, Vl.fDPutO, Vl.fDGetO, Vl.fPop, Vl.fListD, Vl.fDOne, Vl.fDNewK, Vl.isi, Vl.bOf, Vl.sOf, Vl.fFmt, Vl.fJs, Vl.oFmt, Vl.fM1, Vl.fM0, Vl.fFor, Vl.fItems, Vl.fEnum, Vl.fSl, Vl.fPart, Vl.fNoPart, Vl.fNeg, Vl.fAugI, Vl.fInO, Vl.fYes, Vl.fTruO, Vl.fComp, Vl.fCompO, Vl.calmE, Vl.wipeE, Vl.backE, Vl.oIsN, Vl.oStr, Vl.fMakeL, Vl.fCM, Vl.fCMK, Vl.resE, ↓Vl.fRng1_one, Vl.oLen_lst, Vl.oLen_tup, Vl.oLen_ctup, Vl.oLen_scr, Vl.oIx_lst, Vl.oIx_tup, Vl.oIx_ctup, Vl.oIx_scr, Vl.oInt_int, Vl.oInt_bl, Vl.oAbs_int, Vl.oMax_int, Vl.oMin_int, Vl.oTuple_lst, Vl.oTuple_tup, Vl.oList_lst, Vl.oList_tup, Vl.oNeg_int, Vl.ty_non, Vl.ty_bl, Vl.ty_int, Vl.ty_str, Vl.ty_tup, Vl.ty_ctup, Vl.ty_lst, Vl.ty_dk, Vl.ty_scr, Vl.tru_non, Vl.tru_bl, Vl.tru_int, Vl.tru_lst, Vl.tru_tup, Vl.oEqS_int, Vl.oEqS_str, Vl.oEqS_bl, Vl.oCat_lst, Vl.oCatA_tup, Vl.oSlT_tup, Vl.oSlL_lst, Vl.keyOf_int, Vl.keyOf_str, Vl.isNon_non, Vl.isNon_bl, Vl.isNon_int, Vl.isNon_str, Vl.isNon_tup, Vl.isNon_lst, Vl.oFld_ob, Vl.isOb_ob', Vl.atI_0, Vl.atI_1, Vl.atI_2, Vl.atI_3, Vl.ixN_0, Vl.ixN_1, Vl.ixN_2, List.zipWith, List.replicate, List.append, List.cons_append, List.nil_append, List.append_nil, List.getElem?_cons_zero, List.getElem?_cons_succ, List.getElem?_nil, List.set_cons_zero, List.set_cons_succ, List.length_cons, List.length_nil, List.map_cons, List.map_nil, List.nodup_cons, List.nodup_nil, List.not_mem_nil, List.reverse_cons, List.reverse_nil, Bool.false_eq_true, ite_true, ite_false, if_true, if_false, reduceIte, decide_true, decide_false, Bool.true_and, Bool.and_true, Bool.false_and, Bool.and_false, Bool.not_true, Bool.not_false, Bool.or_false, Bool.false_or, Bool.or_true, Bool.true_or, reduceCtorEq, not_false_eq_true, not_true_eq_false, and_self, and_true, true_and, or_false, or_true, Nat.reduceSub, Nat.reduceAdd, Nat.reduceLeDiff, Nat.zero_add, Option.map_some, Option.map_none, Option.bind_some, Option.bind_none, Option.isSome_some, Option.isSome_none, List.mem_cons, List.all_cons, List.all_nil, eq_self, Int.cast_ofNat_Int, Int.natCast_zero, Int.natCast_one, Int.reduceEq, Int.reduceLT, Int.reduceLE, Int.reduceAdd, Int.reduceSub, Int.reduceNeg, Nat.reduceEqDiff, *])
local macro_rules | `(tactic| walk_at "e0") => `(tactic| simp only [Vl.runV, Vl.mkEnv, Vl.Res.of, Vl.Res.quiet, Vl.Res.val, Vl.ioAt, Vl.fSeq, Vl.fIte, Vl.fAsg, Vl.fVar, Vl.fC, Vl.fOp, Vl.fIxO, Vl.fPutL, Vl.fRet, Vl.fRetW, Vl.fRetO, Vl.fRetN, Vl.fLst, Vl.fTup, Vl.fB, Vl.fTru, Vl.fCB, Vl.fCons, Vl.fNil, Vl.o1, Vl.o2, Vl.oI, Vl.oIC, Vl.slotL, Vl.slotO, Vl.own, Vl.Pat.put, Vl.Pat.puts, Vl.Out.bind, Vl.Out.opt, Vl.fNx, Vl.fCt, Vl.fBk, Vl.fPar, Vl.fCall, Vl.fCallN, Vl.fCallL, Vl.fSetN, Vl.gIo, Vl.gCn, Vl.gNl, Vl.agDs, Vl.agD, Vl.ioSlots, Vl.putAll, Vl.put1, Vl.Ag.isIo, Vl.fAnd, Vl.fOr, Vl.fNot, Vl.fAndT, Vl.fOrT, Vl.fNotT, Vl.fChain, Vl.fIsi, Vl.fIsi2, Vl.fUn, Vl.fDrop, Vl.fApp, Vl.fLenO, Vl.fMake, Vl.fRaise, Vl.fFldS, Vl.fDInO, Vl.fDPutO, Vl.fDGetO, Vl.fPop, Vl.fListD, Vl.fDOne, Vl.fDNewK, Vl.isi, Vl.bOf, Vl.sOf, Vl.fFmt, Vl.fJs, Vl.oFmt, Vl.fM1, Vl.fM0, Vl.fFor, Vl.fItems, Vl.fEnum, Vl.fSl, Vl.fPart, Vl.fNoPart, Vl.fNeg, Vl.fAugI, Vl.fInO, Vl.fYes, Vl.fTruO, Vl.fComp, Vl.fCompO, Vl.calmE, Vl.wipeE, Vl.backE, Vl.oIsN, Vl.oStr, Vl.fMakeL, Vl.fCM, Vl.fCMK, Vl.resE, ↓Vl.fRng1_one, Vl.oLen_lst, Vl.oLen_tup, Vl.oLen_ctup, Vl.oLen_scr, Vl.oIx_lst, Vl.oIx_tup, Vl.oIx_ctup, Vl.oIx_scr, Vl.oInt_int, Vl.oInt_bl, Vl.oAbs_int, Vl.oMax_int, Vl.oMin_int, Vl.oTuple_lst, Vl.oTuple_tup, Vl.oList_lst, Vl.oList_tup, Vl.oNeg_int, Vl.ty_non, Vl.ty_bl, Vl.ty_int, Vl.ty_str, Vl.ty_tup, Vl.ty_ctup, Vl.ty_lst, Vl.ty_dk, Vl.ty_scr, Vl.tru_non, Vl.tru_bl, Vl.tru_int, Vl.tru_lst, Vl.tru_tup, Vl.oEqS_int, Vl.oEqS_str, Vl.oEqS_bl, Vl.oCat_lst, Vl.oCatA_tup, Vl.oSlT_tup, Vl.oSlL_lst, Vl.keyOf_int, Vl.keyOf_str, Vl.isNon_non, Vl.isNon_bl, Vl.isNon_int, Vl.isNon_str, Vl.isNon_tup, Vl.isNon_lst, Vl.oFld_ob, Vl.isOb_ob', Vl.atI_0, Vl.atI_1, Vl.atI_2, Vl.atI_3, Vl.ixN_0, Vl.ixN_1, Vl.ixN_2, List.zipWith, List.replicate, List.append, List.cons_append, List.nil_append, List.append_nil, List.getElem?_cons_zero, List.getElem?_cons_succ, List.getElem?_nil, List.set_cons_zero, List.set_cons_succ, List.length_cons, List.length_nil, List.map_cons, List.map_nil, List.nodup_cons, List.nodup_nil, List.not_mem_nil, List.reverse_cons, List.reverse_nil, Bool.false_eq_true, ite_true, ite_false, if_true, if_false, reduceIte, decide_true, decide_false, Bool.true_and, Bool.and_true, Bool.false_and, Bool.and_false, Bool.not_true, Bool.not_false, Bool.or_false, Bool.false_or, Bool.or_true, Bool.true_or, reduceCtorEq, not_false_eq_true, not_true_eq_false, and_self, and_true, true_and, or_false, or_true, Nat.reduceSub, Nat.reduceAdd, Nat.reduceLeDiff, Nat.zero_add, Option.map_some, Option.map_none, Option.bind_some, Option.bind_none, Option.isSome_some, Option.isSome_none, List.mem_cons, List.all_cons, List.all_nil, eq_self, Int.cast_ofNat_Int, Int.natCast_zero, Int.natCast_one, Int.reduceEq, Int.reduceLT, Int.reduceLE, Int.reduceAdd, Int.reduceSub, Int.reduceNeg, Nat.reduceEqDiff])
theorem bag_ok (ns : List Int) (i : Nat) (hi : i < 1000) : ∃ d, Φ_L_bag [.scr ns, .int (i : Int)] = .ret true d [.non, .non] ∧ BagA 0 d := by
  have key : ∀ x : Int, (∃ cell, (cell = true ↔ (i : Int) < (ns.length : Int)) ∧ (if cell = true then atI ns (i : Int) = some x else x = 0)) → ∃ d, Φ_L_bag [.scr ns, .int (i : Int)] = .ret true d [.non, .non] ∧ BagA 0 d := by
    rintro x ⟨cell, hc, hx⟩
    have e0 := powOk (i := 10) (j := 18) 5 (by decide) (by decide) (by decide)
    rw [Bool.and_eq_true] at e0
    replace e0 := e0.2
    have p18 : (10 : Int) ^ (18 : Int).toNat = 1000000000000000000 := by decide
    have z1 : decide ((0 : Int) < 2305843009213693951) = true := rfl
    have e1 : cMul (x % 2305843009213693951) 44497 = true := cMulR (by decide)
    have e2 : cMul 6301 (i : Int) = true := cMulL (by decide)
    have p90 : (2 : Int) ^ 90 = 1237940039285380274899124224 := by decide
    obtain ⟨y, hy, hab⟩ : ∃ y, oAbs (.int x) = some (.int y) ∧ 0 ≤ y := ⟨_, rfl, by split <;> omega⟩
    have fin : ∀ k : Bool, decide (1000000000000000000 ≤ y) = k → ∃ d, Φ_L_bag [.scr ns, .int (i : Int)] = .ret true d [.non, .non] ∧ BagA 0 d := fun k hk => by
      refine ⟨.lst [.int (if k = true then y else 0), .int (x % 2305843009213693951 * 44497 + 6301 * (i : Int) + 31), .int 0], ?_, ⟨_, _, _, rfl, by split <;> omega, by omega, by rw [p90]; omega, by omega, by omega⟩⟩
      clear p90 hab
      unfold Φ_L_bag F_L_bag
      cases cell with
      | true =>
        have hl : decide ((i : Int) < (ns.length : Int)) = true := decide_eq_true (hc.mp rfl)
        have hx : atI ns (i : Int) = some x := hx
        clear hc hi
        cases k <;> walk_at "ev"
      | false =>
        have hl : decide ((i : Int) < (ns.length : Int)) = false := decide_eq_false fun h => by
          have := hc.mpr h
          cases this
        have hx : x = 0 := by simpa using hx
        subst hx
        clear hc hi
        cases k <;> walk_at "ev"
    exact fin _ rfl
  by_cases h : (i : Int) < (ns.length : Int)
  · refine key (ns[i]'(by omega)) ⟨true, by simpa using h, ?_⟩
    rw [if_pos rfl]
    unfold atI ixN
    rw [if_pos (by omega), if_pos h]
    simp
  · exact key 0 ⟨false, by simpa using h, by simp⟩
/-! one drawn end -/
theorem turn (sc at_ bag : D) (s3 s4 s5 s6 : Slot) (k : Int) (hb : BagA k bag) (hk : k < 700000) : ∃ bag', B_law_1 [.sh sc, .sh at_, .ow bag, s3, s4, s5, s6] = .val .nx [.sh sc, .sh at_, .ow bag', s3, s4, s5, s6] ∧ BagA (k + 60) bag' := by
  obtain ⟨r1, b1, e1, hb1, p1, p2⟩ := take_ok k 7 bag hb (by omega) (by decide) (by decide)
  obtain ⟨m, hm⟩ : ∃ m : Nat, 2 + r1 = (m : Int) := ⟨(2 + r1).toNat, (Int.toNat_of_nonneg (by omega)).symm⟩
  obtain ⟨hs, b2, e2, hb2, l1, ok1⟩ := hearer_ok (k + 1) m b1 hb1 (by omega) (by omega) (by omega)
  obtain ⟨r2, b3, e3, hb3, q1, q2⟩ := take_ok (k + 1 + 3 * m) 8 b2 hb2 (by omega) (by decide) (by decide)
  obtain ⟨n, hn⟩ : ∃ n : Nat, 1 + r2 = (n : Int) := ⟨(1 + r2).toNat, (Int.toNat_of_nonneg (by omega)).symm⟩
  obtain ⟨ss, b4, e4, hb4, l2, ok2⟩ := sender_ok (k + 1 + 3 * m + 1) n b3 hb3 (by omega) (by omega) (by omega)
  have e5 := right_ok ok1 ok2
  refine ⟨b4, ?_, hb4.more (by omega)⟩
  clear hb hb1 hb2 hb3 hb4 ok1 ok2 l1 l2 p1 p2 q1 q2 hk
  generalize Pg.rowsD hs = d1 at e2 e5
  generalize Pg.rowsD ss = d2 at e4 e5
  unfold B_law_1
  walk_at "ev"
theorem loop_t (sc at_ bag : D) (s3 s4 s5 s6 : Slot) (hb : BagA 0 bag) : ∃ bag' t3, H_law_3 [.sh sc, .sh at_, .ow bag, s3, s4, s5, s6] = .val .nx [.sh sc, .sh at_, .ow bag', t3, s4, s5, s6] ∧ BagA 360 bag' := by
  obtain ⟨env', e, hi, bag', t3, rfl, hb'⟩ := loop_ok (p := .nm 3) (s := B_law_1) (ds := rangeD 0 6) (fun i env => i ≤ 6 ∧ ∃ bag t3, env = [.sh sc, .sh at_, .ow bag, t3, s4, s5, s6] ∧ BagA (60 * (i : Int)) bag) (fun i d env hd hi => by
    obtain ⟨hl, rfl⟩ := rangeD_get hd
    obtain ⟨_, bag, t3, rfl, hb⟩ := hi
    obtain ⟨bag', e, hb'⟩ := turn sc at_ bag (.sh (.int (0 + (i : Int)))) s4 s5 s6 _ hb (by omega)
    exact ⟨_, _, rfl, .inl e, by omega, _, _, rfl, hb'.more (by omega)⟩) (env := [.sh sc, .sh at_, .ow bag, s3, s4, s5, s6]) ⟨by omega, bag, s3, rfl, by simpa using hb⟩
  exact ⟨bag', t3, loop_rng (n := 6) (by omega) e, by rw [rangeD_len] at hb'; exact hb'⟩
/-! the large end -/
def longRow (st i : Nat) : Row := ⟨i % 2, .num (99 - i), .num ((i + st) % 100)⟩
def longH (st : Nat) : List Row := [⟨1, .num 0, .word "taken"⟩, ⟨0, .word "lost", .num 1⟩] ++ (List.range 98).map fun i => longRow st (2 + i)
def longS : List Row := ((List.range 99).map fun i => ⟨1, .num i, .num (99 - i)⟩) ++ [⟨0, .word "again", .word "done"⟩]
theorem no_reach {rows : List Row} {b : Nat} (P : Pl → Prop) (h0 : P (.num b)) (hs : ∀ i p, P (.num i) → Fol rows i p → P p) (hn : ¬ P (.word "taken")) : ¬ Reach rows b (.word "taken") := fun h => by
  have key : ∀ p, Reach rows b p → P p := fun p h => by
    induction h with
    | base => exact h0
    | step _ f ih => exact hs _ _ ih f
  exact hn (key _ h)
theorem taken_ne : ("taken" : Str) ≠ ("lost" : Str) := by decide +kernel
theorem one_lost {rows : List Row} {r : Row} (h1 : rows[1]? = some r) (ha : r.a = .word "lost") (hb : r.b = .num 1 ∨ r.b = .word "lost") : ¬ Reach rows 1 (.word "taken") := by
  refine no_reach (fun p => p = .num 1 ∨ p = .word "lost") (.inl rfl) (fun i p hp f => ?_) (fun z => ?_)
  · rcases hp with z | z
    · cases z
      obtain ⟨q, hq, hf⟩ := f
      rw [h1] at hq
      cases hq
      rcases hf with rfl | rfl
      · exact .inr ha
      · exact hb
    · cases z
  · rcases z with z | z
    · cases z
    · injection z with z
      exact taken_ne z
theorem longH_ok {st : Nat} : HearerOk (longH st) := by
  have hl : (longH st).length = 100 := by simp [longH]
  refine ⟨by omega, by omega, fun r hr => ?_, one_lost (r := ⟨0, .word "lost", .num 1⟩) rfl rfl (.inl rfl)⟩
  rw [hl]
  rcases List.mem_append.mp hr with z | z
  · simp only [List.mem_cons, List.not_mem_nil, or_false] at z
    rcases z with rfl | rfl <;> decide +kernel
  · obtain ⟨i, hi, rfl⟩ := List.mem_map.mp z
    have hi : i < 98 := List.mem_range.mp hi
    refine ⟨?_, ?_, ?_⟩
    · show (2 + i) % 2 = 0 ∨ (2 + i) % 2 = 1
      omega
    · show 99 - (2 + i) < 100
      omega
    · show (2 + i + st) % 100 < 100
      omega
theorem longS_ok : SenderOk longS := by
  have hl : longS.length = 100 := by simp [longS]
  refine ⟨by omega, by omega, fun r hr => ?_⟩
  rw [hl]
  rcases List.mem_append.mp hr with z | z
  · obtain ⟨i, hi, rfl⟩ := List.mem_map.mp z
    have hi : i < 99 := List.mem_range.mp hi
    refine ⟨.inr rfl, ?_, ?_⟩
    · show i < 100
      omega
    · show 99 - i < 100
      omega
  · simp only [List.mem_cons, List.not_mem_nil, or_false] at z
    subst z
    decide +kernel
theorem elt_h {i st : Nat} (hi : i < 98) (s0 s1 s2 s3 s5 : Slot) : E_law_1 [s0, s1, s2, s3, .sh (.int (st : Int)), s5, .sh (.int (2 + (i : Int)))] = .val (Pg.rowD (longRow st (2 + i))) [s0, s1, s2, s3, .sh (.int (st : Int)), s5, .sh (.int (2 + (i : Int)))] := by
  have er : Pg.rowD (longRow st (2 + i)) = .tup [.int ((2 + (i : Int)) % 2), .int (99 - (2 + (i : Int))), .int ((2 + (i : Int) + (st : Int)) % 100)] := by
    show D.tup [.int (((2 + i) % 2 : Nat) : Int), .int ((99 - (2 + i) : Nat) : Int), .int (((2 + i + st) % 100 : Nat) : Int)] = _
    have a1 : (((2 + i) % 2 : Nat) : Int) = (2 + (i : Int)) % 2 := by omega
    have a2 : ((99 - (2 + i) : Nat) : Int) = 99 - (2 + (i : Int)) := by omega
    have a3 : (((2 + i + st) % 100 : Nat) : Int) = (2 + (i : Int) + (st : Int)) % 100 := by omega
    rw [a1, a2, a3]
  rw [er]
  clear hi er
  generalize 2 + (i : Int) = x
  unfold E_law_1
  walk_at "ev"
theorem comp_h (sc at_ bag : D) (s3 s5 : Slot) (st : Nat) : ∃ t6, compF (.nm 6) fYes E_law_1 [6] (rangeD 2 98) [] [.sh sc, .sh at_, .ow bag, s3, .sh (.int (st : Int)), s5, .un] = .val (((List.range 98).map fun i => longRow st (2 + i)).map Pg.rowD) [.sh sc, .sh at_, .ow bag, s3, .sh (.int (st : Int)), s5, t6] := by
  obtain ⟨acc, env', hc, hi, t6, rfl, rfl⟩ := comp_ok (p := .nm 6) (ft := fYes) (fe := E_law_1) (vs := [6]) (ds := rangeD 2 98) (fun i acc env => i ≤ 98 ∧ ∃ t6, acc = ((List.range i).map fun i => longRow st (2 + i)).map Pg.rowD ∧ env = [.sh sc, .sh at_, .ow bag, s3, .sh (.int (st : Int)), s5, t6]) (fun i y acc env hd hi => by
    obtain ⟨hl, rfl⟩ := rangeD_get hd
    obtain ⟨_, t6, rfl, rfl⟩ := hi
    refine ⟨[.sh sc, .sh at_, .ow bag, s3, .sh (.int (st : Int)), s5, .sh (.int (2 + (i : Int)))], true, _, rfl, rfl, fun _ => ⟨_, _, elt_h hl _ _ _ _ _, ?_, by omega, _, ?_, rfl⟩, fun z => by cases z⟩
    · rw [List.length_map, List.length_map, List.length_range]
      exact Nat.lt_of_lt_of_le hl (by decide)
    · rw [List.range_succ, List.map_append, List.map_append]
      rfl) (env := [.sh sc, .sh at_, .ow bag, s3, .sh (.int (st : Int)), s5, .un]) ⟨by omega, .un, rfl, rfl⟩
  rw [rangeD_len] at hc
  exact ⟨t6, hc⟩
theorem rng2_ok {i j : Int} {e : List Slot} (h1 : sm62 i = true) (h2 : sm62 j = true) : fRng2 (fCons (fC (.int i)) (fCons (fC (.int j)) fNil)) e = .val (rangeD i (j - i).toNat) e := by
  show (if sm62 i && sm62 j then Out.val (rangeD i (j - i).toNat) e else .stuck) = _
  rw [h1, h2]
  rfl
theorem h1 (sc at_ bag : D) (s3 s5 : Slot) (st : Nat) : H_law_1 [.sh sc, .sh at_, .ow bag, s3, .sh (.int (st : Int)), s5, .un] = .val .nx [.sh sc, .sh at_, .ow bag, s3, .sh (.int (st : Int)), .sh (.lst (Pg.rowsD (longH st))), .un] := by
  obtain ⟨t6, hc⟩ := comp_h sc at_ bag s3 s5 st
  have hr : fRng2 (fCons (fC (.int 2)) (fCons (fC (.int 100)) fNil)) [.sh sc, .sh at_, .ow bag, s3, .sh (.int (st : Int)), s5, .un] = .val (rangeD 2 98) _ := rng2_ok rfl rfl
  have hcat : oCat (.lst [.tup [.int 1, .int 0, .str "taken"], .tup [.int 0, .str "lost", .int 1]]) (.lst (((List.range 98).map fun i => longRow st (2 + i)).map Pg.rowD)) = some (.lst (Pg.rowsD (longH st))) := by
    rw [oCat_lst]
    have e : Pg.rowsD (longH st) = [.tup [.int 1, .int 0, .str "taken"], .tup [.int 0, .str "lost", .int 1]] ++ (((List.range 98).map fun i => longRow st (2 + i)).map Pg.rowD) := rfl
    rw [e]
    refine if_pos (Nat.le_trans (?_ : _ ≤ 1000) (by decide))
    simp
  generalize ((List.range 98).map fun i => longRow st (2 + i)).map Pg.rowD = l at hc hcat
  generalize Pg.rowsD (longH st) = l2 at hcat ⊢
  generalize rangeD 2 98 = rg at hc hr
  unfold H_law_1
  generalize oCat = o at hcat ⊢
  generalize fRng2 (fCons (fC (.int 2)) (fCons (fC (.int 100)) fNil)) = fr at hr ⊢
  walk_at "ev"
theorem elt_s {i : Nat} (hi : i < 99) (s0 s1 s2 s3 s4 s5 : Slot) : E_law_2 [s0, s1, s2, s3, s4, s5, .sh (.int (0 + (i : Int)))] = .val (Pg.rowD ⟨1, .num i, .num (99 - i)⟩) [s0, s1, s2, s3, s4, s5, .sh (.int (0 + (i : Int)))] := by
  have er : Pg.rowD ⟨1, .num i, .num (99 - i)⟩ = .tup [.int 1, .int (0 + (i : Int)), .int (99 - (0 + (i : Int)))] := by
    show D.tup [.int 1, .int (i : Int), .int ((99 - i : Nat) : Int)] = _
    have a1 : (i : Int) = 0 + (i : Int) := by omega
    have a2 : ((99 - i : Nat) : Int) = 99 - (0 + (i : Int)) := by omega
    rw [a2, ← a1]
  rw [er]
  clear hi er
  generalize 0 + (i : Int) = x
  unfold E_law_2
  walk_at "ev"
theorem comp_s (s0 s1 s2 s3 s4 s5 : Slot) : ∃ t6, compF (.nm 6) fYes E_law_2 [6] (rangeD 0 99) [] [s0, s1, s2, s3, s4, s5, .un] = .val (((List.range 99).map fun i => (⟨1, .num i, .num (99 - i)⟩ : Row)).map Pg.rowD) [s0, s1, s2, s3, s4, s5, t6] := by
  obtain ⟨acc, env', hc, hi, t6, rfl, rfl⟩ := comp_ok (p := .nm 6) (ft := fYes) (fe := E_law_2) (vs := [6]) (ds := rangeD 0 99) (fun i acc env => i ≤ 99 ∧ ∃ t6, acc = ((List.range i).map fun i => (⟨1, .num i, .num (99 - i)⟩ : Row)).map Pg.rowD ∧ env = [s0, s1, s2, s3, s4, s5, t6]) (fun i y acc env hd hi => by
    obtain ⟨hl, rfl⟩ := rangeD_get hd
    obtain ⟨_, t6, rfl, rfl⟩ := hi
    refine ⟨[s0, s1, s2, s3, s4, s5, .sh (.int (0 + (i : Int)))], true, _, rfl, rfl, fun _ => ⟨_, _, elt_s hl _ _ _ _ _ _, ?_, by omega, _, ?_, rfl⟩, fun z => by cases z⟩
    · rw [List.length_map, List.length_map, List.length_range]
      exact Nat.lt_of_lt_of_le hl (by decide)
    · rw [List.range_succ, List.map_append, List.map_append]
      rfl) (env := [s0, s1, s2, s3, s4, s5, .un]) ⟨by omega, .un, rfl, rfl⟩
  rw [rangeD_len] at hc
  exact ⟨t6, hc⟩
theorem r1 (sc at_ bag : D) (s3 s4 : Slot) (st : Nat) : R_law_1 [.sh sc, .sh at_, .ow bag, s3, s4, .sh (.lst (Pg.rowsD (longH st))), .un] = .val .nx [.sh sc, .sh at_, .ow bag, s3, s4, .sh (.lst (Pg.rowsD (longH st))), .un] := by
  obtain ⟨t6, hc⟩ := comp_s (.sh sc) (.sh at_) (.ow bag) s3 s4 (.sh (.lst (Pg.rowsD (longH st))))
  have hr := rng1_nat (n := 99) (by omega)
  have hcat : oCat (.lst (((List.range 99).map fun i => (⟨1, .num i, .num (99 - i)⟩ : Row)).map Pg.rowD)) (.lst [.tup [.int 0, .str "again", .str "done"]]) = some (.lst (Pg.rowsD longS)) := by
    rw [oCat_lst]
    have e : Pg.rowsD longS = (((List.range 99).map fun i => (⟨1, .num i, .num (99 - i)⟩ : Row)).map Pg.rowD) ++ [.tup [.int 0, .str "again", .str "done"]] := by
      unfold Pg.rowsD longS
      rw [List.map_append]
      rfl
    rw [e]
    refine if_pos (Nat.le_trans (?_ : _ ≤ 1000) (by decide))
    simp
  have e5 := right_ok (longH_ok (st := st)) longS_ok
  replace hr : ∀ e, rng1 [.int 99] e = Out.val (rangeD 0 99) e := hr
  generalize ((List.range 99).map fun i => (⟨1, .num i, .num (99 - i)⟩ : Row)).map Pg.rowD = l at hc hcat
  generalize Pg.rowsD (longH st) = l2 at hc e5 ⊢
  generalize Pg.rowsD longS = l3 at hcat e5
  generalize rangeD 0 99 = rg at hc hr
  unfold R_law_1
  generalize oCat = o at hcat ⊢
  walk_at "ev"
theorem h2 (sc at_ bag : D) (s3 s4 s5 s6 : Slot) (k : Int) (hb : BagA k bag) (hk : k < 700000) : ∃ bag' st, H_law_2 [.sh sc, .sh at_, .ow bag, s3, s4, s5, s6] = .val .nx [.sh sc, .sh at_, .ow bag', s3, .sh (.int ((st : Nat) : Int)), s5, s6] := by
  obtain ⟨r1, b1, e1, hb1, p1, p2⟩ := take_ok k 98 bag hb (by omega) (by decide) (by decide)
  obtain ⟨m, hm⟩ : ∃ m : Nat, 1 + r1 = (m : Int) := ⟨(1 + r1).toNat, (Int.toNat_of_nonneg (by omega)).symm⟩
  refine ⟨b1, m, ?_⟩
  clear hb hb1 p1 p2 hk
  unfold H_law_2
  walk_at "ev"
def InvO (sc : D) (env : List Slot) : Prop := ∃ s1 s2 s3 s4 s5, env = [.sh sc, s1, s2, s3, s4, s5, .un]
theorem b2' (ns : List Int) (i : Nat) (hi : i < 1000) (s2 s3 s4 s5 : Slot) : ∃ env', B_law_2 [.sh (.scr ns), .sh (.int (i : Int)), s2, s3, s4, s5, .un] = .val .nx env' ∧ InvO (.scr ns) env' := by
  obtain ⟨d, ed, hb⟩ := bag_ok ns i hi
  have e1 : H_law_4 [.sh (.scr ns), .sh (.int (i : Int)), s2, s3, s4, s5, .un] = .val .nx [.sh (.scr ns), .sh (.int (i : Int)), .ow d, s3, s4, s5, .un] := by
    clear hb
    unfold H_law_4
    walk_at "ev"
  obtain ⟨bag, t3, e2, hb2⟩ := loop_t (.scr ns) (.int (i : Int)) d s3 s4 s5 .un hb
  obtain ⟨bag2, st, e3⟩ := h2 (.scr ns) (.int (i : Int)) bag t3 s4 s5 .un _ hb2 (by omega)
  have e4 := h1 (.scr ns) (.int (i : Int)) bag2 t3 s5 st
  have e5 := r1 (.scr ns) (.int (i : Int)) bag2 t3 (.sh (.int (st : Int))) st
  exact ⟨_, seq7 e1 (seq7 e2 (seq7 e3 (seq7 e4 e5))), _, _, _, _, _, rfl⟩
theorem many_cells (m : Nat) (env : List Slot) (h : m ≤ 1000) : ∃ n : Nat, n ≤ 4 ∧ ((o2 oMin [.int 4, .int (m : Int)]).bind fun x => o2 oMax [.int 2, x]) = some (.int (n : Int)) := by
  refine ⟨if 2 < min 4 m then min 4 m else 2, by split <;> omega, ?_⟩
  simp only [o2, oMin_int, oMax_int, Option.bind_some]
  congr 2
  split <;> split <;> split <;> omega
theorem l5 (ns : List Int) (hns : ns.length ≤ 63) {env : List Slot} (h : InvO (.scr ns) env) : ∃ env', H_law_5 env = .val .nx env' ∧ InvO (.scr ns) env' := by
  obtain ⟨n, hn, hc⟩ := many_cells ns.length env (by omega)
  obtain ⟨env', e, hi⟩ := loop_ok (p := .nm 1) (s := B_law_2) (ds := rangeD 0 n) (fun i env => InvO (.scr ns) env) (fun i d env hd hi => by
    obtain ⟨hl, rfl⟩ := rangeD_get hd
    obtain ⟨s1, s2, s3, s4, s5, rfl⟩ := hi
    obtain ⟨env', e, h'⟩ := b2' ns i (by omega) s2 s3 s4 s5
    refine ⟨_, env', rfl, .inl ?_, h'⟩
    rw [Int.zero_add]
    exact e) (env := env) h
  refine ⟨env', ?_, hi⟩
  obtain ⟨s1, s2, s3, s4, s5, rfl⟩ := h
  have hr := rng1_nat (n := n) (by omega)
  simp only [o2, oMin_int, oMax_int, Option.bind_some] at hc
  have hc := Option.some.inj hc
  clear hi hns hn
  unfold H_law_5 L_law_2
  generalize B_law_2 = bb at e ⊢
  walk_at "ev"
theorem smallH : HearerOk [⟨1, .word "lost", .word "taken"⟩, ⟨0, .word "lost", .word "lost"⟩] := ⟨by simp, by simp, by decide +kernel, one_lost (r := ⟨0, .word "lost", .word "lost"⟩) rfl rfl (.inr rfl)⟩
theorem smallS : SenderOk [⟨1, .word "again", .word "done"⟩] := ⟨by simp, by simp, by decide +kernel⟩
theorem r5 (s0 s1 s2 s3 s4 s5 s6 : Slot) : ∃ env, R_law_5 [s0, s1, s2, s3, s4, s5, s6] = .val (.rt false (.bl true)) env := by
  have e := right_ok smallH smallS
  replace e : Φ_L_right [.lst [.tup [.int 1, .str "lost", .str "taken"], .tup [.int 0, .str "lost", .str "lost"]], .lst [.tup [.int 1, .str "again", .str "done"]]] = .ret false (.bl true) [.non, .non] := e
  refine ⟨[s0, s1, s2, s3, s4, s5, s6], ?_⟩
  unfold R_law_5
  walk_at "ev"
theorem law_true (ns : List Int) (h : ns.length ≤ 63) : ∃ l, Φ_law [.scr ns] = .ret false (.bl true) l := by
  obtain ⟨env', e, s1, s2, s3, s4, s5, rfl⟩ := l5 ns h (env := [.sh (.scr ns), .un, .un, .un, .un, .un, .un]) ⟨_, _, _, _, _, rfl⟩
  obtain ⟨env2, e2⟩ := r5 (.sh (.scr ns)) s1 s2 s3 s4 s5 .un
  have : F_law [.sh (.scr ns), .un, .un, .un, .un, .un, .un] = .val (.rt false (.bl true)) _ := seq7 e e2
  refine ⟨[.non], ?_⟩
  show ((Res.of [false] (F_law [.sh (.scr ns), .un, .un, .un, .un, .un, .un])).quiet) = _
  rw [this]
  rfl
end K05

set_option Elab.async false
set_option linter.all false
set_option maxRecDepth 100000
set_option maxHeartbeats 2000000
/-! Sbl: the end of a law that runs where no repr is under way. -/
namespace Sb
open PySem PySem.Spec PySem.Calls PyProof.Rows L2
section
variable {P : Program} {w : World} {K : PySem.W.Frag} {mg mb : Str → Option Value} {k : Nat} {fa a : Addr} {fd : FuncData} {x : Str} {sp : Sp} {sh : Shared} {us : List Value} {ns : List Int}
/-- what the law's call comes to -/
def Good (sh : Shared) (r : Result) (s' : Shared) : Prop := r = .ok (.ret (.bool true)) ∧ OldK sh.heap s'.heap ∧ s'.os = sh.os ∧ AllBare s'.gens
/-- from a heap in which nothing but the script may be tracked -/
theorem law_at (kin : K.In sh.heap) (gl : sh.heap.Ns mainGlobals mg) (bl : sh.heap.Ns builtinsNs mb) (bb : ∀ y : Str, y ≠ "__name__" → mb y = bootBuiltins y) (nol : sh.heap.NoLimit) (g0 : sh.gens = #[])
    (ea : sh.heap.get? a = some { cls := .type "list", data := .seq us.toArray }) (hr : Room k callerA)
    (F : ∀ b : Heap, K.In b → b.Ns mainGlobals mg → FnG P w K mg b CX0 k fa fd [x] sp) (bind1 : ∀ (s : Shared) (u : Value), BindsTo s fd ⟨[u], []⟩ [(x, u)])
    (T : Hp) (only : Only T) (law : sp [.ref a] T (fun v _ => v = .bl true) fun _ _ _ => False) (ok : HOk P w T sh.heap) (alone : ∀ c, T c ≠ none → c = a) (away : T a ≠ none → K.lookup a = none) :
    codeAny (model P w) callerA (.call (.ref fa) ⟨[.ref a], []⟩) (Good sh) sh := by
  have keep1 : ∀ {c : Addr} {o : Obj}, sh.heap.get? c = some o → T c = none → (hidT sh.heap T).get? c = some o := fun e n => hidT_get e n
  -- a namespace is not the script
  have free1 : ∀ {c : Addr} {o : Obj} {en : Array DictEntry} {m : Nat}, sh.heap.get? c = some o → o.data = .dict en m → T c = none := by
    intro c o en m e d
    rcases ht : T c with _ | u
    · rfl
    · obtain rfl : c = a := alone c (by rw [ht]; exact Option.some_ne_none u)
      rw [ea] at e
      cases e
      exact absurd (show Data.seq us.toArray _ = Data.dict en m from d) (by intro z; cases z)
  have nsT : ∀ {c : Addr} {m : Str → Option Value}, sh.heap.Ns c m → (hidT sh.heap T).Ns c m := by
    rintro c m ⟨o, en, n, e, d, rest⟩
    exact ⟨o, en, n, keep1 e (free1 e d), d, rest⟩
  have kinT : K.In (hidT sh.heap T) := by
    intro c o e
    refine keep1 (kin c o e) ?_
    rcases ht : T c with _ | u
    · rfl
    · have hn : T c ≠ none := by rw [ht]; exact Option.some_ne_none u
      obtain rfl : c = a := alone c hn
      rw [away hn] at e
      cases e
  have md : Mod K mg (hidT sh.heap T) := by
    obtain ⟨mc, q1, q2⟩ := nol
    exact ⟨kinT, nsT gl, ⟨mb, nsT bl, bb⟩, ⟨mc, nsT q1, q2⟩⟩
  have none1 : ∀ c : Addr, c ∉ ([] : List Addr) := fun c z => by cases z
  have env : Env0 P w K mg (hidT sh.heap T) callerA [] sh T := ⟨rfl, md, fun _ _ e => of_hidT e, Nat.le_of_eq (hidT_size _ _), trivial, fun c z => absurd z (none1 c), ok, .of_eq g0⟩
  have run := (F _ kinT (nsT gl)).go callerA [] sh T ⟨[.ref a], []⟩ [.ref a] [.ref a] _ _ rfl hr env (bind1 sh (.ref a)) (.cons rfl .nil) law
  refine codeAny_mono run fun r s' z => ?_
  match r, z with
  | .error e, z => exact (show False from z).elim
  | .ok .next, z => exact (show False from z).elim
  | .ok .brk, z => exact (show False from z).elim
  | .ok .cont, z => exact (show False from z).elim
  | .ok (.ret u), ⟨v, T', os, bare, un, ok', rv, q⟩ =>
    have q' : v = .bl true := q
    subst q'
    obtain rfl : u = Value.bool true := rv
    refine ⟨rfl, OldK.of_keep fun c o e => ?_, os, bare⟩
    rcases ht : T c with _ | h
    · exact un.keep c o e ht (none1 c) (none1 c)
    · rcases only c with z | ⟨ob, ys, z⟩
      · rw [ht] at z
        cases z
      · obtain ⟨z1, _⟩ := ok c _ z
        obtain ⟨z2, _⟩ := ok' c _ (un.frzs c ob _ z)
        rw [e] at z1
        cases z1
        exact z2
/-- the law's promise, at the heap behind the top -/
theorem lawG (kin : K.In sh.heap) (gl : sh.heap.Ns mainGlobals mg) (bl : sh.heap.Ns builtinsNs mb) (bb : ∀ y : Str, y ≠ "__name__" → mb y = bootBuiltins y) (nol : sh.heap.NoLimit) (g0 : sh.gens = #[])
    (ea : sh.heap.get? a = some { cls := .type "list", data := .seq us.toArray }) (inn : IntsAre us ns) (short : ns.length ≤ sizeLine) (hr : Room k callerA)
    (F : ∀ b : Heap, K.In b → b.Ns mainGlobals mg → FnG P w K mg b CX0 k fa fd [x] sp) (bind1 : ∀ (s : Shared) (u : Value), BindsTo s fd ⟨[u], []⟩ [(x, u)])
    (law : ∀ T : Hp, Only T → SqL K T a (ns.map V.int) → sp [.ref a] T (fun v _ => v = .bl true) fun _ _ _ => False) :
    codeAny (model P w) callerA (.call (.ref fa) ⟨[.ref a], []⟩) (Good sh) sh := by
  have rv := vals_ints inn
  have len := inn.length
  rcases hk : K.lookup a with _ | o
  · have on : Only (fun c => if c = a then some (.frz { cls := .type "list", data := .seq us.toArray } (.lst (ns.map V.int))) else none) := fun c => by
      by_cases e : c = a
      · exact .inr ⟨_, _, if_pos e⟩
      · exact .inl (if_neg e)
    refine law_at kin gl bl bb nol g0 ea hr F bind1 _ on (law _ on (.inl (.inr ⟨_, if_pos rfl⟩))) (fun c u z => ?_) (fun c z => ?_) fun _ => hk
    · by_cases e : c = a
      · have z' := (if_pos e).symm.trans z
        cases z'
        subst e
        exact ⟨ea, by rw [List.length_map]; exact short, us, _, rv, ea⟩
      · have z' := (if_neg e).symm.trans z
        cases z'
    · by_cases e : c = a
      · exact e
      · exact absurd (if_neg e) z
  · have e := kin a o hk
    rw [ea] at e
    cases e
    have on : Only (fun _ => none) := fun _ => .inl rfl
    exact law_at kin gl bl bb nol g0 ea hr F bind1 _ on (law _ on (.inr ⟨_, us.toArray, _, hk, rfl, rfl, rfl, by rw [List.size_toArray, len]; exact short, by simpa using rv⟩)) (fun c u z => by
      have z' : (none : Option HO) = some u := z
      cases z') (fun c z => absurd rfl z) fun z => absurd rfl z
end
/-- the goal that k_head leaves (case hc) -/
theorem walkG {l : PySem.W.OpenLaw} {n k : Nat} {q : Program} {loose : List Str} {XP : (Str → Option Value) → Heap → Prop} {YP : World → Heap → Prop} {d : DefRec} {K : Params → PySem.W.Frag} {sp : World → Sp} {x : Str}
    (most : l.most = some n) (small : n ≤ sizeLine) (plain : d.params.defaults = []) (hr : Room k callerA) (kin : ∀ (w : World) (h : Heap), YP w h → (K w.params).In h)
    (F : ∀ (w : World) (mg : Str → Option Value) (fa : Addr) (h : Heap), (K w.params).In h → h.Ns mainGlobals mg → mg d.name = some (.ref fa) →
      ∃ fd : FuncData, (∀ (s : Shared) (u : Value), BindsTo s fd ⟨[u], []⟩ [(x, u)]) ∧ ∀ b : Heap, (K w.params).In b → b.Ns mainGlobals mg → FnG l.prog w (K w.params) mg b CX0 k fa fd [x] (sp w))
    (law : ∀ (w : World) (T : Hp) (a : Addr) (ns : List Int), ns.length ≤ n → Only T → SqL (K w.params) T a (ns.map V.int) → sp w [.ref a] T (fun v _ => v = .bl true) fun _ _ _ => False) :
    PySem.W.WalkO q loose XP YP l.row.toRowW d [] (fun f vs => PySem.call f vs) :=
  Att.attach_call most plain fun w s0 s1 mg mb fa o pm cd doc a us ns G Y _ _ _ name ea inn len g0 => by
    have kx := kin w _ Y
    obtain ⟨fd, b1, hF⟩ := F w mg fa _ kx G.T.g name
    exact lawG kx G.T.g G.T.b G.T.builtins G.T.nolimit g0 ea inn (Nat.le_trans len small) hr hF b1 fun T on sq => law w T a ns len on sq
end Sb

set_option Elab.async false
set_option linter.all false
set_option maxRecDepth 100000
set_option maxHeartbeats 4000000
namespace K05
open PySem L2 Sb Vl Pg
abbrev sBadEnd_init : Stmt := inClass (top 1) 0
theorem scBadEnd_init : FnScope ["self", "part", "row"] ["self", "part", "row"] (defScope sBadEnd_init) := ⟨rfl, rfl, rfl, by decide +kernel, rfl, by decide +kernel, by decide +kernel⟩
abbrev sBadText_init : Stmt := inClass (top 2) 0
theorem scBadText_init : FnScope ["self", "text"] ["self", "text"] (defScope sBadText_init) := ⟨rfl, rfl, rfl, by decide +kernel, rfl, by decide +kernel, by decide +kernel⟩
abbrev sEnd_hearer : Stmt := inClass (top 20) 3
theorem scEnd_hearer : FnScope ["self"] ["self"] (defScope sEnd_hearer) := ⟨rfl, rfl, rfl, by decide +kernel, rfl, by decide +kernel, by decide +kernel⟩
theorem ok_BadEnd_init {P : Program} {w : World} {K : PySem.W.Frag} {mg : Str → Option Value} {base : Heap} {f C : Addr} {fd : FuncData} (F : Fun K "__init__" "BadEnd.__init__" sBadEnd_init f fd) (c : OexC K C) (n1 : PySem.W.findIn K (.ref C) "part" = some none) (n2 : PySem.W.findIn K (.ref C) "row" = some none) :
    FnOk P w K mg base CX0 1 f fd ["self", "part", "row"] (spXI C ["row", "part"]) := by
  refine F.ok scBadEnd_init (fun vs H Q E h => ?_) (fun cdv A outer s H vs Q E hr h => ?_)
  · obtain ⟨a, ws, rfl, hl, _⟩ := h
    simp [hl]
  · obtain ⟨a, v1, v2, rfl, ea, k⟩ := spXI_two h
    refine ⟨_, (pss_cons (ps_ost (pv 0) (pv 1)) (pss_one (ps_ost (pv 0) (pv 2)))), ?_⟩
    refine ⟨_, rfl, _, rfl, a, C, rfl, c, n1, .inl ⟨ea, fun dx hdx ne => ?_⟩⟩
    refine ⟨_, rfl, _, rfl, a, C, rfl, c, n2, .inr ⟨dx, _, upd_same, by rw [upd_ne ne]; exact upd_same, (by show 1 ≤ 900; decide), ?_⟩⟩
    exact k _ dx (by rw [upd_ne (Ne.symm ne)]; exact upd_same) hdx ne upd_same fun b o e hb => by
      rw [upd_ne (ne_of_none e hdx), upd_ne hb, upd_ne (ne_of_none e hdx)]
      exact e
theorem ok_BadText_init {P : Program} {w : World} {K : PySem.W.Frag} {mg : Str → Option Value} {base : Heap} {f C : Addr} {fd : FuncData} (F : Fun K "__init__" "BadText.__init__" sBadText_init f fd) (c : OexC K C) (n1 : PySem.W.findIn K (.ref C) "text" = some none) :
    FnOk P w K mg base CX0 1 f fd ["self", "text"] (spXI C ["text"]) := by
  refine F.ok scBadText_init (fun vs H Q E h => ?_) (fun cdv A outer s H vs Q E hr h => ?_)
  · obtain ⟨a, ws, rfl, hl, _⟩ := h
    simp [hl]
  · obtain ⟨a, v1, rfl, ea, k⟩ := spXI_one h
    refine ⟨_, (pss_one (ps_ost (pv 0) (pv 1))), ?_⟩
    refine ⟨_, rfl, _, rfl, a, C, rfl, c, n1, .inl ⟨ea, fun dx hdx ne => ?_⟩⟩
    exact k _ dx upd_same hdx ne (by rw [upd_ne ne]; exact upd_same) fun b o e hb => by
      rw [upd_ne hb, upd_ne (ne_of_none e hdx)]
      exact e
theorem ok_End_hearer_get {P : Program} {w : World} {K : PySem.W.Frag} {mg : Str → Option Value} {base : Heap} {f D : Addr} {fd : FuncData} (F : Fun K "hearer" "End.hearer" sEnd_hearer f fd) (c : Cls K D) (n : NoAttr K D "hearer_rows") : FnOk P w K mg base CX0 1 f fd ["self"] (getSp D "hearer_rows") := by
  obtain ⟨oc, od, kV, doc, pm, an, cdv, ct, osl, rfl, at_, cd_⟩ := F.ex
  exact fn_getter at_ cd_ scEnd_hearer rfl rfl c n
theorem all_mk {l : PySem.W.OpenLaw} {w : World} {K : PySem.W.Frag} {h : Heap} {mg : Str → Option Value} {fa : Addr} (X : K.In h) (G : h.Ns mainGlobals mg) (hfa : mg "law" = some (.ref fa))
    {C_End : Addr}
    {C_BadEnd : Addr}
    {C_BadText : Addr}
    {f1 : Addr} {oc1 dc1 pm1 cd1 ct1 : Value} {od1 an1 : Option Addr} {sl1 : Array (Option Value)} {kV1 : Value}
    {f2 : Addr} {oc2 dc2 pm2 cd2 ct2 : Value} {od2 an2 : Option Addr} {sl2 : Array (Option Value)} {kV2 : Value}
    {f3 : Addr} {oc3 dc3 pm3 cd3 ct3 : Value} {od3 an3 : Option Addr} {sl3 : Array (Option Value)} {kV3 : Value}
    {p3 : Addr} {rs3 : List Value}
    {f4 : Addr} {oc4 dc4 pm4 cd4 ct4 : Value} {od4 an4 : Option Addr} {sl4 : Array (Option Value)} {kV4 : Value}
    {f5 : Addr} {oc5 dc5 pm5 cd5 ct5 : Value} {od5 an5 : Option Addr} {sl5 : Array (Option Value)} {kV5 : Value}
    {f6 : Addr} {oc6 dc6 pm6 cd6 ct6 : Value} {od6 an6 : Option Addr} {sl6 : Array (Option Value)} {kV6 : Value}
    {f7 : Addr} {oc7 dc7 pm7 cd7 ct7 : Value} {od7 an7 : Option Addr} {sl7 : Array (Option Value)} {kV7 : Value}
    {f8 : Addr} {oc8 dc8 pm8 cd8 ct8 : Value} {od8 an8 : Option Addr} {sl8 : Array (Option Value)} {kV8 : Value}
    {f9 : Addr} {oc9 dc9 pm9 cd9 ct9 : Value} {od9 an9 : Option Addr} {sl9 : Array (Option Value)} {kV9 : Value}
    {f10 : Addr} {oc10 dc10 pm10 cd10 ct10 : Value} {od10 an10 : Option Addr} {sl10 : Array (Option Value)} {kV10 : Value}
    {f11 : Addr} {oc11 dc11 pm11 cd11 ct11 : Value} {od11 an11 : Option Addr} {sl11 : Array (Option Value)} {kV11 : Value}
    {f12 : Addr} {oc12 dc12 pm12 cd12 ct12 : Value} {od12 an12 : Option Addr} {sl12 : Array (Option Value)} {kV12 : Value}
    {f13 : Addr} {oc13 dc13 pm13 cd13 ct13 : Value} {od13 an13 : Option Addr} {sl13 : Array (Option Value)} {kV13 : Value}
    {f14 : Addr} {oc14 dc14 pm14 cd14 ct14 : Value} {od14 an14 : Option Addr} {sl14 : Array (Option Value)} {kV14 : Value}
    {f15 : Addr} {oc15 dc15 pm15 cd15 ct15 : Value} {od15 an15 : Option Addr} {sl15 : Array (Option Value)} {kV15 : Value}
    {f16 : Addr} {oc16 dc16 pm16 cd16 ct16 : Value} {od16 an16 : Option Addr} {sl16 : Array (Option Value)} {kV16 : Value}
    {f17 : Addr} {oc17 dc17 pm17 cd17 ct17 : Value} {od17 an17 : Option Addr} {sl17 : Array (Option Value)} {kV17 : Value}
    {f18 : Addr} {oc18 dc18 pm18 cd18 ct18 : Value} {od18 an18 : Option Addr} {sl18 : Array (Option Value)} {kV18 : Value}
    {p18 : Addr} {rs18 : List Value}
    {f19 : Addr} {oc19 dc19 pm19 cd19 ct19 : Value} {od19 an19 : Option Addr} {sl19 : Array (Option Value)} {kV19 : Value}
    {f20 : Addr} {oc20 dc20 pm20 cd20 ct20 : Value} {od20 an20 : Option Addr} {sl20 : Array (Option Value)} {kV20 : Value}
    {f21 : Addr} {oc21 dc21 pm21 cd21 ct21 : Value} {od21 an21 : Option Addr} {sl21 : Array (Option Value)} {kV21 : Value}
    {f22 : Addr} {oc22 dc22 pm22 cd22 ct22 : Value} {od22 an22 : Option Addr} {sl22 : Array (Option Value)} {kV22 : Value}
    {f23 : Addr} {oc23 dc23 pm23 cd23 ct23 : Value} {od23 an23 : Option Addr} {sl23 : Array (Option Value)} {kV23 : Value}
    {f24 : Addr} {oc24 dc24 pm24 cd24 ct24 : Value} {od24 an24 : Option Addr} {sl24 : Array (Option Value)} {kV24 : Value}
    {f25 : Addr} {oc25 dc25 pm25 cd25 ct25 : Value} {od25 an25 : Option Addr} {sl25 : Array (Option Value)} {kV25 : Value}
    {f26 : Addr} {oc26 dc26 pm26 cd26 ct26 : Value} {od26 an26 : Option Addr} {sl26 : Array (Option Value)} {kV26 : Value}
    {f27 : Addr} {oc27 dc27 pm27 cd27 ct27 : Value} {od27 an27 : Option Addr} {sl27 : Array (Option Value)} {kV27 : Value}
    {f28 : Addr} {oc28 dc28 pm28 cd28 ct28 : Value} {od28 an28 : Option Addr} {sl28 : Array (Option Value)} {kV28 : Value}
    {f29 : Addr} {oc29 dc29 pm29 cd29 ct29 : Value} {od29 an29 : Option Addr} {sl29 : Array (Option Value)} {kV29 : Value}
    {A_HEARER_WORDS : Addr} {dd_HEARER_WORDS : Option Addr} {nn_HEARER_WORDS : Nat} {sl_HEARER_WORDS : Array (Option Value)} {tk_HEARER_WORDS_0 : Tok} {tk_HEARER_WORDS_1 : Tok}
    {tk_MOST_DIGITS : Tok}
    {A_SENDER_WORDS : Addr} {dd_SENDER_WORDS : Option Addr} {nn_SENDER_WORDS : Nat} {sl_SENDER_WORDS : Array (Option Value)} {tk_SENDER_WORDS_0 : Tok} {tk_SENDER_WORDS_1 : Tok}
    {tcv_End_MOST : Tok}
    {nm_BadEnd q_BadEnd : Str} {N_BadEnd : Addr} {bs_BadEnd : List Value} {sn_BadEnd : List Str} {sub_BadEnd : List Value} {ab_BadEnd : Bool} {col_BadEnd : Option Bool} {dd_BadEnd : Option Addr} {m0_BadEnd m1_BadEnd m2_BadEnd m3_BadEnd m5_BadEnd : Option Value}
    {nm_BadText q_BadText : Str} {N_BadText : Addr} {bs_BadText : List Value} {sn_BadText : List Str} {sub_BadText : List Value} {ab_BadText : Bool} {col_BadText : Option Bool} {dd_BadText : Option Addr} {m0_BadText m1_BadText m2_BadText m3_BadText m5_BadText : Option Value}
    (a1 : PySem.W.findIn K (.ref C_BadEnd) "__init__" = some (some (.ref f1))) (i1 : PySem.W.isFn K (.ref f1) = true)
    (l1 : K.lookup f1 = some ⟨oc1, od1, .func (PySem.W.fnOf "__init__" "BadEnd.__init__" (defArgs sBadEnd_init) (defBody sBadEnd_init) (defScope sBadEnd_init) .none kV1 dc1 pm1 an1 cd1 ct1), sl1⟩) (c1 : PySem.W.codeIn K cd1 "BadEnd.__init__" = true) (k1 : PySem.W.keepIn K (.ref f1) = true)
    (a2 : PySem.W.findIn K (.ref C_BadText) "__init__" = some (some (.ref f2))) (i2 : PySem.W.isFn K (.ref f2) = true)
    (l2 : K.lookup f2 = some ⟨oc2, od2, .func (PySem.W.fnOf "__init__" "BadText.__init__" (defArgs sBadText_init) (defBody sBadText_init) (defScope sBadText_init) .none kV2 dc2 pm2 an2 cd2 ct2), sl2⟩) (c2 : PySem.W.codeIn K cd2 "BadText.__init__" = true) (k2 : PySem.W.keepIn K (.ref f2) = true)
    (a3 : PySem.W.findIn K (.ref C_End) "hearer" = some (some (.ref p3))) (g3 : PySem.W.specialIn K (.ref p3) "__get__" = some (some (.builtin "property.__get__"))) (t3 : PySem.W.takesIn K (.ref p3) = some true) (r3 : PySem.W.recIn K p3 "property" = some (.ref f3 :: rs3))
    (l3 : K.lookup f3 = some ⟨oc3, od3, .func (PySem.W.fnOf "hearer" "End.hearer" (defArgs sEnd_hearer) (defBody sEnd_hearer) (defScope sEnd_hearer) .none kV3 dc3 pm3 an3 cd3 ct3), sl3⟩) (c3 : PySem.W.codeIn K cd3 "End.hearer" = true) (k3 : PySem.W.keepIn K (.ref f3) = true)
    (a4 : PySem.W.nsIn K mainGlobals "is_number" = some (some (.ref f4)))
    (l4 : K.lookup f4 = some ⟨oc4, od4, .func (PySem.W.fnOf "is_number" "is_number" (defArgs sis_number) (defBody sis_number) (defScope sis_number) .none kV4 dc4 pm4 an4 cd4 ct4), sl4⟩) (c4 : PySem.W.codeIn K cd4 "is_number" = true) (k4 : PySem.W.keepIn K (.ref f4) = true)
    (a5 : PySem.W.nsIn K mainGlobals "is_follower" = some (some (.ref f5)))
    (l5 : K.lookup f5 = some ⟨oc5, od5, .func (PySem.W.fnOf "is_follower" "is_follower" (defArgs sis_follower) (defBody sis_follower) (defScope sis_follower) .none kV5 dc5 pm5 an5 cd5 ct5), sl5⟩) (c5 : PySem.W.codeIn K cd5 "is_follower" = true) (k5 : PySem.W.keepIn K (.ref f5) = true)
    (a6 : PySem.W.nsIn K mainGlobals "is_row" = some (some (.ref f6)))
    (l6 : K.lookup f6 = some ⟨oc6, od6, .func (PySem.W.fnOf "is_row" "is_row" (defArgs sis_row) (defBody sis_row) (defScope sis_row) .none kV6 dc6 pm6 an6 cd6 ct6), sl6⟩) (c6 : PySem.W.codeIn K cd6 "is_row" = true) (k6 : PySem.W.keepIn K (.ref f6) = true)
    (a7 : PySem.W.nsIn K mainGlobals "reached" = some (some (.ref f7)))
    (l7 : K.lookup f7 = some ⟨oc7, od7, .func (PySem.W.fnOf "reached" "reached" (defArgs sreached) (defBody sreached) (defScope sreached) .none kV7 dc7 pm7 an7 cd7 ct7), sl7⟩) (c7 : PySem.W.codeIn K cd7 "reached" = true) (k7 : PySem.W.keepIn K (.ref f7) = true)
    (a8 : PySem.W.nsIn K mainGlobals "check_machine" = some (some (.ref f8)))
    (l8 : K.lookup f8 = some ⟨oc8, od8, .func (PySem.W.fnOf "check_machine" "check_machine" (defArgs scheck_machine) (defBody scheck_machine) (defScope scheck_machine) .none kV8 dc8 pm8 an8 cd8 ct8), sl8⟩) (c8 : PySem.W.codeIn K cd8 "check_machine" = true) (k8 : PySem.W.keepIn K (.ref f8) = true)
    (a9 : PySem.W.nsIn K mainGlobals "numbered_rows" = some (some (.ref f9)))
    (l9 : K.lookup f9 = some ⟨oc9, od9, .func (PySem.W.fnOf "numbered_rows" "numbered_rows" (defArgs snumbered_rows) (defBody snumbered_rows) (defScope snumbered_rows) .none kV9 dc9 pm9 an9 cd9 ct9), sl9⟩) (c9 : PySem.W.codeIn K cd9 "numbered_rows" = true) (k9 : PySem.W.keepIn K (.ref f9) = true)
    (a10 : PySem.W.findIn K (.ref C_End) "__init__" = some (some (.ref f10))) (i10 : PySem.W.isFn K (.ref f10) = true)
    (l10 : K.lookup f10 = some ⟨oc10, od10, .func (PySem.W.fnOf "__init__" "End.__init__" (defArgs sEnd_init) (defBody sEnd_init) (defScope sEnd_init) .none kV10 dc10 pm10 an10 cd10 ct10), sl10⟩) (c10 : PySem.W.codeIn K cd10 "End.__init__" = true) (k10 : PySem.W.keepIn K (.ref f10) = true)
    (a11 : PySem.W.findIn K (.ref C_End) "__eq__" = some (some (.ref f11))) (i11 : PySem.W.isFn K (.ref f11) = true)
    (l11 : K.lookup f11 = some ⟨oc11, od11, .func (PySem.W.fnOf "__eq__" "End.__eq__" (defArgs sEnd_eq) (defBody sEnd_eq) (defScope sEnd_eq) .none kV11 dc11 pm11 an11 cd11 ct11), sl11⟩) (c11 : PySem.W.codeIn K cd11 "End.__eq__" = true) (k11 : PySem.W.keepIn K (.ref f11) = true)
    (a12 : PySem.W.nsIn K mainGlobals "machine_text" = some (some (.ref f12)))
    (l12 : K.lookup f12 = some ⟨oc12, od12, .func (PySem.W.fnOf "machine_text" "machine_text" (defArgs smachine_text) (defBody smachine_text) (defScope smachine_text) .none kV12 dc12 pm12 an12 cd12 ct12), sl12⟩) (c12 : PySem.W.codeIn K cd12 "machine_text" = true) (k12 : PySem.W.keepIn K (.ref f12) = true)
    (a13 : PySem.W.findIn K (.ref C_End) "__str__" = some (some (.ref f13))) (i13 : PySem.W.isFn K (.ref f13) = true)
    (l13 : K.lookup f13 = some ⟨oc13, od13, .func (PySem.W.fnOf "__str__" "End.__str__" (defArgs sEnd_str) (defBody sEnd_str) (defScope sEnd_str) .none kV13 dc13 pm13 an13 cd13 ct13), sl13⟩) (c13 : PySem.W.codeIn K cd13 "End.__str__" = true) (k13 : PySem.W.keepIn K (.ref f13) = true)
    (a14 : PySem.W.nsIn K mainGlobals "is_numeral" = some (some (.ref f14)))
    (l14 : K.lookup f14 = some ⟨oc14, od14, .func (PySem.W.fnOf "is_numeral" "is_numeral" (defArgs sis_numeral) (defBody sis_numeral) (defScope sis_numeral) .none kV14 dc14 pm14 an14 cd14 ct14), sl14⟩) (c14 : PySem.W.codeIn K cd14 "is_numeral" = true) (k14 : PySem.W.keepIn K (.ref f14) = true)
    (a15 : PySem.W.nsIn K mainGlobals "read_follower" = some (some (.ref f15)))
    (l15 : K.lookup f15 = some ⟨oc15, od15, .func (PySem.W.fnOf "read_follower" "read_follower" (defArgs sread_follower) (defBody sread_follower) (defScope sread_follower) .none kV15 dc15 pm15 an15 cd15 ct15), sl15⟩) (c15 : PySem.W.codeIn K cd15 "read_follower" = true) (k15 : PySem.W.keepIn K (.ref f15) = true)
    (a16 : PySem.W.nsIn K mainGlobals "read_row" = some (some (.ref f16)))
    (l16 : K.lookup f16 = some ⟨oc16, od16, .func (PySem.W.fnOf "read_row" "read_row" (defArgs sread_row) (defBody sread_row) (defScope sread_row) .none kV16 dc16 pm16 an16 cd16 ct16), sl16⟩) (c16 : PySem.W.codeIn K cd16 "read_row" = true) (k16 : PySem.W.keepIn K (.ref f16) = true)
    (a17 : PySem.W.nsIn K mainGlobals "read_machines" = some (some (.ref f17)))
    (l17 : K.lookup f17 = some ⟨oc17, od17, .func (PySem.W.fnOf "read_machines" "read_machines" (defArgs sread_machines) (defBody sread_machines) (defScope sread_machines) .none kV17 dc17 pm17 an17 cd17 ct17), sl17⟩) (c17 : PySem.W.codeIn K cd17 "read_machines" = true) (k17 : PySem.W.keepIn K (.ref f17) = true)
    (a18 : PySem.W.findCls K (.ref C_End) (.type "type") "from_text" = some (.get (.builtin "classmethod.__get__") (.ref p18) .none (.ref C_End))) (r18 : PySem.W.recIn K p18 "classmethod" = some (.ref f18 :: rs18)) (i18 : PySem.W.fnIn K f18 = true)
    (l18 : K.lookup f18 = some ⟨oc18, od18, .func (PySem.W.fnOf "from_text" "End.from_text" (defArgs sEnd_from_text) (defBody sEnd_from_text) (defScope sEnd_from_text) .none kV18 dc18 pm18 an18 cd18 ct18), sl18⟩) (c18 : PySem.W.codeIn K cd18 "End.from_text" = true) (k18 : PySem.W.keepIn K (.ref f18) = true)
    (a19 : PySem.W.nsIn K mainGlobals "_law_bag" = some (some (.ref f19)))
    (l19 : K.lookup f19 = some ⟨oc19, od19, .func (PySem.W.fnOf "_law_bag" "_law_bag" (defArgs sL_bag) (defBody sL_bag) (defScope sL_bag) .none kV19 dc19 pm19 an19 cd19 ct19), sl19⟩) (c19 : PySem.W.codeIn K cd19 "_law_bag" = true) (k19 : PySem.W.keepIn K (.ref f19) = true)
    (a20 : PySem.W.nsIn K mainGlobals "_law_take" = some (some (.ref f20)))
    (l20 : K.lookup f20 = some ⟨oc20, od20, .func (PySem.W.fnOf "_law_take" "_law_take" (defArgs sL_take) (defBody sL_take) (defScope sL_take) .none kV20 dc20 pm20 an20 cd20 ct20), sl20⟩) (c20 : PySem.W.codeIn K cd20 "_law_take" = true) (k20 : PySem.W.keepIn K (.ref f20) = true)
    (a21 : PySem.W.nsIn K mainGlobals "_law_place" = some (some (.ref f21)))
    (l21 : K.lookup f21 = some ⟨oc21, od21, .func (PySem.W.fnOf "_law_place" "_law_place" (defArgs sL_place) (defBody sL_place) (defScope sL_place) .none kV21 dc21 pm21 an21 cd21 ct21), sl21⟩) (c21 : PySem.W.codeIn K cd21 "_law_place" = true) (k21 : PySem.W.keepIn K (.ref f21) = true)
    (a22 : PySem.W.nsIn K mainGlobals "_law_rows" = some (some (.ref f22)))
    (l22 : K.lookup f22 = some ⟨oc22, od22, .func (PySem.W.fnOf "_law_rows" "_law_rows" (defArgs sL_rows) (defBody sL_rows) (defScope sL_rows) .none kV22 dc22 pm22 an22 cd22 ct22), sl22⟩) (c22 : PySem.W.codeIn K cd22 "_law_rows" = true) (k22 : PySem.W.keepIn K (.ref f22) = true)
    (a23 : PySem.W.nsIn K mainGlobals "_law_led" = some (some (.ref f23)))
    (l23 : K.lookup f23 = some ⟨oc23, od23, .func (PySem.W.fnOf "_law_led" "_law_led" (defArgs sL_led) (defBody sL_led) (defScope sL_led) .none kV23 dc23 pm23 an23 cd23 ct23), sl23⟩) (c23 : PySem.W.codeIn K cd23 "_law_led" = true) (k23 : PySem.W.keepIn K (.ref f23) = true)
    (a24 : PySem.W.nsIn K mainGlobals "_law_hearer" = some (some (.ref f24)))
    (l24 : K.lookup f24 = some ⟨oc24, od24, .func (PySem.W.fnOf "_law_hearer" "_law_hearer" (defArgs sL_hearer) (defBody sL_hearer) (defScope sL_hearer) .none kV24 dc24 pm24 an24 cd24 ct24), sl24⟩) (c24 : PySem.W.codeIn K cd24 "_law_hearer" = true) (k24 : PySem.W.keepIn K (.ref f24) = true)
    (a25 : PySem.W.nsIn K mainGlobals "_law_sender" = some (some (.ref f25)))
    (l25 : K.lookup f25 = some ⟨oc25, od25, .func (PySem.W.fnOf "_law_sender" "_law_sender" (defArgs sL_sender) (defBody sL_sender) (defScope sL_sender) .none kV25 dc25 pm25 an25 cd25 ct25), sl25⟩) (c25 : PySem.W.codeIn K cd25 "_law_sender" = true) (k25 : PySem.W.keepIn K (.ref f25) = true)
    (a26 : PySem.W.nsIn K mainGlobals "_law_word" = some (some (.ref f26)))
    (l26 : K.lookup f26 = some ⟨oc26, od26, .func (PySem.W.fnOf "_law_word" "_law_word" (defArgs sL_word) (defBody sL_word) (defScope sL_word) .none kV26 dc26 pm26 an26 cd26 ct26), sl26⟩) (c26 : PySem.W.codeIn K cd26 "_law_word" = true) (k26 : PySem.W.keepIn K (.ref f26) = true)
    (a27 : PySem.W.nsIn K mainGlobals "_law_text" = some (some (.ref f27)))
    (l27 : K.lookup f27 = some ⟨oc27, od27, .func (PySem.W.fnOf "_law_text" "_law_text" (defArgs sL_text) (defBody sL_text) (defScope sL_text) .none kV27 dc27 pm27 an27 cd27 ct27), sl27⟩) (c27 : PySem.W.codeIn K cd27 "_law_text" = true) (k27 : PySem.W.keepIn K (.ref f27) = true)
    (a28 : PySem.W.nsIn K mainGlobals "_law_right" = some (some (.ref f28)))
    (l28 : K.lookup f28 = some ⟨oc28, od28, .func (PySem.W.fnOf "_law_right" "_law_right" (defArgs sL_right) (defBody sL_right) (defScope sL_right) .none kV28 dc28 pm28 an28 cd28 ct28), sl28⟩) (c28 : PySem.W.codeIn K cd28 "_law_right" = true) (k28 : PySem.W.keepIn K (.ref f28) = true)
    (a29 : PySem.W.nsIn K mainGlobals "law" = some (some (.ref f29)))
    (l29 : K.lookup f29 = some ⟨oc29, od29, .func (PySem.W.fnOf "law" "law" (defArgs slaw) (defBody slaw) (defScope slaw) .none kV29 dc29 pm29 an29 cd29 ct29), sl29⟩) (c29 : PySem.W.codeIn K cd29 "law" = true) (k29 : PySem.W.keepIn K (.ref f29) = true)
    (z_abs : PySem.W.nsIn K mainGlobals "abs" = some none)
    (z_bool : PySem.W.nsIn K mainGlobals "bool" = some none)
    (z_enumerate : PySem.W.nsIn K mainGlobals "enumerate" = some none)
    (z_int : PySem.W.nsIn K mainGlobals "int" = some none)
    (z_isinstance : PySem.W.nsIn K mainGlobals "isinstance" = some none)
    (z_len : PySem.W.nsIn K mainGlobals "len" = some none)
    (z_list : PySem.W.nsIn K mainGlobals "list" = some none)
    (z_max : PySem.W.nsIn K mainGlobals "max" = some none)
    (z_min : PySem.W.nsIn K mainGlobals "min" = some none)
    (z_range : PySem.W.nsIn K mainGlobals "range" = some none)
    (z_str : PySem.W.nsIn K mainGlobals "str" = some none)
    (z_tuple : PySem.W.nsIn K mainGlobals "tuple" = some none)
    (m_HEARER_WORDS : PySem.W.nsIn K mainGlobals "HEARER_WORDS" = some (some (.ref A_HEARER_WORDS)))
    (ml_HEARER_WORDS : K.lookup A_HEARER_WORDS = some ⟨.type "tuple", dd_HEARER_WORDS, .seq #[.str "taken" tk_HEARER_WORDS_0, .str "lost" tk_HEARER_WORDS_1] nn_HEARER_WORDS, sl_HEARER_WORDS⟩)
    (m_MOST_DIGITS : PySem.W.nsIn K mainGlobals "MOST_DIGITS" = some (some (.int 9 tk_MOST_DIGITS)))
    (m_SENDER_WORDS : PySem.W.nsIn K mainGlobals "SENDER_WORDS" = some (some (.ref A_SENDER_WORDS)))
    (ml_SENDER_WORDS : K.lookup A_SENDER_WORDS = some ⟨.type "tuple", dd_SENDER_WORDS, .seq #[.str "done" tk_SENDER_WORDS_0, .str "again" tk_SENDER_WORDS_1] nn_SENDER_WORDS, sl_SENDER_WORDS⟩)
    (x_End : PySem.W.nsIn K mainGlobals "End" = some (some (.ref C_End)))
    (ypg_End : PySem.W.plainGet K C_End Str.empty = true)
    (yhd_End : PySem.W.hasDictIn K C_End = true)
    (ypo_End : PySem.W.plainOver K C_End = true)
    (ysa_End : PySem.W.findIn K (.ref C_End) "__setattr__" = some (some (.builtin "object.__setattr__")))
    (yic_End : PySem.W.isClsIn K C_End = true)
    (ytc_End : PySem.W.typeIn K (.ref C_End) = some (.type "type"))
    (yuc_End : PySem.W.findIn K (.ref C_End) "__class__" = some (some (.builtin "object.__class__")))
    (ymc_End : PySem.W.mroIn K C_End (.type "object") = some true)
    (ymk_End : PySem.W.makesIn K C_End = true)
    (ykc_End : PySem.W.keepIn K (.ref C_End) = true)
    (wg : PySem.W.specialIn K (.builtin "object.__class__") "__get__" = some (some (.builtin "getset_descriptor.__get__")))
    (wk : PySem.W.takesIn K (.builtin "object.__class__") = some true)
    (n_End_hearer_rows : PySem.W.findIn K (.ref C_End) "hearer_rows" = some none)
    (n_End_rows : PySem.W.findIn K (.ref C_End) "rows" = some none)
    (n_End_sender_rows : PySem.W.findIn K (.ref C_End) "sender_rows" = some none)
    (yrd_End : PySem.W.readsIn K C_End (.type "type") = true)
    (yga_End : PySem.W.specialIn K (.ref C_End) "__getattribute__" = some (some (.builtin "type.__getattribute__")))
    (yat_End_MOST : PySem.W.findCls K (.ref C_End) (.type "type") "MOST" = some (.val (.int 100 tcv_End_MOST)))
    (x_BadEnd : PySem.W.nsIn K mainGlobals "BadEnd" = some (some (.ref C_BadEnd)))
    (xL_BadEnd : K.lookup C_BadEnd = some (excClassObj nm_BadEnd q_BadEnd C_BadEnd N_BadEnd bs_BadEnd [.type "ValueError", .type "Exception", .type "BaseException", .type "object"] true sn_BadEnd sub_BadEnd ab_BadEnd col_BadEnd dd_BadEnd m0_BadEnd m1_BadEnd m2_BadEnd m3_BadEnd m5_BadEnd "ValueError.__new__"))
    (xsa_BadEnd : PySem.W.findIn K (.ref C_BadEnd) "__setattr__" = some (some (.builtin "object.__setattr__")))
    (xt1_BadEnd : PySem.W.typeIn K (.ref f1) = some (.type "function"))
    (xkC_BadEnd : PySem.W.keepIn K (.ref C_BadEnd) = true)
    (xeC_BadEnd : PySem.W.subIn K (.ref C_BadEnd) (.type "BaseException") = some true)
    (xtC_BadEnd : PySem.W.typeIn K (.ref C_BadEnd) = some (.type "type"))
    (xn_BadEnd_part : PySem.W.findIn K (.ref C_BadEnd) "part" = some none)
    (xn_BadEnd_row : PySem.W.findIn K (.ref C_BadEnd) "row" = some none)
    (x_BadText : PySem.W.nsIn K mainGlobals "BadText" = some (some (.ref C_BadText)))
    (xL_BadText : K.lookup C_BadText = some (excClassObj nm_BadText q_BadText C_BadText N_BadText bs_BadText [.type "ValueError", .type "Exception", .type "BaseException", .type "object"] true sn_BadText sub_BadText ab_BadText col_BadText dd_BadText m0_BadText m1_BadText m2_BadText m3_BadText m5_BadText "ValueError.__new__"))
    (xsa_BadText : PySem.W.findIn K (.ref C_BadText) "__setattr__" = some (some (.builtin "object.__setattr__")))
    (xt1_BadText : PySem.W.typeIn K (.ref f2) = some (.type "function"))
    (xkC_BadText : PySem.W.keepIn K (.ref C_BadText) = true)
    (xeC_BadText : PySem.W.subIn K (.ref C_BadText) (.type "BaseException") = some true)
    (xtC_BadText : PySem.W.typeIn K (.ref C_BadText) = some (.type "type"))
    (xn_BadText_text : PySem.W.findIn K (.ref C_BadText) "text" = some none) :
    ∃ fd : FuncData, (∀ (s : Shared) (v : Value), BindsTo s fd ⟨[v], []⟩ [("_law_script", v)]) ∧ ∀ base : Heap, K.In base → base.Ns mainGlobals mg → FnG l.prog w K mg base CX0 9 fa fd ["_law_script"] (spLawB K) := by
  have e := hfa.symm.trans (PySem.W.mg_of X G a29)
  cases e
  have F1 := fun_mk (st := sBadEnd_init) l1 c1 k1
  have B1 := F1.binds (ps := ["self", "part", "row"]) fun _ _ _ _ _ _ us hl => match us, hl with | [_, _, _], _ => rfl
  have F2 := fun_mk (st := sBadText_init) l2 c2 k2
  have B2 := F2.binds (ps := ["self", "text"]) fun _ _ _ _ _ _ us hl => match us, hl with | [_, _], _ => rfl
  have F3 := fun_mk (st := sEnd_hearer) l3 c3 k3
  have B3 := F3.binds (ps := ["self"]) fun _ _ _ _ _ _ us hl => match us, hl with | [_], _ => rfl
  have F4 := fun_mk (st := sis_number) l4 c4 k4
  have B4 := F4.binds (ps := ["value"]) fun _ _ _ _ _ _ us hl => match us, hl with | [_], _ => rfl
  have F5 := fun_mk (st := sis_follower) l5 c5 k5
  have B5 := F5.binds (ps := ["value", "size", "words"]) fun _ _ _ _ _ _ us hl => match us, hl with | [_, _, _], _ => rfl
  have F6 := fun_mk (st := sis_row) l6 c6 k6
  have B6 := F6.binds (ps := ["value", "size", "words"]) fun _ _ _ _ _ _ us hl => match us, hl with | [_, _, _], _ => rfl
  have F7 := fun_mk (st := sreached) l7 c7 k7
  have B7 := F7.binds (ps := ["rows", "begin"]) fun _ _ _ _ _ _ us hl => match us, hl with | [_, _], _ => rfl
  have F8 := fun_mk (st := scheck_machine) l8 c8 k8
  have B8 := F8.binds (ps := ["part", "machine", "fewest", "most", "words"]) fun _ _ _ _ _ _ us hl => match us, hl with | [_, _, _, _, _], _ => rfl
  have F9 := fun_mk (st := snumbered_rows) l9 c9 k9
  have B9 := F9.binds (ps := ["part", "machine"]) fun _ _ _ _ _ _ us hl => match us, hl with | [_, _], _ => rfl
  have F10 := fun_mk (st := sEnd_init) l10 c10 k10
  have B10 := F10.binds (ps := ["self", "hearer", "sender"]) fun _ _ _ _ _ _ us hl => match us, hl with | [_, _, _], _ => rfl
  have F11 := fun_mk (st := sEnd_eq) l11 c11 k11
  have B11 := F11.binds (ps := ["self", "other"]) fun _ _ _ _ _ _ us hl => match us, hl with | [_, _], _ => rfl
  have F12 := fun_mk (st := smachine_text) l12 c12 k12
  have B12 := F12.binds (ps := ["rows"]) fun _ _ _ _ _ _ us hl => match us, hl with | [_], _ => rfl
  have F13 := fun_mk (st := sEnd_str) l13 c13 k13
  have B13 := F13.binds (ps := ["self"]) fun _ _ _ _ _ _ us hl => match us, hl with | [_], _ => rfl
  have F14 := fun_mk (st := sis_numeral) l14 c14 k14
  have B14 := F14.binds (ps := ["piece"]) fun _ _ _ _ _ _ us hl => match us, hl with | [_], _ => rfl
  have F15 := fun_mk (st := sread_follower) l15 c15 k15
  have B15 := F15.binds (ps := ["piece"]) fun _ _ _ _ _ _ us hl => match us, hl with | [_], _ => rfl
  have F16 := fun_mk (st := sread_row) l16 c16 k16
  have B16 := F16.binds (ps := ["text"]) fun _ _ _ _ _ _ us hl => match us, hl with | [_], _ => rfl
  have F17 := fun_mk (st := sread_machines) l17 c17 k17
  have B17 := F17.binds (ps := ["text"]) fun _ _ _ _ _ _ us hl => match us, hl with | [_], _ => rfl
  have F18 := fun_mk (st := sEnd_from_text) l18 c18 k18
  have B18 := F18.binds (ps := ["cls", "text"]) fun _ _ _ _ _ _ us hl => match us, hl with | [_, _], _ => rfl
  have F19 := fun_mk (st := sL_bag) l19 c19 k19
  have B19 := F19.binds (ps := ["_law_script", "_law_at"]) fun _ _ _ _ _ _ us hl => match us, hl with | [_, _], _ => rfl
  have F20 := fun_mk (st := sL_take) l20 c20 k20
  have B20 := F20.binds (ps := ["_law_bag_here", "_law_many"]) fun _ _ _ _ _ _ us hl => match us, hl with | [_, _], _ => rfl
  have F21 := fun_mk (st := sL_place) l21 c21 k21
  have B21 := F21.binds (ps := ["_law_bag_here", "_law_many", "_law_words"]) fun _ _ _ _ _ _ us hl => match us, hl with | [_, _, _], _ => rfl
  have F22 := fun_mk (st := sL_rows) l22 c22 k22
  have B22 := F22.binds (ps := ["_law_bag_here", "_law_many", "_law_words"]) fun _ _ _ _ _ _ us hl => match us, hl with | [_, _, _], _ => rfl
  have F23 := fun_mk (st := sL_led) l23 c23 k23
  have B23 := F23.binds (ps := ["_law_rows_here", "_law_first"]) fun _ _ _ _ _ _ us hl => match us, hl with | [_, _], _ => rfl
  have F24 := fun_mk (st := sL_hearer) l24 c24 k24
  have B24 := F24.binds (ps := ["_law_bag_here", "_law_many"]) fun _ _ _ _ _ _ us hl => match us, hl with | [_, _], _ => rfl
  have F25 := fun_mk (st := sL_sender) l25 c25 k25
  have B25 := F25.binds (ps := ["_law_bag_here", "_law_many"]) fun _ _ _ _ _ _ us hl => match us, hl with | [_, _], _ => rfl
  have F26 := fun_mk (st := sL_word) l26 c26 k26
  have B26 := F26.binds (ps := ["_law_part"]) fun _ _ _ _ _ _ us hl => match us, hl with | [_], _ => rfl
  have F27 := fun_mk (st := sL_text) l27 c27 k27
  have B27 := F27.binds (ps := ["_law_hearer_here", "_law_sender_here"]) fun _ _ _ _ _ _ us hl => match us, hl with | [_, _], _ => rfl
  have F28 := fun_mk (st := sL_right) l28 c28 k28
  have B28 := F28.binds (ps := ["_law_hearer_here", "_law_sender_here"]) fun _ _ _ _ _ _ us hl => match us, hl with | [_, _], _ => rfl
  have F29 := fun_mk (st := slaw) l29 c29 k29
  have B29 := F29.binds (ps := ["_law_script"]) fun _ _ _ _ _ _ us hl => match us, hl with | [_], _ => rfl
  refine ⟨PySem.W.fnOf "law" "law" (defArgs slaw) (defBody slaw) (defScope slaw) .none kV29 dc29 pm29 an29 cd29 ct29, fun s v => .of_eq rfl, fun base _ _ => ?_⟩
  obtain ⟨CT, h_End, h_BadEnd, h_BadText⟩ : ∃ CT : Ct, CT "End" = some (C_End, (["hearer_rows", "sender_rows", "rows"] : List Str)) ∧ CT "BadEnd" = some (C_BadEnd, (["row", "part"] : List Str)) ∧ CT "BadText" = some (C_BadText, (["text"] : List Str)) := ⟨fun c => if c = "End" then some (C_End, (["hearer_rows", "sender_rows", "rows"] : List Str)) else if c = "BadEnd" then some (C_BadEnd, (["row", "part"] : List Str)) else if c = "BadText" then some (C_BadText, (["text"] : List Str)) else none, by rfl, by rfl, by rfl⟩
  have e_End : cA CT "End" = C_End := by unfold cA; rw [h_End]; rfl
  have e_BadEnd : cA CT "BadEnd" = C_BadEnd := by unfold cA; rw [h_BadEnd]; rfl
  have e_BadText : cA CT "BadText" = C_BadText := by unfold cA; rw [h_BadText]; rfl
  have T : Txt K mg CT := { b_abs := PySem.W.mg_none_of X G z_abs, b_bool := PySem.W.mg_none_of X G z_bool, b_enumerate := PySem.W.mg_none_of X G z_enumerate, b_int := PySem.W.mg_none_of X G z_int, b_isinstance := PySem.W.mg_none_of X G z_isinstance, b_len := PySem.W.mg_none_of X G z_len, b_list := PySem.W.mg_none_of X G z_list, b_max := PySem.W.mg_none_of X G z_max, b_min := PySem.W.mg_none_of X G z_min, b_range := PySem.W.mg_none_of X G z_range, b_str := PySem.W.mg_none_of X G z_str, b_tuple := PySem.W.mg_none_of X G z_tuple, m_HEARER_WORDS := ⟨.ref A_HEARER_WORDS, ⟨_, PySem.W.mg_of X G m_HEARER_WORDS, rfl⟩, fun F => .ctup (vs := [.str "taken", .str "lost"]) (.inr ⟨_, _, _, ml_HEARER_WORDS, rfl, rfl, (by show 2 ≤ sizeLine; decide), (.cons ⟨_, rfl⟩ (.cons ⟨_, rfl⟩ .nil))⟩) (.cons (.str _) (.cons (.str _) .nil))⟩, m_MOST_DIGITS := ⟨.int 9, ⟨_, PySem.W.mg_of X G m_MOST_DIGITS, ⟨_, rfl⟩⟩, fun F => .int _⟩, m_SENDER_WORDS := ⟨.ref A_SENDER_WORDS, ⟨_, PySem.W.mg_of X G m_SENDER_WORDS, rfl⟩, fun F => .ctup (vs := [.str "done", .str "again"]) (.inr ⟨_, _, _, ml_SENDER_WORDS, rfl, rfl, (by show 2 ≤ sizeLine; decide), (.cons ⟨_, rfl⟩ (.cons ⟨_, rfl⟩ .nil))⟩) (.cons (.str _) (.cons (.str _) .nil))⟩, mc_End := (by rw [e_End]; exact PySem.W.mg_of X G x_End), o_End := (by rw [e_End]; exact ⟨⟨ypg_End, yhd_End, ypo_End, ysa_End⟩, yic_End, ytc_End, yuc_End, wg, wk, ymc_End⟩), c_End := (by rw [e_End]; exact h_End), c_BadEnd := (by rw [e_BadEnd]; exact h_BadEnd), c_BadText := (by rw [e_BadText]; exact h_BadText), n_End_hearer_rows := (by rw [e_End]; exact n_End_hearer_rows), n_End_rows := (by rw [e_End]; exact n_End_rows), n_End_sender_rows := (by rw [e_End]; exact n_End_sender_rows), cv_End_MOST := (by rw [e_End]; exact ⟨_, _, ⟨yrd_End, yga_End⟩, ⟨yat_End_MOST, ⟨_, rfl⟩⟩⟩) }
  have oc_BadEnd : OexC K (cA CT "BadEnd") := by
    rw [e_BadEnd]
    exact ⟨⟨nm_BadEnd, q_BadEnd, N_BadEnd, bs_BadEnd, _, sn_BadEnd, sub_BadEnd, ab_BadEnd, col_BadEnd, dd_BadEnd, m0_BadEnd, m1_BadEnd, m2_BadEnd, m3_BadEnd, m5_BadEnd, xL_BadEnd, by decide +kernel⟩, xsa_BadEnd, xeC_BadEnd, xtC_BadEnd, xkC_BadEnd⟩
  have O_BadEnd : Ox l.prog w K mg base 1 "BadEnd" (cA CT "BadEnd") f1 (PySem.W.fnOf "__init__" "BadEnd.__init__" (defArgs sBadEnd_init) (defBody sBadEnd_init) (defScope sBadEnd_init) .none kV1 dc1 pm1 an1 cd1 ct1) ["self", "part", "row"] (spXI (cA CT "BadEnd") ["row", "part"]) := by
    refine ⟨oc_BadEnd, by rw [e_BadEnd]; exact a1, xt1_BadEnd, ?_, B1, by rw [e_BadEnd]; exact PySem.W.mg_of X G x_BadEnd⟩
    exact ok_BadEnd_init F1 oc_BadEnd (by rw [e_BadEnd]; exact xn_BadEnd_part) (by rw [e_BadEnd]; exact xn_BadEnd_row)
  have oc_BadText : OexC K (cA CT "BadText") := by
    rw [e_BadText]
    exact ⟨⟨nm_BadText, q_BadText, N_BadText, bs_BadText, _, sn_BadText, sub_BadText, ab_BadText, col_BadText, dd_BadText, m0_BadText, m1_BadText, m2_BadText, m3_BadText, m5_BadText, xL_BadText, by decide +kernel⟩, xsa_BadText, xeC_BadText, xtC_BadText, xkC_BadText⟩
  have O_BadText : Ox l.prog w K mg base 1 "BadText" (cA CT "BadText") f2 (PySem.W.fnOf "__init__" "BadText.__init__" (defArgs sBadText_init) (defBody sBadText_init) (defScope sBadText_init) .none kV2 dc2 pm2 an2 cd2 ct2) ["self", "text"] (spXI (cA CT "BadText") ["text"]) := by
    refine ⟨oc_BadText, by rw [e_BadText]; exact a2, xt1_BadText, ?_, B2, by rw [e_BadText]; exact PySem.W.mg_of X G x_BadText⟩
    exact ok_BadText_init F2 oc_BadText (by rw [e_BadText]; exact xn_BadText_text)
  have P_End_hearer : Px l.prog w K mg base (cA CT "End") p3 f3 (PySem.W.fnOf "hearer" "End.hearer" (defArgs sEnd_hearer) (defBody sEnd_hearer) (defScope sEnd_hearer) .none kV3 dc3 pm3 an3 cd3 ct3) "hearer" "hearer_rows" := by
    rw [e_End]
    exact ⟨⟨a3, g3, t3, _, r3⟩, ok_End_hearer_get F3 ⟨ypg_End, yhd_End, ypo_End, ysa_End⟩ n_End_hearer_rows, B3⟩
  have V_is_number : Vx l.prog w K mg base 1 "is_number" f4 _ ["value"] CT [false] Φ_is_number := ⟨dv_is_number T  F4, PySem.W.mg_of X G a4, k4, B4⟩
  have V_is_follower : Vx l.prog w K mg base 2 "is_follower" f5 _ ["value", "size", "words"] CT [false, false, false] Φ_is_follower := ⟨dv_is_follower T V_is_number F5, PySem.W.mg_of X G a5, k5, B5⟩
  have V_is_row : Vx l.prog w K mg base 3 "is_row" f6 _ ["value", "size", "words"] CT [false, false, false] Φ_is_row := ⟨dv_is_row T V_is_follower V_is_number F6, PySem.W.mg_of X G a6, k6, B6⟩
  have V_reached : Vx l.prog w K mg base 2 "reached" f7 _ ["rows", "begin"] CT [false, false] Φ_reached := ⟨dv_reached T V_is_number F7, PySem.W.mg_of X G a7, k7, B7⟩
  have V_check_machine : VxX l.prog w K mg base 4 "check_machine" f8 _ ["part", "machine", "fewest", "most", "words"] CT [false, false, false, false, false] Φ_check_machine := ⟨dv_check_machine T V_is_row O_BadEnd F8, PySem.W.mg_of X G a8, k8, B8⟩
  have V_numbered_rows : Vx l.prog w K mg base 1 "numbered_rows" f9 _ ["part", "machine"] CT [false, false] Φ_numbered_rows := ⟨dv_numbered_rows T  F9, PySem.W.mg_of X G a9, k9, B9⟩
  have V_End_init : Vc l.prog w K mg base (L2.CX l.prog w) 5 "End" (cA CT "End") f10 _ ["self", "hearer", "sender"] CT [true, false, false] Φ_End_init := ⟨(by rw [e_End]; exact ⟨ymk_End, a10, i10, ykc_End⟩), dv_End_init T V_check_machine V_numbered_rows V_reached O_BadEnd F10, (by rw [e_End]; exact PySem.W.mg_of X G x_End), B10⟩
  have V_End_eq : Vm l.prog w K mg base CX0 1 (cA CT "End") "__eq__" f11 _ ["self", "other"] CT [false, false] Φ_End_eq := ⟨(by rw [e_End]; exact ⟨a11, i11, k11⟩), dv_End_eq T  F11, B11⟩
  have V_machine_text : Vx l.prog w K mg base 1 "machine_text" f12 _ ["rows"] CT [false] Φ_machine_text := ⟨dv_machine_text T  F12, PySem.W.mg_of X G a12, k12, B12⟩
  have V_End_str : Vm l.prog w K mg base CX0 2 (cA CT "End") "__str__" f13 _ ["self"] CT [false] Φ_End_str := ⟨(by rw [e_End]; exact ⟨a13, i13, k13⟩), dv_End_str T V_machine_text F13, B13⟩
  have V_is_numeral : Vx l.prog w K mg base 1 "is_numeral" f14 _ ["piece"] CT [false] Φ_is_numeral := ⟨dv_is_numeral T  F14, PySem.W.mg_of X G a14, k14, B14⟩
  have V_read_follower : Vx l.prog w K mg base 2 "read_follower" f15 _ ["piece"] CT [false] Φ_read_follower := ⟨dv_read_follower T V_is_numeral F15, PySem.W.mg_of X G a15, k15, B15⟩
  have V_read_row : Vx l.prog w K mg base 3 "read_row" f16 _ ["text"] CT [false] Φ_read_row := ⟨dv_read_row T V_read_follower F16, PySem.W.mg_of X G a16, k16, B16⟩
  have V_read_machines : Vx l.prog w K mg base 4 "read_machines" f17 _ ["text"] CT [false] Φ_read_machines := ⟨dv_read_machines T V_read_row F17, PySem.W.mg_of X G a17, k17, B17⟩
  have V_End_from_text : Vcm l.prog w K mg base (L2.CX l.prog w) 7 (cA CT "End") "from_text" f18 _ ["cls", "text"] CT [false, false] Φ_End_from_text := ⟨(by rw [e_End]; exact ⟨_, _, ⟨yrd_End, yga_End⟩, ⟨a18, ⟨_, r18⟩, i18⟩⟩), dv_End_from_text T V_End_init V_read_machines O_BadText F18, B18⟩
  have V__law_bag : Vx l.prog w K mg base 1 "_law_bag" f19 _ ["_law_script", "_law_at"] CT [false, false] Φ_L_bag := ⟨dv_L_bag T  F19, PySem.W.mg_of X G a19, k19, B19⟩
  have V__law_take : Vx l.prog w K mg base 1 "_law_take" f20 _ ["_law_bag_here", "_law_many"] CT [true, false] Φ_L_take := ⟨dv_L_take T  F20, PySem.W.mg_of X G a20, k20, B20⟩
  have V__law_place : Vx l.prog w K mg base 2 "_law_place" f21 _ ["_law_bag_here", "_law_many", "_law_words"] CT [true, false, false] Φ_L_place := ⟨dv_L_place T V__law_take F21, PySem.W.mg_of X G a21, k21, B21⟩
  have V__law_rows : Vx l.prog w K mg base 3 "_law_rows" f22 _ ["_law_bag_here", "_law_many", "_law_words"] CT [true, false, false] Φ_L_rows := ⟨dv_L_rows T V__law_place V__law_take F22, PySem.W.mg_of X G a22, k22, B22⟩
  have V__law_led : Vx l.prog w K mg base 1 "_law_led" f23 _ ["_law_rows_here", "_law_first"] CT [false, false] Φ_L_led := ⟨dv_L_led T  F23, PySem.W.mg_of X G a23, k23, B23⟩
  have V__law_hearer : Vx l.prog w K mg base 4 "_law_hearer" f24 _ ["_law_bag_here", "_law_many"] CT [true, false] Φ_L_hearer := ⟨dv_L_hearer T V__law_led V__law_rows F24, PySem.W.mg_of X G a24, k24, B24⟩
  have V__law_sender : Vx l.prog w K mg base 4 "_law_sender" f25 _ ["_law_bag_here", "_law_many"] CT [true, false] Φ_L_sender := ⟨dv_L_sender T V__law_rows F25, PySem.W.mg_of X G a25, k25, B25⟩
  have V__law_word : Vx l.prog w K mg base 1 "_law_word" f26 _ ["_law_part"] CT [false] Φ_L_word := ⟨dv_L_word T  F26, PySem.W.mg_of X G a26, k26, B26⟩
  have V__law_text : Vx l.prog w K mg base 2 "_law_text" f27 _ ["_law_hearer_here", "_law_sender_here"] CT [false, false] Φ_L_text := ⟨dv_L_text T V__law_word F27, PySem.W.mg_of X G a27, k27, B27⟩
  have Q_End_from_text_1_text : KB K (PySem.W.fnOf "from_text" "End.from_text" (defArgs sEnd_from_text) (defBody sEnd_from_text) (defScope sEnd_from_text) .none kV18 dc18 pm18 an18 cd18 ct18) ["cls", "text"] 1 ["text"] (fun vs zs => vs ++ zs) := ⟨fun us ws => us ++ ws, ⟨fun s us ws X l1 l2 => match us, l1, ws, l2 with | [_], _, [_], _ => .of_eq rfl, fun a b => a.append b⟩⟩
  have V__law_right : Vx l.prog w K mg base 8 "_law_right" f28 _ ["_law_hearer_here", "_law_sender_here"] CT [false, false] Φ_L_right := ⟨dv_L_right T V_End_eq V_End_init V_End_str V_End_from_text Q_End_from_text_1_text V__law_text P_End_hearer F28, PySem.W.mg_of X G a28, k28, B28⟩
  exact law_of (dv_law T V__law_bag V__law_hearer V__law_right V__law_sender V__law_take F29) law_true
end K05
open PySem PySem.W PyProof.Rows
set_option maxRecDepth 100000 in
set_option maxHeartbeats 0 in
theorem PySem.Challenge.cw_strongbit_k05_texts_of_ends_holds : PySem.Challenge.rw_strongbit_k05_texts_of_ends.Holds := by
  w_on; o_law; k_head; (case hw => w_witness2)
  k_fill
  refine Sb.walkG (l := PySem.Challenge.rw_strongbit_k05_texts_of_ends) (n := 63) (k := 9) (x := "_law_script") (sp := fun w => Vl.spLawB _) rfl (by decide) rfl ⟨rfl, by decide, by decide⟩ (fun w h Y => PySem.W.kIn_of Y) ?F (fun _ _ a ns hl _ hS => ⟨a, ns, rfl, hS, hl, fun _ => rfl⟩)
  case F =>
    intro w mg fa h KX G hmg
    refine' K05.all_mk KX G hmg ?a1 ?i1 ?l1 ?c1 ?k1 ?a2 ?i2 ?l2 ?c2 ?k2 ?a3 ?g3 ?t3 ?r3 ?l3 ?c3 ?k3 ?a4 ?l4 ?c4 ?k4 ?a5 ?l5 ?c5 ?k5 ?a6 ?l6 ?c6 ?k6 ?a7 ?l7 ?c7 ?k7 ?a8 ?l8 ?c8 ?k8 ?a9 ?l9 ?c9 ?k9 ?a10 ?i10 ?l10 ?c10 ?k10 ?a11 ?i11 ?l11 ?c11 ?k11 ?a12 ?l12 ?c12 ?k12 ?a13 ?i13 ?l13 ?c13 ?k13 ?a14 ?l14 ?c14 ?k14 ?a15 ?l15 ?c15 ?k15 ?a16 ?l16 ?c16 ?k16 ?a17 ?l17 ?c17 ?k17 ?a18 ?r18 ?i18 ?l18 ?c18 ?k18 ?a19 ?l19 ?c19 ?k19 ?a20 ?l20 ?c20 ?k20 ?a21 ?l21 ?c21 ?k21 ?a22 ?l22 ?c22 ?k22 ?a23 ?l23 ?c23 ?k23 ?a24 ?l24 ?c24 ?k24 ?a25 ?l25 ?c25 ?k25 ?a26 ?l26 ?c26 ?k26 ?a27 ?l27 ?c27 ?k27 ?a28 ?l28 ?c28 ?k28 ?a29 ?l29 ?c29 ?k29 ?z_abs ?z_bool ?z_enumerate ?z_int ?z_isinstance ?z_len ?z_list ?z_max ?z_min ?z_range ?z_str ?z_tuple ?m_HEARER_WORDS ?ml_HEARER_WORDS ?m_MOST_DIGITS ?m_SENDER_WORDS ?ml_SENDER_WORDS ?x_End ?ypg_End ?yhd_End ?ypo_End ?ysa_End ?yic_End ?ytc_End ?yuc_End ?ymc_End ?ymk_End ?ykc_End ?wg ?wk ?n_End_hearer_rows ?n_End_rows ?n_End_sender_rows ?yrd_End ?yga_End ?yat_End_MOST ?x_BadEnd ?xL_BadEnd ?xsa_BadEnd ?xt1_BadEnd ?xkC_BadEnd ?xeC_BadEnd ?xtC_BadEnd ?xn_BadEnd_part ?xn_BadEnd_row ?x_BadText ?xL_BadText ?xsa_BadText ?xt1_BadText ?xkC_BadText ?xeC_BadText ?xtC_BadText ?xn_BadText_text
    (case x_End => k_is)
    (case x_BadEnd => k_is)
    (case x_BadText => k_is)
    (case a1 => k_is)
    (case i1 => k_is)
    (case l1 => k_is)
    (case c1 => k_is)
    (case k1 => k_is)
    (case a2 => k_is)
    (case i2 => k_is)
    (case l2 => k_is)
    (case c2 => k_is)
    (case k2 => k_is)
    (case a3 => k_is)
    (case g3 => k_is)
    (case t3 => k_is)
    (case r3 => k_is)
    (case l3 => k_is)
    (case c3 => k_is)
    (case k3 => k_is)
    (case a4 => k_is)
    (case l4 => k_is)
    (case c4 => k_is)
    (case k4 => k_is)
    (case a5 => k_is)
    (case l5 => k_is)
    (case c5 => k_is)
    (case k5 => k_is)
    (case a6 => k_is)
    (case l6 => k_is)
    (case c6 => k_is)
    (case k6 => k_is)
    (case a7 => k_is)
    (case l7 => k_is)
    (case c7 => k_is)
    (case k7 => k_is)
    (case a8 => k_is)
    (case l8 => k_is)
    (case c8 => k_is)
    (case k8 => k_is)
    (case a9 => k_is)
    (case l9 => k_is)
    (case c9 => k_is)
    (case k9 => k_is)
    (case a10 => k_is)
    (case i10 => k_is)
    (case l10 => k_is)
    (case c10 => k_is)
    (case k10 => k_is)
    (case a11 => k_is)
    (case i11 => k_is)
    (case l11 => k_is)
    (case c11 => k_is)
    (case k11 => k_is)
    (case a12 => k_is)
    (case l12 => k_is)
    (case c12 => k_is)
    (case k12 => k_is)
    (case a13 => k_is)
    (case i13 => k_is)
    (case l13 => k_is)
    (case c13 => k_is)
    (case k13 => k_is)
    (case a14 => k_is)
    (case l14 => k_is)
    (case c14 => k_is)
    (case k14 => k_is)
    (case a15 => k_is)
    (case l15 => k_is)
    (case c15 => k_is)
    (case k15 => k_is)
    (case a16 => k_is)
    (case l16 => k_is)
    (case c16 => k_is)
    (case k16 => k_is)
    (case a17 => k_is)
    (case l17 => k_is)
    (case c17 => k_is)
    (case k17 => k_is)
    (case a18 => k_is)
    (case r18 => k_is)
    (case i18 => k_is)
    (case l18 => k_is)
    (case c18 => k_is)
    (case k18 => k_is)
    (case a19 => k_is)
    (case l19 => k_is)
    (case c19 => k_is)
    (case k19 => k_is)
    (case a20 => k_is)
    (case l20 => k_is)
    (case c20 => k_is)
    (case k20 => k_is)
    (case a21 => k_is)
    (case l21 => k_is)
    (case c21 => k_is)
    (case k21 => k_is)
    (case a22 => k_is)
    (case l22 => k_is)
    (case c22 => k_is)
    (case k22 => k_is)
    (case a23 => k_is)
    (case l23 => k_is)
    (case c23 => k_is)
    (case k23 => k_is)
    (case a24 => k_is)
    (case l24 => k_is)
    (case c24 => k_is)
    (case k24 => k_is)
    (case a25 => k_is)
    (case l25 => k_is)
    (case c25 => k_is)
    (case k25 => k_is)
    (case a26 => k_is)
    (case l26 => k_is)
    (case c26 => k_is)
    (case k26 => k_is)
    (case a27 => k_is)
    (case l27 => k_is)
    (case c27 => k_is)
    (case k27 => k_is)
    (case a28 => k_is)
    (case l28 => k_is)
    (case c28 => k_is)
    (case k28 => k_is)
    (case a29 => k_is)
    (case l29 => k_is)
    (case c29 => k_is)
    (case k29 => k_is)
    (case z_abs => k_is)
    (case z_bool => k_is)
    (case z_enumerate => k_is)
    (case z_int => k_is)
    (case z_isinstance => k_is)
    (case z_len => k_is)
    (case z_list => k_is)
    (case z_max => k_is)
    (case z_min => k_is)
    (case z_range => k_is)
    (case z_str => k_is)
    (case z_tuple => k_is)
    (case m_HEARER_WORDS => k_is)
    (case ml_HEARER_WORDS => k_is)
    (case m_MOST_DIGITS => k_is)
    (case m_SENDER_WORDS => k_is)
    (case ml_SENDER_WORDS => k_is)
    (case ypg_End => k_is)
    (case yhd_End => k_is)
    (case ypo_End => k_is)
    (case ysa_End => k_is)
    (case yic_End => k_is)
    (case ytc_End => k_is)
    (case yuc_End => k_is)
    (case ymc_End => k_is)
    (case ymk_End => k_is)
    (case ykc_End => k_is)
    (case wg => k_is)
    (case wk => k_is)
    (case n_End_hearer_rows => k_is)
    (case n_End_rows => k_is)
    (case n_End_sender_rows => k_is)
    (case yrd_End => k_is)
    (case yga_End => k_is)
    (case yat_End_MOST => k_is)
    (case xL_BadEnd => k_is)
    (case xsa_BadEnd => k_is)
    (case xt1_BadEnd => k_is)
    (case xkC_BadEnd => k_is)
    (case xeC_BadEnd => k_is)
    (case xtC_BadEnd => k_is)
    (case xn_BadEnd_part => k_is)
    (case xn_BadEnd_row => k_is)
    (case xL_BadText => k_is)
    (case xsa_BadText => k_is)
    (case xt1_BadText => k_is)
    (case xkC_BadText => k_is)
    (case xeC_BadText => k_is)
    (case xtC_BadText => k_is)
    (case xn_BadText_text => k_is)
