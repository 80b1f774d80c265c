import PyProof.Rows.All
import Wide.All
import OpenK.AllK
import Wide.FinOn
import HandS.ForMost
import HandS.ForExc
import HandS.ExcInit
import HandS.ExcField
import HandS.IsInst
import HandS.ClsMeth
import HandS.Walk
import HandS.Conv
import HandS.Style
import HandS.TupAny
import HandS.Property
import HandS.MakeKwOnly
import HandS.Deep
import HandS.Codes
import PyProof.ReprReads
import PyProof.ReprRoads
import HandS.FStr
import PyProof.P3In
import KE.KeyNested
import HandS.TupMul
import KE.GoesEnum
import HandS.NoneIn
import HandS.Defaults
import HandS.SortInts
import HandS.SetKeys
import KE.KCallOwn
import HandS.Text
import HandS.IterVal
import KE.KOwnIter
import HandS.TryMany
import HandS.ExcIs
import KE.KExcIs
import HandS.StrMore
import KE.KStar
import HandS.DictComp
import HandS.TupLen
import HandS.WordsDict
import PyProof.DictMoreH
import KE.SortKeyHeap
import HandS.SortKw
import HandS.Zip
import PyProof.DictRoadsH
import KE.KDictSum
import HandS.SetFor
import KE.SortData
import KE.KExcInit
import PyProof.ExcClass
import HandS.Set
import HandS.SetBool
import PyProof.Rows.SetFrom
import PyProof.ReprLen
import HandS.Ends
import PySem.Challenge.RW_strongbit_k08_errors_made
set_option Elab.async false
set_option linter.all false
set_option maxRecDepth 100000
set_option maxHeartbeats 2000000
namespace Sb
open PySem L2
variable {X : Cx}
theorem op_powB : OpR X (binaryOp .Pow) (rI (fun i j => 0 ≤ j ∧ (Builtin.Int.intBits i : Int) * j ≤ 2 ^ 27) fun i j => .int (i ^ j.toNat)) :=
  opI fun _ _ _ _ _ _ _ c q => PyProof.Rows.pow_int c.1 c.2 q
theorem pow_fits {i : Int} {k : Nat} {j : Int} (h : i.natAbs < 2 ^ k) (h0 : 0 ≤ j) (hj : (k : Int) * j ≤ 2 ^ 27) : 0 ≤ j ∧ (Builtin.Int.intBits i : Int) * j ≤ 2 ^ 27 := by
  have hb : Builtin.Int.intBits i ≤ k := PyProof.Rows.intBits_le h
  refine ⟨h0, Int.le_trans (Int.mul_le_mul_of_nonneg_right (by omega) h0) hj⟩
/-- BadEnd(v1, v2) is raised: its own dict is new -/
def BadAt (C : Addr) (H : Hp) (v1 v2 : V) (E : XK) : Prop := ∀ (H' : Hp) (d : Addr), Same H H' → H d = none → H' d = some (.xd [("row", v2), ("part", v1)]) → E (.ref C) (some d) H'
theorem BadAt.same {C : Addr} {H H1 : Hp} {v1 v2 : V} {E : XK} (s : Same H H1) (h : BadAt C H v1 v2 E) : BadAt C H1 v1 v2 E := fun H' d s' n e => h H' d (s.trans s') (s.free n) e
/-- all that stood stands, but at p -/
def But (p : Addr) (H H' : Hp) : Prop := ∀ b o, H b = some o → b ≠ p → H' b = some o
theorem But.refl {p : Addr} {H : Hp} : But p H H := fun _ _ h _ => h
theorem But.trans {p : Addr} {H H1 H2 : Hp} (a : But p H H1) (b : But p H1 H2) : But p H H2 := fun c o h n => b c o (a c o h n) n
theorem But.same {p : Addr} {H H1 : Hp} (a : Same H H1) : But p H H1 := fun c o h _ => a c o h
theorem Same.upd {p : Addr} {H : Hp} {o : HO} (n : H p = none) : Same H (upd H p o) := fun c u h => by
  rw [upd_ne (ne_of_none h n)]
  exact h
theorem sqT_same {K : PySem.W.Frag} {H H' : Hp} {a : Addr} {xs : List V} (e : Same H H') (h : SqT K H a xs) : SqT K H' a xs := by
  rcases h with (h | ⟨o, h⟩) | h
  · exact .inl (.inl (e _ _ h))
  · exact .inl (.inr ⟨o, e _ _ h⟩)
  · exact .inr h
/-- the bag at p: three numbers; n bounds how often it was asked -/
def Bag (H : Hp) (p : Addr) (n : Nat) : Prop := ∃ g b c : Int, H p = some (.lst [.int g, .int b, .int c]) ∧ 0 ≤ g ∧ 0 ≤ b ∧ b < 2 ^ 100 ∧ 0 ≤ c ∧ c ≤ n
theorem Bag.mono {H : Hp} {p : Addr} {n m : Nat} (h : Bag H p n) (l : n ≤ m) : Bag H p m := by
  obtain ⟨g, b, c, e, h0, h1, h2, h3, h4⟩ := h
  exact ⟨g, b, c, e, h0, h1, h2, h3, by omega⟩
theorem Bag.same {H H' : Hp} {p : Addr} {n : Nat} (h : Bag H p n) (s : Same H H') : Bag H' p n := by
  obtain ⟨g, b, c, e, r⟩ := h
  exact ⟨g, b, c, s _ _ e, r⟩
theorem hu65 {A : Around} {k : Nat} (hr : Room k A) : A.units + 65 < cLine := Nat.lt_of_le_of_lt (Nat.add_le_add_left (by omega : 65 ≤ 16 * k + 200) _) (by have := hr.un; omega)
/-- what follows in a row: another row, or a word -/
inductive Pl where
  | num (n : Nat) | word (s : Str)
  deriving DecidableEq
def Pl.v : Pl → V
  | .num n => .int (n : Int)
  | .word s => .str s
def Pl.key : Pl → Key
  | .num n => .inl (n : Int)
  | .word s => .inr s
/-- it fits into a machine of so many rows with these words -/
def Pl.Ok (many : Nat) (ws : List Str) : Pl → Prop
  | .num n => n < many
  | .word s => s ∈ ws
instance {many : Nat} {ws : List Str} (p : Pl) : Decidable (p.Ok many ws) := match p with
  | .num n => inferInstanceAs (Decidable (n < many))
  | .word s => inferInstanceAs (Decidable (s ∈ ws))
structure Row where
  put : Nat
  a : Pl
  b : Pl
  deriving DecidableEq
def Row.vs (r : Row) : List V := [.int (r.put : Int), r.a.v, r.b.v]
def Row.Ok (many : Nat) (ws : List Str) (r : Row) : Prop := (r.put = 0 ∨ r.put = 1) ∧ r.a.Ok many ws ∧ r.b.Ok many ws
instance {many : Nat} {ws : List Str} (r : Row) : Decidable (r.Ok many ws) := inferInstanceAs (Decidable ((r.put = 0 ∨ r.put = 1) ∧ r.a.Ok many ws ∧ r.b.Ok many ws))
/-- v is a row of H -/
def RowAt (H : Hp) (v : V) (r : Row) : Prop := ∃ a, v = .ref a ∧ H a = some (.tup r.vs)
/-- the values vs are the rows rs -/
def RowsV (H : Hp) (vs : List V) (rs : List Row) : Prop := Paired (RowAt H) vs rs
theorem RowAt.same {H H' : Hp} {v : V} {r : Row} (s : Same H H') (h : RowAt H v r) : RowAt H' v r := by
  obtain ⟨a, e, x⟩ := h
  exact ⟨a, e, s _ _ x⟩
theorem RowsV.imp {H H' : Hp} {vs : List V} {rs : List Row} (f : ∀ v r, RowAt H v r → RowAt H' v r) (h : RowsV H vs rs) : RowsV H' vs rs := Paired.mapP h f
theorem RowsV.same {H H' : Hp} {vs : List V} {rs : List Row} (s : Same H H') (h : RowsV H vs rs) : RowsV H' vs rs := h.imp fun _ _ => RowAt.same s
theorem RowsV.get : ∀ {H : Hp} {vs : List V} {rs : List Row}, RowsV H vs rs → ∀ (i : Nat) (v : V), vs[i]? = some v → ∃ r, rs[i]? = some r ∧ RowAt H v r
  | _, _, _, .nil, i, v, e => by simp at e
  | _, _, _, .cons h t, 0, v, e => by
    simp at e
    subst e
    exact ⟨_, rfl, h⟩
  | _, _, _, .cons h t, i + 1, v, e => by
    obtain ⟨r, e1, e2⟩ := RowsV.get (vs := _) t i v (by simpa using e)
    exact ⟨r, by simpa using e1, e2⟩
theorem RowsV.get' : ∀ {H : Hp} {vs : List V} {rs : List Row}, RowsV H vs rs → ∀ (i : Nat) (r : Row), rs[i]? = some r → ∃ v, vs[i]? = some v ∧ RowAt H v r
  | _, _, _, .nil, i, v, e => by simp at e
  | _, _, _, .cons h t, 0, v, e => by
    simp at e
    subst e
    exact ⟨_, rfl, h⟩
  | _, _, _, .cons h t, i + 1, v, e => by
    obtain ⟨r, e1, e2⟩ := RowsV.get' (vs := _) t i v (by simpa using e)
    exact ⟨r, by simpa using e1, e2⟩
theorem RowsV.len {H : Hp} {vs : List V} {rs : List Row} (h : RowsV H vs rs) : vs.length = rs.length := Paired.length h
theorem RowsV.snoc {H : Hp} {v : V} {r : Row} (x : RowAt H v r) : ∀ {vs : List V} {rs : List Row}, RowsV H vs rs → RowsV H (vs ++ [v]) (rs ++ [r])
  | _, _, .nil => .cons x .nil
  | _, _, .cons h t => .cons h (RowsV.snoc x t)
end Sb
set_option Elab.async false
set_option linter.all false
set_option maxRecDepth 100000
set_option maxHeartbeats 2000000
namespace Sb
open PySem PySem.Spec PyProof.Rows L2
/-- what a def keeps where no guard stands -/
structure FnG (P : Program) (w : World) (K : PySem.W.Frag) (mg : Str → Option Value) (base : Heap) (CX : CXT) (k : Nat) (f : Addr) (fd : FuncData) (ps : List Str) (sp : Sp) : Prop where
  size : ∀ xs H Q E, sp xs H Q E → xs.length = ps.length
  go : ∀ (A : Around) (st : List Env) (s : Shared) (H : Hp) (args : Args) (us : List Value) (xs : List V) (Q : VK) (E : XK), A.guards = some [] → Room k A → Env0 P w K mg base A st s H → BindsTo s fd args (ps.zip us) → Vals xs us → sp xs H Q E →
    codeAny (model P w) A (.call (.ref f) args) (CR CX st P w H s Q E) s
section
variable {CX : CXT} {P : Program} {w : World} {K : PySem.W.Frag} {mg : Str → Option Value} {base : Heap} {k : Nat} {f : Addr}
theorem guards_in {A : Around} {e : Env} (h : A.guards = some []) : (A.deeper e).guards = some [] := by
  first
    | exact h
    | (show (A.deeper e).guards = some []; simp [Around.deeper, h])
/-- a def's promise from its body, no guard standing -/
theorem fnG {nm ql : Str} {pr : Arguments} {bd : List Stmt} {sc : Scope} {dV kV doc pm cdv ct oc : Value} {an od : Option Addr} {osl : Array (Option Value)} {N ps : List Str} {sp : Sp}
    (at_ : K.lookup f = some ⟨oc, od, .func (PySem.W.fnOf nm ql pr bd sc dV kV doc pm an cdv ct), osl⟩) (cd_ : PySem.W.codeIn K cdv ql = true) (Z : FnScope N ps sc) (size : ∀ xs H Q E, sp xs H Q E → xs.length = ps.length)
    (hb : ∀ (A : Around) (st : List Env) (s : Shared) (H : Hp) (xs : List V) (Q : VK) (E : XK), A.guards = some [] → Room k (A.deeper (envOfC ql sc s.heap.objs.size f cdv)) → sp xs H Q E →
      ∃ t, PSs (cxOf CX P w K mg base N ql sc f cdv A st s H E) bd t ∧ t { nx := fun _ H' => Q .non H', rt := Q } (start N xs) H) :
    FnG P w K mg base CX (k + 1) f (PySem.W.fnOf nm ql pr bd sc dV kV doc pm an cdv ct) ps sp := by
  refine ⟨size, fun A st s H args us xs Q E hg hr e0 bnd r hs => ?_⟩
  have hlen := size _ _ _ _ hs
  have inK : K.In s.heap := e0.mod.kin.keeps fun b o e => (e0.bs b o e).1
  have nol : s.heap.NoLimit := e0.mod.nolimit.keeps fun b o e => (e0.bs b o e).1
  refine codeAny_call_function hr.depth (inK _ _ at_) rfl Z.co Z.gen rfl (PySem.W.codeRec_of inK cd_) (bnd _ _ _ _ ?_)
  refine wpAny_newFunctionEnv_cells Z.kind (fun ⟨n, v⟩ hy => ?_) fun env he s1 x => ?_
  · rcases Z.par n (List.of_mem_zip hy).1 with q | q
    · exact .inl q
    · exact .inr ⟨q, PySem.W.cellsFrom_some _ _ _ (.inl q)⟩
  subst he
  refine ⟨nol.keeps x.toInCall.keep, codeAny_func ?_⟩
  obtain ⟨t, ht, hq⟩ := hb A st s H xs Q E hg (hr.deeper _) hs
  have I : Inv (cxOf CX P w K mg base N ql sc f cdv A st s H E) [] (start N xs) H s1 := inv_start Z hr.hd e0 hlen r x
  refine wpAny_mono (ht.run [] s1 (start N xs) H _ I hq) (fun fl s' z => ?_) fun e s' z => z
  match fl, z with
  | .ret u, ⟨v, σ', H', J, rv, q⟩ => exact ⟨v, H', J.os, J.bare, J.base, J.hok, rv, q⟩
  | .next, ⟨σ', H', J, q⟩ => exact ⟨V.non, H', J.os, J.bare, J.base, J.hok, rfl, q⟩
  | .brk, ⟨_, _, _, q⟩ => exact False.elim q
  | .cont, ⟨_, _, _, q⟩ => exact False.elim q
/-- the same in the words of a def -/
theorem okG {x qual : Str} {st : Stmt} {fd : FuncData} {N ps : List Str} {sp : Sp} (F : Fun K x qual st f fd) (Z : FnScope N ps (defScope st)) (size : ∀ xs H Q E, sp xs H Q E → xs.length = ps.length)
    (hb : ∀ (cdv : Value) (A : Around) (out : List Env) (s : Shared) (H : Hp) (xs : List V) (Q : VK) (E : XK), A.guards = some [] → Room k (A.deeper (envOfC qual (defScope st) s.heap.objs.size f cdv)) → sp xs H Q E →
      ∃ t, PSs (cxOf CX0 P w K mg base N qual (defScope st) f cdv A out s H E).nox (defBody st) t ∧ t { nx := fun _ H' => Q .non H', rt := Q } (start N xs) H) : FnG P w K mg base CX0 (k + 1) f fd ps sp := by
  obtain ⟨oc, od, kV, doc, pm, an, cdv, ct, osl, rfl, at_, cd_⟩ := F.ex
  refine fnG at_ cd_ Z size fun A out s H xs Q E hg hr hs => ?_
  obtain ⟨t, h, q⟩ := hb cdv A out s H xs Q E hg hr hs
  exact ⟨t, h.nox, q⟩
end
end Sb
set_option Elab.async false
set_option linter.all false
set_option maxHeartbeats 2000000
namespace Sb
open PySem L2
/-- p follows row i -/
def Fol (rows : List Row) (i : Nat) (p : Pl) : Prop := ∃ r, rows[i]? = some r ∧ (p = r.a ∨ p = r.b)
/-- some heard bits lead from row b to p -/
inductive Reach (rows : List Row) (b : Nat) : Pl → Prop where
  | base : Reach rows b (.num b)
  | step {i : Nat} {p : Pl} (h : Reach rows b (.num i)) (f : Fol rows i p) : Reach rows b p
/-- what holds of the found ones and of those ahead; k (where it is some row) waits for its followers but the first j -/
structure RInv (rows : List Row) (b : Nat) (fs : List Pl) (as : List Nat) (hold : Option (Nat × Nat)) : Prop where
  nd : fs.Nodup
  sound : ∀ x, x ∈ fs → Reach rows b x
  start : Pl.num b ∈ fs
  sub : ∀ i, i ∈ as → Pl.num i ∈ fs
  small : ∀ i, Pl.num i ∈ fs → i < rows.length
  closed : ∀ i, Pl.num i ∈ fs → i ∉ as → (∀ j, hold ≠ some (i, j)) → ∀ p, Fol rows i p → p ∈ fs
  held : ∀ i j, hold = some (i, j) → Pl.num i ∈ fs ∧ ∀ r, rows[i]? = some r → (1 ≤ j → r.a ∈ fs) ∧ (2 ≤ j → r.b ∈ fs)
theorem RInv.done {rows : List Row} {b i : Nat} {fs : List Pl} {as : List Nat} (h : RInv rows b fs as (some (i, 2))) : RInv rows b fs as none :=
  ⟨h.nd, h.sound, h.start, h.sub, h.small, fun j hj ha _ p hp => by
      by_cases e : j = i
      · subst e
        obtain ⟨r, hr, hp⟩ := hp
        obtain ⟨_, q⟩ := h.held j 2 rfl
        obtain ⟨q1, q2⟩ := q r hr
        rcases hp with rfl | rfl
        · exact q1 (by omega)
        · exact q2 (by omega)
      · exact h.closed j hj ha (fun k z => by cases z; exact e rfl) p hp, fun k j z => by cases z⟩
/-- a row that is new is ahead -/
def more (as : List Nat) : Pl → List Nat
  | .num k => as ++ [k]
  | .word _ => as
/-- nothing is ahead: just what is led to is found -/
theorem RInv.all {rows : List Row} {b : Nat} {fs : List Pl} (h : RInv rows b fs [] none) (x : Pl) : x ∈ fs ↔ Reach rows b x := by
  refine ⟨h.sound x, fun z => ?_⟩
  induction z with
  | base => exact h.start
  | step _ f ih => exact h.closed _ ih (by simp) (by intro k z; cases z) _ f
/-- the first row that is none -/
def firstBad (n : Nat) (ws : List Str) : List Row → Nat → Option Nat
  | [], _ => none
  | r :: t, i => if r.Ok n ws then firstBad n ws t (i + 1) else some i
end Sb
set_option Elab.async false
set_option linter.all false
set_option maxHeartbeats 2000000
namespace Sb
open PySem L2
end Sb
set_option Elab.async false
set_option linter.all false
set_option maxRecDepth 100000
set_option maxHeartbeats 2000000
namespace Sb
open PySem PySem.Spec PyProof.Rows L2
end Sb
set_option Elab.async false
set_option linter.all false
set_option maxHeartbeats 2000000
namespace Sb
open PySem L2
/-- a way from row 1 on which no row comes twice -/
inductive Way (rows : List Row) : List Nat → Prop where
  | one : Way rows [1]
  | more {p : List Nat} {i j : Nat} (w : Way rows (p ++ [i])) (f : Fol rows i (.num j)) (n : j ∉ p ++ [i]) : Way rows (p ++ [i] ++ [j])
theorem Way.last {rows : List Row} {q : List Nat} (w : Way rows q) : ∃ p i, q = p ++ [i] := by
  cases w with
  | one => exact ⟨[], 1, rfl⟩
  | more w f n => exact ⟨_, _, rfl⟩
theorem Way.pos {rows : List Row} {q : List Nat} (w : Way rows q) : 1 ≤ q.length := by
  obtain ⟨p, i, rfl⟩ := w.last
  simp
theorem Way.small {rows : List Row} {q : List Nat} {n : Nat} (hn : 1 < n) (hf : ∀ i j, Fol rows i (.num j) → j < n) (w : Way rows q) : ∀ x, x ∈ q → x < n := by
  induction w with
  | one =>
    intro x hx
    simp at hx
    omega
  | more w f n' ih =>
    intro x hx
    rcases List.mem_append.mp hx with z | z
    · exact ih x z
    · simp at z
      subst z
      exact hf _ _ f
end Sb
set_option Elab.async false
set_option linter.all false
set_option maxHeartbeats 2000000
namespace Sb
open PySem L2
/-- the rows met so far, the first t of them looked at -/
structure LInv (rows : List Row) (b : Nat) (fs : List Nat) (t : Nat) : Prop where
  nd : fs.Nodup
  sound : ∀ i, i ∈ fs → Reach rows b (.num i)
  start : b ∈ fs
  small : ∀ i, i ∈ fs → i < rows.length
  closed : ∀ c i, c < t → fs[c]? = some i → ∀ j, Fol rows i (.num j) → j ∈ fs
theorem LInv.next {rows : List Row} {b t i : Nat} {fs : List Nat} (h : LInv rows b fs t) (hi : fs[t]? = some i) (hc : ∀ j, Fol rows i (.num j) → j ∈ fs) : LInv rows b fs (t + 1) :=
  ⟨h.nd, h.sound, h.start, h.small, fun c i' hc' hi' j hj => by
    by_cases e : c = t
    · subst e
      rw [hi] at hi'
      cases hi'
      exact hc j hj
    · exact h.closed c i' (by omega) hi' j hj⟩
theorem LInv.all {rows : List Row} {b : Nat} {fs : List Nat} {t : Nat} (h : LInv rows b fs t) (ht : fs.length ≤ t) (i : Nat) : i ∈ fs ↔ Reach rows b (.num i) := by
  refine ⟨h.sound i, fun hr => ?_⟩
  generalize e : Pl.num i = x at hr
  induction hr generalizing i with
  | base =>
    cases e
    exact h.start
  | @step k p hk f ih =>
    subst e
    have hm := ih k rfl
    obtain ⟨c, hc⟩ := List.getElem?_of_mem hm
    exact h.closed c k (by have := (List.getElem?_eq_some_iff.mp hc).1; omega) hc i f
end Sb
set_option Elab.async false
set_option linter.all false
set_option maxRecDepth 100000
set_option maxHeartbeats 2000000
namespace Sb
open PySem PySem.Spec PyProof.Rows L2
/-- one bit on -/
def stepPl (rs : List Row) (p : Pl) (b : Nat) : Pl := match p with
  | .num i => match rs[i]? with
    | some r => if b = 0 then r.a else r.b
    | none => .num i
  | .word s => .word s
def walkPl (rs : List Row) (p : Pl) (bs : List Nat) : Pl := bs.foldl (stepPl rs) p
def putOf (rs : List Row) (i : Nat) : Nat := (rs[i]?.map Row.put).getD 0
def seenD (rs : List Row) : Pl → PyData
  | .num i => .tuple [.str "put", .int (putOf rs i : Int)]
  | .word s => .tuple [.str "word", .str s]
theorem walk_snoc (rs : List Row) (p : Pl) (bs : List Nat) (b : Nat) : walkPl rs p (bs ++ [b]) = stepPl rs (walkPl rs p bs) b := by
  unfold walkPl
  rw [List.foldl_append]
  rfl
end Sb
set_option Elab.async false
set_option linter.all false
set_option maxRecDepth 100000
set_option maxHeartbeats 2000000
namespace Sb
open PySem PySem.Spec PyProof.Rows L2
def plD : Pl → PyData
  | .num n => .int (n : Int)
  | .word s => .str s
def rowD (r : Row) : PyData := .tuple [.int (r.put : Int), plD r.a, plD r.b]
def rowsD (rs : List Row) : List PyData := rs.map rowD
end Sb
set_option Elab.async false
set_option linter.all false
set_option maxRecDepth 100000
set_option maxHeartbeats 2000000
namespace Sb
open PySem PySem.Spec PySem.Calls PyProof.Rows L2
end Sb
set_option Elab.async false
set_option linter.all false
set_option maxRecDepth 100000
set_option maxHeartbeats 2000000
namespace Vl
open PySem PySem.Spec PyProof.Rows L2 Sb
/-- a value as data: what stands at addresses is held by value -/
inductive D where
  | non | bl (b : Bool) | int (i : Int) | str (s : Str)
  | tup (l : List D) | lst (l : List D)
  /-- a tuple that may be a written one: it is no key -/
  | ctup (l : List D)
  | ob (c : Str) (l : List D)
  | dk (ks : List Key) (l : List D) | dt (ks : List (List Key)) (l : List D)
  /-- a list of ints that is read alone (the script) -/
  | scr (ns : List Int)
  /-- an own class -/
  | cl (c : Str)
  /-- a part of a thing that is owned with it -/
  | bx (d : D)
  /-- a dict with keys of any depth -/
  | nk (ks l : List D)
  /-- an own exception, kept as a value -/
  | ex (c : Str) (l : List D)
mutual
/-- the key that data is -/
def D.key : D → Option NestedKey
  | .non => some .none
  | .int i => some (.num i)
  | .str s => some (.text s)
  | .tup l => (D.keys l).map .tup
  | .ctup l => (D.keys l).map .tup
  | _ => none
def D.keys : List D → Option (List NestedKey)
  | [] => some []
  | d :: l => (D.key d).bind fun k => (D.keys l).map (k :: ·)
end
/-- a tuple that is a key -/
def D.kt : D → Option NestedKey
  | .tup l => ((D.keys l).map NestedKey.tup).bind fun k => if k.depth ≤ 8 then some k else none
  | .ctup l => ((D.keys l).map NestedKey.tup).bind fun k => if k.depth ≤ 8 then some k else none
  | _ => none
/-- the entries of a dict with such keys -/
abbrev NEs := List (NestedKey × Addr × V)
/-- the one object of a dict with such keys -/
def NkObj (w : World) (a : Addr) (es : NEs) (h : Heap) : Prop :=
  es.length ≤ sizeLine ∧ (a == sysModules) = false ∧ ∃ xs : List (NestedKey × Addr × Value),
    Paired (fun (p : NestedKey × Addr × V) (q : NestedKey × Addr × Value) => p.1 = q.1 ∧ p.2.1 = q.2.1 ∧ RelV p.2.2 q.2.2) es xs ∧
    ∃ o os ep, h.get? a = some o ∧ o.ExactDict ∧ o.data = .dict os ep ∧ os.toList = xs.map (fun x => (⟨x.1.hash w, .ref x.2.1, x.2.2⟩ : DictEntry)) ∧ (xs.map (·.1)).Nodup
/-- the classes' addresses and their fields; the world -/
structure Ct where
  fn : Str → Option (Addr × List Str)
  w : World
instance : CoeFun Ct fun _ => Str → Option (Addr × List Str) := ⟨Ct.fn⟩
section
variable (K : PySem.W.Frag) (ct : Ct)
mutual
/-- v is d in the heap F -/
inductive Rp (F : Hp) : V → D → Prop
  | non : Rp F .non .non
  | bl (b : Bool) : Rp F (.bl b) (.bl b)
  | int (i : Int) : Rp F (.int i) (.int i)
  | str (s : Str) : Rp F (.str s) (.str s)
  | tup {a : Addr} {vs : List V} {l : List D} (h : F a = some (.tup vs)) (t : Rps F vs l) : Rp F (.ref a) (.tup l)
  | ctup {a : Addr} {vs : List V} {l : List D} (h : SqT K F a vs) (t : Rps F vs l) : Rp F (.ref a) (.ctup l)
  | lst {a : Addr} {vs : List V} {l : List D} (h : F a = some (.lst vs)) (t : Rps F vs l) : Rp F (.ref a) (.lst l)
  | ob {a C dx : Addr} {ns : List Str} {vs : List V} {c : Str} {l : List D} (hc : ct c = some (C, ns)) (hl : vs.length ≤ ns.length) (h : F a = some (.ins C dx (ns.zip vs))) (t : Rps F vs l) : Rp F (.ref a) (.ob c l)
  | dk {a : Addr} {ks : List Key} {vs : List V} {l : List D} (hl : ks.length = vs.length) (h : F a = some (.dK (ks.zip vs))) (t : Rps F vs l) : Rp F (.ref a) (.dk ks l)
  | dt {a : Addr} {ks : List (List Key)} {vs : List V} {l : List D} (hl : ks.length = vs.length) (h : F a = some (.dT (ks.zip vs))) (t : Rps F vs l) : Rp F (.ref a) (.dt ks l)
  | scr {a : Addr} {ns : List Int} (h : SqL K F a (ns.map V.int)) : Rp F (.ref a) (.scr ns)
  | cl {C : Addr} {ns : List Str} {c : Str} (hc : ct c = some (C, ns)) : Rp F (.ref C) (.cl c)
  | nk {a : Addr} {es : NEs} {vks vs : List V} {ks l : List D} (h : F a = some (.ext (NkObj ct.w a es))) (e1 : vks = es.map fun e => V.ref e.2.1) (e2 : vs = es.map (·.2.2)) (hk : ks.map D.kt = es.map fun e => some e.1) (tk : Rps F vks ks) (t : Rps F vs l) : Rp F (.ref a) (.nk ks l)
  | ex {a C dx : Addr} {ns : List Str} {vs : List V} {c : Str} {l : List D} (hc : ct c = some (C, ns)) (hl : vs.length = ns.length) (h : F a = some (exo a C (some dx))) (hd : F dx = some (exd dx (ns.zip vs))) (t : Rps F vs l) : Rp F (.ref a) (.ex c l)
  | ex0 {a C : Addr} {ns : List Str} {c : Str} (hc : ct c = some (C, ns)) (h : F a = some (exo a C none)) : Rp F (.ref a) (.ex c [])
inductive Rps (F : Hp) : List V → List D → Prop
  | nil : Rps F [] []
  | cons {v : V} {vs : List V} {d : D} {l : List D} (h : Rp F v d) (t : Rps F vs l) : Rps F (v :: vs) (d :: l)
end
end
section
variable {K : PySem.W.Frag} {ct : Ct} {F F' : Hp}
mutual
theorem Rp.mono (s : Same F F') : ∀ {v : V} {d : D}, Rp K ct F v d → Rp K ct F' v d
  | _, _, .non => .non
  | _, _, .bl b => .bl b
  | _, _, .int i => .int i
  | _, _, .str x => .str x
  | _, _, .tup a h => .tup (s _ _ a) (Rps.mono s h)
  | _, _, .ctup a h => .ctup (sqT_same s a) (Rps.mono s h)
  | _, _, .lst a h => .lst (s _ _ a) (Rps.mono s h)
  | _, _, .scr a => .scr (s.seq a)
  | _, _, .cl hc => .cl hc
  | _, _, .ob hc hl a h => .ob hc hl (s _ _ a) (Rps.mono s h)
  | _, _, .dk hl a h => .dk hl (s _ _ a) (Rps.mono s h)
  | _, _, .dt hl a h => .dt hl (s _ _ a) (Rps.mono s h)
  | _, _, .nk h e1 e2 hk tk t => .nk (s _ _ h) e1 e2 hk (Rps.mono s tk) (Rps.mono s t)
  | _, _, .ex hc hl h hd t => .ex hc hl (s _ _ h) (s _ _ hd) (Rps.mono s t)
  | _, _, .ex0 hc h => .ex0 hc (s _ _ h)
theorem Rps.mono (s : Same F F') : ∀ {vs : List V} {l : List D}, Rps K ct F vs l → Rps K ct F' vs l
  | _, _, .nil => .nil
  | _, _, .cons h t => .cons (Rp.mono s h) (Rps.mono s t)
end
theorem Rps.len : ∀ {vs : List V} {l : List D}, Rps K ct F vs l → vs.length = l.length
  | _, _, .nil => rfl
  | _, _, .cons _ t => by simp [Rps.len t]
theorem Rps.get : ∀ {vs : List V} {l : List D} {i : Nat} {v : V}, Rps K ct F vs l → vs[i]? = some v → ∃ d, l[i]? = some d ∧ Rp K ct F v d
  | _, _, _, _, .nil, e => by simp at e
  | _, _, 0, _, .cons h _, e => by
    simp at e
    subst e
    exact ⟨_, rfl, h⟩
  | _, _, i + 1, _, .cons _ t, e => by
    obtain ⟨d, h1, h2⟩ := Rps.get (i := i) t (by simpa using e)
    exact ⟨d, by simpa using h1, h2⟩
theorem Rps.get' : ∀ {vs : List V} {l : List D} {i : Nat} {d : D}, Rps K ct F vs l → l[i]? = some d → ∃ v, vs[i]? = some v ∧ Rp K ct F v d
  | _, _, _, _, .nil, e => by simp at e
  | _, _, 0, _, .cons h _, e => by
    simp at e
    subst e
    exact ⟨_, rfl, h⟩
  | _, _, i + 1, _, .cons _ t, e => by
    obtain ⟨v, h1, h2⟩ := Rps.get' (i := i) t (by simpa using e)
    exact ⟨v, by simpa using h1, h2⟩
theorem Rps.app : ∀ {vs ws : List V} {l m : List D}, Rps K ct F vs l → Rps K ct F ws m → Rps K ct F (vs ++ ws) (l ++ m)
  | _, _, _, _, .nil, s => s
  | _, _, _, _, .cons h t, s => .cons h (Rps.app t s)
theorem Rps.one {v : V} {d : D} (h : Rp K ct F v d) : Rps K ct F [v] [d] := .cons h .nil
theorem Rps.set {v : V} {d : D} (h : Rp K ct F v d) : ∀ {vs : List V} {l : List D} (i : Nat), Rps K ct F vs l → Rps K ct F (vs.set i v) (l.set i d)
  | _, _, _, .nil => .nil
  | _, _, 0, .cons _ t => .cons h t
  | _, _, i + 1, .cons g t => .cons g (Rps.set h i t)
theorem Rps.take : ∀ {vs : List V} {l : List D} (n : Nat), Rps K ct F vs l → Rps K ct F (vs.take n) (l.take n)
  | _, _, 0, _ => .nil
  | _, _, _ + 1, .nil => .nil
  | _, _, n + 1, .cons h t => .cons h (Rps.take n t)
theorem Rps.drop : ∀ {vs : List V} {l : List D} (n : Nat), Rps K ct F vs l → Rps K ct F (vs.drop n) (l.drop n)
  | _, _, 0, r => r
  | _, _, _ + 1, .nil => .nil
  | _, _, n + 1, .cons _ t => Rps.drop n t
end
mutual
def D.py : D → PyData
  | .non => .none
  | .bl b => .bool b
  | .int i => .int i
  | .str s => .str s
  | .tup l => .tuple (D.pyAll l)
  | .ctup l => .tuple (D.pyAll l)
  | .lst l => .list (D.pyAll l)
  | _ => .none
def D.pyAll : List D → List PyData
  | [] => []
  | d :: l => D.py d :: D.pyAll l
end
mutual
/-- no object, no dict within -/
def D.plain : D → Bool
  | .tup l => D.plainAll l
  | .ctup l => D.plainAll l
  | .lst l => D.plainAll l
  | .ob _ _ => false
  | .dk _ _ => false
  | .dt _ _ => false
  | .scr _ => false
  | .cl _ => false
  | .bx _ => false
  | .nk _ _ => false
  | .ex _ _ => false
  | _ => true
def D.plainAll : List D → Bool
  | [] => true
  | d :: l => D.plain d && D.plainAll l
end
section
variable {K : PySem.W.Frag} {ct : Ct} {F : Hp}
mutual
theorem Rp.dp : ∀ {v : V} {d : D}, Rp K ct F v d → d.plain = true → Dp K F v d.py
  | _, _, .non, _ => .non
  | _, _, .bl b, _ => .bl b
  | _, _, .int i, _ => .int i
  | _, _, .str x, _ => .str x
  | _, _, .tup a h, p => by
    simp only [D.py]
    exact .tup (SqT.of a) (Rps.dp h (by simpa only [D.plain] using p))
  | _, _, .ctup a h, p => by
    simp only [D.py]
    exact .tup a (Rps.dp h (by simpa only [D.plain] using p))
  | _, _, .lst a h, p => by
    simp only [D.py]
    exact .lst (SqL.of a) (Rps.dp h (by simpa only [D.plain] using p))
  | _, _, .ob _ _ _ _, p => by simp [D.plain] at p
  | _, _, .dk _ _ _, p => by simp [D.plain] at p
  | _, _, .ex _ _ _ _ _, p => by simp [D.plain] at p
  | _, _, .ex0 _ _, p => by simp [D.plain] at p
  | _, _, .dt _ _ _, p => by simp [D.plain] at p
  | _, _, .scr _, p => by simp [D.plain] at p
  | _, _, .cl _, p => by simp [D.plain] at p
  | _, _, .nk _ _ _ _ _ _, p => by simp [D.plain] at p
theorem Rps.dp : ∀ {vs : List V} {l : List D}, Rps K ct F vs l → D.plainAll l = true → DpAll K F vs (D.pyAll l)
  | _, _, .nil, _ => .nil
  | _, _, .cons h t, p => by
    simp only [D.plainAll, Bool.and_eq_true] at p
    exact .cons (Rp.dp h p.1) (Rps.dp t p.2)
end
end
open Classical in
noncomputable def off (S : Addr → Prop) (H : Hp) : Hp := fun a => if S a then none else H a
section
variable {S : Addr → Prop} {H H' : Hp} {a : Addr} {o : HO}
theorem off_inv (h : off S H a = some o) : ¬ S a ∧ H a = some o := by
  unfold off at h
  by_cases c : S a
  · rw [if_pos c] at h
    cases h
  · rw [if_neg c] at h
    exact ⟨c, h⟩
theorem off_at (n : ¬ S a) : off S H a = H a := by
  unfold off
  rw [if_neg n]
theorem off_le : Same (off S H) H := fun _ _ h => (off_inv h).2
theorem off_same (s : Same H H') : Same (off S H) (off S H') := fun _ _ h => by
  obtain ⟨n, e⟩ := off_inv h
  rw [off_at n]
  exact s _ _ e
end
/-- what is hidden, the address that a slot owns, and those of the parts of a tree that a slot owns -/
structure Gh where
  S : Addr → Prop
  r : Nat → Option Addr
  t : Nat → List Nat → Option Addr
/-- no slot's -/
def Gh.un (G : Gh) (p : Addr) : Prop := (∀ i, G.r i ≠ some p) ∧ ∀ i π, G.t i π ≠ some p
structure Mono (G : Gh) (H : Hp) (G' : Gh) (H' : Hp) : Prop where
  same : Same (off G.S H) (off G'.S H')
  tmp : ∀ p, G.S p → G.un p → G'.S p ∧ G'.un p ∧ H' p = H p
  dom : ∀ p, H p ≠ none → H' p ≠ none
theorem Mono.refl {G : Gh} {H : Hp} : Mono G H G H := ⟨Same.refl _, fun _ h n => ⟨h, n, rfl⟩, fun _ h => h⟩
theorem upd_dom {H : Hp} {a : Addr} {o : HO} : ∀ p, H p ≠ none → upd H a o p ≠ none := fun p h => by
  by_cases e : p = a
  · rw [e, upd_same]
    exact Option.some_ne_none _
  · rw [upd_ne e]
    exact h
theorem same_dom {H H' : Hp} (s : Same H H') : ∀ p, H p ≠ none → H' p ≠ none := fun p h => by
  cases e : H p with
  | none => exact absurd e h
  | some o =>
    rw [s _ _ e]
    exact Option.some_ne_none _
theorem Mono.trans {G G1 G2 : Gh} {H H1 H2 : Hp} (a : Mono G H G1 H1) (b : Mono G1 H1 G2 H2) : Mono G H G2 H2 :=
  ⟨a.same.trans b.same, fun p h n => by
    obtain ⟨h1, n1, e1⟩ := a.tmp p h n
    obtain ⟨h2, n2, e2⟩ := b.tmp p h1 n1
    exact ⟨h2, n2, e2.trans e1⟩, fun p h => b.dom p (a.dom p h)⟩
theorem Mono.grow {G : Gh} {H H' : Hp} (l : ∀ a, G.S a → H a ≠ none) (s : Same H H') : Mono G H G H' :=
  ⟨off_same s, fun p h n => ⟨h, n, by
    cases e : H p with
    | none => exact absurd e (l p h)
    | some o => exact s _ _ e⟩, same_dom s⟩
/-- at a the owned thing d; its parts are in F -/
def OwnAt (K : PySem.W.Frag) (ct : Ct) (H F : Hp) (a : Addr) : D → Prop
  | .lst l => ∃ vs, H a = some (.lst vs) ∧ Rps K ct F vs l
  | .dk ks l => ∃ vs, ks.length = vs.length ∧ H a = some (.dK (ks.zip vs)) ∧ Rps K ct F vs l
  | .dt ks l => ∃ vs, ks.length = vs.length ∧ H a = some (.dT (ks.zip vs)) ∧ Rps K ct F vs l
  | .ob c l => ∃ C dx ns vs, ct c = some (C, ns) ∧ vs.length ≤ ns.length ∧ H a = some (.ins C dx (ns.zip vs)) ∧ Rps K ct F vs l
  | .nk ks l => ∃ es : NEs, H a = some (.ext (NkObj ct.w a es)) ∧ ks.map D.kt = es.map (fun e => some e.1) ∧ Rps K ct F (es.map fun e => V.ref e.2.1) ks ∧ Rps K ct F (es.map (·.2.2)) l
  | _ => False
theorem OwnAt.mono {K : PySem.W.Frag} {ct : Ct} {H H' F F' : Hp} {a : Addr} {d : D} (h : OwnAt K ct H F a d) (e : H' a = H a) (s : Same F F') : OwnAt K ct H' F' a d := by
  cases d with
  | lst l =>
    obtain ⟨vs, h1, h2⟩ := h
    exact ⟨vs, e.trans h1, h2.mono s⟩
  | dk ks l =>
    obtain ⟨vs, h0, h1, h2⟩ := h
    exact ⟨vs, h0, e.trans h1, h2.mono s⟩
  | dt ks l =>
    obtain ⟨vs, h0, h1, h2⟩ := h
    exact ⟨vs, h0, e.trans h1, h2.mono s⟩
  | ob c l =>
    obtain ⟨C, dx, ns, vs, h0, h3, h1, h2⟩ := h
    exact ⟨C, dx, ns, vs, h0, h3, e.trans h1, h2.mono s⟩
  | nk ks l =>
    obtain ⟨es, h1, h2, h3, h4⟩ := h
    exact ⟨es, e.trans h1, h2, h3.mono s, h4.mono s⟩
  | _ => exact h.elim
theorem OwnAt.some {K : PySem.W.Frag} {ct : Ct} {H F : Hp} {a : Addr} {d : D} (h : OwnAt K ct H F a d) : H a ≠ none := by
  cases d with
  | lst l =>
    obtain ⟨vs, h1, h2⟩ := h
    rw [h1]
    exact Option.some_ne_none _
  | dk ks l =>
    obtain ⟨vs, h0, h1, h2⟩ := h
    rw [h1]
    exact Option.some_ne_none _
  | dt ks l =>
    obtain ⟨vs, h0, h1, h2⟩ := h
    rw [h1]
    exact Option.some_ne_none _
  | ob c l =>
    obtain ⟨C, dx, ns, vs, h0, h3, h1, h2⟩ := h
    rw [h1]
    exact Option.some_ne_none _
  | nk ks l =>
    obtain ⟨es, h1, h2⟩ := h
    rw [h1]
    exact Option.some_ne_none _
  | _ => exact h.elim
/-- an owned thing that is no longer hidden -/
theorem OwnAt.rp {K : PySem.W.Frag} {ct : Ct} {H F : Hp} {a : Addr} {d : D} (h : OwnAt K ct H F a d) (e : F a = H a) : Rp K ct F (.ref a) d := by
  cases d with
  | lst l =>
    obtain ⟨vs, h1, h2⟩ := h
    exact .lst (e.trans h1) h2
  | dk ks l =>
    obtain ⟨vs, h0, h1, h2⟩ := h
    exact .dk h0 (e.trans h1) h2
  | dt ks l =>
    obtain ⟨vs, h0, h1, h2⟩ := h
    exact .dt h0 (e.trans h1) h2
  | ob c l =>
    obtain ⟨C, dx, ns, vs, h0, h3, h1, h2⟩ := h
    exact .ob h0 h3 (e.trans h1) h2
  | nk ks l =>
    obtain ⟨es, h1, h2, h3, h4⟩ := h
    exact .nk (e.trans h1) rfl rfl h2 h3 h4
  | _ => exact h.elim
section
variable (K : PySem.W.Frag) (ct : Ct) (H F : Hp) (r : List Nat → Option Addr)
mutual
/-- at the path π (the last step first) stands the owned tree d; what is not boxed is shared -/
inductive TrAt : List Nat → D → Prop
  | lst {π : List Nat} {a : Addr} {vs : List V} {l : List D} (h0 : r π = some a) (h : H a = some (.lst vs)) (t : TrsAt π 0 vs l) : TrAt π (.lst l)
  | dk {π : List Nat} {a : Addr} {ks : List Key} {vs : List V} {l : List D} (h0 : r π = some a) (hl : ks.length = vs.length) (h : H a = some (.dK (ks.zip vs))) (t : TrsAt π 0 vs l) : TrAt π (.dk ks l)
  | dt {π : List Nat} {a : Addr} {ks : List (List Key)} {vs : List V} {l : List D} (h0 : r π = some a) (hl : ks.length = vs.length) (h : H a = some (.dT (ks.zip vs))) (t : TrsAt π 0 vs l) : TrAt π (.dt ks l)
  | ob {π : List Nat} {a C dx : Addr} {ns : List Str} {vs : List V} {c : Str} {l : List D} (h0 : r π = some a) (hc : ct c = some (C, ns)) (hl : vs.length ≤ ns.length) (h : H a = some (.ins C dx (ns.zip vs))) (t : TrsAt π 0 vs l) : TrAt π (.ob c l)
  | nk {π : List Nat} {a : Addr} {es : NEs} {vks vs : List V} {ks l : List D} (h0 : r π = some a) (h : H a = some (.ext (NkObj ct.w a es))) (e1 : vks = es.map fun e => V.ref e.2.1) (e2 : vs = es.map (·.2.2)) (hk : ks.map D.kt = es.map fun e => some e.1) (tk : Rps K ct F vks ks) (t : TrsAt π 0 vs l) : TrAt π (.nk ks l)
inductive TrsAt : List Nat → Nat → List V → List D → Prop
  | nil {π : List Nat} {j : Nat} : TrsAt π j [] []
  | sh {π : List Nat} {j : Nat} {v : V} {vs : List V} {d : D} {l : List D} (h : Rp K ct F v d) (t : TrsAt π (j + 1) vs l) : TrsAt π j (v :: vs) (d :: l)
  | bx {π : List Nat} {j : Nat} {b : Addr} {vs : List V} {d : D} {l : List D} (h0 : r (j :: π) = some b) (h : TrAt (j :: π) d) (t : TrsAt π (j + 1) vs l) : TrsAt π j (.ref b :: vs) (.bx d :: l)
end
end
section
variable {K : PySem.W.Frag} {ct : Ct} {H H' F F' : Hp} {r r' : List Nat → Option Addr} {P : List Nat → Prop}
mutual
theorem TrAt.keep (hP : ∀ π j, P π → P (j :: π)) (hH : ∀ π a, P π → r π = some a → r' π = some a ∧ H' a = H a) (s : Same F F') : ∀ {π : List Nat} {d : D}, P π → TrAt K ct H F r π d → TrAt K ct H' F' r' π d
  | _, _, hp, .lst h0 h t => .lst (hH _ _ hp h0).1 ((hH _ _ hp h0).2.trans h) (TrsAt.keep hP hH s hp t)
  | _, _, hp, .dk h0 hl h t => .dk (hH _ _ hp h0).1 hl ((hH _ _ hp h0).2.trans h) (TrsAt.keep hP hH s hp t)
  | _, _, hp, .dt h0 hl h t => .dt (hH _ _ hp h0).1 hl ((hH _ _ hp h0).2.trans h) (TrsAt.keep hP hH s hp t)
  | _, _, hp, .ob h0 hc hl h t => .ob (hH _ _ hp h0).1 hc hl ((hH _ _ hp h0).2.trans h) (TrsAt.keep hP hH s hp t)
  | _, _, hp, .nk h0 h e1 e2 hk tk t => .nk (hH _ _ hp h0).1 ((hH _ _ hp h0).2.trans h) e1 e2 hk (tk.mono s) (TrsAt.keep hP hH s hp t)
theorem TrsAt.keep (hP : ∀ π j, P π → P (j :: π)) (hH : ∀ π a, P π → r π = some a → r' π = some a ∧ H' a = H a) (s : Same F F') : ∀ {π : List Nat} {j : Nat} {vs : List V} {l : List D}, P π → TrsAt K ct H F r π j vs l → TrsAt K ct H' F' r' π j vs l
  | _, _, _, _, _, .nil => .nil
  | _, _, _, _, hp, .sh h t => .sh (h.mono s) (TrsAt.keep hP hH s hp t)
  | _, _, _, _, hp, .bx h0 h t => .bx (hH _ _ (hP _ _ hp) h0).1 (TrAt.keep hP hH s (hP _ _ hp) h) (TrsAt.keep hP hH s hp t)
end
theorem TrAt.same (hH : ∀ π a, r π = some a → H' a = H a) (s : Same F F') {π : List Nat} {d : D} (h : TrAt K ct H F r π d) : TrAt K ct H' F' r π d :=
  TrAt.keep (P := fun _ => True) (fun _ _ h => h) (fun π a _ h => ⟨h, hH π a h⟩) s trivial h
end
inductive Slot where
  | un | sh (d : D) | ow (d : D) | io (d : D)
  /-- a tree; b: a parameter's -/
  | tr (b : Bool) (d : D)
structure Bs where
  ct : Ct
  io : Nat → Option Addr
  H0 : Hp
  it : Nat → List Nat → Option Addr
/-- the trees of the slots -/
structure Trees (K : PySem.W.Frag) (B : Bs) (G : Gh) (env : List Slot) (σ : L2.St) (H : Hp) : Prop where
  at_ : ∀ (i : Nat) (b : Bool) (d : D), env[i]? = some (.tr b d) → ∃ a, G.t i [] = some a ∧ σ[i]? = some (some (.ref a)) ∧ TrAt K B.ct H (off G.S H) (G.t i) [] d
  hid : ∀ (i : Nat) (π : List Nat) (a : Addr), G.t i π = some a → G.S a
  inj : ∀ (i : Nat) (π : List Nat) (j : Nat) (ρ : List Nat) (a : Addr), G.t i π = some a → G.t j ρ = some a → i = j ∧ π = ρ
  far : ∀ (i : Nat) (π : List Nat) (j : Nat) (a : Addr), G.t i π = some a → G.r j ≠ some a
  io : ∀ (i : Nat) (d : D), env[i]? = some (.tr true d) → G.t i [] = B.it i []
  new : ∀ (i : Nat) (π : List Nat) (a : Addr) (b : Bool) (d : D), env[i]? = some (.tr b d) → G.t i π = some a → B.H0 a = none ∨ (b = true ∧ ∃ ρ, B.it i ρ = some a)
theorem Trees.keep {K : PySem.W.Frag} {B : Bs} {G G' : Gh} {env env' : List Slot} {σ σ' : L2.St} {H H' : Hp} (T : Trees K B G env σ H) (ht : G'.t = G.t) (hS : ∀ (i : Nat) (π : List Nat) (a : Addr), G.t i π = some a → G'.S a ∧ H' a = H a ∧ ∀ j, G'.r j ≠ some a) (s : Same (off G.S H) (off G'.S H'))
    (he : ∀ (i : Nat) (b : Bool) (d : D), env'[i]? = some (.tr b d) → env[i]? = some (.tr b d) ∧ σ'[i]? = σ[i]?) : Trees K B G' env' σ' H' := by
  refine ⟨fun i b d e => ?_, fun i π a h => ?_, fun i π j ρ a h1 h2 => ?_, fun i π j a h => ?_, fun i d e => ?_, fun i π a b d e h => ?_⟩
  · obtain ⟨e1, e2⟩ := he i b d e
    obtain ⟨a, h1, h2, h3⟩ := T.at_ i b d e1
    refine ⟨a, by rw [ht]; exact h1, e2.trans h2, ?_⟩
    rw [ht]
    exact h3.same (fun π a h => (hS i π a h).2.1) s
  · rw [ht] at h
    exact (hS i π a h).1
  · rw [ht] at h1 h2
    exact T.inj i π j ρ a h1 h2
  · rw [ht] at h
    exact (hS i π a h).2.2 j
  · rw [ht]
    exact T.io i d (he i true d e).1
  · rw [ht] at h
    exact T.new i π a b d (he i b d e).1 h
/-- the slots hold env -/
structure Cfg (K : PySem.W.Frag) (B : Bs) (G : Gh) (env : List Slot) (σ : L2.St) (H : Hp) : Prop where
  len : env.length = σ.length
  sh : ∀ (i : Nat) (d : D), env[i]? = some (.sh d) → ∃ v, σ[i]? = some (some v) ∧ Rp K B.ct (off G.S H) v d
  ow : ∀ (i : Nat) (d : D), env[i]? = some (.ow d) → ∃ a, G.r i = some a ∧ σ[i]? = some (some (.ref a)) ∧ OwnAt K B.ct H (off G.S H) a d
  io : ∀ (i : Nat) (d : D), env[i]? = some (.io d) → ∃ a, G.r i = some a ∧ B.io i = some a ∧ σ[i]? = some (some (.ref a)) ∧ OwnAt K B.ct H (off G.S H) a d
  hid : ∀ (i : Nat) (a : Addr), G.r i = some a → G.S a
  inj : ∀ (i j : Nat) (a : Addr), G.r i = some a → G.r j = some a → i = j
  live : ∀ (a : Addr), G.S a → H a ≠ none
  frs : ∀ (i : Nat) (d : D) (a : Addr), env[i]? = some (.ow d) → G.r i = some a → B.H0 a = none
  dom0 : ∀ (a : Addr), B.H0 a ≠ none → H a ≠ none
  trs : Trees K B G env σ H
section
variable {K : PySem.W.Frag} {B : Bs} {G : Gh} {env : List Slot} {σ : L2.St} {H H' : Hp}
theorem Cfg.same (c : Cfg K B G env σ H) (s : Same H H') : Cfg K B G env σ H' := by
  have keep : ∀ a, G.S a → H' a = H a := fun a h => by
    cases e : H a with
    | none => exact absurd e (c.live a h)
    | some o => exact s _ _ e
  refine ⟨c.len, fun i d e => ?_, fun i d e => ?_, fun i d e => ?_, c.hid, c.inj, fun a h => by rw [keep a h]; exact c.live a h, c.frs, fun a h => same_dom s a (c.dom0 a h), c.trs.keep rfl (fun i π a h => ⟨c.trs.hid i π a h, keep a (c.trs.hid i π a h), fun j => c.trs.far i π j a h⟩) (off_same s) fun i b d e => ⟨e, rfl⟩⟩
  · obtain ⟨v, h1, h2⟩ := c.sh i d e
    exact ⟨v, h1, h2.mono (off_same s)⟩
  · obtain ⟨a, h1, h2, h3⟩ := c.ow i d e
    exact ⟨a, h1, h2, h3.mono (keep a (c.hid i a h1)) (off_same s)⟩
  · obtain ⟨a, h1, h0, h2, h3⟩ := c.io i d e
    exact ⟨a, h1, h0, h2, h3.mono (keep a (c.hid i a h1)) (off_same s)⟩
theorem Cfg.mono (c : Cfg K B G env σ H) (s : Same H H') : Mono G H G H' := Mono.grow c.live s
/-- slot i is forgotten, and what it owned is hidden no more -/
def Gh.free (G : Gh) (i : Nat) (a : Addr) : Gh := ⟨fun c => G.S c ∧ c ≠ a, fun j => if j = i then none else G.r j, G.t⟩
theorem Mono.free {i : Nat} {a : Addr} (h : G.r i = some a) (hid : ∀ i a, G.r i = some a → G.S a) (inj : ∀ i j a, G.r i = some a → G.r j = some a → i = j) : Mono G H (G.free i a) H :=
  ⟨fun c o e => by
    obtain ⟨n, e⟩ := off_inv e
    rw [off_at fun z => n z.1]
    exact e, fun p hp n => ⟨⟨hp, fun z => n.1 i (by rw [z]; exact h)⟩, ⟨fun j z => by
      have z' : (if j = i then none else G.r j) = some p := z
      by_cases e : j = i
      · rw [if_pos e] at z'
        cases z'
      · rw [if_neg e] at z'
        exact n.1 j z', n.2⟩, rfl⟩, fun _ h => h⟩
theorem set_get {env : List Slot} {i j : Nat} {s t : Slot} (h : (env.set i s)[j]? = some t) : (i = j ∧ s = t ∧ i < env.length) ∨ (i ≠ j ∧ env[j]? = some t) := by
  by_cases e : i = j
  · subst e
    have hl : i < env.length := by
      have := (List.getElem?_eq_some_iff.mp h).1
      simpa using this
    rw [List.getElem?_set_self hl] at h
    exact .inl ⟨rfl, Option.some.inj h, hl⟩
  · rw [List.getElem?_set_ne e] at h
    exact .inr ⟨e, h⟩
theorem Cfg.freeze {i : Nat} {d : D} (c : Cfg K B G env σ H) (e : env[i]? = some (.ow d)) : ∃ a, G.r i = some a ∧ σ[i]? = some (some (.ref a)) ∧ Mono G H (G.free i a) H ∧ Cfg K B (G.free i a) (env.set i (.sh d)) σ H ∧ Rp K B.ct (off (G.free i a).S H) (.ref a) d := by
  obtain ⟨a, h1, h2, h3⟩ := c.ow i d e
  have m : Mono G H (G.free i a) H := Mono.free h1 c.hid c.inj
  have hr : Rp K B.ct (off (G.free i a).S H) (.ref a) d := (h3.mono rfl m.same).rp (off_at fun z => z.2 rfl)
  refine ⟨a, h1, h2, m, ⟨by rw [List.length_set]; exact c.len, fun j d' ej => ?_, fun j d' ej => ?_, fun j d' ej => ?_, fun j b z => ?_, fun j k b z1 z2 => ?_, fun b z => c.live b z.1, fun j d' b ej z => ?_, c.dom0, ?_⟩, hr⟩
  · rcases set_get ej with ⟨rfl, z, _⟩ | ⟨_, z⟩
    · cases z
      exact ⟨_, h2, hr⟩
    · obtain ⟨v, g1, g2⟩ := c.sh j d' z
      exact ⟨v, g1, g2.mono m.same⟩
  · rcases set_get ej with ⟨rfl, z, _⟩ | ⟨n, z⟩
    · cases z
    · obtain ⟨b, g1, g2, g3⟩ := c.ow j d' z
      exact ⟨b, by show (if j = i then none else G.r j) = some b; rw [if_neg (Ne.symm n)]; exact g1, g2, g3.mono rfl m.same⟩
  · rcases set_get ej with ⟨rfl, z, _⟩ | ⟨n, z⟩
    · cases z
    · obtain ⟨b, g1, g0, g2, g3⟩ := c.io j d' z
      exact ⟨b, by show (if j = i then none else G.r j) = some b; rw [if_neg (Ne.symm n)]; exact g1, g0, g2, g3.mono rfl m.same⟩
  · have z' : (if j = i then none else G.r j) = some b := z
    by_cases ej : j = i
    · rw [if_pos ej] at z'
      cases z'
    · rw [if_neg ej] at z'
      refine ⟨c.hid j b z', fun eb => ej ?_⟩
      subst eb
      exact c.inj j i b z' h1
  · have z1' : (if j = i then none else G.r j) = some b := z1
    have z2' : (if k = i then none else G.r k) = some b := z2
    by_cases ej : j = i
    · rw [if_pos ej] at z1'
      cases z1'
    · by_cases ek : k = i
      · rw [if_pos ek] at z2'
        cases z2'
      · rw [if_neg ej] at z1'
        rw [if_neg ek] at z2'
        exact c.inj j k b z1' z2'
  · have z' : (if j = i then none else G.r j) = some b := z
    rcases set_get ej with ⟨rfl, q, _⟩ | ⟨n, q⟩
    · cases q
    · rw [if_neg (Ne.symm n)] at z'
      exact c.frs j d' b q z'
  · refine c.trs.keep rfl (fun j π b h => ⟨⟨c.trs.hid j π b h, fun z => c.trs.far j π i b h (by rw [z]; exact h1)⟩, rfl, fun k z => ?_⟩) m.same fun j b d' ej => ?_
    · have z' : (if k = i then none else G.r k) = some b := z
      by_cases ek : k = i
      · rw [if_pos ek] at z'
        cases z'
      · rw [if_neg ek] at z'
        exact c.trs.far j π k b h z'
    · rcases set_get ej with ⟨_, q, _⟩ | ⟨_, q⟩
      · cases q
      · exact ⟨q, rfl⟩
/-- a slot that is no parameter of both ways is given a value -/
theorem Cfg.put {i : Nat} {v : V} {d : D} (c : Cfg K B G env σ H) (r : Rp K B.ct (off G.S H) v d) : Cfg K B G (env.set i (.sh d)) (σ.set i (some v)) H := by
  have ne : ∀ {j : Nat} {x : Option V}, i ≠ j → σ[j]? = some x → (σ.set i (some v))[j]? = some x := fun n h => by rw [List.getElem?_set_ne n]; exact h
  refine ⟨by simp [c.len], fun j d' ej => ?_, fun j d' ej => ?_, fun j d' ej => ?_, c.hid, c.inj, c.live, fun j d' b ej z => ?_, c.dom0, c.trs.keep rfl (fun j π a h => ⟨c.trs.hid j π a h, rfl, fun k => c.trs.far j π k a h⟩) (Same.refl _) fun j b d' ej => ?_⟩
  · rcases set_get ej with ⟨rfl, z, l⟩ | ⟨n, z⟩
    · cases z
      exact ⟨v, List.getElem?_set_self (by rw [← c.len]; exact l), r⟩
    · obtain ⟨w, g1, g2⟩ := c.sh j d' z
      exact ⟨w, ne n g1, g2⟩
  · rcases set_get ej with ⟨rfl, z, _⟩ | ⟨n, z⟩
    · cases z
    · obtain ⟨b, g1, g2, g3⟩ := c.ow j d' z
      exact ⟨b, g1, ne n g2, g3⟩
  · rcases set_get ej with ⟨rfl, z, _⟩ | ⟨n, z⟩
    · cases z
    · obtain ⟨b, g1, g0, g2, g3⟩ := c.io j d' z
      exact ⟨b, g1, g0, ne n g2, g3⟩
  · rcases set_get ej with ⟨rfl, q, _⟩ | ⟨n, q⟩
    · cases q
    · exact c.frs j d' b q z
  · rcases set_get ej with ⟨_, q, _⟩ | ⟨n, q⟩
    · cases q
    · exact ⟨q, List.getElem?_set_ne n⟩
/-- a slot gets a new object of its own -/
def Gh.take (G : Gh) (i : Nat) (p : Addr) : Gh := ⟨fun c => G.S c ∨ c = p, fun j => if j = i then some p else G.r j, G.t⟩
theorem Mono.take {i : Nat} {p : Addr} {o : HO} (hp : H p = none) (live : ∀ a, G.S a → H a ≠ none) : Mono G H (G.take i p) (upd H p o) :=
  ⟨fun c u e => by
    obtain ⟨n, e⟩ := off_inv e
    have ne : c ≠ p := fun z => by
      rw [z, hp] at e
      cases e
    rw [off_at (show ¬ (G.S c ∨ c = p) from fun z => z.elim n ne), upd_ne ne]
    exact e, fun q hq n => by
      have ne : q ≠ p := fun z => live q hq (by rw [z]; exact hp)
      refine ⟨.inl hq, ⟨fun j z => ?_, n.2⟩, by rw [upd_ne ne]⟩
      have z' : (if j = i then some p else G.r j) = some q := z
      by_cases e : j = i
      · rw [if_pos e] at z'
        exact ne (Option.some.inj z').symm
      · rw [if_neg e] at z'
        exact n.1 j z', upd_dom⟩
theorem Cfg.take {i : Nat} {p : Addr} {o : HO} {d : D} (c : Cfg K B G env σ H) (hp : H p = none) (h : OwnAt K B.ct (upd H p o) (off G.S H) p d) : Cfg K B (G.take i p) (env.set i (.ow d)) (σ.set i (some (.ref p))) (upd H p o) := by
  have m : Mono G H (G.take i p) (upd H p o) := Mono.take hp c.live
  have ne : ∀ {j : Nat} {x : Option V}, i ≠ j → σ[j]? = some x → (σ.set i (some (.ref p)))[j]? = some x := fun n h => by rw [List.getElem?_set_ne n]; exact h
  have neS : ∀ {a : Addr}, G.S a → a ≠ p := fun h z => c.live _ h (by rw [z]; exact hp)
  refine ⟨by simp [c.len], fun j d' ej => ?_, fun j d' ej => ?_, fun j d' ej => ?_, fun j b z => ?_, fun j k b z1 z2 => ?_, fun b z => ?_, fun j d' b ej z => ?_, fun b z => upd_dom b (c.dom0 b z), c.trs.keep rfl (fun j π a h => ⟨.inl (c.trs.hid j π a h), upd_ne (neS (c.trs.hid j π a h)), fun k z => ?_⟩) m.same fun j b d' ej => ?_⟩
  · rcases set_get ej with ⟨rfl, z, l⟩ | ⟨n, z⟩
    · cases z
    · obtain ⟨w, g1, g2⟩ := c.sh j d' z
      exact ⟨w, ne n g1, g2.mono m.same⟩
  · rcases set_get ej with ⟨rfl, z, l⟩ | ⟨n, z⟩
    · cases z
      exact ⟨p, if_pos rfl, List.getElem?_set_self (by rw [← c.len]; exact l), h.mono rfl m.same⟩
    · obtain ⟨b, g1, g2, g3⟩ := c.ow j d' z
      exact ⟨b, by show (if j = i then some p else G.r j) = some b; rw [if_neg (Ne.symm n)]; exact g1, ne n g2, g3.mono (upd_ne (neS (c.hid j b g1))) m.same⟩
  · rcases set_get ej with ⟨rfl, z, _⟩ | ⟨n, z⟩
    · cases z
    · obtain ⟨b, g1, g0, g2, g3⟩ := c.io j d' z
      exact ⟨b, by show (if j = i then some p else G.r j) = some b; rw [if_neg (Ne.symm n)]; exact g1, g0, ne n g2, g3.mono (upd_ne (neS (c.hid j b g1))) m.same⟩
  · have z' : (if j = i then some p else G.r j) = some b := z
    by_cases ej : j = i
    · rw [if_pos ej] at z'
      exact .inr (Option.some.inj z').symm
    · rw [if_neg ej] at z'
      exact .inl (c.hid j b z')
  · have z1' : (if j = i then some p else G.r j) = some b := z1
    have z2' : (if k = i then some p else G.r k) = some b := z2
    by_cases ej : j = i
    · by_cases ek : k = i
      · rw [ej, ek]
      · rw [if_pos ej] at z1'
        rw [if_neg ek] at z2'
        exact absurd (Option.some.inj z1').symm (neS (c.hid k b z2'))
    · rw [if_neg ej] at z1'
      by_cases ek : k = i
      · rw [if_pos ek] at z2'
        exact absurd (Option.some.inj z2').symm (neS (c.hid j b z1'))
      · rw [if_neg ek] at z2'
        exact c.inj j k b z1' z2'
  · by_cases e : b = p
    · rw [e, upd_same]
      exact Option.some_ne_none _
    · rw [upd_ne e]
      exact c.live b (z.elim id fun q => absurd q e)
  · have z' : (if j = i then some p else G.r j) = some b := z
    rcases set_get ej with ⟨rfl, q, _⟩ | ⟨n, q⟩
    · rw [if_pos rfl] at z'
      cases z'
      cases e0 : B.H0 p with
      | none => rfl
      | some u => exact absurd hp (c.dom0 p (by rw [e0]; exact Option.some_ne_none _))
    · rw [if_neg (Ne.symm n)] at z'
      exact c.frs j d' b q z'
  · have z' : (if k = i then some p else G.r k) = some a := z
    by_cases ek : k = i
    · rw [if_pos ek] at z'
      exact neS (c.trs.hid j π a h) (Option.some.inj z').symm
    · rw [if_neg ek] at z'
      exact c.trs.far j π k a h z'
  · rcases set_get ej with ⟨_, q, _⟩ | ⟨n, q⟩
    · cases q
    · exact ⟨q, List.getElem?_set_ne n⟩
/-- an owned thing is changed -/
theorem Mono.chg {i : Nat} {a : Addr} {o : HO} (h : G.r i = some a) (hs : G.S a) : Mono G H G (upd H a o) :=
  ⟨fun c u e => by
    obtain ⟨n, e⟩ := off_inv e
    have ne : c ≠ a := fun z => n (by rw [z]; exact hs)
    rw [off_at n, upd_ne ne]
    exact e, fun q hq n => ⟨hq, n, upd_ne fun z => n.1 i (by rw [z]; exact h)⟩, upd_dom⟩
def own (b : Bool) (d : D) : Slot := if b then .io d else .ow d
theorem Cfg.chg {i : Nat} {a : Addr} {o : HO} {b : Bool} {d d' : D} (c : Cfg K B G env σ H) (h : G.r i = some a) (e : env[i]? = some (own b d)) (hn : OwnAt K B.ct (upd H a o) (off G.S H) a d') : Cfg K B G (env.set i (own b d')) σ (upd H a o) := by
  have m : Mono G H G (upd H a o) := Mono.chg h (c.hid i a h)
  have neS : ∀ {j : Nat} {x : Addr}, i ≠ j → G.r j = some x → x ≠ a := fun {j x} n g z => n (c.inj i j a h (by rw [← z]; exact g))
  have hd := (off_same (S := G.S) (Same.refl H))
  refine ⟨by simp [c.len], fun j d1 ej => ?_, fun j d1 ej => ?_, fun j d1 ej => ?_, c.hid, c.inj, fun x hx => ?_, fun j d1 x ej z => ?_, fun x hx => upd_dom x (c.dom0 x hx), c.trs.keep rfl (fun j π x g => ⟨c.trs.hid j π x g, upd_ne fun z => c.trs.far j π i x g (by rw [z]; exact h), fun k => c.trs.far j π k x g⟩) m.same fun j b' d1 ej => ?_⟩
  · rcases set_get ej with ⟨rfl, z, l⟩ | ⟨n, z⟩
    · cases b <;> cases z
    · obtain ⟨w, g1, g2⟩ := c.sh j d1 z
      exact ⟨w, g1, g2.mono m.same⟩
  · rcases set_get ej with ⟨rfl, z, l⟩ | ⟨n, z⟩
    · cases b with
      | true => cases z
      | false =>
        cases z
        obtain ⟨b', g1, g2, g3⟩ := c.ow i d e
        rw [h] at g1
        cases g1
        exact ⟨a, h, g2, hn.mono rfl m.same⟩
    · obtain ⟨b', g1, g2, g3⟩ := c.ow j d1 z
      exact ⟨b', g1, g2, g3.mono (upd_ne (neS n g1)) m.same⟩
  · rcases set_get ej with ⟨rfl, z, l⟩ | ⟨n, z⟩
    · cases b with
      | false => cases z
      | true =>
        cases z
        obtain ⟨b', g1, g0, g2, g3⟩ := c.io i d e
        rw [h] at g1
        cases g1
        exact ⟨a, h, g0, g2, hn.mono rfl m.same⟩
    · obtain ⟨b', g1, g0, g2, g3⟩ := c.io j d1 z
      exact ⟨b', g1, g0, g2, g3.mono (upd_ne (neS n g1)) m.same⟩
  · by_cases ex : x = a
    · rw [ex, upd_same]
      exact Option.some_ne_none _
    · rw [upd_ne ex]
      exact c.live x hx
  · rcases set_get ej with ⟨rfl, q, _⟩ | ⟨n, q⟩
    · cases b with
      | true => cases q
      | false => exact c.frs i d x e z
    · exact c.frs j d1 x q z
  · rcases set_get ej with ⟨_, q, _⟩ | ⟨n, q⟩
    · cases b <;> cases q
    · exact ⟨q, rfl⟩
theorem Cfg.own {i : Nat} {b : Bool} {d : D} (c : Cfg K B G env σ H) (e : env[i]? = some (own b d)) : ∃ a, G.r i = some a ∧ σ[i]? = some (some (.ref a)) ∧ OwnAt K B.ct H (off G.S H) a d := by
  cases b with
  | true =>
    obtain ⟨a, h1, _, h2, h3⟩ := c.io i d e
    exact ⟨a, h1, h2, h3⟩
  | false => exact c.ow i d e
/-- a thing that is hidden, and no slot's -/
def Gh.hide (G : Gh) (a : Addr) : Gh := ⟨fun c => G.S c ∨ c = a, G.r, G.t⟩
/-- slot i owns what was hidden -/
def Gh.own (G : Gh) (i : Nat) (p : Addr) : Gh := ⟨G.S, fun j => if j = i then some p else G.r j, G.t⟩
theorem Mono.own {G1 : Gh} {H1 : Hp} {i : Nat} {p : Addr} (m : Mono G1 H1 G H) (h1 : ¬ G1.S p) : Mono G1 H1 (G.own i p) H :=
  ⟨m.same, fun q hq n => by
    obtain ⟨x1, x2, x3⟩ := m.tmp q hq n
    refine ⟨x1, ⟨fun j z => ?_, x2.2⟩, x3⟩
    have z' : (if j = i then some p else G.r j) = some q := z
    by_cases e : j = i
    · rw [if_pos e] at z'
      cases z'
      exact h1 hq
    · rw [if_neg e] at z'
      exact x2.1 j z', m.dom⟩
theorem Cfg.adopt {i : Nat} {p : Addr} {d : D} (c : Cfg K B G env σ H) (hs : G.S p) (hn : G.un p) (h : OwnAt K B.ct H (off G.S H) p d) (h0 : B.H0 p = none) : Cfg K B (G.own i p) (env.set i (.ow d)) (σ.set i (some (.ref p))) H := by
  have ne : ∀ {j : Nat} {x : Option V}, i ≠ j → σ[j]? = some x → (σ.set i (some (.ref p)))[j]? = some x := fun n h => by rw [List.getElem?_set_ne n]; exact h
  refine ⟨by simp [c.len], fun j d' ej => ?_, fun j d' ej => ?_, fun j d' ej => ?_, fun j b z => ?_, fun j k b z1 z2 => ?_, c.live, fun j d' b ej z => ?_, c.dom0, c.trs.keep rfl (fun j π a g => ⟨c.trs.hid j π a g, rfl, fun k z => ?_⟩) (Same.refl _) fun j b d' ej => ?_⟩
  · rcases set_get ej with ⟨rfl, z, l⟩ | ⟨n, z⟩
    · cases z
    · obtain ⟨w, g1, g2⟩ := c.sh j d' z
      exact ⟨w, ne n g1, g2⟩
  · rcases set_get ej with ⟨rfl, z, l⟩ | ⟨n, z⟩
    · cases z
      exact ⟨p, if_pos rfl, List.getElem?_set_self (by rw [← c.len]; exact l), h⟩
    · obtain ⟨b, g1, g2, g3⟩ := c.ow j d' z
      exact ⟨b, by show (if j = i then some p else G.r j) = some b; rw [if_neg (Ne.symm n)]; exact g1, ne n g2, g3⟩
  · rcases set_get ej with ⟨rfl, z, _⟩ | ⟨n, z⟩
    · cases z
    · obtain ⟨b, g1, g0, g2, g3⟩ := c.io j d' z
      exact ⟨b, by show (if j = i then some p else G.r j) = some b; rw [if_neg (Ne.symm n)]; exact g1, g0, ne n g2, g3⟩
  · have z' : (if j = i then some p else G.r j) = some b := z
    by_cases ej : j = i
    · rw [if_pos ej] at z'
      cases z'
      exact hs
    · rw [if_neg ej] at z'
      exact c.hid j b z'
  · have z1' : (if j = i then some p else G.r j) = some b := z1
    have z2' : (if k = i then some p else G.r k) = some b := z2
    by_cases ej : j = i
    · by_cases ek : k = i
      · rw [ej, ek]
      · rw [if_pos ej] at z1'
        rw [if_neg ek] at z2'
        cases z1'
        exact absurd z2' (hn.1 k)
    · rw [if_neg ej] at z1'
      by_cases ek : k = i
      · rw [if_pos ek] at z2'
        cases z2'
        exact absurd z1' (hn.1 j)
      · rw [if_neg ek] at z2'
        exact c.inj j k b z1' z2'
  · have z' : (if j = i then some p else G.r j) = some b := z
    rcases set_get ej with ⟨rfl, q, _⟩ | ⟨n, q⟩
    · rw [if_pos rfl] at z'
      cases z'
      exact h0
    · rw [if_neg (Ne.symm n)] at z'
      exact c.frs j d' b q z'
  · have z' : (if k = i then some p else G.r k) = some a := z
    by_cases ek : k = i
    · rw [if_pos ek] at z'
      cases z'
      exact hn.2 j π g
    · rw [if_neg ek] at z'
      exact c.trs.far j π k a g z'
  · rcases set_get ej with ⟨_, q, _⟩ | ⟨n, q⟩
    · cases q
    · exact ⟨q, List.getElem?_set_ne n⟩
theorem Cfg.new0 {p : Addr} (c : Cfg K B G env σ H) (hp : H p = none) : B.H0 p = none := by
  cases e0 : B.H0 p with
  | none => rfl
  | some u => exact absurd hp (c.dom0 p (by rw [e0]; exact Option.some_ne_none _))
theorem Cfg.unS {p : Addr} (c : Cfg K B G env σ H) (hp : H p = none) : ¬ G.S p := fun z => c.live p z hp
theorem Cfg.newUn {p : Addr} (c : Cfg K B G env σ H) (hp : H p = none) : G.un p := ⟨fun i z => c.unS hp (c.hid i p z), fun i π z => c.unS hp (c.trs.hid i π p z)⟩
theorem Mono.hide {a : Addr} {o : HO} (hp : H a = none) (live : ∀ c, G.S c → H c ≠ none) : Mono G H (G.hide a) (upd H a o) :=
  ⟨fun c u e => by
    obtain ⟨n, e⟩ := off_inv e
    have ne : c ≠ a := fun z => by
      rw [z, hp] at e
      cases e
    rw [off_at (show ¬ (G.S c ∨ c = a) from fun z => z.elim n ne), upd_ne ne]
    exact e, fun q hq n => ⟨.inl hq, n, upd_ne fun z => live q hq (by rw [z]; exact hp)⟩, upd_dom⟩
theorem Cfg.hide {a : Addr} {o : HO} (c : Cfg K B G env σ H) (hp : H a = none) : Cfg K B (G.hide a) env σ (upd H a o) := by
  have m : Mono G H (G.hide a) (upd H a o) := Mono.hide hp c.live
  have neS : ∀ {x : Addr}, G.S x → x ≠ a := fun h z => c.live _ h (by rw [z]; exact hp)
  refine ⟨c.len, fun j d e => ?_, fun j d e => ?_, fun j d e => ?_, fun i x h => .inl (c.hid i x h), c.inj, fun x h => ?_, c.frs, fun x h => upd_dom x (c.dom0 x h), c.trs.keep rfl (fun j π x g => ⟨.inl (c.trs.hid j π x g), upd_ne (neS (c.trs.hid j π x g)), fun k => c.trs.far j π k x g⟩) m.same fun j b d e => ⟨e, rfl⟩⟩
  · obtain ⟨w, g1, g2⟩ := c.sh j d e
    exact ⟨w, g1, g2.mono m.same⟩
  · obtain ⟨b, g1, g2, g3⟩ := c.ow j d e
    exact ⟨b, g1, g2, g3.mono (upd_ne (neS (c.hid j b g1))) m.same⟩
  · obtain ⟨b, g1, g0, g2, g3⟩ := c.io j d e
    exact ⟨b, g1, g0, g2, g3.mono (upd_ne (neS (c.hid j b g1))) m.same⟩
  · by_cases ex : x = a
    · rw [ex, upd_same]
      exact Option.some_ne_none _
    · rw [upd_ne ex]
      exact c.live x (h.elim id fun q => absurd q ex)
end
end Vl
set_option Elab.async false
set_option linter.all false
set_option maxRecDepth 100000
set_option maxHeartbeats 2000000
namespace Vl
open PySem PySem.Spec PyProof.Rows L2 Sb
/-- what comes of a piece of code -/
inductive Out (α : Type) where
  | stuck | val (a : α) (env : List Slot) | exc (c : Str) (as : List D) (env : List Slot)
def Out.bind {α β : Type} (o : Out α) (k : α → List Slot → Out β) : Out β := match o with
  | .stuck => .stuck
  | .val a e => k a e
  | .exc c as e => .exc c as e
def Out.opt {α : Type} (o : Option α) (e : List Slot) : Out α := match o with
  | some a => .val a e
  | none => .stuck
abbrev Ev (α : Type) := List Slot → Out α
abbrev ZX := Str → List D → List Slot → Gh → L2.St → Hp → Addr → Prop
/-- the own dict of an exception -/
def ExcAt (K : PySem.W.Frag) (ct : Ct) (F : Hp) (dd : Addr) (c : Str) (as : List D) : Prop := ∃ C ns vs, ct c = some (C, ns) ∧ ns.length = vs.length ∧ F dd = some (.xd (ns.zip vs)) ∧ Rps K ct F vs as
def postG {α : Type} (K : PySem.W.Frag) (B : Bs) (Z : ZX) (G : Gh) (σ : L2.St) (H : Hp) (o : Out α) (R : α → List Slot → Gh → Hp → Prop) : Prop := match o with
  | .stuck => False
  | .val a env => ∀ G' H', Mono G H G' H' → Cfg K B G' env σ H' → R a env G' H'
  | .exc c as env => ∀ G' H' dd, Mono G H G' H' → Cfg K B G' env σ H' → ExcAt K B.ct (off G'.S H') dd c as → Z c as env G' σ H' dd
section
variable {K : PySem.W.Frag} {B : Bs} {Z : ZX} {G G1 : Gh} {σ : L2.St} {H H1 : Hp} {α β : Type}
theorem post_bind {o : Out α} {k : α → List Slot → Out β} {R : β → List Slot → Gh → Hp → Prop} (h : postG K B Z G σ H (o.bind k) R) : postG K B Z G σ H o (fun a e G1 H1 => postG K B Z G1 σ H1 (k a e) R) := by
  cases o with
  | stuck => exact h
  | val a e =>
    intro G1 H1 m1 c1
    have h : postG K B Z G σ H (k a e) R := h
    generalize k a e = q at h
    cases q with
    | stuck => exact h
    | val b e2 => exact fun G2 H2 m2 c2 => h G2 H2 (m1.trans m2) c2
    | exc c as e2 => exact fun G2 H2 dd m2 c2 x => h G2 H2 dd (m1.trans m2) c2 x
  | exc c as e => exact h
theorem post_imp {o : Out α} {R R' : α → List Slot → Gh → Hp → Prop} (h : postG K B Z G σ H o R) (k : ∀ a e G1 H1, Mono G H G1 H1 → Cfg K B G1 e σ H1 → R a e G1 H1 → R' a e G1 H1) : postG K B Z G σ H o R' := by
  cases o with
  | stuck => exact h
  | val a e => exact fun G1 H1 m c => k _ _ _ _ m c (h G1 H1 m c)
  | exc c as e => exact h
end
/-- readings of code over data -/
def liftE (K : PySem.W.Frag) (B : Bs) (Z : ZX) (f : Ev D) : TE := fun σ H Q => ∃ G env, Cfg K B G env σ H ∧ postG K B Z G σ H (f env) (fun d _ G' H' => ∀ v, Rp K B.ct (off G'.S H') v d → Q v H')
def liftA (K : PySem.W.Frag) (B : Bs) (Z : ZX) (f : Ev (List D)) : TA := fun σ H Q => ∃ G env, Cfg K B G env σ H ∧ postG K B Z G σ H (f env) (fun d _ G' H' => ∀ v, Rps K B.ct (off G'.S H') v d → Q v H')
def liftT (K : PySem.W.Frag) (B : Bs) (Z : ZX) (f : Ev Bool) : TT := fun σ H Q => ∃ G env, Cfg K B G env σ H ∧ postG K B Z G σ H (f env) (fun b _ G' H' => Q b H')
structure DE (X : Cx) (B : Bs) (Z : ZX) (e : Expr) (f : Ev D) : Prop where
  pe : PE X e (liftE X.K B Z f)
structure DA (X : Cx) (B : Bs) (Z : ZX) (e : List Expr) (f : Ev (List D)) : Prop where
  pa : PA X e (liftA X.K B Z f)
structure DT (X : Cx) (B : Bs) (Z : ZX) (e : Expr) (f : Ev Bool) : Prop where
  pt : PT X e (liftT X.K B Z f)
structure DW (X : Cx) (B : Bs) (Z : ZX) (e : Expr) (f : Ev Bool) : Prop where
  pw : PW X e (liftT X.K B Z f)
section
variable {X : Cx} {e : Expr} {es : List Expr} {oe : Option Expr}
theorem PE.weak {t t' : TE} (h : PE X e t) (k : ∀ σ H Q, t' σ H Q → t σ H Q) : PE X e t' := ⟨fun pins s σ H Q I q => h.run pins s σ H Q I (k σ H Q q)⟩
theorem PT.weak {t t' : TT} (h : PT X e t) (k : ∀ σ H Q, t' σ H Q → t σ H Q) : PT X e t' := ⟨fun pins s σ H Q I q => h.run pins s σ H Q I (k σ H Q q)⟩
theorem PW.weak {t t' : TT} (h : PW X e t) (k : ∀ σ H Q, t' σ H Q → t σ H Q) : PW X e t' := ⟨fun w pins s σ H Q I q => h.run w pins s σ H Q I (k σ H Q q)⟩
theorem PA.weak {t t' : TA} (h : PA X es t) (k : ∀ σ H Q, t' σ H Q → t σ H Q) : PA X es t' := ⟨fun pos pins s σ H Q I q => h.run pos pins s σ H Q I (k σ H Q q)⟩
end
/-- an operation by values is one by data -/
def OpV (K : PySem.W.Frag) (ct : Ct) (r : R2) (o : D → D → Option D) : Prop := ∀ (S : Addr → Prop) (H : Hp) (x y : V) (d e z : D) (Q : VK), (∀ a, S a → H a ≠ none) → Rp K ct (off S H) x d → Rp K ct (off S H) y e → o d e = some z →
  (∀ v H', Same H H' → Rp K ct (off S H') v z → Q v H') → r x y H Q
def CallV (K : PySem.W.Frag) (ct : Ct) (r : List V → Hp → VK → Prop) (o : List D → Option D) : Prop := ∀ (S : Addr → Prop) (H : Hp) (xs : List V) (ds : List D) (z : D) (Q : VK), (∀ a, S a → H a ≠ none) → Rps K ct (off S H) xs ds → o ds = some z →
  (∀ v H', Same H H' → Rp K ct (off S H') v z → Q v H') → r xs H Q
section
variable {K : PySem.W.Frag} {ct : Ct} {S : Addr → Prop} {H : Hp}
theorem new_lst {p : Addr} {vs : List V} {l : List D} (live : ∀ a, S a → H a ≠ none) (hp : H p = none) (r : Rps K ct (off S H) vs l) : Rp K ct (off S (upd H p (.lst vs))) (.ref p) (.lst l) :=
  .lst (by rw [off_at fun z => live p z hp]; exact upd_same) (r.mono (off_same (Sb.Same.upd hp)))
theorem new_tup {p : Addr} {vs : List V} {l : List D} (live : ∀ a, S a → H a ≠ none) (hp : H p = none) (r : Rps K ct (off S H) vs l) : Rp K ct (off S (upd H p (.tup vs))) (.ref p) (.tup l) :=
  .tup (by rw [off_at fun z => live p z hp]; exact upd_same) (r.mono (off_same (Sb.Same.upd hp)))
end
def oI (g : Int → Int → D) : D → D → Option D
  | .int i, .int j => some (g i j)
  | _, _ => none
def oIC (c : Int → Int → Bool) (g : Int → Int → D) : D → D → Option D
  | .int i, .int j => if c i j then some (g i j) else none
  | _, _ => none
section
variable {K : PySem.W.Frag} {ct : Ct} {F : Hp} {v : V}
theorem Rp.intE {i : Int} (h : Rp K ct F v (.int i)) : v = .int i := by cases h; rfl
theorem Rp.blE {i : Bool} (h : Rp K ct F v (.bl i)) : v = .bl i := by cases h; rfl
theorem Rp.strE {i : Str} (h : Rp K ct F v (.str i)) : v = .str i := by cases h; rfl
theorem Rp.nonE (h : Rp K ct F v .non) : v = .non := by cases h; rfl
theorem Rp.lstE {l : List D} (h : Rp K ct F v (.lst l)) : ∃ a vs, v = .ref a ∧ F a = some (.lst vs) ∧ Rps K ct F vs l := by
  cases h with
  | lst h t => exact ⟨_, _, rfl, h, t⟩
theorem Rp.tupE {l : List D} (h : Rp K ct F v (.tup l)) : ∃ a vs, v = .ref a ∧ SqT K F a vs ∧ Rps K ct F vs l := by
  cases h with
  | tup h t => exact ⟨_, _, rfl, SqT.of h, t⟩
theorem Rp.ctupE {l : List D} (h : Rp K ct F v (.ctup l)) : ∃ a vs, v = .ref a ∧ SqT K F a vs ∧ Rps K ct F vs l := by
  cases h with
  | ctup h t => exact ⟨_, _, rfl, h, t⟩
theorem Rp.scrE {ns : List Int} (h : Rp K ct F v (.scr ns)) : ∃ a, v = .ref a ∧ SqL K F a (ns.map V.int) := by
  cases h with
  | scr h => exact ⟨_, rfl, h⟩
theorem Rps.nilE {vs : List V} (h : Rps K ct F vs []) : vs = [] := by cases h; rfl
theorem Rps.consE {vs : List V} {d : D} {l : List D} (h : Rps K ct F vs (d :: l)) : ∃ v ws, vs = v :: ws ∧ Rp K ct F v d ∧ Rps K ct F ws l := by
  cases h with
  | cons h t => exact ⟨_, _, rfl, h, t⟩
end
theorem sqT_le {K : PySem.W.Frag} {S : Addr → Prop} {H : Hp} {a : Addr} {vs : List V} (h : SqT K (off S H) a vs) : SqT K H a vs := sqT_same off_le h
theorem opv_I0 {K : PySem.W.Frag} {ct : Ct} {g' : Int → Int → V} (g : Int → Int → D) (h : ∀ F i j, Rp K ct F (g' i j) (g i j)) : OpV K ct (rI0 g') (oI g) := by
  intro S H x y d e z Q live rx ry ho hq
  unfold oI at ho
  split at ho
  · cases ho
    exact ⟨_, _, rx.intE, ry.intE, hq _ H (Same.refl _) (h _ _ _)⟩
  · cases ho
theorem opv_IC {K : PySem.W.Frag} {ct : Ct} {C : Int → Int → Prop} {g' : Int → Int → V} (c : Int → Int → Bool) (g : Int → Int → D) (hc : ∀ i j, c i j = true → C i j) (h : ∀ F i j, Rp K ct F (g' i j) (g i j)) : OpV K ct (rI C g') (oIC c g) := by
  intro S H x y d e z Q live rx ry ho hq
  unfold oIC at ho
  split at ho
  · split at ho
    · cases ho
      exact ⟨_, _, rx.intE, ry.intE, hc _ _ (by assumption), hq _ H (Same.refl _) (h _ _ _)⟩
    · cases ho
  · cases ho
section
variable {X : Cx} {ct : Ct}
theorem opv_add : OpV X.K ct (rI0 fun i j => .int (i + j)) (oI fun i j => .int (i + j)) := opv_I0 _ fun _ _ _ => .int _
def cMul (i j : Int) : Bool := decide (i.natAbs < 2 ^ 60) || decide (j.natAbs < 2 ^ 60)
theorem opv_mul : OpV X.K ct (rI CMul fun i j => .int (i * j)) (oIC cMul fun i j => .int (i * j)) := opv_IC _ _ (fun i j h => by
  have h' : i.natAbs < 2 ^ 60 ∨ j.natAbs < 2 ^ 60 := by
    unfold cMul at h
    rw [Bool.or_eq_true] at h
    exact h.imp of_decide_eq_true of_decide_eq_true
  have e : (2 : Nat) ^ 60 = 1152921504606846976 := by decide
  rw [e] at h'
  rcases h' with h' | h'
  · exact .inl ⟨by omega, by omega⟩
  · exact .inr ⟨by omega, by omega⟩) fun _ _ _ => .int _
theorem opv_mod : OpV X.K ct (rI (fun _ j => 0 < j) fun i j => .int (i % j)) (oIC (fun _ j => decide (0 < j)) fun i j => .int (i % j)) := opv_IC _ _ (fun i j h => of_decide_eq_true h) fun _ _ _ => .int _
theorem opv_fdiv : OpV X.K ct (rI CDiv fun i j => .int (i / j)) (oIC (fun _ j => decide (0 < j) && decide (j < 1073741824)) fun i j => .int (i / j)) := opv_IC _ _ (fun i j h => by
  rw [Bool.and_eq_true] at h
  exact ⟨of_decide_eq_true h.1, of_decide_eq_true h.2⟩) fun _ _ _ => .int _
theorem opv_lt : OpV X.K ct (rI0 fun i j => .bl (decide (i < j))) (oI fun i j => .bl (decide (i < j))) := opv_I0 _ fun _ _ _ => .bl _
theorem opv_gt : OpV X.K ct (rI0 fun i j => .bl (decide (j < i))) (oI fun i j => .bl (decide (j < i))) := opv_I0 _ fun _ _ _ => .bl _
theorem opv_ge : OpV X.K ct (rI0 fun i j => .bl (decide (j ≤ i))) (oI fun i j => .bl (decide (j ≤ i))) := opv_I0 _ fun _ _ _ => .bl _
/-- lists added -/
def oCat : D → D → Option D
  | .lst l, .lst m => if l.length + m.length ≤ sizeLine then some (.lst (l ++ m)) else none
  | _, _ => none
theorem opv_cat : OpV X.K ct rCat oCat := by
  intro S H x y d e z Q live rx ry ho hq
  unfold oCat at ho
  split at ho
  · rename_i l m
    split at ho
    · rename_i c
      cases ho
      obtain ⟨a, vs, rfl, h1, t1⟩ := rx.lstE
      obtain ⟨b, ws, rfl, h2, t2⟩ := ry.lstE
      exact ⟨_, _, _, _, rfl, rfl, off_le _ _ h1, off_le _ _ h2, by rw [t1.len, t2.len]; exact c, fun p hp => hq _ _ (Sb.Same.upd hp) (new_lst live hp (t1.app t2))⟩
    · cases ho
  · cases ho
/-- a list repeated -/
def oRep : D → D → Option D
  | .lst l, .int k => if k < 2 ^ 20 ∧ -(2 ^ 20) < k ∧ l.length * k.toNat ≤ sizeLine then some (.lst (List.replicate k.toNat l).flatten) else none
  | _, _ => none
theorem Rps.rep {F : Hp} {K : PySem.W.Frag} {vs : List V} {l : List D} (h : Rps K ct F vs l) : ∀ n : Nat, Rps K ct F (List.replicate n vs).flatten (List.replicate n l).flatten
  | 0 => .nil
  | n + 1 => by
    rw [List.replicate_succ, List.replicate_succ, List.flatten_cons, List.flatten_cons]
    exact h.app (Rps.rep h n)
theorem opv_rep : OpV X.K ct rRep oRep := by
  intro S H x y d e z Q live rx ry ho hq
  unfold oRep at ho
  split at ho
  · rename_i l k
    split at ho
    · rename_i c
      cases ho
      obtain ⟨a, vs, rfl, h1, t1⟩ := rx.lstE
      have e : (2 : Int) ^ 20 = 1048576 := by decide
      have e3 : (2 : Int) ^ 63 = 9223372036854775808 := by decide
      obtain ⟨c1, c2, c3⟩ := c
      rw [e] at c1 c2
      exact ⟨_, _, _, rfl, ry.intE, off_le _ _ h1, by omega, by omega, by rw [t1.len]; exact c3, fun p hp => hq _ _ (Sb.Same.upd hp) (new_lst live hp (t1.rep _))⟩
    · cases ho
  · cases ho
/-- data that can be compared -/
def D.eok (d : D) : Bool := d.plain && SeqAt.shaped d.py
def oEq (neg : Bool) (d e : D) : Option D := if d.eok && e.eok then some (.bl (if neg then !PyData.eqv d.py e.py else PyData.eqv d.py e.py)) else none
theorem opv_neD : OpV X.K ct (rNeD X.K) (oEq true) := by
  intro S H x y d e z Q live rx ry ho hq
  unfold oEq at ho
  split at ho
  · rename_i c
    cases ho
    simp only [D.eok, Bool.and_eq_true] at c
    exact ⟨_, _, (rx.mono off_le).dp c.1.1, (ry.mono off_le).dp c.2.1, c.1.2, c.2.2, hq _ H (Same.refl _) (.bl _)⟩
  · cases ho
/-- plain things compared: ints, texts, truths, None -/
def oEqS (neg : Bool) : D → D → Option D
  | .int i, .int j => some (.bl (if neg then !decide (i = j) else decide (i = j)))
  | .str i, .str j => some (.bl (if neg then !decide (i = j) else decide (i = j)))
  | .bl i, .bl j => some (.bl (if neg then !decide (i = j) else decide (i = j)))
  | .non, .non => some (.bl (if neg then false else true))
  | .int _, .str _ => some (.bl neg)
  | .str _, .int _ => some (.bl neg)
  | .non, .int _ => some (.bl neg)
  | .int _, .non => some (.bl neg)
  | .non, .str _ => some (.bl neg)
  | .str _, .non => some (.bl neg)
  | _, _ => none
theorem dec_int {i j : Int} : decide (V.int i = V.int j) = decide (i = j) := by simp
theorem dec_str {i j : Str} : decide (V.str i = V.str j) = decide (i = j) := by simp
theorem dec_bl {i j : Bool} : decide (V.bl i = V.bl j) = decide (i = j) := by simp
theorem opv_eqS : OpV X.K ct rEq (oEqS false) := by
  intro S H x y d e z Q live rx ry ho hq
  unfold oEqS at ho
  split at ho <;> (first | cases ho)
  · rw [rx.intE, ry.intE]
    exact ⟨rfl, by rw [dec_int]; exact hq _ H (Same.refl _) (.bl _)⟩
  · rw [rx.strE, ry.strE]
    exact ⟨rfl, by rw [dec_str]; exact hq _ H (Same.refl _) (.bl _)⟩
  · rw [rx.blE, ry.blE]
    exact ⟨rfl, by rw [dec_bl]; exact hq _ H (Same.refl _) (.bl _)⟩
  · rw [rx.nonE, ry.nonE]
    exact ⟨rfl, hq _ H (Same.refl _) (.bl _)⟩
  · rw [rx.intE, ry.strE]
    exact ⟨rfl, hq _ H (Same.refl _) (.bl _)⟩
  · rw [rx.strE, ry.intE]
    exact ⟨rfl, hq _ H (Same.refl _) (.bl _)⟩
  · rw [rx.nonE, ry.intE]
    exact ⟨rfl, hq _ H (Same.refl _) (.bl _)⟩
  · rw [rx.intE, ry.nonE]
    exact ⟨rfl, hq _ H (Same.refl _) (.bl _)⟩
  · rw [rx.nonE, ry.strE]
    exact ⟨rfl, hq _ H (Same.refl _) (.bl _)⟩
  · rw [rx.strE, ry.nonE]
    exact ⟨rfl, hq _ H (Same.refl _) (.bl _)⟩
theorem opv_neS : OpV X.K ct rNe (oEqS true) := by
  intro S H x y d e z Q live rx ry ho hq
  unfold oEqS at ho
  split at ho <;> (first | cases ho)
  · rw [rx.intE, ry.intE]
    exact ⟨rfl, by rw [dec_int]; exact hq _ H (Same.refl _) (.bl _)⟩
  · rw [rx.strE, ry.strE]
    exact ⟨rfl, by rw [dec_str]; exact hq _ H (Same.refl _) (.bl _)⟩
  · rw [rx.blE, ry.blE]
    exact ⟨rfl, by rw [dec_bl]; exact hq _ H (Same.refl _) (.bl _)⟩
  · rw [rx.nonE, ry.nonE]
    exact ⟨rfl, hq _ H (Same.refl _) (.bl _)⟩
  · rw [rx.intE, ry.strE]
    exact ⟨rfl, hq _ H (Same.refl _) (.bl _)⟩
  · rw [rx.strE, ry.intE]
    exact ⟨rfl, hq _ H (Same.refl _) (.bl _)⟩
  · rw [rx.nonE, ry.intE]
    exact ⟨rfl, hq _ H (Same.refl _) (.bl _)⟩
  · rw [rx.intE, ry.nonE]
    exact ⟨rfl, hq _ H (Same.refl _) (.bl _)⟩
  · rw [rx.nonE, ry.strE]
    exact ⟨rfl, hq _ H (Same.refl _) (.bl _)⟩
  · rw [rx.strE, ry.nonE]
    exact ⟨rfl, hq _ H (Same.refl _) (.bl _)⟩
/-- None asked -/
def D.isNon : D → Bool
  | .non => true
  | _ => false
def oIsN (neg : Bool) (d e : D) : Option D := if e.isNon then some (.bl (if neg then !d.isNon else d.isNon)) else none
/-- an item -/
def oIx : D → D → Option D
  | .lst l, .int i => atI l i
  | .tup l, .int i => atI l i
  | .ctup l, .int i => atI l i
  | .str s, .int i => if s.length ≤ sizeLine then (atI s.cps.toList i).map fun c => .str ⟨#[c]⟩ else none
  | .scr ns, .int i => (atI ns i).map D.int
  | _, _ => none
theorem at_map {α β : Type} {f : α → β} {l : List α} {i : Int} {x : α} (h : atI l i = some x) : atI (l.map f) i = some (f x) := by
  unfold atI at h ⊢
  rw [List.length_map]
  cases e : ixN l.length i with
  | none =>
    rw [e] at h
    cases h
  | some j =>
    rw [e] at h
    have h : l[j]? = some x := h
    show (l.map f)[j]? = some (f x)
    rw [List.getElem?_map, h]
    rfl
theorem Rps.at {K : PySem.W.Frag} {F : Hp} {vs : List V} {l : List D} {i : Int} {d : D} (h : Rps K ct F vs l) (e : atI l i = some d) : ∃ v, atI vs i = some v ∧ Rp K ct F v d := by
  unfold atI at e ⊢
  rw [h.len]
  cases q : ixN l.length i with
  | none =>
    rw [q] at e
    cases e
  | some j =>
    rw [q] at e
    exact h.get' e
theorem opv_ix : OpV X.K ct (rIx X.K) oIx := by
  intro S H x y d e z Q live rx ry ho hq
  unfold oIx at ho
  split at ho
  · obtain ⟨a, vs, rfl, h1, t1⟩ := rx.lstE
    obtain ⟨v, e1, r1⟩ := t1.at ho
    exact .inl ⟨_, _, _, _, rfl, ry.intE, SqL.of (off_le _ _ h1), e1, hq _ H (Same.refl _) r1⟩
  · obtain ⟨a, vs, rfl, h1, t1⟩ := rx.tupE
    obtain ⟨v, e1, r1⟩ := t1.at ho
    exact .inr (.inl ⟨_, _, _, _, rfl, ry.intE, sqT_le h1, e1, hq _ H (Same.refl _) r1⟩)
  · obtain ⟨a, vs, rfl, h1, t1⟩ := rx.ctupE
    obtain ⟨v, e1, r1⟩ := t1.at ho
    exact .inr (.inl ⟨_, _, _, _, rfl, ry.intE, sqT_le h1, e1, hq _ H (Same.refl _) r1⟩)
  · rename_i s i
    split at ho
    · cases q : atI s.cps.toList i with
      | none =>
        rw [q] at ho
        cases ho
      | some c =>
        rw [q] at ho
        cases ho
        exact .inr (.inr ⟨_, _, _, rx.strE, ry.intE, by assumption, q, hq _ H (Same.refl _) (.str _)⟩)
    · cases ho
  · rename_i ns i
    cases q : atI ns i with
    | none =>
      rw [q] at ho
      cases ho
    | some n =>
      rw [q] at ho
      cases ho
      obtain ⟨a, rfl, h1⟩ := rx.scrE
      exact .inl ⟨_, _, _, _, rfl, ry.intE, off_le.seq h1, at_map q, hq _ H (Same.refl _) (.int _)⟩
  · cases ho
/-- x in y -/
def oIn (neg : Bool) (d : D) : D → Option D
  | .lst l => if d.eok && (D.lst l).eok then some (.bl (if neg then !(l.any fun z => PyData.eqv z.py d.py) else l.any fun z => PyData.eqv z.py d.py)) else none
  | _ => none
theorem opv_pow : OpV X.K ct (rI (fun i j => 0 ≤ j ∧ (Builtin.Int.intBits i : Int) * j ≤ 2 ^ 27) fun i j => .int (i ^ j.toNat)) (oIC (fun i j => decide (0 ≤ j) && decide ((Builtin.Int.intBits i : Int) * j ≤ 2 ^ 27)) fun i j => .int (i ^ j.toNat)) := opv_IC _ _ (fun i j h => by
  rw [Bool.and_eq_true] at h
  exact ⟨of_decide_eq_true h.1, of_decide_eq_true h.2⟩) fun _ _ _ => .int _
end
end Vl
set_option Elab.async false
set_option linter.all false
set_option maxRecDepth 100000
set_option maxHeartbeats 2000000
namespace Vl
open PySem PySem.Spec PyProof.Rows L2 Sb
section
variable {X : Cx} {B : Bs} {Z : ZX} {a b c e : Expr} {es : List Expr} {pos : Pos} {f g h : Ev D} {fs : Ev (List D)} {ft gt : Ev Bool}
def fVar (i : Nat) : Ev D := fun env => match env[i]? with
  | some (.sh d) => .val d env
  | some (.ow d) => .val d (env.set i (.sh d))
  | _ => .stuck
theorem de_var {x : Str} {i : Nat} (hN : X.N[i]? = some x) (hv : Vis X.env.scope x) (hd : (x == ("__debug__" : Str)) = false := by decide) (hcd : (x == ("__classdict__" : Str)) = false := by decide) : DE X B Z (.Name x pos) (fVar i) := by
  refine ⟨PE.weak (pe_var hN hv hd hcd) fun σ H Q ⟨G, env, c, p⟩ => ?_⟩
  unfold fVar at p
  split at p
  · rename_i d hd
    obtain ⟨v, h1, h2⟩ := c.sh i d hd
    exact ⟨v, h1, p G H Mono.refl c v h2⟩
  · rename_i d hd
    obtain ⟨a, h1, h2, m, c', r⟩ := c.freeze hd
    exact ⟨_, h2, p _ H m c' _ r⟩
  · exact p.elim
def fC (d : D) : Ev D := fun env => .val d env
theorem de_const {v : V} {d : D} (h : PE X e (tC v)) (r : ∀ F, Rp X.K B.ct F v d) : DE X B Z e (fC d) :=
  ⟨PE.weak h fun σ H Q ⟨G, env, c, p⟩ => p G H Mono.refl c v (r _)⟩
theorem de_int {i j pos} : DE X B Z (.Constant (.int i) j pos) (fC (.int i)) := de_const pe_int fun _ => .int _
theorem de_bl {b j pos} : DE X B Z (.Constant (.bool b) j pos) (fC (.bl b)) := de_const pe_bl fun _ => .bl _
theorem de_non {j pos} : DE X B Z (.Constant .none j pos) (fC .non) := de_const pe_non fun _ => .non
theorem de_str {x j pos} : DE X B Z (.Constant (.str x) j pos) (fC (.str x)) := de_const pe_str fun _ => .str _
def fOp (o : D → D → Option D) (f g : Ev D) : Ev D := fun env => (f env).bind fun d e1 => (g e1).bind fun e e2 => Out.opt (o d e) e2
theorem lift_op {r : R2} {o : D → D → Option D} (ov : OpV X.K B.ct r o) (σ : L2.St) (H : Hp) (Q : VK) (hq : liftE X.K B Z (fOp o f g) σ H Q) : tOp r (liftE X.K B Z f) (liftE X.K B Z g) σ H Q := by
  obtain ⟨G, env, c, p⟩ := hq
  refine ⟨G, env, c, post_imp (post_bind p) fun d e1 G1 H1 m1 c1 p1 v rv => ⟨G1, e1, c1, post_imp (post_bind p1) fun d2 e2 G2 H2 m2 c2 p2 w rw' => ?_⟩⟩
  cases ho : o d d2 with
  | none =>
    rw [ho] at p2
    exact p2.elim
  | some z =>
    rw [ho] at p2
    exact ov G2.S H2 v w d d2 z Q c2.live (rv.mono m2.same) rw' ho fun u H' s' ru => p2 G2 H' (c2.mono s') (c2.same s') u ru
theorem de_op {op : Operator} {r : R2} {o : D → D → Option D} (ho : OpR X (binaryOp op) r) (ov : OpV X.K B.ct r o) (ha : DE X B Z a f) (hb : DE X B Z b g) : DE X B Z (.BinOp a op b pos) (fOp o f g) :=
  ⟨PE.weak (pe_op ho ha.pe hb.pe) (lift_op ov)⟩
theorem de_cmp {op : CmpOp} {r : R2} {o : D → D → Option D} (ho : OpR X (compareOp op) r) (ov : OpV X.K B.ct r o) (ha : DE X B Z a f) (hb : DE X B Z b g) (hm : behindInMarks op b = false) : DE X B Z (.Compare a [op] [b] pos) (fOp o f g) :=
  ⟨PE.weak (pe_cmpR ho ha.pe hb.pe hm) (lift_op ov)⟩
theorem de_ix (ov : OpV X.K B.ct (rIx X.K) oIx) (ha : DE X B Z a f) (hb : DE X B Z b g) (hs : PlainIx b) : DE X B Z (.Subscript a b pos) (fOp oIx f g) :=
  ⟨PE.weak (pe_ix ix_seq ha.pe hb.pe hs) (lift_op ov)⟩
/-- x[e], x an owned thing that stays so -/
def fIxO (i : Nat) (g : Ev D) : Ev D := fun env => match env[i]? with
  | some (.ow (.lst l)) => (g env).bind fun e e2 => match e2[i]? with
    | some (.ow (.lst m)) => Out.opt (oIx (.lst m) e) e2
    | _ => .stuck
  | some (.io (.lst l)) => (g env).bind fun e e2 => match e2[i]? with
    | some (.io (.lst m)) => Out.opt (oIx (.lst m) e) e2
    | _ => .stuck
  | _ => .stuck
theorem ix_own {b : Bool} {i : Nat} {m : List D} {env : List Slot} {G : Gh} {σ : L2.St} {H : Hp} {w : V} {d z : D} {Q : VK} (c : Cfg X.K B G env σ H) (he : env[i]? = some (own b (.lst m))) (rw' : Rp X.K B.ct (off G.S H) w d) (ho : oIx (.lst m) d = some z)
    (q : ∀ v, Rp X.K B.ct (off G.S H) v z → Q v H) : ∃ a, σ[i]? = some (some (.ref a)) ∧ rIx X.K (.ref a) w H Q := by
  obtain ⟨a, h1, h2, vs, h3, h4⟩ := c.own he
  cases d with
  | int k =>
    obtain ⟨v, e1, r1⟩ := h4.at ho
    exact ⟨a, h2, .inl ⟨_, _, _, _, rfl, rw'.intE, SqL.of h3, e1, q v r1⟩⟩
  | _ => cases ho
theorem de_ixO {x : Str} {i : Nat} {apos : Pos} (hN : X.N[i]? = some x) (hv : Vis X.env.scope x) (hb : DE X B Z b g) (hs : PlainIx b) (hd : (x == ("__debug__" : Str)) = false := by decide) (hcd : (x == ("__classdict__" : Str)) = false := by decide) :
    DE X B Z (.Subscript (.Name x apos) b pos) (fIxO i g) := by
  refine ⟨PE.weak (pe_ix ix_seq (pe_var hN hv hd hcd) hb.pe hs) fun σ H Q ⟨G, env, c, p⟩ => ?_⟩
  have key : ∀ {e2 : List Slot} {G2 : Gh} {H2 : Hp} {b : Bool} {m : List D} {d : D} {w : V} (a : Addr), σ[i]? = some (some (.ref a)) → Cfg X.K B G2 e2 σ H2 → e2[i]? = some (own b (.lst m)) → Rp X.K B.ct (off G2.S H2) w d →
      postG X.K B Z G2 σ H2 (Out.opt (oIx (.lst m) d) e2) (fun d _ G' H' => ∀ v, Rp X.K B.ct (off G'.S H') v d → Q v H') → rIx X.K (.ref a) w H2 Q := by
    intro e2 G2 H2 b m d w a ha c2 he rw' p2
    cases ho : oIx (.lst m) d with
    | none =>
      rw [ho] at p2
      exact p2.elim
    | some z =>
      rw [ho] at p2
      obtain ⟨a', h2, h3⟩ := ix_own c2 he rw' ho fun v rv => p2 G2 H2 Mono.refl c2 v rv
      rw [ha] at h2
      cases h2
      exact h3
  unfold fIxO at p
  split at p
  · rename_i l hl
    obtain ⟨a, h1, h2, _⟩ := c.own (b := false) hl
    refine ⟨_, h2, G, env, c, post_imp (post_bind p) fun d e2 G2 H2 m2 c2 p2 w rw' => ?_⟩
    split at p2
    · exact key (b := false) a h2 c2 (by assumption) rw' p2
    · exact p2.elim
  · rename_i l hl
    obtain ⟨a, h1, h2, _⟩ := c.own (b := true) hl
    refine ⟨_, h2, G, env, c, post_imp (post_bind p) fun d e2 G2 H2 m2 c2 p2 w rw' => ?_⟩
    split at p2
    · exact key (b := true) a h2 c2 (by assumption) rw' p2
    · exact p2.elim
  · exact p.elim
def fNil : Ev (List D) := fun env => .val [] env
def fCons (f : Ev D) (fs : Ev (List D)) : Ev (List D) := fun env => (f env).bind fun d e1 => (fs e1).bind fun l e2 => .val (d :: l) e2
theorem da_nil : DA X B Z [] fNil := ⟨PA.weak pa_nil fun σ H Q ⟨G, env, c, p⟩ => p G H Mono.refl c [] .nil⟩
theorem da_cons (ha : DE X B Z e f) (hr : DA X B Z es fs) (hs : starEach (e :: es) X.env = (false, eval e X.env) :: starEach es X.env := by rfl) : DA X B Z (e :: es) (fCons f fs) :=
  ⟨PA.weak (pa_cons ha.pe hr.pa hs) fun σ H Q ⟨G, env, c, p⟩ =>
    ⟨G, env, c, post_imp (post_bind p) fun d e1 G1 H1 m1 c1 p1 v rv => ⟨G1, e1, c1, post_imp (post_bind p1) fun l e2 G2 H2 m2 c2 p2 vs rvs => p2 G2 H2 Mono.refl c2 (v :: vs) (.cons (rv.mono m2.same) rvs)⟩⟩⟩
def fTup (fs : Ev (List D)) : Ev D := fun env => (fs env).bind fun l e => if l.length ≤ 1000 then .val (.tup l) e else .stuck
theorem small_line {n : Nat} (h : n ≤ 1000) : n ≤ sizeLine := Nat.le_trans h (by decide)
theorem de_tup {k} (h : DA X B Z es fs) : DE X B Z (.Tuple es k pos) (fTup fs) :=
  ⟨PE.weak (pe_tup h.pa) fun σ H Q ⟨G, env, c, p⟩ => ⟨G, env, c, post_imp (post_bind p) fun l e1 G1 H1 m1 c1 p1 vs rvs => by
    by_cases hl : l.length ≤ 1000
    · rw [if_pos hl] at p1
      exact ⟨by rw [rvs.len]; exact small_line hl, fun q hq => p1 G1 _ (c1.mono (Sb.Same.upd hq)) (c1.same (Sb.Same.upd hq)) _ (new_tup c1.live hq rvs)⟩
    · rw [if_neg hl] at p1
      exact p1.elim⟩⟩
def fLst (fs : Ev (List D)) : Ev D := fun env => (fs env).bind fun l e => if l.length ≤ 1000 then .val (.lst l) e else .stuck
theorem de_lst (h : DA X B Z es fs) : DE X B Z (.List es pos) (fLst fs) :=
  ⟨PE.weak (pe_lst h.pa) fun σ H Q ⟨G, env, c, p⟩ => ⟨G, env, c, post_imp (post_bind p) fun l e1 G1 H1 m1 c1 p1 vs rvs => by
    by_cases hl : l.length ≤ 1000
    · rw [if_pos hl] at p1
      exact ⟨by rw [rvs.len]; exact small_line hl, fun q hq => p1 G1 _ (c1.mono (Sb.Same.upd hq)) (c1.same (Sb.Same.upd hq)) _ (new_lst c1.live hq rvs)⟩
    · rw [if_neg hl] at p1
      exact p1.elim⟩⟩
def fCB (o : List D → Option D) (fs : Ev (List D)) : Ev D := fun env => (fs env).bind fun l e => Out.opt (o l) e
theorem lift_cb {r : List V → Hp → VK → Prop} {o : List D → Option D} (ov : CallV X.K B.ct r o) (σ : L2.St) (H : Hp) (Q : VK) (hq : liftE X.K B Z (fCB o fs) σ H Q) : tCB r (liftA X.K B Z fs) σ H Q := by
  obtain ⟨G, env, c, p⟩ := hq
  refine ⟨G, env, c, post_imp (post_bind p) fun l e1 G1 H1 m1 c1 p1 vs rvs => ?_⟩
  cases ho : o l with
  | none =>
    rw [ho] at p1
    exact p1.elim
  | some z =>
    rw [ho] at p1
    exact ov G1.S H1 vs l z Q c1.live rvs ho fun u H' s' ru => p1 G1 H' (c1.mono s') (c1.same s') u ru
theorem de_callB {id : String} {x : Str} {px : Pos} {r : List V → Hp → VK → Prop} {o : List D → Option D} (hc : CallR X (.builtin id) r) (ov : CallV X.K B.ct r o) (hg : Gl X x) (hm : X.mg x = none) (hv : bootBuiltins x = some (.builtin id)) (ha : DA X B Z (e :: es) fs)
    (hn : x ≠ "__name__" := by decide) (hdb : (x == ("__debug__" : Str)) = false := by decide) (he : starEach (e :: es) X.env = (false, eval e X.env) :: starEach es X.env := by rfl) (hpl : (backTo pos (starEach es X.env)).any (·.1) = false := by rfl) :
    DE X B Z (.Call (.Name x px) (e :: es) [] pos) (fCB o fs) := ⟨PE.weak (pe_callB hc hg hm hv ha.pa hn hdb he hpl) (lift_cb ov)⟩
theorem de_callTy {T : String} {x : Str} {px : Pos} {r : List V → Hp → VK → Prop} {o : List D → Option D} (hc : CallR X (.type T) r) (ov : CallV X.K B.ct r o) (hg : Gl X x) (hm : X.mg x = none) (hv : bootBuiltins x = some (.type T)) (ha : DA X B Z (e :: es) fs)
    (hn : x ≠ "__name__" := by decide) (hdb : (x == ("__debug__" : Str)) = false := by decide) (he : starEach (e :: es) X.env = (false, eval e X.env) :: starEach es X.env := by rfl) (hpl : (backTo pos (starEach es X.env)).any (·.1) = false := by rfl) :
    DE X B Z (.Call (.Name x px) (e :: es) [] pos) (fCB o fs) := ⟨PE.weak (pe_callTy hc hg hm hv ha.pa hn hdb he hpl) (lift_cb ov)⟩
def fB (f : Ev D) : Ev Bool := fun env => (f env).bind fun d e => match d with
  | .bl b => .val b e
  | _ => .stuck
theorem dt_val (h : DE X B Z e f) (he : ∀ whole, isTrue e X.env whole = (do let v ← whole; standAt e.pos; holding [v] (truthy v)) := by intro _; rfl) : DT X B Z e (fB f) :=
  ⟨PT.weak (pt_val h.pe he) fun σ H Q ⟨G, env, c, p⟩ => ⟨G, env, c, post_imp (post_bind p) fun d e1 G1 H1 m1 c1 p1 v rv => by
    cases d with
    | bl k => exact ⟨k, rv.blE, p1 G1 H1 Mono.refl c1⟩
    | _ => exact p1.elim⟩⟩
theorem dt_cmp {op : CmpOp} {r : R2} {o : D → D → Option D} (ho : OpR X (compareOp op) r) (ov : OpV X.K B.ct r o) (ha : DE X B Z a f) (hb : DE X B Z b g) (hm : behindInMarks op b = false) : DT X B Z (.Compare a [op] [b] pos) (fB (fOp o f g)) :=
  ⟨PT.weak (pt_cmpR ho ha.pe hb.pe hm) fun σ H Q ⟨G, env, c, p⟩ => lift_op ov σ H _ ⟨G, env, c, post_imp (post_bind p) fun d e1 G1 H1 m1 c1 p1 v rv => by
    cases d with
    | bl k => exact ⟨k, rv.blE, p1 G1 H1 Mono.refl c1⟩
    | _ => exact p1.elim⟩⟩
/-- a value's truth -/
def D.tru : D → Option Bool
  | .non => some false
  | .bl b => some b
  | .int i => some (i != 0)
  | .str s => if s.length ≤ sizeLine then some ((s.length : Int) != 0) else none
  | .lst l => some (!l.isEmpty)
  | .tup l => some (!l.isEmpty)
  | .ctup l => some (!l.isEmpty)
  | .dk ks l => some (!l.isEmpty)
  | _ => none
def fTru (f : Ev D) : Ev Bool := fun env => (f env).bind fun d e => Out.opt d.tru e
def fNotT (f : Ev Bool) : Ev Bool := fun env => (f env).bind fun b e => .val (!b) e
def fAndT (f g : Ev Bool) : Ev Bool := fun env => (f env).bind fun b e => if b = true then g e else .val false e
def fOrT (f g : Ev Bool) : Ev Bool := fun env => (f env).bind fun b e => if b = true then .val true e else g e
theorem dw_or1 (h : DT X B Z a ft) : DW X B Z (.BoolOp .Or [a] pos) ft := ⟨pw_or1 h.pt⟩
theorem dw_or (ha : DT X B Z a ft) (hb : DW X B Z (.BoolOp .Or (b :: es) pos) gt) : DW X B Z (.BoolOp .Or (a :: b :: es) pos) (fOrT ft gt) :=
  ⟨PW.weak (pw_or ha.pt hb.pw) fun σ H Q ⟨G, env, c, p⟩ => ⟨G, env, c, post_imp (post_bind p) fun k e1 G1 H1 m1 c1 p1 => by
    cases k with
    | true => exact iteT (p1 G1 H1 Mono.refl c1)
    | false => exact iteF ⟨G1, e1, c1, p1⟩⟩⟩
theorem DW.dt (h : DW X B Z e ft) : DT X B Z e ft := ⟨h.pw.pt⟩
def fNot (f : Ev D) : Ev D := fun env => (f env).bind fun d e => match d with
  | .bl b => .val (.bl (!b)) e
  | _ => .stuck
def fAnd (f g : Ev D) : Ev D := fun env => (f env).bind fun d e => match d with
  | .bl true => g e
  | .bl false => .val (.bl false) e
  | _ => .stuck
def fOr (f g : Ev D) : Ev D := fun env => (f env).bind fun d e => match d with
  | .bl true => .val (.bl true) e
  | .bl false => g e
  | _ => .stuck
def fIte {α : Type} (t : Ev Bool) (f g : Ev α) : Ev α := fun env => (t env).bind fun b e => if b = true then f e else g e
theorem de_ite (ht : DT X B Z c ft) (ha : DE X B Z a f) (hb : DE X B Z b g) : DE X B Z (.IfExp c a b pos) (fIte ft f g) :=
  ⟨PE.weak (pe_ifExp ht.pt ha.pe hb.pe) fun σ H Q ⟨G, env, c, p⟩ => ⟨G, env, c, post_imp (post_bind p) fun k e1 G1 H1 m1 c1 p1 => by
    cases k with
    | true => exact iteT ⟨G1, e1, c1, p1⟩
    | false => exact iteF ⟨G1, e1, c1, p1⟩⟩⟩
def fChain (o o' : D → D → Option D) (f g h : Ev D) : Ev D := fun env => (f env).bind fun d e1 => (g e1).bind fun e e2 => match o d e with
  | some (.bl true) => (h e2).bind fun k e3 => Out.opt (o' e k) e3
  | some (.bl false) => .val (.bl false) e2
  | _ => .stuck
def fNoPart : Ev (Option Int) := fun env => .val none env
def fPart (f : Ev D) : Ev (Option Int) := fun env => (f env).bind fun d e => match d with
  | .int i => .val (some i) e
  | _ => .stuck
def fSl (o : D → Option Int → Option Int → Option D) (f : Ev D) (lo hi : Ev (Option Int)) : Ev D := fun env => (f env).bind fun d e1 => (lo e1).bind fun l e2 => (hi e2).bind fun u e3 => Out.opt (o d l u) e3
end
end Vl
set_option Elab.async false
set_option linter.all false
set_option maxRecDepth 100000
set_option maxHeartbeats 2000000
namespace Sb
open PySem PySem.W PySem.Calls PyProof.Rows
theorem meets_enum1 {v : Value} {o : Obj} {Z : Heap → Prop} (B : Begins v o Z) :
    Meets (Builtin.«enumerate.__new__» ⟨[.type "enumerate", v], []⟩) (fun _ R s => Z s.heap ∧
      R (.ok (.ret (.ref (s.heap.push o).objs.size))) { s with heap := (s.heap.push o).push { cls := .type "enumerate", data := .fields #[.none, .bool false, .ref s.heap.objs.size, rawInt 0, .none, .none] } }) :=
  .of_wp fun prog w A R s hz => by
    obtain ⟨hp, gs, dr, tk, os⟩ := s
    obtain ⟨z1, fin⟩ := hz
    have hsub := sub_enumerate
    have begun : ∀ {A2 : Around} {E2 : Value → Shared → Prop} {Q2 : Value → Shared → Prop}, Q2 (.ref hp.objs.size) ⟨hp.push o, gs, dr, tk, os⟩ → wpAny (model prog w) A2 (pyIter v) Q2 E2 ⟨hp, gs, dr, tk, os⟩ :=
      fun q => B.iter prog w _ _ ⟨hp, gs, dr, tk, os⟩ _ z1 q
    wp_walk using begun
    refine wpAny_stack_any fun st => wpAny_pure ?_
    split
    · rename_i c _ _ _ _ _
      cases (c == Value.type "enumerate")
      all_goals (wp_walk using begun; exact ⟨_, rfl, fin⟩)
    · wp_walk using begun
      exact ⟨_, rfl, fin⟩
end Sb
namespace Sb
open PySem PySem.W PySem.Calls PyProof.Rows
section
variable {prog : Program} {w : World} {A : Around} {E : Value → Shared → Prop} {s : Shared}
/-- enumerate(v): its two new cells -/
theorem enum1_begins {v : Value} {o : Obj} {Z : Heap → Prop} {Q : Value → Shared → Prop} (B : Begins v o Z) (z1 : Z s.heap)
    (fin : ∀ h', IsEnum h' (s.heap.objs.size + 1) s.heap.objs.size 0 .none → h'.get? s.heap.objs.size = some o → (∀ b u, s.heap.get? b = some u → h'.get? b = some u) → Q (.ref (s.heap.objs.size + 1)) { s with heap := h' }) :
    wpAny (model prog w) A (call (.type "enumerate") [v]) Q E s := by
  have grow : (s.heap.push o).objs.size = s.heap.objs.size + 1 := Heap.size_push ..
  have top : IsEnum ((s.heap.push o).push { cls := .type "enumerate", data := .fields #[.none, .bool false, .ref s.heap.objs.size, rawInt 0, .none, .none] }) (s.heap.objs.size + 1) s.heap.objs.size 0 .none := by
    have q := Heap.get?_push_size (s.heap.push o) (o := { cls := .type "enumerate", data := .fields #[.none, .bool false, .ref s.heap.objs.size, rawInt 0, .none, .none] }) rfl
    rwa [grow] at q
  refine callType_new F.called_enumerate (by decide) (F.typeCall_enumerate_1 _) (F.newCall_enumerate_1 _) (fun obj => F.args_object_init_2 obj _) F.entry_enumerate_new (meets_enum1 B) ⟨z1, ?_⟩
  show _ ∧ _
  rw [grow]
  exact ⟨⟨_, top, rfl⟩, fin _ top (Heap.get?_push_of_some _ (Heap.get?_push_size _ B.free)) fun b u x => Heap.get?_push_of_some _ (Heap.get?_push_of_some _ x)⟩
end
end Sb
namespace Sb
open PySem PySem.Spec PySem.Calls PyProof.Rows L2
/-- the tuple at a, its items xs, in new pairs with their numbers -/
def ItEt (K : PySem.W.Frag) (a : Addr) (xs : List V) : It :=
  ⟨fun i H => SqT K H a xs ∧ i < xs.length, fun i H v H' => ∃ t x, v = .ref t ∧ H t = none ∧ H' = upd H t (.tup [.int (i : Nat), x]) ∧ xs[i]? = some x, fun i H => SqT K H a xs ∧ i = xs.length⟩
theorem turn_enumT {P : Program} {w : World} {K : PySem.W.Frag} {elts : List Expr} {kk : Nat} {tpos : Pos} (a e it : Addr) (xs : List V) :
    Turn P w K (.Tuple elts kk tpos) (ItEt K a xs) [e, it] e (fun i h => (∃ old, IsEnum h e it ((i : Nat) : Int) old) ∧ h.IsTupleIter it a i ∧ e ≠ it ∧ a ≠ it ∧ a ≠ e) where
  mem := by simp
  obj := fun i h st b hb => by
    obtain ⟨⟨old, z⟩, ⟨o, ho, _, hd⟩, _⟩ := st
    rcases (show b = e ∨ b = it by simpa using hb) with rfl | rfl
    · exact ⟨_, z, fun v q => nomatch q⟩
    · exact ⟨o, ho, fun v q => by rw [hd] at q; cases q⟩
  keep := fun i h h' st k => by
    obtain ⟨⟨old, z⟩, z2, rest⟩ := st
    exact ⟨⟨old, k e (by simp) _ z⟩, z2.at fun o q => k it (by simp) o q, rest⟩
  item := by
    intro X hP hw hK calm i pins s σ H E I free st go
    subst hP hw hK
    obtain ⟨⟨old, he⟩, hit, ne, nai, nae⟩ := st
    obtain ⟨hq, hlt⟩ := go
    obtain ⟨its, rv, tp, hz⟩ := I.tuple hq
    have hx : xs[i]? = some xs[i] := List.getElem?_eq_getElem hlt
    obtain ⟨u, hu, ru⟩ := rv.get hx
    have sz : i < its.toArray.size := by
      have := (List.getElem?_eq_some_iff.mp hu).1
      simpa using this
    have hel : e < s.heap.objs.size := Heap.lt_size he
    have hil : it < s.heap.objs.size := by
      obtain ⟨_, q, _⟩ := hit
      exact Heap.lt_size q
    refine wpAny_pyNext_enum_itemD (fp := [it, a]) (Draws.tuple (A := X.A.in1) (I.ok.hd calm) it a nai its.toArray) he ⟨hit, tp⟩ sz ne (by simp; exact ⟨ne, Ne.symm nae⟩) fun x h' tk px out st' hT hsz hk => ?_
    obtain rfl : x = u := by
      have : its[i]? = some x := by simpa using px
      rw [hu] at this
      exact (Option.some.inj this).symm
    refine ⟨_, rfl, wpAny_letOwnedTupleGo_enum (s := { s with heap := h', toks := tk + 1 }) out fun h2 he2 sb => ?_⟩
    have hT2 : h2.get? s.heap.objs.size = some { cls := .type "tuple", data := .seq #[.int i tk, x] } := (sb.2 _ (Nat.ne_of_gt hel)).trans hT
    have new : ObjOk X.prog X.w (upd H s.heap.objs.size (.tup [.int (i : Nat), xs[i]])) h2 s.heap.objs.size (.tup [.int (i : Nat), xs[i]]) :=
      ⟨by show 2 ≤ sizeLine; decide, [.int i tk, x], .cons ⟨_, rfl⟩ (.cons ru .nil), ⟨_, hT2, rfl, _, rfl⟩⟩
    have I1 : Inv X pins σ (upd H s.heap.objs.size (.tup [.int (i : Nat), xs[i]])) { s with heap := h2, toks := tk + 1 } :=
      I.turnedNew (ch := [e, it]) (fun b ob hb q => (sb.2 b (fun z => hb (by simp [z]))).trans (hk b ob (fun z => hb (by simp [z])) (fun z => hb (by simp [z])) q)) free (Nat.le_refl _) new
    refine ⟨.ref s.heap.objs.size, _, I1, rfl, ⟨_, xs[i], rfl, I.hok.fresh (Nat.le_refl _), rfl, hx⟩, ⟨⟨x, ?_⟩, st'.1.at fun o q => (sb.2 it (Ne.symm ne)).trans q, ne, nai, nae⟩, fun b hb => ?_⟩
    · rw [show ((i + 1 : Nat) : Int) = (i : Int) + 1 by omega]
      exact he2
    · have hb' : b < s.heap.objs.size := by
        rcases (show b = e ∨ b = it by simpa using hb) with rfl | rfl
        · exact hel
        · exact hil
      rw [upd_ne (Nat.ne_of_lt hb')]
      exact (free b hb).1
  done := by
    intro X hP hw hK calm i pins s σ H E I free st stop
    subst hP hw hK
    obtain ⟨⟨old, he⟩, hit, ne, nai, nae⟩ := st
    obtain ⟨hq, rfl⟩ := stop
    obtain ⟨its, rv, tp, hz⟩ := I.tuple hq
    obtain ⟨f0, f1, f2, f3, f4, f5⟩ := free it (by simp)
    have hl := rv.length
    have hn : xs.length = its.toArray.size := by
      rw [List.size_toArray]
      exact hl
    exact wpAny_pyNext_enum_endD (Draws.tuple (A := X.A.in1) (I.ok.hd calm) it a nai its.toArray) he ⟨by rw [← hn]; exact hit, tp⟩ fun h' eb => ⟨rfl, I.turned (t' := s.toks) (fun b o hb q => eb b o hb q) f0 f1 f3 f4 f5⟩
  self := fun A i s Q E st h => by
    obtain ⟨⟨_, he⟩, _⟩ := st
    exact wpAny_pyIter_enum he h
theorem walk_enumT {K : PySem.W.Frag} {a : Addr} {xs : List V} : Walk (ItEt K a xs) xs.length (fun H => SqT K H a xs) (YPair (fun i => some (.int (i : Nat))) (fun i => xs[i]?)) :=
  ⟨fun i _ hi q => ⟨q, hi⟩, fun _ q => ⟨q, rfl⟩, fun i H v H' _ q y => by
    obtain ⟨t, x, h1, h2, h3, h4⟩ := y
    exact ⟨t, .int (i : Nat), x, h1, h2, h3, rfl, h4⟩⟩
/-- a list stays a list, a tuple a tuple -/
def StayE (K : PySem.W.Frag) (a : Addr) (xs : List V) (H H' : Hp) : Prop := (SqL K H a xs → SqL K H' a xs) ∧ (SqT K H a xs → SqT K H' a xs)
theorem StayE.same {K : PySem.W.Frag} {a : Addr} {xs : List V} {H H' : Hp} (s : Same H H') : StayE K a xs H H' := ⟨fun z => s.seq z, fun z => sqT_same s z⟩
/-- a tracked list or tuple -/
def Mach (H : Hp) (a : Addr) (xs : List V) : Prop := H a = some (.lst xs) ∨ H a = some (.tup xs)
theorem Mach.same {H H' : Hp} {a : Addr} {xs : List V} (h : Mach H a xs) (s : Same H H') : Mach H' a xs := h.elim (fun z => .inl (s _ _ z)) fun z => .inr (s _ _ z)
theorem Mach.stay {K : PySem.W.Frag} {H H' : Hp} {a : Addr} {xs : List V} (s : Same H H') : StayE K a xs H H' := StayE.same s
end Sb
set_option Elab.async false
set_option linter.all false
set_option maxRecDepth 100000
set_option maxHeartbeats 2000000
namespace Vl
open PySem PySem.Spec PySem.Calls PyProof.Rows L2 Sb
inductive Fl where
  | nx | rt (n : Bool) (d : D) | bk | ct
def postS (K : PySem.W.Frag) (B : Bs) (Z : ZX) (G : Gh) (H : Hp) (o : Out Fl) (E : Ends) : Prop := match o with
  | .stuck => False
  | .val fl env => ∀ G' σ' H', Mono G H G' H' → Cfg K B G' env σ' H' → match fl with
    | .nx => E.nx σ' H'
    | .rt false d => ∀ v, Rp K B.ct (off G'.S H') v d → E.rt v H'
    | .rt true d => ∀ a, B.H0 a = none → G'.S a → OwnAt K B.ct H' (off G'.S H') a d → E.rt (.ref a) H'
    | .bk => E.bk σ' H'
    | .ct => E.ct σ' H'
  | .exc c as env => ∀ G' σ' H' dd, Mono G H G' H' → Cfg K B G' env σ' H' → ExcAt K B.ct (off G'.S H') dd c as → Z c as env G' σ' H' dd
def liftS (K : PySem.W.Frag) (B : Bs) (Z : ZX) (g : Ev Fl) : TS := fun E σ H => ∃ G env, Cfg K B G env σ H ∧ postS K B Z G H (g env) E
structure DS (X : Cx) (B : Bs) (Z : ZX) (s : Stmt) (g : Ev Fl) : Prop where
  ps : PS X s (liftS X.K B Z g)
structure DSs (X : Cx) (B : Bs) (Z : ZX) (s : List Stmt) (g : Ev Fl) : Prop where
  pss : PSs X s (liftS X.K B Z g)
section
variable {K : PySem.W.Frag} {B : Bs} {Z : ZX} {G G1 : Gh} {σ : L2.St} {H H1 : Hp} {α : Type}
theorem postS_later {o : Out Fl} {E : Ends} (m : Mono G H G1 H1) (h : postS K B Z G H o E) : postS K B Z G1 H1 o E := by
  cases o with
  | stuck => exact h
  | val a e => exact fun G2 σ2 H2 m2 c => h _ _ _ (m.trans m2) c
  | exc c as e => exact fun G2 σ2 H2 dd m2 c x => h _ _ _ dd (m.trans m2) c x
theorem exprS0 {o : Out α} {k : α → List Slot → Out Fl} {E : Ends} (h : postS K B Z G H (o.bind k) E) : postG K B Z G σ H o (fun a e _ _ => postS K B Z G H (k a e) E) := by
  cases o with
  | stuck => exact h
  | val a e => exact fun G1 H1 m c => h
  | exc cc as e => exact fun G1 H1 dd m c x => (show postS K B Z G H (.exc cc as e) E from h) G1 σ H1 dd m c x
theorem exprS {o : Out α} {k : α → List Slot → Out Fl} {E : Ends} (h : postS K B Z G H (o.bind k) E) : postG K B Z G σ H o (fun a e G1 H1 => postS K B Z G1 H1 (k a e) E) := by
  cases o with
  | stuck => exact h
  | val a e => exact fun G1 H1 m c => postS_later m (show postS K B Z G H (k a e) E from h)
  | exc cc as e => exact fun G1 H1 dd m c x => (show postS K B Z G H (.exc cc as e) E from h) G1 σ H1 dd m c x
end
section
variable {X : Cx} {st : Stmt} {sts : List Stmt}
theorem PS.weak {t t' : TS} (h : PS X st t) (k : ∀ E σ H, t' E σ H → t E σ H) : PS X st t' := ⟨fun pins s σ H Q I q => h.run pins s σ H Q I (k Q σ H q)⟩
theorem PSs.weak {t t' : TS} (h : PSs X sts t) (k : ∀ E σ H, t' E σ H → t E σ H) : PSs X sts t' := ⟨fun pins s σ H Q I q => h.run pins s σ H Q I (k Q σ H q)⟩
theorem PG.weak {tg : Expr} {t t' : TG} (h : PG X tg t) (k : ∀ v σ H Q, t' v σ H Q → t v σ H Q) : PG X tg t' := ⟨fun pins s σ H v u Q I r q => h.run pins s σ H v u Q I r (k v σ H Q q)⟩
theorem PGs.weak {tg : List Expr} {t t' : TGs} (h : PGs X tg t) (k : ∀ v σ H Q, t' v σ H Q → t v σ H Q) : PGs X tg t' := ⟨fun pins s σ H v u Q I r q => h.run pins s σ H v u Q I r (k v σ H Q q)⟩
theorem PI.weak {tg it : Expr} {t t' : TI} (h : PI X tg it t) (k : ∀ σ H Q, t' σ H Q → t σ H Q) : PI X tg it t' := ⟨fun pins s σ H Q I q => h.run pins s σ H Q I (k σ H Q q)⟩
theorem PTs.weak {ifs : List Expr} {t t' : TT} (h : PTs X ifs t) (k : ∀ σ H Q, t' σ H Q → t σ H Q) : PTs X ifs t' := ⟨fun pins s σ H Q I q => h.run pins s σ H Q I (k σ H Q q)⟩
end
inductive Pat where
  | nm (i : Nat) | tp (l : List Pat)
  /-- .. of a list -/
  | ul (l : List Pat)
mutual
def Pat.put : Pat → D → List Slot → Option (List Slot)
  | .nm i, d, e => some (e.set i (.sh d))
  | .tp ps, .tup l, e => Pat.puts ps l e
  | .tp ps, .ctup l, e => Pat.puts ps l e
  | .tp _, _, _ => none
  | .ul ps, .lst l, e => Pat.puts ps l e
  | .ul _, _, _ => none
def Pat.puts : List Pat → List D → List Slot → Option (List Slot)
  | [], [], e => some e
  | p :: ps, d :: ds, e => match Pat.put p d e with
    | some e' => Pat.puts ps ds e'
    | none => none
  | _, _, _ => none
end
mutual
def Pat.wi (vs : List Nat) : Pat → Bool
  | .nm i => vs.contains i
  | .tp l => Pat.wis vs l
  | .ul l => Pat.wis vs l
def Pat.wis (vs : List Nat) : List Pat → Bool
  | [] => true
  | p :: l => Pat.wi vs p && Pat.wis vs l
end
def liftG (K : PySem.W.Frag) (B : Bs) (p : Pat) : TG := fun v σ H Q => ∃ G env d env', Cfg K B G env σ H ∧ Rp K B.ct (off G.S H) v d ∧ p.put d env = some env' ∧ ∀ σ', Cfg K B G env' σ' H → (∀ vs, p.wi vs = true → wipe σ' vs = wipe σ vs) → Q σ' H
def liftGs (K : PySem.W.Frag) (B : Bs) (p : List Pat) : TGs := fun v σ H Q => ∃ G env d env', Cfg K B G env σ H ∧ Rps K B.ct (off G.S H) v d ∧ Pat.puts p d env = some env' ∧ ∀ σ', Cfg K B G env' σ' H → (∀ vs, Pat.wis vs p = true → wipe σ' vs = wipe σ vs) → Q σ' H
structure DG (X : Cx) (B : Bs) (tg : Expr) (p : Pat) : Prop where
  pg : PG X tg (liftG X.K B p)
structure DGs (X : Cx) (B : Bs) (tg : List Expr) (p : List Pat) : Prop where
  pgs : PGs X tg (liftGs X.K B p)
theorem wipe_set {σ : L2.St} {v : Option V} {i : Nat} : ∀ {vs : List Nat}, i ∈ vs → wipe (σ.set i v) vs = wipe σ vs
  | w :: vs, h => by
    unfold wipe
    by_cases e : i ∈ vs
    · rw [wipe_set e]
    · have ew : i = w := by
        rcases List.mem_cons.mp h with z | z
        · exact z
        · exact absurd z e
      subst ew
      have key : ∀ (us : List Nat), (wipe (σ.set i v) us).set i none = (wipe σ us).set i none := by
        intro us
        induction us with
        | nil =>
          show (σ.set i v).set i none = σ.set i none
          rw [List.set_set]
        | cons u us ih =>
          show ((wipe (σ.set i v) us).set u none).set i none = ((wipe σ us).set u none).set i none
          by_cases eu : u = i
          · subst eu
            rw [List.set_set, List.set_set, ih]
          · rw [List.set_comm _ _ eu, ih, List.set_comm _ _ (Ne.symm eu)]
      exact key vs
section
variable {X : Cx} {B : Bs} {x : Str} {pos : Pos} {i : Nat}
theorem dg_name (hN : X.N.Nodup) (hi : X.N[i]? = some x) (hx : Loc X.env.scope x) (hf : X.fn x = true ∨ X.env.scope.names.lookup x = some .local := by first | exact .inl rfl | exact .inr rfl | assumption) : DG X B (.Name x pos) (.nm i) :=
  ⟨PG.weak (pg_name hN hi hx hf) fun v σ H Q ⟨G, env, d, env', c, r, e, k⟩ => by
    simp only [Pat.put] at e
    cases e
    exact k _ (c.put r) fun vs h => wipe_set (by simpa [Pat.wi] using h)⟩
theorem dgs_nil : DGs X B [] [] := ⟨PGs.weak pgs_nil fun v σ H Q ⟨G, env, d, env', c, r, e, k⟩ => by
  cases r with
  | nil =>
    simp only [Pat.puts] at e
    cases e
    exact ⟨rfl, k _ c fun _ _ => rfl⟩
  | cons _ _ => simp [Pat.puts] at e⟩
theorem dgs_cons {e : Expr} {es : List Expr} {p : Pat} {ps : List Pat} (h1 : DG X B e p) (h2 : DGs X B es ps) (hs : (assignEach (e :: es) X.env).map (·.2) = assign e X.env :: (assignEach es X.env).map (·.2) := by rfl) : DGs X B (e :: es) (p :: ps) :=
  ⟨PGs.weak (pgs_cons h1.pg h2.pgs hs) fun v σ H Q ⟨G, env, d, env', c, r, ee, k⟩ => by
    cases r with
    | nil => simp [Pat.puts] at ee
    | @cons v vs d ds rv rvs =>
      simp only [Pat.puts] at ee
      cases hp : p.put d env with
      | none =>
        rw [hp] at ee
        cases ee
      | some e1 =>
        rw [hp] at ee
        refine ⟨_, _, rfl, G, env, d, e1, c, rv, hp, fun σ' c' w1 => ⟨G, e1, ds, env', c', rvs, ee, fun σ2 c2 w2 => k σ2 c2 fun us h => ?_⟩⟩
        simp only [Pat.wis, Bool.and_eq_true] at h
        rw [w2 us h.2, w1 us h.1]⟩
theorem dg_tup {es : List Expr} {k : Nat} {ps : List Pat} {n : Nat} (hc : X.calm = true) (h : DGs X B es ps) (hp : ps.length = n := by rfl) (hn : (assignEach es X.env).length = n := by rfl) (hst : (assignEach es X.env).findIdx? (·.1) = none := by rfl) :
    DG X B (.Tuple es k pos) (.tp ps) :=
  ⟨PG.weak (pg_tup hc h.pgs hn hst) fun v σ H Q ⟨G, env, d, env', c, r, e, k⟩ => by
    have len : ∀ (ps : List Pat) (l : List D) (env env' : List Slot), Pat.puts ps l env = some env' → l.length = ps.length := by
      intro ps
      induction ps with
      | nil =>
        intro l env env' h
        cases l with
        | nil => rfl
        | cons _ _ => simp [Pat.puts] at h
      | cons p ps ih =>
        intro l env env' h
        cases l with
        | nil => simp [Pat.puts] at h
        | cons d l =>
          simp only [Pat.puts] at h
          split at h
          · simp [ih _ _ _ h]
          · cases h
    cases d with
    | tup l =>
      simp only [Pat.put] at e
      obtain ⟨a, vs, rfl, h1, t1⟩ := r.tupE
      exact ⟨a, vs, rfl, sqT_le h1, by rw [t1.len, len _ _ _ _ e, hp], G, env, l, env', c, t1, e, fun σ' c' w => k σ' c' fun us hu => w us (by simpa [Pat.wi] using hu)⟩
    | ctup l =>
      simp only [Pat.put] at e
      obtain ⟨a, vs, rfl, h1, t1⟩ := r.ctupE
      exact ⟨a, vs, rfl, sqT_le h1, by rw [t1.len, len _ _ _ _ e, hp], G, env, l, env', c, t1, e, fun σ' c' w => k σ' c' fun us hu => w us (by simpa [Pat.wi] using hu)⟩
    | _ => simp [Pat.put] at e⟩
end
section
variable {X : Cx} {B : Bs} {Z : ZX} {a b c e : Expr} {es : List Expr} {pos : Pos} {f g : Ev D} {fs : Ev (List D)} {ft : Ev Bool} {st : Stmt} {sts us : List Stmt} {s t : Ev Fl}
def fNx : Ev Fl := fun env => .val .nx env
theorem dss_nil : DSs X B Z [] fNx := ⟨PSs.weak pss_nil fun E σ H ⟨G, env, c, p⟩ => p G σ H Mono.refl c⟩
def fSeq (s t : Ev Fl) : Ev Fl := fun env => match s env with
  | .val .nx e => t e
  | o => o
theorem dss_cons (h1 : DS X B Z st s) (h2 : DSs X B Z sts t) : DSs X B Z (st :: sts) (fSeq s t) :=
  ⟨PSs.weak (pss_cons h1.ps h2.pss) fun E σ H ⟨G, env, c, p⟩ => ⟨G, env, c, by
    unfold fSeq at p
    cases hs : s env with
    | stuck =>
      rw [hs] at p
      exact p
    | val fl e =>
      cases fl with
      | nx =>
        rw [hs] at p
        exact fun G1 σ1 H1 m1 c1 => ⟨G1, e, c1, postS_later m1 p⟩
      | rt n d => cases n <;> (rw [hs] at p; exact p)
      | bk =>
        rw [hs] at p
        exact p
      | ct =>
        rw [hs] at p
        exact p
    | exc cc as e =>
      rw [hs] at p
      exact p⟩⟩
theorem dss_one (h : DS X B Z st s) : DSs X B Z [st] s := ⟨pss_one h.ps⟩
def fBk : Ev Fl := fun env => .val .bk env
def fCt : Ev Fl := fun env => .val .ct env
def fDrop (f : Ev D) : Ev Fl := fun env => (f env).bind fun _ e => .val .nx e
def fRet (f : Ev D) : Ev Fl := fun env => (f env).bind fun d e => .val (.rt false d) e
theorem ds_ret (he : DE X B Z e f) : DS X B Z (.Return (some e) pos) (fRet f) :=
  ⟨PS.weak (ps_ret he.pe) fun E σ H ⟨G, env, c, p⟩ => ⟨G, env, c, post_imp (exprS p) fun d e1 G1 H1 m1 c1 p1 v rv => p1 G1 σ H1 Mono.refl c1 v rv⟩⟩
/-- return x, x an owned thing -/
def fRetO (i : Nat) : Ev Fl := fun env => match env[i]? with
  | some (.ow d) => .val (.rt true d) env
  | some (.sh d) => .val (.rt false d) env
  | _ => .stuck
def fRetN : Ev Fl := fun env => .val (.rt false .non) env
theorem ds_if (hc : DT X B Z c ft) (ha : DSs X B Z sts s) (hb : DSs X B Z us t) : DS X B Z (.If c sts us pos) (fIte ft s t) :=
  ⟨PS.weak (ps_if hc.pt ha.pss hb.pss) fun E σ H ⟨G, env, c, p⟩ => ⟨G, env, c, post_imp (exprS p) fun k e1 G1 H1 m1 c1 p1 => by
    cases k with
    | true => exact iteT ⟨G1, e1, c1, p1⟩
    | false => exact iteF ⟨G1, e1, c1, p1⟩⟩⟩
def fAsg (p : Pat) (f : Ev D) : Ev Fl := fun env => (f env).bind fun d e => match p.put d e with
  | some e' => .val .nx e'
  | none => .stuck
theorem ds_set {i : Nat} {x : Str} {pos' : Pos} (hN : X.N.Nodup) (hi : X.N[i]? = some x) (hx : Loc X.env.scope x) (he : DE X B Z e f) (hs : swapsWith e (some (.Name x pos')) pos.line X.env = pure false := by rfl)
    (hf : X.fn x = true ∨ X.env.scope.names.lookup x = some .local := by first | exact .inl rfl | exact .inr rfl | assumption) : DS X B Z (.Assign [.Name x pos'] e pos) (fAsg (.nm i) f) :=
  ⟨PS.weak (ps_set hN hi hx he.pe hs hf) fun E σ H h => by
    obtain ⟨G, env, c, q⟩ := h
    refine ⟨G, env, c, post_imp (exprS q) fun d e1 G1 H1 m1 c1 p1 v rv => ?_⟩
    simp only [Pat.put] at p1
    exact p1 G1 _ H1 Mono.refl (c1.put rv)⟩
def liftN (K : PySem.W.Frag) (B : Bs) (Z : ZX) (f : Ev D) : TE := fun σ H Q => ∃ G env, Cfg K B G env σ H ∧ postG K B Z G σ H (f env) (fun d _ G' H' => ∀ p, H p = none → G'.S p → G'.un p → OwnAt K B.ct H' (off G'.S H') p d → Q (.ref p) H')
structure DN (X : Cx) (B : Bs) (Z : ZX) (e : Expr) (f : Ev D) : Prop where
  pe : PE X e (liftN X.K B Z f)
theorem undom {G G' : Gh} {H H' : Hp} (m : Mono G H G' H') {p : Addr} (h : H' p = none) : H p = none := by
  cases e : H p with
  | none => rfl
  | some o => exact absurd h (m.dom p (by rw [e]; exact Option.some_ne_none _))
theorem dn_lst (h : DA X B Z es fs) : DN X B Z (.List es pos) (fLst fs) :=
  ⟨PE.weak (pe_lst h.pa) fun σ H Q ⟨G, env, c, p⟩ => ⟨G, env, c, post_imp (post_bind p) fun l e1 G1 H1 m1 c1 p1 vs rvs => by
    by_cases hl : l.length ≤ 1000
    · rw [if_pos hl] at p1
      refine ⟨by rw [rvs.len]; exact small_line hl, fun q hq => ?_⟩
      refine p1 (G1.hide q) _ (Mono.hide hq c1.live) (c1.hide hq) q (undom m1 hq) (.inr rfl) (c1.newUn hq) ⟨vs, upd_same, rvs.mono (Mono.hide hq c1.live).same⟩
    · rw [if_neg hl] at p1
      exact p1.elim⟩⟩
def fSetN (i : Nat) (f : Ev D) : Ev Fl := fun env => (f env).bind fun d e => .val .nx (e.set i (.ow d))
theorem ds_new {i : Nat} {x : Str} {pos' : Pos} (hN : X.N.Nodup) (hi : X.N[i]? = some x) (hx : Loc X.env.scope x) (he : DN X B Z e f) (hs : swapsWith e (some (.Name x pos')) pos.line X.env = pure false := by rfl)
    (hf : X.fn x = true ∨ X.env.scope.names.lookup x = some .local := by first | exact .inl rfl | exact .inr rfl | assumption) : DS X B Z (.Assign [.Name x pos'] e pos) (fSetN i f) :=
  ⟨PS.weak (ps_set hN hi hx he.pe hs hf) fun E σ H h => by
    obtain ⟨G, env, c, q⟩ := h
    refine ⟨G, env, c, post_imp (exprS0 q) fun d e1 G1 H1 m1 c1 p1 p hp hS hR ho => ?_⟩
    exact p1 (G1.own i p) _ H1 (m1.own (c.unS hp)) (c1.adopt hS hR ho (c.new0 hp))⟩
def fRetW (f : Ev D) : Ev Fl := fun env => (f env).bind fun d e => .val (.rt true d) e
theorem ds_retW (he : DN X B Z e f) : DS X B Z (.Return (some e) pos) (fRetW f) :=
  ⟨PS.weak (ps_ret he.pe) fun E σ H ⟨G, env, c, q⟩ => ⟨G, env, c, post_imp (exprS0 q) fun d e1 G1 H1 m1 c1 p1 p hp hS hR ho => p1 G1 σ H1 m1 c1 p (c.new0 hp) hS ho⟩⟩
abbrev Nw := D × Bool
def NwOk (K : PySem.W.Frag) (ct : Ct) (G : Gh) (H0 H : Hp) (v : V) (g : Nw) : Prop := match g with
  | (d, false) => Rp K ct (off G.S H) v d
  | (d, true) => ∃ p, v = .ref p ∧ H0 p = none ∧ G.S p ∧ G.un p ∧ OwnAt K ct H (off G.S H) p d
theorem NwOk.mono {K : PySem.W.Frag} {ct : Ct} {G G' : Gh} {H0 H H' : Hp} {v : V} {g : Nw} (h : NwOk K ct G H0 H v g) (m : Mono G H G' H') : NwOk K ct G' H0 H' v g := by
  obtain ⟨d, b⟩ := g
  cases b with
  | false => exact Rp.mono m.same h
  | true =>
    obtain ⟨p, h1, h2, h3, h4, h5⟩ := h
    obtain ⟨x1, x2, x3⟩ := m.tmp p h3 h4
    exact ⟨p, h1, h2, x1, x2, h5.mono x3 m.same⟩
/-- a, b = e1, e2 -/
def fPar (i j : Nat) (f g : Ev D) (n1 n2 : Bool) : Ev Fl := fun env => (f env).bind fun d e1 => (g e1).bind fun e e2 => .val .nx ((e2.set i (if n1 then .ow d else .sh d)).set j (if n2 then .ow e else .sh e))
structure DQ (X : Cx) (B : Bs) (Z : ZX) (e : Expr) (f : Ev D) (n : Bool) : Prop where
  pe : PE X e (fun σ H Q => ∃ G env, Cfg X.K B G env σ H ∧ postG X.K B Z G σ H (f env) (fun d _ G' H' => ∀ v, NwOk X.K B.ct G' H H' v (d, n) → Q v H'))
theorem DE.q (h : DE X B Z e f) : DQ X B Z e f false := ⟨h.pe⟩
theorem Cfg.putQ {K : PySem.W.Frag} {G G0 : Gh} {env : List Slot} {σ : L2.St} {H H0 : Hp} {i : Nat} {v : V} {d : D} {n : Bool} (c0 : ∀ p, H0 p = none → B.H0 p = none ∧ ¬ G0.S p) (c : Cfg K B G env σ H) (m : Mono G0 H0 G H) (h : NwOk K B.ct G H0 H v (d, n)) :
    ∃ G', Mono G0 H0 G' H ∧ Cfg K B G' (env.set i (if n then .ow d else .sh d)) (σ.set i (some v)) H ∧ Same (off G.S H) (off G'.S H) ∧ (∀ p, G.S p → G.un p → (n = true → v ≠ .ref p) → G'.S p ∧ G'.un p) := by
  cases n with
  | false => exact ⟨G, m, c.put h, Same.refl _, fun p h1 h2 _ => ⟨h1, h2⟩⟩
  | true =>
    obtain ⟨p, rfl, h2, h3, h4, h5⟩ := h
    obtain ⟨z1, z2⟩ := c0 p h2
    refine ⟨G.own i p, m.own z2, c.adopt h3 h4 h5 z1, Same.refl _, fun q h1 hq ne => ⟨h1, ⟨fun j z => ?_, hq.2⟩⟩⟩
    have z' : (if j = i then some p else G.r j) = some q := z
    by_cases e : j = i
    · rw [if_pos e] at z'
      cases z'
      exact ne rfl rfl
    · rw [if_neg e] at z'
      exact hq.1 j z'
theorem ds_par {i j : Nat} {x y : Str} {n1 n2 : Bool} (hc : X.calm = true) (hN : X.N.Nodup) (hi : X.N[i]? = some x) (hj : X.N[j]? = some y) (hij : i ≠ j)
    (hx : X.env.scope.names.lookup x = some .local) (hy : X.env.scope.names.lookup y = some .local) (ha : DQ X B Z a f n1) (hb : DQ X B Z b g n2) (hs1 : starEach [a, b] X.env = (false, eval a X.env) :: starEach [b] X.env := by rfl) (hs2 : starEach [b] X.env = (false, eval b X.env) :: starEach [] X.env := by rfl)
    (hp : ∀ {ta : TA}, PA X [a, b] ta → PS X st (tPar i j ta)) : DS X B Z st (fPar i j f g n1 n2) :=
  ⟨PS.weak (hp (pa_cons ha.pe (pa_cons hb.pe pa_nil hs2) hs1)) fun E σ H h => by
    obtain ⟨G, env, c, q⟩ := h
    refine ⟨G, env, c, post_imp (exprS0 q) fun d e1 G1 H1 m1 c1 p1 v rv => ⟨G1, e1, c1, ?_⟩⟩
    have p1' : postS X.K B Z G1 H1 ((g e1).bind fun e e2 => .val .nx ((e2.set i (if n1 then .ow d else .sh d)).set j (if n2 then .ow e else .sh e))) E := postS_later m1 p1
    have p0 := p1
    cases hg : g e1 with
    | stuck =>
      rw [hg] at p0
      exact p0.elim
    | exc cc as e2 =>
      rw [hg] at p0
      exact fun G2 H2 dd m2 c2 xx => p0 G2 σ H2 dd (m1.trans m2) c2 xx
    | val d2 e2 =>
      rw [hg] at p0
      intro G2 H2 m2 c2 w rw'
      have mm := m1.trans m2
      have c0 : ∀ p, H p = none → B.H0 p = none ∧ ¬ G.S p := fun p h => ⟨c.new0 h, c.unS h⟩
      have c01 : ∀ p, H1 p = none → B.H0 p = none ∧ ¬ G.S p := fun p h => c0 p (undom m1 h)
      refine ⟨v, w, rfl, ?_⟩
      have rv2 := rv.mono m2
      obtain ⟨G3, k1, k2, k3, k4⟩ := Cfg.putQ (i := i) c0 c2 mm rv2
      have rw3 : NwOk X.K B.ct G3 H H2 w (d2, n2) := by
        cases n2 with
        | false => exact Rp.mono k3 rw'
        | true =>
          obtain ⟨p, rfl, h2, h3, h4, h5⟩ := rw'
          have nv : n1 = true → v ≠ V.ref p := by
            intro hn z
            subst hn
            obtain ⟨p', rfl, g2, g3, g4, g5⟩ := rv
            cases z
            exact g5.some h2
          obtain ⟨x1, x2⟩ := k4 p h3 h4 nv
          exact ⟨p, rfl, undom m1 h2, x1, x2, h5.mono rfl k3⟩
      obtain ⟨G4, l1, l2, l3, l4⟩ := Cfg.putQ (i := j) c0 k2 k1 rw3
      exact p0 G4 _ H2 l1 l2⟩
/-- x.append(e), x a list of its own -/
def slotL (env : List Slot) (i : Nat) : Option (Bool × List D) := match env[i]? with
  | some (.ow (.lst l)) => some (false, l)
  | some (.io (.lst l)) => some (true, l)
  | _ => none
theorem slotL_own {env : List Slot} {i : Nat} {b : Bool} {l : List D} (h : slotL env i = some (b, l)) : env[i]? = some (own b (.lst l)) := by
  unfold slotL at h
  split at h
  · cases h
    assumption
  · cases h
    assumption
  · cases h
def fApp (i : Nat) (f : Ev D) : Ev Fl := fun env => match slotL env i with
  | none => .stuck
  | some _ => (f env).bind fun d e => match slotL e i with
    | some (b, l) => if l.length < sizeLine then .val .nx (e.set i (own b (.lst (l ++ [d])))) else .stuck
    | none => .stuck
theorem ds_append {i : Nat} {x : Str} {xpos apos cpos : Pos} (hN : X.N[i]? = some x) (hv : Vis X.env.scope x) (he : DE X B Z e f)
    (hd : (x == ("__debug__" : Str)) = false := by decide) (hcd : (x == ("__classdict__" : Str)) = false := by decide)
    (hbase : attributeBase (.Name x xpos) "append" X.env (eval (.Name x xpos) X.env) = eval (.Name x xpos) X.env := by rfl)
    (hfew : ((backTo cpos (starEach [e] X.env)).all (fun x => !x.1) && (backToKw cpos (keywordEach [] X.env)).all (fun x => x.1.isSome)
      && decide ([e].length + ([] : List Keyword).length + (if ([] : List Keyword).isEmpty then 0 else 1) < 30)) = true := by rfl)
    (hline : (apos.endLine == cpos.line) = true := by rfl) (hst : starEach [e] X.env = (false, eval e X.env) :: starEach [] X.env := by rfl) (hplain : (backTo cpos (starEach [] X.env)).any (·.1) = false := by rfl)
    (hs : swapsWith (.Call (.Attribute (.Name x xpos) "append" apos) [e] [] cpos) none pos.line X.env = pure false := by rfl) :
    DS X B Z (.Expr (.Call (.Attribute (.Name x xpos) "append" apos) [e] [] cpos) pos) (fApp i f) :=
  ⟨PS.weak (ps_expr (pe_bm PySem.F.plainAttrs_list PySem.F.slot_list_append PySem.F.type_list_append mt_append (pe_var hN hv hd hcd) (pa_cons he.pe pa_nil hst) hbase hfew hline hst hplain) hs) fun E σ H h => by
    obtain ⟨G, env, c, q⟩ := h
    unfold fApp at q
    cases h0 : slotL env i with
    | none =>
      rw [h0] at q
      exact q.elim
    | some p0 =>
      obtain ⟨b0, l0⟩ := p0
      rw [h0] at q
      obtain ⟨a, r1, r2, vs0, r3, _⟩ := c.own (slotL_own h0)
      refine ⟨_, r2, .inl ⟨rfl, _, SqL.of r3⟩, G, env, c, post_imp (exprS q) fun d e1 G1 H1 m1 c1 p1 v rv => ?_⟩
      cases h1 : slotL e1 i with
      | none =>
        rw [h1] at p1
        exact p1.elim
      | some p2 =>
        obtain ⟨b, l⟩ := p2
        rw [h1] at p1
        simp only [] at p1
        obtain ⟨a', g1, g2, vs, g3, g4⟩ := c1.own (slotL_own h1)
        rw [r2] at g2
        cases g2
        by_cases hl : l.length < sizeLine
        · rw [if_pos hl] at p1
          refine ⟨a, vs, v, rfl, rfl, g3, by rw [g4.len]; exact hl, ?_⟩
          exact p1 G1 _ _ (Mono.chg g1 (c1.hid i a g1)) (c1.chg g1 (slotL_own h1) ⟨vs ++ [v], upd_same, g4.app (.one rv)⟩)
        · rw [if_neg hl] at p1
          exact p1.elim⟩
/-- x[k] = e, x a list of its own -/
def fPutL (i : Nat) (k f : Ev D) : Ev Fl := fun env => (f env).bind fun d e1 => match slotL e1 i with
  | none => .stuck
  | some _ => (k e1).bind fun z e2 => match z, slotL e2 i with
    | .int j, some (b, l) => match ixN l.length j with
      | some n => .val .nx (e2.set i (own b (.lst (l.set n d))))
      | none => .stuck
    | _, _ => .stuck
structure WalkD (K : PySem.W.Frag) (ct : Ct) (G : Gh) (H : Hp) (J : It) (ds : List D) : Prop where
  go : ∀ i G' H', Mono G H G' H' → i < ds.length → J.go i H'
  stop : ∀ G' H', Mono G H G' H' → J.stop ds.length H'
  yld : ∀ i G' H' x H'', Mono G H G' H' → (∀ a, G'.S a → H' a ≠ none) → i < ds.length → J.yld i H' x H'' → Same H' H'' ∧ ∃ d, ds[i]? = some d ∧ Rp K ct (off G'.S H'') x d
def rangeD (lo : Int) (n : Nat) : List D := (List.range n).map fun (i : Nat) => D.int (lo + (i : Int))
theorem walk_rng {K : PySem.W.Frag} {ct : Ct} {G : Gh} {H : Hp} {lo : Int} {n : Nat} : WalkD K ct G H (Itr lo n) (rangeD lo n) := by
  have l : (rangeD lo n).length = n := by simp [rangeD]
  refine ⟨fun i G' H' m hi => by rw [l] at hi; exact hi, fun G' H' m => Nat.le_of_eq l.symm, fun i G' H' x H'' m live hi y => ?_⟩
  obtain ⟨rfl, rfl⟩ := y
  rw [l] at hi
  exact ⟨Same.refl _, .int (lo + (i : Int)), by simp [rangeD, hi], .int _⟩
/-- pairs with their numbers -/
def enumD : Nat → List D → List D
  | _, [] => []
  | k, d :: l => .tup [.int (k : Int), d] :: enumD (k + 1) l
theorem enumD_len : ∀ (l : List D) (k : Nat), (enumD k l).length = l.length
  | [], _ => rfl
  | d :: l, k => by simp [enumD, enumD_len l]
theorem enumD_get : ∀ (l : List D) (k i : Nat), (enumD k l)[i]? = l[i]?.map fun d => .tup [.int ((k + i : Nat) : Int), d]
  | [], _, _ => rfl
  | d :: l, k, 0 => by simp [enumD]
  | d :: l, k, i + 1 => by
    simp only [enumD, List.getElem?_cons_succ]
    rw [enumD_get l (k + 1) i, show k + 1 + i = k + (i + 1) by omega]
/-- for i, x in enumerate(e), e a list or a tuple -/
def iEnumD (K : PySem.W.Frag) (ta : TA) : TI := fun σ H R => ta σ H fun vs H1 => ∃ a xs, vs = [.ref a] ∧
  ((SqL K H1 a xs ∧ ∀ J, Walk J xs.length (fun H' => SqL K H' a xs) (YPair (fun i => some (.int (i : Nat))) (fun i => xs[i]?)) → R J H1) ∨
   (SqT K H1 a xs ∧ ∀ J, Walk J xs.length (fun H' => SqT K H' a xs) (YPair (fun i => some (.int (i : Nat))) (fun i => xs[i]?)) → R J H1))
theorem pi_enumD {X : Cx} {e : Expr} {ta : TA} {p pos tpos : Pos} {elts : List Expr} {kk : Nat} (gl : Gl X "enumerate") (no : X.mg "enumerate" = none) (ha : PA X [e] ta) (one : starEach [e] X.env = [(false, eval e X.env)] := by rfl) :
    PI X (.Tuple elts kk tpos) (.Call (.Name "enumerate" p) [e] [] pos) (iEnumD X.K ta) := by
  refine ⟨fun pins s σ H R I h => ?_⟩
  refine Call_ (ld_blt I gl no boot_enumerate (PyProof.Rows.callWith_type1 (thn (ha.run pos pins s σ H _ I h) fun us s1 ⟨vs, H1, I1, r1, a, xs, ex, hq⟩ => ?_) one rfl))
  subst ex
  obtain ⟨u, rfl, ru⟩ := vals1 r1
  cases (show u = Value.ref a from ru)
  have two : ∀ b : Addr, b ∈ [s1.heap.objs.size + 1, s1.heap.objs.size] → s1.heap.objs.size ≤ b := fun b hb => by
    rcases (show b = s1.heap.objs.size + 1 ∨ b = s1.heap.objs.size by simpa using hb) with rfl | rfl
    · exact Nat.le_add_right _ _
    · exact Nat.le_refl _
  rcases hq with ⟨hq, q⟩ | ⟨hq, q⟩
  · obtain ⟨its, rv, pl, hz⟩ := I1.list hq
    refine call_enumerate_list pl.isList fun h' he hit hsz hk => wpAny_pyIter_enum he ?_
    exact ⟨s1.heap.objs.size + 1, [s1.heap.objs.size + 1, s1.heap.objs.size], _, _, H1, rfl, I1.kept (t' := s1.toks) hk, turn_enum a (s1.heap.objs.size + 1) s1.heap.objs.size, ⟨⟨.none, he⟩, hit, Nat.succ_ne_self _⟩, fun b hb => I1.fpOk (two b hb) (I1.hok.fresh (two b hb)), q _ walk_enum⟩
  · obtain ⟨its, rv, tp, hz⟩ := I1.tuple hq
    have ha1 : a < s1.heap.objs.size := by
      obtain ⟨o, z, _⟩ := tp
      exact Heap.lt_size z
    refine enum1_begins (begins_tuple a its.toArray) tp fun h' he hit hk => wpAny_pyIter_enum he ?_
    exact ⟨s1.heap.objs.size + 1, [s1.heap.objs.size + 1, s1.heap.objs.size], _, _, H1, rfl, I1.kept (t' := s1.toks) hk, turn_enumT a (s1.heap.objs.size + 1) s1.heap.objs.size xs, ⟨⟨.none, he⟩, ⟨_, hit, rfl, rfl⟩, Nat.succ_ne_self _, Nat.ne_of_lt ha1, Nat.ne_of_lt (Nat.lt_succ_of_lt ha1)⟩, fun b hb => I1.fpOk (two b hb) (I1.hok.fresh (two b hb)), q _ walk_enumT⟩
theorem walk_enumD {K : PySem.W.Frag} {ct : Ct} {G : Gh} {H : Hp} {vs : List V} {ds : List D} {J : It} {Sq : Hp → Prop} (sty : ∀ {G' : Gh} {H' : Hp}, Mono G H G' H' → Sq H') (t : Rps K ct (off G.S H) vs ds)
    (w : Walk J vs.length Sq (YPair (fun i => some (.int (i : Nat))) (fun i => vs[i]?))) : WalkD K ct G H J (enumD 0 ds) := by
  have l : (enumD 0 ds).length = vs.length := by rw [enumD_len, t.len]
  refine ⟨fun i G' H' m hi => w.goes i H' (by rw [← l]; exact hi) (sty m), fun G' H' m => by rw [l]; exact w.stops H' (sty m), fun i G' H' x H'' m live hi y => ?_⟩
  obtain ⟨T, x0, y0, rfl, hT, rfl, e1, e2⟩ := w.yields i H' x H'' (by rw [← l]; exact hi) (sty m) y
  obtain ⟨d, ed, rd⟩ := (t.mono m.same).get e2
  cases e1
  refine ⟨Sb.Same.upd hT, .tup [.int (i : Int), d], ?_, new_tup live hT (.cons (.int _) (.one rd))⟩
  rw [enumD_get, ed, Nat.zero_add]
  rfl
end
end Vl
set_option Elab.async false
set_option linter.all false
set_option maxRecDepth 100000
set_option maxHeartbeats 2000000
namespace Vl
open PySem PySem.Spec PyProof.Rows L2 Sb
def liftI (K : PySem.W.Frag) (B : Bs) (Z : ZX) (f : Ev (List D)) : TI := fun σ H R => ∃ G env, Cfg K B G env σ H ∧ postG K B Z G σ H (f env) (fun ds _ G' H' => ∀ J, WalkD K B.ct G' H' J ds → R J H')
structure DI (X : Cx) (B : Bs) (Z : ZX) (tg it : Expr) (f : Ev (List D)) : Prop where
  pi : PI X tg it (liftI X.K B Z f)
section
variable {X : Cx} {B : Bs} {Z : ZX} {tg a b c e elt : Expr} {es elts : List Expr} {pos : Pos} {f g fe : Ev D} {fs fi : Ev (List D)} {ft : Ev Bool} {sts : List Stmt} {s : Ev Fl} {p : Pat}
def fItems (f : Ev D) : Ev (List D) := fun env => (f env).bind fun d e => match d with
  | .lst l => .val l e
  | .tup l => .val l e
  | .ctup l => .val l e
  | _ => .stuck
/-- a number of less than 63 bits; said so that it stands still where the number is not known -/
def sm62 (j : Int) : Bool := Nat.ble j.natAbs 4611686018427387903
theorem sm62_ok {j : Int} (h : sm62 j = true) : -(2 ^ 62) ≤ j ∧ j < 2 ^ 62 := by
  have e62 : (2 : Int) ^ 62 = 4611686018427387904 := by decide
  have h := Nat.le_of_ble_eq_true h
  rw [e62]
  omega
theorem sm62_of {j : Int} (h : -4611686018427387904 < j) (h2 : j < 4611686018427387904) : sm62 j = true := Nat.ble_eq_true_of_le (by omega)
def fRng1 (fs : Ev (List D)) : Ev (List D) := fun env => (fs env).bind fun l e => match l with
  | [.int j] => if sm62 j then .val (rangeD 0 j.toNat) e else .stuck
  | _ => .stuck
theorem Rps.oneE {K : PySem.W.Frag} {ct : Ct} {F : Hp} {vs : List V} {i : Int} (h : Rps K ct F vs [.int i]) : vs = [.int i] := by
  obtain ⟨v, ws, rfl, h1, h2⟩ := h.consE
  rw [h1.intE, h2.nilE]
theorem di_rng1 {px : Pos} (gl : Gl X "range") (hm : X.mg "range" = none) (ha : DA X B Z [e] fs) (hs : starEach [e] X.env = [(false, eval e X.env)] := by rfl) : DI X B Z tg (.Call (.Name "range" px) [e] [] pos) (fRng1 fs) :=
  ⟨PI.weak (pi_range1 gl hm ha.pa hs) fun σ H R ⟨G, env, c, q⟩ => ⟨G, env, c, post_imp (post_bind q) fun l e1 G1 H1 m1 c1 p1 vs rvs => by
    split at p1
    · rename_i j
      split at p1
      · rename_i hj
        exact ⟨j, rvs.oneE, (sm62_ok hj).1, (sm62_ok hj).2, p1 G1 H1 Mono.refl c1 _ walk_rng⟩
      · exact p1.elim
    · exact p1.elim⟩⟩
def fEnum (fs : Ev (List D)) : Ev (List D) := fun env => (fs env).bind fun l e => match l with
  | [.lst l] => .val (enumD 0 l) e
  | [.tup l] => .val (enumD 0 l) e
  | _ => .stuck
theorem di_enum {px tpos : Pos} {kk : Nat} (gl : Gl X "enumerate") (hm : X.mg "enumerate" = none) (ha : DA X B Z [e] fs) (hs : starEach [e] X.env = [(false, eval e X.env)] := by rfl) : DI X B Z (.Tuple elts kk tpos) (.Call (.Name "enumerate" px) [e] [] pos) (fEnum fs) :=
  ⟨PI.weak (pi_enumD gl hm ha.pa hs) fun σ H R ⟨G, env, c, q⟩ => ⟨G, env, c, post_imp (post_bind q) fun l e1 G1 H1 m1 c1 p1 vs rvs => by
    split at p1
    · rename_i l
      obtain ⟨v, ws, rfl, h1, h2⟩ := rvs.consE
      obtain ⟨x, xs, rfl, h3, t3⟩ := h1.lstE
      rw [h2.nilE]
      exact ⟨x, xs, rfl, .inl ⟨SqL.of (off_le _ _ h3), fun J w => p1 G1 H1 Mono.refl c1 J (walk_enumD (fun m => SqL.of (off_le _ _ (m.same _ _ h3))) t3 w)⟩⟩
    · rename_i l
      obtain ⟨v, ws, rfl, h1, h2⟩ := rvs.consE
      obtain ⟨x, xs, rfl, h3, t3⟩ := h1.tupE
      rw [h2.nilE]
      exact ⟨x, xs, rfl, .inr ⟨sqT_le h3, fun J w => p1 G1 H1 Mono.refl c1 J (walk_enumD (fun m => sqT_same off_le (sqT_same m.same h3)) t3 w)⟩⟩
    · exact p1.elim⟩⟩
def loopF (p : Pat) (s : Ev Fl) : List D → Ev Fl
  | [], env => .val .nx env
  | d :: ds, env => match p.put d env with
    | none => .stuck
    | some e1 => match s e1 with
      | .val .nx e2 => loopF p s ds e2
      | .val .ct e2 => loopF p s ds e2
      | .val .bk e2 => .val .nx e2
      | .val (.rt n r) e2 => .val (.rt n r) e2
      | .stuck => .stuck
      | .exc c as e2 => .exc c as e2
def fFor (fi : Ev (List D)) (p : Pat) (s : Ev Fl) : Ev Fl := fun env => (fi env).bind fun ds e => loopF p s ds e
theorem for_D {G1 : Gh} {H1 : Hp} {env1 : List Slot} {σ : L2.St} {J : It} {ds : List D} {E : Ends} (w : WalkD X.K B.ct G1 H1 J ds) (c1 : Cfg X.K B G1 env1 σ H1) (q : postS X.K B Z G1 H1 (loopF p s ds env1) E) :
    ∃ W : Nat → Nat → L2.St → Hp → Prop, (∃ m, W 0 m σ H1) ∧ ∀ i m σ H, W i m σ H →
      (J.stop i H ∧ E.nx σ H) ∨ (J.go i H ∧ ∃ N : L2.St → Hp → Prop, (∀ σ' H', N σ' H' → ∃ m', m' < m ∧ W (i + 1) m' σ' H') ∧ ∀ x H', J.yld i H x H' → liftG X.K B p x σ H' fun σ2 H2 => liftS X.K B Z s { E with nx := N, ct := N, bk := E.nx } σ2 H2) := by
  refine ⟨fun i m σ' H' => ∃ G' env', Cfg X.K B G' env' σ' H' ∧ Mono G1 H1 G' H' ∧ m + i = ds.length ∧ postS X.K B Z G' H' (loopF p s (ds.drop i) env') E, ⟨ds.length, G1, env1, c1, Mono.refl, rfl, q⟩, ?_⟩
  rintro i m σ' H' ⟨G', env', c', m', hm, q'⟩
  cases m with
  | zero =>
    have hi : i = ds.length := by omega
    subst hi
    rw [List.drop_length] at q'
    exact .inl ⟨w.stop G' H' m', q' G' σ' H' Mono.refl c'⟩
  | succ m =>
    have hi : i < ds.length := by omega
    refine .inr ⟨w.go i G' H' m' hi, fun σ2 H2 => ∃ G2 env2, Cfg X.K B G2 env2 σ2 H2 ∧ Mono G1 H1 G2 H2 ∧ m + (i + 1) = ds.length ∧ postS X.K B Z G2 H2 (loopF p s (ds.drop (i + 1)) env2) E, fun σ2 H2 h => ⟨m, Nat.lt_succ_self _, h⟩, fun x H'' y => ?_⟩
    obtain ⟨sm, d, ed, rd⟩ := w.yld i G' H' x H'' m' c'.live hi y
    have edr : ds.drop i = d :: ds.drop (i + 1) := by
      rw [List.drop_eq_getElem_cons hi]
      have := (List.getElem?_eq_some_iff.mp ed).2
      rw [this]
    rw [edr] at q'
    have c'' := c'.same sm
    have mm := c'.mono sm
    unfold loopF at q'
    cases hp : p.put d env' with
    | none =>
      rw [hp] at q'
      exact q'.elim
    | some e1 =>
      rw [hp] at q'
      refine ⟨G', env', d, e1, c'', rd, hp, fun σ2 c2 _ => ⟨G', e1, c2, ?_⟩⟩
      have q2 : postS X.K B Z G' H' (match s e1 with
        | .val .nx e2 => loopF p s (ds.drop (i + 1)) e2
        | .val .ct e2 => loopF p s (ds.drop (i + 1)) e2
        | .val .bk e2 => .val .nx e2
        | .val (.rt n r) e2 => .val (.rt n r) e2
        | .stuck => .stuck
        | .exc c as e2 => .exc c as e2) E := q'
      cases hs : s e1 with
      | stuck =>
        rw [hs] at q2
        exact q2.elim
      | exc cc as e2 =>
        rw [hs] at q2
        exact fun G3 σ3 H3 dd m3 c3 x => q2 G3 σ3 H3 dd (mm.trans m3) c3 x
      | val fl e2 =>
        rw [hs] at q2
        cases fl with
        | nx => exact fun G3 σ3 H3 m3 c3 => ⟨G3, e2, c3, (m'.trans mm).trans m3, by omega, postS_later (mm.trans m3) q2⟩
        | ct => exact fun G3 σ3 H3 m3 c3 => ⟨G3, e2, c3, (m'.trans mm).trans m3, by omega, postS_later (mm.trans m3) q2⟩
        | bk => exact fun G3 σ3 H3 m3 c3 => q2 G3 σ3 H3 (mm.trans m3) c3
        | rt n r => cases n <;> exact fun G3 σ3 H3 m3 c3 => q2 G3 σ3 H3 (mm.trans m3) c3
theorem ds_for (hp : PassesOwn (model X.prog X.w) X.A X.env X.xe) (hc : X.calm = true) (hi : DI X B Z tg e fi) (hg : DG X B tg p) (hb : DSs X B Z sts s) (hs : ∀ x, foldedSetIterable e X.env x = pure x := by intro _; rfl) :
    DS X B Z (.For tg e sts [] pos) (fFor fi p s) :=
  ⟨PS.weak (ps_for hp hc hi.pi hg.pg hb.pss hs) fun E σ H ⟨G, env, c, q⟩ => ⟨G, env, c, post_imp (exprS q) fun ds e1 G1 H1 m1 c1 p1 J w => for_D w c1 p1⟩⟩
def wipeE (env : List Slot) : List Nat → List Slot
  | [] => env
  | v :: vs => (wipeE env vs).set v .un
/-- the block's own names as they were before -/
def backE (old env : List Slot) : List Nat → List Slot
  | [] => env
  | v :: vs => match old[v]? with
    | some s => (backE old env vs).set v s
    | none => backE old env vs
def calmE (old : List Slot) (vs : List Nat) : Bool := vs.all fun v => match old[v]? with
  | some .un => true
  | some (.sh _) => true
  | _ => false
def compF (p : Pat) (ft : Ev Bool) (fe : Ev D) (vs : List Nat) : List D → List D → Ev (List D)
  | [], acc, env => .val acc env
  | d :: ds, acc, env => match p.put d (wipeE env vs) with
    | none => .stuck
    | some e1 => (ft e1).bind fun b e2 => if b = true then (fe e2).bind fun y e3 => if acc.length < sizeLine then compF p ft fe vs ds (acc ++ [y]) e3 else .stuck
      else compF p ft fe vs ds acc e2
def fComp (fi : Ev (List D)) (p : Pat) (ft : Ev Bool) (fe : Ev D) (vs : List Nat) : Ev D := fun env => (fi env).bind fun ds e1 => if calmE e1 vs then match compF p ft fe vs ds [] e1 with
  | .val acc e2 => .val (.lst acc) (backE e1 e2 vs)
  | _ => .stuck else .stuck
def fYes : Ev Bool := fun env => .val true env
structure DTs (X : Cx) (B : Bs) (Z : ZX) (ifs : List Expr) (f : Ev Bool) : Prop where
  pts : PTs X ifs (liftT X.K B Z f)
theorem dts_nil : DTs X B Z [] fYes := ⟨PTs.weak pts_nil fun σ H Q ⟨G, env, c, q⟩ => q G H Mono.refl c⟩
theorem Cfg.wipe {K : PySem.W.Frag} {G : Gh} {env : List Slot} {σ : L2.St} {H : Hp} (c : Cfg K B G env σ H) : ∀ vs : List Nat, Cfg K B G (wipeE env vs) (L2.wipe σ vs) H
  | [] => c
  | v :: vs => by
    have c := Cfg.wipe c vs
    show Cfg K B G ((wipeE env vs).set v .un) ((L2.wipe σ vs).set v none) H
    generalize wipeE env vs = env' at c
    generalize L2.wipe σ vs = σ' at c
    have ne : ∀ {j : Nat} {x : Option V}, v ≠ j → σ'[j]? = some x → (σ'.set v none)[j]? = some x := fun n h => by rw [List.getElem?_set_ne n]; exact h
    refine ⟨by simp [c.len], fun j d' ej => ?_, fun j d' ej => ?_, fun j d' ej => ?_, c.hid, c.inj, c.live, fun j d' b ej z => ?_, c.dom0, c.trs.keep rfl (fun j π a h => ⟨c.trs.hid j π a h, rfl, fun k => c.trs.far j π k a h⟩) (Same.refl _) fun j b d' ej => ?_⟩
    · rcases set_get ej with ⟨rfl, z, l⟩ | ⟨n, z⟩
      · cases z
      · obtain ⟨w, g1, g2⟩ := c.sh j d' z
        exact ⟨w, ne n g1, g2⟩
    · rcases set_get ej with ⟨rfl, z, _⟩ | ⟨n, z⟩
      · cases z
      · obtain ⟨b, g1, g2, g3⟩ := c.ow j d' z
        exact ⟨b, g1, ne n g2, g3⟩
    · rcases set_get ej with ⟨rfl, z, _⟩ | ⟨n, z⟩
      · cases z
      · obtain ⟨b, g1, g0, g2, g3⟩ := c.io j d' z
        exact ⟨b, g1, g0, ne n g2, g3⟩
    · rcases set_get ej with ⟨rfl, q, _⟩ | ⟨n, q⟩
      · cases q
      · exact c.frs j d' b q z
    · rcases set_get ej with ⟨_, q, _⟩ | ⟨n, q⟩
      · cases q
      · exact ⟨q, List.getElem?_set_ne n⟩
theorem wipe_idem (σ : L2.St) (vs : List Nat) : L2.wipe (L2.wipe σ vs) vs = L2.wipe σ vs := by
  have key : ∀ us : List Nat, (∀ u ∈ us, u ∈ vs) → L2.wipe (L2.wipe σ vs) us = L2.wipe σ vs := by
    intro us
    induction us with
    | nil => exact fun _ => rfl
    | cons u us ih =>
      intro h
      show (L2.wipe (L2.wipe σ vs) us).set u none = L2.wipe σ vs
      rw [ih fun x hx => h x (List.mem_cons_of_mem _ hx)]
      have hu : u ∈ vs := h u (List.mem_cons_self ..)
      clear ih h
      induction vs with
      | nil => simp at hu
      | cons w ws ihw =>
        show ((L2.wipe σ ws).set w none).set u none = (L2.wipe σ ws).set w none
        by_cases e : w = u
        · subst e
          rw [List.set_set]
        · have hu' : u ∈ ws := by
            rcases List.mem_cons.mp hu with z | z
            · exact absurd z.symm e
            · exact z
          rw [List.set_comm _ _ e, ihw hu']
  exact key vs fun _ h => h
section
variable {K : PySem.W.Frag} {G G1 : Gh} {env old : List Slot} {σ : L2.St} {H H1 : Hp} {a : Addr} {o : HO}
/-- a hidden thing that is no slot's is changed -/
theorem Cfg.tmpUpd (c : Cfg K B G env σ H) (hs : G.S a) (hn : G.un a) : Cfg K B G env σ (upd H a o) := by
  have m : Same (off G.S H) (off G.S (upd H a o)) := fun x u e => by
    obtain ⟨n, e⟩ := off_inv e
    rw [off_at n, upd_ne fun z => n (by rw [z]; exact hs)]
    exact e
  have ne : ∀ {j : Nat} {x : Addr}, G.r j = some x → x ≠ a := fun {j x} h z => hn.1 j (by rw [← z]; exact h)
  refine ⟨c.len, fun j d e => ?_, fun j d e => ?_, fun j d e => ?_, c.hid, c.inj, fun x h => ?_, c.frs, fun x h => upd_dom x (c.dom0 x h), c.trs.keep rfl (fun j π x h => ⟨c.trs.hid j π x h, upd_ne fun z => hn.2 j π (by rw [← z]; exact h), fun k => c.trs.far j π k x h⟩) m fun j b d e => ⟨e, rfl⟩⟩
  · obtain ⟨w, g1, g2⟩ := c.sh j d e
    exact ⟨w, g1, g2.mono m⟩
  · obtain ⟨b, g1, g2, g3⟩ := c.ow j d e
    exact ⟨b, g1, g2, g3.mono (upd_ne (ne g1)) m⟩
  · obtain ⟨b, g1, g0, g2, g3⟩ := c.io j d e
    exact ⟨b, g1, g0, g2, g3.mono (upd_ne (ne g1)) m⟩
  · by_cases ex : x = a
    · rw [ex, upd_same]
      exact Option.some_ne_none _
    · rw [upd_ne ex]
      exact c.live x h
theorem Mono.tmpUpd (m : Mono G1 H1 G H) (hs : G.S a) (h1 : ¬ G1.S a) : Mono G1 H1 G (upd H a o) :=
  ⟨fun c u e => by
    have e := m.same c u e
    obtain ⟨n, e⟩ := off_inv e
    rw [off_at n, upd_ne fun z => n (by rw [z]; exact hs)]
    exact e, fun q hq n => by
      obtain ⟨x1, x2, x3⟩ := m.tmp q hq n
      exact ⟨x1, x2, (upd_ne fun z => h1 (by rw [← z]; exact hq)).trans x3⟩, fun p h => upd_dom p (m.dom p h)⟩
/-- hidden no more -/
def Gh.show (G : Gh) (a : Addr) : Gh := ⟨fun c => G.S c ∧ c ≠ a, G.r, G.t⟩
theorem Mono.show (m : Mono G1 H1 G H) (h1 : ¬ G1.S a) : Mono G1 H1 (G.show a) H :=
  ⟨fun c u e => by
    obtain ⟨n, e⟩ := off_inv (m.same c u e)
    rw [off_at fun z => n z.1]
    exact e, fun q hq n => by
      obtain ⟨x1, x2, x3⟩ := m.tmp q hq n
      exact ⟨⟨x1, fun z => h1 (by rw [← z]; exact hq)⟩, x2, x3⟩, m.dom⟩
theorem off_show : Same (off G.S H) (off (G.show a).S H) := fun c u e => by
  obtain ⟨n, e⟩ := off_inv e
  rw [off_at fun z => n z.1]
  exact e
theorem Cfg.show (c : Cfg K B G env σ H) (hn : G.un a) : Cfg K B (G.show a) env σ H := by
  refine ⟨c.len, fun j d e => ?_, fun j d e => ?_, fun j d e => ?_, fun i x h => ⟨c.hid i x h, fun z => hn.1 i (by rw [← z]; exact h)⟩, c.inj, fun x h => c.live x h.1, c.frs, c.dom0, c.trs.keep rfl (fun j π x h => ⟨⟨c.trs.hid j π x h, fun z => hn.2 j π (by rw [← z]; exact h)⟩, rfl, fun k => c.trs.far j π k x h⟩) off_show fun j b d e => ⟨e, rfl⟩⟩
  · obtain ⟨w, g1, g2⟩ := c.sh j d e
    exact ⟨w, g1, g2.mono off_show⟩
  · obtain ⟨b, g1, g2, g3⟩ := c.ow j d e
    exact ⟨b, g1, g2, g3.mono rfl off_show⟩
  · obtain ⟨b, g1, g0, g2, g3⟩ := c.io j d e
    exact ⟨b, g1, g0, g2, g3.mono rfl off_show⟩
theorem wipeE_out {i : Nat} : ∀ {vs : List Nat}, i ∉ vs → (wipeE env vs)[i]? = env[i]?
  | [], _ => rfl
  | v :: vs, h => by
    show ((wipeE env vs).set v .un)[i]? = env[i]?
    rw [List.getElem?_set_ne fun e => h (by simp [e]), wipeE_out fun z => h (List.mem_cons_of_mem _ z)]
theorem wipe_out {i : Nat} : ∀ {vs : List Nat}, i ∉ vs → (L2.wipe σ vs)[i]? = σ[i]?
  | [], _ => rfl
  | v :: vs, h => by
    show ((L2.wipe σ vs).set v none)[i]? = σ[i]?
    rw [List.getElem?_set_ne fun e => h (by simp [e]), wipe_out fun z => h (List.mem_cons_of_mem _ z)]
theorem backE_len : ∀ vs : List Nat, (backE old env vs).length = env.length
  | [] => rfl
  | v :: vs => by
    unfold backE
    split
    · rw [List.length_set, backE_len vs]
    · exact backE_len vs
theorem wipeE_len : ∀ vs : List Nat, (wipeE env vs).length = env.length
  | [] => rfl
  | v :: vs => by
    show ((wipeE env vs).set v .un).length = _
    rw [List.length_set, wipeE_len vs]
theorem backE_out {i : Nat} : ∀ {vs : List Nat}, i ∉ vs → (backE old env vs)[i]? = env[i]?
  | [], _ => rfl
  | v :: vs, h => by
    unfold backE
    split
    · rw [List.getElem?_set_ne fun e => h (by simp [e]), backE_out fun z => h (List.mem_cons_of_mem _ z)]
    · exact backE_out fun z => h (List.mem_cons_of_mem _ z)
theorem backE_in (hl : env.length = old.length) {i : Nat} : ∀ {vs : List Nat}, i ∈ vs → (backE old env vs)[i]? = old[i]?
  | v :: vs, h => by
    unfold backE
    by_cases e : v = i
    · subst e
      split
      · rename_i s hs
        rw [List.getElem?_set_self (by rw [backE_len, hl]; exact (List.getElem?_eq_some_iff.mp hs).1), hs]
      · rename_i hs
        rw [hs]
        have : old.length ≤ v := List.getElem?_eq_none_iff.mp hs
        exact List.getElem?_eq_none_iff.mpr (by rw [backE_len, hl]; exact this)
    · have h' : i ∈ vs := by
        rcases List.mem_cons.mp h with z | z
        · exact absurd z.symm e
        · exact z
      split
      · rw [List.getElem?_set_ne e, backE_in hl h']
      · exact backE_in hl h'
theorem Cfg.back {vs : List Nat} (c1 : Cfg K B G1 old σ H1) (calm : calmE old vs = true) (c : Cfg K B G (wipeE env vs) (L2.wipe σ vs) H) (m : Mono G1 H1 G H) : Cfg K B G (backE old env vs) σ H := by
  have hl : env.length = old.length := by
    have h1 := c.len
    have h2 := c1.len
    rw [wipeE_len, L2.wipe_length] at h1
    omega
  have pick : ∀ {i : Nat} {s : Slot}, (backE old env vs)[i]? = some s → (i ∉ vs ∧ (wipeE env vs)[i]? = some s ∧ (L2.wipe σ vs)[i]? = σ[i]?) ∨ (old[i]? = some s ∧ (s = .un ∨ ∃ d, s = .sh d)) := fun {i s} h => by
    by_cases hi : i ∈ vs
    · rw [backE_in hl hi] at h
      refine .inr ⟨h, ?_⟩
      have hc := List.all_eq_true.mp calm i hi
      rw [h] at hc
      cases s with
      | un => exact .inl rfl
      | sh d => exact .inr ⟨d, rfl⟩
      | _ => cases hc
    · rw [backE_out hi] at h
      exact .inl ⟨hi, by rw [wipeE_out hi]; exact h, wipe_out hi⟩
  refine ⟨by rw [backE_len, hl]; exact c1.len, fun j d e => ?_, fun j d e => ?_, fun j d e => ?_, c.hid, c.inj, c.live, fun j d b e z => ?_, c.dom0, c.trs.keep rfl (fun j π x h => ⟨c.trs.hid j π x h, rfl, fun k => c.trs.far j π k x h⟩) (Same.refl _) fun j b d e => ?_⟩
  · rcases pick e with ⟨_, e1, e2⟩ | ⟨e1, _⟩
    · obtain ⟨w, g1, g2⟩ := c.sh j d e1
      rw [e2] at g1
      exact ⟨w, g1, g2⟩
    · obtain ⟨w, g1, g2⟩ := c1.sh j d e1
      exact ⟨w, g1, g2.mono m.same⟩
  · rcases pick e with ⟨_, e1, e2⟩ | ⟨_, z | ⟨d, z⟩⟩
    · obtain ⟨b, g1, g2, g3⟩ := c.ow j d e1
      rw [e2] at g2
      exact ⟨b, g1, g2, g3⟩
    · cases z
    · cases z
  · rcases pick e with ⟨_, e1, e2⟩ | ⟨_, z | ⟨d, z⟩⟩
    · obtain ⟨b, g1, g0, g2, g3⟩ := c.io j d e1
      rw [e2] at g2
      exact ⟨b, g1, g0, g2, g3⟩
    · cases z
    · cases z
  · rcases pick e with ⟨_, e1, e2⟩ | ⟨_, q | ⟨d, q⟩⟩
    · exact c.frs j d b e1 z
    · cases q
    · cases q
  · rcases pick e with ⟨_, e1, e2⟩ | ⟨_, q | ⟨d, q⟩⟩
    · exact ⟨e1, e2.symm⟩
    · cases q
    · cases q
end
theorem Out.bind_val {α β : Type} {o : Out α} {k : α → List Slot → Out β} {r : β} {e : List Slot} (h : o.bind k = .val r e) : ∃ a e1, o = .val a e1 ∧ k a e1 = .val r e := by
  cases o with
  | val a e1 => exact ⟨a, e1, rfl, h⟩
  | stuck => cases h
  | exc c as e1 => cases h
variable {Zb : ZX}
theorem lc_DN {vs : List Nat} {G1 : Gh} {H1 : Hp} {e1 eF : List Slot} {σ : L2.St} {J : It} {ds acF : List D} {Q : VK} (hw : p.wi vs = true) (w : WalkD X.K B.ct G1 H1 J ds) (c1 : Cfg X.K B G1 e1 σ H1) (calm : calmE e1 vs = true) (q : compF p ft fe vs ds [] e1 = .val acF eF)
    (hq : ∀ G' H' L, H1 L = none → Mono G1 H1 G' H' → Cfg X.K B G' (backE e1 eF vs) σ H' → G'.S L → G'.un L → OwnAt X.K B.ct H' (off G'.S H') L (.lst acF) → Q (.ref L) H') : ∀ L, H1 L = none → ∃ W : Nat → Nat → Hp → Prop, (∃ m, W 0 m (upd H1 L (.lst []))) ∧ ∀ i m H, W i m H →
      (J.stop i H ∧ Q (.ref L) H) ∨ (J.go i H ∧ ∃ Nx : Hp → Prop, (∀ H', Nx H' → ∃ m', m' < m ∧ W (i + 1) m' H') ∧ ∀ x H', J.yld i H x H' → liftG X.K B p x (wipe σ vs) H' fun σ2 H2 => wipe σ2 vs = wipe σ vs ∧ liftT X.K B Zb ft σ2 H2 fun b H3 =>
        if b = true then liftE X.K B Zb fe σ2 H3 fun y H4 => ∃ acc, H4 L = some (.lst acc) ∧ acc.length < sizeLine ∧ Nx (upd H4 L (.lst (acc ++ [y]))) else Nx H3) := by
  intro L hL
  have nS1 : ¬ G1.S L := fun z => c1.live L z hL
  let W : Nat → Nat → Hp → Prop := fun i m H => ∃ G env acV acc, Cfg X.K B G (wipeE env vs) (L2.wipe σ vs) H ∧ Mono G1 H1 G H ∧ G.S L ∧ G.un L ∧ H L = some (.lst acV) ∧ Rps X.K B.ct (off G.S H) acV acc ∧ m + i = ds.length ∧ compF p ft fe vs (ds.drop i) acc env = .val acF eF
  refine ⟨W, ⟨ds.length, G1.hide L, e1, [], [], ((c1.wipe vs).hide hL), Mono.hide hL c1.live, .inr rfl, c1.newUn hL, upd_same, .nil, rfl, q⟩, ?_⟩
  rintro i m H ⟨G, env, acV, acc, c, mm, hS, hR, hLH, rac, hm, hc⟩
  cases m with
  | zero =>
    have hi : i = ds.length := by omega
    subst hi
    rw [List.drop_length] at hc
    cases hc
    exact .inl ⟨w.stop G H mm, hq G H L hL mm (Cfg.back c1 calm c mm) hS hR ⟨acV, hLH, rac⟩⟩
  | succ m =>
    have hi : i < ds.length := by omega
    refine .inr ⟨w.go i G H mm hi, W (i + 1) m, fun H' h => ⟨m, Nat.lt_succ_self _, h⟩, fun x H'' y => ?_⟩
    obtain ⟨sm, d, ed, rd⟩ := w.yld i G H x H'' mm c.live hi y
    have edr : ds.drop i = d :: ds.drop (i + 1) := by
      rw [List.drop_eq_getElem_cons hi]
      have := (List.getElem?_eq_some_iff.mp ed).2
      rw [this]
    rw [edr] at hc
    unfold compF at hc
    cases hp : p.put d (wipeE env vs) with
    | none =>
      rw [hp] at hc
      cases hc
    | some e2 =>
      rw [hp] at hc
      obtain ⟨b, e3, hft, hc⟩ := Out.bind_val hc
      have mm1 := mm.trans (c.mono sm)
      refine ⟨G, wipeE env vs, d, e2, c.same sm, rd, hp, fun σ2 c2 w2 => ⟨by rw [w2 vs hw, wipe_idem], G, e2, c2, ?_⟩⟩
      rw [hft]
      intro G3 H3 m3 c3
      have w3 : L2.wipe σ2 vs = L2.wipe σ vs := by rw [w2 vs hw, wipe_idem]
      have hL1 : H'' L = some (.lst acV) := sm _ _ hLH
      have rac1 := rac.mono (off_same sm)
      obtain ⟨t1, t2, t3⟩ := m3.tmp L hS hR
      cases b with
      | false =>
        rw [if_neg Bool.false_ne_true] at hc
        refine iteF ⟨G3, e3, acV, acc, ?_, mm1.trans m3, t1, t2, t3.trans hL1, rac1.mono m3.same, by omega, hc⟩
        rw [← w3]
        exact c3.wipe vs
      | true =>
        rw [if_pos rfl] at hc
        obtain ⟨yd, e4, hfe, hc⟩ := Out.bind_val hc
        refine iteT ⟨G3, e3, c3, ?_⟩
        rw [hfe]
        intro G4 H4 m4 c4 v rv
        obtain ⟨u1, u2, u3⟩ := m4.tmp L t1 t2
        have hL4 : H4 L = some (.lst acV) := u3.trans (t3.trans hL1)
        have rac4 := (rac1.mono m3.same).mono m4.same
        by_cases hl : acc.length < sizeLine
        · rw [if_pos hl] at hc
          have keep : Same (off G4.S H4) (off G4.S (upd H4 L (.lst (acV ++ [v])))) := fun c u e => by
            obtain ⟨n, e⟩ := off_inv e
            rw [off_at n, upd_ne fun z => n (by rw [z]; exact u1)]
            exact e
          refine ⟨acV, hL4, by rw [rac4.len]; exact hl, G4, e4, acV ++ [v], acc ++ [yd], ?_, ((mm1.trans m3).trans m4).tmpUpd u1 nS1, u1, u2, upd_same, (rac4.app (.one rv)).mono keep, by omega, hc⟩
          rw [← w3]
          exact (c4.wipe vs).tmpUpd u1 u2
        · rw [if_neg hl] at hc
          cases hc
theorem lc_D {vs : List Nat} {G1 : Gh} {H1 : Hp} {e1 eF : List Slot} {σ : L2.St} {J : It} {ds acF : List D} {Q : VK} (hw : p.wi vs = true) (w : WalkD X.K B.ct G1 H1 J ds) (c1 : Cfg X.K B G1 e1 σ H1) (calm : calmE e1 vs = true) (q : compF p ft fe vs ds [] e1 = .val acF eF)
    (hq : ∀ G' H', Mono G1 H1 G' H' → Cfg X.K B G' (backE e1 eF vs) σ H' → ∀ v, Rp X.K B.ct (off G'.S H') v (.lst acF) → Q v H') : ∀ L, H1 L = none → ∃ W : Nat → Nat → Hp → Prop, (∃ m, W 0 m (upd H1 L (.lst []))) ∧ ∀ i m H, W i m H →
      (J.stop i H ∧ Q (.ref L) H) ∨ (J.go i H ∧ ∃ Nx : Hp → Prop, (∀ H', Nx H' → ∃ m', m' < m ∧ W (i + 1) m' H') ∧ ∀ x H', J.yld i H x H' → liftG X.K B p x (wipe σ vs) H' fun σ2 H2 => wipe σ2 vs = wipe σ vs ∧ liftT X.K B Zb ft σ2 H2 fun b H3 =>
        if b = true then liftE X.K B Zb fe σ2 H3 fun y H4 => ∃ acc, H4 L = some (.lst acc) ∧ acc.length < sizeLine ∧ Nx (upd H4 L (.lst (acc ++ [y]))) else Nx H3) :=
  lc_DN hw w c1 calm q fun G' H' L hL mm c hS hR ho => by
    have nS1 : ¬ G1.S L := fun z => c1.live L z hL
    obtain ⟨vs', h1, h2⟩ := ho
    exact hq (G'.show L) H' (mm.show nS1) (c.show hR) _ (.lst (by rw [off_at (show ¬ (G'.S L ∧ L ≠ L) from fun z => z.2 rfl)]; exact h1) (h2.mono off_show))
theorem lift_lc {vs : List Nat} (hw : p.wi vs = true) (σ : L2.St) (H : Hp) (Q : VK) (h : liftE X.K B Z (fComp fi p ft fe vs) σ H Q) : tLc (liftI X.K B Z fi) (liftG X.K B p) (liftT X.K B Zb ft) (liftE X.K B Zb fe) vs σ H Q := by
  obtain ⟨G, env, c, q⟩ := h
  refine ⟨G, env, c, post_imp (post_bind q) fun ds e1 G1 H1 m1 c1 p1 J w => ?_⟩
  by_cases calm : calmE e1 vs = true
  · rw [if_pos calm] at p1
    cases hc : compF p ft fe vs ds [] e1 with
    | val acF eF =>
      rw [hc] at p1
      exact lc_D hw w c1 calm hc p1
    | stuck =>
      rw [hc] at p1
      exact p1.elim
    | exc cc as e2 =>
      rw [hc] at p1
      exact p1.elim
  · rw [if_neg calm] at p1
    exact p1.elim
theorem de_comp {ifs : List Expr} {scope : Scope} {own : List (Str × Nat)} (hc : X.calm = true) (hN : X.N.Nodup) (hi : DI X B Z tg e fi) (ok : BlkOk X.N X.env.scope scope own) (hw : p.wi (own.map (·.2)) = true)
    (hg : ∀ (s : Shared) (H : Hp) (C : Addr) (cl : List (Str × Addr)) (fp : List Addr), DG (X.blk s H scope (compEnvC scope cl C X.env) fp) B tg p) (ht : ∀ (s : Shared) (H : Hp) (C : Addr) (cl : List (Str × Addr)) (fp : List Addr), DTs (X.blk s H scope (compEnvC scope cl C X.env) fp) B Zb ifs ft)
    (he : ∀ (s : Shared) (H : Hp) (C : Addr) (cl : List (Str × Addr)) (fp : List Addr), DE (X.blk s H scope (compEnvC scope cl C X.env) fp) B Zb elt fe) (hs : ∀ x, foldedSetIterable e X.env x = pure x := by intro _; rfl) :
    DE X B Z (.ListComp elt [⟨tg, e, ifs, 0⟩] scope pos) (fComp fi p ft fe (own.map (·.2))) :=
  ⟨PE.weak (pe_lc hc hN hi.pi ok (fun s H C cl fp => (hg s H C cl fp).pg) (fun s H C cl fp => (ht s H C cl fp).pts) (fun s H C cl fp => (he s H C cl fp).pe) hs) (lift_lc hw)⟩
end
end Vl
set_option Elab.async false
set_option linter.all false
set_option maxRecDepth 100000
set_option maxHeartbeats 2000000
namespace Vl
open PySem PySem.Spec PyProof.Rows L2 Sb
/-- the arguments: m tells which ones may be changed; they stand at ia -/
structure ArgsOk (K : PySem.W.Frag) (ct : Ct) (S : Addr → Prop) (ia : Nat → Option Addr) (m : List Bool) (vs : List V) (ds : List D) (H : Hp) : Prop where
  lv : vs.length = m.length
  ld : ds.length = m.length
  sh : ∀ (j : Nat) (v : V) (d : D), m[j]? = some false → vs[j]? = some v → ds[j]? = some d → Rp K ct (off S H) v d
  io : ∀ (j : Nat) (v : V) (d : D), m[j]? = some true → vs[j]? = some v → ds[j]? = some d → ∃ a, ia j = some a ∧ v = .ref a ∧ OwnAt K ct H (off S H) a d
  only : ∀ (j : Nat) (a : Addr), ia j = some a → m[j]? = some true
  hid : ∀ (j : Nat) (a : Addr), ia j = some a → S a
  inj : ∀ (i j : Nat) (a : Addr), ia i = some a → ia j = some a → i = j
  live : ∀ (a : Addr), S a → H a ≠ none
inductive Res where
  | stuck | ret (n : Bool) (d : D) (ns : List D) | exc (c : Str) (as : List D) (ns : List D)
structure Frame (K : PySem.W.Frag) (ct : Ct) (S S' : Addr → Prop) (ia : Nat → Option Addr) (H H' : Hp) (ns : List D) : Prop where
  same : Same (off S H) (off S' H')
  hold : ∀ c, S c → (∀ j, ia j ≠ some c) → H' c = H c
  new : ∀ (j : Nat) (a : Addr), ia j = some a → ∃ d, ns[j]? = some d ∧ OwnAt K ct H' (off S' H') a d
  dom : ∀ p, H p ≠ none → H' p ≠ none
def more (S : Addr → Prop) (a : Addr) : Addr → Prop := fun c => S c ∨ c = a
def spV (K : PySem.W.Frag) (ct : Ct) (m : List Bool) (Φ : List D → Res) : Sp := fun vs H Q E => ∃ S ia ds, ArgsOk K ct S ia m vs ds H ∧ match Φ ds with
  | .stuck => False
  | .ret false r ns => ∀ v H', Frame K ct S S ia H H' ns → Rp K ct (off S H') v r → Q v H'
  | .ret true r ns => ∀ a H', H a = none → Frame K ct S (more S a) ia H H' ns → OwnAt K ct H' (off (more S a) H') a r → Q (.ref a) H'
  | .exc c as ns => ∀ H' dd C nm, Frame K ct S S ia H H' ns → ExcAt K ct (off S H') dd c as → ct c = some (C, nm) → E (.ref C) (some dd) H'
def mkEnv (m : List Bool) (n : Nat) (ds : List D) : List Slot := List.zipWith (fun b d => if b then Slot.io d else Slot.sh d) m ds ++ List.replicate (n - m.length) .un
def ioAt (env : List Slot) : Nat → List Bool → Option (List D)
  | _, [] => some []
  | j, b :: m => match b, env[j]?, ioAt env (j + 1) m with
    | false, _, some l => some (.non :: l)
    | true, some (.io d), some l => some (d :: l)
    | _, _, _ => none
theorem ioAt_get {env : List Slot} : ∀ (m : List Bool) (k : Nat) (l : List D), ioAt env k m = some l → ∀ j, m[j]? = some true → ∃ d, l[j]? = some d ∧ env[k + j]? = some (.io d)
  | [], _, _, _, j, h => by simp at h
  | b :: m, k, l, e, j, h => by
    unfold ioAt at e
    split at e
    · rename_i _ _ l' e2
      cases e
      cases j with
      | zero => simp at h
      | succ j =>
        obtain ⟨d, h1, h2⟩ := ioAt_get m (k + 1) l' e2 j (by simpa using h)
        exact ⟨d, by simpa using h1, by rw [show k + (j + 1) = k + 1 + j by omega]; exact h2⟩
    · rename_i _ d l' e2 e3
      cases e
      cases j with
      | zero => exact ⟨d, rfl, e2⟩
      | succ j =>
        obtain ⟨d', h1, h2⟩ := ioAt_get m (k + 1) l' e3 j (by simpa using h)
        exact ⟨d', by simpa using h1, by rw [show k + (j + 1) = k + 1 + j by omega]; exact h2⟩
    · cases e
def Res.of (m : List Bool) (o : Out Fl) : Res := match o with
  | .val (.rt n d) env => match ioAt env 0 m with
    | some l => .ret n d l
    | none => .stuck
  | .val .nx env => match ioAt env 0 m with
    | some l => .ret false .non l
    | none => .stuck
  | .exc c as env => match ioAt env 0 m with
    | some l => .exc c as l
    | none => .stuck
  | _ => .stuck
def runV (m : List Bool) (n : Nat) (F : Ev Fl) (ds : List D) : Res := Res.of m (F (mkEnv m n ds))
/-- without exceptions -/
def Res.quiet : Res → Res
  | .exc _ _ _ => .stuck
  | r => r
section
variable {K : PySem.W.Frag} {ct : Ct} {S : Addr → Prop} {ia : Nat → Option Addr} {m : List Bool} {vs : List V} {ds : List D} {H : Hp} {N : List Str}
theorem mkEnv_get {n j : Nat} {s : Slot} (hl : ds.length = m.length) (h : (mkEnv m n ds)[j]? = some s) : (∃ b d, m[j]? = some b ∧ ds[j]? = some d ∧ s = if b then .io d else .sh d) ∨ (m.length ≤ j ∧ s = .un) := by
  unfold mkEnv at h
  by_cases e : j < m.length
  · rw [List.getElem?_append_left (by rw [List.length_zipWith]; omega), List.getElem?_zipWith] at h
    have e2 : j < ds.length := by omega
    rw [List.getElem?_eq_getElem e, List.getElem?_eq_getElem e2] at h
    exact .inl ⟨_, _, List.getElem?_eq_getElem e, List.getElem?_eq_getElem e2, (Option.some.inj h).symm⟩
  · rw [List.getElem?_append_right (by rw [List.length_zipWith]; omega)] at h
    have := List.mem_of_getElem? h
    exact .inr ⟨by omega, (List.mem_replicate.mp this).2⟩
theorem start_get {j : Nat} {v : V} (h : vs[j]? = some v) : (L2.start N vs)[j]? = some (some v) := by
  unfold L2.start
  have hl := (List.getElem?_eq_some_iff.mp h).1
  rw [List.getElem?_append_left (by simpa using hl), List.getElem?_map, h]
  rfl
def noT : Nat → List Nat → Option Addr := fun _ _ => none
theorem Trees.none {K : PySem.W.Frag} {B : Bs} {S : Addr → Prop} {r : Nat → Option Addr} {env : List Slot} {σ : L2.St} {H : Hp} (h : ∀ (i : Nat) (b : Bool) (d : D), env[i]? ≠ some (.tr b d)) : Trees K B ⟨S, r, noT⟩ env σ H :=
  ⟨fun i b d e => absurd e (h i b d), fun i π a z => (by cases z), fun i π j ρ a z => (by cases z), fun i π j a z => (by cases z), fun i d e => absurd e (h i true d), fun i π a b d e => absurd e (h i b d)⟩
theorem start_cfg (A : ArgsOk K ct S ia m vs ds H) (hn : m.length ≤ N.length) : Cfg K ⟨ct, ia, H, noT⟩ ⟨S, ia, noT⟩ (mkEnv m N.length ds) (L2.start N vs) H := by
  have at_ : ∀ {j : Nat} {b : Bool}, m[j]? = some b → ∃ v, vs[j]? = some v := fun {j b} h => by
    have := (List.getElem?_eq_some_iff.mp h).1
    exact ⟨vs[j]'(by rw [A.lv]; exact this), List.getElem?_eq_getElem _⟩
  refine ⟨?_, fun j d e => ?_, fun j d e => ?_, fun j d e => ?_, A.hid, A.inj, A.live, fun j d a e _ => ?_, fun _ h => h, Trees.none fun j b d e => ?_⟩
  · have h1 := A.lv
    have h2 := A.ld
    unfold mkEnv L2.start
    simp only [List.length_append, List.length_zipWith, List.length_replicate, List.length_map]
    omega
  · rcases mkEnv_get A.ld e with ⟨b, d', h1, h2, h3⟩ | ⟨_, h⟩
    · cases b with
      | true => cases h3
      | false =>
        cases h3
        obtain ⟨v, hv⟩ := at_ h1
        exact ⟨v, start_get hv, A.sh j v _ h1 hv h2⟩
    · cases h
  · rcases mkEnv_get A.ld e with ⟨b, d', h1, h2, h3⟩ | ⟨_, h⟩
    · cases b <;> cases h3
    · cases h
  · rcases mkEnv_get A.ld e with ⟨b, d', h1, h2, h3⟩ | ⟨_, h⟩
    · cases b with
      | false => cases h3
      | true =>
        cases h3
        obtain ⟨v, hv⟩ := at_ h1
        obtain ⟨a, g1, g2, g3⟩ := A.io j v _ h1 hv h2
        subst g2
        exact ⟨a, g1, g1, start_get hv, g3⟩
    · cases h
  · rcases mkEnv_get A.ld e with ⟨b, d', h1, h2, h3⟩ | ⟨_, h⟩
    · cases b <;> cases h3
    · cases h
  · rcases mkEnv_get A.ld e with ⟨b, d', h1, h2, h3⟩ | ⟨_, h⟩
    · cases b <;> cases h3
    · cases h
/-- the frame at the end -/
theorem end_frame {S' : Addr → Prop} {G' : Gh} {env : List Slot} {σ' : L2.St} {H' : Hp} {l : List D} (A : ArgsOk K ct S ia m vs ds H) (mm : Mono ⟨S, ia, noT⟩ H G' H') (c : Cfg K ⟨ct, ia, H, noT⟩ G' env σ' H') (e : ioAt env 0 m = some l) (hS : ∀ x, S' x → S x ∨ G'.S x) : Frame K ct S S' ia H H' l ∧ Same (off G'.S H') (off S' H') := by
  have own : ∀ {j : Nat} {a : Addr}, ia j = some a → ∃ d, l[j]? = some d ∧ G'.r j = some a ∧ OwnAt K ct H' (off G'.S H') a d := fun {j a} h => by
    obtain ⟨d, h1, h2⟩ := ioAt_get m 0 l e j (A.only j a h)
    rw [Nat.zero_add] at h2
    obtain ⟨a', g1, g2, g3, g4⟩ := c.io j d h2
    have g2 : ia j = some a' := g2
    rw [h] at g2
    cases g2
    exact ⟨d, h1, g1, g4⟩
  have le : Same (off G'.S H') (off S' H') := fun x u h => by
    obtain ⟨n, h⟩ := off_inv h
    rw [off_at fun z => n ?_]
    · exact h
    · rcases hS x z with z | z
      · by_cases q : ∃ j, ia j = some x
        · obtain ⟨j, q⟩ := q
          obtain ⟨d, _, g, _⟩ := own q
          exact c.hid j x g
        · exact (mm.tmp x z ⟨fun i y => q ⟨i, y⟩, fun i π y => by cases y⟩).1
      · exact z
  refine ⟨⟨fun x u h => le _ _ (mm.same x u h), fun x hx n => (mm.tmp x hx ⟨n, fun i π y => by cases y⟩).2.2, fun j a h => ?_, mm.dom⟩, le⟩
  obtain ⟨d, h1, _, h3⟩ := own h
  exact ⟨d, h1, h3.mono rfl le⟩
end
def ZNo : ZX := fun _ _ _ _ _ _ _ => False
section
variable {P : Program} {w : World} {K : PySem.W.Frag} {mg : Str → Option Value} {base : Heap} {k : Nat} {f : Addr} {ct : Ct}
/-- a def's promise by its body over data -/
theorem okV {x qual : Str} {st : Stmt} {fd : FuncData} {N ps : List Str} {m : List Bool} {Fs : Ev Fl} (F : Fun K x qual st f fd) (Zs : FnScope N ps (defScope st)) (hm : m.length = ps.length)
    (hb : ∀ (io : Nat → Option Addr) (cdv : Value) (A : Around) (out : List Env) (s : Shared) (H : Hp) (E : XK), A.guards = some [] → Room k (A.deeper (envOfC qual (defScope st) s.heap.objs.size f cdv)) →
      DSs (cxOf CX0 P w K mg base N qual (defScope st) f cdv A out s H E).nox ⟨ct, io, H, noT⟩ ZNo (defBody st) Fs) : FnG P w K mg base CX0 (k + 1) f fd ps (spV K ct m fun ds => (runV m N.length Fs ds).quiet) := by
  have hn : m.length ≤ N.length := by
    rw [hm]
    have := congrArg List.length Zs.pre
    rw [List.length_take] at this
    omega
  refine okG F Zs (fun vs H Q E h => ?_) (fun cdv A out s H vs Q E hg hr h => ?_)
  · obtain ⟨S, ia, ds, A, _⟩ := h
    rw [A.lv, hm]
  · obtain ⟨S, ia, ds, Ar, q⟩ := h
    refine ⟨_, (hb ia cdv A out s H E hg hr).pss, ⟨S, ia, noT⟩, mkEnv m N.length ds, start_cfg Ar hn, ?_⟩
    have fin : ∀ {G' : Gh} {env : List Slot} {σ' : L2.St} {H' : Hp} {l : List D}, Mono ⟨S, ia, noT⟩ H G' H' → Cfg K ⟨ct, ia, H, noT⟩ G' env σ' H' → ioAt env 0 m = some l → Frame K ct S S ia H H' l ∧ Same (off G'.S H') (off S H') := fun a b c => end_frame Ar a b c fun _ h => .inl h
    have q : (match (runV m N.length Fs ds).quiet with
  | .stuck => False
  | .ret false r ns => ∀ v H', Frame K ct S S ia H H' ns → Rp K ct (off S H') v r → Q v H'
  | .ret true r ns => ∀ a H', H a = none → Frame K ct S (more S a) ia H H' ns → OwnAt K ct H' (off (more S a) H') a r → Q (.ref a) H'
  | .exc c as ns => ∀ H' dd C nm, Frame K ct S S ia H H' ns → ExcAt K ct (off S H') dd c as → ct c = some (C, nm) → E (.ref C) (some dd) H') := q
    unfold runV at q
    cases ho : Fs (mkEnv m N.length ds) with
    | stuck =>
      rw [ho] at q
      exact q.elim
    | exc c as env =>
      rw [ho] at q
      simp only [Res.of] at q
      cases hl : ioAt env 0 m <;> (rw [hl] at q; exact q.elim)
    | val fl env =>
      rw [ho] at q
      cases fl with
      | bk => exact q.elim
      | ct => exact q.elim
      | nx =>
        simp only [Res.of] at q
        cases hl : ioAt env 0 m with
        | none =>
          rw [hl] at q
          exact q.elim
        | some l =>
          rw [hl] at q
          exact fun G' σ' H' mm c => q _ H' (fin mm c hl).1 .non
      | rt n d =>
        simp only [Res.of] at q
        cases hl : ioAt env 0 m with
        | none =>
          rw [hl] at q
          exact q.elim
        | some l =>
          rw [hl] at q
          cases n with
          | false => exact fun G' σ' H' mm c v rv => q v H' (fin mm c hl).1 (rv.mono (fin mm c hl).2)
          | true =>
            intro G' σ' H' mm c a h0 hs ho'
            have ee := end_frame (S' := more S a) Ar mm c hl fun x hx => hx.elim .inl fun e => .inr (by rw [e]; exact hs)
            exact q a H' h0 ee.1 (ho'.mono rfl ee.2)
end
abbrev Ag := D ⊕ Nat
def liftAi (K : PySem.W.Frag) (B : Bs) (Z : ZX) (f : Ev (List Ag)) : TA := fun σ H Q => ∃ G env, Cfg K B G env σ H ∧ postG K B Z G σ H (f env) (fun l _ G' H' => ∀ vs, Paired (fun v (g : Ag) => match g with
  | .inl d => Rp K B.ct (off G'.S H') v d
  | .inr i => σ[i]? = some (some v)) vs l → Q vs H')
structure DAi (X : Cx) (B : Bs) (Z : ZX) (e : List Expr) (f : Ev (List Ag)) : Prop where
  pa : PA X e (liftAi X.K B Z f)
def gNl : Ev (List Ag) := fun env => .val [] env
def gCn (f : Ev D) (fs : Ev (List Ag)) : Ev (List Ag) := fun env => (f env).bind fun d e1 => (fs e1).bind fun l e2 => .val (.inl d :: l) e2
def gIo (i : Nat) (fs : Ev (List Ag)) : Ev (List Ag) := fun env => match env[i]? with
  | some (.ow _) => (fs env).bind fun l e2 => .val (.inr i :: l) e2
  | some (.io _) => (fs env).bind fun l e2 => .val (.inr i :: l) e2
  | _ => .stuck
section
variable {X : Cx} {B : Bs} {Z : ZX} {e : Expr} {es : List Expr} {pos : Pos} {f : Ev D} {fs : Ev (List Ag)}
theorem dai_nil : DAi X B Z [] gNl := ⟨PA.weak pa_nil fun σ H Q ⟨G, env, c, p⟩ => p G H Mono.refl c [] .nil⟩
theorem dai_cons (ha : DE X B Z e f) (hr : DAi X B Z es fs) (hs : starEach (e :: es) X.env = (false, eval e X.env) :: starEach es X.env := by rfl) : DAi X B Z (e :: es) (gCn f fs) :=
  ⟨PA.weak (pa_cons ha.pe hr.pa hs) fun σ H Q ⟨G, env, c, p⟩ =>
    ⟨G, env, c, post_imp (post_bind p) fun d e1 G1 H1 m1 c1 p1 v rv => ⟨G1, e1, c1, post_imp (post_bind p1) fun l e2 G2 H2 m2 c2 p2 vs rvs => p2 G2 H2 Mono.refl c2 (v :: vs) (.cons (rv.mono m2.same) rvs)⟩⟩⟩
theorem dai_io {i : Nat} {x : Str} (hN : X.N[i]? = some x) (hv : Vis X.env.scope x) (hr : DAi X B Z es fs) (hd : (x == ("__debug__" : Str)) = false := by decide) (hcd : (x == ("__classdict__" : Str)) = false := by decide)
    (hs : starEach (.Name x pos :: es) X.env = (false, eval (.Name x pos) X.env) :: starEach es X.env := by rfl) : DAi X B Z (.Name x pos :: es) (gIo i fs) :=
  ⟨PA.weak (pa_cons (pe_var hN hv hd hcd) hr.pa hs) fun σ H Q ⟨G, env, c, p⟩ => by
    unfold gIo at p
    split at p
    · rename_i d hd
      obtain ⟨a, h1, h2, _⟩ := c.own (b := false) hd
      exact ⟨_, h2, G, env, c, post_imp (post_bind p) fun l e2 G2 H2 m2 c2 p2 vs rvs => p2 G2 H2 Mono.refl c2 _ (.cons h2 rvs)⟩
    · rename_i d hd
      obtain ⟨a, h1, h2, _⟩ := c.own (b := true) hd
      exact ⟨_, h2, G, env, c, post_imp (post_bind p) fun l e2 G2 H2 m2 c2 p2 vs rvs => p2 G2 H2 Mono.refl c2 _ (.cons h2 rvs)⟩
    · exact p.elim⟩
end
/-- what an argument is now -/
def agD (env : List Slot) : Ag → Option D
  | .inl d => some d
  | .inr i => match env[i]? with
    | some (.ow d) => some d
    | some (.io d) => some d
    | _ => none
def agDs (env : List Slot) : List Ag → Option (List D)
  | [] => some []
  | g :: l => match agD env g, agDs env l with
    | some d, some ds => some (d :: ds)
    | _, _ => none
def Ag.isIo : Ag → Bool
  | .inl _ => false
  | .inr _ => true
def ioSlots : List Ag → List Nat
  | [] => []
  | .inl _ :: l => ioSlots l
  | .inr i :: l => i :: ioSlots l
def put1 (env : List Slot) (i : Nat) (d : D) : List Slot := match env[i]? with
  | some (.ow _) => env.set i (.ow d)
  | some (.io _) => env.set i (.io d)
  | _ => env
def putAll : List Slot → List Ag → List D → List Slot
  | env, .inr i :: l, d :: ds => putAll (put1 env i d) l ds
  | env, .inl _ :: l, _ :: ds => putAll env l ds
  | env, _, _ => env
def fCall (m : List Bool) (Φ : List D → Res) (dd : List D) (fs : Ev (List Ag)) : Ev D := fun env => (fs env).bind fun l e => match agDs e l with
  | none => .stuck
  | some ds => if l.map Ag.isIo ++ dd.map (fun _ => false) = m ∧ (ioSlots l).Nodup then (match Φ (ds ++ dd) with
    | .ret _ r ns => .val r (putAll e l ns)
    | .exc c as ns => .exc c as (putAll e l ns)
    | .stuck => .stuck) else .stuck
/-- a call whose value is new -/
def fCallN (m : List Bool) (Φ : List D → Res) (dd : List D) (fs : Ev (List Ag)) : Ev D := fun env => (fs env).bind fun l e => match agDs e l with
  | none => .stuck
  | some ds => if l.map Ag.isIo ++ dd.map (fun _ => false) = m ∧ (ioSlots l).Nodup then (match Φ (ds ++ dd) with
    | .ret true r ns => .val r (putAll e l ns)
    | .exc c as ns => .exc c as (putAll e l ns)
    | _ => .stuck) else .stuck
end Vl
set_option Elab.async false
set_option linter.all false
set_option maxRecDepth 100000
set_option maxHeartbeats 2000000
namespace Vl
open PySem PySem.Spec PyProof.Rows L2 Sb
/-- an error of a call is met, in the state of the call -/
def PassesS (CX : CXT) (X : Cx) (σ : L2.St) (E : XK) : Prop := ∀ (pins : List (Addr × Obj)) (H : Hp) (s : Shared) (e : Value) (s' : Shared), Inv X pins σ H s → CX X.stack H s E e s' → X.xe e s'
section
variable {X : Cx} {CX : CXT} {k : Nat} {f : Addr} {fd : FuncData} {ps : List Str} {sp : Sp} {E : XK} {ds : List Value} {dvs : List V} {x : Str} {p pos : Pos} {e : Expr} {es : List Expr} {t : TA}
theorem run_fnGT {pins : List (Addr × Obj)} {σ : L2.St} {H : Hp} {s : Shared} {Q : VK} {us : List Value} {vs : List V} (F : FnG X.prog X.w X.K X.mg X.base CX k f fd ps sp) (hgd : X.A.guards = some []) (hr : Room k X.A) (hb : Binds X.K fd ps ds) (hd : Vals dvs ds) (hx : PassesS CX X σ E)
    (I : Inv X pins σ H s) (r : Vals vs us) (h : sp (vs ++ dvs) H Q E) : wpAny (model X.prog X.w) X.A (call (.ref f) us) (EP X pins σ Q) X.xe s := by
  have r2 : Vals (vs ++ dvs) (us ++ ds) := r.append hd
  have hl : (us ++ ds).length = ps.length := by rw [← r2.length]; exact F.size _ _ _ _ h
  refine wpAny_call (codeAny_mono (F.go X.A X.stack s H ⟨us, []⟩ (us ++ ds) (vs ++ dvs) Q E hgd hr I.env0 (hb s us I.kIn hl) r2 h) fun r s' hq => ?_)
  match r, hq with
  | .error e, hq => exact hx pins H s e s' I hq
  | .ok (.ret u), hq => exact I.after hq
  | .ok .next, hq => exact False.elim hq
  | .ok .brk, hq => exact False.elim hq
  | .ok .cont, hq => exact False.elim hq
theorem run_fnG {pins : List (Addr × Obj)} {σ : L2.St} {H : Hp} {s : Shared} {Q : VK} {us : List Value} {vs : List V} (F : FnG X.prog X.w X.K X.mg X.base CX k f fd ps sp) (hgd : X.A.guards = some []) (hr : Room k X.A) (hb : Binds X.K fd ps ds) (hd : Vals dvs ds) (hx : Passes CX X E)
    (I : Inv X pins σ H s) (r : Vals vs us) (h : sp (vs ++ dvs) H Q E) : wpAny (model X.prog X.w) X.A (call (.ref f) us) (EP X pins σ Q) X.xe s :=
  run_fnGT F hgd hr hb hd (fun pins H s e s' => hx pins σ H s e s') I r h
theorem pe_callG (F : FnG X.prog X.w X.K X.mg X.base CX k f fd ps sp) (hgd : X.A.guards = some []) (hr : Room k X.A) (hg : Gl X x) (hm : X.mg x = some (.ref f)) (hk : PySem.W.keepIn X.K (.ref f) = true) (hb : Binds X.K fd ps ds) (hd : Vals dvs ds) (hx : Passes CX X E)
    (ha : PA X (e :: es) t) (hdb : (x == ("__debug__" : Str)) = false := by decide) (he : starEach (e :: es) X.env = (false, eval e X.env) :: starEach es X.env := by rfl) (hpl : (backTo pos (starEach es X.env)).any (·.1) = false := by rfl) :
    PE X (.Call (.Name x p) (e :: es) [] pos) (tCall sp dvs E t) := by
  refine ⟨fun pins s σ H Q I h => ?_⟩
  refine wpAny_Call_Name_kw (ld_glob I hg hm ?_ hdb)
  refine PySem.W.callWith_K (h₀ := X.base) I.ok.mod.kin hk (thn (ha.run pos pins s σ H _ I h) fun us s1 ⟨vs, H1, I1, r, q⟩ => ⟨I1.kIn, ?_⟩) he hpl
  exact run_fnG F hgd hr hb hd hx I1 r q
end
theorem put1_out {env : List Slot} {i k : Nat} {d : D} (h : i ≠ k) : (put1 env i d)[k]? = env[k]? := by
  unfold put1
  split
  · exact List.getElem?_set_ne h
  · exact List.getElem?_set_ne h
  · rfl
theorem put1_len {env : List Slot} {i : Nat} {d : D} : (put1 env i d).length = env.length := by
  unfold put1
  split <;> simp
theorem putAll_len : ∀ (l : List Ag) (env : List Slot) (ns : List D), (putAll env l ns).length = env.length
  | [], env, ns => by cases ns <;> rfl
  | .inl _ :: l, env, [] => rfl
  | .inr i :: l, env, [] => rfl
  | .inl _ :: l, env, _ :: ns => putAll_len l env ns
  | .inr i :: l, env, d :: ns => by
    show (putAll (put1 env i d) l ns).length = _
    rw [putAll_len, put1_len]
theorem putAll_out : ∀ (l : List Ag) (env : List Slot) (ns : List D) {k : Nat}, k ∉ ioSlots l → (putAll env l ns)[k]? = env[k]?
  | [], env, ns, k, _ => by cases ns <;> rfl
  | .inl _ :: l, env, [], k, _ => rfl
  | .inr i :: l, env, [], k, _ => rfl
  | .inl _ :: l, env, _ :: ns, k, h => putAll_out l env ns h
  | .inr i :: l, env, d :: ns, k, h => by
    show (putAll (put1 env i d) l ns)[k]? = _
    rw [putAll_out l _ ns fun z => h (List.mem_cons_of_mem _ z), put1_out fun z => h (by rw [z]; exact List.mem_cons_self ..)]
theorem ioSlots_mem : ∀ {l : List Ag} {j i : Nat}, l[j]? = some (.inr i) → i ∈ ioSlots l
  | .inl _ :: l, 0, i, h => by cases h
  | .inr i' :: l, 0, i, h => by
    cases h
    exact List.mem_cons_self ..
  | .inl _ :: l, j + 1, i, h => ioSlots_mem (l := l) (by simpa using h)
  | .inr i' :: l, j + 1, i, h => List.mem_cons_of_mem _ (ioSlots_mem (l := l) (by simpa using h))
theorem ioSlots_at : ∀ {l : List Ag} {i : Nat}, i ∈ ioSlots l → ∃ j : Nat, l[j]? = some (Sum.inr i)
  | .inl _ :: l, i, h => by
    obtain ⟨j, e⟩ := ioSlots_at (l := l) h
    exact ⟨j + 1, by simpa using e⟩
  | .inr i' :: l, i, h => by
    rcases List.mem_cons.mp h with z | z
    · exact ⟨0, by rw [z]; rfl⟩
    · obtain ⟨j, e⟩ := ioSlots_at (l := l) z
      exact ⟨j + 1, by simpa using e⟩
theorem ioSlots_inj : ∀ {l : List Ag} {j1 j2 i : Nat}, (ioSlots l).Nodup → l[j1]? = some (.inr i) → l[j2]? = some (.inr i) → j1 = j2
  | .inl _ :: l, 0, _, i, _, h, _ => by cases h
  | .inl _ :: l, _, 0, i, _, _, h => by cases h
  | .inl _ :: l, a + 1, b + 1, i, n, h1, h2 => by rw [ioSlots_inj (l := l) (j1 := a) (j2 := b) (i := i) n (by simpa using h1) (by simpa using h2)]
  | .inr i' :: l, 0, 0, i, _, _, _ => rfl
  | .inr i' :: l, 0, b + 1, i, n, h1, h2 => by
    cases h1
    exact absurd (ioSlots_mem (l := l) (by simpa using h2)) (List.nodup_cons.mp n).1
  | .inr i' :: l, a + 1, 0, i, n, h1, h2 => by
    cases h2
    exact absurd (ioSlots_mem (l := l) (by simpa using h1)) (List.nodup_cons.mp n).1
  | .inr i' :: l, a + 1, b + 1, i, n, h1, h2 => by rw [ioSlots_inj (l := l) (j1 := a) (j2 := b) (i := i) (List.nodup_cons.mp n).2 (by simpa using h1) (by simpa using h2)]
theorem own_ne {b b' : Bool} {d d' : D} {i : Nat} {env : List Slot} (h : env[i]? = some (own b d)) (d2 : D) : (put1 env i d2)[i]? = some (own b d2) := by
  have hl := (List.getElem?_eq_some_iff.mp h).1
  cases b with
  | true =>
    have e : put1 env i d2 = env.set i (.io d2) := by
      unfold put1
      rw [h]
      rfl
    rw [e]
    exact List.getElem?_set_self hl
  | false =>
    have e : put1 env i d2 = env.set i (.ow d2) := by
      unfold put1
      rw [h]
      rfl
    rw [e]
    exact List.getElem?_set_self hl
theorem putAll_in : ∀ {l : List Ag} {env : List Slot} {ns : List D} {j k : Nat} {b : Bool} {d d0 : D}, (ioSlots l).Nodup → l[j]? = some (.inr k) → ns[j]? = some d → env[k]? = some (own b d0) → (putAll env l ns)[k]? = some (own b d)
  | .inl _ :: l, env, [], j, k, b, d, d0, _, _, h, _ => by simp at h
  | .inr _ :: l, env, [], j, k, b, d, d0, _, _, h, _ => by simp at h
  | .inl _ :: l, env, _ :: ns, 0, k, b, d, d0, n, h, _, _ => by cases h
  | .inl _ :: l, env, _ :: ns, j + 1, k, b, d, d0, n, h, h2, h3 => putAll_in (l := l) n (by simpa using h) (by simpa using h2) h3
  | .inr i :: l, env, d' :: ns, 0, k, b, d, d0, n, h, h2, h3 => by
    have e1 : i = k := by simpa using h
    have e2 : d' = d := by simpa using h2
    subst e1 e2
    show (putAll (put1 env i d') l ns)[i]? = _
    rw [putAll_out l _ ns (List.nodup_cons.mp n).1]
    exact own_ne (b' := b) (d' := d0) h3 d'
  | .inr i :: l, env, d' :: ns, j + 1, k, b, d, d0, n, h, h2, h3 => by
    have hm := ioSlots_mem (l := l) (j := j) (i := k) (by simpa using h)
    have ne : i ≠ k := fun z => (List.nodup_cons.mp n).1 (by rw [z]; exact hm)
    exact putAll_in (l := l) (env := put1 env i d') (List.nodup_cons.mp n).2 (by simpa using h) (by simpa using h2) (by rw [put1_out ne]; exact h3)
theorem agDs_len : ∀ {l : List Ag} {env : List Slot} {ds : List D}, agDs env l = some ds → ds.length = l.length
  | [], _, ds, h => by
    cases h
    rfl
  | g :: l, env, ds, h => by
    unfold agDs at h
    split at h
    · cases h
      rename_i e1 e2
      simp [agDs_len e2]
    · cases h
theorem agDs_get : ∀ {l : List Ag} {env : List Slot} {ds : List D} {j : Nat} {g : Ag}, agDs env l = some ds → l[j]? = some g → ∃ d, ds[j]? = some d ∧ agD env g = some d
  | [], _, ds, j, g, h, e => by simp at e
  | g' :: l, env, ds, j, g, h, e => by
    unfold agDs at h
    split at h
    · cases h
      rename_i e1 e2
      cases j with
      | zero =>
        cases e
        exact ⟨_, rfl, e1⟩
      | succ j =>
        obtain ⟨d, h1, h2⟩ := agDs_get (l := l) e2 (by simpa using e)
        exact ⟨d, by simpa using h1, h2⟩
    · cases h
theorem agD_own {env : List Slot} {i : Nat} {d : D} (h : agD env (.inr i) = some d) : ∃ b, env[i]? = some (own b d) := by
  simp only [agD] at h
  split at h
  · cases h
    exact ⟨false, by assumption⟩
  · cases h
    exact ⟨true, by assumption⟩
  · cases h
/-- the addresses of the arguments that may be changed -/
def iaOf (G : Gh) (l : List Ag) : Nat → Option Addr := fun j => match l[j]? with
  | some (.inr i) => G.r i
  | _ => none
theorem iaOf_some {G : Gh} {l : List Ag} {j : Nat} {a : Addr} (h : iaOf G l j = some a) : ∃ i, l[j]? = some (.inr i) ∧ G.r i = some a := by
  unfold iaOf at h
  split at h
  · exact ⟨_, by assumption, h⟩
  · cases h
section
variable {K : PySem.W.Frag} {B : Bs} {G : Gh} {env : List Slot} {σ : L2.St} {H H' : Hp} {l : List Ag} {ds dd ns : List D} {vs dvs : List V} {m : List Bool}
theorem args_of (c : Cfg K B G env σ H) (pr : Paired (fun v (g : Ag) => match g with
  | .inl d => Rp K B.ct (off G.S H) v d
  | .inr i => σ[i]? = some (some v)) vs l) (had : agDs env l = some ds) (hm : l.map Ag.isIo ++ dd.map (fun _ => false) = m) (nd : (ioSlots l).Nodup) (rd : Rps K B.ct (off G.S H) dvs dd) : ArgsOk K B.ct G.S (iaOf G l) m (vs ++ dvs) (ds ++ dd) H := by
  have lv := Paired.length pr
  have ld := agDs_len had
  have lr := rd.len
  have getP : ∀ {vs : List V} {l : List Ag}, Paired (fun v (g : Ag) => match g with
    | .inl d => Rp K B.ct (off G.S H) v d
    | .inr i => σ[i]? = some (some v)) vs l → ∀ {j : Nat} {v : V} {g : Ag}, vs[j]? = some v → l[j]? = some g → (match g with
    | .inl d => Rp K B.ct (off G.S H) v d
    | .inr i => σ[i]? = some (some v)) := by
    intro vs l pr
    induction pr with
    | nil =>
      intro j v g h
      simp at h
    | cons h t ih =>
      intro j v g h1 h2
      cases j with
      | zero =>
        cases h1
        cases h2
        exact h
      | succ j => exact ih (by simpa using h1) (by simpa using h2)
  have ml : ∀ {j : Nat} {b : Bool}, m[j]? = some b → (j < l.length ∧ ∃ g, l[j]? = some g ∧ g.isIo = b) ∨ (l.length ≤ j ∧ b = false) := by
    intro j b h
    rw [← hm] at h
    by_cases e : j < l.length
    · rw [List.getElem?_append_left (by simpa using e), List.getElem?_map, List.getElem?_eq_getElem e] at h
      exact .inl ⟨e, l[j], List.getElem?_eq_getElem e, Option.some.inj h⟩
    · rw [List.getElem?_append_right (by simpa using e)] at h
      have := List.mem_of_getElem? h
      obtain ⟨_, _, z⟩ := List.mem_map.mp this
      exact .inr ⟨by omega, z.symm⟩
  refine ⟨?_, ?_, fun j v d h1 h2 h3 => ?_, fun j v d h1 h2 h3 => ?_, fun j a h => ?_, fun j a h => ?_, fun i j a h1 h2 => ?_, c.live⟩
  · rw [← hm]
    simp [lv, lr]
  · rw [← hm]
    simp [ld]
  · rcases ml h1 with ⟨hj, g, hg, hb⟩ | ⟨hj, _⟩
    · rw [List.getElem?_append_left (by omega)] at h2 h3
      obtain ⟨d', e1, e2⟩ := agDs_get had hg
      rw [h3] at e1
      cases e1
      cases g with
      | inr i => cases hb
      | inl d0 =>
        cases e2
        exact getP pr h2 hg
    · rw [List.getElem?_append_right (by omega)] at h2 h3
      have e : j - vs.length = j - ds.length := by omega
      rw [e] at h2
      obtain ⟨d', e1, e2⟩ := rd.get h2
      rw [h3] at e1
      cases e1
      exact e2
  · rcases ml h1 with ⟨hj, g, hg, hb⟩ | ⟨hj, z⟩
    · rw [List.getElem?_append_left (by omega)] at h2 h3
      obtain ⟨d', e1, e2⟩ := agDs_get had hg
      rw [h3] at e1
      cases e1
      cases g with
      | inl d0 => cases hb
      | inr i =>
        obtain ⟨b, ho⟩ := agD_own e2
        obtain ⟨a, g1, g2, g3⟩ := c.own ho
        have hv : σ[i]? = some (some v) := getP pr h2 hg
        rw [g2] at hv
        cases hv
        exact ⟨a, by unfold iaOf; rw [hg]; exact g1, rfl, g3⟩
    · cases z
  · obtain ⟨i, h1, h2⟩ := iaOf_some h
    rw [← hm, List.getElem?_append_left (by simpa using (List.getElem?_eq_some_iff.mp h1).1), List.getElem?_map, h1]
    rfl
  · obtain ⟨i, h1, h2⟩ := iaOf_some h
    exact c.hid i a h2
  · obtain ⟨i1, x1, y1⟩ := iaOf_some h1
    obtain ⟨i2, x2, y2⟩ := iaOf_some h2
    have := c.inj i1 i2 a y1 y2
    subst this
    exact ioSlots_inj nd x1 x2
theorem after_call (c : Cfg K B G env σ H) (had : agDs env l = some ds) (nd : (ioSlots l).Nodup) (fr : Frame K B.ct G.S G.S (iaOf G l) H H' ns) : Mono G H G H' ∧ Cfg K B G (putAll env l ns) σ H' := by
  have mm : Mono G H G H' := ⟨fr.same, fun p hp n => ⟨hp, n, fr.hold p hp fun j z => by
    obtain ⟨i, _, h⟩ := iaOf_some z
    exact n.1 i h⟩, fr.dom⟩
  have pick : ∀ {k : Nat} {s : Slot}, (putAll env l ns)[k]? = some s → (k ∉ ioSlots l ∧ env[k]? = some s) ∨ ∃ b d a, s = own b d ∧ G.r k = some a ∧ σ[k]? = some (some (.ref a)) ∧ (b = true → B.io k = some a) ∧ OwnAt K B.ct H' (off G.S H') a d := by
    intro k s h
    by_cases hk : k ∈ ioSlots l
    · obtain ⟨j, hj⟩ := ioSlots_at hk
      obtain ⟨d0, e1, e2⟩ := agDs_get had hj
      obtain ⟨b, ho⟩ := agD_own e2
      obtain ⟨a, g1, g2, g3⟩ := c.own ho
      obtain ⟨d, n1, n2⟩ := fr.new j a (by unfold iaOf; rw [hj]; exact g1)
      rw [putAll_in nd hj n1 ho] at h
      refine .inr ⟨b, d, a, (Option.some.inj h).symm, g1, g2, fun hb => ?_, n2⟩
      subst hb
      obtain ⟨a', q1, q2, _⟩ := c.io k d0 ho
      rw [g1] at q1
      cases q1
      exact q2
    · rw [putAll_out l env ns hk] at h
      exact .inl ⟨hk, h⟩
  have far : ∀ {k : Nat} {a : Addr}, k ∉ ioSlots l → G.r k = some a → H' a = H a := fun {k a} hk h => fr.hold a (c.hid k a h) fun j z => by
    obtain ⟨i, h1, h2⟩ := iaOf_some z
    have := c.inj i k a h2 h
    subst this
    exact hk (ioSlots_mem h1)
  refine ⟨mm, by rw [putAll_len]; exact c.len, fun j d e => ?_, fun j d e => ?_, fun j d e => ?_, c.hid, c.inj, fun a ha => fr.dom a (c.live a ha), fun j d a e g => ?_, fun a h => fr.dom a (c.dom0 a h), c.trs.keep rfl (fun i π a h => ⟨c.trs.hid i π a h, fr.hold a (c.trs.hid i π a h) fun j z => by
    obtain ⟨k, _, h2⟩ := iaOf_some z
    exact c.trs.far i π k a h h2, fun j => c.trs.far i π j a h⟩) fr.same fun i b d e => ?_⟩
  · rcases pick e with ⟨_, h⟩ | ⟨b, d', a, h, _⟩
    · obtain ⟨v, g1, g2⟩ := c.sh j d h
      exact ⟨v, g1, g2.mono fr.same⟩
    · cases b <;> cases h
  · rcases pick e with ⟨hk, h⟩ | ⟨b, d', a, h, g1, g2, _, g3⟩
    · obtain ⟨a, g1, g2, g3⟩ := c.ow j d h
      exact ⟨a, g1, g2, g3.mono (far hk g1) fr.same⟩
    · cases b with
      | true => cases h
      | false =>
        cases h
        exact ⟨a, g1, g2, g3⟩
  · rcases pick e with ⟨hk, h⟩ | ⟨b, d', a, h, g1, g2, g0, g3⟩
    · obtain ⟨a, g1, g0, g2, g3⟩ := c.io j d h
      exact ⟨a, g1, g0, g2, g3.mono (far hk g1) fr.same⟩
    · cases b with
      | false => cases h
      | true =>
        cases h
        exact ⟨a, g1, g0 rfl, g2, g3⟩
  · rcases pick e with ⟨hk, h⟩ | ⟨b, d', a', h, g1, g2, g0, g3⟩
    · exact c.frs j d a h g
    · cases b with
      | true => cases h
      | false =>
        cases h
        by_cases hk : j ∈ ioSlots l
        · obtain ⟨i, hi⟩ := ioSlots_at hk
          obtain ⟨d0, e1, e2⟩ := agDs_get had hi
          obtain ⟨b, ho⟩ := agD_own e2
          cases b with
          | false => exact c.frs j d0 a ho g
          | true =>
            obtain ⟨d2, n1, n2⟩ := fr.new i a (by unfold iaOf; rw [hi]; exact g)
            rw [putAll_in nd hi n1 ho] at e
            cases e
        · rw [putAll_out l env ns hk] at e
          exact c.frs j _ a e g
  · rcases pick e with ⟨_, h⟩ | ⟨b', d', a', h, _⟩
    · exact ⟨h, rfl⟩
    · cases b' <;> cases h
/-- .. and the value is new -/
theorem after_callN {a : Addr} (c : Cfg K B G env σ H) (had : agDs env l = some ds) (nd : (ioSlots l).Nodup) (ha : H a = none) (hv : H' a ≠ none) (fr : Frame K B.ct G.S (more G.S a) (iaOf G l) H H' ns) : Mono G H (G.hide a) H' ∧ Cfg K B (G.hide a) (putAll env l ns) σ H' := by
  have un : ¬ G.S a := c.unS ha
  have mm : Mono G H (G.hide a) H' := ⟨fr.same, fun p hp n => ⟨.inl hp, n, fr.hold p hp fun j z => by
    obtain ⟨i, _, h⟩ := iaOf_some z
    exact n.1 i h⟩, fr.dom⟩
  have pick : ∀ {k : Nat} {s : Slot}, (putAll env l ns)[k]? = some s → (k ∉ ioSlots l ∧ env[k]? = some s) ∨ ∃ b d a', s = own b d ∧ G.r k = some a' ∧ σ[k]? = some (some (.ref a')) ∧ (b = true → B.io k = some a') ∧ OwnAt K B.ct H' (off (G.hide a).S H') a' d := by
    intro k s h
    by_cases hk : k ∈ ioSlots l
    · obtain ⟨j, hj⟩ := ioSlots_at hk
      obtain ⟨d0, e1, e2⟩ := agDs_get had hj
      obtain ⟨b, ho⟩ := agD_own e2
      obtain ⟨a, g1, g2, g3⟩ := c.own ho
      obtain ⟨d, n1, n2⟩ := fr.new j a (by unfold iaOf; rw [hj]; exact g1)
      rw [putAll_in nd hj n1 ho] at h
      refine .inr ⟨b, d, a, (Option.some.inj h).symm, g1, g2, fun hb => ?_, n2⟩
      subst hb
      obtain ⟨a', q1, q2, _⟩ := c.io k d0 ho
      rw [g1] at q1
      cases q1
      exact q2
    · rw [putAll_out l env ns hk] at h
      exact .inl ⟨hk, h⟩
  have far : ∀ {k : Nat} {a : Addr}, k ∉ ioSlots l → G.r k = some a → H' a = H a := fun {k a} hk h => fr.hold a (c.hid k a h) fun j z => by
    obtain ⟨i, h1, h2⟩ := iaOf_some z
    have := c.inj i k a h2 h
    subst this
    exact hk (ioSlots_mem h1)
  refine ⟨mm, by rw [putAll_len]; exact c.len, fun j d e => ?_, fun j d e => ?_, fun j d e => ?_, fun i x h => .inl (c.hid i x h), c.inj, fun x hx => hx.elim (fun z => fr.dom x (c.live x z)) fun z => by rw [z]; exact hv, fun j d a e g => ?_, fun a h => fr.dom a (c.dom0 a h), c.trs.keep rfl (fun i π a h => ⟨.inl (c.trs.hid i π a h), fr.hold a (c.trs.hid i π a h) fun j z => by
    obtain ⟨k, _, h2⟩ := iaOf_some z
    exact c.trs.far i π k a h h2, fun j => c.trs.far i π j a h⟩) fr.same fun i b d e => ?_⟩
  · rcases pick e with ⟨_, h⟩ | ⟨b, d', a, h, _⟩
    · obtain ⟨v, g1, g2⟩ := c.sh j d h
      exact ⟨v, g1, g2.mono fr.same⟩
    · cases b <;> cases h
  · rcases pick e with ⟨hk, h⟩ | ⟨b, d', a, h, g1, g2, _, g3⟩
    · obtain ⟨a, g1, g2, g3⟩ := c.ow j d h
      exact ⟨a, g1, g2, g3.mono (far hk g1) fr.same⟩
    · cases b with
      | true => cases h
      | false =>
        cases h
        exact ⟨a, g1, g2, g3⟩
  · rcases pick e with ⟨hk, h⟩ | ⟨b, d', a, h, g1, g2, g0, g3⟩
    · obtain ⟨a, g1, g0, g2, g3⟩ := c.io j d h
      exact ⟨a, g1, g0, g2, g3.mono (far hk g1) fr.same⟩
    · cases b with
      | false => cases h
      | true =>
        cases h
        exact ⟨a, g1, g0 rfl, g2, g3⟩
  · rcases pick e with ⟨hk, h⟩ | ⟨b, d', a', h, g1, g2, g0, g3⟩
    · exact c.frs j d a h g
    · cases b with
      | true => cases h
      | false =>
        cases h
        by_cases hk : j ∈ ioSlots l
        · obtain ⟨i, hi⟩ := ioSlots_at hk
          obtain ⟨d0, e1, e2⟩ := agDs_get had hi
          obtain ⟨b, ho⟩ := agD_own e2
          cases b with
          | false => exact c.frs j d0 a ho g
          | true =>
            obtain ⟨d2, n1, n2⟩ := fr.new i a (by unfold iaOf; rw [hi]; exact g)
            rw [putAll_in nd hi n1 ho] at e
            cases e
        · rw [putAll_out l env ns hk] at e
          exact c.frs j _ a e g
  · rcases pick e with ⟨_, h⟩ | ⟨b', d', a', h, _⟩
    · exact ⟨h, rfl⟩
    · cases b' <;> cases h
end
section
variable {X : Cx} {B : Bs} {Z : ZX} {CX : CXT} {k : Nat} {f : Addr} {fd : FuncData} {ps : List Str} {E : XK} {dsv : List Value} {dvs : List V} {dd : List D} {x : Str} {p pos : Pos} {e : Expr} {es : List Expr} {m : List Bool} {Φ : List D → Res} {fs : Ev (List Ag)}
theorem off_more {S : Addr → Prop} {a : Addr} {H : Hp} : Same (off (more S a) H) (off S H) := fun x u h => by
  obtain ⟨n, h⟩ := off_inv h
  rw [off_at fun z => n (.inl z)]
  exact h
theorem Frame.bare {K : PySem.W.Frag} {ct : Ct} {S : Addr → Prop} {a : Addr} {ia : Nat → Option Addr} {H H' : Hp} {ns : List D} (f : Frame K ct S (more S a) ia H H' ns) : Frame K ct S S ia H H' ns :=
  ⟨f.same.trans off_more, f.hold, fun j b h => by
    obtain ⟨d, h1, h2⟩ := f.new j b h
    exact ⟨d, h1, h2.mono rfl off_more⟩, f.dom⟩
theorem lift_callN (hZ : ∀ c as env G σ H dd C nm, B.ct c = some (C, nm) → Z c as env G σ H dd → E (.ref C) (some dd) H) (rd : ∀ F, Rps X.K B.ct F dvs dd) (σ : L2.St) (H : Hp) (Q : VK) (h : liftN X.K B Z (fCallN m Φ dd fs) σ H Q) : tCall (spV X.K B.ct m Φ) dvs E (liftAi X.K B Z fs) σ H Q := by
  obtain ⟨G, env, c, q⟩ := h
  refine ⟨G, env, c, post_imp (post_bind q) fun l e1 G1 H1 m1 c1 p1 vs rvs => ?_⟩
  cases had : agDs e1 l with
  | none =>
    rw [had] at p1
    exact p1.elim
  | some ds =>
    rw [had] at p1
    simp only [] at p1
    by_cases hc : l.map Ag.isIo ++ dd.map (fun _ => false) = m ∧ (ioSlots l).Nodup
    · rw [if_pos hc] at p1
      refine ⟨G1.S, iaOf G1 l, ds ++ dd, args_of c1 rvs had hc.1 hc.2 (rd _), ?_⟩
      cases hr : Φ (ds ++ dd) with
      | stuck =>
        rw [hr] at p1
        exact p1.elim
      | ret n r ns =>
        rw [hr] at p1
        cases n with
        | false => exact p1.elim
        | true =>
          intro a H' ha fr ho
          obtain ⟨mm, c'⟩ := after_callN c1 had hc.2 ha ho.some fr
          exact p1 (G1.hide a) H' mm c' a (undom m1 ha) (.inr rfl) (c1.newUn ha) ho
      | exc cc as ns =>
        rw [hr] at p1
        intro H' dd' C nm fr xa hC
        obtain ⟨mm, c'⟩ := after_call c1 had hc.2 fr
        exact hZ _ _ _ _ _ _ _ _ _ hC (p1 G1 H' dd' mm c' xa)
    · rw [if_neg hc] at p1
      exact p1.elim
theorem lift_callT (σ : L2.St) (hZ : ∀ c as env G H dd C nm, B.ct c = some (C, nm) → Z c as env G σ H dd → E (.ref C) (some dd) H) (rd : ∀ F, Rps X.K B.ct F dvs dd) (H : Hp) (Q : VK) (h : liftE X.K B Z (fCall m Φ dd fs) σ H Q) : tCall (spV X.K B.ct m Φ) dvs E (liftAi X.K B Z fs) σ H Q := by
  obtain ⟨G, env, c, q⟩ := h
  refine ⟨G, env, c, post_imp (post_bind q) fun l e1 G1 H1 m1 c1 p1 vs rvs => ?_⟩
  cases had : agDs e1 l with
  | none =>
    rw [had] at p1
    exact p1.elim
  | some ds =>
    rw [had] at p1
    simp only [] at p1
    by_cases hc : l.map Ag.isIo ++ dd.map (fun _ => false) = m ∧ (ioSlots l).Nodup
    · rw [if_pos hc] at p1
      refine ⟨G1.S, iaOf G1 l, ds ++ dd, args_of c1 rvs had hc.1 hc.2 (rd _), ?_⟩
      cases hr : Φ (ds ++ dd) with
      | stuck =>
        rw [hr] at p1
        exact p1.elim
      | ret n r ns =>
        rw [hr] at p1
        cases n with
        | false =>
          intro v H' fr rv
          obtain ⟨mm, c'⟩ := after_call c1 had hc.2 fr
          exact p1 G1 H' mm c' v rv
        | true =>
          intro a H' ha fr ho
          obtain ⟨mm, c'⟩ := after_call c1 had hc.2 fr.bare
          exact p1 G1 H' mm c' _ ((ho.mono rfl off_more).rp (off_at (c1.unS ha)))
      | exc cc as ns =>
        rw [hr] at p1
        intro H' dd' C nm fr xa hC
        obtain ⟨mm, c'⟩ := after_call c1 had hc.2 fr
        exact hZ _ _ _ _ _ _ _ _ hC (p1 G1 H' dd' mm c' xa)
    · rw [if_neg hc] at p1
      exact p1.elim
theorem lift_call (hZ : ∀ c as env G σ H dd C nm, B.ct c = some (C, nm) → Z c as env G σ H dd → E (.ref C) (some dd) H) (rd : ∀ F, Rps X.K B.ct F dvs dd) (σ : L2.St) (H : Hp) (Q : VK) (h : liftE X.K B Z (fCall m Φ dd fs) σ H Q) : tCall (spV X.K B.ct m Φ) dvs E (liftAi X.K B Z fs) σ H Q :=
  lift_callT σ (fun c as env G H dd C nm h1 h2 => hZ c as env G σ H dd C nm h1 h2) rd H Q h
theorem de_call (F : FnG X.prog X.w X.K X.mg X.base CX k f fd ps (spV X.K B.ct m Φ)) (hgd : X.A.guards = some []) (hr : Room k X.A) (hg : Gl X x) (hm : X.mg x = some (.ref f)) (hk : PySem.W.keepIn X.K (.ref f) = true) (hb : Binds X.K fd ps dsv) (hd : Vals dvs dsv) (rd : ∀ F, Rps X.K B.ct F dvs dd) (hx : Passes CX X E)
    (hZ : ∀ c as env G σ H dd C nm, B.ct c = some (C, nm) → Z c as env G σ H dd → E (.ref C) (some dd) H) (ha : DAi X B Z (e :: es) fs) (hdb : (x == ("__debug__" : Str)) = false := by decide) (he : starEach (e :: es) X.env = (false, eval e X.env) :: starEach es X.env := by rfl)
    (hpl : (backTo pos (starEach es X.env)).any (·.1) = false := by rfl) : DE X B Z (.Call (.Name x p) (e :: es) [] pos) (fCall m Φ dd fs) :=
  ⟨PE.weak (pe_callG F hgd hr hg hm hk hb hd hx ha.pa hdb he hpl) (lift_call hZ rd)⟩
theorem dn_call (F : FnG X.prog X.w X.K X.mg X.base CX k f fd ps (spV X.K B.ct m Φ)) (hgd : X.A.guards = some []) (hr : Room k X.A) (hg : Gl X x) (hm : X.mg x = some (.ref f)) (hk : PySem.W.keepIn X.K (.ref f) = true) (hb : Binds X.K fd ps dsv) (hd : Vals dvs dsv) (rd : ∀ F, Rps X.K B.ct F dvs dd) (hx : Passes CX X E)
    (hZ : ∀ c as env G σ H dd C nm, B.ct c = some (C, nm) → Z c as env G σ H dd → E (.ref C) (some dd) H) (ha : DAi X B Z (e :: es) fs) (hdb : (x == ("__debug__" : Str)) = false := by decide) (he : starEach (e :: es) X.env = (false, eval e X.env) :: starEach es X.env := by rfl)
    (hpl : (backTo pos (starEach es X.env)).any (·.1) = false := by rfl) : DN X B Z (.Call (.Name x p) (e :: es) [] pos) (fCallN m Φ dd fs) :=
  ⟨PE.weak (pe_callG F hgd hr hg hm hk hb hd hx ha.pa hdb he hpl) (lift_callN hZ rd)⟩
theorem zno_any {E : XK} {ct : Ct} : ∀ c as env G σ H dd C nm, ct c = some (C, nm) → ZNo c as env G σ H dd → E (.ref C) (some dd) H := fun _ _ _ _ _ _ _ _ _ _ h => h.elim
end
end Vl
set_option Elab.async false
set_option linter.all false
set_option maxRecDepth 100000
set_option maxHeartbeats 2000000
namespace Vl
open PySem PySem.Spec PyProof.Rows L2 Sb
section
variable {K : PySem.W.Frag} {ct : Ct}
theorem Rps.one1 {F : Hp} {vs : List V} {d : D} (h : Rps K ct F vs [d]) : ∃ v, vs = [v] ∧ Rp K ct F v d := by
  obtain ⟨v, ws, rfl, h1, h2⟩ := h.consE
  exact ⟨v, by rw [h2.nilE], h1⟩
theorem Rps.two2 {F : Hp} {vs : List V} {d e : D} (h : Rps K ct F vs [d, e]) : ∃ v w, vs = [v, w] ∧ Rp K ct F v d ∧ Rp K ct F w e := by
  obtain ⟨v, ws, rfl, h1, h2⟩ := h.consE
  obtain ⟨w, rfl, h3⟩ := h2.one1
  exact ⟨v, w, rfl, h1, h3⟩
def o1 (o : D → Option D) : List D → Option D := fun l => match l with | [d] => o d | _ => none
def o2 (o : D → D → Option D) : List D → Option D := fun l => match l with | [d, e] => o d e | _ => none
/-- one argument -/
theorem cv1 {r : List V → Hp → VK → Prop} {o : D → Option D} (h : ∀ (S : Addr → Prop) (H : Hp) (x : V) (d z : D) (Q : VK), (∀ a, S a → H a ≠ none) → Rp K ct (off S H) x d → o d = some z → (∀ v H', Same H H' → Rp K ct (off S H') v z → Q v H') → r [x] H Q) :
    CallV K ct r (o1 o) := by
  intro S H xs ds z Q live rs ho hq
  unfold o1 at ho
  split at ho
  · obtain ⟨v, rfl, rv⟩ := rs.one1
    exact h S H v _ z Q live rv ho hq
  · cases ho
theorem cv2 {r : List V → Hp → VK → Prop} {o : D → D → Option D} (h : ∀ (S : Addr → Prop) (H : Hp) (x y : V) (d e z : D) (Q : VK), (∀ a, S a → H a ≠ none) → Rp K ct (off S H) x d → Rp K ct (off S H) y e → o d e = some z → (∀ v H', Same H H' → Rp K ct (off S H') v z → Q v H') → r [x, y] H Q) :
    CallV K ct r (o2 o) := by
  intro S H xs ds z Q live rs ho hq
  unfold o2 at ho
  split at ho
  · obtain ⟨v, w, rfl, rv, rw'⟩ := rs.two2
    exact h S H v w _ _ z Q live rv rw' ho hq
  · cases ho
end
section
variable {X : Cx} {ct : Ct}
def oLen : D → Option D
  | .lst l => some (.int (l.length : Int))
  | .tup l => some (.int (l.length : Int))
  | .ctup l => some (.int (l.length : Int))
  | .scr ns => some (.int (ns.length : Int))
  | .str s => if s.length ≤ sizeLine then some (.int (s.length : Int)) else none
  | _ => none
theorem call_lenA : CallR X (.builtin "len") (fun xs H Q => (∃ p ys, xs = [.ref p] ∧ (SqL X.K H p ys ∨ SqT X.K H p ys) ∧ Q (.int ys.length) H) ∨ ∃ z, xs = [.str z] ∧ z.length ≤ sizeLine ∧ Q (.int z.length) H) := call_len_seq.or call_len_str
theorem cv_len : CallV X.K ct (fun xs H Q => (∃ p ys, xs = [.ref p] ∧ (SqL X.K H p ys ∨ SqT X.K H p ys) ∧ Q (.int ys.length) H) ∨ ∃ z, xs = [.str z] ∧ z.length ≤ sizeLine ∧ Q (.int z.length) H) (o1 oLen) := cv1 fun S H x d z Q live rx ho hq => by
  unfold oLen at ho
  split at ho
  · cases ho
    obtain ⟨a, vs, rfl, h1, t1⟩ := rx.lstE
    exact .inl ⟨a, vs, rfl, .inl (SqL.of (off_le _ _ h1)), by rw [t1.len]; exact hq _ H (Same.refl _) (.int _)⟩
  · cases ho
    obtain ⟨a, vs, rfl, h1, t1⟩ := rx.tupE
    exact .inl ⟨a, vs, rfl, .inr (sqT_le h1), by rw [t1.len]; exact hq _ H (Same.refl _) (.int _)⟩
  · cases ho
    obtain ⟨a, vs, rfl, h1, t1⟩ := rx.ctupE
    exact .inl ⟨a, vs, rfl, .inr (sqT_le h1), by rw [t1.len]; exact hq _ H (Same.refl _) (.int _)⟩
  · cases ho
    obtain ⟨a, rfl, h1⟩ := rx.scrE
    exact .inl ⟨a, _, rfl, .inl (off_le.seq h1), by rw [List.length_map]; exact hq _ H (Same.refl _) (.int _)⟩
  · split at ho
    · cases ho
      exact .inr ⟨_, by rw [rx.strE], by assumption, hq _ H (Same.refl _) (.int _)⟩
    · cases ho
  · cases ho
def oList : D → Option D
  | .lst l => some (.lst l)
  | .tup l => some (.lst l)
  | _ => none
def oTuple : D → Option D
  | .lst l => some (.tup l)
  | .tup l => some (.tup l)
  | _ => none
def oAbs : D → Option D
  | .int i => some (.int (if i < 0 then -i else i))
  | _ => none
theorem cv_abs : CallV X.K ct (fun xs H Q => ∃ i, xs = [.int i] ∧ Q (.int (if i < 0 then -i else i)) H) (o1 oAbs) := cv1 fun S H x d z Q live rx ho hq => by
  unfold oAbs at ho
  split at ho
  · cases ho
    exact ⟨_, by rw [rx.intE], hq _ H (Same.refl _) (.int _)⟩
  · cases ho
def oMax : D → D → Option D
  | .int i, .int j => some (.int (if j > i then j else i))
  | _, _ => none
theorem cv_max : CallV X.K ct (fun xs H Q => ∃ i j, xs = [.int i, .int j] ∧ Q (.int (if j > i then j else i)) H) (o2 oMax) := cv2 fun S H x y d e z Q live rx ry ho hq => by
  unfold oMax at ho
  split at ho
  · cases ho
    exact ⟨_, _, by rw [rx.intE, ry.intE], hq _ H (Same.refl _) (.int _)⟩
  · cases ho
def oMin : D → D → Option D
  | .int i, .int j => some (.int (if j < i then j else i))
  | _, _ => none
theorem cv_min : CallV X.K ct (fun xs H Q => ∃ i j, xs = [.int i, .int j] ∧ Q (.int (if j < i then j else i)) H) (o2 oMin) := cv2 fun S H x y d e z Q live rx ry ho hq => by
  unfold oMin at ho
  split at ho
  · cases ho
    exact ⟨_, _, by rw [rx.intE, ry.intE], hq _ H (Same.refl _) (.int _)⟩
  · cases ho
def oInt : D → Option D
  | .int i => some (.int i)
  | .bl b => some (.int (if b then 1 else 0))
  | _ => none
theorem cv_int : CallV X.K ct (fun xs H Q => (∃ i, xs = [.int i] ∧ Q (.int i) H) ∨ ∃ k, xs = [.bl k] ∧ Q (.int (if k then 1 else 0)) H) (o1 oInt) := cv1 fun S H x d z Q live rx ho hq => by
  unfold oInt at ho
  split at ho
  · cases ho
    exact .inl ⟨_, by rw [rx.intE], hq _ H (Same.refl _) (.int _)⟩
  · cases ho
    exact .inr ⟨_, by rw [rx.blE], hq _ H (Same.refl _) (.int _)⟩
  · cases ho
def oStr : D → Option D
  | .int i => if i.natAbs.log2 < 1920 then some (.str (toString i)) else none
  | _ => none
def cutD (xs : List D) (lo hi : Option Int) : List D := (xs.drop (HT.sIx xs.length 0 lo)).take (HT.sIx xs.length xs.length hi - HT.sIx xs.length 0 lo)
def oSlL : D → Option Int → Option Int → Option D
  | .lst l, lo, hi => some (.lst (cutD l lo hi))
  | _, _, _ => none
def oSlT : D → Option Int → Option Int → Option D
  | .tup l, lo, hi => some (.tup (cutD l lo hi))
  | _, _, _ => none
inductive Ty where
  | non | bool | int | str | tuple | list | dict
  deriving DecidableEq
def Ty.nm : Ty → String
  | .non => "NoneType"
  | .bool => "bool"
  | .int => "int"
  | .str => "str"
  | .tuple => "tuple"
  | .list => "list"
  | .dict => "dict"
def isi (t n : Ty) : Bool := decide (t = n) || (decide (t = .bool) && decide (n = .int))
def D.ty : D → Option Ty
  | .non => some .non
  | .bl _ => some .bool
  | .int _ => some .int
  | .str _ => some .str
  | .tup _ => some .tuple
  | .ctup _ => some .tuple
  | .lst _ => some .list
  | .dk _ _ => some .dict
  | .dt _ _ => some .dict
  | .scr _ => some .list
  | .ob _ _ => none
  | .cl _ => none
  | .bx _ => none
  | .nk _ _ => none
  | .ex _ _ => none
variable {B : Bs} {Z : ZX} {e c1 : Expr} {f : Ev D} {pos px : Pos}
def fIsi (n : Ty) (f : Ev D) : Ev D := fun env => (f env).bind fun d e => match d.ty with
  | some t => .val (.bl (isi t n)) e
  | none => .stuck
/-- isinstance(x, (T1, T2)) -/
def fIsi2 (n1 n2 : Ty) (f : Ev D) : Ev D := fun env => (f env).bind fun d e => match d.ty with
  | some t => .val (.bl (isi t n1 || isi t n2)) e
  | none => .stuck
end
end Vl
set_option Elab.async false
set_option linter.all false
set_option maxRecDepth 100000
set_option maxHeartbeats 2000000
namespace Vl
open PySem PySem.Spec PyProof.Rows L2 Sb
section
variable {X : Cx} {B : Bs} {Z : ZX} {a b c e : Expr} {es : List Expr} {pos : Pos} {f g : Ev D} {fs : Ev (List D)}
theorem dv (i : Nat) {x : Str} {pos : Pos} (hN : X.N[i]? = some x := by rfl) (hv : Vis X.env.scope x := by first | exact Or.inl rfl | exact Or.inr (Or.inl rfl) | exact Or.inr (Or.inr rfl)) (hd : (x == ("__debug__" : Str)) = false := by decide)
    (hcd : (x == ("__classdict__" : Str)) = false := by decide) : DE X B Z (.Name x pos) (fVar i) := de_var hN hv hd hcd
theorem dio (i : Nat) {x : Str} {gs : Ev (List Ag)} (hr : DAi X B Z es gs) (hN : X.N[i]? = some x := by rfl) (hv : Vis X.env.scope x := by first | exact Or.inl rfl | exact Or.inr (Or.inl rfl) | exact Or.inr (Or.inr rfl)) (hd : (x == ("__debug__" : Str)) = false := by decide)
    (hcd : (x == ("__classdict__" : Str)) = false := by decide) (hs : starEach (.Name x pos :: es) X.env = (false, eval (.Name x pos) X.env) :: starEach es X.env := by rfl) : DAi X B Z (.Name x pos :: es) (gIo i gs) := dai_io hN hv hr hd hcd hs
theorem dix (ha : DE X B Z a f) (hb : DE X B Z b g) (hs : PlainIx b := by exact fun _ _ => rfl) : DE X B Z (.Subscript a b pos) (fOp oIx f g) := de_ix opv_ix ha hb hs
theorem dixO (i : Nat) {x : Str} {apos : Pos} (hb : DE X B Z b g) (hN : X.N[i]? = some x := by rfl) (hv : Vis X.env.scope x := by first | exact Or.inl rfl | exact Or.inr (Or.inl rfl) | exact Or.inr (Or.inr rfl)) (hs : PlainIx b := by exact fun _ _ => rfl) (hd : (x == ("__debug__" : Str)) = false := by decide)
    (hcd : (x == ("__classdict__" : Str)) = false := by decide) : DE X B Z (.Subscript (.Name x apos) b pos) (fIxO i g) := de_ixO hN hv hb hs hd hcd
theorem dapp (i : Nat) {x : Str} {xpos apos cpos : Pos} (he : DE X B Z e f) (hN : X.N[i]? = some x := by rfl) (hv : Vis X.env.scope x := by first | exact Or.inl rfl | exact Or.inr (Or.inl rfl) | exact Or.inr (Or.inr rfl))
    (hd : (x == ("__debug__" : Str)) = false := by decide) (hcd : (x == ("__classdict__" : Str)) = false := by decide)
    (hbase : attributeBase (.Name x xpos) "append" X.env (eval (.Name x xpos) X.env) = eval (.Name x xpos) X.env := by rfl)
    (hfew : ((backTo cpos (starEach [e] X.env)).all (fun x => !x.1) && (backToKw cpos (keywordEach [] X.env)).all (fun x => x.1.isSome)
      && decide ([e].length + ([] : List Keyword).length + (if ([] : List Keyword).isEmpty then 0 else 1) < 30)) = true := by rfl)
    (hline : (apos.endLine == cpos.line) = true := by rfl) (hst : starEach [e] X.env = (false, eval e X.env) :: starEach [] X.env := by rfl) (hplain : (backTo cpos (starEach [] X.env)).any (·.1) = false := by rfl)
    (hs : swapsWith (.Call (.Attribute (.Name x xpos) "append" apos) [e] [] cpos) none pos.line X.env = pure false := by rfl) :
    DS X B Z (.Expr (.Call (.Attribute (.Name x xpos) "append" apos) [e] [] cpos) pos) (fApp i f) := ds_append hN hv he hd hcd hbase hfew hline hst hplain hs
theorem dgn (i : Nat) {x : Str} (hN : X.N.Nodup) (hi : X.N[i]? = some x := by rfl) (hx : Loc X.env.scope x := by first | exact Or.inl rfl | exact Or.inr rfl) (hf : X.fn x = true ∨ X.env.scope.names.lookup x = some .local := by first | exact .inl rfl | exact .inr rfl | assumption) : DG X B (.Name x pos) (.nm i) := dg_name hN hi hx hf
theorem dset (i : Nat) {x : Str} {pos' : Pos} (hN : X.N.Nodup) (he : DE X B Z e f) (hi : X.N[i]? = some x := by rfl) (hx : Loc X.env.scope x := by first | exact Or.inl rfl | exact Or.inr rfl) (hs : swapsWith e (some (.Name x pos')) pos.line X.env = pure false := by rfl)
    (hf : X.fn x = true ∨ X.env.scope.names.lookup x = some .local := by first | exact .inl rfl | exact .inr rfl | assumption) : DS X B Z (.Assign [.Name x pos'] e pos) (fAsg (.nm i) f) := ds_set hN hi hx he hs hf
def fLenO (i : Nat) : Ev D := fun env => match slotL env i with
  | some (_, l) => .val (.int (l.length : Int)) env
  | none => .stuck
def fInO (neg : Bool) (f : Ev D) (i : Nat) : Ev D := fun env => (f env).bind fun d e => match slotL e i with
  | some (_, l) => Out.opt (oIn neg d (.lst l)) e
  | none => .stuck
theorem off_none {H : Hp} : off (fun _ => False) H = H := by
  funext a
  exact off_at id
def oNeg : D → Option D
  | .int i => some (.int (-i))
  | _ => none
def fNeg (f : Ev D) : Ev D := fun env => (f env).bind fun d e => Out.opt (oNeg d) e
theorem dneg (h : DE X B Z e f) : DE X B Z (.UnaryOp .USub e pos) (fNeg f) :=
  ⟨PE.weak (pe_un un_neg h.pe) fun σ H Q ⟨G, env, c, q⟩ => ⟨G, env, c, post_imp (post_bind q) fun d e1 G1 H1 m1 c1 p1 v rv => by
    cases d with
    | int i => exact ⟨i, rv.intE, p1 G1 H1 Mono.refl c1 _ (.int _)⟩
    | _ => exact p1.elim⟩⟩
theorem dputL (i : Nat) {x : Str} {k : Expr} {fk : Ev D} {xpos spos : Pos} (he : DE X B Z e f) (hk : DE X B Z k fk) (hN : X.N[i]? = some x := by rfl) (hv : Vis X.env.scope x := by first | exact Or.inl rfl | exact Or.inr (Or.inl rfl) | exact Or.inr (Or.inr rfl)) (hd : (x == ("__debug__" : Str)) = false := by decide)
    (hcd : (x == ("__classdict__" : Str)) = false := by decide)
    (ha : ∀ v, assign (.Subscript (.Name x xpos) k spos) X.env v = (do
      let ov ← holding [v] (eval (.Name x xpos) X.env)
      let iv ← holding [v, ov] (eval k X.env)
      standAt spos
      holding [v, ov, iv] (setItem ov iv v)
      release [v, ov, iv] []) := by intro _; rfl)
    (hs : swapsWithSole [.Subscript (.Name x xpos) k spos] e pos.line X.env = pure false := by rfl) (hw : swappedStores [.Subscript (.Name x xpos) k spos] e X.env = pure none := by rfl) (h1 : (assignEach [.Subscript (.Name x xpos) k spos] X.env).map (·.2) = [assign (.Subscript (.Name x xpos) k spos) X.env] := by rfl) :
    DS X B Z (.Assign [.Subscript (.Name x xpos) k spos] e pos) (fPutL i fk f) :=
  ⟨PS.weak (ps_asg he.pe (pg_sub (pe_var hN hv hd hcd) hk.pe set_list ha) hs hw h1) fun E σ H h => by
    obtain ⟨G, env, c, q⟩ := h
    refine ⟨G, env, c, post_imp (exprS q) fun d e1 G1 H1 m1 c1 p1 v rv => ?_⟩
    cases h0 : slotL e1 i with
    | none =>
      rw [h0] at p1
      exact p1.elim
    | some p0 =>
      obtain ⟨b0, l0⟩ := p0
      rw [h0] at p1
      obtain ⟨a, r1, r2, vs0, r3, r4⟩ := c1.own (slotL_own h0)
      refine ⟨_, r2, G1, e1, c1, post_imp (exprS p1) fun z e2 G2 H2 m2 c2 p2 w rw' => ?_⟩
      cases z with
      | int j =>
        cases h2 : slotL e2 i with
        | none =>
          rw [h2] at p2
          exact p2.elim
        | some p3 =>
          obtain ⟨b, l⟩ := p3
          rw [h2] at p2
          simp only [] at p2
          obtain ⟨a', g1, g2, vs, g3, g4⟩ := c2.own (slotL_own h2)
          rw [r2] at g2
          cases g2
          cases hn : ixN l.length j with
          | none =>
            rw [hn] at p2
            exact p2.elim
          | some n =>
            rw [hn] at p2
            refine ⟨a, vs, j, n, rfl, rw'.intE, g3, by rw [g4.len]; exact hn, ?_⟩
            exact p2 G2 _ _ (Mono.chg g1 (c2.hid i a g1)) (c2.chg g1 (slotL_own h2) ⟨vs.set n v, upd_same, Rps.set (rv.mono m2.same) n g4⟩)
      | _ => 
        have p2' := p2
        simp only [] at p2'
        exact p2'.elim⟩
def fAugI (i : Nat) (o : Int → Int → Int) (f : Ev D) : Ev Fl := fun env => match env[i]? with
  | some (.sh (.int a)) => (f env).bind fun d e => match d with
    | .int b => .val .nx (e.set i (.sh (.int (o a b))))
    | _ => .stuck
  | _ => .stuck
structure Vx (P : Program) (w : World) (K : PySem.W.Frag) (mg : Str → Option Value) (base : Heap) (k : Nat) (x : Str) (f : Addr) (fd : FuncData) (ps : List Str) (ct : Ct) (m : List Bool) (Φ : List D → Res) : Prop where
  ok : FnG P w K mg base CX0 k f fd ps (spV K ct m Φ)
  mg : mg x = some (.ref f)
  kp : PySem.W.keepIn K (.ref f) = true
  bd : Binds K fd ps []
theorem okVg {P : Program} {w : World} {K : PySem.W.Frag} {mg : Str → Option Value} {base : Heap} {k : Nat} {f : Addr} {ct : Ct} {x qual : Str} {st : Stmt} {fd : FuncData} {N ps : List Str} {m : List Bool} {Fs : Ev Fl} (F : Fun K x qual st f fd) (Zs : FnScope N ps (defScope st)) (hm : m.length = ps.length)
    (hb : ∀ (io : Nat → Option Addr) (cdv : Value) (A : Around) (out : List Env) (s : Shared) (H : Hp) (E : XK), (A.deeper (envOfC qual (defScope st) s.heap.objs.size f cdv)).guards = some [] → Room k (A.deeper (envOfC qual (defScope st) s.heap.objs.size f cdv)) →
      (A.deeper (envOfC qual (defScope st) s.heap.objs.size f cdv)).units + 66 < cLine → DSs (cxOf CX0 P w K mg base N qual (defScope st) f cdv A out s H E).nox ⟨ct, io, H, noT⟩ ZNo (defBody st) Fs) : FnG P w K mg base CX0 (k + 1) f fd ps (spV K ct m fun ds => (runV m N.length Fs ds).quiet) :=
  okV F Zs hm fun io cdv A out s H E hg hr => hb io cdv A out s H E (guards_in hg) hr (by have := hr.un; omega)
def E0v : XK := fun _ _ _ => False
end
end Vl
set_option Elab.async false
set_option linter.all false
set_option maxRecDepth 100000
set_option maxHeartbeats 4000000
namespace Vl
open PySem PySem.Spec PyProof.Rows L2 Sb
end Vl
set_option Elab.async false
set_option linter.all false
set_option maxRecDepth 100000
set_option maxHeartbeats 2000000
namespace Vl
open PySem PySem.Spec PyProof.Rows L2 Sb
section
variable {α : Type}
def ins (le : α → α → Bool) (x : α) : List α → List α
  | [] => [x]
  | y :: l => if le x y then x :: y :: l else y :: ins le x l
end
end Vl
set_option Elab.async false
set_option linter.all false
set_option maxRecDepth 100000
set_option maxHeartbeats 2000000
namespace Vl
open PySem PySem.Spec PyProof.Rows L2 Sb
/-- operations whose value is a new list -/
def OpN (K : PySem.W.Frag) (ct : Ct) (r : R2) (o : D → D → Option D) : Prop := ∀ (S : Addr → Prop) (H : Hp) (x y : V) (d e z : D) (Q : VK), Rp K ct (off S H) x d → Rp K ct (off S H) y e → o d e = some z →
  (∀ p vs l, z = .lst l → H p = none → Rps K ct (off S H) vs l → Q (.ref p) (upd H p (.lst vs))) → r x y H Q
section
variable {K : PySem.W.Frag} {B : Bs} {Z : ZX} {G G1 : Gh} {env : List Slot} {σ : L2.St} {H0 H1 : Hp} {Q : VK} {l : List D} {vs : List V} {q : Addr}
/-- a new list is handed on as owned -/
theorem put_new (c1 : Cfg K B G1 env σ H1) (hq : H1 q = none) (h0 : H0 q = none) (rvs : Rps K B.ct (off G1.S H1) vs l) (p : postG K B Z G1 σ H1 (.val (.lst l) env) (fun d _ G' H' => ∀ p, H0 p = none → G'.S p → G'.un p → OwnAt K B.ct H' (off G'.S H') p d → Q (.ref p) H')) :
    Q (.ref q) (upd H1 q (.lst vs)) :=
  p (G1.hide q) _ (Mono.hide hq c1.live) (c1.hide hq) q h0 (.inr rfl) (c1.newUn hq) ⟨vs, upd_same, rvs.mono (Mono.hide hq c1.live).same⟩
end
section
variable {X : Cx} {B : Bs} {Z : ZX} {a b c e elt tg : Expr} {es : List Expr} {pos : Pos} {f g fe : Ev D} {fs gs : Ev (List D)} {ft : Ev Bool} {p : Pat}
theorem dn_op {op : Operator} {r : R2} {o : D → D → Option D} (ho : OpR X (binaryOp op) r) (ov : OpN X.K B.ct r o) (ha : DE X B Z a f) (hb : DE X B Z b g) : DN X B Z (.BinOp a op b pos) (fOp o f g) :=
  ⟨PE.weak (pe_op ho ha.pe hb.pe) fun σ H Q ⟨G, env, c, q⟩ => ⟨G, env, c, post_imp (post_bind q) fun d e1 G1 H1 m1 c1 p1 v rv => ⟨G1, e1, c1, post_imp (post_bind p1) fun d2 e2 G2 H2 m2 c2 p2 w rw' => by
    cases ho : o d d2 with
    | none =>
      rw [ho] at p2
      exact p2.elim
    | some z =>
      rw [ho] at p2
      exact ov G2.S H2 v w d d2 z Q (rv.mono m2.same) rw' ho fun q vs l ez hq rvs => put_new c2 hq (undom m1 (undom m2 hq)) rvs (by subst ez; exact p2)⟩⟩⟩
theorem opn_cat {ct : Ct} : OpN X.K ct rCat oCat := by
  intro S H x y d e z Q rx ry ho hq
  unfold oCat at ho
  split at ho
  · rename_i l m
    split at ho
    · rename_i c
      cases ho
      obtain ⟨a, vs, rfl, h1, t1⟩ := rx.lstE
      obtain ⟨b, ws, rfl, h2, t2⟩ := ry.lstE
      exact ⟨_, _, _, _, rfl, rfl, off_le _ _ h1, off_le _ _ h2, by rw [t1.len, t2.len]; exact c, fun p hp => hq _ _ _ rfl hp (t1.app t2)⟩
    · cases ho
  · cases ho
end
end Vl
set_option Elab.async false
set_option linter.all false
set_option maxRecDepth 100000
set_option maxHeartbeats 2000000
namespace Vl
open PySem PySem.Spec PyProof.Rows L2 Sb
section
variable {X : Cx} {kws : List Keyword}
theorem PK.weak {t t' : TA} (h : PK X kws t) (k : ∀ σ H Q, t' σ H Q → t σ H Q) : PK X kws t' := ⟨fun pos pins s σ H Q I q => h.run pos pins s σ H Q I (k σ H Q q)⟩
end
structure DK (X : Cx) (B : Bs) (Z : ZX) (kws : List Keyword) (f : Ev (List D)) : Prop where
  pk : PK X kws (liftA X.K B Z f)
section
variable {X : Cx} {B : Bs} {Z : ZX} {CX : CXT} {k n : Nat} {fa : Addr} {fd : FuncData} {ps ks : List Str} {E : XK} {x : Str} {p pos kpos : Pos} {e : Expr} {es : List Expr} {kws : List Keyword} {nm : Option Str} {f : Ev D} {fs gs : Ev (List D)} {m : List Bool} {Φ : List D → Res} {g : List Value → List Value → List Value} {gV : List V → List V → List V} {gD : List D → List D → List D}
theorem dk_nil : DK X B Z [] fNil := ⟨PK.weak pk_nil fun σ H Q ⟨G, env, c, p⟩ => p G H Mono.refl c [] .nil⟩
theorem dk_cons (ha : DE X B Z e f) (hr : DK X B Z kws fs) : DK X B Z (⟨nm, e, kpos⟩ :: kws) (fCons f fs) :=
  ⟨PK.weak (pk_cons ha.pe hr.pk) fun σ H Q ⟨G, env, c, p⟩ =>
    ⟨G, env, c, post_imp (post_bind p) fun d e1 G1 H1 m1 c1 p1 v rv => ⟨G1, e1, c1, post_imp (post_bind p1) fun l e2 G2 H2 m2 c2 p2 vs rvs => p2 G2 H2 Mono.refl c2 (v :: vs) (.cons (rv.mono m2.same) rvs)⟩⟩⟩
end
end Vl
set_option Elab.async false
set_option linter.all false
set_option maxRecDepth 100000
set_option maxHeartbeats 2000000
namespace Vl
open PySem PySem.Spec PyProof.Rows L2 Sb
/-- the list at slot i is walked where it stands -/
def compO (i : Nat) (p : Pat) (ft : Ev Bool) (fe : Ev D) (vs : List Nat) : Nat → Nat → List D → Ev (List D)
  | 0, k, acc, env => match slotL (wipeE env vs) i with
    | some (_, l) => if l.length ≤ k then .val acc env else .stuck
    | none => .stuck
  | n + 1, k, acc, env => match slotL (wipeE env vs) i with
    | some (_, l) => (match l[k]? with
      | none => .val acc env
      | some d => match p.put d (wipeE env vs) with
        | none => .stuck
        | some e1 => (ft e1).bind fun b e2 => if b = true then (fe e2).bind fun y e3 => if acc.length < sizeLine then compO i p ft fe vs n (k + 1) (acc ++ [y]) e3 else .stuck
          else compO i p ft fe vs n (k + 1) acc e2)
    | none => .stuck
def fCompO (i : Nat) (p : Pat) (ft : Ev Bool) (fe : Ev D) (vs : List Nat) : Ev D := fun env => match slotL env i with
  | some (_, l) => if calmE env vs then (match compO i p ft fe vs l.length 0 [] env with
    | .val acc e2 => .val (.lst acc) (backE env e2 vs)
    | _ => .stuck) else .stuck
  | none => .stuck
end Vl
set_option Elab.async false
set_option linter.all false
set_option maxRecDepth 100000
set_option maxHeartbeats 2000000
namespace Vl
open PySem L2 Sb
section
variable {α : Type} (l : List α) (a b c d e x y z u v w : α)
theorem atI_0 : atI l 0 = l[0]? := by
  cases l with
  | nil => rfl
  | cons a l => exact atI_nat (j := 0) rfl
theorem atI_ge (k : Nat) (i : Int) (h : i = (k : Int)) : atI l i = l[k]? := by
  subst h
  by_cases e : k < l.length
  · exact (atI_nat (by rw [List.getElem?_eq_getElem e])).trans (by rw [List.getElem?_eq_getElem e])
  · rw [List.getElem?_eq_none (by omega)]
    unfold atI ixN
    rw [if_pos (by omega), if_neg (by omega)]
    rfl
theorem atI_1 : atI l 1 = l[1]? := atI_ge l 1 1 rfl
theorem atI_2 : atI l 2 = l[2]? := atI_ge l 2 2 rfl
theorem atI_3 : atI l 3 = l[3]? := atI_ge l 3 3 rfl
theorem ixN_ge (n k : Nat) (i : Int) (h : i = (k : Int)) (hk : k < n) : ixN n i = some k := by
  subst h
  unfold ixN
  rw [if_pos (by omega), if_pos (by omega)]
  simp
theorem ixN_0 (n : Nat) : ixN (n + 1) 0 = some 0 := ixN_ge _ 0 0 rfl (by omega)
theorem ixN_1 (n : Nat) : ixN (n + 2) 1 = some 1 := ixN_ge _ 1 1 rfl (by omega)
theorem ixN_2 (n : Nat) : ixN (n + 3) 2 = some 2 := ixN_ge _ 2 2 rfl (by omega)
end
end Vl
set_option Elab.async false
set_option linter.all false
set_option maxRecDepth 100000
set_option maxHeartbeats 2000000
namespace Vl
open PySem PySem.Spec PyProof.Rows L2 Sb
end Vl
set_option Elab.async false
set_option linter.all false
set_option maxRecDepth 100000
set_option maxHeartbeats 2000000
namespace Vl
open PySem L2 Sb
theorem cMulR {i j : Int} (h : -(2 ^ 60) < j ∧ j < 2 ^ 60) : cMul i j = true := by
  unfold cMul
  have e : (2 : Nat) ^ 60 = 1152921504606846976 := by decide
  have e2 : (2 : Int) ^ 60 = 1152921504606846976 := by decide
  rw [e2] at h
  rw [Bool.or_eq_true, decide_eq_true_eq, decide_eq_true_eq, e]
  exact .inr (by omega)
theorem cMulL {i j : Int} (h : -(2 ^ 60) < i ∧ i < 2 ^ 60) : cMul i j = true := by
  unfold cMul
  have e : (2 : Nat) ^ 60 = 1152921504606846976 := by decide
  have e2 : (2 : Int) ^ 60 = 1152921504606846976 := by decide
  rw [e2] at h
  rw [Bool.or_eq_true, decide_eq_true_eq, decide_eq_true_eq, e]
  exact .inl (by omega)
theorem powOk {i j : Int} (k : Nat) (h : -(2 ^ k) < i ∧ i < 2 ^ k) (h0 : 0 ≤ j) (hj : (k : Int) * j ≤ 2 ^ 27) : (decide (0 ≤ j) && decide ((Builtin.Int.intBits i : Int) * j ≤ 2 ^ 27)) = true := by
  have hn : i.natAbs < 2 ^ k := by
    have e : ((2 ^ k : Nat) : Int) = 2 ^ k := by norm_cast
    have : ((i.natAbs : Nat) : Int) < ((2 ^ k : Nat) : Int) := by
      rw [e]
      omega
    exact_mod_cast this
  have := pow_fits (i := i) (j := j) hn h0 hj
  rw [Bool.and_eq_true, decide_eq_true_eq, decide_eq_true_eq]
  exact this
theorem divOk {j : Int} (h0 : 0 < j) (h1 : j < 1073741824) : (decide (0 < j) && decide (j < 1073741824)) = true := by
  rw [Bool.and_eq_true, decide_eq_true_eq, decide_eq_true_eq]
  exact ⟨h0, h1⟩
/-- a source of numbers: what is left of the digits, the mixed number, how often -/
def BagL (k : Int) (d : D) : Prop := ∃ g m c : Int, d = .lst [.int g, .int m, .int c] ∧ 0 ≤ g ∧ 0 ≤ m ∧ m < 2147483648 ∧ 0 ≤ c ∧ c ≤ k
theorem BagL.more {k k' : Int} {d : D} (h : BagL k d) (hk : k ≤ k') : BagL k' d := by
  obtain ⟨g, m, c, e, h1, h2, h3, h4, h5⟩ := h
  exact ⟨g, m, c, e, h1, h2, h3, h4, by omega⟩
/-- a loop that keeps something -/
theorem loop_ok {p : Pat} {s : Ev Fl} {ds : List D} (I : Nat → List Slot → Prop) (h : ∀ i d env, ds[i]? = some d → I i env → ∃ e1 e2, p.put d env = some e1 ∧ (s e1 = .val .nx e2 ∨ s e1 = .val .ct e2) ∧ I (i + 1) e2) {env : List Slot} (h0 : I 0 env) : ∃ env', loopF p s ds env = .val .nx env' ∧ I ds.length env' := by
  have key : ∀ (rest : List D) (k : Nat) (env : List Slot), ds.drop k = rest → I k env → ∃ env', loopF p s rest env = .val .nx env' ∧ I (k + rest.length) env' := by
    intro rest
    induction rest with
    | nil => exact fun k env _ hi => ⟨env, rfl, hi⟩
    | cons d rest ih =>
      intro k env e hi
      have hd : ds[k]? = some d := by
        have := congrArg (fun l => l[0]?) e
        simpa using this
      obtain ⟨e1, e2, hp, hs, hi2⟩ := h k d env hd hi
      have e' : ds.drop (k + 1) = rest := by
        have := congrArg List.tail e
        simpa using this
      obtain ⟨env', r1, r2⟩ := ih (k + 1) e2 e' hi2
      refine ⟨env', ?_, by rw [List.length_cons, show k + (rest.length + 1) = k + 1 + rest.length by omega]; exact r2⟩
      unfold loopF
      rw [hp]
      rcases hs with hs | hs <;> (simp only [hs]; exact r1)
  obtain ⟨env', r1, r2⟩ := key ds 0 env (by simp) h0
  exact ⟨env', r1, by simpa using r2⟩
theorem rangeD_get {lo : Int} {n i : Nat} {d : D} (h : (rangeD lo n)[i]? = some d) : i < n ∧ d = .int (lo + (i : Int)) := by
  unfold rangeD at h
  rw [List.getElem?_map] at h
  cases e : (List.range n)[i]? with
  | none =>
    rw [e] at h
    cases h
  | some j =>
    rw [e] at h
    have hl : i < n := by simpa using (List.getElem?_eq_some_iff.mp e).1
    have hj : j = i := by
      rw [List.getElem?_range hl] at e
      exact (Option.some.inj e).symm
    subst hj
    cases h
    exact ⟨hl, rfl⟩
theorem rangeD_len {lo : Int} {n : Nat} : (rangeD lo n).length = n := by simp [rangeD]
theorem seq7 {f g : Ev Fl} {e1 e2 : List Slot} {r : Out Fl} (h1 : f e1 = .val .nx e2) (h2 : g e2 = r) : fSeq f g e1 = r := by
  simp only [fSeq, h1]
  exact h2
end Vl
set_option Elab.async false
set_option linter.all false
set_option maxRecDepth 100000
set_option maxHeartbeats 2000000
namespace Vl
open PySem PySem.Spec PyProof.Rows L2 Sb
/-- __init__ of an own exception: the fields ns, the last argument first -/
def spXI (C : Addr) (ns : List Str) : Sp := fun vs H Q _ => ∃ (a : Addr) (ws : List V), vs = .ref a :: ws ∧ ws.length = ns.length ∧ H a = some (exo a C none) ∧
  ∀ (H' : Hp) (d : Addr), H' a = some (exo a C (some d)) → H d = none → d ≠ a → H' d = some (exd d (ns.zip ws.reverse)) → (∀ b o, H b = some o → b ≠ a → H' b = some o) → Q .non H'
def fRaise (c : Str) (fs : Ev (List D)) : Ev Fl := fun env => (fs env).bind fun l e => if l.length ≤ 1000 then .exc c l.reverse e else .stuck
theorem Rps.rev {K : PySem.W.Frag} {ct : Ct} {F : Hp} {vs : List V} {l : List D} (h : Rps K ct F vs l) : Rps K ct F vs.reverse l.reverse := by
  have key : ∀ {vs : List V} {l : List D}, Rps K ct F vs l → ∀ {ws : List V} {m : List D}, Rps K ct F ws m → Rps K ct F (vs.reverseAux ws) (l.reverseAux m) := by
    intro vs
    induction vs with
    | nil =>
      intro l h ws m g
      cases h
      exact g
    | cons v vs ih =>
      intro l h ws m g
      cases h with
      | cons h t => exact ih t (.cons h g)
  exact key h .nil
end Vl
set_option Elab.async false
set_option linter.all false
set_option maxRecDepth 100000
set_option maxHeartbeats 2000000
namespace Vl
open PySem PySem.Spec PyProof.Rows L2 Sb
section
variable {X : Cx} {B : Bs} {Z : ZX} {CX : CXT} {k : Nat} {C fa : Addr} {fd : FuncData} {ps ns : List Str} {E : XK} {dsv : List Value} {dvs : List V} {dd : List D} {x c fn : Str} {p pos : Pos} {e o : Expr} {es : List Expr} {m : List Bool} {Φ : List D → Res} {f g : Ev D} {fs : Ev (List D)}
def fMake (c : Str) (m : List Bool) (Φ : List D → Res) (dd : List D) (fs : Ev (List D)) : Ev D := fun env => (fs env).bind fun l e => if true :: (l ++ dd).map (fun _ => false) = m then (match Φ (.ob c [] :: (l ++ dd)) with
    | .ret false .non (z :: _) => .val z e
    | .exc c as _ => .exc c as e
    | _ => .stuck) else .stuck
def oFld (c : Str) (j : Nat) : D → Option D
  | .ob c' l => if c' = c then l[j]? else none
  | _ => none
def fUn (o : D → Option D) (f : Ev D) : Ev D := fun env => (f env).bind fun d e => Out.opt (o d) e
theorem zip_lookup {ns : List Str} {vs : List V} {j : Nat} {v : V} {n : Str} (nd : ns.Nodup) (hn : ns[j]? = some n) (hv : vs[j]? = some v) : (ns.zip vs).lookup n = some v := by
  induction ns generalizing vs j with
  | nil => simp at hn
  | cons y ns ih =>
    cases vs with
    | nil => simp at hv
    | cons w vs =>
      obtain ⟨h1, h2⟩ := List.nodup_cons.mp nd
      cases j with
      | zero =>
        simp at hn hv
        subst hn hv
        simp [List.lookup]
      | succ j =>
        simp only [List.getElem?_cons_succ] at hn hv
        have hne : n ≠ y := fun z => h1 (by rw [← z]; exact List.mem_of_getElem? hn)
        have hb : (n == y) = false := by simpa using hne
        rw [List.zip_cons_cons, List.lookup_cons, hb]
        exact ih h2 hn hv
end
end Vl
set_option Elab.async false
set_option linter.all false
set_option maxRecDepth 100000
set_option maxHeartbeats 2000000
namespace Vl
open PySem PySem.Spec PyProof.Rows L2 Sb
section
variable {X : Cx} {B : Bs} {Z : ZX} {a b e o : Expr} {es : List Expr} {pos xpos apos : Pos} {f g h : Ev D} {fs : Ev (List D)} {x c fn : Str} {C : Addr} {ns : List Str} {i j : Nat}
def fFldS (c : Str) (i j : Nat) (f : Ev D) : Ev Fl := fun env => (f env).bind fun d e1 => match e1[i]? with
  | some (.io (.ob c' l)) => if c' = c ∧ l.length = j then .val .nx (e1.set i (.io (.ob c (l ++ [d])))) else .stuck
  | _ => .stuck
def keyOf : D → Option Key
  | .int i => some (.inl i)
  | .str s => some (.inr s)
  | _ => none
def keysOf : List D → Option (List Key)
  | [] => some []
  | d :: l => match keyOf d, keysOf l with
    | some k, some ks => some (k :: ks)
    | _, _ => none
def tkeyOf : D → Option (List Key)
  | .tup l => keysOf l
  | _ => none
variable {κ : Type} [DecidableEq κ]
/-- what stands at a key -/
def getD' (ks : List κ) (l : List D) (k : κ) : Option D := ((ks.zip l).find? fun p => decide (p.1 = k)).map (·.2)
/-- in its place, or at the end -/
def putKs (ks : List κ) (l : List D) (k : κ) (d : D) : List κ × List D := if (ks.any fun y => decide (y = k)) = true then (ks, List.zipWith (fun y e => if y = k then d else e) ks l) else (ks ++ [k], l ++ [d])
def putVs (ks : List κ) (vs : List V) (k : κ) (v : V) : List V := if (ks.any fun y => decide (y = k)) = true then List.zipWith (fun y e => if y = k then v else e) ks vs else vs ++ [v]
def oDGet : D → D → Option (Option D)
  | .dk ks l, y => (keyOf y).map fun k => getD' ks l k
  | .dt ks l, y => (tkeyOf y).map fun k => getD' ks l k
  | _, _ => none
def oDPut : D → D → D → Option D
  | .dk ks l, y, d => if l.length < sizeLine then (keyOf y).map fun k => .dk (putKs ks l k d).1 (putKs ks l k d).2 else none
  | .dt ks l, y, d => if l.length < sizeLine then (tkeyOf y).map fun k => .dt (putKs ks l k d).1 (putKs ks l k d).2 else none
  | _, _, _ => none
/-- the relation of what is got -/
def GotV (K : PySem.W.Frag) (ct : Ct) (F : Hp) (o : Option V) : Option D → Prop
  | some d => ∃ v, o = some v ∧ Rp K ct F v d
  | none => o = none
end
section
variable {X : Cx} {B : Bs} {Z : ZX} {a b e o : Expr} {es : List Expr} {pos xpos apos spos cpos : Pos} {f g h : Ev D} {x : Str} {i : Nat}
/-- the dict that slot i owns -/
def slotO (env : List Slot) (i : Nat) : Option (Bool × D) := match env[i]? with
  | some (.ow d) => some (false, d)
  | some (.io d) => some (true, d)
  | _ => none
/-- d[k] -/
def fDGetO (i : Nat) (f : Ev D) : Ev D := fun env => match slotO env i with
  | some _ => (f env).bind fun y e => match slotO e i with
    | some (_, d) => (match oDGet d y with
      | some (some z) => .val z e
      | _ => .stuck)
    | none => .stuck
  | none => .stuck
/-- k in d -/
def fDInO (neg : Bool) (i : Nat) (f : Ev D) : Ev D := fun env => (f env).bind fun y e => match slotO e i with
    | some (_, d) => (match oDGet d y with
      | some r => .val (.bl (if neg then !r.isSome else r.isSome)) e
      | _ => .stuck)
    | none => .stuck
theorem GotV.some {K : PySem.W.Frag} {ct : Ct} {F : Hp} {o : Option V} {r : Option D} (h : GotV K ct F o r) : o.isSome = r.isSome := by
  cases r with
  | none =>
    rw [show o = none from h]
    rfl
  | some d =>
    obtain ⟨v, rfl, _⟩ := h
    rfl
/-- d[k] = e -/
def fDPutO (i : Nat) (k f : Ev D) : Ev Fl := fun env => (f env).bind fun v e1 => match slotO e1 i with
  | some _ => (k e1).bind fun y e2 => (match slotO e2 i with
    | some (b, d) => (match oDPut d y v with
      | some d' => .val .nx (e2.set i (own b d'))
      | none => .stuck)
    | none => .stuck)
  | none => .stuck
end
end Vl
set_option Elab.async false
set_option linter.all false
set_option maxRecDepth 100000
set_option maxHeartbeats 2000000
namespace Vl
open PySem PySem.Spec PyProof.Rows L2 Sb
section
variable {X : Cx} {B : Bs} {Z : ZX} {a b e o : Expr} {es : List Expr} {pos xpos apos spos cpos : Pos} {f g h : Ev D} {x : Str} {i : Nat}
def fDNewK : Ev D := fun env => .val (.dk [] []) env
def fPop (i : Nat) : Ev D := fun env => match slotL env i with
  | some (b, l) => (match l[l.length - 1]? with
    | some d => .val d (env.set i (own b (.lst l.dropLast)))
    | none => .stuck)
  | none => .stuck
theorem Rps.dropLast {K : PySem.W.Frag} {ct : Ct} {F : Hp} {vs : List V} {l : List D} (h : Rps K ct F vs l) : Rps K ct F vs.dropLast l.dropLast := by
  rw [List.dropLast_eq_take, List.dropLast_eq_take, h.len]
  exact h.take _
end
end Vl
set_option Elab.async false
set_option linter.all false
set_option maxRecDepth 100000
set_option maxHeartbeats 2000000
namespace Sb
open PySem PySem.Spec PyProof.Rows L2
end Sb
set_option Elab.async false
set_option linter.all false
set_option maxRecDepth 100000
set_option maxHeartbeats 2000000
namespace Sb
open PySem PySem.Spec PyProof.Rows L2
end Sb
set_option Elab.async false
set_option linter.all false
set_option maxRecDepth 100000
set_option maxHeartbeats 2000000
namespace Vl
open PySem PySem.Spec PyProof.Rows L2 Sb
theorem _root_.Sb.FnG.mono {P : Program} {w : World} {K : PySem.W.Frag} {mg : Str → Option Value} {base : Heap} {CX : CXT} {j k : Nat} {f : Addr} {fd : FuncData} {ps : List Str} {sp : Sp} (F : FnG P w K mg base CX j f fd ps sp) (h : j ≤ k) : FnG P w K mg base CX k f fd ps sp :=
  ⟨F.size, fun A st s H args us xs Q E hg hr => F.go A st s H args us xs Q E hg (hr.mono h)⟩
section
variable {K : PySem.W.Frag} {ct : Ct} {S : Addr → Prop} {H : Hp} {vs : List V} {ds : List D} {m : List Bool} {Φ : List D → Res} {Q : VK} {E : XK}
theorem args0 (live : ∀ a, S a → H a ≠ none) (hm : ds.map (fun _ => false) = m) (rd : Rps K ct (off S H) vs ds) : ArgsOk K ct S (fun _ => none) m vs ds H := by
  refine ⟨by rw [rd.len, ← hm]; simp, by rw [← hm]; simp, fun j v d h1 h2 h3 => ?_, fun j v d h1 h2 h3 => ?_, fun _ _ z => (by cases z), fun _ _ z => (by cases z), fun _ _ _ z => (by cases z), live⟩
  · obtain ⟨d', g1, g2⟩ := rd.get h2
    rw [h3] at g1
    cases g1
    exact g2
  · rw [← hm, List.getElem?_map] at h1
    cases e : ds[j]? with
    | none =>
      rw [e] at h1
      cases h1
    | some x =>
      rw [e] at h1
      cases h1
theorem Frame.all {S' : Addr → Prop} {H' : Hp} {ns : List D} (fr : Frame K ct S S (fun _ => none) H H' ns) : Same H H' := fun b o h => by
  by_cases hs : S b
  · rw [fr.hold b hs fun _ z => by cases z]
    exact h
  · have := fr.same b o (by rw [off_at hs]; exact h)
    exact (off_inv this).2
/-- a def called by shared values, and its value -/
theorem spV_use (live : ∀ a, S a → H a ≠ none) (hm : ds.map (fun _ => false) = m) (rd : Rps K ct (off S H) vs ds) {r : D} {nw : Bool} {ns : List D} (e : Φ ds = .ret nw r ns) (hq : ∀ v H', Same H H' → Rp K ct (off S H') v r → Q v H') : spV K ct m Φ vs H Q E := by
  refine ⟨S, fun _ => none, ds, args0 live hm rd, ?_⟩
  rw [e]
  cases nw with
  | false =>
    intro v H' fr rv
    have s : Same H H' := Frame.all (S' := S) fr
    exact hq v H' s rv
  | true =>
    intro a H' ha fr ho
    have s : Same H H' := Frame.all (S' := S) fr.bare
    exact hq _ H' s ((ho.mono rfl off_more).rp (off_at fun z => live a z ha))
end
/-- what the value of a call is, where nothing is changed and nothing raised -/
def Res.val : Res → Option D
  | .ret _ r _ => some r
  | _ => none
def D.isOb (c : Str) : D → Bool
  | .ob c' _ => decide (c' = c)
  | _ => false
def bOf (b : Bool) : Option D → Option D
  | some (.bl x) => some (.bl (if b then !x else x))
  | _ => none
def sOf : Option D → Option D
  | some (.str x) => some (.str x)
  | _ => none
end Vl
set_option Elab.async false
set_option linter.all false
set_option maxRecDepth 100000
set_option maxHeartbeats 2000000
namespace Vl
open PySem PySem.Spec PyProof.Rows L2 Sb
/-- the address of a class -/
def cA (ct : Ct) (c : Str) : Addr := ((ct c).map (·.1)).getD 0
section
variable {X : Cx} {B : Bs} {Z : ZX} {e o e2 : Expr} {es : List Expr} {pos pos' apos : Pos} {f g : Ev D} {x y c : Str} {d : D} {C : Addr}
/-- {} as a value -/
theorem de_newK : DE X B Z (.Dict [] [] pos) fDNewK :=
  ⟨PE.weak pe_dnewK fun σ H Q ⟨G, env, c, p⟩ q hq => p G _ (c.mono (Sb.Same.upd hq)) (c.same (Sb.Same.upd hq)) _ (.dk (ks := []) (vs := []) rfl (by rw [off_at fun z => c.live q z hq]; exact upd_same) .nil)⟩
def oFmt : D → Option D
  | .str y => if y.length ≤ sizeLine then some (.str y) else none
  | .int i => if i.natAbs.log2 < 1920 then some (.str (toString i)) else none
  | _ => none
def fFmt (f : Ev D) : Ev D := fun env => (f env).bind fun d e => Out.opt (oFmt d) e
/-- the parts one behind the other -/
def fJs : List (Ev D) → Str → Ev D
  | [], acc, env => .val (.str acc) env
  | f :: fs, acc, env => (f env).bind fun d e => match d with
    | .str y => if (acc ++ y).length ≤ sizeLine then fJs fs (acc ++ y) e else .stuck
    | _ => .stuck
def fM0 (o : Str → Option D) (f : Ev D) : Ev D := fun env => (f env).bind fun d e => match d with
  | .str a => Out.opt (o a) e
  | _ => .stuck
def fM1 (o : Str → D → Option D) (f g : Ev D) : Ev D := fun env => (f env).bind fun d e => match d with
  | .str a => (g e).bind fun y e2 => Out.opt (o a y) e2
  | _ => .stuck
end
section
variable {X : Cx} {B : Bs} {Z : ZX} {a b e : Expr} {pos xpos apos cpos px : Pos} {f g : Ev D} {x : Str}
def fTruO (i : Nat) : Ev Bool := fun env => match slotO env i with
  | some (_, d) => Out.opt d.tru env
  | none => match env[i]? with
    | some (.sh d) => Out.opt d.tru env
    | _ => .stuck
def keyD : Key → D
  | .inl i => .int i
  | .inr s => .str s
def fListD (i : Nat) : Ev D := fun env => match slotO env i with
  | some (_, .dk ks _) => .val (.lst (ks.map keyD)) env
  | _ => .stuck
theorem Rps.keys {K : PySem.W.Frag} {ct : Ct} {F : Hp} : ∀ {ks : List Key} {vs : List V}, ks.length = vs.length → Rps K ct F ((ks.zip vs).map fun kv => kV kv.1) (ks.map keyD)
  | [], [], _ => .nil
  | k :: ks, v :: vs, h => by
    refine .cons ?_ (Rps.keys (by simpa using h))
    cases k with
    | inl i => exact .int i
    | inr s => exact .str s
def fDOne (f g : Ev D) : Ev D := fun env => (f env).bind fun k e1 => (g e1).bind fun d e2 => match keyOf k with
  | some y => .val (.dk [y] [d]) e2
  | none => .stuck
end
def oCatA : D → D → Option D
  | .tup l, .tup m => if l.length + m.length ≤ sizeLine then some (.tup (l ++ m)) else none
  | _, _ => none
theorem len_nil : ∀ env l e', fNil env = .val l e' → l.length = 0 := fun env l e' h => by
  cases h
  rfl
theorem len_cons {f : Ev D} {fs : Ev (List D)} {n : Nat} (h : ∀ env l e', fs env = .val l e' → l.length = n) : ∀ env l e', fCons f fs env = .val l e' → l.length = n + 1 := fun env l e' q => by
  unfold fCons at q
  cases h1 : f env with
  | val d e1 =>
    rw [h1] at q
    simp only [Out.bind] at q
    cases h2 : fs e1 with
    | val l2 e2 =>
      rw [h2] at q
      cases q
      rw [List.length_cons, h _ _ _ h2]
    | stuck =>
      rw [h2] at q
      cases q
    | exc c as e2 =>
      rw [h2] at q
      cases q
  | stuck =>
    rw [h1] at q
    cases q
  | exc c as e2 =>
    rw [h1] at q
    cases q
end Vl
set_option Elab.async false
set_option linter.all false
set_option maxRecDepth 100000
set_option maxHeartbeats 2000000
namespace Vl
open PySem PySem.Spec PyProof.Rows L2 Sb
def D.atom : D → Bool
  | .non | .bl _ | .int _ | .str _ => true
  | _ => false
/-- what can hold nothing of what was looked at -/
def flatR : Bool → D → Bool
  | true, .lst l => l.all D.atom
  | _, d => d.atom
theorem Rp.atom {K : PySem.W.Frag} {ct : Ct} {F F' : Hp} {v : V} {d : D} (r : Rp K ct F v d) (h : d.atom = true) : Rp K ct F' v d := by
  cases r with
  | non => exact .non
  | bl b => exact .bl b
  | int i => exact .int i
  | str s => exact .str s
  | _ => cases h
/-- a call that looks at owned things -/
def fCallL (m : List Bool) (Φ : List D → Res) (fs : Ev (List Ag)) : Ev D := fun env => (fs env).bind fun l e => match agDs e l with
  | none => .stuck
  | some ds => if l.map (fun _ => false) = m then (match Φ ds with
    | .ret n r _ => if flatR n r then .val r e else .stuck
    | _ => .stuck) else .stuck
end Vl
set_option Elab.async false
set_option linter.all false
set_option maxRecDepth 100000
set_option maxHeartbeats 2000000
namespace Vl
open PySem PySem.Spec PyProof.Rows L2 Sb
theorem ExcAt.mono {K : PySem.W.Frag} {ct : Ct} {F F' : Hp} {dd : Addr} {c : Str} {l : List D} (s : Same F F') (h : ExcAt K ct F dd c l) : ExcAt K ct F' dd c l := by
  obtain ⟨C, ns, vs, h1, h2, h3, h4⟩ := h
  exact ⟨C, ns, vs, h1, h2, s _ _ h3, h4.mono s⟩
end Vl
set_option Elab.async false
set_option linter.all false
set_option maxRecDepth 100000
set_option maxHeartbeats 2000000
namespace Vl
open PySem PySem.Spec PyProof.Rows L2 Sb
mutual
def D.pyR : D → PyData
  | .non => .none
  | .bl b => .bool b
  | .int i => .int i
  | .str s => .str s
  | .tup l => .tuple (D.pyRs l)
  | .lst l => .list (D.pyRs l)
  | .dk _ _ => .dict []
  | _ => .none
def D.pyRs : List D → List PyData
  | [] => []
  | d :: l => D.pyR d :: D.pyRs l
end
mutual
def D.rok : D → Bool
  | .non => true
  | .bl _ => true
  | .int _ => true
  | .str _ => true
  | .tup l => D.roks l
  | .lst l => D.roks l
  | .dk ks _ => ks.isEmpty
  | _ => false
def D.roks : List D → Bool
  | [] => true
  | d :: l => D.rok d && D.roks l
end
section
variable {X : Cx} {ct : Ct} {F : Hp} {pins : List (Addr × Obj)} {σ : L2.St} {H : Hp} {s : Shared}
theorem dk_none {a : Addr} (I : Inv X pins σ H s) (e : H a = some (.dK [])) : (a == sysModules) = false ∧ ∃ o n, s.heap.get? a = some o ∧ o.cls = .type "dict" ∧ o.data = .dict #[] n := by
  obtain ⟨_, h1, vs, kv, dd⟩ := dk_of I.hok e
  cases kv
  obtain ⟨o, es, ep, ho, he, hd, _, hp, _⟩ := dd
  have e0 : es = #[] := by
    have := hp.length
    simpa using this
  subst e0
  exact ⟨h1, o, ep, ho, he.1, hd⟩
mutual
theorem shows (I : Inv X pins σ H s) (sF : Same F H) : ∀ (d : D) {v : V} {u : Value}, d.rok = true → Rp X.K ct F v d → RelV v u → d.pyR.showable = true → d.pyR.shown.length ≤ sizeLine →
    ∃ as bs, Reads s.heap u d.pyR as ∧ ReadAtMost s.heap d.pyR.depth bs ∧ ReprK X.prog X.w bs s.heap d.pyR.depth u d.pyR.shown
  | .non, v, u, _, r, e, _, _ => by
    cases r
    cases e
    simp only [D.pyR, PyData.shown]
    exact ⟨_, [], .none, (fun _ z => nomatch z), .of_is ReprIs.none _ _ _⟩
  | .bl b, v, u, _, r, e, _, _ => by
    cases r
    cases e
    simp only [D.pyR, PyData.shown]
    exact ⟨_, [], .bool b, (fun _ z => nomatch z), .of_is (ReprIs.bool b) _ _ _⟩
  | .int i, v, u, _, r, e, q, _ => by
    cases r
    obtain ⟨t, rfl⟩ := e
    simp only [D.pyR, PyData.shown]
    exact ⟨_, [], .int i t, (fun _ z => nomatch z), .of_is (ReprIs.int t (by simpa [D.pyR, PyData.showable] using q)) _ _ _⟩
  | .str y, v, u, _, r, e, _, q => by
    cases r
    obtain ⟨t, rfl⟩ := e
    simp only [D.pyR, PyData.shown] at q ⊢
    exact ⟨_, [], .str y t, (fun _ z => nomatch z), .of_is (ReprIs.str y t q) _ _ _⟩
  | .tup l, v, u, k, r, e, q, z => by
    obtain ⟨a, vs, rfl, h1, t1⟩ := r.tupE
    cases (show u = Value.ref a from e)
    simp only [D.pyR, PyData.shown] at q z
    have k : D.roks l = true := by simpa [D.rok] using k
    obtain ⟨its, rv, ⟨o, ho, hc, n, hd⟩, _⟩ := I.tuple (sqT_same sF h1)
    obtain ⟨as, bs, r1, r2, r3⟩ := showsAll I sF l k t1 rv (by simpa [PyData.showable] using q) fun t ht => Nat.le_trans (tupleText_mem_le ht) z
    have rd : Reads s.heap (.ref a) (.tuple (D.pyRs l)) _ := .tuple ho hc hd r1
    simp only [D.pyR, PyData.shown, PyData.depth]
    exact ⟨_, a :: bs, rd, ReadAtMost.cons rd (by simp only [PyData.depth]; omega) r2, ReprK.tuple ho hc hd (not_mem_of_deeper rd (by simp only [PyData.depth]; omega) r2) r3⟩
  | .lst l, v, u, k, r, e, q, z => by
    obtain ⟨a, vs, rfl, h1, t1⟩ := r.lstE
    cases (show u = Value.ref a from e)
    simp only [D.pyR, PyData.shown] at q z
    have k : D.roks l = true := by simpa [D.rok] using k
    obtain ⟨its, rv, ⟨o, n, ho, hc, _, hd⟩, _⟩ := I.list (SqL.of (sF _ _ h1))
    obtain ⟨as, bs, r1, r2, r3⟩ := showsAll I sF l k t1 rv (by simpa [PyData.showable] using q) fun t ht => Nat.le_trans (listText_mem_le ht) z
    have rd : Reads s.heap (.ref a) (.list (D.pyRs l)) _ := .list ho hc hd r1
    have nm := not_mem_of_deeper rd (by simp only [PyData.depth]; omega) r2
    simp only [D.pyR, PyData.shown, PyData.depth]
    refine ⟨_, a :: bs, rd, ReadAtMost.cons rd (by simp only [PyData.depth]; omega) r2, ?_⟩
    generalize D.pyRs l = ds at r1 r3
    cases its with
    | nil =>
      cases r1
      simp only [PyData.shownAll, listText_nil]
      exact ReprK.listEmpty ho hc hd
    | cons x xs => exact ReprK.list ho hc hd nm (by simpa using r3.length_eq) fun i y g => r3.item i y (by simpa using g)
  | .dk ks l, v, u, k, r, e, _, _ => by
    cases r with
    | @dk a ks vs l hl h t =>
      have k : ks = [] := by simpa [D.rok] using k
      subst k
      cases (show u = Value.ref a from e)
      have h : F a = some (.dK []) := h
      obtain ⟨n1, o, n, g1, g2, g3⟩ := dk_none I (sF _ _ h)
      have rd : Reads s.heap (.ref a) (.dict []) _ := .dict g1 g2 g3 .nil .nil
      simp only [D.pyR, PyData.shown, PyData.depth, PyData.shownKv, PyData.depthKv]
      exact ⟨_, [a], rd, ReadAtMost.cons rd (n := 0) (by simp only [PyData.depth]; omega) (fun _ z => nomatch z), ReprK.dict g1 g2 g3 n1 (by simp) .nil⟩
  | .ctup _, _, _, k, _, _, _, _ => by cases k
  | .ob _ _, _, _, k, _, _, _, _ => by cases k
  | .dt _ _, _, _, k, _, _, _, _ => by cases k
  | .scr _, _, _, k, _, _, _, _ => by cases k
  | .cl _, _, _, k, _, _, _, _ => by cases k
  | .nk _ _, _, _, k, _, _, _, _ => by cases k
  | .ex _ _, _, _, k, _, _, _, _ => by cases k
theorem showsAll (I : Inv X pins σ H s) (sF : Same F H) : ∀ (l : List D) {vs : List V} {us : List Value}, D.roks l = true → Rps X.K ct F vs l → Vals vs us → PyData.showableAll (D.pyRs l) = true → (∀ t, t ∈ PyData.shownAll (D.pyRs l) → t.length ≤ sizeLine) →
    ∃ as bs, ReadsAll s.heap us (D.pyRs l) as ∧ ReadAtMost s.heap (PyData.depthAll (D.pyRs l)) bs ∧ ReprAllK X.prog X.w bs s.heap (PyData.depthAll (D.pyRs l)) us (PyData.shownAll (D.pyRs l))
  | [], vs, us, _, r, e, _, _ => by
    cases r
    cases e
    simp only [D.pyRs, PyData.shownAll]
    exact ⟨_, [], .nil, (fun _ z => nomatch z), .nil⟩
  | d :: l, vs, us, k, r, e, q, z => by
    cases r with
    | cons r t =>
      cases e with
      | cons e es =>
        have k : d.rok = true ∧ D.roks l = true := by simpa [D.roks] using k
        simp only [D.pyRs] at q z
        have q : d.pyR.showable = true ∧ PyData.showableAll (D.pyRs l) = true := by simpa [PyData.showableAll] using q
        obtain ⟨as, bs, a1, a2, a3⟩ := shows I sF d k.1 r e q.1 (z _ (by simp [PyData.shownAll]))
        obtain ⟨cs, ds, b1, b2, b3⟩ := showsAll I sF l k.2 t es q.2 fun y hy => z y (by simp [PyData.shownAll, hy])
        have m1 : d.pyR.depth ≤ PyData.depthAll (D.pyR d :: D.pyRs l) := by simp only [PyData.depthAll]; exact Nat.le_max_left _ _
        have m2 : PyData.depthAll (D.pyRs l) ≤ PyData.depthAll (D.pyR d :: D.pyRs l) := by simp only [PyData.depthAll]; exact Nat.le_max_right _ _
        simp only [D.pyRs]
        refine ⟨_, bs ++ ds, .cons a1 b1, (a2.mono m1).append (b2.mono m2), ?_⟩
        simp only [PyData.shownAll]
        exact .cons ((a3.more fun b hb => List.mem_append_left _ hb).level_le m1) (b3.more_le (fun b hb => List.mem_append_right _ hb) m2)
end
def D.isDk : D → Bool
  | .dk _ _ => true
  | _ => false
theorem repr_shows {a : Addr} {d : D} {as bs : List Addr} {Q : Value → Shared → Prop} {A : Around} {E : Value → Shared → Prop} (I : Inv X pins σ H s) (sF : Same F H) (k : d.rok = true) (kd : d.isDk = false) (r : Rp X.K ct F (.ref a) d) (q : d.pyR.showable = true) (z : d.pyR.shown.length ≤ sizeLine) (hg : A.guards = some []) (hu : A.units + (d.pyR.depth + 1) < cLine)
    (hQ : ∀ h' t tk, (∀ b o, s.heap.get? b = some o → h'.get? b = some o) → Q (.str d.pyR.shown t) { s with heap := h', toks := tk }) : wpAny (model X.prog X.w) A (call (.builtin "repr") [.ref a]) Q E s := by
  cases d with
  | non => cases r
  | bl b => cases r
  | int i => cases r
  | str y => cases r
  | ctup l => cases k
  | ob c l => cases k
  | dt ks l => cases k
  | scr ns => cases k
  | cl c => cases k
  | bx d => cases k
  | nk a b => cases k
  | ex a b => cases k
  | tup l =>
    obtain ⟨a', vs, e, h1, t1⟩ := r.tupE
    cases e
    simp only [D.pyR, PyData.shown] at q z hQ
    have k : D.roks l = true := by simpa [D.rok] using k
    obtain ⟨its, rv, ⟨o, ho, hc, n, hd⟩, _⟩ := I.tuple (sqT_same sF h1)
    obtain ⟨as, bs, r1, r2, r3⟩ := showsAll I sF l k t1 rv (by simpa [PyData.showable] using q) fun t ht => Nat.le_trans (tupleText_mem_le ht) z
    have rd : Reads s.heap (.ref a) (.tuple (D.pyRs l)) _ := .tuple ho hc hd r1
    simp only [D.pyR, PyData.depth] at hu
    refine call_repr_slot (by omega) ⟨o, ho, hc⟩ PySem.F.slot_tuple_repr (call_tuple_reprK ho hc hd (not_mem_of_deeper rd (by simp only [PyData.depth]; omega) r2) r3 hg (fun b _ => Clear.nil b) (by show A.units + 1 + (PyData.depthAll (D.pyRs l) + 1) < cLine; omega) (fun _ _ e => e) (fun h' t tk hk => ⟨_, _, rfl, hQ h' t tk hk⟩) z)
  | lst l =>
    obtain ⟨a', vs, e, h1, t1⟩ := r.lstE
    cases e
    simp only [D.pyR, PyData.shown] at q z hQ
    have k : D.roks l = true := by simpa [D.rok] using k
    obtain ⟨its, rv, ⟨o, n, ho, hc, _, hd⟩, _⟩ := I.list (SqL.of (sF _ _ h1))
    obtain ⟨as, bs, r1, r2, r3⟩ := showsAll I sF l k t1 rv (by simpa [PyData.showable] using q) fun t ht => Nat.le_trans (listText_mem_le ht) z
    have rd : Reads s.heap (.ref a) (.list (D.pyRs l)) _ := .list ho hc hd r1
    have nm := not_mem_of_deeper rd (by simp only [PyData.depth]; omega) r2
    simp only [D.pyR, PyData.depth] at hu
    generalize D.pyRs l = ds at r1 r3 z hQ hu
    cases its with
    | nil =>
      cases r1
      simp only [PyData.shownAll, listText_nil] at hQ
      exact call_repr_slot (by omega) ⟨o, ho, hc⟩ PySem.F.slot_list_repr.toG (call_list_repr_empty ⟨o, ho, hc⟩ ho hd ⟨_, _, rfl, hQ s.heap _ _ fun _ _ e => e⟩)
    | cons x xs =>
      exact call_repr_slot (by omega) ⟨o, ho, hc⟩ PySem.F.slot_list_repr.toG (call_list_reprK ho hc hd nm (by simpa using r3.length_eq) (fun i y g => r3.item i y (by simpa using g)) hg (fun b _ => Clear.nil b) (by show A.units + 1 + (PyData.depthAll ds + 1) < cLine; omega) (fun _ _ e => e) (fun h' t tk hk => ⟨_, _, rfl, hQ h' t tk hk⟩) z)
  | dk ks l => cases kd
def rReprX (K : PySem.W.Frag) (ct : Ct) : List V → Hp → VK → Prop := fun xs H Q => ∃ (v : V) (d : D) (F : Hp), xs = [v] ∧ Rp K ct F v d ∧ Same F H ∧ d.rok = true ∧ d.isDk = false ∧ d.pyR.showable = true ∧ d.pyR.depth ≤ 64 ∧ d.pyR.shown.length ≤ sizeLine ∧ Q (.str d.pyR.shown) H
theorem call_reprX (hg : X.A.guards = some []) (hu : X.A.units + 66 < cLine) : CallR X (.builtin "repr") (rReprX X.K ct) := by
  intro pins s σ H xs us Q I r h
  obtain ⟨v, d, F, rfl, hd, sF, h1, h2, h3, h4, h5, q⟩ := h
  obtain ⟨u, rfl, rx⟩ := vals1 r
  have ref : ∀ {a : Addr}, v = .ref a → wpAny (model X.prog X.w) X.A (call (.builtin "repr") [u]) (EP X pins σ Q) X.xe s := fun {a} e => by
    subst e
    cases (show u = Value.ref a from rx)
    exact repr_shows (as := []) (bs := []) I sF h1 h2 hd h3 h5 hg (by omega) fun h' t tk hk => ⟨.str _, H, I.kept hk, ⟨_, rfl⟩, q⟩
  cases hd with
  | non =>
    cases (show u = Value.none from rx)
    exact PySem.P.repr_of_none ⟨.str _, H, I.tok _, ⟨_, rfl⟩, by simpa [D.pyR, PyData.shown] using q⟩
  | bl b =>
    cases (show u = Value.bool b from rx)
    exact PySem.P.repr_of_bool ⟨.str _, H, I.tok _, ⟨_, rfl⟩, by simpa [D.pyR, PyData.shown] using q⟩
  | int i =>
    obtain ⟨t, rfl⟩ := (show ∃ t, u = Value.int i t from rx)
    exact PySem.P.repr_of_int (by simpa [D.pyR, PyData.showable] using h3) ⟨.str _, H, I.tok _, ⟨_, rfl⟩, by simpa [D.pyR, PyData.shown] using q⟩
  | str x =>
    obtain ⟨t, rfl⟩ := (show ∃ t, u = Value.str x t from rx)
    exact PySem.P.repr_of_str ⟨.str _, H, I.tok _, ⟨_, rfl⟩, by simpa [D.pyR, PyData.shown] using q⟩ (by simpa [D.pyR, PyData.shown] using h5)
  | _ => exact ref rfl
def oReprX (d : D) : Option D := if d.rok && (!d.isDk && (d.pyR.showable && (decide (d.pyR.depth ≤ 64) && decide (d.pyR.shown.length ≤ sizeLine)))) then some (.str d.pyR.shown) else none
theorem cv_reprX : CallV X.K ct (rReprX X.K ct) (o1 oReprX) := cv1 fun S H x d z Q live rx ho hq => by
  unfold oReprX at ho
  split at ho
  · rename_i c
    cases ho
    simp only [Bool.and_eq_true, decide_eq_true_eq, Bool.not_eq_true'] at c
    exact ⟨x, d, _, rfl, rx, off_le, c.1, c.2.1, c.2.2.1, c.2.2.2.1, c.2.2.2.2, hq _ H (Same.refl _) (.str _)⟩
  · cases ho
end
end Vl
set_option Elab.async false
set_option linter.all false
set_option maxRecDepth 100000
set_option maxHeartbeats 2000000
namespace Vl
open PySem PySem.Spec PyProof.Rows L2 Sb
end Vl
set_option Elab.async false
set_option linter.all false
set_option maxRecDepth 100000
set_option maxHeartbeats 2000000
namespace Vl
open PySem PySem.Spec PyProof.Rows L2 Sb
end Vl
set_option Elab.async false
set_option linter.all false
set_option maxRecDepth 100000
set_option maxHeartbeats 2000000
namespace Vl
open PySem PySem.Spec PyProof.Rows L2 Sb
end Vl
set_option Elab.async false
set_option linter.all false
set_option maxRecDepth 100000
set_option maxHeartbeats 2000000
namespace Vl
open PySem PySem.Spec PyProof.Rows L2 Sb
section
variable {X : Cx} {B : Bs} {Z : ZX} {a b e o : Expr} {pos xpos apos cpos : Pos} {f g : Ev D} {x : Str} {i : Nat}
def fIdx (f g : Ev D) : Ev D := fun env => (f env).bind fun d e1 => match d with
  | .lst l => (g e1).bind fun y e2 => if (D.lst l).eok && y.eok then (match l.findIdx? (fun z => PyData.eqv z.py y.py) with
    | some j => .val (.int (j : Int)) e2
    | none => .stuck) else .stuck
  | _ => .stuck
theorem pyAll_get : ∀ (l : List D) (j : Nat), (D.pyAll l)[j]? = (l[j]?).map D.py
  | [], j => by simp [D.pyAll]
  | d :: l, 0 => by simp [D.pyAll]
  | d :: l, j + 1 => by
    rw [List.getElem?_cons_succ, ← pyAll_get l j]
    simp [D.pyAll]
theorem de_idx (hu : X.A.units + 65 < cLine) (ho : DE X B Z o f) (he : DE X B Z e g) (hbase : attributeBase o "index" X.env (eval o X.env) = eval o X.env := by rfl)
    (hfew : ((backTo cpos (starEach [e] X.env)).all (fun x => !x.1) && (backToKw cpos (keywordEach [] X.env)).all (fun x => x.1.isSome)
      && decide ([e].length + ([] : List Keyword).length + (if ([] : List Keyword).isEmpty then 0 else 1) < 30)) = true := by rfl)
    (hline : (apos.endLine == cpos.line) = true := by rfl) (hst : starEach [e] X.env = (false, eval e X.env) :: starEach [] X.env := by rfl) (hplain : (backTo cpos (starEach [] X.env)).any (·.1) = false := by rfl) :
    DE X B Z (.Call (.Attribute o "index" apos) [e] [] cpos) (fIdx f g) :=
  ⟨PE.weak (pe_bm PySem.F.plainAttrs_list PySem.F.slot_list_index PySem.F.type_list_index (mt_indexD hu) ho.pe (pa_cons he.pe pa_nil hst) hbase hfew hline hst hplain) fun σ H Q ⟨G, env, c, q⟩ => ⟨G, env, c, post_imp (post_bind q) fun d e1 G1 H1 m1 c1 p1 v rv => by
    cases d with
    | lst l =>
      simp only [] at p1
      have rv0 := rv
      obtain ⟨a, vs, rfl, h1, t1⟩ := rv.lstE
      refine ⟨.inl ⟨rfl, _, SqL.of (off_le _ _ h1)⟩, G1, e1, c1, post_imp (post_bind p1) fun y e2 G2 H2 m2 c2 p2 w rw' => ?_⟩
      by_cases ce : ((D.lst l).eok && y.eok) = true
      · rw [if_pos ce] at p2
        cases hf : l.findIdx? (fun z => PyData.eqv z.py y.py) with
        | none =>
          rw [hf] at p2
          exact p2.elim
        | some j =>
          rw [hf] at p2
          simp only [D.eok, Bool.and_eq_true] at ce
          obtain ⟨hj, hz, hno⟩ := List.findIdx?_eq_some_iff_getElem.mp hf
          have g1 := (((rv0.mono m2.same)).mono off_le).dp ce.1.1
          simp only [D.py] at g1 ce
          refine ⟨a, w, y.py, D.pyAll l, j, l[j].py, rfl, rfl, g1, (rw'.mono off_le).dp ce.2.1, ce.1.2, ce.2.2, ?_, hz, fun m z' hm hz' => ?_, p2 G2 H2 Mono.refl c2 _ (.int _)⟩
          · rw [pyAll_get, List.getElem?_eq_getElem hj]
            rfl
          · rw [pyAll_get, List.getElem?_eq_getElem (by omega)] at hz'
            cases hz'
            have := hno m hm
            simpa using this
      · rw [if_neg ce] at p2
        exact p2.elim
    | _ => exact p1.elim⟩⟩
end
end Vl
set_option Elab.async false
set_option linter.all false
set_option maxRecDepth 100000
set_option maxHeartbeats 2000000
namespace Vl
open PySem PySem.Spec PyProof.Rows L2 Sb
end Vl
set_option Elab.async false
set_option linter.all false
set_option maxRecDepth 100000
set_option maxHeartbeats 2000000
namespace Vl
open PySem PySem.W PySem.Spec PyProof.Rows L2 Sb
end Vl
set_option Elab.async false
set_option linter.all false
set_option maxRecDepth 100000
set_option maxHeartbeats 2000000
namespace Vl
open PySem PySem.W PySem.Spec PyProof.Rows L2 Sb
section
variable {X : Cx} {k : Nat} {f : Addr} {fd : FuncData} {ps : List Str} {sp : Sp}
theorem Rps.snoc {K : Frag} {ct : Ct} {H : Hp} {v : V} {d : D} (h : Rp K ct H v d) : ∀ {vs : List V} {ds : List D}, Rps K ct H vs ds → Rps K ct H (vs ++ [v]) (ds ++ [d])
  | _, _, .nil => .cons h .nil
  | _, _, .cons a t => .cons a (Rps.snoc h t)
theorem Vals.snoc {v : V} {u : Value} (h : RelV v u) {vs : List V} {us : List Value} (t : Vals vs us) : Vals (vs ++ [v]) (us ++ [u]) := by
  induction t with
  | nil => exact .cons h .nil
  | cons a _ ih => exact .cons a ih
theorem Vals.get {vs : List V} {us : List Value} (t : Vals vs us) : ∀ {i : Nat} {u : Value}, us[i]? = some u → ∃ v, vs[i]? = some v ∧ RelV v u := by
  induction t with
  | nil => simp
  | cons a _ ih =>
    intro i u h
    cases i with
    | zero =>
      simp only [List.getElem?_cons_zero, Option.some.injEq] at h ⊢
      subst h
      exact ⟨_, rfl, a⟩
    | succ i => simpa using ih (by simpa using h)
/-- what stands at an address of one's own becomes known -/
theorem adopt {pins : List (Addr × Obj)} {σ : L2.St} {H : Hp} {s : Shared} {a : Addr} {o : HO} (I : Inv X pins σ H s) (fa : FpOk X pins H a) (ok : ObjOk X.prog X.w (upd H a o) s.heap a o) : Inv X pins σ (upd H a o) s := by
  obtain ⟨f1, f2, f3, f4, f5, f6⟩ := fa
  have ne : ∀ {b : Addr} {u : HO}, H b = some u → b ≠ a := fun h e => by
    subst e
    rw [f1] at h
    cases h
  refine I.step (H' := upd H a o) (h' := s.heap) (g' := s.gens) (t' := s.toks) (d' := s.drawn) (ch := [a]) ?_ (fun b o _ _ _ h _ => h) (fun b o _ _ _ h _ => ⟨_, h⟩) ?_ (fun b o _ h => ⟨o, h⟩) ?_ ?_ ?_ (fun m h => h) ?_ I.bare
  · intro b hb
    rw [List.mem_singleton] at hb
    subst hb
    exact ⟨f4, f2, f5, f6⟩
  · intro b o hb _ h
    rw [upd_ne (by simpa using hb)]
    exact h
  · intro b xs h
    rw [upd_ne (ne h)]
    exact h
  · intro b o u h
    rw [upd_ne (ne h)]
    exact h
  · intro b ps h
    exact ⟨#[], by rw [upd_ne (ne h), h]; simp⟩
  · intro b u h
    by_cases c : b = a
    · subst c
      rw [upd_same] at h
      cases h
      exact ok
    · rw [upd_ne c] at h
      exact (I.hok b u h).stay (fun _ _ _ h => h) (fun d h => by rw [upd_ne (ne h)]; exact h) (fun d xs h => by rw [upd_ne (ne h)]; exact h)
end
end Vl
set_option Elab.async false
set_option linter.all false
set_option maxRecDepth 100000
set_option maxHeartbeats 2000000
namespace Vl
open PySem PySem.W PySem.Spec PyProof.Rows L2 Sb
end Vl
set_option Elab.async false
set_option linter.all false
set_option maxRecDepth 100000
set_option maxHeartbeats 2000000
namespace Vl
open PySem PySem.Spec PyProof.Rows L2 Sb
end Vl
set_option Elab.async false
set_option linter.all false
set_option maxRecDepth 100000
set_option maxHeartbeats 2000000
namespace Vl
open PySem PySem.Spec PyProof.Rows L2 Sb
end Vl
set_option Elab.async false
set_option linter.all false
set_option maxRecDepth 100000
set_option maxHeartbeats 1000000
namespace Vl
open PySem L2 Sb
end Vl
set_option Elab.async false
set_option linter.all false
set_option maxRecDepth 100000
set_option maxHeartbeats 1000000
namespace Vl
open PySem PySem.Spec PyProof.Rows L2 Sb
mutual
/-- without boxes -/
def D.ub : D → D
  | .lst l => .lst (D.ubs l)
  | .dk ks l => .dk ks (D.ubs l)
  | .dt ks l => .dt ks (D.ubs l)
  | .ob c l => .ob c (D.ubs l)
  | .nk ks l => .nk ks (D.ubs l)
  | d => d
def D.ubs : List D → List D
  | [] => []
  | .bx d :: l => D.ub d :: D.ubs l
  | .non :: l => .non :: D.ubs l
  | .bl b :: l => .bl b :: D.ubs l
  | .int i :: l => .int i :: D.ubs l
  | .str s :: l => .str s :: D.ubs l
  | .tup k :: l => .tup k :: D.ubs l
  | .lst k :: l => .lst k :: D.ubs l
  | .ctup k :: l => .ctup k :: D.ubs l
  | .ob c k :: l => .ob c k :: D.ubs l
  | .dk ks k :: l => .dk ks k :: D.ubs l
  | .dt ks k :: l => .dt ks k :: D.ubs l
  | .nk ks k :: l => .nk ks k :: D.ubs l
  | .ex ks k :: l => .ex ks k :: D.ubs l
  | .scr ns :: l => .scr ns :: D.ubs l
  | .cl c :: l => .cl c :: D.ubs l
end
section
variable {K : PySem.W.Frag} {ct : Ct} {H H' F F' : Hp} {r r' : List Nat → Option Addr}
theorem ubs_sh {v : V} {d : D} {l : List D} (h : Rp K ct F v d) : D.ubs (d :: l) = d :: D.ubs l := by
  cases h <;> simp [D.ubs]
theorem TrsAt.len : ∀ {vs : List V} {l : List D} {π : List Nat} {j : Nat}, TrsAt K ct H F r π j vs l → vs.length = l.length
  | _, _, _, _, .nil => rfl
  | _, _, _, _, .sh h t => by simp [TrsAt.len t]
  | _, _, _, _, .bx h0 h t => by simp [TrsAt.len t]
mutual
theorem TrAt.rp (hF : ∀ π a, r π = some a → F' a = H a) (s : Same F F') : ∀ {π : List Nat} {d : D}, TrAt K ct H F r π d → ∃ a, r π = some a ∧ Rp K ct F' (.ref a) d.ub
  | _, _, .lst h0 h t => ⟨_, h0, by
    simp only [D.ub]
    exact .lst ((hF _ _ h0).trans h) (TrsAt.rp hF s t)⟩
  | _, _, .dk h0 hl h t => ⟨_, h0, by
    simp only [D.ub]
    exact .dk hl ((hF _ _ h0).trans h) (TrsAt.rp hF s t)⟩
  | _, _, .dt h0 hl h t => ⟨_, h0, by
    simp only [D.ub]
    exact .dt hl ((hF _ _ h0).trans h) (TrsAt.rp hF s t)⟩
  | _, _, .ob h0 hc hl h t => ⟨_, h0, by
    simp only [D.ub]
    exact .ob hc hl ((hF _ _ h0).trans h) (TrsAt.rp hF s t)⟩
  | _, _, .nk h0 h e1 e2 hk tk t => ⟨_, h0, by
    simp only [D.ub]
    exact .nk ((hF _ _ h0).trans h) e1 e2 hk (tk.mono s) (TrsAt.rp hF s t)⟩
theorem TrsAt.rp (hF : ∀ π a, r π = some a → F' a = H a) (s : Same F F') : ∀ {π : List Nat} {j : Nat} {vs : List V} {l : List D}, TrsAt K ct H F r π j vs l → Rps K ct F' vs (D.ubs l)
  | _, _, _, _, .nil => by
    simp only [D.ubs]
    exact .nil
  | _, _, _, _, .sh h t => by
    rw [ubs_sh h]
    exact .cons (h.mono s) (TrsAt.rp hF s t)
  | _, _, _, _, .bx h0 h t => by
    simp only [D.ubs]
    obtain ⟨a, e, q⟩ := TrAt.rp hF s h
    rw [h0] at e
    cases e
    exact .cons q (TrsAt.rp hF s t)
end
theorem TrsAt.of {π : List Nat} : ∀ {vs : List V} {l : List D} {j : Nat}, Rps K ct F vs l → TrsAt K ct H F r π j vs l
  | _, _, _, .nil => .nil
  | _, _, _, .cons h t => .sh h (TrsAt.of t)
/-- a flat thing is a tree -/
theorem OwnAt.tr {a : Addr} {d : D} {π : List Nat} (h : OwnAt K ct H F a d) (h0 : r π = Option.some a) : TrAt K ct H F r π d := by
  cases d with
  | lst l =>
    obtain ⟨vs, h1, h2⟩ := h
    exact .lst h0 h1 (.of h2)
  | dk ks l =>
    obtain ⟨vs, hl, h1, h2⟩ := h
    exact .dk h0 hl h1 (.of h2)
  | dt ks l =>
    obtain ⟨vs, hl, h1, h2⟩ := h
    exact .dt h0 hl h1 (.of h2)
  | ob c l =>
    obtain ⟨C, dx, ns, vs, hc, hl, h1, h2⟩ := h
    exact .ob h0 hc hl h1 (.of h2)
  | nk ks l =>
    obtain ⟨es, h1, h2, h3, h4⟩ := h
    exact .nk h0 h1 rfl rfl h2 h3 (.of h4)
  | _ => exact h.elim
theorem TrsAt.get {π : List Nat} : ∀ {vs : List V} {l : List D} {j i : Nat} {e : D}, TrsAt K ct H F r π j vs l → l[i]? = some (.bx e) → ∃ b, vs[i]? = some (.ref b) ∧ r ((j + i) :: π) = some b ∧ TrAt K ct H F r ((j + i) :: π) e
  | _, _, _, _, _, .nil, h => by simp at h
  | _, _, j, 0, e, .sh h t, q => by
    simp at q
    subst q
    cases h
  | _, _, j, 0, e, .bx h0 h t, q => by
    simp at q
    subst q
    exact ⟨_, rfl, h0, h⟩
  | _, _, j, i + 1, e, .sh h t, q => by
    obtain ⟨b, h1, h2, h3⟩ := TrsAt.get (i := i) t (by simpa using q)
    exact ⟨b, by simpa using h1, by rw [show j + (i + 1) = j + 1 + i by omega]; exact h2, by rw [show j + (i + 1) = j + 1 + i by omega]; exact h3⟩
  | _, _, j, i + 1, e, .bx h0 h t, q => by
    obtain ⟨b, h1, h2, h3⟩ := TrsAt.get (i := i) t (by simpa using q)
    exact ⟨b, by simpa using h1, by rw [show j + (i + 1) = j + 1 + i by omega]; exact h2, by rw [show j + (i + 1) = j + 1 + i by omega]; exact h3⟩
theorem suf_self (π : List Nat) : π <:+ π := List.suffix_refl π
theorem suf_cons {π τ : List Nat} (j : Nat) (h : π <:+ τ) : π <:+ (j :: τ) := h.trans (List.suffix_cons j τ)
theorem suf_not {π : List Nat} {j : Nat} : ¬ (j :: π) <:+ π := fun h => by
  have := h.length_le
  simp only [List.length_cons] at this
  omega
/-- the parts below a changed node stay -/
theorem TrsAt.under {π : List Nat} {a : Addr} (h0 : r π = some a) (inj : ∀ τ ρ b, r τ = some b → r ρ = some b → τ = ρ) (hH : ∀ b, b ≠ a → H' b = H b) (s : Same F F') : ∀ {vs : List V} {l : List D} {j : Nat}, TrsAt K ct H F r π j vs l → TrsAt K ct H' F' r π j vs l
  | _, _, _, .nil => .nil
  | _, _, _, .sh h t => .sh (h.mono s) (TrsAt.under h0 inj hH s t)
  | _, _, j, .bx g0 h t => by
    have far : ∀ τ b, (j :: π) <:+ τ → r τ = some b → H' b = H b := fun τ b g q => hH b fun z => by
      subst z
      have := inj _ _ _ q h0
      subst this
      exact suf_not g
    exact .bx g0 (TrAt.keep (P := fun τ => (j :: π) <:+ τ) (fun τ k g => suf_cons k g) (fun τ b g q => ⟨q, far τ b g q⟩) s (suf_self _) h) (TrsAt.under h0 inj hH s t)
theorem TrsAt.app {π : List Nat} : ∀ {vs ws : List V} {l m : List D} {j : Nat}, TrsAt K ct H F r π j vs l → TrsAt K ct H F r π (j + l.length) ws m → TrsAt K ct H F r π j (vs ++ ws) (l ++ m)
  | _, _, _, _, _, .nil, s => by simpa using s
  | _, _, _, _, _, .sh h t, s => .sh h (TrsAt.app t (by rw [List.length_cons] at s; rw [show ∀ a b : Nat, a + 1 + b = a + (b + 1) by intros; omega]; exact s))
  | _, _, _, _, _, .bx h0 h t, s => .bx h0 h (TrsAt.app t (by rw [List.length_cons] at s; rw [show ∀ a b : Nat, a + 1 + b = a + (b + 1) by intros; omega]; exact s))
end
end Vl
set_option Elab.async false
set_option linter.all false
set_option maxRecDepth 100000
set_option maxHeartbeats 1000000
namespace Vl
open PySem PySem.Spec PyProof.Rows L2 Sb
end Vl
set_option Elab.async false
set_option linter.all false
set_option maxRecDepth 100000
set_option maxHeartbeats 1000000
namespace Vl
open PySem PySem.Spec PyProof.Rows L2 Sb
theorem TrsAt.put {K : PySem.W.Frag} {ct : Ct} {H F : Hp} {r : List Nat → Option Addr} {π : List Nat} {k : Key} {v : V} {d : D} (rv : Rp K ct F v d) : ∀ {ks : List Key} {vs : List V} {l : List D} {j : Nat}, ks.length = vs.length → TrsAt K ct H F r π j vs l → TrsAt K ct H F r π j (putVs ks vs k v) (putKs ks l k d).2 := by
  intro ks vs l j hl t
  unfold putVs putKs
  by_cases e : (ks.any fun y => decide (y = k)) = true
  · rw [if_pos e, if_pos e]
    clear e
    show TrsAt K ct H F r π j (List.zipWith _ ks vs) (List.zipWith _ ks l)
    induction ks generalizing vs l j with
    | nil => exact .nil
    | cons y ks ih =>
      cases t with
      | nil => simp at hl
      | sh h t =>
        simp only [List.zipWith_cons_cons]
        have hl := Nat.succ.inj hl
        by_cases ey : y = k
        · rw [if_pos ey, if_pos ey]
          exact .sh rv (ih hl t)
        · rw [if_neg ey, if_neg ey]
          exact .sh h (ih hl t)
      | bx h0 h t =>
        simp only [List.zipWith_cons_cons]
        have hl := Nat.succ.inj hl
        by_cases ey : y = k
        · rw [if_pos ey, if_pos ey]
          exact .sh rv (ih hl t)
        · rw [if_neg ey, if_neg ey]
          exact .bx h0 h (ih hl t)
  · rw [if_neg e, if_neg e]
    exact t.app (.sh rv .nil)
end Vl
set_option Elab.async false
set_option linter.all false
set_option maxRecDepth 100000
set_option maxHeartbeats 1000000
namespace Vl
open PySem PySem.Spec PyProof.Rows L2 Sb
end Vl
set_option Elab.async false
set_option linter.all false
set_option maxRecDepth 100000
set_option maxHeartbeats 1000000
namespace Vl
open PySem PySem.Spec PyProof.Rows L2 Sb
mutual
/-- without a dict -/
def D.nd : D → Bool
  | .dk _ _ => false
  | .dt _ _ => false
  | .bx _ => false
  | .nk _ _ => false
  | .ex _ _ => false
  | .tup l => D.nds l
  | .ctup l => D.nds l
  | .lst l => D.nds l
  | .ob _ l => D.nds l
  | _ => true
def D.nds : List D → Bool
  | [] => true
  | d :: l => D.nd d && D.nds l
end
end Vl
set_option Elab.async false
set_option linter.all false
set_option maxRecDepth 100000
set_option maxHeartbeats 1000000
namespace Vl
open PySem PySem.Spec PyProof.Rows L2 Sb
section
variable {X : Cx} {B : Bs} {Z Zb : ZX} {a b e elt key tg o it : Expr} {pos xpos apos cpos : Pos} {f fk fe : Ev D} {fi : Ev (List D)} {ft : Ev Bool} {p : Pat} {i j : Nat} {x c fn : Str} {W : L2.St → Hp → Addr → Prop} {g : List Slot → Option D} {is : List Nat}
/-- where a tree of new lists stands -/
def rNew (L : Addr) (as : List Addr) : List Nat → Option Addr
  | [] => some L
  | [j] => as[j]?
  | _ => none
theorem rNew_kids {K : PySem.W.Frag} {ct : Ct} {H F : Hp} {L : Addr} {as : List Addr} (h : ∀ q, q ∈ as → H q = some (.lst [])) : ∀ (bs : List Addr) (j : Nat), as.drop j = bs → TrsAt K ct H F (rNew L as) [] j (bs.map V.ref) (List.replicate bs.length (.bx (.lst [])))
  | [], _, _ => .nil
  | b :: bs, j, e => by
    have hb : as[j]? = some b := by
      have := congrArg (fun l => l[0]?) e
      simpa using this
    have e' : as.drop (j + 1) = bs := by
      have := congrArg List.tail e
      simpa using this
    rw [List.length_cons, List.replicate_succ, List.map_cons]
    exact .bx hb (.lst hb (h b (List.mem_of_getElem? hb)) .nil) (rNew_kids h bs (j + 1) e')
/-- the state while new lists are made -/
structure NewLs (G1 : Gh) (H1 : Hp) (G : Gh) (H : Hp) (L : Addr) (as : List Addr) : Prop where
  nd : (L :: as).Nodup
  fr : ∀ q, q ∈ L :: as → H1 q = none ∧ G.S q ∧ G.un q
  at_ : ∀ q, q ∈ as → H q = some (.lst [])
theorem NewLs.one {G1 G : Gh} {H1 H : Hp} {L q : Addr} {as : List Addr} {env : List Slot} {σ : L2.St} {K : PySem.W.Frag} {B : Bs} (n : NewLs G1 H1 G H L as) (m : Mono G1 H1 G H) (c : Cfg K B G env σ H) (hq : H q = none) : NewLs G1 H1 (G.hide q) (upd H q (.lst [])) L (as ++ [q]) := by
  have qn : q ∉ L :: as := fun z => c.live q (n.fr q z).2.1 hq
  refine ⟨?_, fun y hy => ?_, fun y hy => ?_⟩
  · rw [← List.cons_append]
    exact List.nodup_append.mpr ⟨n.nd, by simp, fun a ha b hb e => by
      rw [List.mem_singleton] at hb
      subst hb
      subst e
      exact qn ha⟩
  · rw [← List.cons_append, List.mem_append, List.mem_singleton] at hy
    rcases hy with hy | rfl
    · obtain ⟨h1, h2, h3⟩ := n.fr y hy
      exact ⟨h1, .inl h2, h3⟩
    · exact ⟨undom m hq, .inr rfl, c.newUn hq⟩
  · rw [List.mem_append, List.mem_singleton] at hy
    rcases hy with hy | rfl
    · rw [upd_ne fun z => qn (by rw [← z]; exact List.mem_cons_of_mem _ hy)]
      exact n.at_ y hy
    · exact upd_same
theorem NewLs.step {G1 G G2 : Gh} {H1 H H2 : Hp} {L : Addr} {as : List Addr} (n : NewLs G1 H1 G H L as) (m : Mono G H G2 H2) : NewLs G1 H1 G2 H2 L as :=
  ⟨n.nd, fun q hq => by
    obtain ⟨h1, h2, h3⟩ := n.fr q hq
    obtain ⟨x1, x2, _⟩ := m.tmp q h2 h3
    exact ⟨h1, x1, x2⟩, fun q hq => by
    obtain ⟨h1, h2, h3⟩ := n.fr q (List.mem_cons_of_mem _ hq)
    rw [(m.tmp q h2 h3).2.2]
    exact n.at_ q hq⟩
end
end Vl
set_option Elab.async false
set_option linter.all false
set_option maxRecDepth 100000
set_option maxHeartbeats 1000000
namespace Vl
open PySem PySem.Spec PyProof.Rows L2 Sb
end Vl
set_option Elab.async false
set_option linter.all false
set_option maxRecDepth 100000
set_option maxHeartbeats 1000000
namespace Vl
open PySem PySem.Spec PyProof.Rows L2 Sb
section
variable {K : PySem.W.Frag} {B : Bs} {G G1 : Gh} {env : List Slot} {σ : L2.St} {H H1 H' : Hp}
theorem NewLs.lst {ct : Ct} {F : Hp} {L : Addr} {as : List Addr} (n : NewLs G1 H1 G H L as) (h : H L = some (.lst (as.map V.ref))) : TrAt K ct H F (rNew L as) [] (.lst (List.replicate as.length (.bx (.lst [])))) :=
  .lst rfl h (rNew_kids n.at_ as 0 rfl)
theorem NewLs.dk {ct : Ct} {F : Hp} {L : Addr} {as : List Addr} {ks : List Key} (n : NewLs G1 H1 G H L as) (hl : ks.length = as.length) (h : H L = some (.dK (ks.zip (as.map V.ref)))) : TrAt K ct H F (rNew L as) [] (.dk ks (List.replicate as.length (.bx (.lst [])))) :=
  .dk rfl (by rw [List.length_map]; exact hl) h (rNew_kids n.at_ as 0 rfl)
end
end Vl
set_option Elab.async false
set_option linter.all false
set_option maxRecDepth 100000
set_option maxHeartbeats 1000000
namespace Vl
open PySem PySem.Spec PyProof.Rows L2 Sb
end Vl
set_option Elab.async false
set_option linter.all false
set_option maxRecDepth 100000
set_option maxHeartbeats 1000000
namespace Vl
open PySem PySem.Spec PyProof.Rows L2 Sb
end Vl
set_option Elab.async false
set_option linter.all false
set_option maxRecDepth 100000
set_option maxHeartbeats 1000000
namespace Vl
open PySem PySem.Spec PySem.Calls PyProof.Rows L2 Sb
section
variable {K : PySem.W.Frag} {B : Bs} {G : Gh} {env : List Slot} {σ : L2.St} {H H' : Hp} {ct : Ct}
theorem Frame.none {S S' : Addr → Prop} {ns : List D} (f : Frame K ct S S' (fun _ => Option.none) H H' ns) : Frame K ct S S' (iaOf G []) H H' [] :=
  ⟨f.same, fun c h _ => f.hold c h fun j z => (by cases z), fun j a z => by
    obtain ⟨i, z, _⟩ := iaOf_some z
    simp at z, f.dom⟩
end
end Vl
set_option Elab.async false
set_option linter.all false
set_option maxRecDepth 100000
set_option maxHeartbeats 2000000
namespace Vl
open PySem PySem.Spec PyProof.Rows L2 Sb
def nGet (es : NEs) (k : NestedKey) : Option V := (es.find? fun e => decide (e.1 = k)).map (·.2.2)
def nPut (es : NEs) (k : NestedKey) (b : Addr) (v : V) : NEs :=
  if (es.any fun e => decide (e.1 = k)) = true then es.map fun e => if e.1 = k then (e.1, e.2.1, v) else e else es ++ [(k, b, v)]
abbrev NP : NEs → List (NestedKey × Addr × Value) → Prop := Paired fun p q => p.1 = q.1 ∧ p.2.1 = q.2.1 ∧ RelV p.2.2 q.2.2
theorem NP.val {es : NEs} {xs : List (NestedKey × Addr × Value)} (r : NP es xs) (k : NestedKey) : RelO (nGet es k) ((atKey xs k).map (·.2)) := by
  induction r with
  | nil => exact True.intro
  | @cons p q ps qs h t ih =>
    obtain ⟨h1, _, h2⟩ := h
    by_cases e : p.1 = k
    · have e' : q.1 = k := h1.symm.trans e
      have b : atKey (q :: qs) k = some q.2 := by simp [atKey, List.find?_cons, e']
      have a : nGet (p :: ps) k = some p.2.2 := by simp [nGet, List.find?_cons, e]
      rw [a, b]
      exact h2
    · have e' : ¬ q.1 = k := fun z => e (h1.trans z)
      have b : atKey (q :: qs) k = atKey qs k := by simp [atKey, List.find?_cons, e']
      have a : nGet (p :: ps) k = nGet ps k := by simp [nGet, List.find?_cons, e]
      rw [a, b]
      exact ih
theorem nGet_any (k : NestedKey) : ∀ es : NEs, (es.any fun e => decide (e.1 = k)) = (nGet es k).isSome
  | [] => rfl
  | p :: r => by
    rw [List.any_cons]
    by_cases e : p.1 = k
    · simp [nGet, List.find?_cons, e]
    · rw [decide_eq_false e, Bool.false_or, nGet_any k r]
      simp [nGet, List.find?_cons, e]
theorem NP.repl {es : NEs} {xs : List (NestedKey × Addr × Value)} (r : NP es xs) (k : NestedKey) {y : V} {u : Value} (ry : RelV y u) :
    NP (es.map fun e => if e.1 = k then (e.1, e.2.1, y) else e) (xs.map (putAt k u)) := by
  induction r with
  | nil => exact .nil
  | @cons p q ps qs h t ih =>
    rw [List.map_cons, List.map_cons]
    refine .cons ?_ ih
    obtain ⟨h1, h2, h3⟩ := h
    unfold putAt
    by_cases e : p.1 = k
    · rw [if_pos e, if_pos (h1.symm.trans e)]
      exact ⟨h1, h2, ry⟩
    · rw [if_neg e, if_neg (fun z => e (h1.trans z))]
      exact ⟨h1, h2, h3⟩
theorem NP.put {es : NEs} {xs : List (NestedKey × Addr × Value)} (r : NP es xs) (k : NestedKey) (b : Addr) {y : V} {u : Value} (ry : RelV y u) : NP (nPut es k b y) (storedH xs k b u) := by
  have e : (es.any fun e => decide (e.1 = k)) = (atKey xs k).isSome := by
    rw [nGet_any, (r.val k).isSome_eq, Option.isSome_map]
  unfold nPut storedH
  rw [e]
  by_cases q : (atKey xs k).isSome = true
  · rw [if_pos q, if_pos q]
    exact r.repl k ry
  · rw [if_neg q, if_neg q]
    exact Paired.snoc r ⟨rfl, rfl, ry⟩
end Vl
set_option Elab.async false
set_option linter.all false
set_option maxRecDepth 100000
set_option maxHeartbeats 2000000
namespace Vl
open PySem PySem.Spec PyProof.Rows L2 Sb
end Vl
set_option Elab.async false
set_option linter.all false
set_option maxRecDepth 100000
set_option maxHeartbeats 2000000
namespace Vl
open PySem PySem.Spec PyProof.Rows L2 Sb
end Vl
set_option Elab.async false
set_option linter.all false
set_option maxRecDepth 100000
set_option maxHeartbeats 2000000
namespace PySem
open Sem (wp)
end PySem
namespace Vl
open PySem PySem.Spec PyProof.Rows L2 Sb
end Vl
set_option Elab.async false
set_option linter.all false
set_option maxRecDepth 100000
set_option maxHeartbeats 2000000
namespace Vl
open PySem PySem.Spec PyProof.Rows L2 Sb
end Vl
set_option Elab.async false
set_option linter.all false
set_option maxRecDepth 100000
set_option maxHeartbeats 2000000
namespace Vl
open PySem PySem.W PySem.Spec PyProof.Rows L2 Sb
end Vl
set_option Elab.async false
set_option linter.all false
set_option maxRecDepth 100000
set_option maxHeartbeats 2000000
namespace Vl
open PySem PySem.Spec PyProof.Rows L2 Sb
end Vl
set_option Elab.async false
set_option linter.all false
set_option maxRecDepth 100000
set_option maxHeartbeats 2000000
namespace PySem.W
open PySem PySem.Calls PySem.Spec PyProof.Rows
end PySem.W
namespace Vl
open PySem PySem.Spec PyProof.Rows L2 Sb
end Vl
set_option Elab.async false
set_option linter.all false
set_option maxRecDepth 100000
set_option maxHeartbeats 2000000
namespace Vl
open PySem PySem.Spec PyProof.Rows L2 Sb
end Vl
namespace Vl
open PySem PySem.Spec PyProof.Rows L2 Sb
end Vl
namespace Vl
open PySem PySem.Spec PyProof.Rows L2 Sb
end Vl
set_option Elab.async false
set_option linter.all false
set_option maxRecDepth 100000
set_option maxHeartbeats 2000000
namespace Vl
open PySem PySem.Spec PyProof.Rows L2 Sb
inductive NK where
  | sh | ow | tr
/-- v is d, shared or new; A: what it claims -/
def NkOk (K : PySem.W.Frag) (ct : Ct) (G : Gh) (H0 H : Hp) (v : V) (d : D) (A : Addr → Prop) : NK → Prop
  | .sh => Rp K ct (off G.S H) v d ∧ ∀ a, ¬ A a
  | .ow => ∃ p, v = .ref p ∧ H0 p = none ∧ G.S p ∧ G.un p ∧ OwnAt K ct H (off G.S H) p d ∧ ∀ a, A a → a = p
  | .tr => ∃ r p, v = .ref p ∧ r [] = some p ∧ (∀ π q, r π = some q → H0 q = none ∧ G.S q ∧ G.un q ∧ A q) ∧ (∀ π ρ q, r π = some q → r ρ = some q → π = ρ) ∧ TrAt K ct H (off G.S H) r [] d ∧ ∀ a, A a → ∃ π, r π = some a
section
variable {K : PySem.W.Frag} {B : Bs} {ct : Ct} {G G0 G' G1 : Gh} {env : List Slot} {σ : L2.St} {H H' H0 H00 H1 : Hp} {v w : V} {d e : D} {A A2 : Addr → Prop} {k k2 : NK} {i : Nat}
theorem NkOk.fresh (h : NkOk K ct G H0 H v d A k) : ∀ a, A a → H0 a = none ∧ G.S a := fun a ha => by
  cases k with
  | sh => exact absurd ha (h.2 a)
  | ow =>
    obtain ⟨p, _, h1, h2, _, _, h3⟩ := h
    rw [h3 a ha]
    exact ⟨h1, h2⟩
  | tr =>
    obtain ⟨r, p, _, _, h1, _, _, h2⟩ := h
    obtain ⟨π, hp⟩ := h2 a ha
    exact ⟨(h1 π a hp).1, (h1 π a hp).2.1⟩
theorem NkOk.mono (h : NkOk K ct G H0 H v d A k) (m : Mono G H G' H') : NkOk K ct G' H0 H' v d A k := by
  cases k with
  | sh => exact ⟨h.1.mono m.same, h.2⟩
  | ow =>
    obtain ⟨p, h0, h1, h2, h3, h4, h5⟩ := h
    obtain ⟨x1, x2, x3⟩ := m.tmp p h2 h3
    exact ⟨p, h0, h1, x1, x2, h4.mono x3 m.same, h5⟩
  | tr =>
    obtain ⟨r, p, h0, h1, h2, h3, h4, h5⟩ := h
    refine ⟨r, p, h0, h1, fun π a z => ?_, h3, h4.same (fun π a z => (m.tmp a (h2 π a z).2.1 (h2 π a z).2.2.1).2.2) m.same, h5⟩
    obtain ⟨y1, y2, y3, y4⟩ := h2 π a z
    obtain ⟨x1, x2, x3⟩ := m.tmp a y2 y3
    exact ⟨y1, x1, x2, y4⟩
end
end Vl
set_option Elab.async false
set_option linter.all false
set_option maxRecDepth 100000
set_option maxHeartbeats 2000000
namespace Vl
open PySem PySem.Spec PyProof.Rows L2 Sb
end Vl
set_option Elab.async false
set_option linter.all false
set_option maxRecDepth 100000
set_option maxHeartbeats 2000000
namespace Vl
open PySem PySem.Spec PyProof.Rows L2 Sb
end Vl
namespace Vl
open PySem PySem.Spec PyProof.Rows L2 Sb
end Vl
set_option Elab.async false
set_option linter.all false
set_option maxRecDepth 100000
set_option maxHeartbeats 2000000
namespace Vl
section
open PySem PySem.W PySem.Calls PyProof.Rows
open Builtin Builtin.ObjectAttr
variable {prog : Program} {w : World} {A : Around} {R : Result → Shared → Prop} {hp : Heap} {g : Array GenState} {d : Drawn} {t : Nat} {os : OsState} {K : W.Frag} {name : Str} {tk : Tok} {v : Value} {x C : Addr} {fv : Array Value} {B : String} {bmB : List Value}
theorem taker_none (ha : W.findIn K (.ref C) name = some none) : takerIn K C name = some none := by
  unfold takerIn
  rw [ha]
  rfl
theorem dict_cls (hh : W.hasDictIn K C = true) : ∃ cd, W.clsIn K C = some cd ∧ cd.hasDict = true := any_some hh
/-- the first field: the exception gets its dict -/
theorem setB_new (SF : StoreFacts B bmB "object.__setattr__" "object") (X : K.In hp) (hx : hp.get? x = some { cls := .ref C, data := .fields fv }) (ho : excOver K C bmB = true) (hh : W.hasDictIn K C = true) (ha : W.findIn K (.ref C) name = some none)
    (q : ∀ h' tk' dx, (∀ b o, b ≠ x → hp.get? b = some o → h'.get? b = some o) → hp.objs.size ≤ dx → dx ≠ x → h'.get? x = some { cls := .ref C, dict := some dx, data := .fields fv } →
      h'.Ns1 dx (fun y => if y = name then some v else none) → R (.ok (.ret .none)) ⟨h', g, d, tk', os⟩) :
    codeAny (model prog w) A (.call (.builtin "object.__setattr__") ⟨[.ref x, .str name tk, v], []⟩) R ⟨hp, g, d, t, os⟩ := by
  obtain ⟨cd, hcd, hd⟩ := dict_cls hh
  have far : x ≠ hp.objs.size := Nat.ne_of_lt (Heap.lt_size hx)
  have look : W.Looks (model prog w) hp (classData C) cd := W.looks_clsIn X hcd
  refine osa_openX (od := none) SF X ⟨hx, rfl, rfl, trivial⟩ ho (taker_none ha) fun b => ?_
  show wpAny _ _ (storeInOwnDict (.ref x) (.ref C) (.str name tk) name v b) _ _ _
  obtain ⟨c1, c2, c3, c4, c5, c6, c7, c8, c9, c10, c11⟩ := cd
  dsimp only at hd
  subst hd
  unfold storeInOwnDict ownDictForStores
  repeat (first | with_reducible refine PySem.HandSPX.store_in_new ?_ ?_ | with_reducible refine wpAny_loadPart_at hx ?_ | with_reducible refine look.at ?_ | wp_step)
  · exact ⟨_, #[], _, (Heap.get?_update_ne _ _ _ _ far.symm).trans (Heap.get?_push_at rfl rfl), rfl, fun e he => absurd he (by simp), fun _ => rfl⟩
  · intro h2 tk2 ns sb
    have at_ : (hp.push { cls := .type "dict", data := .dict #[] }).get? x = some { cls := .ref C, data := .fields fv } := Heap.get?_push_of_some _ hx
    refine q h2 tk2 hp.objs.size (fun c o hc e => ?_) (Nat.le_refl _) far.symm ((sb.2 x far).trans (Heap.get?_update_self _ at_ rfl)) ns
    rw [sb.2 c (Nat.ne_of_lt (Heap.lt_size e)), Heap.get?_update_ne _ _ _ _ hc]
    exact Heap.get?_push_of_some _ e
/-- a further field -/
theorem setB_old {dx : Addr} {m0 : Str → Option Value} {nl : List Str} (SF : StoreFacts B bmB "object.__setattr__" "object") (X : K.In hp) (hx : hp.get? x = some { cls := .ref C, dict := some dx, data := .fields fv }) (hns : hp.Ns1 dx m0) (hw : Within m0 nl) (hz : nl.length ≤ 1000)
    (ho : excOver K C bmB = true) (hh : W.hasDictIn K C = true) (ha : W.findIn K (.ref C) name = some none)
    (q : ∀ h' tk', (∀ b o, b ≠ dx → hp.get? b = some o → h'.get? b = some o) → h'.Ns1 dx (fun y => if y = name then some v else m0 y) → R (.ok (.ret .none)) ⟨h', g, d, tk', os⟩) :
    codeAny (model prog w) A (.call (.builtin "object.__setattr__") ⟨[.ref x, .str name tk, v], []⟩) R ⟨hp, g, d, t, os⟩ := by
  obtain ⟨cd, hcd, hd⟩ := dict_cls hh
  obtain ⟨oD, _, _, there, _, _⟩ := hns.count hw
  have look : W.Looks (model prog w) hp (classData C) cd := W.looks_clsIn X hcd
  refine osa_openX (od := some oD) SF X ⟨hx, rfl, rfl, there⟩ ho (taker_none ha) fun b => ?_
  show wpAny _ _ (storeInOwnDict (.ref x) (.ref C) (.str name tk) name v b) _ _ _
  obtain ⟨c1, c2, c3, c4, c5, c6, c7, c8, c9, c10, c11⟩ := cd
  dsimp only at hd
  subst hd
  unfold storeInOwnDict ownDictForStores
  repeat (first | with_reducible refine PySem.OEX.store_in_old hns hw hz ?_ | with_reducible refine wpAny_loadPart_at hx ?_ | with_reducible refine look.at ?_ | wp_step)
  exact fun h2 tk2 ns sb => q h2 tk2 (fun c o hc e => (sb.2 c hc).trans e) ns
end
open PySem PySem.Spec PyProof.Rows L2 Sb
section
variable {X : Cx} {pins : List (Addr × Obj)} {σ : L2.St} {H : Hp} {s : Shared} {a C dx : Addr} {f : Str} {y : V} {u : Value} {fs : List (Str × V)} {Q : Unit → Shared → Prop} {E : Value → Shared → Prop} {A : Around} {B newId initId : String} {bmB : List Value}
/-- one thing of a record's kind is turned, a new one is laid -/
theorem Inv.turnLay {h' : Heap} {t' : Nat} {ho p1 : Heap → Prop} {oa od : HO} (I : Inv X pins σ H s) (e : H a = some (.ext ho)) (hd : s.heap.objs.size ≤ dx) (hda : dx ≠ a) (k : ∀ b o, b ≠ a → s.heap.get? b = some o → h'.get? b = some o) (ta : ∃ o, h'.get? a = some o)
    (oka : ObjOk X.prog X.w (upd (upd H dx od) a oa) h' a oa) (okd : ObjOk X.prog X.w (upd (upd H dx od) a oa) h' dx od) : Inv X pins σ (upd (upd H dx od) a oa) { s with heap := h', toks := t' } := by
  have hn : H dx = none := I.hok.fresh hd
  have nd : ∀ {b : Addr} {o : Obj}, s.heap.get? b = some o → b ≠ dx := fun {b o} q => Nat.ne_of_lt (Nat.lt_of_lt_of_le (Heap.lt_size q) hd)
  have na : ∀ {b : Addr}, H b = none → b ≠ a := fun {b} n z => by
    subst z
    rw [e] at n
    cases n
  have other : ∀ {b : Addr} {u : HO}, H b = some u → (∀ p, u ≠ .ext p) → upd (upd H dx od) a oa b = some u := fun {b u} q n => by
    have b1 : b ≠ a := fun z => by
      subst z
      rw [e] at q
      exact n _ (Option.some.inj q).symm
    rw [upd_ne b1, upd_ne (ne_of_none q hn)]
    exact q
  refine I.un (t' := t') { keep := fun b o q n _ _ => k b o (na n) q, slot := fun b o q n _ _ => ⟨o.slots, k b o (na n) q⟩, free := fun b o q n _ => ?_, there := fun b o q _ => ?_, tups := fun b xs q => other q fun p z => (nomatch z), frzs := fun b o v q => other q fun p z => (nomatch z), tbls := fun b ps q => ⟨#[], by rw [other q fun p z => (nomatch z)]; simp⟩ } fun b o q => ?_
  · rw [upd_ne (na n), upd_ne (nd q)]
    exact n
  · by_cases hb : b = a
    · subst hb
      exact ta
    · exact ⟨o, k b o hb q⟩
  · by_cases hb : b = a
    · subst hb
      rw [upd_same] at q
      cases q
      exact oka
    · rw [upd_ne hb] at q
      by_cases hb2 : b = dx
      · subst hb2
        rw [upd_same] at q
        cases q
        exact okd
      · rw [upd_ne hb2] at q
        refine (I.hok b o q).stay (fun c v hc z => k c v ?_ z) (fun c hc => other hc fun p z => (nomatch z)) fun c xs hc => other hc fun p z => (nomatch z)
        rcases hc with hc | hc
        · rw [hc]
          exact hb
        · intro z
          subst z
          rw [e] at hc
          cases hc
end
end Vl
set_option Elab.async false
set_option linter.all false
set_option maxRecDepth 100000
set_option maxHeartbeats 2000000
namespace Vl
open PySem PySem.Spec PyProof.Rows L2 Sb
end Vl
set_option Elab.async false
set_option linter.all false
set_option maxRecDepth 100000
set_option maxHeartbeats 2000000
namespace Vl
open PySem PySem.Spec PyProof.Rows L2 Sb
end Vl
set_option Elab.async false
set_option linter.all false
set_option maxRecDepth 100000
set_option maxHeartbeats 2000000
namespace Vl
open PySem PySem.Spec PyProof.Rows L2 Sb
/-- the class's own object tells both -/
theorem im_of {K : PySem.W.Frag} {C N : Addr} {nm q : Str} {bs bmB sub : List Value} {sn : List Str} {ab : Bool} {col : Option Bool} {dd : Option Addr} {k0 k1 k2 k3 k5 : Option Value} {newId : String} (hL : K.lookup C = some (excClassObj nm q C N bs bmB true sn sub ab col dd k0 k1 k2 k3 k5 newId)) (ht : PySem.W.excTail bmB bmB = true) :
    PySem.W.excInitIn K C bmB newId = true ∧ PySem.W.excOver K C bmB = true ∧ PySem.W.hasDictIn K C = true := by
  refine ⟨?_, ?_, ?_⟩
  · unfold PySem.W.excInitIn
    rw [hL]
    show (C == C && newId == newId && !false && PySem.W.excTail bmB bmB) = true
    simp [ht]
  · have hc : PySem.W.clsIn K C = some { name := nm, bases := bs, mro := .ref C :: bmB, ns := N, qualname := q, hasDict := true, slotNames := sn, subclasses := sub, abstract := ab, collection := col, hasDel := false } := by unfold PySem.W.clsIn; rw [hL] <;> rfl
    unfold PySem.W.excOver
    rw [hc]
    show (C == C && PySem.W.excTail bmB bmB) = true
    simp [ht]
  · have hc : PySem.W.clsIn K C = some { name := nm, bases := bs, mro := .ref C :: bmB, ns := N, qualname := q, hasDict := true, slotNames := sn, subclasses := sub, abstract := ab, collection := col, hasDel := false } := by unfold PySem.W.clsIn; rw [hL] <;> rfl
    unfold PySem.W.hasDictIn
    rw [hc]
    rfl
end Vl
set_option Elab.async false
set_option linter.all false
set_option maxRecDepth 100000
set_option maxHeartbeats 4000000
namespace Vl
section
open PySem PySem.F PySem.HandSPX
open PySem.Builtin PySem.Builtin.ObjectAttr
theorem store_KeyError : StoreFacts "KeyError" [.type "KeyError", .type "LookupError", .type "Exception", .type "BaseException", .type "object"] "object.__setattr__" "object" where
  mro := by kernel_rfl
  slot := .of (owner := "object") (n := "__setattr__") (by rw [typeLookup_type, builtinLookup_eq_fast]; kernel_rfl) (by decide +kernel) (by decide +kernel) (by decide +kernel)
    (by first | exact .inl (by decide +kernel) | exact .inr (by decide +kernel)) (by rw [isSubtype_type]; kernel_rfl)
  entry := entry_object_sa
  kind := by decide +kernel
  split := by decide +kernel
  hasOwner := by decide +kernel
  args := fun a b c => by unfold argsOk; kernel_rfl
  passes := fun self => by kernel_rfl
/-- of the names of an exception's classes those that its making asks for -/
structure HasB (bm : List Value) (B : String) : Prop where
  b : bm.contains (.type B) = true
  a : bm.contains (.type "AttributeError") = false
  n : bm.contains (.type "NameError") = false
section
variable {M : Model} {A : Around} {E : Value → Shared → Prop} {h : Heap} {g : Array GenState} {d : Drawn} {t : Nat} {os : OsState}
variable {nm q : Str} {C N : Addr} {bs bm bmB : List Value} {hdct : Bool} {sn : List Str} {sub : List Value} {ab : Bool} {col : Option Bool} {dd : Option Addr} {k0 k1 k2 k3 k5 : Option Value} {B newId initId : String}
theorem check_new_u (F : ExcBaseFacts B newId initId bmB) (hT : HasB bm B) {rest : List Value} {kws : List (Str × Value)} {Q : Unit → Shared → Prop}
    (hC : h.get? C = some (excClassObj nm q C N bs bm hdct sn sub ab col dd k0 k1 k2 k3 k5 newId)) (hq : Q () ⟨h, g, d, t, os⟩) : wpAny M A (checkBuiltinCall newId ⟨.ref C :: rest, kws⟩) Q E ⟨h, g, d, t, os⟩ := by
  have hcont : (Value.ref C :: bm).contains (.type B) = true := by rw [List.contains_cons, hT.b, Bool.or_true]
  have hstar := F.noStar
  simp only [checkBuiltinCall, F.newKind, F.newSplit, F.newRow]
  repeat (first | refine wpAny_loadPart_at hC ?_ | (refine wpAny_isSubtype_exc hC ?_; rw [hcont]) | refine wpAny_staticBase_exc hC ?_ | refine wpAny_madeBy_exc hC ?_ | simp only [bne_self_eq_false, Bool.false_eq_true, if_false] | wp_step)
  exact hq
end
section
variable {prog : Program} {w : World} {A : Around} {E : Value → Shared → Prop} {R : Result → Shared → Prop} {h : Heap} {g : Array GenState} {d : Drawn} {t : Nat} {os : OsState}
variable {nm q : Str} {C N : Addr} {bs bm bmB : List Value} {hdct : Bool} {sn : List Str} {sub : List Value} {ab : Bool} {col : Option Bool} {dd : Option Addr} {k0 k1 k2 k3 k5 : Option Value} {B newId initId : String}
theorem new_u (F : ExcBaseFacts B newId initId bmB) (hT : HasB bm B) {rest : List Value} {kws : List (Str × Value)}
    (hC : h.get? C = some (excClassObj nm q C N bs bm hdct sn sub ab col dd k0 k1 k2 k3 k5 newId))
    (hq : R (.ok (.ret (.ref (h.objs.size + 1)))) ⟨(h.push { cls := .type "tuple", data := .seq rest.toArray }).push
      { cls := .ref C, data := .fields #[.ref h.objs.size, .none, .none, .none, .bool false, .none] }, g, d, t, os⟩) (hrest : rest.length ≤ sizeLine) :
    codeAny (model prog w) A (.builtin newId ⟨.ref C :: rest, kws⟩) R ⟨h, g, d, t, os⟩ := by
  have hends := F.ends
  have hcB : (Value.ref C :: bm).contains (.type B) = true := by rw [List.contains_cons, hT.b, Bool.or_true]
  have hcA : (Value.ref C :: bm).contains (.type "AttributeError") = false := by rw [List.contains_cons, hT.a]; rfl
  have hcN : (Value.ref C :: bm).contains (.type "NameError") = false := by rw [List.contains_cons, hT.n]; rfl
  refine codeAny_builtinAt F.entry ?_
  unfold Builtin.«BaseException.__new__»
  refine wpAt_bind ?_
  show wpAt _ _ _ (stack >>= _) _ _ _
  refine wpAt_bind (wpAt_stack fun p below => wpAt_of_wpAny ?_)
  wp_walk
  refine wpAt_of_wpAny ?_
  rw [F.owner]
  repeat (first | with_reducible refine wpAny_madeHere_exc F.canon hC ?_ | with_reducible refine wpAny_loadPart_at hC ?_ | (with_reducible refine wpAny_isSubtype_exc hC ?_; first | rw [hcB] | rw [hcA] | rw [hcN]) | wp_step)
  show R _ _
  rw [Heap.size_push]
  exact hq
theorem type_call_u (F : ExcBaseFacts B newId initId bmB) (hT : HasB bm B) {rest : List Value} {kws : List (Str × Value)} {fI : Addr} {Q : Fin → Shared → Prop}
    (hC : h.get? C = some (excClassObj nm q C N bs bm hdct sn sub ab col dd k0 k1 k2 k3 k5 newId))
    (hi : W.Looks (model prog w) h (typeLookup (.ref C) "__init__") (some (.ref fI))) (hb : ∀ self, W.Looks (model prog w) h (bindSpecial (.ref fI) self) (.ref fI, [self])) (hrest : rest.length ≤ sizeLine)
    (hq : codeAny (model prog w) A (.call (.ref fI) ⟨.ref (h.objs.size + 1) :: rest, kws⟩)
      (fun r s' => match r with | .ok (.ret v) => v = .none ∧ Q (.done (.ret (.ref (h.objs.size + 1)))) s' | .ok _ => False | .error e => E e s')
      ⟨(h.push (W.kdv_tup rest)).push (excO C h.objs.size), g, d, t, os⟩) :
    wpAny (model prog w) A (Builtin.«type.__call__» ⟨.ref C :: rest, kws⟩) Q E ⟨h, g, d, t, os⟩ := by
  repeat (first | with_reducible refine wpAny_loadPart_at hC ?_ | with_reducible refine wpAny_madeBy_exc hC ?_ | wp_step)
  refine codeAny_call_builtin_code (Code.quiet_builtin _ F.quiet) (check_new_u F hT hC ?_)
  refine new_u F hT hC ?_ hrest
  show wpAny _ _ _ _ _ _
  have k : ∀ b o, h.get? b = some o → ((h.push (W.kdv_tup rest)).push (excO C h.objs.size)).get? b = some o := fun b o e => Heap.get?_push_of_some _ (Heap.get?_push_of_some _ e)
  have hC₁ := k _ _ hC
  have hget : ((h.push (W.kdv_tup rest)).push (excO C h.objs.size)).get? (h.objs.size + 1) = some (excO C h.objs.size) := by heap_get
  have hcC : (Value.ref C :: bm).contains (.ref C) = true := by simp
  have i1 := hi.keeps k
  have b1 := (hb (.ref (h.objs.size + 1))).keeps k
  unfold isInstance
  repeat (first | with_reducible refine wpAny_loadPart_at hget ?_ | (with_reducible refine wpAny_isSubtype_exc hC₁ ?_; rw [hcC]) | wp_step)
  show wpAny _ _ (typeLookup (.ref C) _) _ _ _
  refine i1.at ?_
  refine wpAny_holding (wpAny_bind (b1.at ?_))
  refine wpAny_bind (wpAny_call (codeAny_mono hq fun r s' z => ?_))
  rcases r with e | (v | _ | _ | _) <;> first | exact z | exact z.elim | skip
  obtain ⟨rfl, z⟩ := z
  first
    | exact wpAny_pure (wpAny_pure z)
    | (wp_walk; exact z)
theorem call_u (F : ExcBaseFacts B newId initId bmB) (hT : HasB bm B) {rest : List Value} {kws : List (Str × Value)} {fI : Addr}
    (hC : h.get? C = some (excClassObj nm q C N bs bm hdct sn sub ab col dd k0 k1 k2 k3 k5 newId))
    (hi : W.Looks (model prog w) h (typeLookup (.ref C) "__init__") (some (.ref fI))) (hb : ∀ self, W.Looks (model prog w) h (bindSpecial (.ref fI) self) (.ref fI, [self])) (hrest : rest.length ≤ sizeLine)
    (hq : codeAny (model prog w) (A.under (.builtin "type.__call__" ⟨.ref C :: rest, kws⟩)) (.call (.ref fI) ⟨.ref (h.objs.size + 1) :: rest, kws⟩) (W.InitBack (h.objs.size + 1) R)
      ⟨(h.push (W.kdv_tup rest)).push (excO C h.objs.size), g, d, t, os⟩) :
    codeAny (model prog w) A (.call (.ref C) ⟨rest, kws⟩) R ⟨h, g, d, t, os⟩ := by
  have f1 := tc_lookup
  have f2 := tc_bind (.ref C)
  have hTy : (⟨h, g, d, t, os⟩ : Shared).TypeIs (.ref C) "type" := ⟨_, hC, rfl⟩
  refine codeAny_of_tree ?_
  show wpAny _ _ (callAny (.ref C) _) _ _ _
  repeat (any_goals (first | assumption | with_reducible refine wpAny_loadPart_at hC ?_ | wp_step))
  refine ⟨rfl, ?_⟩
  refine codeAny_call_builtin_at (Code.quiet_builtin _ (by decide +kernel)) entry_typeCall (wpAny_check_type_call_sub hC (type_call_u F hT hC hi hb hrest ?_))
  refine codeAny_mono hq fun r s' z => ?_
  rcases r with e | (v | _ | _ | _) <;> exact z
end
end
end Vl
set_option Elab.async false
set_option linter.all false
set_option maxRecDepth 100000
set_option maxHeartbeats 4000000
namespace Vl
open PySem PySem.Spec PyProof.Rows L2 Sb
/-- the class of an own error, over any base -/
structure OexU (K : PySem.W.Frag) (C : Addr) : Prop where
  im : ∃ (nm q : Str) (N : Addr) (bs bm : List Value) (sn : List Str) (sub : List Value) (ab : Bool) (col : Option Bool) (dd : Option Addr) (k0 k1 k2 k3 k5 : Option Value) (B newId initId : String) (bmN : List Value), K.lookup C = some (excClassObj nm q C N bs bm true sn sub ab col dd k0 k1 k2 k3 k5 newId) ∧ HasB bm B ∧ ExcBaseFacts B newId initId bmN
  st : ∃ (B : String) (bmB : List Value), StoreFacts B bmB "object.__setattr__" "object" ∧ PySem.W.excOver K C bmB = true
  hd : PySem.W.hasDictIn K C = true
  sa : PySem.W.findIn K (.ref C) "__setattr__" = some (some (.builtin "object.__setattr__"))
  kC : PySem.W.keepIn K (.ref C) = true
section
variable {X : Cx} {pins : List (Addr × Obj)} {σ : L2.St} {H : Hp} {s : Shared} {a C dx : Addr} {f : Str} {y : V} {u : Value} {fs : List (Str × V)} {Q : Unit → Shared → Prop} {E : Value → Shared → Prop} {A : Around}
theorem ostU_new (T : OexU X.K C) (I : Inv X pins σ H s) (e : H a = some (exo a C none)) (hno : PySem.W.findIn X.K (.ref C) f = some none) (ry : RelV y u)
    (h : ∀ dx s', H dx = none → dx ≠ a → Inv X pins σ (upd (upd H dx (exd dx [(f, y)])) a (exo a C (some dx))) s' → Q () s') : wpAny (model X.prog X.w) A (setAttr (.ref a) f u) Q E s := by
  obtain ⟨t1, ho⟩ := exo_at I.hok e
  obtain ⟨hp, g, d, t, os⟩ := s
  obtain ⟨Bn, bmB, st, ov⟩ := T.st
  refine PySem.W.set_plain I.kIn (ox := { cls := .ref C, dict := none, data := .fields #[.ref t1, .none, .none, .none, .bool false, .none] }) (od := none) ⟨ho, rfl, rfl, trivial⟩ T.sa ?_
  refine setB_new st I.kIn ho ov T.hd hno fun h2 t2 dx k dn dne hx hn => ?_
  exact h dx _ (I.hok.fresh dn) dne (Inv.turnLay (t' := t2) (p1 := fun _ => True) I e dn dne k ⟨_, hx⟩ (exo_ok hx) (exd_ok hn (relO_put (fs := []) ry fun g => True.intro)))
theorem ostU_old (T : OexU X.K C) (I : Inv X pins σ H s) (e : H a = some (exo a C (some dx))) (ed : H dx = some (exd dx fs)) (hl : fs.length ≤ 900) (hno : PySem.W.findIn X.K (.ref C) f = some none) (ry : RelV y u)
    (h : ∀ s', Inv X pins σ (upd H dx (exd dx ((f, y) :: fs))) s' → Q () s') : wpAny (model X.prog X.w) A (setAttr (.ref a) f u) Q E s := by
  obtain ⟨t1, ho⟩ := exo_at I.hok e
  obtain ⟨mA, hns, rel⟩ := exd_at I.hok ed
  have hw := within_of rel
  obtain ⟨hp, g, d, t, os⟩ := s
  obtain ⟨oD, _, _, hoD, _, _⟩ := hns.count hw
  obtain ⟨Bn, bmB, st, ov⟩ := T.st
  refine PySem.W.set_plain I.kIn (ox := { cls := .ref C, dict := some dx, data := .fields #[.ref t1, .none, .none, .none, .bool false, .none] }) (od := some oD) ⟨ho, rfl, rfl, hoD⟩ T.sa ?_
  refine setB_old st I.kIn ho hns hw (by rw [List.length_map]; omega) ov T.hd hno fun h2 t2 k hn => ?_
  have there : ∃ o, h2.get? dx = some o := by
    obtain ⟨o, _, _, e', _⟩ := hn
    exact ⟨o, e'⟩
  exact h _ (I.write (t' := t2) (x := dx) (e := dx) (o := exd dx ((f, y) :: fs)) (by rw [ed]; exact True.intro) (.inl rfl) k there (exd_ok hn (relO_put ry rel)))
end
/-- self.f = e of an own error being made -/
def tOstU (K : PySem.W.Frag) (f : Str) (to te : TE) : TS := fun D σ H => te σ H fun y H1 => to σ H1 fun x H2 => ∃ (a C : Addr), x = .ref a ∧ OexU K C ∧ PySem.W.findIn K (.ref C) f = some none ∧
  ((H2 a = some (exo a C none) ∧ ∀ dx, H2 dx = none → dx ≠ a → D.nx σ (upd (upd H2 dx (exd dx [(f, y)])) a (exo a C (some dx)))) ∨
    ∃ (dx : Addr) (fs : List (Str × V)), H2 a = some (exo a C (some dx)) ∧ H2 dx = some (exd dx fs) ∧ fs.length ≤ 900 ∧ D.nx σ (upd H2 dx (exd dx ((f, y) :: fs))))
section
variable {X : Cx} {o e : Expr} {es : List Expr} {to te : TE} {ta : TA} {f : Str} {p p' p1 p2 pos : Pos}
theorem ps_ostU (ho : PE X o to) (he : PE X e te) (hs : swapsWith e (some (.Attribute o f p')) pos.line X.env = pure false := by rfl) : PS X (.Assign [.Attribute o f p'] e pos) (tOstU X.K f to te) := by
  refine ⟨fun pins s σ H D I h => ?_⟩
  refine plainObj_wpAny_Assign_Attribute (thn (he.run pins s σ H _ I h) fun v s1 ⟨y, H1, I1, r1, q1⟩ => thn (ho.run pins s1 σ H1 _ I1 q1) fun u s2 ⟨x, H2, I2, r2, a, C, ex, T, hno, q⟩ => ?_) hs
  subst ex
  obtain rfl : u = Value.ref a := r2
  rcases q with ⟨ea, q⟩ | ⟨dx, fs, ea, ed, hl, q⟩
  · exact ostU_new T I2 ea hno r1 fun dx s' n ne J => ⟨σ, _, J, q dx n ne⟩
  · exact ostU_old T I2 ea ed hl hno r1 fun s' J => ⟨σ, _, J, q⟩
end
section
variable {X : Cx} {CX : CXT} {k : Nat} {C fI : Addr} {fd : FuncData} {ps : List Str} {sp : Sp} {x : Str} {p pos : Pos} {es : List Expr} {e : Expr} {kws : List Keyword} {ks : List Str} {ta tk : TA} {g : List Value → List Value → List Value} {gV : List V → List V → List V}
theorem run_mkU {pins : List (Addr × Obj)} {σ : L2.St} {H : Hp} {s : Shared} {Q : VK} {us : List Value} {kwv : List (Str × Value)} {allv : List Value} {vs : List V} (T : OexU X.K C) (iC : PySem.W.findIn X.K (.ref C) "__init__" = some (some (.ref fI))) (tI : PySem.W.typeIn X.K (.ref fI) = some (.type "function"))
    (F1 : FnOk X.prog X.w X.K X.mg X.base CX k fI fd ps sp) (hr : Room (k + 1) X.A) (hx : Passes CX X (fun _ _ _ => False)) (I : Inv X pins σ H s) (hz : us.length ≤ sizeLine)
    (hbt : ∀ (n : Addr) (s' : Shared), X.K.In s'.heap → BindsTo s' fd ⟨.ref n :: us, kwv⟩ (ps.zip (.ref n :: allv))) (rv : Vals vs allv)
    (h : ∀ a, H a = none → sp (.ref a :: vs) (upd H a (exo a C none)) (fun v H2 => v = .non ∧ Q (.ref a) H2) (fun _ _ _ => False)) :
    wpAny (model X.prog X.w) X.A (call (.ref C) us kwv) (EP X pins σ Q) X.xe s := by
  obtain ⟨nm, q, N, bs, bm, sn, sub, ab, col, dd, k0, k1, k2, k3, k5, B, newId, initId, bmN, lk, hB, hF⟩ := T.im
  have cls := I.kIn _ _ lk
  obtain ⟨hp, gg, dr, tk, os⟩ := s
  obtain ⟨n, hn⟩ : ∃ n, n = hp.objs.size + 1 := ⟨_, rfl⟩
  have past : hp.objs.size ≤ n := by rw [hn]; exact Nat.le_succ _
  have fresh : H n = none := I.hok.fresh past
  have hq := h n fresh
  obtain ⟨h2, hh2⟩ : ∃ h2, h2 = (hp.push (PySem.W.kdv_tup us)).push (PySem.HandSPX.excO C hp.objs.size) := ⟨_, rfl⟩
  have keep : ∀ b o, hp.get? b = some o → h2.get? b = some o := fun b o e => by
    rw [hh2]
    exact Heap.get?_push_of_some _ (Heap.get?_push_of_some _ e)
  have new : h2.get? n = some (PySem.HandSPX.excO C hp.objs.size) := by
    rw [hh2, hn]
    heap_get
  have I2 : Inv X pins σ (upd H n (exo n C none)) ⟨h2, gg, dr, tk, os⟩ := I.laid (t' := tk) keep past (exo_ok new)
  have r2 : Vals (V.ref n :: vs) (Value.ref n :: allv) := .cons rfl rv
  have body := F1.run ((X.A.under (.builtin "type.__call__" ⟨.ref C :: us, kwv⟩))) X.stack ⟨h2, gg, dr, tk, os⟩ _ ⟨Value.ref n :: us, kwv⟩ (Value.ref n :: allv) _ _ (fun _ _ _ => False) (hr.make C us kwv) (I2.env0.make C us kwv) (hbt n _ I2.kIn) r2 hq
  rw [hh2, hn] at body
  refine wpAny_call (call_u hF hB cls (PySem.W.looks_findIn I.kIn iC) (fun self => PySem.W.bind_fn I.kIn self tI) hz (codeAny_mono body fun r s' back => ?_))
  rw [← hn] at back ⊢
  rw [← hh2] at back
  match r, back with
  | .error er, back => exact hx pins σ _ _ er s' I2 back
  | .ok .next, back => exact False.elim back
  | .ok .brk, back => exact False.elim back
  | .ok .cont, back => exact False.elim back
  | .ok (.ret u), back =>
    obtain ⟨v, H', I3, rv', ev, q3⟩ := I2.after back
    subst ev
    exact ⟨rv', ⟨V.ref n, H', I3, rfl, q3⟩⟩
/-- C(e, ..) -/
def tMkV (C : Addr) (sp : Sp) (ta : TA) : TE := fun σ H Q => ta σ H fun vs H1 => vs.length ≤ 1000 ∧ ∀ a, H1 a = none → sp (.ref a :: vs) (upd H1 a (exo a C none)) (fun v H2 => v = .non ∧ Q (.ref a) H2) (fun _ _ _ => False)
theorem pe_mkU (T : OexU X.K C) (iC : PySem.W.findIn X.K (.ref C) "__init__" = some (some (.ref fI))) (tI : PySem.W.typeIn X.K (.ref fI) = some (.type "function"))
    (F1 : FnOk X.prog X.w X.K X.mg X.base CX k fI fd ps sp) (hr : Room (k + 1) X.A) (hb : Binds X.K fd ps []) (hx : Passes CX X (fun _ _ _ => False)) (hg : Gl X x) (hm : X.mg x = some (.ref C)) (ha : PA X (e :: es) ta)
    (hdb : (x == ("__debug__" : Str)) = false := by decide) (he : starEach (e :: es) X.env = (false, eval e X.env) :: starEach es X.env := by rfl) (hpl : (backTo pos (starEach es X.env)).any (·.1) = false := by rfl) :
    PE X (.Call (.Name x p) (e :: es) [] pos) (tMkV C sp ta) := by
  refine ⟨fun pins s σ H Q I h => ?_⟩
  refine wpAny_Call_Name_kw (ld_glob I hg hm ?_ hdb)
  refine PySem.W.callWith_K (h₀ := X.base) I.ok.mod.kin T.kC (thn (ha.run pos pins s σ H _ I h) fun us s1 ⟨vs, H1, I1, r1, hz, q1⟩ => ⟨I1.kIn, ?_⟩) he hpl
  have size : vs.length + 1 = ps.length := by
    have := F1.len _ _ _ _ (q1 (s1.heap.objs.size) (I1.hok.fresh (Nat.le_refl _)))
    simpa using this
  refine run_mkU T iC tI F1 hr hx I1 (by rw [List.nil_append, ← Paired.length r1, sizeLine_eq]; omega) (fun n s' hk => ?_) r1 q1
  have := hb s' (Value.ref n :: us) hk (by rw [List.append_nil, List.length_cons, ← Paired.length r1]; exact size)
  rwa [List.append_nil] at this
theorem pe_mkU0 (T : OexU X.K C) (iC : PySem.W.findIn X.K (.ref C) "__init__" = some (some (.ref fI))) (tI : PySem.W.typeIn X.K (.ref fI) = some (.type "function"))
    (F1 : FnOk X.prog X.w X.K X.mg X.base CX k fI fd ps sp) (hr : Room (k + 1) X.A) (hb : Binds X.K fd ps []) (hl : ps.length = 1) (hx : Passes CX X (fun _ _ _ => False)) (hg : Gl X x) (hm : X.mg x = some (.ref C))
    (hdb : (x == ("__debug__" : Str)) = false := by decide) :
    PE X (.Call (.Name x p) [] [] pos) (fun σ H Q => ∀ a, H a = none → sp [.ref a] (upd H a (exo a C none)) (fun v H2 => v = .non ∧ Q (.ref a) H2) (fun _ _ _ => False)) := by
  refine ⟨fun pins s σ H Q I h => ?_⟩
  refine wpAny_Call_Name_kw (ld_glob I hg hm ?_ hdb)
  refine PySem.W.callWith_K0 I.kIn T.kC ?_
  exact run_mkU (us := []) (allv := []) (vs := []) T iC tI F1 hr hx I (Nat.zero_le _) (fun n s' hk => hb s' [Value.ref n] hk (by rw [hl]; rfl)) .nil h
/-- C(f = e, ..) -/
theorem pe_mkUK (T : OexU X.K C) (iC : PySem.W.findIn X.K (.ref C) "__init__" = some (some (.ref fI))) (tI : PySem.W.typeIn X.K (.ref fI) = some (.type "function"))
    (F1 : FnOk X.prog X.w X.K X.mg X.base CX k fI fd ps sp) (hr : Room (k + 1) X.A) (hb : ∀ (s : Shared) (u : Value) (ws : List Value), X.K.In s.heap → ws.length = ks.length → BindsTo s fd ⟨[u], ks.zip ws⟩ (ps.zip (u :: g [] ws))) (hrel : ∀ {zs : List V} {ws : List Value}, Vals zs ws → Vals (gV [] zs) (g [] ws)) (hx : Passes CX X (fun _ _ _ => False)) (hg : Gl X x) (hm : X.mg x = some (.ref C)) (hkw : PK X kws tk)
    (hall : (backToKw pos (keywordEach kws X.env)).all (·.1.isSome) = true := by rfl) (hks : (backToKw pos (keywordEach kws X.env)).filterMap (·.1) = ks := by rfl) (hdb : (x == ("__debug__" : Str)) = false := by decide)
    (hpl : ((backTo pos (starEach [] X.env)).any (·.1) || (backToKw pos (keywordEach kws X.env)).any (·.1.isNone)) = false := by rfl) :
    PE X (.Call (.Name x p) [] kws pos) (fun σ H Q => tk σ H fun zs H1 => zs.length = ks.length ∧ ∀ a, H1 a = none → sp (.ref a :: gV [] zs) (upd H1 a (exo a C none)) (fun v H2 => v = .non ∧ Q (.ref a) H2) (fun _ _ _ => False)) := by
  refine ⟨fun pins s σ H Q I h => ?_⟩
  refine wpAny_Call_Name_kw (ld_glob I hg hm ?_ hdb)
  refine PySem.W.callWith_KW0 (h₀ := X.base) I.ok.mod.kin T.kC hall (thn (hkw.run pos pins s σ H _ I h) fun ws s2 ⟨zs, H2, I2, rz, l2, q2⟩ => ⟨I2.kIn, ?_⟩) hpl
  rw [hks]
  exact run_mkU (us := []) (allv := g [] ws) T iC tI F1 hr hx I2 (Nat.zero_le _) (fun n s' hk => hb s' (Value.ref n) ws hk (rz.length.symm.trans l2)) (hrel rz) q2
end
end Vl
set_option Elab.async false
set_option linter.all false
set_option maxRecDepth 100000
set_option maxHeartbeats 4000000
namespace Vl
open PySem PySem.Spec PyProof.Rows L2 Sb
/-- what K says of an error's class that has the name c and these bases -/
structure ErrC (K : PySem.W.Frag) (c : Str) (C : Addr) (bm : List Value) : Prop where
  lk : ∃ (q : Str) (N : Addr) (bs : List Value) (sn : List Str) (sub : List Value) (ab : Bool) (col : Option Bool) (dd : Option Addr) (k0 k1 k2 k3 k5 : Option Value) (newId : String), K.lookup C = some (excClassObj c q C N bs bm true sn sub ab col dd k0 k1 k2 k3 k5 newId)
  x : ExcC K C
  f : XfC K C
  ty : PySem.W.typeIn K (.ref C) = some (.type "type")
/-- all classes are errors' -/
structure Fam (K : PySem.W.Frag) (ct : Ct) (bmF : Str → List Value) : Prop where
  er : ∀ c C ns, ct c = some (C, ns) → ErrC K c C (bmF c)
  pl : ∀ c C, (bmF c).contains (.ref C) = false
section
variable {K : PySem.W.Frag} {ct : Ct} {bmF : Str → List Value} {c c2 : Str} {C C2 : Addr} {ns ns2 : List Str} {bm : List Value}
theorem ErrC.cls (h : ErrC K c C bm) : ∃ cd, PySem.W.clsIn K C = some cd ∧ cd.mro = .ref C :: bm ∧ cd.name = c := by
  obtain ⟨q, N, bs, sn, sub, ab, col, dd, k0, k1, k2, k3, k5, newId, lk⟩ := h.lk
  exact ⟨{ name := c, bases := bs, mro := .ref C :: bm, ns := N, qualname := q, hasDict := true, slotNames := sn, subclasses := sub, abstract := ab, collection := col, hasDel := false }, by unfold PySem.W.clsIn; rw [lk] <;> rfl, rfl, rfl⟩
theorem ErrC.sub (h : ErrC K c C bm) (b : Value) : PySem.W.subIn K (.ref C) b = some ((Value.ref C :: bm).contains b) := by
  obtain ⟨cd, h1, h2, _⟩ := h.cls
  show PySem.W.mroIn K C b = _
  unfold PySem.W.mroIn
  rw [h1, Option.bind_some, h2]
  rfl
theorem Fam.one (F : Fam K ct bmF) (h1 : ct c = some (C, ns)) (h2 : ct c2 = some (C2, ns2)) : (C = C2) = (c = c2) := by
  refine propext ⟨fun e => ?_, fun e => ?_⟩
  · subst e
    obtain ⟨cd, g1, _, g3⟩ := (F.er _ _ _ h1).cls
    obtain ⟨cd2, k1, _, k3⟩ := (F.er _ _ _ h2).cls
    rw [g1] at k1
    cases k1
    exact g3.symm.trans k3
  · subst e
    rw [h1] at h2
    cases h2
    rfl
theorem Fam.own (F : Fam K ct bmF) (h1 : ct c = some (C, ns)) (h2 : ct c2 = some (C2, ns2)) : PySem.W.kitOne K (.ref C) (.ref C2) = some (decide (c = c2)) := by
  unfold PySem.W.kitOne
  by_cases e : C = C2
  · rw [if_pos (by rw [e]; simp), decide_eq_true ((F.one h1 h2) ▸ e)]
  · rw [if_neg (by simpa using e), decide_eq_false fun z => e ((F.one h1 h2).symm ▸ z)]
    obtain ⟨cd, g1, _, _⟩ := (F.er _ _ _ h2).cls
    unfold PySem.W.kitCls
    dsimp only
    rw [if_pos (by rw [g1, (F.er _ _ _ h2).ty]; rfl), (F.er _ _ _ h1).sub, List.contains_cons, F.pl]
    have : (Value.ref C2 == Value.ref C) = false := by simpa using fun z => e (by rw [z])
    rw [this]
    rfl
theorem Fam.bui (F : Fam K ct bmF) (h1 : ct c = some (C, ns)) {T : String} (hT : PySem.W.kitMeta T = true) : PySem.W.kitOne K (.ref C) (.type T) = some ((bmF c).contains (.type T)) := by
  unfold PySem.W.kitOne
  rw [if_neg (by intro z; cases z)]
  unfold PySem.W.kitCls
  dsimp only
  rw [if_pos hT, (F.er _ _ _ h1).sub, List.contains_cons]
  rfl
end
def rIsX (K : PySem.W.Frag) : List V → Hp → VK → Prop := fun xs H Q => ∃ (a C : Addr) (v : V) (cv : Value) (b : Bool), xs = [.ref a, v] ∧ (H a = some (exo a C none) ∨ ∃ dx fs, H a = some (exo a C (some dx)) ∧ H dx = some (exd dx fs)) ∧ ExcC K C ∧ (∀ u, RelV v u → u = cv) ∧ PySem.W.kitOne K (.ref C) cv = some b ∧ Q (.bl b) H
theorem call_isX {X : Cx} : CallR X (.builtin "isinstance") (rIsX X.K) := by
  intro pins s σ H xs us Q I r h
  obtain ⟨a, C, v, cv, b, rfl, hx, E, hcv, e, q⟩ := h
  cases r with
  | cons rx rr =>
    cases rr with
    | cons rt rr =>
      cases rr
      cases rx
      have ec := hcv _ rt
      subst ec
      have hcl : (PySem.W.clsIn X.K C).isSome = true := by
        obtain ⟨cd, hc, _⟩ := PySem.W.any_some E.hd
        rw [hc]
        rfl
      have J : ∃ ox od, PySem.W.InstAt s.heap a ox C od := by
        rcases hx with ea | ⟨dx, fs, ea, ed⟩
        · obtain ⟨t1, ho⟩ := exo_at I.hok ea
          exact ⟨_, none, ho, rfl, rfl, trivial⟩
        · obtain ⟨t1, ho⟩ := exo_at I.hok ea
          obtain ⟨mA, hns, hr⟩ := exd_at I.hok ed
          obtain ⟨od, hod, hl⟩ := lookIn_ns hns
          exact ⟨_, some od, ho, rfl, rfl, hod⟩
      obtain ⟨ox, od, J⟩ := J
      exact PySem.W.kia_one (PySem.W.kitx_exc hcl E.hg E.hk E.hs E.ha E.hn E.ht E.hm) I.kIn J e (fun z => nomatch z) fun tk => ⟨.bl b, H, I.kept (t' := tk) fun _ _ z => z, rfl, q⟩
/-- e.f of an error -/
def tExf (K : PySem.W.Frag) (f : Str) (te : TE) : TE := fun σ H Q => te σ H fun x H1 => ∃ (a C dx : Addr) (fs : List (Str × V)) (v : V), x = .ref a ∧ H1 a = some (exo a C (some dx)) ∧ H1 dx = some (exd dx fs) ∧ XfC K C ∧ PySem.W.findIn K (.ref C) f = some none ∧ fs.lookup f = some v ∧ Q v H1
theorem pe_exf {X : Cx} {e : Expr} {te : TE} {pos : Pos} {n : Str} (he : PE X e te) (hb : attributeBase e n X.env (eval e X.env) = eval e X.env := by rfl) : PE X (.Attribute e n pos) (tExf X.K n te) := by
  refine ⟨fun pins s σ H Q I h => ?_⟩
  refine attr_of hb (thn (he.run pins s σ H _ I h) fun u s1 ⟨x, H1, I1, rx, a, C, dx, fs, v, ex, ea, ed, T, hno, l, q⟩ => ?_)
  subst ex
  obtain rfl : u = Value.ref a := rx
  obtain ⟨t1, ho⟩ := exo_at I1.hok ea
  obtain ⟨mA, hns, hr⟩ := exd_at I1.hok ed
  obtain ⟨od, hod, hl⟩ := lookIn_ns hns
  obtain ⟨u, hu, ru⟩ := RelO.some_of (v := v) (o := mA n) (by rw [← l]; exact hr n)
  have J : PySem.W.InstAt s1.heap a _ C (some od) := ⟨ho, rfl, rfl, hod⟩
  exact HandSPX.exc_get I1.kIn J T.ga T.gg T.exC (PySem.W.findObj_own T.hdC hno rfl (by rw [hl, hu])) (handed_of ru) ⟨v, H1, I1.tok _, ru, q⟩
/-- __init__ of an error without fields -/
def sp0 : Sp := fun vs H Q _ => ∃ a, vs = [.ref a] ∧ Q .non H
/-- an error's class and its __init__ -/
structure OxU (P : Program) (w : World) (K : PySem.W.Frag) (mg : Str → Option Value) (base : Heap) (k : Nat) (x : Str) (C f : Addr) (fd : FuncData) (ps ns : List Str) (sp : Sp) : Prop where
  c : OexU K C
  iC : PySem.W.findIn K (.ref C) "__init__" = some (some (.ref f))
  tI : PySem.W.typeIn K (.ref f) = some (.type "function")
  ok : FnOk P w K mg base CX0 k f fd ps sp
  bd : Binds K fd ps []
  bk : ∀ (s : Shared) (u : Value) (ws : List Value), K.In s.heap → ws.length = ns.length → BindsTo s fd ⟨[u], ns.zip ws⟩ (ps.zip (u :: ws.reverse))
  mg : mg x = some (.ref C)
def fEx (c : Str) (fs : Ev (List D)) : Ev D := fun env => (fs env).bind fun l e => if l.length ≤ 1000 then .val (.ex c l.reverse) e else .stuck
def fEx0 (c : Str) : Ev D := fun env => .val (.ex c []) env
def fExK (c : Str) (n : Nat) (gs : Ev (List D)) : Ev D := fun env => (gs env).bind fun l e => if l.length = n then .val (.ex c l) e else .stuck
def oExF (c : Str) (j : Nat) : D → Option D
  | .ex c' l => if c' = c then l[j]? else none
  | _ => none
def oIsX (c : Str) : D → Option D
  | .ex c' _ => some (.bl (decide (c' = c)))
  | _ => none
def oIsB (bmF : Str → List Value) (T : String) : D → Option D
  | .ex c' _ => some (.bl ((bmF c').contains (.type T)))
  | _ => none
section
variable {X : Cx} {B : Bs} {Z : ZX} {e o : Expr} {es : List Expr} {kws : List Keyword} {pos p px pc : Pos} {fs gs : Ev (List D)} {f : Ev D} {x c fn : Str} {C fI : Addr} {fd : FuncData} {ps ns : List Str} {kk : Nat} {bmF : Str → List Value}
theorem Rp.exE {K : PySem.W.Frag} {ct : Ct} {F : Hp} {v : V} {l : List D} (h : Rp K ct F v (.ex c l)) : ∃ a C ns, v = .ref a ∧ ct c = some (C, ns) ∧ ((l = [] ∧ F a = some (exo a C none)) ∨ ∃ dx vs, vs.length = ns.length ∧ F a = some (exo a C (some dx)) ∧ F dx = some (exd dx (ns.zip vs)) ∧ Rps K ct F vs l) := by
  cases h with
  | ex hc hl h hd t => exact ⟨_, _, _, rfl, hc, .inr ⟨_, _, hl, h, hd, t⟩⟩
  | ex0 hc h => exact ⟨_, _, _, rfl, hc, .inl ⟨rfl, h⟩⟩
theorem mk_keep {G1 : Gh} {H1 : Hp} {a C d : Addr} {env : List Slot} {σ : L2.St} {vs : List V} {l : List D} (cf : Cfg X.K B G1 env σ H1) (hct : B.ct c = some (C, ns)) (hl : vs.length = ns.length) (rvs : Rps X.K B.ct (off G1.S H1) vs l) (hA : H1 a = none) {H2 : Hp} (e1 : H2 a = some (exo a C (some d))) (n1 : upd H1 a (exo a C none) d = none) (ne : d ≠ a) (e2 : H2 d = some (exd d (ns.zip vs))) (kp : ∀ b o, upd H1 a (exo a C none) b = some o → b ≠ a → H2 b = some o) :
    Same H1 H2 ∧ Rp X.K B.ct (off G1.S H2) (.ref a) (.ex c l) := by
  have sm : Same H1 H2 := fun b o hb => by
    have nb : b ≠ a := ne_of_none hb hA
    exact kp b o (by rw [upd_ne nb]; exact hb) nb
  have hd : H1 d = none := by
    rw [upd_ne ne] at n1
    exact n1
  exact ⟨sm, .ex hct hl (by rw [off_at fun z => cf.live a z hA]; exact e1) (by rw [off_at fun z => cf.live d z hd]; exact e2) (rvs.mono (off_same sm))⟩
theorem de_ex (O : OxU X.prog X.w X.K X.mg X.base kk x C fI fd ps ns (spXI C ns)) (hct : B.ct c = some (C, ns)) (hr : Room (kk + 1) X.A) (hg : Gl X x) (ha : DA X B Z (e :: es) fs) (hlen : ∀ env l e', fs env = .val l e' → l.length = ns.length)
    (hdb : (x == ("__debug__" : Str)) = false := by decide) (he : starEach (e :: es) X.env = (false, eval e X.env) :: starEach es X.env := by rfl) (hpl : (backTo pos (starEach es X.env)).any (·.1) = false := by rfl) :
    DE X B Z (.Call (.Name x p) (e :: es) [] pos) (fEx c fs) :=
  ⟨PE.weak (pe_mkU O.c O.iC O.tI O.ok hr O.bd pass0 hg O.mg ha.pa hdb he hpl) fun σ H Q ⟨G, env, cf, q⟩ => by
    refine ⟨G, env, cf, ?_⟩
    have key : ∀ l e', fs env = .val l e' → l.length = ns.length := hlen env
    unfold fEx at q
    cases hf : fs env with
    | stuck =>
      rw [hf] at q
      exact q.elim
    | exc cc as e1 =>
      rw [hf] at q
      exact q
    | val l e1 =>
      rw [hf] at q
      simp only [Out.bind] at q
      intro G1 H1 m1 c1 vs rvs
      by_cases hl : l.length ≤ 1000
      · rw [if_pos hl] at q
        have ln := key _ _ hf
        refine ⟨by rw [rvs.len]; exact hl, fun a hA => ?_⟩
        refine ⟨a, vs, rfl, by rw [rvs.len, ln], upd_same, fun H2 d e1' n1 ne e2 kp => ⟨rfl, ?_⟩⟩
        obtain ⟨sm, rr⟩ := mk_keep c1 hct (by rw [List.length_reverse, rvs.len, ln]) rvs.rev hA e1' n1 ne e2 kp
        exact q G1 H2 (m1.trans (c1.mono sm)) (c1.same sm) _ rr
      · rw [if_neg hl] at q
        exact q.elim⟩
theorem de_exK (O : OxU X.prog X.w X.K X.mg X.base kk x C fI fd ps ns (spXI C ns)) (hct : B.ct c = some (C, ns)) (hr : Room (kk + 1) X.A) (hg : Gl X x) (hkw : DK X B Z kws gs)
    (hall : (backToKw pos (keywordEach kws X.env)).all (·.1.isSome) = true := by rfl) (hks : (backToKw pos (keywordEach kws X.env)).filterMap (·.1) = ns := by rfl) (hdb : (x == ("__debug__" : Str)) = false := by decide)
    (hpl : ((backTo pos (starEach [] X.env)).any (·.1) || (backToKw pos (keywordEach kws X.env)).any (·.1.isNone)) = false := by rfl) {n : Nat} (hn : ns.length = n := by rfl) :
    DE X B Z (.Call (.Name x p) [] kws pos) (fExK c n gs) := by
  subst hn
  exact ⟨PE.weak (pe_mkUK (ks := ns) (g := fun _ ws => ws.reverse) (gV := fun _ zs => zs.reverse) O.c O.iC O.tI O.ok hr O.bk (fun h => h.reverse) pass0 hg O.mg hkw.pk hall hks hdb hpl) fun σ H Q ⟨G, env, cf, q⟩ => ⟨G, env, cf, post_imp (post_bind q) fun l e1 G1 H1 m1 c1 p1 zs rzs => by
    by_cases hl : l.length = ns.length
    · rw [if_pos hl] at p1
      refine ⟨rzs.len.trans hl, fun a hA => ⟨a, zs.reverse, rfl, by rw [List.length_reverse, rzs.len, hl], upd_same, fun H2 d e1' n1 ne e2 kp => ⟨rfl, ?_⟩⟩⟩
      rw [List.reverse_reverse] at e2
      obtain ⟨sm, rr⟩ := mk_keep c1 hct (by rw [rzs.len, hl]) rzs hA e1' n1 ne e2 kp
      exact p1 G1 H2 (c1.mono sm) (c1.same sm) _ rr
    · rw [if_neg hl] at p1
      exact p1.elim⟩⟩
theorem de_ex0 (O : OxU X.prog X.w X.K X.mg X.base kk x C fI fd ps [] sp0) (hps : ps.length = 1) (hct : B.ct c = some (C, [])) (hr : Room (kk + 1) X.A) (hg : Gl X x) (hdb : (x == ("__debug__" : Str)) = false := by decide) :
    DE X B Z (.Call (.Name x p) [] [] pos) (fEx0 c) :=
  ⟨PE.weak (pe_mkU0 O.c O.iC O.tI O.ok hr O.bd hps pass0 hg O.mg hdb) fun σ H Q ⟨G, env, cf, q⟩ a hA => by
    refine ⟨a, rfl, rfl, ?_⟩
    have sm : Same H (upd H a (exo a C none)) := Sb.Same.upd hA
    exact q G _ (cf.mono sm) (cf.same sm) _ (.ex0 hct (by rw [off_at fun z => cf.live a z hA]; exact upd_same))⟩
theorem de_exf {j : Nat} (F : Fam X.K B.ct bmF) (hct : B.ct c = some (C, ns)) (hno : PySem.W.findIn X.K (.ref C) fn = some none) (nd : ns.Nodup) (hj : ns[j]? = some fn) (h : DE X B Z o f) (hb : attributeBase o fn X.env (eval o X.env) = eval o X.env := by rfl) : DE X B Z (.Attribute o fn pos) (fUn (oExF c j) f) :=
  ⟨PE.weak (pe_exf h.pe hb) fun σ H Q ⟨G, env, cf, q⟩ => ⟨G, env, cf, post_imp (post_bind q) fun d e1 G1 H1 m1 c1 p1 v rv => by
    cases ho : oExF c j d with
    | none =>
      rw [ho] at p1
      exact p1.elim
    | some z =>
      rw [ho] at p1
      unfold oExF at ho
      split at ho
      · split at ho
        · rename_i ec
          subst ec
          obtain ⟨a, C', ns', rfl, h1, h2⟩ := rv.exE
          rw [hct] at h1
          cases h1
          rcases h2 with ⟨rfl, _⟩ | ⟨dx, vs, h2, h3, h4, h5⟩
          · simp at ho
          · obtain ⟨v, g1, g2⟩ := h5.get' ho
            exact ⟨a, C, dx, _, v, rfl, (off_inv h3).2, (off_inv h4).2, (F.er _ _ _ hct).f, hno, zip_lookup nd hj g1, p1 G1 H1 Mono.refl c1 v g2⟩
        · cases ho
      · cases ho⟩⟩
theorem isx_use {G1 : Gh} {H1 : Hp} {v : V} {l : List D} (F : Fam X.K B.ct bmF) (rv : Rp X.K B.ct (off G1.S H1) v (.ex c l)) : ∃ a C ns, v = .ref a ∧ B.ct c = some (C, ns) ∧ (H1 a = some (exo a C none) ∨ ∃ dx fs, H1 a = some (exo a C (some dx)) ∧ H1 dx = some (exd dx fs)) ∧ ExcC X.K C := by
  obtain ⟨a, C, ns, rfl, h1, h2⟩ := rv.exE
  refine ⟨a, C, ns, rfl, h1, ?_, (F.er _ _ _ h1).x⟩
  rcases h2 with ⟨_, h⟩ | ⟨dx, vs, _, h3, h4, _⟩
  · exact .inl (off_inv h).2
  · exact .inr ⟨dx, _, (off_inv h3).2, (off_inv h4).2⟩
theorem de_isX (F : Fam X.K B.ct bmF) (hct : B.ct c = some (C, ns)) (hm : X.mg "isinstance" = none) (hg : Gl X "isinstance") (he : DE X B Z e f) (hgC : Gl X x) (hmC : X.mg x = some (.ref C)) (hdb : (x == ("__debug__" : Str)) = false := by decide)
    (hs : starEach [e, .Name x pc] X.env = (false, eval e X.env) :: starEach [.Name x pc] X.env := by rfl) (hs2 : starEach (.Name x pc :: []) X.env = (false, eval (.Name x pc) X.env) :: starEach [] X.env := by rfl)
    (hpl : (backTo pos (starEach [.Name x pc] X.env)).any (·.1) = false := by rfl) : DE X B Z (.Call (.Name "isinstance" px) [e, .Name x pc] [] pos) (fUn (oIsX c) f) :=
  ⟨PE.weak (pe_callB call_isX hg hm (by decide +kernel) (pa_cons he.pe (pa_cons (pe_glob (v := .ref C) hgC hmC rfl hdb) pa_nil hs2) hs) (by decide) (by decide) hs hpl) fun σ H Q ⟨G, env, cf, q⟩ => ⟨G, env, cf, post_imp (post_bind q) fun d e1 G1 H1 m1 c1 p1 v rv => by
    cases ho : oIsX c d with
    | none =>
      rw [ho] at p1
      exact p1.elim
    | some z =>
      rw [ho] at p1
      unfold oIsX at ho
      split at ho
      · cases ho
        obtain ⟨a, C', ns', rfl, h1, h2, h3⟩ := isx_use F rv
        exact ⟨a, C', .ref C, .ref C, _, rfl, h2, h3, fun u hu => hu, F.own h1 hct, p1 G1 H1 Mono.refl c1 _ (.bl _)⟩
      · cases ho⟩⟩
theorem de_isB {T : String} (F : Fam X.K B.ct bmF) (hT : PySem.W.kitMeta T = true) (hm : X.mg "isinstance" = none) (hg : Gl X "isinstance") (he : DE X B Z e f) (hc : PE X o (tC (.ty T)))
    (hs : starEach [e, o] X.env = (false, eval e X.env) :: starEach [o] X.env := by rfl) (hs2 : starEach (o :: []) X.env = (false, eval o X.env) :: starEach [] X.env := by rfl)
    (hpl : (backTo pos (starEach [o] X.env)).any (·.1) = false := by rfl) : DE X B Z (.Call (.Name "isinstance" px) [e, o] [] pos) (fUn (oIsB bmF T) f) :=
  ⟨PE.weak (pe_callB call_isX hg hm (by decide +kernel) (pa_cons he.pe (pa_cons hc pa_nil hs2) hs) (by decide) (by decide) hs hpl) fun σ H Q ⟨G, env, cf, q⟩ => ⟨G, env, cf, post_imp (post_bind q) fun d e1 G1 H1 m1 c1 p1 v rv => by
    cases ho : oIsB bmF T d with
    | none =>
      rw [ho] at p1
      exact p1.elim
    | some z =>
      rw [ho] at p1
      unfold oIsB at ho
      split at ho
      · cases ho
        obtain ⟨a, C', ns', rfl, h1, h2, h3⟩ := isx_use F rv
        exact ⟨a, C', .ty T, .type T, _, rfl, h2, h3, fun u hu => hu, F.bui h1 hT, p1 G1 H1 Mono.refl c1 _ (.bl _)⟩
      · cases ho⟩⟩
end
end Vl
set_option Elab.async false
set_option linter.all false
set_option maxRecDepth 100000
set_option maxHeartbeats 1000000
namespace Vl
open PySem PySem.Spec PyProof.Rows L2 Sb
section
variable {κ : Type} [DecidableEq κ] {P : Program} {w : World}
/-- an entry for a key -/
def EntryOk (kd : PySem.KeyKind P w κ) (e : Int × Value) (k : κ) : Prop := kd.is k e.2 = true ∧ e.1 = kd.hash k
/-- entries and their keys, in order -/
def Keyed (kd : PySem.KeyKind P w κ) : List (Int × Value) → List κ → Prop
  | [], [] => True
  | e :: es, k :: ks => EntryOk kd e k ∧ e.2.scannable = true ∧ Keyed kd es ks
  | _, _ => False
theorem Keyed.len {kd : PySem.KeyKind P w κ} : ∀ {es : List (Int × Value)} {ks : List κ}, Keyed kd es ks → es.length = ks.length
  | [], [], _ => rfl
  | _ :: es, _ :: ks, h => by rw [List.length_cons, List.length_cons, h.2.2.len]
  | [], _ :: _, h => h.elim
  | _ :: _, [], h => h.elim
/-- the set at a has the members of these keys; it can be walked -/
def SetG (kd : PySem.KeyKind P w κ) (hp : Heap) (a : Addr) (ks : List κ) : Prop :=
  ∃ ob es ep tb, hp.get? a = some ob ∧ ob.ExactSet ∧ ob.data = .set es ep tb ∧ Keyed kd es.toList ks ∧ ks.Nodup ∧ es.size < scanBound ∧ tb.fits es.size = true ∧ Ris tb.place.toList ∧ (w.params.followText "set-order" = true ∨ tb.led = true)
section
variable {kd : PySem.KeyKind P w κ} {hp hp' : Heap} {a : Addr} {ks : List κ}
theorem SetG.at_ (R : SetG kd hp a ks) (c : ∀ ob, hp.get? a = some ob → hp'.get? a = some ob) : SetG kd hp' a ks := by
  obtain ⟨ob, es, ep, tb, g, r⟩ := R
  exact ⟨ob, es, ep, tb, c _ g, r⟩
end
end
end Vl
set_option Elab.async false
set_option linter.all false
set_option maxRecDepth 100000
set_option maxHeartbeats 2000000
namespace Vl
open PySem PySem.Spec PyProof.Rows L2 Sb
end Vl
set_option Elab.async false
set_option linter.all false
set_option maxRecDepth 100000
set_option maxHeartbeats 2000000
namespace Vl
open PySem PySem.W PySem.Spec PyProof.Rows L2 Sb
end Vl
set_option Elab.async false
set_option linter.all false
set_option maxRecDepth 100000
set_option maxHeartbeats 2000000
namespace Vl
open PySem PySem.W PySem.Spec PyProof.Rows L2 Sb
end Vl
set_option Elab.async false
set_option linter.all false
set_option maxRecDepth 100000
set_option maxHeartbeats 3200000
namespace Vl
open PySem PySem.W PySem.Spec PyProof.Rows L2 Sb
end Vl
set_option Elab.async false
set_option linter.all false
set_option maxRecDepth 100000
set_option maxHeartbeats 2000000
namespace Vl
open PySem PySem.Spec PyProof.Rows L2 Sb
end Vl
set_option Elab.async false
set_option linter.all false
set_option maxRecDepth 100000
set_option maxHeartbeats 2000000
namespace Vl
open PySem PySem.Spec PyProof.Rows L2 Sb
end Vl
set_option Elab.async false
set_option linter.all false
set_option maxRecDepth 100000
set_option maxHeartbeats 4000000
namespace Vl
open PySem PySem.Spec PyProof.Rows L2 Sb
section
variable {X : Cx}
def rCountD (K : PySem.W.Frag) : V → List V → Hp → VK → Prop := fun x xs H Q => ∃ (a : Addr) (y : V) (d : PyData) (ds : List PyData), x = V.ref a ∧ xs = [y] ∧ Dp K H (V.ref a) (.list ds) ∧ Dp K H y d ∧
  SeqAt.shaped (.list ds) = true ∧ SeqAt.shaped d = true ∧ Q (.int ((ds.countP fun z => PyData.eqv z d : Nat) : Int)) H
theorem mt_countD (hu : X.A.units + 65 < cLine) : MtR X "list.count" (rCountD X.K) := by
  intro pins s σ H x xs v us Q I rx rxs h
  obtain ⟨a, y, d, ds, rfl, rfl, hl, hy, sl, sd, q⟩ := h
  cases rx
  cases rxs with
  | cons ry rt =>
    rename_i uy ut
    cases rt
    obtain ⟨bs, r1⟩ := Dp.reads I d y uy hy ry
    have hxs : PyData.canLayAll0 ds = true := SeqAt.canLay_of_shaped sl
    have hroom : X.A.units + 1 + min (PyData.depthAll ds) d.depth < cLine := room_in_shaped sd hu
    cases hl with
    | lst hs ha =>
      obtain ⟨its, rv, ⟨⟨cls, dd, data, sls⟩, n, ho, hc, hdn, hdt⟩, hlen⟩ := I.list hs
      simp only at hc hdt
      subst hc hdt
      obtain ⟨as, h4⟩ := Dp.readsAll I ds _ its ha rv
      have hmap : its.map (SeqAt.readOf s.heap) = ds := SeqAt.readsAll_map ds its as hxs h4
      refine call_meets PySem.F.slot_list_count ⟨_, ho, rfl⟩ PySem.F.entry_list_count (PySem.F.args_list_count_2 _ _)
        (SeqAt.list_countAt a its.toArray n dd sls uy (fun u => PyData.eqv (SeqAt.readOf s.heap u) d)) ⟨ho, SeqAt.items_eqAt (vs := its.toArray) (show ReadsAll s.heap its.toArray.toList ds as from h4) r1 hxs (SeqAt.canLay_of_shaped sd) hroom, ?_⟩
      refine ⟨.int ((ds.countP fun z => PyData.eqv z d : Nat) : Int), H, I.tok _, ⟨s.toks, ?_⟩, q⟩
      have e : its.toArray.toList.countP (fun u => PyData.eqv (SeqAt.readOf s.heap u) d) = ds.countP fun z => PyData.eqv z d := by
        rw [← hmap, List.countP_map]
        rfl
      show Value.int ((its.toArray.toList.countP _ : Nat) : Int) s.toks = _
      rw [e]
end
section
variable {X : Cx} {B : Bs} {Z : ZX} {o e : Expr} {f g : Ev D} {apos cpos : Pos}
def fCntD (f g : Ev D) : Ev D := fun env => (f env).bind fun d e1 => match d with
  | .lst l => (g e1).bind fun y e2 => if (D.lst l).eok && y.eok then .val (.int ((l.countP fun z => PyData.eqv z.py y.py : Nat) : Int)) e2 else .stuck
  | _ => .stuck
theorem pyAll_count (k : PyData) : ∀ l : List D, (D.pyAll l).countP (fun z => PyData.eqv z k) = l.countP fun z => PyData.eqv z.py k
  | [] => by simp [D.pyAll]
  | d :: l => by rw [D.pyAll, List.countP_cons, List.countP_cons, pyAll_count k l]
theorem de_cntD (hu : X.A.units + 65 < cLine) (ho : DE X B Z o f) (he : DE X B Z e g) (hbase : attributeBase o "count" X.env (eval o X.env) = eval o X.env := by rfl)
    (hfew : ((backTo cpos (starEach [e] X.env)).all (fun x => !x.1) && (backToKw cpos (keywordEach [] X.env)).all (fun x => x.1.isSome)
      && decide ([e].length + ([] : List Keyword).length + (if ([] : List Keyword).isEmpty then 0 else 1) < 30)) = true := by rfl)
    (hline : (apos.endLine == cpos.line) = true := by rfl) (hst : starEach [e] X.env = (false, eval e X.env) :: starEach [] X.env := by rfl) (hplain : (backTo cpos (starEach [] X.env)).any (·.1) = false := by rfl) :
    DE X B Z (.Call (.Attribute o "count" apos) [e] [] cpos) (fCntD f g) :=
  ⟨PE.weak (pe_bm PySem.F.plainAttrs_list PySem.F.slot_list_count PySem.F.type_list_count (mt_countD hu) ho.pe (pa_cons he.pe pa_nil hst) hbase hfew hline hst hplain) fun σ H Q ⟨G, env, c, q⟩ => ⟨G, env, c, post_imp (post_bind q) fun d e1 G1 H1 m1 c1 p1 v rv => by
    cases d with
    | lst l =>
      simp only [] at p1
      have rv0 := rv
      obtain ⟨a, vs, rfl, h1, t1⟩ := rv.lstE
      refine ⟨.inl ⟨rfl, _, SqL.of (off_le _ _ h1)⟩, G1, e1, c1, post_imp (post_bind p1) fun y e2 G2 H2 m2 c2 p2 w rw' => ?_⟩
      by_cases ce : ((D.lst l).eok && y.eok) = true
      · rw [if_pos ce] at p2
        simp only [D.eok, Bool.and_eq_true] at ce
        have g1 := (((rv0.mono m2.same)).mono off_le).dp ce.1.1
        simp only [D.py] at g1 ce
        refine ⟨a, w, y.py, D.pyAll l, rfl, rfl, g1, (rw'.mono off_le).dp ce.2.1, ce.1.2, ce.2.2, ?_⟩
        rw [pyAll_count]
        exact p2 G2 H2 Mono.refl c2 _ (.int _)
      · rw [if_neg ce] at p2
        exact p2.elim
    | _ => exact p1.elim⟩⟩
end
end Vl
set_option Elab.async false
set_option linter.all false
set_option maxRecDepth 100000
set_option maxHeartbeats 4000000
namespace Pg
open PySem L2 Sb Vl
def F_L_take : Ev Fl := (fSeq (fIte (fB (fOp (oI fun i j => .bl (decide (j < i))) (fIxO 0 (fC (.int 0))) (fC (.int 0)))) (fSeq (fAsg (.nm 2) (fOp (oIC (fun _ j => decide (0 < j)) fun i j => .int (i % j)) (fCB (o1 oInt) (fCons (fIxO 0 (fC (.int 0))) fNil)) (fVar 1)))
  (fSeq (fPutL 0 (fC (.int 0)) (fOp (oIC (fun _ j => decide (0 < j) && decide (j < 1073741824)) fun i j => .int (i / j)) (fIxO 0 (fC (.int 0))) (fVar 1)))
  (fRet (fVar 2)))) fNx)
  (fSeq (fPutL 0 (fC (.int 2)) (fOp (oI fun i j => .int (i + j)) (fIxO 0 (fC (.int 2))) (fC (.int 1))))
  (fSeq (fAsg (.nm 3) (fOp (oIC (fun _ j => decide (0 < j)) fun i j => .int (i % j)) (fCB (o1 oInt) (fCons (fOp (oIC (fun i j => decide (0 ≤ j) && decide ((Builtin.Int.intBits i : Int) * j ≤ 2 ^ 27)) fun i j => .int (i ^ j.toNat)) (fOp (oI fun i j => .int (i + j)) (fIxO 0 (fC (.int 1))) (fOp (oIC cMul fun i j => .int (i * j)) (fC (.int 1000003)) (fIxO 0 (fC (.int 2))))) (fC (.int 3))) fNil)) (fC (.int 2305843009213693921))))
  (fSeq (fAsg (.nm 3) (fOp (oIC (fun _ j => decide (0 < j)) fun i j => .int (i % j)) (fCB (o1 oInt) (fCons (fOp (oIC (fun i j => decide (0 ≤ j) && decide ((Builtin.Int.intBits i : Int) * j ≤ 2 ^ 27)) fun i j => .int (i ^ j.toNat)) (fOp (oI fun i j => .int (i + j)) (fVar 3) (fOp (oIC cMul fun i j => .int (i * j)) (fC (.int 179424673)) (fIxO 0 (fC (.int 2))))) (fC (.int 2))) fNil)) (fC (.int 2305843009213693951))))
  (fRet (fOp (oIC (fun _ j => decide (0 < j)) fun i j => .int (i % j)) (fOp (oIC (fun _ j => decide (0 < j) && decide (j < 1073741824)) fun i j => .int (i / j)) (fVar 3) (fC (.int 4096))) (fVar 1)))))))
def Φ_L_take : List D → Res := fun ds => (runV [true, false] 4 F_L_take ds).quiet
end Pg
set_option Elab.async false
set_option linter.all false
set_option maxRecDepth 100000
set_option maxHeartbeats 4000000
namespace K08
open PySem L2 Sb Vl Pg
def top (i : Nat) : Stmt := PySem.Challenge.pw_strongbit_k08_errors_made.main.body.getD i (.Pass ⟨0, 0, 0, 0⟩)
abbrev sL_bag : Stmt := top 21
theorem scL_bag : FnScope ["_law_script", "_law_at", "_law_cell", "_law_great"] ["_law_script", "_law_at"] (defScope sL_bag) := ⟨rfl, rfl, rfl, by decide +kernel, rfl, by decide +kernel, by decide +kernel⟩
abbrev sL_take : Stmt := top 22
theorem scL_take : FnScope ["_law_bag_here", "_law_many", "_law_digit", "_law_mixed"] ["_law_bag_here", "_law_many"] (defScope sL_take) := ⟨rfl, rfl, rfl, by decide +kernel, rfl, by decide +kernel, by decide +kernel⟩
abbrev sL_any : Stmt := top 23
theorem scL_any : FnScope ["_law_bag_here", "_law_some"] ["_law_bag_here"] (defScope sL_any) := ⟨rfl, rfl, rfl, by decide +kernel, rfl, by decide +kernel, by decide +kernel⟩
abbrev sL_family : Stmt := top 24
theorem scL_family : FnScope ["_law_e", "_law_found"] ["_law_e"] (defScope sL_family) := ⟨rfl, rfl, rfl, by decide +kernel, rfl, by decide +kernel, by decide +kernel⟩
abbrev sL_base : Stmt := top 25
theorem scL_base : FnScope ["_law_e", "_law_words", "_law_found"] ["_law_e"] (defScope sL_base) := ⟨rfl, rfl, rfl, by decide +kernel, rfl, by decide +kernel, by decide +kernel⟩
abbrev sL_made : Stmt := top 26
theorem scL_made : FnScope ["_law_one", "_law_other", "_law_found"] ["_law_one", "_law_other"] (defScope sL_made) := ⟨rfl, rfl, rfl, by decide +kernel, rfl, by decide +kernel, by decide +kernel⟩
abbrev sL_fields : Stmt := top 27
theorem scL_fields : FnScope ["_law_one", "_law_other", "_law_found"] ["_law_one", "_law_other"] (defScope sL_fields) := ⟨rfl, rfl, rfl, by decide +kernel, rfl, by decide +kernel, by decide +kernel⟩
abbrev sL_seconds : Stmt := top 28
theorem scL_seconds : FnScope ["_law_one", "_law_other", "_law_found"] ["_law_one", "_law_other"] (defScope sL_seconds) := ⟨rfl, rfl, rfl, by decide +kernel, rfl, by decide +kernel, by decide +kernel⟩
abbrev slaw : Stmt := top 29
theorem sclaw : FnScope ["_law_script", "_law_k", "_law_bag_here", "_law_turn", "_law_one", "_law_other", "_law_at", "_law_e", "_law_base_here", "_law_spot"] ["_law_script"] (defScope slaw) := ⟨rfl, rfl, rfl, by decide +kernel, rfl, by decide +kernel, by decide +kernel⟩
def bmF (c : Str) : List Value :=
  if c = "BadEnd" then [.type "ValueError", .type "Exception", .type "BaseException", .type "object"] else
  if c = "BadFault" then [.type "ValueError", .type "Exception", .type "BaseException", .type "object"] else
  if c = "BadFrame" then [.type "ValueError", .type "Exception", .type "BaseException", .type "object"] else
  if c = "BadText" then [.type "ValueError", .type "Exception", .type "BaseException", .type "object"] else
  if c = "BadCommand" then [.type "ValueError", .type "Exception", .type "BaseException", .type "object"] else
  if c = "NoPromise" then [.type "ValueError", .type "Exception", .type "BaseException", .type "object"] else
  if c = "NoStation" then [.type "KeyError", .type "LookupError", .type "Exception", .type "BaseException", .type "object"] else
  if c = "NoName" then [.type "KeyError", .type "LookupError", .type "Exception", .type "BaseException", .type "object"] else
  if c = "NoOutcome" then [.type "LookupError", .type "Exception", .type "BaseException", .type "object"] else
  if c = "NothingToUndo" then [.type "LookupError", .type "Exception", .type "BaseException", .type "object"] else
  if c = "BadDeed" then [.type "IndexError", .type "LookupError", .type "Exception", .type "BaseException", .type "object"] else
  if c = "Endless" then [.type "RuntimeError", .type "Exception", .type "BaseException", .type "object"] else
  if c = "NothingWaits" then [.type "RuntimeError", .type "Exception", .type "BaseException", .type "object"] else
  if c = "NoHearer" then [.type "RuntimeError", .type "Exception", .type "BaseException", .type "object"] else
  if c = "NoLine" then [.type "RuntimeError", .type "Exception", .type "BaseException", .type "object"] else
  if c = "TooMany" then [.type "OverflowError", .type "ArithmeticError", .type "Exception", .type "BaseException", .type "object"] else
  if c = "Unsound" then [.type "ArithmeticError", .type "Exception", .type "BaseException", .type "object"] else
  if c = "Unbounded" then [.type "ArithmeticError", .type "Exception", .type "BaseException", .type "object"] else
  if c = "Taken" then [.type "TypeError", .type "Exception", .type "BaseException", .type "object"] else
  []
structure Txt (K : PySem.W.Frag) (mg : Str → Option Value) (ct : Ct) : Prop where
  b_ArithmeticError : mg "ArithmeticError" = none
  b_IndexError : mg "IndexError" = none
  b_KeyError : mg "KeyError" = none
  b_LookupError : mg "LookupError" = none
  b_OverflowError : mg "OverflowError" = none
  b_RuntimeError : mg "RuntimeError" = none
  b_TypeError : mg "TypeError" = none
  b_ValueError : mg "ValueError" = none
  b_ZeroDivisionError : mg "ZeroDivisionError" = none
  b_abs : mg "abs" = none
  b_enumerate : mg "enumerate" = none
  b_int : mg "int" = none
  b_isinstance : mg "isinstance" = none
  b_len : mg "len" = none
  b_max : mg "max" = none
  b_min : mg "min" = none
  b_range : mg "range" = none
  b_repr : mg "repr" = none
  c_BadCommand : ct "BadCommand" = some (cA ct "BadCommand", (["command"] : List Str))
  c_BadDeed : ct "BadDeed" = some (cA ct "BadDeed", (["index"] : List Str))
  c_BadEnd : ct "BadEnd" = some (cA ct "BadEnd", (["row", "part"] : List Str))
  c_BadFault : ct "BadFault" = some (cA ct "BadFault", (["station", "bit"] : List Str))
  c_BadFrame : ct "BadFrame" = some (cA ct "BadFrame", (["frame"] : List Str))
  c_BadText : ct "BadText" = some (cA ct "BadText", (["text"] : List Str))
  c_Endless : ct "Endless" = some (cA ct "Endless", (["ring", "bit"] : List Str))
  c_NoHearer : ct "NoHearer" = some (cA ct "NoHearer", ([] : List Str))
  c_NoLine : ct "NoLine" = some (cA ct "NoLine", ([] : List Str))
  c_NoName : ct "NoName" = some (cA ct "NoName", (["name"] : List Str))
  c_NoOutcome : ct "NoOutcome" = some (cA ct "NoOutcome", (["outcome"] : List Str))
  c_NoPromise : ct "NoPromise" = some (cA ct "NoPromise", (["promise"] : List Str))
  c_NoStation : ct "NoStation" = some (cA ct "NoStation", (["station"] : List Str))
  c_NothingToUndo : ct "NothingToUndo" = some (cA ct "NothingToUndo", ([] : List Str))
  c_NothingWaits : ct "NothingWaits" = some (cA ct "NothingWaits", ([] : List Str))
  c_Taken : ct "Taken" = some (cA ct "Taken", (["frame"] : List Str))
  c_TooMany : ct "TooMany" = some (cA ct "TooMany", (["limit"] : List Str))
  c_Unbounded : ct "Unbounded" = some (cA ct "Unbounded", ([] : List Str))
  c_Unsound : ct "Unsound" = some (cA ct "Unsound", ([] : List Str))
  xn_BadCommand_command : PySem.W.findIn K (.ref (cA ct "BadCommand")) "command" = some none
  xn_BadDeed_index : PySem.W.findIn K (.ref (cA ct "BadDeed")) "index" = some none
  xn_BadEnd_part : PySem.W.findIn K (.ref (cA ct "BadEnd")) "part" = some none
  xn_BadEnd_row : PySem.W.findIn K (.ref (cA ct "BadEnd")) "row" = some none
  xn_BadFault_bit : PySem.W.findIn K (.ref (cA ct "BadFault")) "bit" = some none
  xn_BadFault_station : PySem.W.findIn K (.ref (cA ct "BadFault")) "station" = some none
  xn_BadFrame_frame : PySem.W.findIn K (.ref (cA ct "BadFrame")) "frame" = some none
  xn_BadText_text : PySem.W.findIn K (.ref (cA ct "BadText")) "text" = some none
  xn_Endless_bit : PySem.W.findIn K (.ref (cA ct "Endless")) "bit" = some none
  xn_Endless_ring : PySem.W.findIn K (.ref (cA ct "Endless")) "ring" = some none
  xn_NoName_name : PySem.W.findIn K (.ref (cA ct "NoName")) "name" = some none
  xn_NoOutcome_outcome : PySem.W.findIn K (.ref (cA ct "NoOutcome")) "outcome" = some none
  xn_NoPromise_promise : PySem.W.findIn K (.ref (cA ct "NoPromise")) "promise" = some none
  xn_NoStation_station : PySem.W.findIn K (.ref (cA ct "NoStation")) "station" = some none
  xn_Taken_frame : PySem.W.findIn K (.ref (cA ct "Taken")) "frame" = some none
  xn_TooMany_limit : PySem.W.findIn K (.ref (cA ct "TooMany")) "limit" = some none
  fam : Fam K ct bmF
  mc_BadCommand : mg "BadCommand" = some (.ref (cA ct "BadCommand"))
  mc_BadDeed : mg "BadDeed" = some (.ref (cA ct "BadDeed"))
  mc_BadEnd : mg "BadEnd" = some (.ref (cA ct "BadEnd"))
  mc_BadFault : mg "BadFault" = some (.ref (cA ct "BadFault"))
  mc_BadFrame : mg "BadFrame" = some (.ref (cA ct "BadFrame"))
  mc_BadText : mg "BadText" = some (.ref (cA ct "BadText"))
  mc_Endless : mg "Endless" = some (.ref (cA ct "Endless"))
  mc_NoHearer : mg "NoHearer" = some (.ref (cA ct "NoHearer"))
  mc_NoLine : mg "NoLine" = some (.ref (cA ct "NoLine"))
  mc_NoName : mg "NoName" = some (.ref (cA ct "NoName"))
  mc_NoOutcome : mg "NoOutcome" = some (.ref (cA ct "NoOutcome"))
  mc_NoPromise : mg "NoPromise" = some (.ref (cA ct "NoPromise"))
  mc_NoStation : mg "NoStation" = some (.ref (cA ct "NoStation"))
  mc_NothingToUndo : mg "NothingToUndo" = some (.ref (cA ct "NothingToUndo"))
  mc_NothingWaits : mg "NothingWaits" = some (.ref (cA ct "NothingWaits"))
  mc_Taken : mg "Taken" = some (.ref (cA ct "Taken"))
  mc_TooMany : mg "TooMany" = some (.ref (cA ct "TooMany"))
  mc_Unbounded : mg "Unbounded" = some (.ref (cA ct "Unbounded"))
  mc_Unsound : mg "Unsound" = some (.ref (cA ct "Unsound"))
section
variable {P : Program} {w : World} {K : PySem.W.Frag} {mg : Str → Option Value} {base : Heap}
def F_L_bag : Ev Fl := (fSeq (fAsg (.nm 2) (fIte (fB (fOp (oI fun i j => .bl (decide (i < j))) (fVar 1) (fCB (o1 oLen) (fCons (fVar 0) fNil)))) (fOp oIx (fVar 0) (fVar 1)) (fC (.int 0))))
  (fSeq (fAsg (.nm 3) (fIte (fB (fOp (oI fun i j => .bl (decide (j ≤ i))) (fCB (o1 oAbs) (fCons (fVar 2) fNil)) (fOp (oIC (fun i j => decide (0 ≤ j) && decide ((Builtin.Int.intBits i : Int) * j ≤ 2 ^ 27)) fun i j => .int (i ^ j.toNat)) (fC (.int 10)) (fC (.int 18))))) (fCB (o1 oAbs) (fCons (fVar 2) fNil)) (fC (.int 0))))
  (fRetW (fLst (fCons (fVar 3) (fCons (fOp (oI fun i j => .int (i + j)) (fOp (oI fun i j => .int (i + j)) (fOp (oIC cMul fun i j => .int (i * j)) (fOp (oIC (fun _ j => decide (0 < j)) fun i j => .int (i % j)) (fCB (o1 oInt) (fCons (fVar 2) fNil)) (fC (.int 2305843009213693951))) (fC (.int 54773))) (fOp (oIC cMul fun i j => .int (i * j)) (fC (.int 4703)) (fVar 1))) (fC (.int 31))) (fCons (fC (.int 0)) fNil)))))))
def Φ_L_bag : List D → Res := fun ds => (runV [false, false] 4 F_L_bag ds).quiet
theorem dv_L_bag {ct : Ct} {f : Addr} {fd : FuncData} (T : Txt K mg ct) (F : Fun K "_law_bag" "_law_bag" sL_bag f fd) : FnG P w K mg base CX0 1 f fd ["_law_script", "_law_at"] (spV K ct [false, false] Φ_L_bag) :=
  okVg F scL_bag rfl fun io cdv A out s H E hg hr hu66 => by
    have hu65 : (A.deeper (PyProof.Rows.envOfC "_law_bag" (defScope sL_bag) s.heap.objs.size f cdv)).units + 65 < cLine := by omega
    exact (dss_cons (dset 2 scL_bag.nd (de_ite (dt_cmp op_lt opv_lt (dv 1) (de_callB call_lenA cv_len (by rfl) T.b_len (by decide +kernel) (da_cons (dv 0) da_nil)) (nomark _)) (dix (dv 0) (dv 1)) de_int))
  (dss_cons (dset 3 scL_bag.nd (de_ite (dt_cmp op_ge opv_ge (de_callB call_abs cv_abs (by rfl) T.b_abs (by decide +kernel) (da_cons (dv 2) da_nil)) (de_op Sb.op_powB opv_pow de_int de_int) (nomark _)) (de_callB call_abs cv_abs (by rfl) T.b_abs (by decide +kernel) (da_cons (dv 2) da_nil)) de_int))
  (dss_one (ds_retW (dn_lst (da_cons (dv 3) (da_cons (de_op op_add opv_add (de_op op_add opv_add (de_op op_mul opv_mul (de_op op_mod opv_mod (de_callTy call_int1 cv_int (by rfl) T.b_int (by decide +kernel) (da_cons (dv 2) da_nil)) de_int) de_int) (de_op op_mul opv_mul de_int (dv 1))) de_int) (da_cons de_int da_nil))))))))
theorem dv_L_take {ct : Ct} {f : Addr} {fd : FuncData} (T : Txt K mg ct) (F : Fun K "_law_take" "_law_take" sL_take f fd) : FnG P w K mg base CX0 1 f fd ["_law_bag_here", "_law_many"] (spV K ct [true, false] Φ_L_take) :=
  okVg F scL_take rfl fun io cdv A out s H E hg hr hu66 => by
    have hu65 : (A.deeper (PyProof.Rows.envOfC "_law_take" (defScope sL_take) s.heap.objs.size f cdv)).units + 65 < cLine := by omega
    exact (dss_cons (ds_if (dt_cmp op_gt opv_gt (dixO 0 de_int) de_int (nomark _)) (dss_cons (dset 2 scL_take.nd (de_op op_mod opv_mod (de_callTy call_int1 cv_int (by rfl) T.b_int (by decide +kernel) (da_cons (dixO 0 de_int) da_nil)) (dv 1)))
  (dss_cons (dputL 0 (de_op op_fdiv opv_fdiv (dixO 0 de_int) (dv 1)) de_int)
  (dss_one (ds_ret (dv 2))))) dss_nil)
  (dss_cons (dputL 0 (de_op op_add opv_add (dixO 0 de_int) de_int) de_int)
  (dss_cons (dset 3 scL_take.nd (de_op op_mod opv_mod (de_callTy call_int1 cv_int (by rfl) T.b_int (by decide +kernel) (da_cons (de_op Sb.op_powB opv_pow (de_op op_add opv_add (dixO 0 de_int) (de_op op_mul opv_mul de_int (dixO 0 de_int))) de_int) da_nil)) de_int))
  (dss_cons (dset 3 scL_take.nd (de_op op_mod opv_mod (de_callTy call_int1 cv_int (by rfl) T.b_int (by decide +kernel) (da_cons (de_op Sb.op_powB opv_pow (de_op op_add opv_add (dv 3) (de_op op_mul opv_mul de_int (dixO 0 de_int))) de_int) da_nil)) de_int))
  (dss_one (ds_ret (de_op op_mod opv_mod (de_op op_fdiv opv_fdiv (dv 3) de_int) (dv 1))))))))
def F_L_any : Ev Fl := (fSeq (fAsg (.nm 1) (fLst (fCons (fC .non) (fCons (fC (.bl true)) (fCons (fC (.int 0)) (fCons (fNeg (fC (.int 7))) (fCons (fOp (oIC (fun i j => decide (0 ≤ j) && decide ((Builtin.Int.intBits i : Int) * j ≤ 2 ^ 27)) fun i j => .int (i ^ j.toNat)) (fC (.int 10)) (fC (.int 39))) (fCons (fC (.str "")) (fCons (fC (.str "all")) (fCons (fTup (fCons (fC (.int 0)) (fCons (fC (.int 1)) fNil))) (fCons (fLst fNil) (fCons (fLst (fCons (fC (.str "a")) (fCons (fC .non) fNil))) (fCons fDNewK (fCons (fTup (fCons (fC (.str "once")) (fCons (fC (.int 3)) (fCons (fC (.int 1)) fNil)))) (fCons (fTup (fCons (fC (.int 1)) (fCons (fC (.str "lost")) (fCons (fC (.str "taken")) fNil)))) fNil)))))))))))))))
  (fRet (fOp oIx (fVar 1) (fCall [true, false] Φ_L_take [] (gIo 0 (gCn (fC (.int 13)) gNl))))))
def Φ_L_any : List D → Res := fun ds => (runV [true] 2 F_L_any ds).quiet
theorem dv_L_any {ct : Ct} {f : Addr} {fd : FuncData} {f_L_take : Addr} {fd_L_take : FuncData} (T : Txt K mg ct) (V__law_take : Vx P w K mg base 1 "_law_take" f_L_take fd_L_take ["_law_bag_here", "_law_many"] ct [true, false] Φ_L_take) (F : Fun K "_law_any" "_law_any" sL_any f fd) : FnG P w K mg base CX0 2 f fd ["_law_bag_here"] (spV K ct [true] Φ_L_any) :=
  okVg F scL_any rfl fun io cdv A out s H E hg hr hu66 => by
    have hu65 : (A.deeper (PyProof.Rows.envOfC "_law_any" (defScope sL_any) s.heap.objs.size f cdv)).units + 65 < cLine := by omega
    exact (dss_cons (dset 1 scL_any.nd (de_lst (da_cons de_non (da_cons de_bl (da_cons de_int (da_cons (dneg de_int) (da_cons (de_op Sb.op_powB opv_pow de_int de_int) (da_cons de_str (da_cons de_str (da_cons (de_tup (da_cons de_int (da_cons de_int da_nil))) (da_cons (de_lst da_nil) (da_cons (de_lst (da_cons de_str (da_cons de_non da_nil))) (da_cons de_newK (da_cons (de_tup (da_cons de_str (da_cons de_int (da_cons de_int da_nil)))) (da_cons (de_tup (da_cons de_int (da_cons de_str (da_cons de_str da_nil)))) da_nil)))))))))))))))
  (dss_one (ds_ret (dix (dv 1) (de_call V__law_take.ok hg (hr.mono (by decide)) (by rfl) V__law_take.mg V__law_take.kp V__law_take.bd .nil (fun _ => .nil) (E := E0v) pass0 zno_any (dio 0 (dai_cons de_int dai_nil)))))))
def F_L_family : Ev Fl := (fSeq (fAsg (.nm 1) (fLst (fCons (fUn (oIsX "BadEnd") (fVar 0)) (fCons (fUn (oIsX "BadFault") (fVar 0)) (fCons (fUn (oIsX "BadFrame") (fVar 0)) (fCons (fUn (oIsX "BadText") (fVar 0)) fNil))))))
  (fSeq (fAsg (.nm 1) (fOp oCat (fVar 1) (fLst (fCons (fUn (oIsX "BadCommand") (fVar 0)) (fCons (fUn (oIsX "NoPromise") (fVar 0)) (fCons (fUn (oIsX "NoStation") (fVar 0)) fNil))))))
  (fSeq (fAsg (.nm 1) (fOp oCat (fVar 1) (fLst (fCons (fUn (oIsX "NoName") (fVar 0)) (fCons (fUn (oIsX "NoOutcome") (fVar 0)) (fCons (fUn (oIsX "NothingToUndo") (fVar 0)) fNil))))))
  (fSeq (fAsg (.nm 1) (fOp oCat (fVar 1) (fLst (fCons (fUn (oIsX "BadDeed") (fVar 0)) (fCons (fUn (oIsX "Endless") (fVar 0)) (fCons (fUn (oIsX "NothingWaits") (fVar 0)) fNil))))))
  (fSeq (fAsg (.nm 1) (fOp oCat (fVar 1) (fLst (fCons (fUn (oIsX "NoHearer") (fVar 0)) (fCons (fUn (oIsX "NoLine") (fVar 0)) fNil)))))
  (fSeq (fAsg (.nm 1) (fOp oCat (fVar 1) (fLst (fCons (fUn (oIsX "TooMany") (fVar 0)) (fCons (fUn (oIsX "Unsound") (fVar 0)) (fCons (fUn (oIsX "Unbounded") (fVar 0)) (fCons (fUn (oIsX "Taken") (fVar 0)) fNil)))))))
  (fRet (fVar 1))))))))
def Φ_L_family : List D → Res := fun ds => (runV [false] 2 F_L_family ds).quiet
theorem dv_L_family {ct : Ct} {f : Addr} {fd : FuncData} (T : Txt K mg ct) (F : Fun K "_law_family" "_law_family" sL_family f fd) : FnG P w K mg base CX0 1 f fd ["_law_e"] (spV K ct [false] Φ_L_family) :=
  okVg F scL_family rfl fun io cdv A out s H E hg hr hu66 => by
    have hu65 : (A.deeper (PyProof.Rows.envOfC "_law_family" (defScope sL_family) s.heap.objs.size f cdv)).units + 65 < cLine := by omega
    exact (dss_cons (dset 1 scL_family.nd (de_lst (da_cons (de_isX T.fam T.c_BadEnd T.b_isinstance (by rfl) (dv 0) (by rfl) T.mc_BadEnd) (da_cons (de_isX T.fam T.c_BadFault T.b_isinstance (by rfl) (dv 0) (by rfl) T.mc_BadFault) (da_cons (de_isX T.fam T.c_BadFrame T.b_isinstance (by rfl) (dv 0) (by rfl) T.mc_BadFrame) (da_cons (de_isX T.fam T.c_BadText T.b_isinstance (by rfl) (dv 0) (by rfl) T.mc_BadText) da_nil))))))
  (dss_cons (dset 1 scL_family.nd (de_op op_cat opv_cat (dv 1) (de_lst (da_cons (de_isX T.fam T.c_BadCommand T.b_isinstance (by rfl) (dv 0) (by rfl) T.mc_BadCommand) (da_cons (de_isX T.fam T.c_NoPromise T.b_isinstance (by rfl) (dv 0) (by rfl) T.mc_NoPromise) (da_cons (de_isX T.fam T.c_NoStation T.b_isinstance (by rfl) (dv 0) (by rfl) T.mc_NoStation) da_nil))))))
  (dss_cons (dset 1 scL_family.nd (de_op op_cat opv_cat (dv 1) (de_lst (da_cons (de_isX T.fam T.c_NoName T.b_isinstance (by rfl) (dv 0) (by rfl) T.mc_NoName) (da_cons (de_isX T.fam T.c_NoOutcome T.b_isinstance (by rfl) (dv 0) (by rfl) T.mc_NoOutcome) (da_cons (de_isX T.fam T.c_NothingToUndo T.b_isinstance (by rfl) (dv 0) (by rfl) T.mc_NothingToUndo) da_nil))))))
  (dss_cons (dset 1 scL_family.nd (de_op op_cat opv_cat (dv 1) (de_lst (da_cons (de_isX T.fam T.c_BadDeed T.b_isinstance (by rfl) (dv 0) (by rfl) T.mc_BadDeed) (da_cons (de_isX T.fam T.c_Endless T.b_isinstance (by rfl) (dv 0) (by rfl) T.mc_Endless) (da_cons (de_isX T.fam T.c_NothingWaits T.b_isinstance (by rfl) (dv 0) (by rfl) T.mc_NothingWaits) da_nil))))))
  (dss_cons (dset 1 scL_family.nd (de_op op_cat opv_cat (dv 1) (de_lst (da_cons (de_isX T.fam T.c_NoHearer T.b_isinstance (by rfl) (dv 0) (by rfl) T.mc_NoHearer) (da_cons (de_isX T.fam T.c_NoLine T.b_isinstance (by rfl) (dv 0) (by rfl) T.mc_NoLine) da_nil)))))
  (dss_cons (dset 1 scL_family.nd (de_op op_cat opv_cat (dv 1) (de_lst (da_cons (de_isX T.fam T.c_TooMany T.b_isinstance (by rfl) (dv 0) (by rfl) T.mc_TooMany) (da_cons (de_isX T.fam T.c_Unsound T.b_isinstance (by rfl) (dv 0) (by rfl) T.mc_Unsound) (da_cons (de_isX T.fam T.c_Unbounded T.b_isinstance (by rfl) (dv 0) (by rfl) T.mc_Unbounded) (da_cons (de_isX T.fam T.c_Taken T.b_isinstance (by rfl) (dv 0) (by rfl) T.mc_Taken) da_nil)))))))
  (dss_one (ds_ret (dv 1)))))))))
def F_L_base : Ev Fl := (fSeq (fIte (fB (fUn (oIsB bmF "KeyError") (fVar 0))) (fRet (fC (.str "key"))) fNx)
  (fSeq (fIte (fB (fUn (oIsB bmF "IndexError") (fVar 0))) (fRet (fC (.str "index"))) fNx)
  (fSeq (fIte (fB (fUn (oIsB bmF "LookupError") (fVar 0))) (fRet (fC (.str "lookup"))) fNx)
  (fSeq (fIte (fB (fUn (oIsB bmF "OverflowError") (fVar 0))) (fRet (fC (.str "overflow"))) fNx)
  (fSeq (fIte (fB (fUn (oIsB bmF "ZeroDivisionError") (fVar 0))) (fRet (fC (.str "zero"))) fNx)
  (fSeq (fAsg (.nm 1) (fLst (fCons (fC (.str "value")) (fCons (fC (.str "runtime")) (fCons (fC (.str "arithmetic")) (fCons (fC (.str "kind")) fNil))))))
  (fSeq (fSetN 2 (fLst (fCons (fUn (oIsB bmF "ValueError") (fVar 0)) (fCons (fUn (oIsB bmF "RuntimeError") (fVar 0)) (fCons (fUn (oIsB bmF "ArithmeticError") (fVar 0)) fNil)))))
  (fSeq (fApp 2 (fUn (oIsB bmF "TypeError") (fVar 0)))
  (fRet (fIte (fB (fOp (oEqS false) (fCntD (fVar 2) (fC (.bl true))) (fC (.int 1)))) (fOp oIx (fVar 1) (fIdx (fVar 2) (fC (.bl true)))) (fC (.str "several"))))))))))))
def Φ_L_base : List D → Res := fun ds => (runV [false] 3 F_L_base ds).quiet
theorem dv_L_base {ct : Ct} {f : Addr} {fd : FuncData} (T : Txt K mg ct) (F : Fun K "_law_base" "_law_base" sL_base f fd) : FnG P w K mg base CX0 1 f fd ["_law_e"] (spV K ct [false] Φ_L_base) :=
  okVg F scL_base rfl fun io cdv A out s H E hg hr hu66 => by
    have hu65 : (A.deeper (PyProof.Rows.envOfC "_law_base" (defScope sL_base) s.heap.objs.size f cdv)).units + 65 < cLine := by omega
    exact (dss_cons (ds_if (dt_val (de_isB (T := "KeyError") T.fam (by rfl) T.b_isinstance (by rfl) (dv 0) (pe_bltn (v := .ty "KeyError") (by rfl) T.b_KeyError (by decide +kernel) rfl))) (dss_one (ds_ret de_str)) dss_nil)
  (dss_cons (ds_if (dt_val (de_isB (T := "IndexError") T.fam (by rfl) T.b_isinstance (by rfl) (dv 0) (pe_bltn (v := .ty "IndexError") (by rfl) T.b_IndexError (by decide +kernel) rfl))) (dss_one (ds_ret de_str)) dss_nil)
  (dss_cons (ds_if (dt_val (de_isB (T := "LookupError") T.fam (by rfl) T.b_isinstance (by rfl) (dv 0) (pe_bltn (v := .ty "LookupError") (by rfl) T.b_LookupError (by decide +kernel) rfl))) (dss_one (ds_ret de_str)) dss_nil)
  (dss_cons (ds_if (dt_val (de_isB (T := "OverflowError") T.fam (by rfl) T.b_isinstance (by rfl) (dv 0) (pe_bltn (v := .ty "OverflowError") (by rfl) T.b_OverflowError (by decide +kernel) rfl))) (dss_one (ds_ret de_str)) dss_nil)
  (dss_cons (ds_if (dt_val (de_isB (T := "ZeroDivisionError") T.fam (by rfl) T.b_isinstance (by rfl) (dv 0) (pe_bltn (v := .ty "ZeroDivisionError") (by rfl) T.b_ZeroDivisionError (by decide +kernel) rfl))) (dss_one (ds_ret de_str)) dss_nil)
  (dss_cons (dset 1 scL_base.nd (de_lst (da_cons de_str (da_cons de_str (da_cons de_str (da_cons de_str da_nil))))))
  (dss_cons (ds_new (i := 2) scL_base.nd rfl (by first | exact Or.inl rfl | exact Or.inr rfl) (dn_lst (da_cons (de_isB (T := "ValueError") T.fam (by rfl) T.b_isinstance (by rfl) (dv 0) (pe_bltn (v := .ty "ValueError") (by rfl) T.b_ValueError (by decide +kernel) rfl)) (da_cons (de_isB (T := "RuntimeError") T.fam (by rfl) T.b_isinstance (by rfl) (dv 0) (pe_bltn (v := .ty "RuntimeError") (by rfl) T.b_RuntimeError (by decide +kernel) rfl)) (da_cons (de_isB (T := "ArithmeticError") T.fam (by rfl) T.b_isinstance (by rfl) (dv 0) (pe_bltn (v := .ty "ArithmeticError") (by rfl) T.b_ArithmeticError (by decide +kernel) rfl)) da_nil)))))
  (dss_cons (dapp 2 (de_isB (T := "TypeError") T.fam (by rfl) T.b_isinstance (by rfl) (dv 0) (pe_bltn (v := .ty "TypeError") (by rfl) T.b_TypeError (by decide +kernel) rfl)))
  (dss_one (ds_ret (de_ite (dt_cmp op_eq opv_eqS (de_cntD hu65 (dv 2) de_bl) de_int (nomark _)) (dix (dv 1) (de_idx hu65 (dv 2) de_bl)) de_str)))))))))))
def F_L_made : Ev Fl := (fSeq (fAsg (.nm 2) (fLst (fCons (fTup (fCons (fEx "BadEnd" (fCons (fVar 0) (fCons (fVar 1) fNil))) (fCons (fC (.str "value")) fNil))) (fCons (fTup (fCons (fEx "BadFault" (fCons (fVar 0) (fCons (fVar 1) fNil))) (fCons (fC (.str "value")) fNil))) (fCons (fTup (fCons (fEx "BadFrame" (fCons (fVar 0) fNil)) (fCons (fC (.str "value")) fNil))) fNil)))))
  (fSeq (fAsg (.nm 2) (fOp oCat (fVar 2) (fLst (fCons (fTup (fCons (fEx "BadText" (fCons (fVar 0) fNil)) (fCons (fC (.str "value")) fNil))) (fCons (fTup (fCons (fEx "BadCommand" (fCons (fVar 0) fNil)) (fCons (fC (.str "value")) fNil))) (fCons (fTup (fCons (fEx "NoPromise" (fCons (fVar 0) fNil)) (fCons (fC (.str "value")) fNil))) fNil))))))
  (fSeq (fAsg (.nm 2) (fOp oCat (fVar 2) (fLst (fCons (fTup (fCons (fEx "NoStation" (fCons (fVar 0) fNil)) (fCons (fC (.str "key")) fNil))) (fCons (fTup (fCons (fEx "NoName" (fCons (fVar 0) fNil)) (fCons (fC (.str "key")) fNil))) (fCons (fTup (fCons (fEx "NoOutcome" (fCons (fVar 0) fNil)) (fCons (fC (.str "lookup")) fNil))) fNil))))))
  (fSeq (fAsg (.nm 2) (fOp oCat (fVar 2) (fLst (fCons (fTup (fCons (fEx0 "NothingToUndo") (fCons (fC (.str "lookup")) fNil))) (fCons (fTup (fCons (fEx "BadDeed" (fCons (fVar 0) fNil)) (fCons (fC (.str "index")) fNil))) (fCons (fTup (fCons (fEx "Endless" (fCons (fVar 0) (fCons (fVar 1) fNil))) (fCons (fC (.str "runtime")) fNil))) fNil))))))
  (fSeq (fAsg (.nm 2) (fOp oCat (fVar 2) (fLst (fCons (fTup (fCons (fEx0 "NothingWaits") (fCons (fC (.str "runtime")) fNil))) (fCons (fTup (fCons (fEx0 "NoHearer") (fCons (fC (.str "runtime")) fNil))) (fCons (fTup (fCons (fEx0 "NoLine") (fCons (fC (.str "runtime")) fNil))) fNil))))))
  (fSeq (fAsg (.nm 2) (fOp oCat (fVar 2) (fLst (fCons (fTup (fCons (fEx "TooMany" (fCons (fVar 0) fNil)) (fCons (fC (.str "overflow")) fNil))) (fCons (fTup (fCons (fEx0 "Unsound") (fCons (fC (.str "arithmetic")) fNil))) (fCons (fTup (fCons (fEx0 "Unbounded") (fCons (fC (.str "arithmetic")) fNil))) fNil))))))
  (fRetW (fOp oCat (fVar 2) (fLst (fCons (fTup (fCons (fEx "Taken" (fCons (fVar 0) fNil)) (fCons (fC (.str "kind")) fNil))) fNil))))))))))
def Φ_L_made : List D → Res := fun ds => (runV [false, false] 3 F_L_made ds).quiet
theorem dv_L_made {ct : Ct} {f : Addr} {fd : FuncData} {f_BadCommand_i : Addr} {fd_BadCommand_i : FuncData} {f_BadDeed_i : Addr} {fd_BadDeed_i : FuncData} {f_BadEnd_i : Addr} {fd_BadEnd_i : FuncData} {f_BadFault_i : Addr} {fd_BadFault_i : FuncData} {f_BadFrame_i : Addr} {fd_BadFrame_i : FuncData} {f_BadText_i : Addr} {fd_BadText_i : FuncData} {f_Endless_i : Addr} {fd_Endless_i : FuncData} {f_NoHearer_i : Addr} {fd_NoHearer_i : FuncData} {f_NoLine_i : Addr} {fd_NoLine_i : FuncData} {f_NoName_i : Addr} {fd_NoName_i : FuncData} {f_NoOutcome_i : Addr} {fd_NoOutcome_i : FuncData} {f_NoPromise_i : Addr} {fd_NoPromise_i : FuncData} {f_NoStation_i : Addr} {fd_NoStation_i : FuncData} {f_NothingToUndo_i : Addr} {fd_NothingToUndo_i : FuncData} {f_NothingWaits_i : Addr} {fd_NothingWaits_i : FuncData} {f_Taken_i : Addr} {fd_Taken_i : FuncData} {f_TooMany_i : Addr} {fd_TooMany_i : FuncData} {f_Unbounded_i : Addr} {fd_Unbounded_i : FuncData} {f_Unsound_i : Addr} {fd_Unsound_i : FuncData} (T : Txt K mg ct) (O_BadCommand : OxU P w K mg base 1 "BadCommand" (cA ct "BadCommand") f_BadCommand_i fd_BadCommand_i ["self", "command"] ["command"] (spXI (cA ct "BadCommand") ["command"])) (O_BadDeed : OxU P w K mg base 1 "BadDeed" (cA ct "BadDeed") f_BadDeed_i fd_BadDeed_i ["self", "index"] ["index"] (spXI (cA ct "BadDeed") ["index"])) (O_BadEnd : OxU P w K mg base 1 "BadEnd" (cA ct "BadEnd") f_BadEnd_i fd_BadEnd_i ["self", "part", "row"] ["row", "part"] (spXI (cA ct "BadEnd") ["row", "part"])) (O_BadFault : OxU P w K mg base 1 "BadFault" (cA ct "BadFault") f_BadFault_i fd_BadFault_i ["self", "bit", "station"] ["station", "bit"] (spXI (cA ct "BadFault") ["station", "bit"])) (O_BadFrame : OxU P w K mg base 1 "BadFrame" (cA ct "BadFrame") f_BadFrame_i fd_BadFrame_i ["self", "frame"] ["frame"] (spXI (cA ct "BadFrame") ["frame"])) (O_BadText : OxU P w K mg base 1 "BadText" (cA ct "BadText") f_BadText_i fd_BadText_i ["self", "text"] ["text"] (spXI (cA ct "BadText") ["text"])) (O_Endless : OxU P w K mg base 1 "Endless" (cA ct "Endless") f_Endless_i fd_Endless_i ["self", "bit", "ring"] ["ring", "bit"] (spXI (cA ct "Endless") ["ring", "bit"])) (O_NoHearer : OxU P w K mg base 1 "NoHearer" (cA ct "NoHearer") f_NoHearer_i fd_NoHearer_i ["self"] [] sp0) (O_NoLine : OxU P w K mg base 1 "NoLine" (cA ct "NoLine") f_NoLine_i fd_NoLine_i ["self"] [] sp0) (O_NoName : OxU P w K mg base 1 "NoName" (cA ct "NoName") f_NoName_i fd_NoName_i ["self", "name"] ["name"] (spXI (cA ct "NoName") ["name"])) (O_NoOutcome : OxU P w K mg base 1 "NoOutcome" (cA ct "NoOutcome") f_NoOutcome_i fd_NoOutcome_i ["self", "outcome"] ["outcome"] (spXI (cA ct "NoOutcome") ["outcome"])) (O_NoPromise : OxU P w K mg base 1 "NoPromise" (cA ct "NoPromise") f_NoPromise_i fd_NoPromise_i ["self", "promise"] ["promise"] (spXI (cA ct "NoPromise") ["promise"])) (O_NoStation : OxU P w K mg base 1 "NoStation" (cA ct "NoStation") f_NoStation_i fd_NoStation_i ["self", "station"] ["station"] (spXI (cA ct "NoStation") ["station"])) (O_NothingToUndo : OxU P w K mg base 1 "NothingToUndo" (cA ct "NothingToUndo") f_NothingToUndo_i fd_NothingToUndo_i ["self"] [] sp0) (O_NothingWaits : OxU P w K mg base 1 "NothingWaits" (cA ct "NothingWaits") f_NothingWaits_i fd_NothingWaits_i ["self"] [] sp0) (O_Taken : OxU P w K mg base 1 "Taken" (cA ct "Taken") f_Taken_i fd_Taken_i ["self", "frame"] ["frame"] (spXI (cA ct "Taken") ["frame"])) (O_TooMany : OxU P w K mg base 1 "TooMany" (cA ct "TooMany") f_TooMany_i fd_TooMany_i ["self", "limit"] ["limit"] (spXI (cA ct "TooMany") ["limit"])) (O_Unbounded : OxU P w K mg base 1 "Unbounded" (cA ct "Unbounded") f_Unbounded_i fd_Unbounded_i ["self"] [] sp0) (O_Unsound : OxU P w K mg base 1 "Unsound" (cA ct "Unsound") f_Unsound_i fd_Unsound_i ["self"] [] sp0) (F : Fun K "_law_made" "_law_made" sL_made f fd) : FnG P w K mg base CX0 3 f fd ["_law_one", "_law_other"] (spV K ct [false, false] Φ_L_made) :=
  okVg F scL_made rfl fun io cdv A out s H E hg hr hu66 => by
    have hu65 : (A.deeper (PyProof.Rows.envOfC "_law_made" (defScope sL_made) s.heap.objs.size f cdv)).units + 65 < cLine := by omega
    exact (dss_cons (dset 2 scL_made.nd (de_lst (da_cons (de_tup (da_cons (de_ex O_BadEnd T.c_BadEnd (hr.mono (by decide)) (by rfl) (da_cons (dv 0) (da_cons (dv 1) da_nil)) (len_cons (len_cons len_nil))) (da_cons de_str da_nil))) (da_cons (de_tup (da_cons (de_ex O_BadFault T.c_BadFault (hr.mono (by decide)) (by rfl) (da_cons (dv 0) (da_cons (dv 1) da_nil)) (len_cons (len_cons len_nil))) (da_cons de_str da_nil))) (da_cons (de_tup (da_cons (de_ex O_BadFrame T.c_BadFrame (hr.mono (by decide)) (by rfl) (da_cons (dv 0) da_nil) (len_cons len_nil)) (da_cons de_str da_nil))) da_nil)))))
  (dss_cons (dset 2 scL_made.nd (de_op op_cat opv_cat (dv 2) (de_lst (da_cons (de_tup (da_cons (de_ex O_BadText T.c_BadText (hr.mono (by decide)) (by rfl) (da_cons (dv 0) da_nil) (len_cons len_nil)) (da_cons de_str da_nil))) (da_cons (de_tup (da_cons (de_ex O_BadCommand T.c_BadCommand (hr.mono (by decide)) (by rfl) (da_cons (dv 0) da_nil) (len_cons len_nil)) (da_cons de_str da_nil))) (da_cons (de_tup (da_cons (de_ex O_NoPromise T.c_NoPromise (hr.mono (by decide)) (by rfl) (da_cons (dv 0) da_nil) (len_cons len_nil)) (da_cons de_str da_nil))) da_nil))))))
  (dss_cons (dset 2 scL_made.nd (de_op op_cat opv_cat (dv 2) (de_lst (da_cons (de_tup (da_cons (de_ex O_NoStation T.c_NoStation (hr.mono (by decide)) (by rfl) (da_cons (dv 0) da_nil) (len_cons len_nil)) (da_cons de_str da_nil))) (da_cons (de_tup (da_cons (de_ex O_NoName T.c_NoName (hr.mono (by decide)) (by rfl) (da_cons (dv 0) da_nil) (len_cons len_nil)) (da_cons de_str da_nil))) (da_cons (de_tup (da_cons (de_ex O_NoOutcome T.c_NoOutcome (hr.mono (by decide)) (by rfl) (da_cons (dv 0) da_nil) (len_cons len_nil)) (da_cons de_str da_nil))) da_nil))))))
  (dss_cons (dset 2 scL_made.nd (de_op op_cat opv_cat (dv 2) (de_lst (da_cons (de_tup (da_cons (de_ex0 O_NothingToUndo rfl T.c_NothingToUndo (hr.mono (by decide)) (by rfl)) (da_cons de_str da_nil))) (da_cons (de_tup (da_cons (de_ex O_BadDeed T.c_BadDeed (hr.mono (by decide)) (by rfl) (da_cons (dv 0) da_nil) (len_cons len_nil)) (da_cons de_str da_nil))) (da_cons (de_tup (da_cons (de_ex O_Endless T.c_Endless (hr.mono (by decide)) (by rfl) (da_cons (dv 0) (da_cons (dv 1) da_nil)) (len_cons (len_cons len_nil))) (da_cons de_str da_nil))) da_nil))))))
  (dss_cons (dset 2 scL_made.nd (de_op op_cat opv_cat (dv 2) (de_lst (da_cons (de_tup (da_cons (de_ex0 O_NothingWaits rfl T.c_NothingWaits (hr.mono (by decide)) (by rfl)) (da_cons de_str da_nil))) (da_cons (de_tup (da_cons (de_ex0 O_NoHearer rfl T.c_NoHearer (hr.mono (by decide)) (by rfl)) (da_cons de_str da_nil))) (da_cons (de_tup (da_cons (de_ex0 O_NoLine rfl T.c_NoLine (hr.mono (by decide)) (by rfl)) (da_cons de_str da_nil))) da_nil))))))
  (dss_cons (dset 2 scL_made.nd (de_op op_cat opv_cat (dv 2) (de_lst (da_cons (de_tup (da_cons (de_ex O_TooMany T.c_TooMany (hr.mono (by decide)) (by rfl) (da_cons (dv 0) da_nil) (len_cons len_nil)) (da_cons de_str da_nil))) (da_cons (de_tup (da_cons (de_ex0 O_Unsound rfl T.c_Unsound (hr.mono (by decide)) (by rfl)) (da_cons de_str da_nil))) (da_cons (de_tup (da_cons (de_ex0 O_Unbounded rfl T.c_Unbounded (hr.mono (by decide)) (by rfl)) (da_cons de_str da_nil))) da_nil))))))
  (dss_one (ds_retW (dn_op op_cat opn_cat (dv 2) (de_lst (da_cons (de_tup (da_cons (de_ex O_Taken T.c_Taken (hr.mono (by decide)) (by rfl) (da_cons (dv 0) da_nil) (len_cons len_nil)) (da_cons de_str da_nil))) da_nil)))))))))))
def F_L_fields : Ev Fl := (fSeq (fAsg (.nm 2) (fLst (fCons (fUn (oExF "BadEnd" 1) (fEx "BadEnd" (fCons (fVar 0) (fCons (fVar 1) fNil)))) (fCons (fUn (oExF "BadFault" 1) (fEx "BadFault" (fCons (fVar 0) (fCons (fVar 1) fNil)))) (fCons (fUn (oExF "BadFrame" 0) (fEx "BadFrame" (fCons (fVar 0) fNil))) (fCons (fUn (oExF "BadText" 0) (fEx "BadText" (fCons (fVar 0) fNil))) fNil))))))
  (fSeq (fAsg (.nm 2) (fOp oCat (fVar 2) (fLst (fCons (fUn (oExF "BadCommand" 0) (fEx "BadCommand" (fCons (fVar 0) fNil))) (fCons (fUn (oExF "NoPromise" 0) (fEx "NoPromise" (fCons (fVar 0) fNil))) (fCons (fUn (oExF "NoStation" 0) (fEx "NoStation" (fCons (fVar 0) fNil))) (fCons (fUn (oExF "NoName" 0) (fEx "NoName" (fCons (fVar 0) fNil))) fNil)))))))
  (fSeq (fAsg (.nm 2) (fOp oCat (fVar 2) (fLst (fCons (fUn (oExF "NoOutcome" 0) (fEx "NoOutcome" (fCons (fVar 0) fNil))) (fCons (fUn (oExF "BadDeed" 0) (fEx "BadDeed" (fCons (fVar 0) fNil))) (fCons (fUn (oExF "Endless" 1) (fEx "Endless" (fCons (fVar 0) (fCons (fVar 1) fNil)))) (fCons (fUn (oExF "TooMany" 0) (fEx "TooMany" (fCons (fVar 0) fNil))) fNil)))))))
  (fSeq (fAsg (.nm 2) (fOp oCat (fVar 2) (fLst (fCons (fUn (oExF "Taken" 0) (fEx "Taken" (fCons (fVar 0) fNil))) (fCons (fUn (oExF "BadEnd" 1) (fExK "BadEnd" 2 (fCons (fVar 1) (fCons (fVar 0) fNil)))) (fCons (fUn (oExF "BadFault" 1) (fExK "BadFault" 2 (fCons (fVar 1) (fCons (fVar 0) fNil)))) fNil))))))
  (fSeq (fAsg (.nm 2) (fOp oCat (fVar 2) (fLst (fCons (fUn (oExF "Endless" 1) (fExK "Endless" 2 (fCons (fVar 1) (fCons (fVar 0) fNil)))) (fCons (fUn (oExF "BadFrame" 0) (fExK "BadFrame" 1 (fCons (fVar 0) fNil))) (fCons (fUn (oExF "BadText" 0) (fExK "BadText" 1 (fCons (fVar 0) fNil))) fNil))))))
  (fSeq (fAsg (.nm 2) (fOp oCat (fVar 2) (fLst (fCons (fUn (oExF "BadCommand" 0) (fExK "BadCommand" 1 (fCons (fVar 0) fNil))) (fCons (fUn (oExF "NoPromise" 0) (fExK "NoPromise" 1 (fCons (fVar 0) fNil))) (fCons (fUn (oExF "Taken" 0) (fExK "Taken" 1 (fCons (fVar 0) fNil))) fNil))))))
  (fSeq (fAsg (.nm 2) (fOp oCat (fVar 2) (fLst (fCons (fUn (oExF "NoStation" 0) (fExK "NoStation" 1 (fCons (fVar 0) fNil))) (fCons (fUn (oExF "NoName" 0) (fExK "NoName" 1 (fCons (fVar 0) fNil))) (fCons (fUn (oExF "NoOutcome" 0) (fExK "NoOutcome" 1 (fCons (fVar 0) fNil))) fNil))))))
  (fRetW (fOp oCat (fVar 2) (fLst (fCons (fUn (oExF "BadDeed" 0) (fExK "BadDeed" 1 (fCons (fVar 0) fNil))) (fCons (fUn (oExF "TooMany" 0) (fExK "TooMany" 1 (fCons (fVar 0) fNil))) fNil))))))))))))
def Φ_L_fields : List D → Res := fun ds => (runV [false, false] 3 F_L_fields ds).quiet
theorem dv_L_fields {ct : Ct} {f : Addr} {fd : FuncData} {f_BadCommand_i : Addr} {fd_BadCommand_i : FuncData} {f_BadDeed_i : Addr} {fd_BadDeed_i : FuncData} {f_BadEnd_i : Addr} {fd_BadEnd_i : FuncData} {f_BadFault_i : Addr} {fd_BadFault_i : FuncData} {f_BadFrame_i : Addr} {fd_BadFrame_i : FuncData} {f_BadText_i : Addr} {fd_BadText_i : FuncData} {f_Endless_i : Addr} {fd_Endless_i : FuncData} {f_NoName_i : Addr} {fd_NoName_i : FuncData} {f_NoOutcome_i : Addr} {fd_NoOutcome_i : FuncData} {f_NoPromise_i : Addr} {fd_NoPromise_i : FuncData} {f_NoStation_i : Addr} {fd_NoStation_i : FuncData} {f_Taken_i : Addr} {fd_Taken_i : FuncData} {f_TooMany_i : Addr} {fd_TooMany_i : FuncData} (T : Txt K mg ct) (O_BadCommand : OxU P w K mg base 1 "BadCommand" (cA ct "BadCommand") f_BadCommand_i fd_BadCommand_i ["self", "command"] ["command"] (spXI (cA ct "BadCommand") ["command"])) (O_BadDeed : OxU P w K mg base 1 "BadDeed" (cA ct "BadDeed") f_BadDeed_i fd_BadDeed_i ["self", "index"] ["index"] (spXI (cA ct "BadDeed") ["index"])) (O_BadEnd : OxU P w K mg base 1 "BadEnd" (cA ct "BadEnd") f_BadEnd_i fd_BadEnd_i ["self", "part", "row"] ["row", "part"] (spXI (cA ct "BadEnd") ["row", "part"])) (O_BadFault : OxU P w K mg base 1 "BadFault" (cA ct "BadFault") f_BadFault_i fd_BadFault_i ["self", "bit", "station"] ["station", "bit"] (spXI (cA ct "BadFault") ["station", "bit"])) (O_BadFrame : OxU P w K mg base 1 "BadFrame" (cA ct "BadFrame") f_BadFrame_i fd_BadFrame_i ["self", "frame"] ["frame"] (spXI (cA ct "BadFrame") ["frame"])) (O_BadText : OxU P w K mg base 1 "BadText" (cA ct "BadText") f_BadText_i fd_BadText_i ["self", "text"] ["text"] (spXI (cA ct "BadText") ["text"])) (O_Endless : OxU P w K mg base 1 "Endless" (cA ct "Endless") f_Endless_i fd_Endless_i ["self", "bit", "ring"] ["ring", "bit"] (spXI (cA ct "Endless") ["ring", "bit"])) (O_NoName : OxU P w K mg base 1 "NoName" (cA ct "NoName") f_NoName_i fd_NoName_i ["self", "name"] ["name"] (spXI (cA ct "NoName") ["name"])) (O_NoOutcome : OxU P w K mg base 1 "NoOutcome" (cA ct "NoOutcome") f_NoOutcome_i fd_NoOutcome_i ["self", "outcome"] ["outcome"] (spXI (cA ct "NoOutcome") ["outcome"])) (O_NoPromise : OxU P w K mg base 1 "NoPromise" (cA ct "NoPromise") f_NoPromise_i fd_NoPromise_i ["self", "promise"] ["promise"] (spXI (cA ct "NoPromise") ["promise"])) (O_NoStation : OxU P w K mg base 1 "NoStation" (cA ct "NoStation") f_NoStation_i fd_NoStation_i ["self", "station"] ["station"] (spXI (cA ct "NoStation") ["station"])) (O_Taken : OxU P w K mg base 1 "Taken" (cA ct "Taken") f_Taken_i fd_Taken_i ["self", "frame"] ["frame"] (spXI (cA ct "Taken") ["frame"])) (O_TooMany : OxU P w K mg base 1 "TooMany" (cA ct "TooMany") f_TooMany_i fd_TooMany_i ["self", "limit"] ["limit"] (spXI (cA ct "TooMany") ["limit"])) (F : Fun K "_law_fields" "_law_fields" sL_fields f fd) : FnG P w K mg base CX0 3 f fd ["_law_one", "_law_other"] (spV K ct [false, false] Φ_L_fields) :=
  okVg F scL_fields rfl fun io cdv A out s H E hg hr hu66 => by
    have hu65 : (A.deeper (PyProof.Rows.envOfC "_law_fields" (defScope sL_fields) s.heap.objs.size f cdv)).units + 65 < cLine := by omega
    exact (dss_cons (dset 2 scL_fields.nd (de_lst (da_cons (de_exf (j := 1) T.fam T.c_BadEnd T.xn_BadEnd_part (by decide) rfl (de_ex O_BadEnd T.c_BadEnd (hr.mono (by decide)) (by rfl) (da_cons (dv 0) (da_cons (dv 1) da_nil)) (len_cons (len_cons len_nil)))) (da_cons (de_exf (j := 1) T.fam T.c_BadFault T.xn_BadFault_bit (by decide) rfl (de_ex O_BadFault T.c_BadFault (hr.mono (by decide)) (by rfl) (da_cons (dv 0) (da_cons (dv 1) da_nil)) (len_cons (len_cons len_nil)))) (da_cons (de_exf (j := 0) T.fam T.c_BadFrame T.xn_BadFrame_frame (by decide) rfl (de_ex O_BadFrame T.c_BadFrame (hr.mono (by decide)) (by rfl) (da_cons (dv 0) da_nil) (len_cons len_nil))) (da_cons (de_exf (j := 0) T.fam T.c_BadText T.xn_BadText_text (by decide) rfl (de_ex O_BadText T.c_BadText (hr.mono (by decide)) (by rfl) (da_cons (dv 0) da_nil) (len_cons len_nil))) da_nil))))))
  (dss_cons (dset 2 scL_fields.nd (de_op op_cat opv_cat (dv 2) (de_lst (da_cons (de_exf (j := 0) T.fam T.c_BadCommand T.xn_BadCommand_command (by decide) rfl (de_ex O_BadCommand T.c_BadCommand (hr.mono (by decide)) (by rfl) (da_cons (dv 0) da_nil) (len_cons len_nil))) (da_cons (de_exf (j := 0) T.fam T.c_NoPromise T.xn_NoPromise_promise (by decide) rfl (de_ex O_NoPromise T.c_NoPromise (hr.mono (by decide)) (by rfl) (da_cons (dv 0) da_nil) (len_cons len_nil))) (da_cons (de_exf (j := 0) T.fam T.c_NoStation T.xn_NoStation_station (by decide) rfl (de_ex O_NoStation T.c_NoStation (hr.mono (by decide)) (by rfl) (da_cons (dv 0) da_nil) (len_cons len_nil))) (da_cons (de_exf (j := 0) T.fam T.c_NoName T.xn_NoName_name (by decide) rfl (de_ex O_NoName T.c_NoName (hr.mono (by decide)) (by rfl) (da_cons (dv 0) da_nil) (len_cons len_nil))) da_nil)))))))
  (dss_cons (dset 2 scL_fields.nd (de_op op_cat opv_cat (dv 2) (de_lst (da_cons (de_exf (j := 0) T.fam T.c_NoOutcome T.xn_NoOutcome_outcome (by decide) rfl (de_ex O_NoOutcome T.c_NoOutcome (hr.mono (by decide)) (by rfl) (da_cons (dv 0) da_nil) (len_cons len_nil))) (da_cons (de_exf (j := 0) T.fam T.c_BadDeed T.xn_BadDeed_index (by decide) rfl (de_ex O_BadDeed T.c_BadDeed (hr.mono (by decide)) (by rfl) (da_cons (dv 0) da_nil) (len_cons len_nil))) (da_cons (de_exf (j := 1) T.fam T.c_Endless T.xn_Endless_bit (by decide) rfl (de_ex O_Endless T.c_Endless (hr.mono (by decide)) (by rfl) (da_cons (dv 0) (da_cons (dv 1) da_nil)) (len_cons (len_cons len_nil)))) (da_cons (de_exf (j := 0) T.fam T.c_TooMany T.xn_TooMany_limit (by decide) rfl (de_ex O_TooMany T.c_TooMany (hr.mono (by decide)) (by rfl) (da_cons (dv 0) da_nil) (len_cons len_nil))) da_nil)))))))
  (dss_cons (dset 2 scL_fields.nd (de_op op_cat opv_cat (dv 2) (de_lst (da_cons (de_exf (j := 0) T.fam T.c_Taken T.xn_Taken_frame (by decide) rfl (de_ex O_Taken T.c_Taken (hr.mono (by decide)) (by rfl) (da_cons (dv 0) da_nil) (len_cons len_nil))) (da_cons (de_exf (j := 1) T.fam T.c_BadEnd T.xn_BadEnd_part (by decide) rfl (de_exK O_BadEnd T.c_BadEnd (hr.mono (by decide)) (by rfl) (dk_cons (dv 1) (dk_cons (dv 0) dk_nil)))) (da_cons (de_exf (j := 1) T.fam T.c_BadFault T.xn_BadFault_bit (by decide) rfl (de_exK O_BadFault T.c_BadFault (hr.mono (by decide)) (by rfl) (dk_cons (dv 1) (dk_cons (dv 0) dk_nil)))) da_nil))))))
  (dss_cons (dset 2 scL_fields.nd (de_op op_cat opv_cat (dv 2) (de_lst (da_cons (de_exf (j := 1) T.fam T.c_Endless T.xn_Endless_bit (by decide) rfl (de_exK O_Endless T.c_Endless (hr.mono (by decide)) (by rfl) (dk_cons (dv 1) (dk_cons (dv 0) dk_nil)))) (da_cons (de_exf (j := 0) T.fam T.c_BadFrame T.xn_BadFrame_frame (by decide) rfl (de_exK O_BadFrame T.c_BadFrame (hr.mono (by decide)) (by rfl) (dk_cons (dv 0) dk_nil))) (da_cons (de_exf (j := 0) T.fam T.c_BadText T.xn_BadText_text (by decide) rfl (de_exK O_BadText T.c_BadText (hr.mono (by decide)) (by rfl) (dk_cons (dv 0) dk_nil))) da_nil))))))
  (dss_cons (dset 2 scL_fields.nd (de_op op_cat opv_cat (dv 2) (de_lst (da_cons (de_exf (j := 0) T.fam T.c_BadCommand T.xn_BadCommand_command (by decide) rfl (de_exK O_BadCommand T.c_BadCommand (hr.mono (by decide)) (by rfl) (dk_cons (dv 0) dk_nil))) (da_cons (de_exf (j := 0) T.fam T.c_NoPromise T.xn_NoPromise_promise (by decide) rfl (de_exK O_NoPromise T.c_NoPromise (hr.mono (by decide)) (by rfl) (dk_cons (dv 0) dk_nil))) (da_cons (de_exf (j := 0) T.fam T.c_Taken T.xn_Taken_frame (by decide) rfl (de_exK O_Taken T.c_Taken (hr.mono (by decide)) (by rfl) (dk_cons (dv 0) dk_nil))) da_nil))))))
  (dss_cons (dset 2 scL_fields.nd (de_op op_cat opv_cat (dv 2) (de_lst (da_cons (de_exf (j := 0) T.fam T.c_NoStation T.xn_NoStation_station (by decide) rfl (de_exK O_NoStation T.c_NoStation (hr.mono (by decide)) (by rfl) (dk_cons (dv 0) dk_nil))) (da_cons (de_exf (j := 0) T.fam T.c_NoName T.xn_NoName_name (by decide) rfl (de_exK O_NoName T.c_NoName (hr.mono (by decide)) (by rfl) (dk_cons (dv 0) dk_nil))) (da_cons (de_exf (j := 0) T.fam T.c_NoOutcome T.xn_NoOutcome_outcome (by decide) rfl (de_exK O_NoOutcome T.c_NoOutcome (hr.mono (by decide)) (by rfl) (dk_cons (dv 0) dk_nil))) da_nil))))))
  (dss_one (ds_retW (dn_op op_cat opn_cat (dv 2) (de_lst (da_cons (de_exf (j := 0) T.fam T.c_BadDeed T.xn_BadDeed_index (by decide) rfl (de_exK O_BadDeed T.c_BadDeed (hr.mono (by decide)) (by rfl) (dk_cons (dv 0) dk_nil))) (da_cons (de_exf (j := 0) T.fam T.c_TooMany T.xn_TooMany_limit (by decide) rfl (de_exK O_TooMany T.c_TooMany (hr.mono (by decide)) (by rfl) (dk_cons (dv 0) dk_nil))) da_nil)))))))))))))
def F_L_seconds : Ev Fl := (fSeq (fAsg (.nm 2) (fLst (fCons (fUn (oExF "BadEnd" 0) (fEx "BadEnd" (fCons (fVar 0) (fCons (fVar 1) fNil)))) (fCons (fUn (oExF "BadFault" 0) (fEx "BadFault" (fCons (fVar 0) (fCons (fVar 1) fNil)))) (fCons (fUn (oExF "Endless" 0) (fEx "Endless" (fCons (fVar 0) (fCons (fVar 1) fNil)))) fNil)))))
  (fSeq (fAsg (.nm 2) (fOp oCat (fVar 2) (fLst (fCons (fUn (oExF "BadEnd" 0) (fExK "BadEnd" 2 (fCons (fVar 1) (fCons (fVar 0) fNil)))) (fCons (fUn (oExF "BadFault" 0) (fExK "BadFault" 2 (fCons (fVar 1) (fCons (fVar 0) fNil)))) fNil)))))
  (fRetW (fOp oCat (fVar 2) (fLst (fCons (fUn (oExF "Endless" 0) (fExK "Endless" 2 (fCons (fVar 1) (fCons (fVar 0) fNil)))) fNil))))))
def Φ_L_seconds : List D → Res := fun ds => (runV [false, false] 3 F_L_seconds ds).quiet
theorem dv_L_seconds {ct : Ct} {f : Addr} {fd : FuncData} {f_BadEnd_i : Addr} {fd_BadEnd_i : FuncData} {f_BadFault_i : Addr} {fd_BadFault_i : FuncData} {f_Endless_i : Addr} {fd_Endless_i : FuncData} (T : Txt K mg ct) (O_BadEnd : OxU P w K mg base 1 "BadEnd" (cA ct "BadEnd") f_BadEnd_i fd_BadEnd_i ["self", "part", "row"] ["row", "part"] (spXI (cA ct "BadEnd") ["row", "part"])) (O_BadFault : OxU P w K mg base 1 "BadFault" (cA ct "BadFault") f_BadFault_i fd_BadFault_i ["self", "bit", "station"] ["station", "bit"] (spXI (cA ct "BadFault") ["station", "bit"])) (O_Endless : OxU P w K mg base 1 "Endless" (cA ct "Endless") f_Endless_i fd_Endless_i ["self", "bit", "ring"] ["ring", "bit"] (spXI (cA ct "Endless") ["ring", "bit"])) (F : Fun K "_law_seconds" "_law_seconds" sL_seconds f fd) : FnG P w K mg base CX0 3 f fd ["_law_one", "_law_other"] (spV K ct [false, false] Φ_L_seconds) :=
  okVg F scL_seconds rfl fun io cdv A out s H E hg hr hu66 => by
    have hu65 : (A.deeper (PyProof.Rows.envOfC "_law_seconds" (defScope sL_seconds) s.heap.objs.size f cdv)).units + 65 < cLine := by omega
    exact (dss_cons (dset 2 scL_seconds.nd (de_lst (da_cons (de_exf (j := 0) T.fam T.c_BadEnd T.xn_BadEnd_row (by decide) rfl (de_ex O_BadEnd T.c_BadEnd (hr.mono (by decide)) (by rfl) (da_cons (dv 0) (da_cons (dv 1) da_nil)) (len_cons (len_cons len_nil)))) (da_cons (de_exf (j := 0) T.fam T.c_BadFault T.xn_BadFault_station (by decide) rfl (de_ex O_BadFault T.c_BadFault (hr.mono (by decide)) (by rfl) (da_cons (dv 0) (da_cons (dv 1) da_nil)) (len_cons (len_cons len_nil)))) (da_cons (de_exf (j := 0) T.fam T.c_Endless T.xn_Endless_ring (by decide) rfl (de_ex O_Endless T.c_Endless (hr.mono (by decide)) (by rfl) (da_cons (dv 0) (da_cons (dv 1) da_nil)) (len_cons (len_cons len_nil)))) da_nil)))))
  (dss_cons (dset 2 scL_seconds.nd (de_op op_cat opv_cat (dv 2) (de_lst (da_cons (de_exf (j := 0) T.fam T.c_BadEnd T.xn_BadEnd_row (by decide) rfl (de_exK O_BadEnd T.c_BadEnd (hr.mono (by decide)) (by rfl) (dk_cons (dv 1) (dk_cons (dv 0) dk_nil)))) (da_cons (de_exf (j := 0) T.fam T.c_BadFault T.xn_BadFault_station (by decide) rfl (de_exK O_BadFault T.c_BadFault (hr.mono (by decide)) (by rfl) (dk_cons (dv 1) (dk_cons (dv 0) dk_nil)))) da_nil)))))
  (dss_one (ds_retW (dn_op op_cat opn_cat (dv 2) (de_lst (da_cons (de_exf (j := 0) T.fam T.c_Endless T.xn_Endless_ring (by decide) rfl (de_exK O_Endless T.c_Endless (hr.mono (by decide)) (by rfl) (dk_cons (dv 1) (dk_cons (dv 0) dk_nil)))) da_nil)))))))
def E_law_1 : Ev D := (fOp (oEqS false) (fVar 9) (fVar 6))
def B_law_1 : Ev Fl := (fIte (fOrT (fB (fOp (oEq true) (fCall [false] Φ_L_family [] (gCn (fVar 7) gNl)) (fComp (fRng1 (fCons (fC (.int 19)) fNil)) (.nm 9) fYes E_law_1 [9]))) (fB (fOp (oEqS true) (fCall [false] Φ_L_base [] (gCn (fVar 7) gNl)) (fVar 8)))) (fRet (fC (.bl false))) fNx)
def L_law_1 : Ev Fl := (fFor (fEnum (fCons (fCall [false, false] Φ_L_made [] (gCn (fVar 4) (gCn (fVar 5) gNl))) fNil)) (.tp [(.nm 6), (.tp [(.nm 7), (.nm 8)])]) B_law_1)
def H_law_1 : Ev Fl := L_law_1
def R_law_1 : Ev Fl := (fIte (fOrT (fB (fOp (oEqS true) (fCB (o1 oReprX) (fCons (fCall [false, false] Φ_L_fields [] (gCn (fVar 4) (gCn (fVar 5) gNl))) fNil)) (fCB (o1 oReprX) (fCons (fOp oRep (fLst (fCons (fVar 4) fNil)) (fC (.int 26))) fNil)))) (fB (fOp (oEqS true) (fCB (o1 oReprX) (fCons (fCall [false, false] Φ_L_seconds [] (gCn (fVar 4) (gCn (fVar 5) gNl))) fNil)) (fCB (o1 oReprX) (fCons (fOp oRep (fLst (fCons (fVar 5) fNil)) (fC (.int 6))) fNil))))) (fRet (fC (.bl false))) fNx)
def H_law_2 : Ev Fl := (fPar 4 5 (fCall [true] Φ_L_any [] (gIo 2 gNl)) (fCall [true] Φ_L_any [] (gIo 2 gNl)) false false)
def R_law_2 : Ev Fl := (fSeq H_law_1
  R_law_1)
def B_law_2 : Ev Fl := (fSeq H_law_2
  R_law_2)
def L_law_2 : Ev Fl := (fFor (fRng1 (fCons (fC (.int 3)) fNil)) (.nm 3) B_law_2)
def H_law_3 : Ev Fl := (fSetN 2 (fCallN [false, false] Φ_L_bag [] (gCn (fVar 0) (gCn (fVar 1) gNl))))
def R_law_3 : Ev Fl := L_law_2
def B_law_3 : Ev Fl := (fSeq H_law_3
  R_law_3)
def L_law_3 : Ev Fl := (fFor (fRng1 (fCons (fCB (o2 oMax) (fCons (fC (.int 1)) (fCons (fCB (o2 oMin) (fCons (fC (.int 3)) (fCons (fCB (o1 oLen) (fCons (fVar 0) fNil)) fNil))) fNil))) fNil)) (.nm 1) B_law_3)
def H_law_4 : Ev Fl := L_law_3
def R_law_4 : Ev Fl := (fRet (fC (.bl true)))
def F_law : Ev Fl := (fSeq H_law_4
  R_law_4)
def Φ_law : List D → Res := fun ds => (runV [false] 10 F_law ds).quiet
theorem dv_law {ct : Ct} {f : Addr} {fd : FuncData} {f_L_any : Addr} {fd_L_any : FuncData} {f_L_bag : Addr} {fd_L_bag : FuncData} {f_L_base : Addr} {fd_L_base : FuncData} {f_L_family : Addr} {fd_L_family : FuncData} {f_L_fields : Addr} {fd_L_fields : FuncData} {f_L_made : Addr} {fd_L_made : FuncData} {f_L_seconds : Addr} {fd_L_seconds : FuncData} (T : Txt K mg ct) (V__law_any : Vx P w K mg base 2 "_law_any" f_L_any fd_L_any ["_law_bag_here"] ct [true] Φ_L_any) (V__law_bag : Vx P w K mg base 1 "_law_bag" f_L_bag fd_L_bag ["_law_script", "_law_at"] ct [false, false] Φ_L_bag) (V__law_base : Vx P w K mg base 1 "_law_base" f_L_base fd_L_base ["_law_e"] ct [false] Φ_L_base) (V__law_family : Vx P w K mg base 1 "_law_family" f_L_family fd_L_family ["_law_e"] ct [false] Φ_L_family) (V__law_fields : Vx P w K mg base 3 "_law_fields" f_L_fields fd_L_fields ["_law_one", "_law_other"] ct [false, false] Φ_L_fields) (V__law_made : Vx P w K mg base 3 "_law_made" f_L_made fd_L_made ["_law_one", "_law_other"] ct [false, false] Φ_L_made) (V__law_seconds : Vx P w K mg base 3 "_law_seconds" f_L_seconds fd_L_seconds ["_law_one", "_law_other"] ct [false, false] Φ_L_seconds) (F : Fun K "law" "law" slaw f fd) : FnG P w K mg base CX0 4 f fd ["_law_script"] (spV K ct [false] Φ_law) :=
  okVg F sclaw rfl fun io cdv A out s H E hg hr hu66 => by
    have hu65 : (A.deeper (PyProof.Rows.envOfC "law" (defScope slaw) s.heap.objs.size f cdv)).units + 65 < cLine := by omega
    exact (dss_cons (ds_for PassesOwn.never rfl (di_rng1 (by rfl) T.b_range (da_cons (de_callB (call_max2 rfl) cv_max (by rfl) T.b_max (by decide +kernel) (da_cons de_int (da_cons (de_callB (call_min2 rfl) cv_min (by rfl) T.b_min (by decide +kernel) (da_cons de_int (da_cons (de_callB call_lenA cv_len (by rfl) T.b_len (by decide +kernel) (da_cons (dv 0) da_nil)) da_nil))) da_nil))) da_nil)) (dgn 1 sclaw.nd) (dss_cons (ds_new (i := 2) sclaw.nd rfl (by first | exact Or.inl rfl | exact Or.inr rfl) (dn_call V__law_bag.ok hg (hr.mono (by decide)) (by rfl) V__law_bag.mg V__law_bag.kp V__law_bag.bd .nil (fun _ => .nil) (E := E0v) pass0 zno_any (dai_cons (dv 0) (dai_cons (dv 1) dai_nil))))
  (dss_one (ds_for PassesOwn.never rfl (di_rng1 (by rfl) T.b_range (da_cons de_int da_nil)) (dgn 3 sclaw.nd) (dss_cons (ds_par (i := 4) (j := 5) rfl sclaw.nd rfl rfl (by decide) rfl rfl (DE.q (de_call V__law_any.ok hg (hr.mono (by decide)) (by rfl) V__law_any.mg V__law_any.kp V__law_any.bd .nil (fun _ => .nil) (E := E0v) pass0 zno_any (dio 2 dai_nil))) (DE.q (de_call V__law_any.ok hg (hr.mono (by decide)) (by rfl) V__law_any.mg V__law_any.kp V__law_any.bd .nil (fun _ => .nil) (E := E0v) pass0 zno_any (dio 2 dai_nil))) (hp := fun ha => ps_par rfl sclaw.nd rfl rfl (by decide) rfl rfl ha (by rfl)))
  (dss_cons (ds_for PassesOwn.never rfl (di_enum (by rfl) T.b_enumerate (da_cons (de_call V__law_made.ok hg (hr.mono (by decide)) (by rfl) V__law_made.mg V__law_made.kp V__law_made.bd .nil (fun _ => .nil) (E := E0v) pass0 zno_any (dai_cons (dv 4) (dai_cons (dv 5) dai_nil))) da_nil)) (dg_tup rfl (dgs_cons (dgn 6 sclaw.nd) (dgs_cons (dg_tup rfl (dgs_cons (dgn 7 sclaw.nd) (dgs_cons (dgn 8 sclaw.nd) dgs_nil))) dgs_nil))) (dss_one (ds_if (DW.dt (dw_or (dt_cmp (op_neD hr.units) opv_neD (de_call V__law_family.ok hg (hr.mono (by decide)) (by rfl) V__law_family.mg V__law_family.kp V__law_family.bd .nil (fun _ => .nil) (E := E0v) pass0 zno_any (dai_cons (dv 7) dai_nil)) (de_comp (own := [("_law_spot", 9)]) (Zb := ZNo) rfl sclaw.nd (di_rng1 (by rfl) T.b_range (da_cons de_int da_nil)) (blkOk_by (N := ["_law_script", "_law_k", "_law_bag_here", "_law_turn", "_law_one", "_law_other", "_law_at", "_law_e", "_law_base_here", "_law_spot"]) (own := [("_law_spot", 9)]) (sc := defScope slaw) (by decide +kernel)) (by rfl) (fun _ _ _ _ _ => (dgn 9 sclaw.nd)) (fun _ _ _ _ _ => dts_nil) (fun _ _ _ _ _ => (de_cmp op_eq opv_eqS (dv 9) (dv 6) (nomark _)))) (nomark _)) (dw_or1 (dt_cmp op_ne opv_neS (de_call V__law_base.ok hg (hr.mono (by decide)) (by rfl) V__law_base.mg V__law_base.kp V__law_base.bd .nil (fun _ => .nil) (E := E0v) pass0 zno_any (dai_cons (dv 7) dai_nil)) (dv 8) (nomark _))))) (dss_one (ds_ret de_bl)) dss_nil)))
  (dss_one (ds_if (DW.dt (dw_or (dt_cmp op_ne opv_neS (de_callB (call_reprX hg hu66) cv_reprX (by rfl) T.b_repr (by decide +kernel) (da_cons (de_call V__law_fields.ok hg (hr.mono (by decide)) (by rfl) V__law_fields.mg V__law_fields.kp V__law_fields.bd .nil (fun _ => .nil) (E := E0v) pass0 zno_any (dai_cons (dv 4) (dai_cons (dv 5) dai_nil))) da_nil)) (de_callB (call_reprX hg hu66) cv_reprX (by rfl) T.b_repr (by decide +kernel) (da_cons (de_op op_rep opv_rep (de_lst (da_cons (dv 4) da_nil)) de_int) da_nil)) (nomark _)) (dw_or1 (dt_cmp op_ne opv_neS (de_callB (call_reprX hg hu66) cv_reprX (by rfl) T.b_repr (by decide +kernel) (da_cons (de_call V__law_seconds.ok hg (hr.mono (by decide)) (by rfl) V__law_seconds.mg V__law_seconds.kp V__law_seconds.bd .nil (fun _ => .nil) (E := E0v) pass0 zno_any (dai_cons (dv 4) (dai_cons (dv 5) dai_nil))) da_nil)) (de_callB (call_reprX hg hu66) cv_reprX (by rfl) T.b_repr (by decide +kernel) (da_cons (de_op op_rep opv_rep (de_lst (da_cons (dv 5) da_nil)) de_int) da_nil)) (nomark _))))) (dss_one (ds_ret de_bl)) dss_nil))))))))
  (dss_one (ds_ret de_bl)))
end
end K08
set_option Elab.async false
set_option linter.all false
set_option maxRecDepth 100000
set_option maxHeartbeats 4000000
namespace Pg
open PySem L2 Sb Vl
end Pg
set_option Elab.async false
set_option linter.all false
set_option maxRecDepth 100000
set_option maxHeartbeats 2000000
namespace Vl
open PySem PySem.Spec PyProof.Rows L2 Sb
/-- what a law keeps -/
def spLawB (K : PySem.W.Frag) : Sp := fun vs H Q _ => ∃ (a : Addr) (ns : List Int), vs = [.ref a] ∧ SqL K H a (ns.map V.int) ∧ ns.length ≤ 63 ∧ ∀ H', Q (.bl true) H'
theorem _root_.Sb.FnG.imp {P : Program} {w : World} {K : PySem.W.Frag} {mg : Str → Option Value} {base : Heap} {CX : CXT} {k : Nat} {f : Addr} {fd : FuncData} {ps : List Str} {sp sp' : Sp} (F : FnG P w K mg base CX k f fd ps sp) (h : ∀ vs H Q E, sp' vs H Q E → sp vs H Q E) : FnG P w K mg base CX k f fd ps sp' :=
  ⟨fun vs H Q E q => F.size vs H Q E (h _ _ _ _ q), fun A st s H args us xs Q E hg hr he hb hv hs => F.go A st s H args us xs Q E hg hr he hb hv (h _ _ _ _ hs)⟩
theorem law_of {P : Program} {w : World} {K : PySem.W.Frag} {mg : Str → Option Value} {base : Heap} {CX : CXT} {k : Nat} {f : Addr} {fd : FuncData} {ps : List Str} {ct : Ct} {Φ : List D → Res} (F : FnG P w K mg base CX k f fd ps (spV K ct [false] Φ))
    (hΦ : ∀ ns : List Int, ns.length ≤ 63 → ∃ l, Φ [.scr ns] = .ret false (.bl true) l) : FnG P w K mg base CX k f fd ps (spLawB K) := F.imp fun vs H Q E h => by
  obtain ⟨a, ns, rfl, hS, hl, hq⟩ := h
  obtain ⟨l, e⟩ := hΦ ns hl
  have h0 : off (fun _ => False) H = H := off_none
  exact spV_use (S := fun _ => False) (ds := [.scr ns]) (fun _ z => z.elim) rfl (by rw [h0]; exact .one (.scr hS)) e fun v H' _ rv => by
    rw [rv.blE]
    exact hq H'
/-- an exception's __init__ of one field, of two -/
theorem spXI_one {C : Addr} {n : Str} {vs : List V} {H : Hp} {Q : VK} {E : XK} (h : spXI C [n] vs H Q E) : ∃ (a : Addr) (v : V), vs = [.ref a, v] ∧ H a = some (exo a C none) ∧ ∀ (H' : Hp) (d : Addr), H' a = some (exo a C (some d)) → H d = none → d ≠ a → H' d = some (exd d [(n, v)]) → (∀ b o, H b = some o → b ≠ a → H' b = some o) → Q .non H' := by
  obtain ⟨a, ws, rfl, hl, ha, k⟩ := h
  match ws, hl, k with
  | [v], _, k => exact ⟨a, v, rfl, ha, k⟩
theorem spXI_two {C : Addr} {n1 n2 : Str} {vs : List V} {H : Hp} {Q : VK} {E : XK} (h : spXI C [n2, n1] vs H Q E) : ∃ (a : Addr) (v1 v2 : V), vs = [.ref a, v1, v2] ∧ H a = some (exo a C none) ∧ ∀ (H' : Hp) (d : Addr), H' a = some (exo a C (some d)) → H d = none → d ≠ a → H' d = some (exd d [(n2, v2), (n1, v1)]) → (∀ b o, H b = some o → b ≠ a → H' b = some o) → Q .non H' := by
  obtain ⟨a, ws, rfl, hl, ha, k⟩ := h
  match ws, hl, k with
  | [v1, v2], _, k => exact ⟨a, v1, v2, rfl, ha, k⟩
end Vl
set_option Elab.async false
set_option linter.all false
set_option maxRecDepth 100000
set_option maxHeartbeats 1000000
namespace Vl
open PySem L2 Sb
/-- range(n) as it is walked -/
def rng1 (l : List D) (e : List Slot) : Out (List D) := match l with
  | [.int j] => if sm62 j then .val (rangeD 0 j.toNat) e else .stuck
  | _ => .stuck
theorem fRng1_app (fs : Ev (List D)) (env : List Slot) : fRng1 fs env = (fs env).bind rng1 := by
  have h : fRng1 = fun (fs : Ev (List D)) (env : List Slot) => (fs env).bind rng1 := by
    funext fs env
    rfl
  exact congrFun (congrFun h fs) env
theorem fRng1_one (f : Ev D) (env : List Slot) : fRng1 (fCons f fNil) env = (f env).bind fun d e => rng1 [d] e := by
  rw [fRng1_app]
  unfold fCons fNil
  cases h : f env <;> rfl
theorem rng1_nat {n : Nat} (hn : n ≤ 1000000) (e : List Slot) : rng1 [.int (n : Int)] e = .val (rangeD 0 n) e := by
  have c : sm62 (n : Int) = true := sm62_of (by omega) (by omega)
  simp only [rng1, if_pos c, Int.toNat_natCast]
section
variable (l m : List D) (i j : Int) (a b : Str) (p q : Bool) (ns : List Int) (ks : List Key) (env : List Slot)
theorem oLen_lst : oLen (.lst l) = some (.int (l.length : Int)) := rfl
theorem oLen_tup : oLen (.tup l) = some (.int (l.length : Int)) := rfl
theorem oLen_ctup : oLen (.ctup l) = some (.int (l.length : Int)) := rfl
theorem oLen_scr : oLen (.scr ns) = some (.int (ns.length : Int)) := rfl
theorem oIx_lst : oIx (.lst l) (.int i) = atI l i := rfl
theorem oIx_tup : oIx (.tup l) (.int i) = atI l i := rfl
theorem oIx_ctup : oIx (.ctup l) (.int i) = atI l i := rfl
theorem oIx_scr : oIx (.scr ns) (.int i) = (atI ns i).map D.int := rfl
theorem oInt_int : oInt (.int i) = some (.int i) := rfl
theorem oInt_bl : oInt (.bl p) = some (.int (if p then 1 else 0)) := rfl
theorem oAbs_int : oAbs (.int i) = some (.int (if i < 0 then -i else i)) := rfl
theorem oMax_int : oMax (.int i) (.int j) = some (.int (if j > i then j else i)) := rfl
theorem oMin_int : oMin (.int i) (.int j) = some (.int (if j < i then j else i)) := rfl
theorem oTuple_lst : oTuple (.lst l) = some (.tup l) := rfl
theorem oTuple_tup : oTuple (.tup l) = some (.tup l) := rfl
theorem oList_lst : oList (.lst l) = some (.lst l) := rfl
theorem oList_tup : oList (.tup l) = some (.lst l) := rfl
theorem oNeg_int : oNeg (.int i) = some (.int (-i)) := rfl
theorem ty_non : D.ty .non = some .non := rfl
theorem ty_bl : D.ty (.bl p) = some .bool := rfl
theorem ty_int : D.ty (.int i) = some .int := rfl
theorem ty_str : D.ty (.str a) = some .str := rfl
theorem ty_tup : D.ty (.tup l) = some .tuple := rfl
theorem ty_ctup : D.ty (.ctup l) = some .tuple := rfl
theorem ty_lst : D.ty (.lst l) = some .list := rfl
theorem ty_dk : D.ty (.dk ks l) = some .dict := rfl
theorem ty_scr : D.ty (.scr ns) = some .list := rfl
theorem tru_non : D.tru .non = some false := rfl
theorem tru_bl : D.tru (.bl p) = some p := rfl
theorem tru_int : D.tru (.int i) = some (i != 0) := rfl
theorem tru_lst : D.tru (.lst l) = some (!l.isEmpty) := rfl
theorem tru_tup : D.tru (.tup l) = some (!l.isEmpty) := rfl
theorem oEqS_int (neg : Bool) : oEqS neg (.int i) (.int j) = some (.bl (if neg then !decide (i = j) else decide (i = j))) := rfl
theorem oEqS_str (neg : Bool) : oEqS neg (.str a) (.str b) = some (.bl (if neg then !decide (a = b) else decide (a = b))) := rfl
theorem oEqS_bl (neg : Bool) : oEqS neg (.bl p) (.bl q) = some (.bl (if neg then !decide (p = q) else decide (p = q))) := rfl
theorem oCat_lst : oCat (.lst l) (.lst m) = if l.length + m.length ≤ sizeLine then some (.lst (l ++ m)) else none := rfl
theorem oCatA_tup : oCatA (.tup l) (.tup m) = if l.length + m.length ≤ sizeLine then some (.tup (l ++ m)) else none := rfl
theorem oSlT_tup (lo hi : Option Int) : oSlT (.tup l) lo hi = some (.tup (cutD l lo hi)) := rfl
theorem oSlL_lst (lo hi : Option Int) : oSlL (.lst l) lo hi = some (.lst (cutD l lo hi)) := rfl
theorem keyOf_int : keyOf (.int i) = some (.inl i) := rfl
theorem keyOf_str : keyOf (.str a) = some (.inr a) := rfl
theorem isNon_non : D.isNon .non = true := rfl
theorem isNon_bl : D.isNon (.bl p) = false := rfl
theorem isNon_int : D.isNon (.int i) = false := rfl
theorem isNon_str : D.isNon (.str a) = false := rfl
theorem isNon_tup : D.isNon (.tup l) = false := rfl
theorem isNon_lst : D.isNon (.lst l) = false := rfl
theorem oFld_ob (c : Str) (k : Nat) : oFld c k (.ob c l) = l[k]? := if_pos rfl
theorem isOb_ob' (c : Str) : D.isOb c (.ob c l) = true := decide_eq_true rfl
end
end Vl
set_option Elab.async false
set_option linter.all false
set_option maxRecDepth 100000
set_option maxHeartbeats 1000000
namespace Pg
open PySem L2 Sb Vl
local macro_rules | `(tactic| walk_at "ev") => `(tactic| simp only [Vl.runV, Vl.mkEnv, Vl.Res.of, Vl.Res.quiet, Vl.Res.val, Vl.ioAt, Vl.fSeq, Vl.fIte, Vl.fAsg, Vl.fVar, Vl.fC, Vl.fOp, Vl.fIxO, Vl.fPutL, Vl.fRet, Vl.fRetW, Vl.fRetO, Vl.fRetN, Vl.fLst, Vl.fTup, Vl.fB, Vl.fTru, Vl.fCB, Vl.fCons, Vl.fNil, Vl.o1, Vl.o2, Vl.oI, Vl.oIC, Vl.slotL, Vl.slotO, Vl.own, Vl.Pat.put, Vl.Pat.puts, Vl.Out.bind, Vl.Out.opt, Vl.fNx, Vl.fCt, Vl.fBk, Vl.fPar, Vl.fCall, Vl.fCallN, Vl.fCallL, Vl.fSetN, Vl.gIo, Vl.gCn, Vl.gNl, Vl.agDs, Vl.agD, Vl.ioSlots, Vl.putAll, Vl.put1, Vl.Ag.isIo, Vl.fAnd, Vl.fOr, Vl.fNot, Vl.fAndT, Vl.fOrT, Vl.fNotT, Vl.fChain, Vl.fIsi, Vl.fIsi2, Vl.fUn, Vl.fDrop, Vl.fApp, Vl.fLenO, Vl.fMake, Vl.fRaise, Vl.fFldS, Vl.fDInO, Vl.fDPutO, Vl.fDGetO, Vl.fPop, Vl.fListD, Vl.fDOne, Vl.fDNewK, Vl.isi, Vl.bOf, Vl.sOf, Vl.fFmt, Vl.fJs, Vl.oFmt, Vl.fM1, Vl.fM0, Vl.fFor, Vl.fItems, Vl.fEnum, Vl.fSl, Vl.fPart, Vl.fNoPart, Vl.fNeg, Vl.fAugI, Vl.fInO, Vl.fYes, Vl.fTruO, Vl.fComp, Vl.fCompO, Vl.calmE, Vl.wipeE, Vl.backE, Vl.oIsN, Vl.oStr, ↓Vl.fRng1_one, Vl.oLen_lst, Vl.oLen_tup, Vl.oLen_ctup, Vl.oLen_scr, Vl.oIx_lst, Vl.oIx_tup, Vl.oIx_ctup, Vl.oIx_scr, Vl.oInt_int, Vl.oInt_bl, Vl.oAbs_int, Vl.oMax_int, Vl.oMin_int, Vl.oTuple_lst, Vl.oTuple_tup, Vl.oList_lst, Vl.oList_tup, Vl.oNeg_int, Vl.ty_non, Vl.ty_bl, Vl.ty_int, Vl.ty_str, Vl.ty_tup, Vl.ty_ctup, Vl.ty_lst, Vl.ty_dk, Vl.ty_scr, Vl.tru_non, Vl.tru_bl, Vl.tru_int, Vl.tru_lst, Vl.tru_tup, Vl.oEqS_int, Vl.oEqS_str, Vl.oEqS_bl, Vl.oCat_lst, Vl.oCatA_tup, Vl.oSlT_tup, Vl.oSlL_lst, Vl.keyOf_int, Vl.keyOf_str, Vl.isNon_non, Vl.isNon_bl, Vl.isNon_int, Vl.isNon_str, Vl.isNon_tup, Vl.isNon_lst, Vl.oFld_ob, Vl.isOb_ob', Vl.atI_0, Vl.atI_1, Vl.atI_2, Vl.atI_3, Vl.ixN_0, Vl.ixN_1, Vl.ixN_2, List.zipWith, List.replicate, List.append, List.cons_append, List.nil_append, List.append_nil, List.getElem?_cons_zero, List.getElem?_cons_succ, List.getElem?_nil, List.set_cons_zero, List.set_cons_succ, List.length_cons, List.length_nil, List.map_cons, List.map_nil, List.nodup_cons, List.nodup_nil, List.not_mem_nil, List.reverse_cons, List.reverse_nil, Bool.false_eq_true, ite_true, ite_false, if_true, if_false, reduceIte, decide_true, decide_false, Bool.true_and, Bool.and_true, Bool.false_and, Bool.and_false, Bool.not_true, Bool.not_false, Bool.or_false, Bool.false_or, Bool.or_true, Bool.true_or, reduceCtorEq, not_false_eq_true, not_true_eq_false, and_self, and_true, true_and, or_false, or_true, Nat.reduceSub, Nat.reduceAdd, Nat.reduceLeDiff, Nat.zero_add, Option.map_some, Option.map_none, Option.bind_some, Option.bind_none, Option.isSome_some, Option.isSome_none, List.mem_cons, List.all_cons, List.all_nil, eq_self, Int.cast_ofNat_Int, Int.natCast_zero, Int.natCast_one, Int.reduceEq, Int.reduceLT, Int.reduceLE, Int.reduceAdd, Int.reduceSub, Int.reduceNeg, Nat.reduceEqDiff, *])
local macro_rules | `(tactic| walk_at "e0") => `(tactic| simp only [Vl.runV, Vl.mkEnv, Vl.Res.of, Vl.Res.quiet, Vl.Res.val, Vl.ioAt, Vl.fSeq, Vl.fIte, Vl.fAsg, Vl.fVar, Vl.fC, Vl.fOp, Vl.fIxO, Vl.fPutL, Vl.fRet, Vl.fRetW, Vl.fRetO, Vl.fRetN, Vl.fLst, Vl.fTup, Vl.fB, Vl.fTru, Vl.fCB, Vl.fCons, Vl.fNil, Vl.o1, Vl.o2, Vl.oI, Vl.oIC, Vl.slotL, Vl.slotO, Vl.own, Vl.Pat.put, Vl.Pat.puts, Vl.Out.bind, Vl.Out.opt, Vl.fNx, Vl.fCt, Vl.fBk, Vl.fPar, Vl.fCall, Vl.fCallN, Vl.fCallL, Vl.fSetN, Vl.gIo, Vl.gCn, Vl.gNl, Vl.agDs, Vl.agD, Vl.ioSlots, Vl.putAll, Vl.put1, Vl.Ag.isIo, Vl.fAnd, Vl.fOr, Vl.fNot, Vl.fAndT, Vl.fOrT, Vl.fNotT, Vl.fChain, Vl.fIsi, Vl.fIsi2, Vl.fUn, Vl.fDrop, Vl.fApp, Vl.fLenO, Vl.fMake, Vl.fRaise, Vl.fFldS, Vl.fDInO, Vl.fDPutO, Vl.fDGetO, Vl.fPop, Vl.fListD, Vl.fDOne, Vl.fDNewK, Vl.isi, Vl.bOf, Vl.sOf, Vl.fFmt, Vl.fJs, Vl.oFmt, Vl.fM1, Vl.fM0, Vl.fFor, Vl.fItems, Vl.fEnum, Vl.fSl, Vl.fPart, Vl.fNoPart, Vl.fNeg, Vl.fAugI, Vl.fInO, Vl.fYes, Vl.fTruO, Vl.fComp, Vl.fCompO, Vl.calmE, Vl.wipeE, Vl.backE, Vl.oIsN, Vl.oStr, ↓Vl.fRng1_one, Vl.oLen_lst, Vl.oLen_tup, Vl.oLen_ctup, Vl.oLen_scr, Vl.oIx_lst, Vl.oIx_tup, Vl.oIx_ctup, Vl.oIx_scr, Vl.oInt_int, Vl.oInt_bl, Vl.oAbs_int, Vl.oMax_int, Vl.oMin_int, Vl.oTuple_lst, Vl.oTuple_tup, Vl.oList_lst, Vl.oList_tup, Vl.oNeg_int, Vl.ty_non, Vl.ty_bl, Vl.ty_int, Vl.ty_str, Vl.ty_tup, Vl.ty_ctup, Vl.ty_lst, Vl.ty_dk, Vl.ty_scr, Vl.tru_non, Vl.tru_bl, Vl.tru_int, Vl.tru_lst, Vl.tru_tup, Vl.oEqS_int, Vl.oEqS_str, Vl.oEqS_bl, Vl.oCat_lst, Vl.oCatA_tup, Vl.oSlT_tup, Vl.oSlL_lst, Vl.keyOf_int, Vl.keyOf_str, Vl.isNon_non, Vl.isNon_bl, Vl.isNon_int, Vl.isNon_str, Vl.isNon_tup, Vl.isNon_lst, Vl.oFld_ob, Vl.isOb_ob', Vl.atI_0, Vl.atI_1, Vl.atI_2, Vl.atI_3, Vl.ixN_0, Vl.ixN_1, Vl.ixN_2, List.zipWith, List.replicate, List.append, List.cons_append, List.nil_append, List.append_nil, List.getElem?_cons_zero, List.getElem?_cons_succ, List.getElem?_nil, List.set_cons_zero, List.set_cons_succ, List.length_cons, List.length_nil, List.map_cons, List.map_nil, List.nodup_cons, List.nodup_nil, List.not_mem_nil, List.reverse_cons, List.reverse_nil, Bool.false_eq_true, ite_true, ite_false, if_true, if_false, reduceIte, decide_true, decide_false, Bool.true_and, Bool.and_true, Bool.false_and, Bool.and_false, Bool.not_true, Bool.not_false, Bool.or_false, Bool.false_or, Bool.or_true, Bool.true_or, reduceCtorEq, not_false_eq_true, not_true_eq_false, and_self, and_true, true_and, or_false, or_true, Nat.reduceSub, Nat.reduceAdd, Nat.reduceLeDiff, Nat.zero_add, Option.map_some, Option.map_none, Option.bind_some, Option.bind_none, Option.isSome_some, Option.isSome_none, List.mem_cons, List.all_cons, List.all_nil, eq_self, Int.cast_ofNat_Int, Int.natCast_zero, Int.natCast_one, Int.reduceEq, Int.reduceLT, Int.reduceLE, Int.reduceAdd, Int.reduceSub, Int.reduceNeg, Nat.reduceEqDiff])
def plD : Pl → D
  | .num n => .int (n : Int)
  | .word s => .str s
def rowD (r : Row) : D := .tup [.int (r.put : Int), plD r.a, plD r.b]
def rowsD (rs : List Row) : List D := rs.map rowD
/-- what may follow in a machine -/
def folD (d : D) (n : Int) (ws : List Str) : Bool := match d with
  | .str s => decide (s ∈ ws)
  | .int i => decide (0 ≤ i) && decide (i < n)
  | _ => false
/-- a value that may stand within a machine: its kind is known, and it can be compared -/
def D.fine (d : D) : Bool := d.ty.isSome && d.eok
def rowOkD (d : D) (n : Int) (ws : List Str) : Bool := match d with
  | .tup [.int p, a, b] => (decide (p = 0) || decide (p = 1)) && folD a n ws && folD b n ws
  | _ => false
end Pg
set_option Elab.async false
set_option linter.all false
set_option maxRecDepth 100000
set_option maxHeartbeats 1000000
namespace Vl
open PySem L2 Sb
end Vl
namespace Pg
open PySem L2 Sb Vl
local macro_rules | `(tactic| walk_at "ev") => `(tactic| simp only [Vl.runV, Vl.mkEnv, Vl.Res.of, Vl.Res.quiet, Vl.Res.val, Vl.ioAt, Vl.fSeq, Vl.fIte, Vl.fAsg, Vl.fVar, Vl.fC, Vl.fOp, Vl.fIxO, Vl.fPutL, Vl.fRet, Vl.fRetW, Vl.fRetO, Vl.fRetN, Vl.fLst, Vl.fTup, Vl.fB, Vl.fTru, Vl.fCB, Vl.fCons, Vl.fNil, Vl.o1, Vl.o2, Vl.oI, Vl.oIC, Vl.slotL, Vl.slotO, Vl.own, Vl.Pat.put, Vl.Pat.puts, Vl.Out.bind, Vl.Out.opt, Vl.fNx, Vl.fCt, Vl.fBk, Vl.fPar, Vl.fCall, Vl.fCallN, Vl.fCallL, Vl.fSetN, Vl.gIo, Vl.gCn, Vl.gNl, Vl.agDs, Vl.agD, Vl.ioSlots, Vl.putAll, Vl.put1, Vl.Ag.isIo, Vl.fAnd, Vl.fOr, Vl.fNot, Vl.fAndT, Vl.fOrT, Vl.fNotT, Vl.fChain, Vl.fIsi, Vl.fIsi2, Vl.fUn, Vl.fDrop, Vl.fApp, Vl.fLenO, Vl.fMake, Vl.fRaise, Vl.fFldS, Vl.fDInO, Vl.fDPutO, Vl.fDGetO, Vl.fPop, Vl.fListD, Vl.fDOne, Vl.fDNewK, Vl.isi, Vl.bOf, Vl.sOf, Vl.fFmt, Vl.fJs, Vl.oFmt, Vl.fM1, Vl.fM0, Vl.fFor, Vl.fItems, Vl.fEnum, Vl.fSl, Vl.fPart, Vl.fNoPart, Vl.fNeg, Vl.fAugI, Vl.fInO, Vl.fYes, Vl.fTruO, Vl.fComp, Vl.fCompO, Vl.calmE, Vl.wipeE, Vl.backE, Vl.oIsN, Vl.oStr, ↓Vl.fRng1_one, Vl.oLen_lst, Vl.oLen_tup, Vl.oLen_ctup, Vl.oLen_scr, Vl.oIx_lst, Vl.oIx_tup, Vl.oIx_ctup, Vl.oIx_scr, Vl.oInt_int, Vl.oInt_bl, Vl.oAbs_int, Vl.oMax_int, Vl.oMin_int, Vl.oTuple_lst, Vl.oTuple_tup, Vl.oList_lst, Vl.oList_tup, Vl.oNeg_int, Vl.ty_non, Vl.ty_bl, Vl.ty_int, Vl.ty_str, Vl.ty_tup, Vl.ty_ctup, Vl.ty_lst, Vl.ty_dk, Vl.ty_scr, Vl.tru_non, Vl.tru_bl, Vl.tru_int, Vl.tru_lst, Vl.tru_tup, Vl.oEqS_int, Vl.oEqS_str, Vl.oEqS_bl, Vl.oCat_lst, Vl.oCatA_tup, Vl.oSlT_tup, Vl.oSlL_lst, Vl.keyOf_int, Vl.keyOf_str, Vl.isNon_non, Vl.isNon_bl, Vl.isNon_int, Vl.isNon_str, Vl.isNon_tup, Vl.isNon_lst, Vl.oFld_ob, Vl.isOb_ob', Vl.atI_0, Vl.atI_1, Vl.atI_2, Vl.atI_3, Vl.ixN_0, Vl.ixN_1, Vl.ixN_2, List.zipWith, List.replicate, List.append, List.cons_append, List.nil_append, List.append_nil, List.getElem?_cons_zero, List.getElem?_cons_succ, List.getElem?_nil, List.set_cons_zero, List.set_cons_succ, List.length_cons, List.length_nil, List.map_cons, List.map_nil, List.nodup_cons, List.nodup_nil, List.not_mem_nil, List.reverse_cons, List.reverse_nil, Bool.false_eq_true, ite_true, ite_false, if_true, if_false, reduceIte, decide_true, decide_false, Bool.true_and, Bool.and_true, Bool.false_and, Bool.and_false, Bool.not_true, Bool.not_false, Bool.or_false, Bool.false_or, Bool.or_true, Bool.true_or, reduceCtorEq, not_false_eq_true, not_true_eq_false, and_self, and_true, true_and, or_false, or_true, Nat.reduceSub, Nat.reduceAdd, Nat.reduceLeDiff, Nat.zero_add, Option.map_some, Option.map_none, Option.bind_some, Option.bind_none, Option.isSome_some, Option.isSome_none, List.mem_cons, List.all_cons, List.all_nil, eq_self, Int.cast_ofNat_Int, Int.natCast_zero, Int.natCast_one, Int.reduceEq, Int.reduceLT, Int.reduceLE, Int.reduceAdd, Int.reduceSub, Int.reduceNeg, Nat.reduceEqDiff, *])
local macro_rules | `(tactic| walk_at "e0") => `(tactic| simp only [Vl.runV, Vl.mkEnv, Vl.Res.of, Vl.Res.quiet, Vl.Res.val, Vl.ioAt, Vl.fSeq, Vl.fIte, Vl.fAsg, Vl.fVar, Vl.fC, Vl.fOp, Vl.fIxO, Vl.fPutL, Vl.fRet, Vl.fRetW, Vl.fRetO, Vl.fRetN, Vl.fLst, Vl.fTup, Vl.fB, Vl.fTru, Vl.fCB, Vl.fCons, Vl.fNil, Vl.o1, Vl.o2, Vl.oI, Vl.oIC, Vl.slotL, Vl.slotO, Vl.own, Vl.Pat.put, Vl.Pat.puts, Vl.Out.bind, Vl.Out.opt, Vl.fNx, Vl.fCt, Vl.fBk, Vl.fPar, Vl.fCall, Vl.fCallN, Vl.fCallL, Vl.fSetN, Vl.gIo, Vl.gCn, Vl.gNl, Vl.agDs, Vl.agD, Vl.ioSlots, Vl.putAll, Vl.put1, Vl.Ag.isIo, Vl.fAnd, Vl.fOr, Vl.fNot, Vl.fAndT, Vl.fOrT, Vl.fNotT, Vl.fChain, Vl.fIsi, Vl.fIsi2, Vl.fUn, Vl.fDrop, Vl.fApp, Vl.fLenO, Vl.fMake, Vl.fRaise, Vl.fFldS, Vl.fDInO, Vl.fDPutO, Vl.fDGetO, Vl.fPop, Vl.fListD, Vl.fDOne, Vl.fDNewK, Vl.isi, Vl.bOf, Vl.sOf, Vl.fFmt, Vl.fJs, Vl.oFmt, Vl.fM1, Vl.fM0, Vl.fFor, Vl.fItems, Vl.fEnum, Vl.fSl, Vl.fPart, Vl.fNoPart, Vl.fNeg, Vl.fAugI, Vl.fInO, Vl.fYes, Vl.fTruO, Vl.fComp, Vl.fCompO, Vl.calmE, Vl.wipeE, Vl.backE, Vl.oIsN, Vl.oStr, ↓Vl.fRng1_one, Vl.oLen_lst, Vl.oLen_tup, Vl.oLen_ctup, Vl.oLen_scr, Vl.oIx_lst, Vl.oIx_tup, Vl.oIx_ctup, Vl.oIx_scr, Vl.oInt_int, Vl.oInt_bl, Vl.oAbs_int, Vl.oMax_int, Vl.oMin_int, Vl.oTuple_lst, Vl.oTuple_tup, Vl.oList_lst, Vl.oList_tup, Vl.oNeg_int, Vl.ty_non, Vl.ty_bl, Vl.ty_int, Vl.ty_str, Vl.ty_tup, Vl.ty_ctup, Vl.ty_lst, Vl.ty_dk, Vl.ty_scr, Vl.tru_non, Vl.tru_bl, Vl.tru_int, Vl.tru_lst, Vl.tru_tup, Vl.oEqS_int, Vl.oEqS_str, Vl.oEqS_bl, Vl.oCat_lst, Vl.oCatA_tup, Vl.oSlT_tup, Vl.oSlL_lst, Vl.keyOf_int, Vl.keyOf_str, Vl.isNon_non, Vl.isNon_bl, Vl.isNon_int, Vl.isNon_str, Vl.isNon_tup, Vl.isNon_lst, Vl.oFld_ob, Vl.isOb_ob', Vl.atI_0, Vl.atI_1, Vl.atI_2, Vl.atI_3, Vl.ixN_0, Vl.ixN_1, Vl.ixN_2, List.zipWith, List.replicate, List.append, List.cons_append, List.nil_append, List.append_nil, List.getElem?_cons_zero, List.getElem?_cons_succ, List.getElem?_nil, List.set_cons_zero, List.set_cons_succ, List.length_cons, List.length_nil, List.map_cons, List.map_nil, List.nodup_cons, List.nodup_nil, List.not_mem_nil, List.reverse_cons, List.reverse_nil, Bool.false_eq_true, ite_true, ite_false, if_true, if_false, reduceIte, decide_true, decide_false, Bool.true_and, Bool.and_true, Bool.false_and, Bool.and_false, Bool.not_true, Bool.not_false, Bool.or_false, Bool.false_or, Bool.or_true, Bool.true_or, reduceCtorEq, not_false_eq_true, not_true_eq_false, and_self, and_true, true_and, or_false, or_true, Nat.reduceSub, Nat.reduceAdd, Nat.reduceLeDiff, Nat.zero_add, Option.map_some, Option.map_none, Option.bind_some, Option.bind_none, Option.isSome_some, Option.isSome_none, List.mem_cons, List.all_cons, List.all_nil, eq_self, Int.cast_ofNat_Int, Int.natCast_zero, Int.natCast_one, Int.reduceEq, Int.reduceLT, Int.reduceLE, Int.reduceAdd, Int.reduceSub, Int.reduceNeg, Nat.reduceEqDiff])
/-- a list or a tuple of rows -/
def IsRows (m : D) (rs : List Row) : Prop := m = .lst (rowsD rs) ∨ m = .tup (rowsD rs)
theorem IsRows.len {m : D} {rs : List Row} (h : IsRows m rs) : oLen m = some (.int (rs.length : Int)) := by
  rcases h with rfl | rfl <;> simp [oLen, rowsD]
/-- where heard bits lead -/
def St (m : D) (b : Nat) (fs : List Pl) (as : List Nat) (env : List Slot) : Prop := ∃ l s4 s5, env = [.sh m, .sh (.int (b : Int)), .ow (.dk (fs.map Pl.key) l), .ow (.lst (as.map fun (i : Nat) => D.int (i : Int))), s4, s5] ∧ l.length = fs.length
end Pg
set_option Elab.async false
set_option linter.all false
set_option maxRecDepth 100000
set_option maxHeartbeats 1000000
namespace Pg
open PySem L2 Sb Vl
local macro_rules | `(tactic| walk_at "ev") => `(tactic| simp only [Vl.runV, Vl.mkEnv, Vl.Res.of, Vl.Res.quiet, Vl.Res.val, Vl.ioAt, Vl.fSeq, Vl.fIte, Vl.fAsg, Vl.fVar, Vl.fC, Vl.fOp, Vl.fIxO, Vl.fPutL, Vl.fRet, Vl.fRetW, Vl.fRetO, Vl.fRetN, Vl.fLst, Vl.fTup, Vl.fB, Vl.fTru, Vl.fCB, Vl.fCons, Vl.fNil, Vl.o1, Vl.o2, Vl.oI, Vl.oIC, Vl.slotL, Vl.slotO, Vl.own, Vl.Pat.put, Vl.Pat.puts, Vl.Out.bind, Vl.Out.opt, Vl.fNx, Vl.fCt, Vl.fBk, Vl.fPar, Vl.fCall, Vl.fCallN, Vl.fCallL, Vl.fSetN, Vl.gIo, Vl.gCn, Vl.gNl, Vl.agDs, Vl.agD, Vl.ioSlots, Vl.putAll, Vl.put1, Vl.Ag.isIo, Vl.fAnd, Vl.fOr, Vl.fNot, Vl.fAndT, Vl.fOrT, Vl.fNotT, Vl.fChain, Vl.fIsi, Vl.fIsi2, Vl.fUn, Vl.fDrop, Vl.fApp, Vl.fLenO, Vl.fMake, Vl.fRaise, Vl.fFldS, Vl.fDInO, Vl.fDPutO, Vl.fDGetO, Vl.fPop, Vl.fListD, Vl.fDOne, Vl.fDNewK, Vl.isi, Vl.bOf, Vl.sOf, Vl.fFmt, Vl.fJs, Vl.oFmt, Vl.fM1, Vl.fM0, Vl.fFor, Vl.fItems, Vl.fEnum, Vl.fSl, Vl.fPart, Vl.fNoPart, Vl.fNeg, Vl.fAugI, Vl.fInO, Vl.fYes, Vl.fTruO, Vl.fComp, Vl.fCompO, Vl.calmE, Vl.wipeE, Vl.backE, Vl.oIsN, Vl.oStr, ↓Vl.fRng1_one, Vl.oLen_lst, Vl.oLen_tup, Vl.oLen_ctup, Vl.oLen_scr, Vl.oIx_lst, Vl.oIx_tup, Vl.oIx_ctup, Vl.oIx_scr, Vl.oInt_int, Vl.oInt_bl, Vl.oAbs_int, Vl.oMax_int, Vl.oMin_int, Vl.oTuple_lst, Vl.oTuple_tup, Vl.oList_lst, Vl.oList_tup, Vl.oNeg_int, Vl.ty_non, Vl.ty_bl, Vl.ty_int, Vl.ty_str, Vl.ty_tup, Vl.ty_ctup, Vl.ty_lst, Vl.ty_dk, Vl.ty_scr, Vl.tru_non, Vl.tru_bl, Vl.tru_int, Vl.tru_lst, Vl.tru_tup, Vl.oEqS_int, Vl.oEqS_str, Vl.oEqS_bl, Vl.oCat_lst, Vl.oCatA_tup, Vl.oSlT_tup, Vl.oSlL_lst, Vl.keyOf_int, Vl.keyOf_str, Vl.isNon_non, Vl.isNon_bl, Vl.isNon_int, Vl.isNon_str, Vl.isNon_tup, Vl.isNon_lst, Vl.oFld_ob, Vl.isOb_ob', Vl.atI_0, Vl.atI_1, Vl.atI_2, Vl.atI_3, Vl.ixN_0, Vl.ixN_1, Vl.ixN_2, List.zipWith, List.replicate, List.append, List.cons_append, List.nil_append, List.append_nil, List.getElem?_cons_zero, List.getElem?_cons_succ, List.getElem?_nil, List.set_cons_zero, List.set_cons_succ, List.length_cons, List.length_nil, List.map_cons, List.map_nil, List.nodup_cons, List.nodup_nil, List.not_mem_nil, List.reverse_cons, List.reverse_nil, Bool.false_eq_true, ite_true, ite_false, if_true, if_false, reduceIte, decide_true, decide_false, Bool.true_and, Bool.and_true, Bool.false_and, Bool.and_false, Bool.not_true, Bool.not_false, Bool.or_false, Bool.false_or, Bool.or_true, Bool.true_or, reduceCtorEq, not_false_eq_true, not_true_eq_false, and_self, and_true, true_and, or_false, or_true, Nat.reduceSub, Nat.reduceAdd, Nat.reduceLeDiff, Nat.zero_add, Option.map_some, Option.map_none, Option.bind_some, Option.bind_none, Option.isSome_some, Option.isSome_none, List.mem_cons, List.all_cons, List.all_nil, eq_self, Int.cast_ofNat_Int, Int.natCast_zero, Int.natCast_one, Int.reduceEq, Int.reduceLT, Int.reduceLE, Int.reduceAdd, Int.reduceSub, Int.reduceNeg, Nat.reduceEqDiff, *])
local macro_rules | `(tactic| walk_at "e0") => `(tactic| simp only [Vl.runV, Vl.mkEnv, Vl.Res.of, Vl.Res.quiet, Vl.Res.val, Vl.ioAt, Vl.fSeq, Vl.fIte, Vl.fAsg, Vl.fVar, Vl.fC, Vl.fOp, Vl.fIxO, Vl.fPutL, Vl.fRet, Vl.fRetW, Vl.fRetO, Vl.fRetN, Vl.fLst, Vl.fTup, Vl.fB, Vl.fTru, Vl.fCB, Vl.fCons, Vl.fNil, Vl.o1, Vl.o2, Vl.oI, Vl.oIC, Vl.slotL, Vl.slotO, Vl.own, Vl.Pat.put, Vl.Pat.puts, Vl.Out.bind, Vl.Out.opt, Vl.fNx, Vl.fCt, Vl.fBk, Vl.fPar, Vl.fCall, Vl.fCallN, Vl.fCallL, Vl.fSetN, Vl.gIo, Vl.gCn, Vl.gNl, Vl.agDs, Vl.agD, Vl.ioSlots, Vl.putAll, Vl.put1, Vl.Ag.isIo, Vl.fAnd, Vl.fOr, Vl.fNot, Vl.fAndT, Vl.fOrT, Vl.fNotT, Vl.fChain, Vl.fIsi, Vl.fIsi2, Vl.fUn, Vl.fDrop, Vl.fApp, Vl.fLenO, Vl.fMake, Vl.fRaise, Vl.fFldS, Vl.fDInO, Vl.fDPutO, Vl.fDGetO, Vl.fPop, Vl.fListD, Vl.fDOne, Vl.fDNewK, Vl.isi, Vl.bOf, Vl.sOf, Vl.fFmt, Vl.fJs, Vl.oFmt, Vl.fM1, Vl.fM0, Vl.fFor, Vl.fItems, Vl.fEnum, Vl.fSl, Vl.fPart, Vl.fNoPart, Vl.fNeg, Vl.fAugI, Vl.fInO, Vl.fYes, Vl.fTruO, Vl.fComp, Vl.fCompO, Vl.calmE, Vl.wipeE, Vl.backE, Vl.oIsN, Vl.oStr, ↓Vl.fRng1_one, Vl.oLen_lst, Vl.oLen_tup, Vl.oLen_ctup, Vl.oLen_scr, Vl.oIx_lst, Vl.oIx_tup, Vl.oIx_ctup, Vl.oIx_scr, Vl.oInt_int, Vl.oInt_bl, Vl.oAbs_int, Vl.oMax_int, Vl.oMin_int, Vl.oTuple_lst, Vl.oTuple_tup, Vl.oList_lst, Vl.oList_tup, Vl.oNeg_int, Vl.ty_non, Vl.ty_bl, Vl.ty_int, Vl.ty_str, Vl.ty_tup, Vl.ty_ctup, Vl.ty_lst, Vl.ty_dk, Vl.ty_scr, Vl.tru_non, Vl.tru_bl, Vl.tru_int, Vl.tru_lst, Vl.tru_tup, Vl.oEqS_int, Vl.oEqS_str, Vl.oEqS_bl, Vl.oCat_lst, Vl.oCatA_tup, Vl.oSlT_tup, Vl.oSlL_lst, Vl.keyOf_int, Vl.keyOf_str, Vl.isNon_non, Vl.isNon_bl, Vl.isNon_int, Vl.isNon_str, Vl.isNon_tup, Vl.isNon_lst, Vl.oFld_ob, Vl.isOb_ob', Vl.atI_0, Vl.atI_1, Vl.atI_2, Vl.atI_3, Vl.ixN_0, Vl.ixN_1, Vl.ixN_2, List.zipWith, List.replicate, List.append, List.cons_append, List.nil_append, List.append_nil, List.getElem?_cons_zero, List.getElem?_cons_succ, List.getElem?_nil, List.set_cons_zero, List.set_cons_succ, List.length_cons, List.length_nil, List.map_cons, List.map_nil, List.nodup_cons, List.nodup_nil, List.not_mem_nil, List.reverse_cons, List.reverse_nil, Bool.false_eq_true, ite_true, ite_false, if_true, if_false, reduceIte, decide_true, decide_false, Bool.true_and, Bool.and_true, Bool.false_and, Bool.and_false, Bool.not_true, Bool.not_false, Bool.or_false, Bool.false_or, Bool.or_true, Bool.true_or, reduceCtorEq, not_false_eq_true, not_true_eq_false, and_self, and_true, true_and, or_false, or_true, Nat.reduceSub, Nat.reduceAdd, Nat.reduceLeDiff, Nat.zero_add, Option.map_some, Option.map_none, Option.bind_some, Option.bind_none, Option.isSome_some, Option.isSome_none, List.mem_cons, List.all_cons, List.all_nil, eq_self, Int.cast_ofNat_Int, Int.natCast_zero, Int.natCast_one, Int.reduceEq, Int.reduceLT, Int.reduceLE, Int.reduceAdd, Int.reduceSub, Int.reduceNeg, Nat.reduceEqDiff])
/-- data that can be compared, so many levels deep -/
def eokN (n : Nat) (d : D) : Prop := d.plain = true ∧ d.py.canLay0 = true ∧ d.py.depth ≤ n
theorem eokN.eok {n : Nat} {d : D} (h : eokN n d) (hn : n ≤ 64) : d.eok = true := by
  obtain ⟨h1, h2, h3⟩ := h
  unfold D.eok SeqAt.shaped
  rw [h1, h2, decide_eq_true (by omega)]
  rfl
theorem eokN.of {d : D} (h : d.eok = true) : eokN 64 d := by
  unfold D.eok SeqAt.shaped at h
  simp only [Bool.and_eq_true, decide_eq_true_eq] at h
  exact ⟨h.1, h.2.1, h.2.2⟩
theorem eokN.more {m n : Nat} {d : D} (h : eokN m d) (hn : m ≤ n) : eokN n d := ⟨h.1, h.2.1, Nat.le_trans h.2.2 hn⟩
theorem eokN_all {n : Nat} : ∀ {l : List D}, (∀ d, d ∈ l → eokN n d) → D.plainAll l = true ∧ PyData.canLayAll0 (D.pyAll l) = true ∧ PyData.depthAll (D.pyAll l) ≤ n
  | [], _ => ⟨rfl, by simp [D.pyAll, PyData.canLayAll0], by simp [D.pyAll, PyData.depthAll]⟩
  | d :: l, h => by
    obtain ⟨a1, a2, a3⟩ := h d (by simp)
    obtain ⟨b1, b2, b3⟩ := eokN_all (l := l) fun x hx => h x (List.mem_cons_of_mem _ hx)
    refine ⟨?_, ?_, ?_⟩
    · simp only [D.plainAll, a1, b1, Bool.and_self]
    · simp only [D.pyAll, PyData.canLayAll0, a2, b2, Bool.and_self]
    · simp only [D.pyAll, PyData.depthAll]
      omega
theorem eokN_tup {n : Nat} {l : List D} (h : ∀ d, d ∈ l → eokN n d) : eokN (n + 1) (.tup l) := by
  obtain ⟨h1, h2, h3⟩ := eokN_all h
  exact ⟨by simpa only [D.plain] using h1, by simpa only [D.py, PyData.canLay0] using h2, by simp only [D.py, PyData.depth]; omega⟩
theorem eokN_int (i : Int) : eokN 0 (.int i) := ⟨rfl, by simp [D.py, PyData.canLay0], by simp [D.py, PyData.depth]⟩
theorem eokN_bl (i : Bool) : eokN 0 (.bl i) := ⟨rfl, by simp [D.py, PyData.canLay0], by simp [D.py, PyData.depth]⟩
theorem eokN_non : eokN 0 .non := ⟨rfl, by simp [D.py, PyData.canLay0], by simp [D.py, PyData.depth]⟩
theorem eokN_str {s : Str} (h : PyData.strOk s = true) : eokN 0 (.str s) := ⟨rfl, by simpa [D.py, PyData.canLay0] using h, by simp [D.py, PyData.depth]⟩
end Pg
set_option Elab.async false
set_option linter.all false
set_option maxRecDepth 100000
set_option maxHeartbeats 1000000
namespace Pg
open PySem L2 Sb Vl
local macro_rules | `(tactic| walk_at "ev") => `(tactic| simp only [Vl.runV, Vl.mkEnv, Vl.Res.of, Vl.Res.quiet, Vl.Res.val, Vl.ioAt, Vl.fSeq, Vl.fIte, Vl.fAsg, Vl.fVar, Vl.fC, Vl.fOp, Vl.fIxO, Vl.fPutL, Vl.fRet, Vl.fRetW, Vl.fRetO, Vl.fRetN, Vl.fLst, Vl.fTup, Vl.fB, Vl.fTru, Vl.fCB, Vl.fCons, Vl.fNil, Vl.o1, Vl.o2, Vl.oI, Vl.oIC, Vl.slotL, Vl.slotO, Vl.own, Vl.Pat.put, Vl.Pat.puts, Vl.Out.bind, Vl.Out.opt, Vl.fNx, Vl.fCt, Vl.fBk, Vl.fPar, Vl.fCall, Vl.fCallN, Vl.fCallL, Vl.fSetN, Vl.gIo, Vl.gCn, Vl.gNl, Vl.agDs, Vl.agD, Vl.ioSlots, Vl.putAll, Vl.put1, Vl.Ag.isIo, Vl.fAnd, Vl.fOr, Vl.fNot, Vl.fAndT, Vl.fOrT, Vl.fNotT, Vl.fChain, Vl.fIsi, Vl.fIsi2, Vl.fUn, Vl.fDrop, Vl.fApp, Vl.fLenO, Vl.fMake, Vl.fRaise, Vl.fFldS, Vl.fDInO, Vl.fDPutO, Vl.fDGetO, Vl.fPop, Vl.fListD, Vl.fDOne, Vl.fDNewK, Vl.isi, Vl.bOf, Vl.sOf, Vl.fFmt, Vl.fJs, Vl.oFmt, Vl.fM1, Vl.fM0, Vl.fFor, Vl.fItems, Vl.fEnum, Vl.fSl, Vl.fPart, Vl.fNoPart, Vl.fNeg, Vl.fAugI, Vl.fInO, Vl.fYes, Vl.fTruO, Vl.fComp, Vl.fCompO, Vl.calmE, Vl.wipeE, Vl.backE, Vl.oIsN, Vl.oStr, ↓Vl.fRng1_one, Vl.oLen_lst, Vl.oLen_tup, Vl.oLen_ctup, Vl.oLen_scr, Vl.oIx_lst, Vl.oIx_tup, Vl.oIx_ctup, Vl.oIx_scr, Vl.oInt_int, Vl.oInt_bl, Vl.oAbs_int, Vl.oMax_int, Vl.oMin_int, Vl.oTuple_lst, Vl.oTuple_tup, Vl.oList_lst, Vl.oList_tup, Vl.oNeg_int, Vl.ty_non, Vl.ty_bl, Vl.ty_int, Vl.ty_str, Vl.ty_tup, Vl.ty_ctup, Vl.ty_lst, Vl.ty_dk, Vl.ty_scr, Vl.tru_non, Vl.tru_bl, Vl.tru_int, Vl.tru_lst, Vl.tru_tup, Vl.oEqS_int, Vl.oEqS_str, Vl.oEqS_bl, Vl.oCat_lst, Vl.oCatA_tup, Vl.oSlT_tup, Vl.oSlL_lst, Vl.keyOf_int, Vl.keyOf_str, Vl.isNon_non, Vl.isNon_bl, Vl.isNon_int, Vl.isNon_str, Vl.isNon_tup, Vl.isNon_lst, Vl.oFld_ob, Vl.isOb_ob', Vl.atI_0, Vl.atI_1, Vl.atI_2, Vl.atI_3, Vl.ixN_0, Vl.ixN_1, Vl.ixN_2, List.zipWith, List.replicate, List.append, List.cons_append, List.nil_append, List.append_nil, List.getElem?_cons_zero, List.getElem?_cons_succ, List.getElem?_nil, List.set_cons_zero, List.set_cons_succ, List.length_cons, List.length_nil, List.map_cons, List.map_nil, List.nodup_cons, List.nodup_nil, List.not_mem_nil, List.reverse_cons, List.reverse_nil, Bool.false_eq_true, ite_true, ite_false, if_true, if_false, reduceIte, decide_true, decide_false, Bool.true_and, Bool.and_true, Bool.false_and, Bool.and_false, Bool.not_true, Bool.not_false, Bool.or_false, Bool.false_or, Bool.or_true, Bool.true_or, reduceCtorEq, not_false_eq_true, not_true_eq_false, and_self, and_true, true_and, or_false, or_true, Nat.reduceSub, Nat.reduceAdd, Nat.reduceLeDiff, Nat.zero_add, Option.map_some, Option.map_none, Option.bind_some, Option.bind_none, Option.isSome_some, Option.isSome_none, List.mem_cons, List.all_cons, List.all_nil, eq_self, Int.cast_ofNat_Int, Int.natCast_zero, Int.natCast_one, Int.reduceEq, Int.reduceLT, Int.reduceLE, Int.reduceAdd, Int.reduceSub, Int.reduceNeg, Nat.reduceEqDiff, *])
local macro_rules | `(tactic| walk_at "e0") => `(tactic| simp only [Vl.runV, Vl.mkEnv, Vl.Res.of, Vl.Res.quiet, Vl.Res.val, Vl.ioAt, Vl.fSeq, Vl.fIte, Vl.fAsg, Vl.fVar, Vl.fC, Vl.fOp, Vl.fIxO, Vl.fPutL, Vl.fRet, Vl.fRetW, Vl.fRetO, Vl.fRetN, Vl.fLst, Vl.fTup, Vl.fB, Vl.fTru, Vl.fCB, Vl.fCons, Vl.fNil, Vl.o1, Vl.o2, Vl.oI, Vl.oIC, Vl.slotL, Vl.slotO, Vl.own, Vl.Pat.put, Vl.Pat.puts, Vl.Out.bind, Vl.Out.opt, Vl.fNx, Vl.fCt, Vl.fBk, Vl.fPar, Vl.fCall, Vl.fCallN, Vl.fCallL, Vl.fSetN, Vl.gIo, Vl.gCn, Vl.gNl, Vl.agDs, Vl.agD, Vl.ioSlots, Vl.putAll, Vl.put1, Vl.Ag.isIo, Vl.fAnd, Vl.fOr, Vl.fNot, Vl.fAndT, Vl.fOrT, Vl.fNotT, Vl.fChain, Vl.fIsi, Vl.fIsi2, Vl.fUn, Vl.fDrop, Vl.fApp, Vl.fLenO, Vl.fMake, Vl.fRaise, Vl.fFldS, Vl.fDInO, Vl.fDPutO, Vl.fDGetO, Vl.fPop, Vl.fListD, Vl.fDOne, Vl.fDNewK, Vl.isi, Vl.bOf, Vl.sOf, Vl.fFmt, Vl.fJs, Vl.oFmt, Vl.fM1, Vl.fM0, Vl.fFor, Vl.fItems, Vl.fEnum, Vl.fSl, Vl.fPart, Vl.fNoPart, Vl.fNeg, Vl.fAugI, Vl.fInO, Vl.fYes, Vl.fTruO, Vl.fComp, Vl.fCompO, Vl.calmE, Vl.wipeE, Vl.backE, Vl.oIsN, Vl.oStr, ↓Vl.fRng1_one, Vl.oLen_lst, Vl.oLen_tup, Vl.oLen_ctup, Vl.oLen_scr, Vl.oIx_lst, Vl.oIx_tup, Vl.oIx_ctup, Vl.oIx_scr, Vl.oInt_int, Vl.oInt_bl, Vl.oAbs_int, Vl.oMax_int, Vl.oMin_int, Vl.oTuple_lst, Vl.oTuple_tup, Vl.oList_lst, Vl.oList_tup, Vl.oNeg_int, Vl.ty_non, Vl.ty_bl, Vl.ty_int, Vl.ty_str, Vl.ty_tup, Vl.ty_ctup, Vl.ty_lst, Vl.ty_dk, Vl.ty_scr, Vl.tru_non, Vl.tru_bl, Vl.tru_int, Vl.tru_lst, Vl.tru_tup, Vl.oEqS_int, Vl.oEqS_str, Vl.oEqS_bl, Vl.oCat_lst, Vl.oCatA_tup, Vl.oSlT_tup, Vl.oSlL_lst, Vl.keyOf_int, Vl.keyOf_str, Vl.isNon_non, Vl.isNon_bl, Vl.isNon_int, Vl.isNon_str, Vl.isNon_tup, Vl.isNon_lst, Vl.oFld_ob, Vl.isOb_ob', Vl.atI_0, Vl.atI_1, Vl.atI_2, Vl.atI_3, Vl.ixN_0, Vl.ixN_1, Vl.ixN_2, List.zipWith, List.replicate, List.append, List.cons_append, List.nil_append, List.append_nil, List.getElem?_cons_zero, List.getElem?_cons_succ, List.getElem?_nil, List.set_cons_zero, List.set_cons_succ, List.length_cons, List.length_nil, List.map_cons, List.map_nil, List.nodup_cons, List.nodup_nil, List.not_mem_nil, List.reverse_cons, List.reverse_nil, Bool.false_eq_true, ite_true, ite_false, if_true, if_false, reduceIte, decide_true, decide_false, Bool.true_and, Bool.and_true, Bool.false_and, Bool.and_false, Bool.not_true, Bool.not_false, Bool.or_false, Bool.false_or, Bool.or_true, Bool.true_or, reduceCtorEq, not_false_eq_true, not_true_eq_false, and_self, and_true, true_and, or_false, or_true, Nat.reduceSub, Nat.reduceAdd, Nat.reduceLeDiff, Nat.zero_add, Option.map_some, Option.map_none, Option.bind_some, Option.bind_none, Option.isSome_some, Option.isSome_none, List.mem_cons, List.all_cons, List.all_nil, eq_self, Int.cast_ofNat_Int, Int.natCast_zero, Int.natCast_one, Int.reduceEq, Int.reduceLT, Int.reduceLE, Int.reduceAdd, Int.reduceSub, Int.reduceNeg, Nat.reduceEqDiff])
/-- a source of numbers -/
def BagA (k : Int) (d : D) : Prop := ∃ g m c : Int, d = .lst [.int g, .int m, .int c] ∧ 0 ≤ g ∧ 0 ≤ m ∧ m < 2 ^ 90 ∧ 0 ≤ c ∧ c ≤ k
theorem BagA.more {k k' : Int} {d : D} (h : BagA k d) (hk : k ≤ k') : BagA k' d := by
  obtain ⟨g, m, c, e, h1, h2, h3, h4, h5⟩ := h
  exact ⟨g, m, c, e, h1, h2, h3, h4, by omega⟩
theorem take_ok (k n : Int) (d : D) (hb : BagA k d) (hk : k < 1000000) (hn : 0 < n) (hn2 : n < 1073741824) : ∃ r d', Φ_L_take [d, .int n] = .ret false (.int r) [d', .non] ∧ BagA (k + 1) d' ∧ 0 ≤ r ∧ r < n := by
  obtain ⟨g, m, c, rfl, hg, hm, hm2, hc, hck⟩ := hb
  have a1 := divOk hn hn2
  by_cases h0 : 0 < g
  · refine ⟨g % n, .lst [.int (g / n), .int m, .int c], ?_, ⟨g / n, m, c, rfl, Int.ediv_nonneg hg (by omega), hm, hm2, hc, by omega⟩, Int.emod_nonneg _ (by omega), Int.emod_lt_of_pos _ hn⟩
    unfold Φ_L_take F_L_take
    walk_at "ev"
  · have p90 : (2 : Int) ^ 90 = 1237940039285380274899124224 := by decide
    rw [p90] at hm2
    have e2 : cMul 1000003 (c + 1) = true := cMulL (by decide)
    have e4 : cMul 179424673 (c + 1) = true := cMulL (by decide)
    have a4 := divOk (j := 4096) (by decide) (by decide)
    have e5 := powOk (i := m + 1000003 * (c + 1)) (j := 3) 91 (by
      have p91 : (2 : Int) ^ 91 = 2475880078570760549798248448 := by decide
      rw [p91]
      omega) (by decide) (by decide)
    have q0 := Int.emod_nonneg ((m + 1000003 * (c + 1)) ^ (3 : Int).toNat) (b := 2305843009213693921) (by decide)
    have q1 := Int.emod_lt_of_pos ((m + 1000003 * (c + 1)) ^ (3 : Int).toNat) (b := 2305843009213693921) (by decide)
    have e6 := powOk (i := (m + 1000003 * (c + 1)) ^ (3 : Int).toNat % 2305843009213693921 + 179424673 * (c + 1)) (j := 2) 63 (by
      have p63 : (2 : Int) ^ 63 = 9223372036854775808 := by decide
      rw [p63]
      omega) (by decide) (by decide)
    have z1 : decide ((0 : Int) < 2305843009213693921) = true := rfl
    have z2 : decide ((0 : Int) < 2305843009213693951) = true := rfl
    have q2 := Int.emod_nonneg (((m + 1000003 * (c + 1)) ^ (3 : Int).toNat % 2305843009213693921 + 179424673 * (c + 1)) ^ (2 : Int).toNat) (b := 2305843009213693951) (by decide)
    have h0' : decide (0 < g) = false := decide_eq_false h0
    have hn' : decide (0 < n) = true := decide_eq_true hn
    refine ⟨((m + 1000003 * (c + 1)) ^ (3 : Int).toNat % 2305843009213693921 + 179424673 * (c + 1)) ^ (2 : Int).toNat % 2305843009213693951 / 4096 % n, .lst [.int g, .int m, .int (c + 1)], ?_, ⟨_, _, _, rfl, hg, hm, by rw [p90]; exact hm2, by omega, by omega⟩, Int.emod_nonneg _ (by omega), Int.emod_lt_of_pos _ hn⟩
    rw [Bool.and_eq_true] at e5 e6
    replace e5 := e5.2
    replace e6 := e6.2
    clear q0 q1 q2 hm hm2 hc hck hg p90 hk hn2 z1 z2 a4
    unfold Φ_L_take F_L_take
    walk_at "ev"
end Pg
set_option Elab.async false
set_option linter.all false
set_option maxRecDepth 100000
set_option maxHeartbeats 1000000
namespace Pg
open PySem L2 Sb Vl
local macro_rules | `(tactic| walk_at "ev") => `(tactic| simp only [Vl.runV, Vl.mkEnv, Vl.Res.of, Vl.Res.quiet, Vl.Res.val, Vl.ioAt, Vl.fSeq, Vl.fIte, Vl.fAsg, Vl.fVar, Vl.fC, Vl.fOp, Vl.fIxO, Vl.fPutL, Vl.fRet, Vl.fRetW, Vl.fRetO, Vl.fRetN, Vl.fLst, Vl.fTup, Vl.fB, Vl.fTru, Vl.fCB, Vl.fCons, Vl.fNil, Vl.o1, Vl.o2, Vl.oI, Vl.oIC, Vl.slotL, Vl.slotO, Vl.own, Vl.Pat.put, Vl.Pat.puts, Vl.Out.bind, Vl.Out.opt, Vl.fNx, Vl.fCt, Vl.fBk, Vl.fPar, Vl.fCall, Vl.fCallN, Vl.fSetN, Vl.gIo, Vl.gCn, Vl.gNl, Vl.agDs, Vl.agD, Vl.ioSlots, Vl.putAll, Vl.put1, Vl.Ag.isIo, Vl.fAnd, Vl.fOr, Vl.fNot, Vl.fAndT, Vl.fOrT, Vl.fNotT, Vl.fChain, Vl.fIsi, Vl.fIsi2, Vl.fUn, Vl.fDrop, Vl.fApp, Vl.fLenO, Vl.fMake, Vl.fRaise, Vl.fFldS, Vl.fDInO, Vl.fDPutO, Vl.fDGetO, Vl.fPop, Vl.fListD, Vl.fDOne, Vl.fDNewK, Vl.isi, Vl.bOf, Vl.sOf, Vl.fFmt, Vl.fJs, Vl.oFmt, Vl.fM1, Vl.fM0, Vl.fFor, Vl.fItems, Vl.fEnum, Vl.fSl, Vl.fPart, Vl.fNoPart, Vl.fNeg, Vl.fAugI, Vl.fInO, Vl.fYes, Vl.fTruO, Vl.fComp, Vl.fCompO, Vl.calmE, Vl.wipeE, Vl.backE, Vl.oIsN, Vl.oStr, ↓Vl.fRng1_one, Vl.oLen_lst, Vl.oLen_tup, Vl.oLen_ctup, Vl.oLen_scr, Vl.oIx_lst, Vl.oIx_tup, Vl.oIx_ctup, Vl.oIx_scr, Vl.oInt_int, Vl.oInt_bl, Vl.oAbs_int, Vl.oMax_int, Vl.oMin_int, Vl.oTuple_lst, Vl.oTuple_tup, Vl.oList_lst, Vl.oList_tup, Vl.oNeg_int, Vl.ty_non, Vl.ty_bl, Vl.ty_int, Vl.ty_str, Vl.ty_tup, Vl.ty_ctup, Vl.ty_lst, Vl.ty_dk, Vl.ty_scr, Vl.tru_non, Vl.tru_bl, Vl.tru_int, Vl.tru_lst, Vl.tru_tup, Vl.oEqS_int, Vl.oEqS_str, Vl.oEqS_bl, Vl.oCat_lst, Vl.oCatA_tup, Vl.oSlT_tup, Vl.oSlL_lst, Vl.keyOf_int, Vl.keyOf_str, Vl.isNon_non, Vl.isNon_bl, Vl.isNon_int, Vl.isNon_str, Vl.isNon_tup, Vl.isNon_lst, Vl.oFld_ob, Vl.isOb_ob', Vl.atI_0, Vl.atI_1, Vl.atI_2, Vl.atI_3, Vl.ixN_0, Vl.ixN_1, Vl.ixN_2, List.zipWith, List.replicate, List.append, List.cons_append, List.nil_append, List.append_nil, List.getElem?_cons_zero, List.getElem?_cons_succ, List.getElem?_nil, List.set_cons_zero, List.set_cons_succ, List.length_cons, List.length_nil, List.map_cons, List.map_nil, List.nodup_cons, List.nodup_nil, List.not_mem_nil, List.reverse_cons, List.reverse_nil, Bool.false_eq_true, ite_true, ite_false, if_true, if_false, reduceIte, decide_true, decide_false, Bool.true_and, Bool.and_true, Bool.false_and, Bool.and_false, Bool.not_true, Bool.not_false, Bool.or_false, Bool.false_or, Bool.or_true, Bool.true_or, reduceCtorEq, not_false_eq_true, not_true_eq_false, and_self, and_true, true_and, or_false, or_true, Nat.reduceSub, Nat.reduceAdd, Nat.reduceLeDiff, Nat.zero_add, Option.map_some, Option.map_none, Option.bind_some, Option.bind_none, Option.isSome_some, Option.isSome_none, List.mem_cons, List.all_cons, List.all_nil, eq_self, Int.cast_ofNat_Int, Int.natCast_zero, Int.natCast_one, Int.reduceEq, Int.reduceLT, Int.reduceLE, Int.reduceAdd, Int.reduceSub, Int.reduceNeg, Nat.reduceEqDiff, *])
local macro_rules | `(tactic| walk_at "e0") => `(tactic| simp only [Vl.runV, Vl.mkEnv, Vl.Res.of, Vl.Res.quiet, Vl.Res.val, Vl.ioAt, Vl.fSeq, Vl.fIte, Vl.fAsg, Vl.fVar, Vl.fC, Vl.fOp, Vl.fIxO, Vl.fPutL, Vl.fRet, Vl.fRetW, Vl.fRetO, Vl.fRetN, Vl.fLst, Vl.fTup, Vl.fB, Vl.fTru, Vl.fCB, Vl.fCons, Vl.fNil, Vl.o1, Vl.o2, Vl.oI, Vl.oIC, Vl.slotL, Vl.slotO, Vl.own, Vl.Pat.put, Vl.Pat.puts, Vl.Out.bind, Vl.Out.opt, Vl.fNx, Vl.fCt, Vl.fBk, Vl.fPar, Vl.fCall, Vl.fCallN, Vl.fSetN, Vl.gIo, Vl.gCn, Vl.gNl, Vl.agDs, Vl.agD, Vl.ioSlots, Vl.putAll, Vl.put1, Vl.Ag.isIo, Vl.fAnd, Vl.fOr, Vl.fNot, Vl.fAndT, Vl.fOrT, Vl.fNotT, Vl.fChain, Vl.fIsi, Vl.fIsi2, Vl.fUn, Vl.fDrop, Vl.fApp, Vl.fLenO, Vl.fMake, Vl.fRaise, Vl.fFldS, Vl.fDInO, Vl.fDPutO, Vl.fDGetO, Vl.fPop, Vl.fListD, Vl.fDOne, Vl.fDNewK, Vl.isi, Vl.bOf, Vl.sOf, Vl.fFmt, Vl.fJs, Vl.oFmt, Vl.fM1, Vl.fM0, Vl.fFor, Vl.fItems, Vl.fEnum, Vl.fSl, Vl.fPart, Vl.fNoPart, Vl.fNeg, Vl.fAugI, Vl.fInO, Vl.fYes, Vl.fTruO, Vl.fComp, Vl.fCompO, Vl.calmE, Vl.wipeE, Vl.backE, Vl.oIsN, Vl.oStr, ↓Vl.fRng1_one, Vl.oLen_lst, Vl.oLen_tup, Vl.oLen_ctup, Vl.oLen_scr, Vl.oIx_lst, Vl.oIx_tup, Vl.oIx_ctup, Vl.oIx_scr, Vl.oInt_int, Vl.oInt_bl, Vl.oAbs_int, Vl.oMax_int, Vl.oMin_int, Vl.oTuple_lst, Vl.oTuple_tup, Vl.oList_lst, Vl.oList_tup, Vl.oNeg_int, Vl.ty_non, Vl.ty_bl, Vl.ty_int, Vl.ty_str, Vl.ty_tup, Vl.ty_ctup, Vl.ty_lst, Vl.ty_dk, Vl.ty_scr, Vl.tru_non, Vl.tru_bl, Vl.tru_int, Vl.tru_lst, Vl.tru_tup, Vl.oEqS_int, Vl.oEqS_str, Vl.oEqS_bl, Vl.oCat_lst, Vl.oCatA_tup, Vl.oSlT_tup, Vl.oSlL_lst, Vl.keyOf_int, Vl.keyOf_str, Vl.isNon_non, Vl.isNon_bl, Vl.isNon_int, Vl.isNon_str, Vl.isNon_tup, Vl.isNon_lst, Vl.oFld_ob, Vl.isOb_ob', Vl.atI_0, Vl.atI_1, Vl.atI_2, Vl.atI_3, Vl.ixN_0, Vl.ixN_1, Vl.ixN_2, List.zipWith, List.replicate, List.append, List.cons_append, List.nil_append, List.append_nil, List.getElem?_cons_zero, List.getElem?_cons_succ, List.getElem?_nil, List.set_cons_zero, List.set_cons_succ, List.length_cons, List.length_nil, List.map_cons, List.map_nil, List.nodup_cons, List.nodup_nil, List.not_mem_nil, List.reverse_cons, List.reverse_nil, Bool.false_eq_true, ite_true, ite_false, if_true, if_false, reduceIte, decide_true, decide_false, Bool.true_and, Bool.and_true, Bool.false_and, Bool.and_false, Bool.not_true, Bool.not_false, Bool.or_false, Bool.false_or, Bool.or_true, Bool.true_or, reduceCtorEq, not_false_eq_true, not_true_eq_false, and_self, and_true, true_and, or_false, or_true, Nat.reduceSub, Nat.reduceAdd, Nat.reduceLeDiff, Nat.zero_add, Option.map_some, Option.map_none, Option.bind_some, Option.bind_none, Option.isSome_some, Option.isSome_none, List.mem_cons, List.all_cons, List.all_nil, eq_self, Int.cast_ofNat_Int, Int.natCast_zero, Int.natCast_one, Int.reduceEq, Int.reduceLT, Int.reduceLE, Int.reduceAdd, Int.reduceSub, Int.reduceNeg, Nat.reduceEqDiff])
end Pg
set_option Elab.async false
set_option linter.all false
set_option maxRecDepth 100000
set_option maxHeartbeats 1000000
namespace Pg
open PySem L2 Sb Vl
local macro_rules | `(tactic| walk_at "ev") => `(tactic| simp only [Vl.runV, Vl.mkEnv, Vl.Res.of, Vl.Res.quiet, Vl.Res.val, Vl.ioAt, Vl.fSeq, Vl.fIte, Vl.fAsg, Vl.fVar, Vl.fC, Vl.fOp, Vl.fIxO, Vl.fPutL, Vl.fRet, Vl.fRetW, Vl.fRetO, Vl.fRetN, Vl.fLst, Vl.fTup, Vl.fB, Vl.fTru, Vl.fCB, Vl.fCons, Vl.fNil, Vl.o1, Vl.o2, Vl.oI, Vl.oIC, Vl.slotL, Vl.slotO, Vl.own, Vl.Pat.put, Vl.Pat.puts, Vl.Out.bind, Vl.Out.opt, Vl.fNx, Vl.fCt, Vl.fBk, Vl.fPar, Vl.fCall, Vl.fCallN, Vl.fSetN, Vl.gIo, Vl.gCn, Vl.gNl, Vl.agDs, Vl.agD, Vl.ioSlots, Vl.putAll, Vl.put1, Vl.Ag.isIo, Vl.fAnd, Vl.fOr, Vl.fNot, Vl.fAndT, Vl.fOrT, Vl.fNotT, Vl.fChain, Vl.fIsi, Vl.fIsi2, Vl.fUn, Vl.fDrop, Vl.fApp, Vl.fLenO, Vl.fMake, Vl.fRaise, Vl.fFldS, Vl.fDInO, Vl.fDPutO, Vl.fDGetO, Vl.fPop, Vl.fListD, Vl.fDOne, Vl.fDNewK, Vl.isi, Vl.bOf, Vl.sOf, Vl.fFmt, Vl.fJs, Vl.oFmt, Vl.fM1, Vl.fM0, Vl.fFor, Vl.fItems, Vl.fEnum, Vl.fSl, Vl.fPart, Vl.fNoPart, Vl.fNeg, Vl.fAugI, Vl.fInO, Vl.fYes, Vl.fTruO, Vl.fComp, Vl.fCompO, Vl.calmE, Vl.wipeE, Vl.backE, Vl.oIsN, Vl.oStr, ↓Vl.fRng1_one, Vl.oLen_lst, Vl.oLen_tup, Vl.oLen_ctup, Vl.oLen_scr, Vl.oIx_lst, Vl.oIx_tup, Vl.oIx_ctup, Vl.oIx_scr, Vl.oInt_int, Vl.oInt_bl, Vl.oAbs_int, Vl.oMax_int, Vl.oMin_int, Vl.oTuple_lst, Vl.oTuple_tup, Vl.oList_lst, Vl.oList_tup, Vl.oNeg_int, Vl.ty_non, Vl.ty_bl, Vl.ty_int, Vl.ty_str, Vl.ty_tup, Vl.ty_ctup, Vl.ty_lst, Vl.ty_dk, Vl.ty_scr, Vl.tru_non, Vl.tru_bl, Vl.tru_int, Vl.tru_lst, Vl.tru_tup, Vl.oEqS_int, Vl.oEqS_str, Vl.oEqS_bl, Vl.oCat_lst, Vl.oCatA_tup, Vl.oSlT_tup, Vl.oSlL_lst, Vl.keyOf_int, Vl.keyOf_str, Vl.isNon_non, Vl.isNon_bl, Vl.isNon_int, Vl.isNon_str, Vl.isNon_tup, Vl.isNon_lst, Vl.oFld_ob, Vl.isOb_ob', Vl.atI_0, Vl.atI_1, Vl.atI_2, Vl.atI_3, Vl.ixN_0, Vl.ixN_1, Vl.ixN_2, List.zipWith, List.replicate, List.append, List.cons_append, List.nil_append, List.append_nil, List.getElem?_cons_zero, List.getElem?_cons_succ, List.getElem?_nil, List.set_cons_zero, List.set_cons_succ, List.length_cons, List.length_nil, List.map_cons, List.map_nil, List.nodup_cons, List.nodup_nil, List.not_mem_nil, List.reverse_cons, List.reverse_nil, Bool.false_eq_true, ite_true, ite_false, if_true, if_false, reduceIte, decide_true, decide_false, Bool.true_and, Bool.and_true, Bool.false_and, Bool.and_false, Bool.not_true, Bool.not_false, Bool.or_false, Bool.false_or, Bool.or_true, Bool.true_or, reduceCtorEq, not_false_eq_true, not_true_eq_false, and_self, and_true, true_and, or_false, or_true, Nat.reduceSub, Nat.reduceAdd, Nat.reduceLeDiff, Nat.zero_add, Option.map_some, Option.map_none, Option.bind_some, Option.bind_none, Option.isSome_some, Option.isSome_none, List.mem_cons, List.all_cons, List.all_nil, eq_self, Int.cast_ofNat_Int, Int.natCast_zero, Int.natCast_one, Int.reduceEq, Int.reduceLT, Int.reduceLE, Int.reduceAdd, Int.reduceSub, Int.reduceNeg, Nat.reduceEqDiff, *])
local macro_rules | `(tactic| walk_at "e0") => `(tactic| simp only [Vl.runV, Vl.mkEnv, Vl.Res.of, Vl.Res.quiet, Vl.Res.val, Vl.ioAt, Vl.fSeq, Vl.fIte, Vl.fAsg, Vl.fVar, Vl.fC, Vl.fOp, Vl.fIxO, Vl.fPutL, Vl.fRet, Vl.fRetW, Vl.fRetO, Vl.fRetN, Vl.fLst, Vl.fTup, Vl.fB, Vl.fTru, Vl.fCB, Vl.fCons, Vl.fNil, Vl.o1, Vl.o2, Vl.oI, Vl.oIC, Vl.slotL, Vl.slotO, Vl.own, Vl.Pat.put, Vl.Pat.puts, Vl.Out.bind, Vl.Out.opt, Vl.fNx, Vl.fCt, Vl.fBk, Vl.fPar, Vl.fCall, Vl.fCallN, Vl.fSetN, Vl.gIo, Vl.gCn, Vl.gNl, Vl.agDs, Vl.agD, Vl.ioSlots, Vl.putAll, Vl.put1, Vl.Ag.isIo, Vl.fAnd, Vl.fOr, Vl.fNot, Vl.fAndT, Vl.fOrT, Vl.fNotT, Vl.fChain, Vl.fIsi, Vl.fIsi2, Vl.fUn, Vl.fDrop, Vl.fApp, Vl.fLenO, Vl.fMake, Vl.fRaise, Vl.fFldS, Vl.fDInO, Vl.fDPutO, Vl.fDGetO, Vl.fPop, Vl.fListD, Vl.fDOne, Vl.fDNewK, Vl.isi, Vl.bOf, Vl.sOf, Vl.fFmt, Vl.fJs, Vl.oFmt, Vl.fM1, Vl.fM0, Vl.fFor, Vl.fItems, Vl.fEnum, Vl.fSl, Vl.fPart, Vl.fNoPart, Vl.fNeg, Vl.fAugI, Vl.fInO, Vl.fYes, Vl.fTruO, Vl.fComp, Vl.fCompO, Vl.calmE, Vl.wipeE, Vl.backE, Vl.oIsN, Vl.oStr, ↓Vl.fRng1_one, Vl.oLen_lst, Vl.oLen_tup, Vl.oLen_ctup, Vl.oLen_scr, Vl.oIx_lst, Vl.oIx_tup, Vl.oIx_ctup, Vl.oIx_scr, Vl.oInt_int, Vl.oInt_bl, Vl.oAbs_int, Vl.oMax_int, Vl.oMin_int, Vl.oTuple_lst, Vl.oTuple_tup, Vl.oList_lst, Vl.oList_tup, Vl.oNeg_int, Vl.ty_non, Vl.ty_bl, Vl.ty_int, Vl.ty_str, Vl.ty_tup, Vl.ty_ctup, Vl.ty_lst, Vl.ty_dk, Vl.ty_scr, Vl.tru_non, Vl.tru_bl, Vl.tru_int, Vl.tru_lst, Vl.tru_tup, Vl.oEqS_int, Vl.oEqS_str, Vl.oEqS_bl, Vl.oCat_lst, Vl.oCatA_tup, Vl.oSlT_tup, Vl.oSlL_lst, Vl.keyOf_int, Vl.keyOf_str, Vl.isNon_non, Vl.isNon_bl, Vl.isNon_int, Vl.isNon_str, Vl.isNon_tup, Vl.isNon_lst, Vl.oFld_ob, Vl.isOb_ob', Vl.atI_0, Vl.atI_1, Vl.atI_2, Vl.atI_3, Vl.ixN_0, Vl.ixN_1, Vl.ixN_2, List.zipWith, List.replicate, List.append, List.cons_append, List.nil_append, List.append_nil, List.getElem?_cons_zero, List.getElem?_cons_succ, List.getElem?_nil, List.set_cons_zero, List.set_cons_succ, List.length_cons, List.length_nil, List.map_cons, List.map_nil, List.nodup_cons, List.nodup_nil, List.not_mem_nil, List.reverse_cons, List.reverse_nil, Bool.false_eq_true, ite_true, ite_false, if_true, if_false, reduceIte, decide_true, decide_false, Bool.true_and, Bool.and_true, Bool.false_and, Bool.and_false, Bool.not_true, Bool.not_false, Bool.or_false, Bool.false_or, Bool.or_true, Bool.true_or, reduceCtorEq, not_false_eq_true, not_true_eq_false, and_self, and_true, true_and, or_false, or_true, Nat.reduceSub, Nat.reduceAdd, Nat.reduceLeDiff, Nat.zero_add, Option.map_some, Option.map_none, Option.bind_some, Option.bind_none, Option.isSome_some, Option.isSome_none, List.mem_cons, List.all_cons, List.all_nil, eq_self, Int.cast_ofNat_Int, Int.natCast_zero, Int.natCast_one, Int.reduceEq, Int.reduceLT, Int.reduceLE, Int.reduceAdd, Int.reduceSub, Int.reduceNeg, Nat.reduceEqDiff])
end Pg
set_option Elab.async false
set_option linter.all false
set_option maxRecDepth 100000
set_option maxHeartbeats 1000000
namespace Pg
open PySem L2 Sb Vl
local macro_rules | `(tactic| walk_at "ev") => `(tactic| simp only [Vl.runV, Vl.mkEnv, Vl.Res.of, Vl.Res.quiet, Vl.Res.val, Vl.ioAt, Vl.fSeq, Vl.fIte, Vl.fAsg, Vl.fVar, Vl.fC, Vl.fOp, Vl.fIxO, Vl.fPutL, Vl.fRet, Vl.fRetW, Vl.fRetO, Vl.fRetN, Vl.fLst, Vl.fTup, Vl.fB, Vl.fTru, Vl.fCB, Vl.fCons, Vl.fNil, Vl.o1, Vl.o2, Vl.oI, Vl.oIC, Vl.slotL, Vl.slotO, Vl.own, Vl.Pat.put, Vl.Pat.puts, Vl.Out.bind, Vl.Out.opt, Vl.fNx, Vl.fCt, Vl.fBk, Vl.fPar, Vl.fCall, Vl.fCallN, Vl.fCallL, Vl.fSetN, Vl.gIo, Vl.gCn, Vl.gNl, Vl.agDs, Vl.agD, Vl.ioSlots, Vl.putAll, Vl.put1, Vl.Ag.isIo, Vl.fAnd, Vl.fOr, Vl.fNot, Vl.fAndT, Vl.fOrT, Vl.fNotT, Vl.fChain, Vl.fIsi, Vl.fIsi2, Vl.fUn, Vl.fDrop, Vl.fApp, Vl.fLenO, Vl.fMake, Vl.fRaise, Vl.fFldS, Vl.fDInO, Vl.fDPutO, Vl.fDGetO, Vl.fPop, Vl.fListD, Vl.fDOne, Vl.fDNewK, Vl.isi, Vl.bOf, Vl.sOf, Vl.fFmt, Vl.fJs, Vl.oFmt, Vl.fM1, Vl.fM0, Vl.fFor, Vl.fItems, Vl.fEnum, Vl.fSl, Vl.fPart, Vl.fNoPart, Vl.fNeg, Vl.fAugI, Vl.fInO, Vl.fYes, Vl.fTruO, Vl.fComp, Vl.fCompO, Vl.calmE, Vl.wipeE, Vl.backE, Vl.oIsN, Vl.oStr, ↓Vl.fRng1_one, Vl.oLen_lst, Vl.oLen_tup, Vl.oLen_ctup, Vl.oLen_scr, Vl.oIx_lst, Vl.oIx_tup, Vl.oIx_ctup, Vl.oIx_scr, Vl.oInt_int, Vl.oInt_bl, Vl.oAbs_int, Vl.oMax_int, Vl.oMin_int, Vl.oTuple_lst, Vl.oTuple_tup, Vl.oList_lst, Vl.oList_tup, Vl.oNeg_int, Vl.ty_non, Vl.ty_bl, Vl.ty_int, Vl.ty_str, Vl.ty_tup, Vl.ty_ctup, Vl.ty_lst, Vl.ty_dk, Vl.ty_scr, Vl.tru_non, Vl.tru_bl, Vl.tru_int, Vl.tru_lst, Vl.tru_tup, Vl.oEqS_int, Vl.oEqS_str, Vl.oEqS_bl, Vl.oCat_lst, Vl.oCatA_tup, Vl.oSlT_tup, Vl.oSlL_lst, Vl.keyOf_int, Vl.keyOf_str, Vl.isNon_non, Vl.isNon_bl, Vl.isNon_int, Vl.isNon_str, Vl.isNon_tup, Vl.isNon_lst, Vl.oFld_ob, Vl.isOb_ob', Vl.atI_0, Vl.atI_1, Vl.atI_2, Vl.atI_3, Vl.ixN_0, Vl.ixN_1, Vl.ixN_2, List.zipWith, List.replicate, List.append, List.cons_append, List.nil_append, List.append_nil, List.getElem?_cons_zero, List.getElem?_cons_succ, List.getElem?_nil, List.set_cons_zero, List.set_cons_succ, List.length_cons, List.length_nil, List.map_cons, List.map_nil, List.nodup_cons, List.nodup_nil, List.not_mem_nil, List.reverse_cons, List.reverse_nil, Bool.false_eq_true, ite_true, ite_false, if_true, if_false, reduceIte, decide_true, decide_false, Bool.true_and, Bool.and_true, Bool.false_and, Bool.and_false, Bool.not_true, Bool.not_false, Bool.or_false, Bool.false_or, Bool.or_true, Bool.true_or, reduceCtorEq, not_false_eq_true, not_true_eq_false, and_self, and_true, true_and, or_false, or_true, Nat.reduceSub, Nat.reduceAdd, Nat.reduceLeDiff, Nat.zero_add, Option.map_some, Option.map_none, Option.bind_some, Option.bind_none, Option.isSome_some, Option.isSome_none, List.mem_cons, List.all_cons, List.all_nil, eq_self, Int.cast_ofNat_Int, Int.natCast_zero, Int.natCast_one, Int.reduceEq, Int.reduceLT, Int.reduceLE, Int.reduceAdd, Int.reduceSub, Int.reduceNeg, Nat.reduceEqDiff, *])
local macro_rules | `(tactic| walk_at "e0") => `(tactic| simp only [Vl.runV, Vl.mkEnv, Vl.Res.of, Vl.Res.quiet, Vl.Res.val, Vl.ioAt, Vl.fSeq, Vl.fIte, Vl.fAsg, Vl.fVar, Vl.fC, Vl.fOp, Vl.fIxO, Vl.fPutL, Vl.fRet, Vl.fRetW, Vl.fRetO, Vl.fRetN, Vl.fLst, Vl.fTup, Vl.fB, Vl.fTru, Vl.fCB, Vl.fCons, Vl.fNil, Vl.o1, Vl.o2, Vl.oI, Vl.oIC, Vl.slotL, Vl.slotO, Vl.own, Vl.Pat.put, Vl.Pat.puts, Vl.Out.bind, Vl.Out.opt, Vl.fNx, Vl.fCt, Vl.fBk, Vl.fPar, Vl.fCall, Vl.fCallN, Vl.fCallL, Vl.fSetN, Vl.gIo, Vl.gCn, Vl.gNl, Vl.agDs, Vl.agD, Vl.ioSlots, Vl.putAll, Vl.put1, Vl.Ag.isIo, Vl.fAnd, Vl.fOr, Vl.fNot, Vl.fAndT, Vl.fOrT, Vl.fNotT, Vl.fChain, Vl.fIsi, Vl.fIsi2, Vl.fUn, Vl.fDrop, Vl.fApp, Vl.fLenO, Vl.fMake, Vl.fRaise, Vl.fFldS, Vl.fDInO, Vl.fDPutO, Vl.fDGetO, Vl.fPop, Vl.fListD, Vl.fDOne, Vl.fDNewK, Vl.isi, Vl.bOf, Vl.sOf, Vl.fFmt, Vl.fJs, Vl.oFmt, Vl.fM1, Vl.fM0, Vl.fFor, Vl.fItems, Vl.fEnum, Vl.fSl, Vl.fPart, Vl.fNoPart, Vl.fNeg, Vl.fAugI, Vl.fInO, Vl.fYes, Vl.fTruO, Vl.fComp, Vl.fCompO, Vl.calmE, Vl.wipeE, Vl.backE, Vl.oIsN, Vl.oStr, ↓Vl.fRng1_one, Vl.oLen_lst, Vl.oLen_tup, Vl.oLen_ctup, Vl.oLen_scr, Vl.oIx_lst, Vl.oIx_tup, Vl.oIx_ctup, Vl.oIx_scr, Vl.oInt_int, Vl.oInt_bl, Vl.oAbs_int, Vl.oMax_int, Vl.oMin_int, Vl.oTuple_lst, Vl.oTuple_tup, Vl.oList_lst, Vl.oList_tup, Vl.oNeg_int, Vl.ty_non, Vl.ty_bl, Vl.ty_int, Vl.ty_str, Vl.ty_tup, Vl.ty_ctup, Vl.ty_lst, Vl.ty_dk, Vl.ty_scr, Vl.tru_non, Vl.tru_bl, Vl.tru_int, Vl.tru_lst, Vl.tru_tup, Vl.oEqS_int, Vl.oEqS_str, Vl.oEqS_bl, Vl.oCat_lst, Vl.oCatA_tup, Vl.oSlT_tup, Vl.oSlL_lst, Vl.keyOf_int, Vl.keyOf_str, Vl.isNon_non, Vl.isNon_bl, Vl.isNon_int, Vl.isNon_str, Vl.isNon_tup, Vl.isNon_lst, Vl.oFld_ob, Vl.isOb_ob', Vl.atI_0, Vl.atI_1, Vl.atI_2, Vl.atI_3, Vl.ixN_0, Vl.ixN_1, Vl.ixN_2, List.zipWith, List.replicate, List.append, List.cons_append, List.nil_append, List.append_nil, List.getElem?_cons_zero, List.getElem?_cons_succ, List.getElem?_nil, List.set_cons_zero, List.set_cons_succ, List.length_cons, List.length_nil, List.map_cons, List.map_nil, List.nodup_cons, List.nodup_nil, List.not_mem_nil, List.reverse_cons, List.reverse_nil, Bool.false_eq_true, ite_true, ite_false, if_true, if_false, reduceIte, decide_true, decide_false, Bool.true_and, Bool.and_true, Bool.false_and, Bool.and_false, Bool.not_true, Bool.not_false, Bool.or_false, Bool.false_or, Bool.or_true, Bool.true_or, reduceCtorEq, not_false_eq_true, not_true_eq_false, and_self, and_true, true_and, or_false, or_true, Nat.reduceSub, Nat.reduceAdd, Nat.reduceLeDiff, Nat.zero_add, Option.map_some, Option.map_none, Option.bind_some, Option.bind_none, Option.isSome_some, Option.isSome_none, List.mem_cons, List.all_cons, List.all_nil, eq_self, Int.cast_ofNat_Int, Int.natCast_zero, Int.natCast_one, Int.reduceEq, Int.reduceLT, Int.reduceLE, Int.reduceAdd, Int.reduceSub, Int.reduceNeg, Nat.reduceEqDiff])
end Pg
set_option Elab.async false
set_option linter.all false
set_option maxRecDepth 100000
set_option maxHeartbeats 2000000
namespace Sb
open PySem PySem.Spec PyProof.Rows L2 TL
inductive At where
  | int (i : Int) | str (s : Str) | bl (b : Bool) | non
  deriving DecidableEq
def At.v : At → V
  | .int i => .int i
  | .str s => .str s
  | .bl b => .bl b
  | .non => .non
def At.d : At → PyData
  | .int i => .int i
  | .str s => .str s
  | .bl b => .bool b
  | .non => .none
def Pl.at : Pl → At
  | .num n => .int (n : Int)
  | .word s => .str s
def Row.ats (r : Row) : List At := [.int (r.put : Int), r.a.at, r.b.at]
/-- those that a law draws -/
def atoms : List At := [.int (-1), .int 0, .int 1, .int 2, .int 3, .int 4, .int 5, .int 6, .str "taken", .str "lost", .str "done", .str "again", .str "1", .bl true, .bl false, .non]
/-- the text of one -/
def At.t (a : At) : List Nat := (a.d.shown).cps.toList
end Sb
set_option Elab.async false
set_option linter.all false
set_option maxRecDepth 100000
set_option maxHeartbeats 1000000
namespace Pg
open PySem L2 Sb Vl
local macro_rules | `(tactic| walk_at "ev") => `(tactic| simp only [Vl.runV, Vl.mkEnv, Vl.Res.of, Vl.Res.quiet, Vl.Res.val, Vl.ioAt, Vl.fSeq, Vl.fIte, Vl.fAsg, Vl.fVar, Vl.fC, Vl.fOp, Vl.fIxO, Vl.fPutL, Vl.fRet, Vl.fRetW, Vl.fRetO, Vl.fRetN, Vl.fLst, Vl.fTup, Vl.fB, Vl.fTru, Vl.fCB, Vl.fCons, Vl.fNil, Vl.o1, Vl.o2, Vl.oI, Vl.oIC, Vl.slotL, Vl.slotO, Vl.own, Vl.Pat.put, Vl.Pat.puts, Vl.Out.bind, Vl.Out.opt, Vl.fNx, Vl.fCt, Vl.fBk, Vl.fPar, Vl.fCall, Vl.fCallN, Vl.fCallL, Vl.fSetN, Vl.gIo, Vl.gCn, Vl.gNl, Vl.agDs, Vl.agD, Vl.ioSlots, Vl.putAll, Vl.put1, Vl.Ag.isIo, Vl.fAnd, Vl.fOr, Vl.fNot, Vl.fAndT, Vl.fOrT, Vl.fNotT, Vl.fChain, Vl.fIsi, Vl.fIsi2, Vl.fUn, Vl.fDrop, Vl.fApp, Vl.fLenO, Vl.fMake, Vl.fRaise, Vl.fFldS, Vl.fDInO, Vl.fDPutO, Vl.fDGetO, Vl.fPop, Vl.fListD, Vl.fDOne, Vl.fDNewK, Vl.isi, Vl.bOf, Vl.sOf, Vl.fFmt, Vl.fJs, Vl.oFmt, Vl.fM1, Vl.fM0, Vl.fFor, Vl.fItems, Vl.fEnum, Vl.fSl, Vl.fPart, Vl.fNoPart, Vl.fNeg, Vl.fAugI, Vl.fInO, Vl.fYes, Vl.fTruO, Vl.fComp, Vl.fCompO, Vl.calmE, Vl.wipeE, Vl.backE, Vl.oIsN, Vl.oStr, ↓Vl.fRng1_one, Vl.oLen_lst, Vl.oLen_tup, Vl.oLen_ctup, Vl.oLen_scr, Vl.oIx_lst, Vl.oIx_tup, Vl.oIx_ctup, Vl.oIx_scr, Vl.oInt_int, Vl.oInt_bl, Vl.oAbs_int, Vl.oMax_int, Vl.oMin_int, Vl.oTuple_lst, Vl.oTuple_tup, Vl.oList_lst, Vl.oList_tup, Vl.oNeg_int, Vl.ty_non, Vl.ty_bl, Vl.ty_int, Vl.ty_str, Vl.ty_tup, Vl.ty_ctup, Vl.ty_lst, Vl.ty_dk, Vl.ty_scr, Vl.tru_non, Vl.tru_bl, Vl.tru_int, Vl.tru_lst, Vl.tru_tup, Vl.oEqS_int, Vl.oEqS_str, Vl.oEqS_bl, Vl.oCat_lst, Vl.oCatA_tup, Vl.oSlT_tup, Vl.oSlL_lst, Vl.keyOf_int, Vl.keyOf_str, Vl.isNon_non, Vl.isNon_bl, Vl.isNon_int, Vl.isNon_str, Vl.isNon_tup, Vl.isNon_lst, Vl.oFld_ob, Vl.isOb_ob', Vl.atI_0, Vl.atI_1, Vl.atI_2, Vl.atI_3, Vl.ixN_0, Vl.ixN_1, Vl.ixN_2, List.zipWith, List.replicate, List.append, List.cons_append, List.nil_append, List.append_nil, List.getElem?_cons_zero, List.getElem?_cons_succ, List.getElem?_nil, List.set_cons_zero, List.set_cons_succ, List.length_cons, List.length_nil, List.map_cons, List.map_nil, List.nodup_cons, List.nodup_nil, List.not_mem_nil, List.reverse_cons, List.reverse_nil, Bool.false_eq_true, ite_true, ite_false, if_true, if_false, reduceIte, decide_true, decide_false, Bool.true_and, Bool.and_true, Bool.false_and, Bool.and_false, Bool.not_true, Bool.not_false, Bool.or_false, Bool.false_or, Bool.or_true, Bool.true_or, reduceCtorEq, not_false_eq_true, not_true_eq_false, and_self, and_true, true_and, or_false, or_true, Nat.reduceSub, Nat.reduceAdd, Nat.reduceLeDiff, Nat.zero_add, Option.map_some, Option.map_none, Option.bind_some, Option.bind_none, Option.isSome_some, Option.isSome_none, List.mem_cons, List.all_cons, List.all_nil, eq_self, Int.cast_ofNat_Int, Int.natCast_zero, Int.natCast_one, Int.reduceEq, Int.reduceLT, Int.reduceLE, Int.reduceAdd, Int.reduceSub, Int.reduceNeg, Nat.reduceEqDiff, *])
local macro_rules | `(tactic| walk_at "e0") => `(tactic| simp only [Vl.runV, Vl.mkEnv, Vl.Res.of, Vl.Res.quiet, Vl.Res.val, Vl.ioAt, Vl.fSeq, Vl.fIte, Vl.fAsg, Vl.fVar, Vl.fC, Vl.fOp, Vl.fIxO, Vl.fPutL, Vl.fRet, Vl.fRetW, Vl.fRetO, Vl.fRetN, Vl.fLst, Vl.fTup, Vl.fB, Vl.fTru, Vl.fCB, Vl.fCons, Vl.fNil, Vl.o1, Vl.o2, Vl.oI, Vl.oIC, Vl.slotL, Vl.slotO, Vl.own, Vl.Pat.put, Vl.Pat.puts, Vl.Out.bind, Vl.Out.opt, Vl.fNx, Vl.fCt, Vl.fBk, Vl.fPar, Vl.fCall, Vl.fCallN, Vl.fCallL, Vl.fSetN, Vl.gIo, Vl.gCn, Vl.gNl, Vl.agDs, Vl.agD, Vl.ioSlots, Vl.putAll, Vl.put1, Vl.Ag.isIo, Vl.fAnd, Vl.fOr, Vl.fNot, Vl.fAndT, Vl.fOrT, Vl.fNotT, Vl.fChain, Vl.fIsi, Vl.fIsi2, Vl.fUn, Vl.fDrop, Vl.fApp, Vl.fLenO, Vl.fMake, Vl.fRaise, Vl.fFldS, Vl.fDInO, Vl.fDPutO, Vl.fDGetO, Vl.fPop, Vl.fListD, Vl.fDOne, Vl.fDNewK, Vl.isi, Vl.bOf, Vl.sOf, Vl.fFmt, Vl.fJs, Vl.oFmt, Vl.fM1, Vl.fM0, Vl.fFor, Vl.fItems, Vl.fEnum, Vl.fSl, Vl.fPart, Vl.fNoPart, Vl.fNeg, Vl.fAugI, Vl.fInO, Vl.fYes, Vl.fTruO, Vl.fComp, Vl.fCompO, Vl.calmE, Vl.wipeE, Vl.backE, Vl.oIsN, Vl.oStr, ↓Vl.fRng1_one, Vl.oLen_lst, Vl.oLen_tup, Vl.oLen_ctup, Vl.oLen_scr, Vl.oIx_lst, Vl.oIx_tup, Vl.oIx_ctup, Vl.oIx_scr, Vl.oInt_int, Vl.oInt_bl, Vl.oAbs_int, Vl.oMax_int, Vl.oMin_int, Vl.oTuple_lst, Vl.oTuple_tup, Vl.oList_lst, Vl.oList_tup, Vl.oNeg_int, Vl.ty_non, Vl.ty_bl, Vl.ty_int, Vl.ty_str, Vl.ty_tup, Vl.ty_ctup, Vl.ty_lst, Vl.ty_dk, Vl.ty_scr, Vl.tru_non, Vl.tru_bl, Vl.tru_int, Vl.tru_lst, Vl.tru_tup, Vl.oEqS_int, Vl.oEqS_str, Vl.oEqS_bl, Vl.oCat_lst, Vl.oCatA_tup, Vl.oSlT_tup, Vl.oSlL_lst, Vl.keyOf_int, Vl.keyOf_str, Vl.isNon_non, Vl.isNon_bl, Vl.isNon_int, Vl.isNon_str, Vl.isNon_tup, Vl.isNon_lst, Vl.oFld_ob, Vl.isOb_ob', Vl.atI_0, Vl.atI_1, Vl.atI_2, Vl.atI_3, Vl.ixN_0, Vl.ixN_1, Vl.ixN_2, List.zipWith, List.replicate, List.append, List.cons_append, List.nil_append, List.append_nil, List.getElem?_cons_zero, List.getElem?_cons_succ, List.getElem?_nil, List.set_cons_zero, List.set_cons_succ, List.length_cons, List.length_nil, List.map_cons, List.map_nil, List.nodup_cons, List.nodup_nil, List.not_mem_nil, List.reverse_cons, List.reverse_nil, Bool.false_eq_true, ite_true, ite_false, if_true, if_false, reduceIte, decide_true, decide_false, Bool.true_and, Bool.and_true, Bool.false_and, Bool.and_false, Bool.not_true, Bool.not_false, Bool.or_false, Bool.false_or, Bool.or_true, Bool.true_or, reduceCtorEq, not_false_eq_true, not_true_eq_false, and_self, and_true, true_and, or_false, or_true, Nat.reduceSub, Nat.reduceAdd, Nat.reduceLeDiff, Nat.zero_add, Option.map_some, Option.map_none, Option.bind_some, Option.bind_none, Option.isSome_some, Option.isSome_none, List.mem_cons, List.all_cons, List.all_nil, eq_self, Int.cast_ofNat_Int, Int.natCast_zero, Int.natCast_one, Int.reduceEq, Int.reduceLT, Int.reduceLE, Int.reduceAdd, Int.reduceSub, Int.reduceNeg, Nat.reduceEqDiff])
def atD : At → D
  | .int i => .int i
  | .str s => .str s
  | .bl b => .bl b
  | .non => .non
def okAt : At → Prop
  | .str s => PyData.strOk s = true
  | _ => True
def atsD (as : List At) : List D := as.map atD
theorem atD_eokN {a : At} (h : okAt a) : eokN 0 (atD a) := by
  cases a with
  | int i => exact eokN_int i
  | str s => exact eokN_str h
  | bl b => exact eokN_bl b
  | non => exact eokN_non
theorem plD_ats (p : Pl) : plD p = atD p.at := by cases p <;> rfl
theorem rowD_ats (r : Row) : rowD r = .tup (atsD r.ats) := by
  obtain ⟨p, a, b⟩ := r
  show D.tup [.int (p : Int), plD a, plD b] = _
  rw [plD_ats, plD_ats]
  rfl
theorem atsD_eokN {as : List At} (h : ∀ a, a ∈ as → okAt a) : eokN 1 (.tup (atsD as)) := eokN_tup fun d hd => by
  obtain ⟨a, ha, rfl⟩ := List.mem_map.mp hd
  exact atD_eokN (h a ha)
/-- what is looked for in an end -/
inductive Th where
  | t (as : List At) | l (as : List At) | n (r : Row)
def Th.is (x : Th) (r : Row) : Bool := match x with
  | .t as => decide (as = r.ats)
  | _ => false
def Th.Ok : Th → Prop
  | .t as => ∀ a, a ∈ as → okAt a
  | .l as => True
  | .n r => eokN 1 (rowD r)
end Pg
set_option Elab.async false
set_option linter.all false
set_option maxRecDepth 100000
set_option maxHeartbeats 1000000
namespace Pg
open PySem L2 Sb Vl
local macro_rules | `(tactic| walk_at "ev") => `(tactic| simp only [Vl.runV, Vl.mkEnv, Vl.Res.of, Vl.Res.quiet, Vl.Res.val, Vl.ioAt, Vl.fSeq, Vl.fIte, Vl.fAsg, Vl.fVar, Vl.fC, Vl.fOp, Vl.fIxO, Vl.fPutL, Vl.fRet, Vl.fRetW, Vl.fRetO, Vl.fRetN, Vl.fLst, Vl.fTup, Vl.fB, Vl.fTru, Vl.fCB, Vl.fCons, Vl.fNil, Vl.o1, Vl.o2, Vl.oI, Vl.oIC, Vl.slotL, Vl.slotO, Vl.own, Vl.Pat.put, Vl.Pat.puts, Vl.Out.bind, Vl.Out.opt, Vl.fNx, Vl.fCt, Vl.fBk, Vl.fPar, Vl.fCall, Vl.fCallN, Vl.fCallL, Vl.fSetN, Vl.gIo, Vl.gCn, Vl.gNl, Vl.agDs, Vl.agD, Vl.ioSlots, Vl.putAll, Vl.put1, Vl.Ag.isIo, Vl.fAnd, Vl.fOr, Vl.fNot, Vl.fAndT, Vl.fOrT, Vl.fNotT, Vl.fChain, Vl.fIsi, Vl.fIsi2, Vl.fUn, Vl.fDrop, Vl.fApp, Vl.fLenO, Vl.fMake, Vl.fRaise, Vl.fFldS, Vl.fDInO, Vl.fDPutO, Vl.fDGetO, Vl.fPop, Vl.fListD, Vl.fDOne, Vl.fDNewK, Vl.isi, Vl.bOf, Vl.sOf, Vl.fFmt, Vl.fJs, Vl.oFmt, Vl.fM1, Vl.fM0, Vl.fFor, Vl.fItems, Vl.fEnum, Vl.fSl, Vl.fPart, Vl.fNoPart, Vl.fNeg, Vl.fAugI, Vl.fInO, Vl.fYes, Vl.fTruO, Vl.fComp, Vl.fCompO, Vl.calmE, Vl.wipeE, Vl.backE, Vl.oIsN, Vl.oStr, ↓Vl.fRng1_one, Vl.oLen_lst, Vl.oLen_tup, Vl.oLen_ctup, Vl.oLen_scr, Vl.oIx_lst, Vl.oIx_tup, Vl.oIx_ctup, Vl.oIx_scr, Vl.oInt_int, Vl.oInt_bl, Vl.oAbs_int, Vl.oMax_int, Vl.oMin_int, Vl.oTuple_lst, Vl.oTuple_tup, Vl.oList_lst, Vl.oList_tup, Vl.oNeg_int, Vl.ty_non, Vl.ty_bl, Vl.ty_int, Vl.ty_str, Vl.ty_tup, Vl.ty_ctup, Vl.ty_lst, Vl.ty_dk, Vl.ty_scr, Vl.tru_non, Vl.tru_bl, Vl.tru_int, Vl.tru_lst, Vl.tru_tup, Vl.oEqS_int, Vl.oEqS_str, Vl.oEqS_bl, Vl.oCat_lst, Vl.oCatA_tup, Vl.oSlT_tup, Vl.oSlL_lst, Vl.keyOf_int, Vl.keyOf_str, Vl.isNon_non, Vl.isNon_bl, Vl.isNon_int, Vl.isNon_str, Vl.isNon_tup, Vl.isNon_lst, Vl.oFld_ob, Vl.isOb_ob', Vl.atI_0, Vl.atI_1, Vl.atI_2, Vl.atI_3, Vl.ixN_0, Vl.ixN_1, Vl.ixN_2, List.zipWith, List.replicate, List.append, List.cons_append, List.nil_append, List.append_nil, List.getElem?_cons_zero, List.getElem?_cons_succ, List.getElem?_nil, List.set_cons_zero, List.set_cons_succ, List.length_cons, List.length_nil, List.map_cons, List.map_nil, List.nodup_cons, List.nodup_nil, List.not_mem_nil, List.reverse_cons, List.reverse_nil, Bool.false_eq_true, ite_true, ite_false, if_true, if_false, reduceIte, decide_true, decide_false, Bool.true_and, Bool.and_true, Bool.false_and, Bool.and_false, Bool.not_true, Bool.not_false, Bool.or_false, Bool.false_or, Bool.or_true, Bool.true_or, reduceCtorEq, not_false_eq_true, not_true_eq_false, and_self, and_true, true_and, or_false, or_true, Nat.reduceSub, Nat.reduceAdd, Nat.reduceLeDiff, Nat.zero_add, Option.map_some, Option.map_none, Option.bind_some, Option.bind_none, Option.isSome_some, Option.isSome_none, List.mem_cons, List.all_cons, List.all_nil, eq_self, Int.cast_ofNat_Int, Int.natCast_zero, Int.natCast_one, Int.reduceEq, Int.reduceLT, Int.reduceLE, Int.reduceAdd, Int.reduceSub, Int.reduceNeg, Nat.reduceEqDiff, *])
local macro_rules | `(tactic| walk_at "e0") => `(tactic| simp only [Vl.runV, Vl.mkEnv, Vl.Res.of, Vl.Res.quiet, Vl.Res.val, Vl.ioAt, Vl.fSeq, Vl.fIte, Vl.fAsg, Vl.fVar, Vl.fC, Vl.fOp, Vl.fIxO, Vl.fPutL, Vl.fRet, Vl.fRetW, Vl.fRetO, Vl.fRetN, Vl.fLst, Vl.fTup, Vl.fB, Vl.fTru, Vl.fCB, Vl.fCons, Vl.fNil, Vl.o1, Vl.o2, Vl.oI, Vl.oIC, Vl.slotL, Vl.slotO, Vl.own, Vl.Pat.put, Vl.Pat.puts, Vl.Out.bind, Vl.Out.opt, Vl.fNx, Vl.fCt, Vl.fBk, Vl.fPar, Vl.fCall, Vl.fCallN, Vl.fCallL, Vl.fSetN, Vl.gIo, Vl.gCn, Vl.gNl, Vl.agDs, Vl.agD, Vl.ioSlots, Vl.putAll, Vl.put1, Vl.Ag.isIo, Vl.fAnd, Vl.fOr, Vl.fNot, Vl.fAndT, Vl.fOrT, Vl.fNotT, Vl.fChain, Vl.fIsi, Vl.fIsi2, Vl.fUn, Vl.fDrop, Vl.fApp, Vl.fLenO, Vl.fMake, Vl.fRaise, Vl.fFldS, Vl.fDInO, Vl.fDPutO, Vl.fDGetO, Vl.fPop, Vl.fListD, Vl.fDOne, Vl.fDNewK, Vl.isi, Vl.bOf, Vl.sOf, Vl.fFmt, Vl.fJs, Vl.oFmt, Vl.fM1, Vl.fM0, Vl.fFor, Vl.fItems, Vl.fEnum, Vl.fSl, Vl.fPart, Vl.fNoPart, Vl.fNeg, Vl.fAugI, Vl.fInO, Vl.fYes, Vl.fTruO, Vl.fComp, Vl.fCompO, Vl.calmE, Vl.wipeE, Vl.backE, Vl.oIsN, Vl.oStr, ↓Vl.fRng1_one, Vl.oLen_lst, Vl.oLen_tup, Vl.oLen_ctup, Vl.oLen_scr, Vl.oIx_lst, Vl.oIx_tup, Vl.oIx_ctup, Vl.oIx_scr, Vl.oInt_int, Vl.oInt_bl, Vl.oAbs_int, Vl.oMax_int, Vl.oMin_int, Vl.oTuple_lst, Vl.oTuple_tup, Vl.oList_lst, Vl.oList_tup, Vl.oNeg_int, Vl.ty_non, Vl.ty_bl, Vl.ty_int, Vl.ty_str, Vl.ty_tup, Vl.ty_ctup, Vl.ty_lst, Vl.ty_dk, Vl.ty_scr, Vl.tru_non, Vl.tru_bl, Vl.tru_int, Vl.tru_lst, Vl.tru_tup, Vl.oEqS_int, Vl.oEqS_str, Vl.oEqS_bl, Vl.oCat_lst, Vl.oCatA_tup, Vl.oSlT_tup, Vl.oSlL_lst, Vl.keyOf_int, Vl.keyOf_str, Vl.isNon_non, Vl.isNon_bl, Vl.isNon_int, Vl.isNon_str, Vl.isNon_tup, Vl.isNon_lst, Vl.oFld_ob, Vl.isOb_ob', Vl.atI_0, Vl.atI_1, Vl.atI_2, Vl.atI_3, Vl.ixN_0, Vl.ixN_1, Vl.ixN_2, List.zipWith, List.replicate, List.append, List.cons_append, List.nil_append, List.append_nil, List.getElem?_cons_zero, List.getElem?_cons_succ, List.getElem?_nil, List.set_cons_zero, List.set_cons_succ, List.length_cons, List.length_nil, List.map_cons, List.map_nil, List.nodup_cons, List.nodup_nil, List.not_mem_nil, List.reverse_cons, List.reverse_nil, Bool.false_eq_true, ite_true, ite_false, if_true, if_false, reduceIte, decide_true, decide_false, Bool.true_and, Bool.and_true, Bool.false_and, Bool.and_false, Bool.not_true, Bool.not_false, Bool.or_false, Bool.false_or, Bool.or_true, Bool.true_or, reduceCtorEq, not_false_eq_true, not_true_eq_false, and_self, and_true, true_and, or_false, or_true, Nat.reduceSub, Nat.reduceAdd, Nat.reduceLeDiff, Nat.zero_add, Option.map_some, Option.map_none, Option.bind_some, Option.bind_none, Option.isSome_some, Option.isSome_none, List.mem_cons, List.all_cons, List.all_nil, eq_self, Int.cast_ofNat_Int, Int.natCast_zero, Int.natCast_one, Int.reduceEq, Int.reduceLT, Int.reduceLE, Int.reduceAdd, Int.reduceSub, Int.reduceNeg, Nat.reduceEqDiff])
end Pg
set_option Elab.async false
set_option linter.all false
set_option maxRecDepth 100000
set_option maxHeartbeats 1000000
namespace Pg
open PySem L2 Sb Vl TL
local macro_rules | `(tactic| walk_at "ev") => `(tactic| simp only [Vl.runV, Vl.mkEnv, Vl.Res.of, Vl.Res.quiet, Vl.Res.val, Vl.ioAt, Vl.fSeq, Vl.fIte, Vl.fAsg, Vl.fVar, Vl.fC, Vl.fOp, Vl.fIxO, Vl.fPutL, Vl.fRet, Vl.fRetW, Vl.fRetO, Vl.fRetN, Vl.fLst, Vl.fTup, Vl.fB, Vl.fTru, Vl.fCB, Vl.fCons, Vl.fNil, Vl.o1, Vl.o2, Vl.oI, Vl.oIC, Vl.slotL, Vl.slotO, Vl.own, Vl.Pat.put, Vl.Pat.puts, Vl.Out.bind, Vl.Out.opt, Vl.fNx, Vl.fCt, Vl.fBk, Vl.fPar, Vl.fCall, Vl.fCallN, Vl.fCallL, Vl.fSetN, Vl.gIo, Vl.gCn, Vl.gNl, Vl.agDs, Vl.agD, Vl.ioSlots, Vl.putAll, Vl.put1, Vl.Ag.isIo, Vl.fAnd, Vl.fOr, Vl.fNot, Vl.fAndT, Vl.fOrT, Vl.fNotT, Vl.fChain, Vl.fIsi, Vl.fIsi2, Vl.fUn, Vl.fDrop, Vl.fApp, Vl.fLenO, Vl.fMake, Vl.fRaise, Vl.fFldS, Vl.fDInO, Vl.fDPutO, Vl.fDGetO, Vl.fPop, Vl.fListD, Vl.fDOne, Vl.fDNewK, Vl.isi, Vl.bOf, Vl.sOf, Vl.fFmt, Vl.fJs, Vl.oFmt, Vl.fM1, Vl.fM0, Vl.fFor, Vl.fItems, Vl.fEnum, Vl.fSl, Vl.fPart, Vl.fNoPart, Vl.fNeg, Vl.fAugI, Vl.fInO, Vl.fYes, Vl.fTruO, Vl.fComp, Vl.fCompO, Vl.calmE, Vl.wipeE, Vl.backE, Vl.oIsN, Vl.oStr, ↓Vl.fRng1_one, Vl.oLen_lst, Vl.oLen_tup, Vl.oLen_ctup, Vl.oLen_scr, Vl.oIx_lst, Vl.oIx_tup, Vl.oIx_ctup, Vl.oIx_scr, Vl.oInt_int, Vl.oInt_bl, Vl.oAbs_int, Vl.oMax_int, Vl.oMin_int, Vl.oTuple_lst, Vl.oTuple_tup, Vl.oList_lst, Vl.oList_tup, Vl.oNeg_int, Vl.ty_non, Vl.ty_bl, Vl.ty_int, Vl.ty_str, Vl.ty_tup, Vl.ty_ctup, Vl.ty_lst, Vl.ty_dk, Vl.ty_scr, Vl.tru_non, Vl.tru_bl, Vl.tru_int, Vl.tru_lst, Vl.tru_tup, Vl.oEqS_int, Vl.oEqS_str, Vl.oEqS_bl, Vl.oCat_lst, Vl.oCatA_tup, Vl.oSlT_tup, Vl.oSlL_lst, Vl.keyOf_int, Vl.keyOf_str, Vl.isNon_non, Vl.isNon_bl, Vl.isNon_int, Vl.isNon_str, Vl.isNon_tup, Vl.isNon_lst, Vl.oFld_ob, Vl.isOb_ob', Vl.atI_0, Vl.atI_1, Vl.atI_2, Vl.atI_3, Vl.ixN_0, Vl.ixN_1, Vl.ixN_2, List.zipWith, List.replicate, List.append, List.cons_append, List.nil_append, List.append_nil, List.getElem?_cons_zero, List.getElem?_cons_succ, List.getElem?_nil, List.set_cons_zero, List.set_cons_succ, List.length_cons, List.length_nil, List.map_cons, List.map_nil, List.nodup_cons, List.nodup_nil, List.not_mem_nil, List.reverse_cons, List.reverse_nil, Bool.false_eq_true, ite_true, ite_false, if_true, if_false, reduceIte, decide_true, decide_false, Bool.true_and, Bool.and_true, Bool.false_and, Bool.and_false, Bool.not_true, Bool.not_false, Bool.or_false, Bool.false_or, Bool.or_true, Bool.true_or, reduceCtorEq, not_false_eq_true, not_true_eq_false, and_self, and_true, true_and, or_false, or_true, Nat.reduceSub, Nat.reduceAdd, Nat.reduceLeDiff, Nat.zero_add, Option.map_some, Option.map_none, Option.bind_some, Option.bind_none, Option.isSome_some, Option.isSome_none, List.mem_cons, List.all_cons, List.all_nil, eq_self, Int.cast_ofNat_Int, Int.natCast_zero, Int.natCast_one, Int.reduceEq, Int.reduceLT, Int.reduceLE, Int.reduceAdd, Int.reduceSub, Int.reduceNeg, Nat.reduceEqDiff, *])
local macro_rules | `(tactic| walk_at "e0") => `(tactic| simp only [Vl.runV, Vl.mkEnv, Vl.Res.of, Vl.Res.quiet, Vl.Res.val, Vl.ioAt, Vl.fSeq, Vl.fIte, Vl.fAsg, Vl.fVar, Vl.fC, Vl.fOp, Vl.fIxO, Vl.fPutL, Vl.fRet, Vl.fRetW, Vl.fRetO, Vl.fRetN, Vl.fLst, Vl.fTup, Vl.fB, Vl.fTru, Vl.fCB, Vl.fCons, Vl.fNil, Vl.o1, Vl.o2, Vl.oI, Vl.oIC, Vl.slotL, Vl.slotO, Vl.own, Vl.Pat.put, Vl.Pat.puts, Vl.Out.bind, Vl.Out.opt, Vl.fNx, Vl.fCt, Vl.fBk, Vl.fPar, Vl.fCall, Vl.fCallN, Vl.fCallL, Vl.fSetN, Vl.gIo, Vl.gCn, Vl.gNl, Vl.agDs, Vl.agD, Vl.ioSlots, Vl.putAll, Vl.put1, Vl.Ag.isIo, Vl.fAnd, Vl.fOr, Vl.fNot, Vl.fAndT, Vl.fOrT, Vl.fNotT, Vl.fChain, Vl.fIsi, Vl.fIsi2, Vl.fUn, Vl.fDrop, Vl.fApp, Vl.fLenO, Vl.fMake, Vl.fRaise, Vl.fFldS, Vl.fDInO, Vl.fDPutO, Vl.fDGetO, Vl.fPop, Vl.fListD, Vl.fDOne, Vl.fDNewK, Vl.isi, Vl.bOf, Vl.sOf, Vl.fFmt, Vl.fJs, Vl.oFmt, Vl.fM1, Vl.fM0, Vl.fFor, Vl.fItems, Vl.fEnum, Vl.fSl, Vl.fPart, Vl.fNoPart, Vl.fNeg, Vl.fAugI, Vl.fInO, Vl.fYes, Vl.fTruO, Vl.fComp, Vl.fCompO, Vl.calmE, Vl.wipeE, Vl.backE, Vl.oIsN, Vl.oStr, ↓Vl.fRng1_one, Vl.oLen_lst, Vl.oLen_tup, Vl.oLen_ctup, Vl.oLen_scr, Vl.oIx_lst, Vl.oIx_tup, Vl.oIx_ctup, Vl.oIx_scr, Vl.oInt_int, Vl.oInt_bl, Vl.oAbs_int, Vl.oMax_int, Vl.oMin_int, Vl.oTuple_lst, Vl.oTuple_tup, Vl.oList_lst, Vl.oList_tup, Vl.oNeg_int, Vl.ty_non, Vl.ty_bl, Vl.ty_int, Vl.ty_str, Vl.ty_tup, Vl.ty_ctup, Vl.ty_lst, Vl.ty_dk, Vl.ty_scr, Vl.tru_non, Vl.tru_bl, Vl.tru_int, Vl.tru_lst, Vl.tru_tup, Vl.oEqS_int, Vl.oEqS_str, Vl.oEqS_bl, Vl.oCat_lst, Vl.oCatA_tup, Vl.oSlT_tup, Vl.oSlL_lst, Vl.keyOf_int, Vl.keyOf_str, Vl.isNon_non, Vl.isNon_bl, Vl.isNon_int, Vl.isNon_str, Vl.isNon_tup, Vl.isNon_lst, Vl.oFld_ob, Vl.isOb_ob', Vl.atI_0, Vl.atI_1, Vl.atI_2, Vl.atI_3, Vl.ixN_0, Vl.ixN_1, Vl.ixN_2, List.zipWith, List.replicate, List.append, List.cons_append, List.nil_append, List.append_nil, List.getElem?_cons_zero, List.getElem?_cons_succ, List.getElem?_nil, List.set_cons_zero, List.set_cons_succ, List.length_cons, List.length_nil, List.map_cons, List.map_nil, List.nodup_cons, List.nodup_nil, List.not_mem_nil, List.reverse_cons, List.reverse_nil, Bool.false_eq_true, ite_true, ite_false, if_true, if_false, reduceIte, decide_true, decide_false, Bool.true_and, Bool.and_true, Bool.false_and, Bool.and_false, Bool.not_true, Bool.not_false, Bool.or_false, Bool.false_or, Bool.or_true, Bool.true_or, reduceCtorEq, not_false_eq_true, not_true_eq_false, and_self, and_true, true_and, or_false, or_true, Nat.reduceSub, Nat.reduceAdd, Nat.reduceLeDiff, Nat.zero_add, Option.map_some, Option.map_none, Option.bind_some, Option.bind_none, Option.isSome_some, Option.isSome_none, List.mem_cons, List.all_cons, List.all_nil, eq_self, Int.cast_ofNat_Int, Int.natCast_zero, Int.natCast_one, Int.reduceEq, Int.reduceLT, Int.reduceLE, Int.reduceAdd, Int.reduceSub, Int.reduceNeg, Nat.reduceEqDiff])
def okB : At → Bool
  | .str s => PyData.strOk s
  | _ => true
theorem atoms_ok : ∀ a ∈ atoms, okB a = true := by decide +kernel
theorem okAt_of {a : At} (h : a ∈ atoms) : okAt a := by
  have := atoms_ok a h
  cases a <;> first | exact this | trivial
/-- a thing whose text is known -/
def Th.Shown : Th → Prop
  | .t as => (∀ a, a ∈ as → a ∈ atoms) ∧ as.length ≤ 100
  | .l _ => True
  | .n r => ∀ a, a ∈ r.ats → a ∈ atoms
theorem Th.Shown.ok {x : Th} (h : x.Shown) : x.Ok := by
  cases x with
  | t as => exact fun a ha => okAt_of (h.1 a ha)
  | l as => trivial
  | n r =>
    show eokN 1 (rowD r)
    rw [rowD_ats]
    exact atsD_eokN fun a ha => okAt_of (h a ha)
end Pg
set_option Elab.async false
set_option linter.all false
set_option maxRecDepth 100000
set_option maxHeartbeats 1000000
namespace Pg
open PySem L2 Sb Vl
local macro_rules | `(tactic| walk_at "ev") => `(tactic| simp only [Vl.runV, Vl.mkEnv, Vl.Res.of, Vl.Res.quiet, Vl.Res.val, Vl.ioAt, Vl.fSeq, Vl.fIte, Vl.fAsg, Vl.fVar, Vl.fC, Vl.fOp, Vl.fIxO, Vl.fPutL, Vl.fRet, Vl.fRetW, Vl.fRetO, Vl.fRetN, Vl.fLst, Vl.fTup, Vl.fB, Vl.fTru, Vl.fCB, Vl.fCons, Vl.fNil, Vl.o1, Vl.o2, Vl.oI, Vl.oIC, Vl.slotL, Vl.slotO, Vl.own, Vl.Pat.put, Vl.Pat.puts, Vl.Out.bind, Vl.Out.opt, Vl.fNx, Vl.fCt, Vl.fBk, Vl.fPar, Vl.fCall, Vl.fCallN, Vl.fCallL, Vl.fSetN, Vl.gIo, Vl.gCn, Vl.gNl, Vl.agDs, Vl.agD, Vl.ioSlots, Vl.putAll, Vl.put1, Vl.Ag.isIo, Vl.fAnd, Vl.fOr, Vl.fNot, Vl.fAndT, Vl.fOrT, Vl.fNotT, Vl.fChain, Vl.fIsi, Vl.fIsi2, Vl.fUn, Vl.fDrop, Vl.fApp, Vl.fLenO, Vl.fMake, Vl.fRaise, Vl.fFldS, Vl.fDInO, Vl.fDPutO, Vl.fDGetO, Vl.fPop, Vl.fListD, Vl.fDOne, Vl.fDNewK, Vl.isi, Vl.bOf, Vl.sOf, Vl.fFmt, Vl.fJs, Vl.oFmt, Vl.fM1, Vl.fM0, Vl.fFor, Vl.fItems, Vl.fEnum, Vl.fSl, Vl.fPart, Vl.fNoPart, Vl.fNeg, Vl.fAugI, Vl.fInO, Vl.fYes, Vl.fTruO, Vl.fComp, Vl.fCompO, Vl.calmE, Vl.wipeE, Vl.backE, Vl.oIsN, Vl.oStr, ↓Vl.fRng1_one, Vl.oLen_lst, Vl.oLen_tup, Vl.oLen_ctup, Vl.oLen_scr, Vl.oIx_lst, Vl.oIx_tup, Vl.oIx_ctup, Vl.oIx_scr, Vl.oInt_int, Vl.oInt_bl, Vl.oAbs_int, Vl.oMax_int, Vl.oMin_int, Vl.oTuple_lst, Vl.oTuple_tup, Vl.oList_lst, Vl.oList_tup, Vl.oNeg_int, Vl.ty_non, Vl.ty_bl, Vl.ty_int, Vl.ty_str, Vl.ty_tup, Vl.ty_ctup, Vl.ty_lst, Vl.ty_dk, Vl.ty_scr, Vl.tru_non, Vl.tru_bl, Vl.tru_int, Vl.tru_lst, Vl.tru_tup, Vl.oEqS_int, Vl.oEqS_str, Vl.oEqS_bl, Vl.oCat_lst, Vl.oCatA_tup, Vl.oSlT_tup, Vl.oSlL_lst, Vl.keyOf_int, Vl.keyOf_str, Vl.isNon_non, Vl.isNon_bl, Vl.isNon_int, Vl.isNon_str, Vl.isNon_tup, Vl.isNon_lst, Vl.oFld_ob, Vl.isOb_ob', Vl.atI_0, Vl.atI_1, Vl.atI_2, Vl.atI_3, Vl.ixN_0, Vl.ixN_1, Vl.ixN_2, List.zipWith, List.replicate, List.append, List.cons_append, List.nil_append, List.append_nil, List.getElem?_cons_zero, List.getElem?_cons_succ, List.getElem?_nil, List.set_cons_zero, List.set_cons_succ, List.length_cons, List.length_nil, List.map_cons, List.map_nil, List.nodup_cons, List.nodup_nil, List.not_mem_nil, List.reverse_cons, List.reverse_nil, Bool.false_eq_true, ite_true, ite_false, if_true, if_false, reduceIte, decide_true, decide_false, Bool.true_and, Bool.and_true, Bool.false_and, Bool.and_false, Bool.not_true, Bool.not_false, Bool.or_false, Bool.false_or, Bool.or_true, Bool.true_or, reduceCtorEq, not_false_eq_true, not_true_eq_false, and_self, and_true, true_and, or_false, or_true, Nat.reduceSub, Nat.reduceAdd, Nat.reduceLeDiff, Nat.zero_add, Option.map_some, Option.map_none, Option.bind_some, Option.bind_none, Option.isSome_some, Option.isSome_none, List.mem_cons, List.all_cons, List.all_nil, eq_self, Int.cast_ofNat_Int, Int.natCast_zero, Int.natCast_one, Int.reduceEq, Int.reduceLT, Int.reduceLE, Int.reduceAdd, Int.reduceSub, Int.reduceNeg, Nat.reduceEqDiff, *])
local macro_rules | `(tactic| walk_at "e0") => `(tactic| simp only [Vl.runV, Vl.mkEnv, Vl.Res.of, Vl.Res.quiet, Vl.Res.val, Vl.ioAt, Vl.fSeq, Vl.fIte, Vl.fAsg, Vl.fVar, Vl.fC, Vl.fOp, Vl.fIxO, Vl.fPutL, Vl.fRet, Vl.fRetW, Vl.fRetO, Vl.fRetN, Vl.fLst, Vl.fTup, Vl.fB, Vl.fTru, Vl.fCB, Vl.fCons, Vl.fNil, Vl.o1, Vl.o2, Vl.oI, Vl.oIC, Vl.slotL, Vl.slotO, Vl.own, Vl.Pat.put, Vl.Pat.puts, Vl.Out.bind, Vl.Out.opt, Vl.fNx, Vl.fCt, Vl.fBk, Vl.fPar, Vl.fCall, Vl.fCallN, Vl.fCallL, Vl.fSetN, Vl.gIo, Vl.gCn, Vl.gNl, Vl.agDs, Vl.agD, Vl.ioSlots, Vl.putAll, Vl.put1, Vl.Ag.isIo, Vl.fAnd, Vl.fOr, Vl.fNot, Vl.fAndT, Vl.fOrT, Vl.fNotT, Vl.fChain, Vl.fIsi, Vl.fIsi2, Vl.fUn, Vl.fDrop, Vl.fApp, Vl.fLenO, Vl.fMake, Vl.fRaise, Vl.fFldS, Vl.fDInO, Vl.fDPutO, Vl.fDGetO, Vl.fPop, Vl.fListD, Vl.fDOne, Vl.fDNewK, Vl.isi, Vl.bOf, Vl.sOf, Vl.fFmt, Vl.fJs, Vl.oFmt, Vl.fM1, Vl.fM0, Vl.fFor, Vl.fItems, Vl.fEnum, Vl.fSl, Vl.fPart, Vl.fNoPart, Vl.fNeg, Vl.fAugI, Vl.fInO, Vl.fYes, Vl.fTruO, Vl.fComp, Vl.fCompO, Vl.calmE, Vl.wipeE, Vl.backE, Vl.oIsN, Vl.oStr, ↓Vl.fRng1_one, Vl.oLen_lst, Vl.oLen_tup, Vl.oLen_ctup, Vl.oLen_scr, Vl.oIx_lst, Vl.oIx_tup, Vl.oIx_ctup, Vl.oIx_scr, Vl.oInt_int, Vl.oInt_bl, Vl.oAbs_int, Vl.oMax_int, Vl.oMin_int, Vl.oTuple_lst, Vl.oTuple_tup, Vl.oList_lst, Vl.oList_tup, Vl.oNeg_int, Vl.ty_non, Vl.ty_bl, Vl.ty_int, Vl.ty_str, Vl.ty_tup, Vl.ty_ctup, Vl.ty_lst, Vl.ty_dk, Vl.ty_scr, Vl.tru_non, Vl.tru_bl, Vl.tru_int, Vl.tru_lst, Vl.tru_tup, Vl.oEqS_int, Vl.oEqS_str, Vl.oEqS_bl, Vl.oCat_lst, Vl.oCatA_tup, Vl.oSlT_tup, Vl.oSlL_lst, Vl.keyOf_int, Vl.keyOf_str, Vl.isNon_non, Vl.isNon_bl, Vl.isNon_int, Vl.isNon_str, Vl.isNon_tup, Vl.isNon_lst, Vl.oFld_ob, Vl.isOb_ob', Vl.atI_0, Vl.atI_1, Vl.atI_2, Vl.atI_3, Vl.ixN_0, Vl.ixN_1, Vl.ixN_2, List.zipWith, List.replicate, List.append, List.cons_append, List.nil_append, List.append_nil, List.getElem?_cons_zero, List.getElem?_cons_succ, List.getElem?_nil, List.set_cons_zero, List.set_cons_succ, List.length_cons, List.length_nil, List.map_cons, List.map_nil, List.nodup_cons, List.nodup_nil, List.not_mem_nil, List.reverse_cons, List.reverse_nil, Bool.false_eq_true, ite_true, ite_false, if_true, if_false, reduceIte, decide_true, decide_false, Bool.true_and, Bool.and_true, Bool.false_and, Bool.and_false, Bool.not_true, Bool.not_false, Bool.or_false, Bool.false_or, Bool.or_true, Bool.true_or, reduceCtorEq, not_false_eq_true, not_true_eq_false, and_self, and_true, true_and, or_false, or_true, Nat.reduceSub, Nat.reduceAdd, Nat.reduceLeDiff, Nat.zero_add, Option.map_some, Option.map_none, Option.bind_some, Option.bind_none, Option.isSome_some, Option.isSome_none, List.mem_cons, List.all_cons, List.all_nil, eq_self, Int.cast_ofNat_Int, Int.natCast_zero, Int.natCast_one, Int.reduceEq, Int.reduceLT, Int.reduceLE, Int.reduceAdd, Int.reduceSub, Int.reduceNeg, Nat.reduceEqDiff])
/-- a value that a machine's row may be looked at -/
def goodRow (d : D) : Prop := d.ty.isSome = true ∧ (∀ l, d ≠ .ctup l) ∧ ∀ l, d = .tup l → ∀ x, x ∈ l → D.fine x = true
/-- the first row that is none, from the k-th on -/
def firstBad (n : Int) (ws : List Str) : Nat → List D → Option Nat
  | _, [] => none
  | k, d :: l => if rowOkD d n ws then firstBad n ws (k + 1) l else some k
/-- what may be looked at as a machine -/
inductive Mac where
  | ls (xs : List D) | tp (xs : List D) | ot (x : D)
def Mac.d (m : Mac) : D := match m with
  | .ls xs => .lst xs
  | .tp xs => .tup xs
  | .ot x => x
def Mac.Ok (m : Mac) : Prop := match m with
  | .ls xs => ∀ x, x ∈ xs → goodRow x
  | .tp xs => ∀ x, x ∈ xs → goodRow x
  | .ot x => ∃ t, x.ty = some t ∧ (t = .non ∨ t = .bool ∨ t = .int ∨ t = .str ∨ t = .dict)
def Mac.seq (m : Mac) : Bool := match m with
  | .ot _ => false
  | _ => true
end Pg
set_option Elab.async false
set_option linter.all false
set_option maxRecDepth 100000
set_option maxHeartbeats 1000000
namespace Pg
open PySem L2 Sb Vl
local macro_rules | `(tactic| walk_at "ev") => `(tactic| simp only [Vl.runV, Vl.mkEnv, Vl.Res.of, Vl.Res.quiet, Vl.Res.val, Vl.ioAt, Vl.fSeq, Vl.fIte, Vl.fAsg, Vl.fVar, Vl.fC, Vl.fOp, Vl.fIxO, Vl.fPutL, Vl.fRet, Vl.fRetW, Vl.fRetO, Vl.fRetN, Vl.fLst, Vl.fTup, Vl.fB, Vl.fTru, Vl.fCB, Vl.fCons, Vl.fNil, Vl.o1, Vl.o2, Vl.oI, Vl.oIC, Vl.slotL, Vl.slotO, Vl.own, Vl.Pat.put, Vl.Pat.puts, Vl.Out.bind, Vl.Out.opt, Vl.fNx, Vl.fCt, Vl.fBk, Vl.fPar, Vl.fCall, Vl.fCallN, Vl.fCallL, Vl.fSetN, Vl.gIo, Vl.gCn, Vl.gNl, Vl.agDs, Vl.agD, Vl.ioSlots, Vl.putAll, Vl.put1, Vl.Ag.isIo, Vl.fAnd, Vl.fOr, Vl.fNot, Vl.fAndT, Vl.fOrT, Vl.fNotT, Vl.fChain, Vl.fIsi, Vl.fIsi2, Vl.fUn, Vl.fDrop, Vl.fApp, Vl.fLenO, Vl.fMake, Vl.fRaise, Vl.fFldS, Vl.fDInO, Vl.fDPutO, Vl.fDGetO, Vl.fPop, Vl.fListD, Vl.fDOne, Vl.fDNewK, Vl.isi, Vl.bOf, Vl.sOf, Vl.fFmt, Vl.fJs, Vl.oFmt, Vl.fM1, Vl.fM0, Vl.fFor, Vl.fItems, Vl.fEnum, Vl.fSl, Vl.fPart, Vl.fNoPart, Vl.fNeg, Vl.fAugI, Vl.fInO, Vl.fYes, Vl.fTruO, Vl.fComp, Vl.fCompO, Vl.calmE, Vl.wipeE, Vl.backE, Vl.oIsN, Vl.oStr, ↓Vl.fRng1_one, Vl.oLen_lst, Vl.oLen_tup, Vl.oLen_ctup, Vl.oLen_scr, Vl.oIx_lst, Vl.oIx_tup, Vl.oIx_ctup, Vl.oIx_scr, Vl.oInt_int, Vl.oInt_bl, Vl.oAbs_int, Vl.oMax_int, Vl.oMin_int, Vl.oTuple_lst, Vl.oTuple_tup, Vl.oList_lst, Vl.oList_tup, Vl.oNeg_int, Vl.ty_non, Vl.ty_bl, Vl.ty_int, Vl.ty_str, Vl.ty_tup, Vl.ty_ctup, Vl.ty_lst, Vl.ty_dk, Vl.ty_scr, Vl.tru_non, Vl.tru_bl, Vl.tru_int, Vl.tru_lst, Vl.tru_tup, Vl.oEqS_int, Vl.oEqS_str, Vl.oEqS_bl, Vl.oCat_lst, Vl.oCatA_tup, Vl.oSlT_tup, Vl.oSlL_lst, Vl.keyOf_int, Vl.keyOf_str, Vl.isNon_non, Vl.isNon_bl, Vl.isNon_int, Vl.isNon_str, Vl.isNon_tup, Vl.isNon_lst, Vl.oFld_ob, Vl.isOb_ob', Vl.atI_0, Vl.atI_1, Vl.atI_2, Vl.atI_3, Vl.ixN_0, Vl.ixN_1, Vl.ixN_2, List.zipWith, List.replicate, List.append, List.cons_append, List.nil_append, List.append_nil, List.getElem?_cons_zero, List.getElem?_cons_succ, List.getElem?_nil, List.set_cons_zero, List.set_cons_succ, List.length_cons, List.length_nil, List.map_cons, List.map_nil, List.nodup_cons, List.nodup_nil, List.not_mem_nil, List.reverse_cons, List.reverse_nil, Bool.false_eq_true, ite_true, ite_false, if_true, if_false, reduceIte, decide_true, decide_false, Bool.true_and, Bool.and_true, Bool.false_and, Bool.and_false, Bool.not_true, Bool.not_false, Bool.or_false, Bool.false_or, Bool.or_true, Bool.true_or, reduceCtorEq, not_false_eq_true, not_true_eq_false, and_self, and_true, true_and, or_false, or_true, Nat.reduceSub, Nat.reduceAdd, Nat.reduceLeDiff, Nat.zero_add, Option.map_some, Option.map_none, Option.bind_some, Option.bind_none, Option.isSome_some, Option.isSome_none, List.mem_cons, List.all_cons, List.all_nil, eq_self, Int.cast_ofNat_Int, Int.natCast_zero, Int.natCast_one, Int.reduceEq, Int.reduceLT, Int.reduceLE, Int.reduceAdd, Int.reduceSub, Int.reduceNeg, Nat.reduceEqDiff, *])
local macro_rules | `(tactic| walk_at "e0") => `(tactic| simp only [Vl.runV, Vl.mkEnv, Vl.Res.of, Vl.Res.quiet, Vl.Res.val, Vl.ioAt, Vl.fSeq, Vl.fIte, Vl.fAsg, Vl.fVar, Vl.fC, Vl.fOp, Vl.fIxO, Vl.fPutL, Vl.fRet, Vl.fRetW, Vl.fRetO, Vl.fRetN, Vl.fLst, Vl.fTup, Vl.fB, Vl.fTru, Vl.fCB, Vl.fCons, Vl.fNil, Vl.o1, Vl.o2, Vl.oI, Vl.oIC, Vl.slotL, Vl.slotO, Vl.own, Vl.Pat.put, Vl.Pat.puts, Vl.Out.bind, Vl.Out.opt, Vl.fNx, Vl.fCt, Vl.fBk, Vl.fPar, Vl.fCall, Vl.fCallN, Vl.fCallL, Vl.fSetN, Vl.gIo, Vl.gCn, Vl.gNl, Vl.agDs, Vl.agD, Vl.ioSlots, Vl.putAll, Vl.put1, Vl.Ag.isIo, Vl.fAnd, Vl.fOr, Vl.fNot, Vl.fAndT, Vl.fOrT, Vl.fNotT, Vl.fChain, Vl.fIsi, Vl.fIsi2, Vl.fUn, Vl.fDrop, Vl.fApp, Vl.fLenO, Vl.fMake, Vl.fRaise, Vl.fFldS, Vl.fDInO, Vl.fDPutO, Vl.fDGetO, Vl.fPop, Vl.fListD, Vl.fDOne, Vl.fDNewK, Vl.isi, Vl.bOf, Vl.sOf, Vl.fFmt, Vl.fJs, Vl.oFmt, Vl.fM1, Vl.fM0, Vl.fFor, Vl.fItems, Vl.fEnum, Vl.fSl, Vl.fPart, Vl.fNoPart, Vl.fNeg, Vl.fAugI, Vl.fInO, Vl.fYes, Vl.fTruO, Vl.fComp, Vl.fCompO, Vl.calmE, Vl.wipeE, Vl.backE, Vl.oIsN, Vl.oStr, ↓Vl.fRng1_one, Vl.oLen_lst, Vl.oLen_tup, Vl.oLen_ctup, Vl.oLen_scr, Vl.oIx_lst, Vl.oIx_tup, Vl.oIx_ctup, Vl.oIx_scr, Vl.oInt_int, Vl.oInt_bl, Vl.oAbs_int, Vl.oMax_int, Vl.oMin_int, Vl.oTuple_lst, Vl.oTuple_tup, Vl.oList_lst, Vl.oList_tup, Vl.oNeg_int, Vl.ty_non, Vl.ty_bl, Vl.ty_int, Vl.ty_str, Vl.ty_tup, Vl.ty_ctup, Vl.ty_lst, Vl.ty_dk, Vl.ty_scr, Vl.tru_non, Vl.tru_bl, Vl.tru_int, Vl.tru_lst, Vl.tru_tup, Vl.oEqS_int, Vl.oEqS_str, Vl.oEqS_bl, Vl.oCat_lst, Vl.oCatA_tup, Vl.oSlT_tup, Vl.oSlL_lst, Vl.keyOf_int, Vl.keyOf_str, Vl.isNon_non, Vl.isNon_bl, Vl.isNon_int, Vl.isNon_str, Vl.isNon_tup, Vl.isNon_lst, Vl.oFld_ob, Vl.isOb_ob', Vl.atI_0, Vl.atI_1, Vl.atI_2, Vl.atI_3, Vl.ixN_0, Vl.ixN_1, Vl.ixN_2, List.zipWith, List.replicate, List.append, List.cons_append, List.nil_append, List.append_nil, List.getElem?_cons_zero, List.getElem?_cons_succ, List.getElem?_nil, List.set_cons_zero, List.set_cons_succ, List.length_cons, List.length_nil, List.map_cons, List.map_nil, List.nodup_cons, List.nodup_nil, List.not_mem_nil, List.reverse_cons, List.reverse_nil, Bool.false_eq_true, ite_true, ite_false, if_true, if_false, reduceIte, decide_true, decide_false, Bool.true_and, Bool.and_true, Bool.false_and, Bool.and_false, Bool.not_true, Bool.not_false, Bool.or_false, Bool.false_or, Bool.or_true, Bool.true_or, reduceCtorEq, not_false_eq_true, not_true_eq_false, and_self, and_true, true_and, or_false, or_true, Nat.reduceSub, Nat.reduceAdd, Nat.reduceLeDiff, Nat.zero_add, Option.map_some, Option.map_none, Option.bind_some, Option.bind_none, Option.isSome_some, Option.isSome_none, List.mem_cons, List.all_cons, List.all_nil, eq_self, Int.cast_ofNat_Int, Int.natCast_zero, Int.natCast_one, Int.reduceEq, Int.reduceLT, Int.reduceLE, Int.reduceAdd, Int.reduceSub, Int.reduceNeg, Nat.reduceEqDiff])
end Pg
set_option Elab.async false
set_option linter.all false
set_option maxRecDepth 100000
set_option maxHeartbeats 1000000
namespace Pg
open PySem L2 Sb Vl
structure Fits (k n : Nat) (d : D) : Prop where
  rok : d.rok = true
  sh : d.pyR.showable = true
  dp : d.pyR.depth ≤ k
  ln : d.pyR.shown.length ≤ n
theorem Fits.more {k k' n n' : Nat} {d : D} (h : Fits k n d) (hk : k ≤ k') (hn : n ≤ n') : Fits k' n' d := ⟨h.rok, h.sh, Nat.le_trans h.dp hk, Nat.le_trans h.ln hn⟩
structure FitsAll (k n : Nat) (l : List D) : Prop where
  rok : D.roks l = true
  sh : PyData.showableAll (D.pyRs l) = true
  dp : PyData.depthAll (D.pyRs l) ≤ k
  ln : ((PyData.shownAll (D.pyRs l)).map (·.length)).sum ≤ n * l.length
  ct : (PyData.shownAll (D.pyRs l)).length = l.length
theorem fits_all {k n : Nat} : ∀ {l : List D}, (∀ d, d ∈ l → Fits k n d) → FitsAll k n l
  | [], _ => ⟨rfl, by simp [D.pyRs, PyData.showableAll], by simp [D.pyRs, PyData.depthAll], by simp [D.pyRs, PyData.shownAll], by simp [D.pyRs, PyData.shownAll]⟩
  | d :: l, h => by
    have h1 := h d (by simp)
    have h2 := fits_all (l := l) fun x hx => h x (by simp [hx])
    refine ⟨?_, ?_, ?_, ?_, ?_⟩
    · simp [D.roks, h1.rok, h2.rok]
    · simp [D.pyRs, PyData.showableAll, h1.sh, h2.sh]
    · simp only [D.pyRs, PyData.depthAll]
      exact Nat.max_le.mpr ⟨h1.dp, h2.dp⟩
    · simp only [D.pyRs, PyData.shownAll, List.map_cons, List.sum_cons, List.length_cons]
      have a := h1.ln
      have b := h2.ln
      rw [Nat.mul_add, Nat.mul_one]
      omega
    · simp [D.pyRs, PyData.shownAll, h2.ct]
theorem fits_lst {k n : Nat} {l : List D} (h : ∀ d, d ∈ l → Fits k n d) : Fits (k + 1) (n * l.length + 2 * l.length + 4) (.lst l) := by
  have a := fits_all h
  refine ⟨by simp [D.rok, a.rok], by simp [D.pyR, PyData.showable, a.sh], ?_, ?_⟩
  · simp only [D.pyR, PyData.depth]
    have := a.dp
    omega
  · have e : (D.lst l).pyR.shown = listText (PyData.shownAll (D.pyRs l)) := by simp [D.pyR, PyData.shown]
    rw [e]
    unfold listText
    rw [strLen_append]
    have h1 := textFrom_len_le (PyData.shownAll (D.pyRs l)) 0 "["
    have e1 : ("[" : Str).length = 1 := by decide +kernel
    have e2 : (Str.ofString "]").length = 1 := by decide +kernel
    have h2 := a.ln
    rw [a.ct, e1] at h1
    rw [e2]
    omega
theorem repr_fits {k n : Nat} {d : D} (h : Fits k n d) (hk : k ≤ 64) (hn : n ≤ 1000000) (hd : d.isDk = false) : ∃ t, oReprX d = some (.str t) := by
  refine ⟨d.pyR.shown, ?_⟩
  unfold oReprX
  refine if_pos ?_
  rw [h.rok, h.sh, hd, decide_eq_true (Nat.le_trans h.dp hk), decide_eq_true (Nat.le_trans (Nat.le_trans h.ln hn) (by decide))]
  rfl
end Pg
set_option Elab.async false
set_option linter.all false
set_option maxRecDepth 100000
set_option maxHeartbeats 4000000
namespace K08
open PySem L2 Vl Pg
open Sb hiding plD rowD rowsD firstBad
local macro_rules | `(tactic| walk_at "ev") => `(tactic| simp only [Vl.runV, Vl.mkEnv, Vl.Res.of, Vl.Res.quiet, Vl.Res.val, Vl.ioAt, Vl.fSeq, Vl.fIte, Vl.fAsg, Vl.fVar, Vl.fC, Vl.fOp, Vl.fIxO, Vl.fPutL, Vl.fRet, Vl.fRetW, Vl.fRetO, Vl.fRetN, Vl.fLst, Vl.fTup, Vl.fB, Vl.fTru, Vl.fCB, Vl.fCons, Vl.fNil, Vl.o1, Vl.o2, Vl.oI, Vl.oIC, Vl.slotL, Vl.slotO, Vl.own, Vl.Pat.put, Vl.Pat.puts, Vl.Out.bind, Vl.Out.opt, Vl.fNx, Vl.fCt, Vl.fBk, Vl.fPar, Vl.fCall, Vl.fCallN, Vl.fCallL, Vl.fSetN, Vl.gIo, Vl.gCn, Vl.gNl, Vl.agDs, Vl.agD, Vl.ioSlots, Vl.putAll, Vl.put1, Vl.Ag.isIo, Vl.fAnd, Vl.fOr, Vl.fNot, Vl.fAndT, Vl.fOrT, Vl.fNotT, Vl.fChain, Vl.fIsi, Vl.fIsi2, Vl.fUn, Vl.fDrop, Vl.fApp, Vl.fLenO, Vl.fMake, Vl.fRaise, Vl.fFldS, Vl.fDInO, Vl.fDPutO, Vl.fDGetO, Vl.fPop, Vl.fListD, Vl.fDOne, Vl.fDNewK, Vl.isi, Vl.bOf, Vl.sOf, Vl.fFmt, Vl.fJs, Vl.oFmt, Vl.fM1, Vl.fM0, Vl.fFor, Vl.fItems, Vl.fEnum, Vl.fSl, Vl.fPart, Vl.fNoPart, Vl.fNeg, Vl.fAugI, Vl.fInO, Vl.fYes, Vl.fTruO, Vl.fComp, Vl.fCompO, Vl.calmE, Vl.wipeE, Vl.backE, Vl.oIsN, Vl.oStr, ↓Vl.fRng1_one, Vl.oLen_lst, Vl.oLen_tup, Vl.oLen_ctup, Vl.oLen_scr, Vl.oIx_lst, Vl.oIx_tup, Vl.oIx_ctup, Vl.oIx_scr, Vl.oInt_int, Vl.oInt_bl, Vl.oAbs_int, Vl.oMax_int, Vl.oMin_int, Vl.oTuple_lst, Vl.oTuple_tup, Vl.oList_lst, Vl.oList_tup, Vl.oNeg_int, Vl.ty_non, Vl.ty_bl, Vl.ty_int, Vl.ty_str, Vl.ty_tup, Vl.ty_ctup, Vl.ty_lst, Vl.ty_dk, Vl.ty_scr, Vl.tru_non, Vl.tru_bl, Vl.tru_int, Vl.tru_lst, Vl.tru_tup, Vl.oEqS_int, Vl.oEqS_str, Vl.oEqS_bl, Vl.oCat_lst, Vl.oCatA_tup, Vl.oSlT_tup, Vl.oSlL_lst, Vl.keyOf_int, Vl.keyOf_str, Vl.isNon_non, Vl.isNon_bl, Vl.isNon_int, Vl.isNon_str, Vl.isNon_tup, Vl.isNon_lst, Vl.oFld_ob, Vl.isOb_ob', Vl.atI_0, Vl.atI_1, Vl.atI_2, Vl.atI_3, Vl.ixN_0, Vl.ixN_1, Vl.ixN_2, List.zipWith, List.replicate, List.append, List.cons_append, List.nil_append, List.append_nil, List.getElem?_cons_zero, List.getElem?_cons_succ, List.getElem?_nil, List.set_cons_zero, List.set_cons_succ, List.length_cons, List.length_nil, List.map_cons, List.map_nil, List.nodup_cons, List.nodup_nil, List.not_mem_nil, List.reverse_cons, List.reverse_nil, Bool.false_eq_true, ite_true, ite_false, if_true, if_false, reduceIte, decide_true, decide_false, Bool.true_and, Bool.and_true, Bool.false_and, Bool.and_false, Bool.not_true, Bool.not_false, Bool.or_false, Bool.false_or, Bool.or_true, Bool.true_or, reduceCtorEq, not_false_eq_true, not_true_eq_false, and_self, and_true, true_and, or_false, or_true, Nat.reduceSub, Nat.reduceAdd, Nat.reduceLeDiff, Nat.zero_add, Option.map_some, Option.map_none, Option.bind_some, Option.bind_none, Option.isSome_some, Option.isSome_none, List.mem_cons, List.all_cons, List.all_nil, eq_self, Int.cast_ofNat_Int, Int.natCast_zero, Int.natCast_one, Int.reduceEq, Int.reduceLT, Int.reduceLE, Int.reduceAdd, Int.reduceSub, Int.reduceNeg, Nat.reduceEqDiff, *])
local macro_rules | `(tactic| walk_at "e0") => `(tactic| simp only [Vl.runV, Vl.mkEnv, Vl.Res.of, Vl.Res.quiet, Vl.Res.val, Vl.ioAt, Vl.fSeq, Vl.fIte, Vl.fAsg, Vl.fVar, Vl.fC, Vl.fOp, Vl.fIxO, Vl.fPutL, Vl.fRet, Vl.fRetW, Vl.fRetO, Vl.fRetN, Vl.fLst, Vl.fTup, Vl.fB, Vl.fTru, Vl.fCB, Vl.fCons, Vl.fNil, Vl.o1, Vl.o2, Vl.oI, Vl.oIC, Vl.slotL, Vl.slotO, Vl.own, Vl.Pat.put, Vl.Pat.puts, Vl.Out.bind, Vl.Out.opt, Vl.fNx, Vl.fCt, Vl.fBk, Vl.fPar, Vl.fCall, Vl.fCallN, Vl.fCallL, Vl.fSetN, Vl.gIo, Vl.gCn, Vl.gNl, Vl.agDs, Vl.agD, Vl.ioSlots, Vl.putAll, Vl.put1, Vl.Ag.isIo, Vl.fAnd, Vl.fOr, Vl.fNot, Vl.fAndT, Vl.fOrT, Vl.fNotT, Vl.fChain, Vl.fIsi, Vl.fIsi2, Vl.fUn, Vl.fDrop, Vl.fApp, Vl.fLenO, Vl.fMake, Vl.fRaise, Vl.fFldS, Vl.fDInO, Vl.fDPutO, Vl.fDGetO, Vl.fPop, Vl.fListD, Vl.fDOne, Vl.fDNewK, Vl.isi, Vl.bOf, Vl.sOf, Vl.fFmt, Vl.fJs, Vl.oFmt, Vl.fM1, Vl.fM0, Vl.fFor, Vl.fItems, Vl.fEnum, Vl.fSl, Vl.fPart, Vl.fNoPart, Vl.fNeg, Vl.fAugI, Vl.fInO, Vl.fYes, Vl.fTruO, Vl.fComp, Vl.fCompO, Vl.calmE, Vl.wipeE, Vl.backE, Vl.oIsN, Vl.oStr, ↓Vl.fRng1_one, Vl.oLen_lst, Vl.oLen_tup, Vl.oLen_ctup, Vl.oLen_scr, Vl.oIx_lst, Vl.oIx_tup, Vl.oIx_ctup, Vl.oIx_scr, Vl.oInt_int, Vl.oInt_bl, Vl.oAbs_int, Vl.oMax_int, Vl.oMin_int, Vl.oTuple_lst, Vl.oTuple_tup, Vl.oList_lst, Vl.oList_tup, Vl.oNeg_int, Vl.ty_non, Vl.ty_bl, Vl.ty_int, Vl.ty_str, Vl.ty_tup, Vl.ty_ctup, Vl.ty_lst, Vl.ty_dk, Vl.ty_scr, Vl.tru_non, Vl.tru_bl, Vl.tru_int, Vl.tru_lst, Vl.tru_tup, Vl.oEqS_int, Vl.oEqS_str, Vl.oEqS_bl, Vl.oCat_lst, Vl.oCatA_tup, Vl.oSlT_tup, Vl.oSlL_lst, Vl.keyOf_int, Vl.keyOf_str, Vl.isNon_non, Vl.isNon_bl, Vl.isNon_int, Vl.isNon_str, Vl.isNon_tup, Vl.isNon_lst, Vl.oFld_ob, Vl.isOb_ob', Vl.atI_0, Vl.atI_1, Vl.atI_2, Vl.atI_3, Vl.ixN_0, Vl.ixN_1, Vl.ixN_2, List.zipWith, List.replicate, List.append, List.cons_append, List.nil_append, List.append_nil, List.getElem?_cons_zero, List.getElem?_cons_succ, List.getElem?_nil, List.set_cons_zero, List.set_cons_succ, List.length_cons, List.length_nil, List.map_cons, List.map_nil, List.nodup_cons, List.nodup_nil, List.not_mem_nil, List.reverse_cons, List.reverse_nil, Bool.false_eq_true, ite_true, ite_false, if_true, if_false, reduceIte, decide_true, decide_false, Bool.true_and, Bool.and_true, Bool.false_and, Bool.and_false, Bool.not_true, Bool.not_false, Bool.or_false, Bool.false_or, Bool.or_true, Bool.true_or, reduceCtorEq, not_false_eq_true, not_true_eq_false, and_self, and_true, true_and, or_false, or_true, Nat.reduceSub, Nat.reduceAdd, Nat.reduceLeDiff, Nat.zero_add, Option.map_some, Option.map_none, Option.bind_some, Option.bind_none, Option.isSome_some, Option.isSome_none, List.mem_cons, List.all_cons, List.all_nil, eq_self, Int.cast_ofNat_Int, Int.natCast_zero, Int.natCast_one, Int.reduceEq, Int.reduceLT, Int.reduceLE, Int.reduceAdd, Int.reduceSub, Int.reduceNeg, Nat.reduceEqDiff])
theorem bag_ok (ns : List Int) (i : Nat) (hi : i < 1000) : ∃ d, Φ_L_bag [.scr ns, .int (i : Int)] = .ret true d [.non, .non] ∧ BagA 0 d := by
  have key : ∀ x : Int, (∃ cell, (cell = true ↔ (i : Int) < (ns.length : Int)) ∧ (if cell = true then atI ns (i : Int) = some x else x = 0)) → ∃ d, Φ_L_bag [.scr ns, .int (i : Int)] = .ret true d [.non, .non] ∧ BagA 0 d := by
    rintro x ⟨cell, hc, hx⟩
    have e0 := powOk (i := 10) (j := 18) 5 (by decide) (by decide) (by decide)
    rw [Bool.and_eq_true] at e0
    replace e0 := e0.2
    have p18 : (10 : Int) ^ (18 : Int).toNat = 1000000000000000000 := by decide
    have z1 : decide ((0 : Int) < 2305843009213693951) = true := rfl
    have e1 : cMul (x % 2305843009213693951) 54773 = true := cMulR (by decide)
    have e2 : cMul 4703 (i : Int) = true := cMulL (by decide)
    have p90 : (2 : Int) ^ 90 = 1237940039285380274899124224 := by decide
    obtain ⟨y, hy, hab⟩ : ∃ y, oAbs (.int x) = some (.int y) ∧ 0 ≤ y := ⟨_, rfl, by split <;> omega⟩
    have fin : ∀ k : Bool, decide (1000000000000000000 ≤ y) = k → ∃ d, Φ_L_bag [.scr ns, .int (i : Int)] = .ret true d [.non, .non] ∧ BagA 0 d := fun k hk => by
      refine ⟨.lst [.int (if k = true then y else 0), .int (x % 2305843009213693951 * 54773 + 4703 * (i : Int) + 31), .int 0], ?_, ⟨_, _, _, rfl, by split <;> omega, by omega, by rw [p90]; omega, by omega, by omega⟩⟩
      clear p90 hab
      unfold Φ_L_bag F_L_bag
      cases cell with
      | true =>
        have hl : decide ((i : Int) < (ns.length : Int)) = true := decide_eq_true (hc.mp rfl)
        have hx : atI ns (i : Int) = some x := hx
        clear hc hi
        cases k <;> walk_at "ev"
      | false =>
        have hl : decide ((i : Int) < (ns.length : Int)) = false := decide_eq_false fun h => by
          have := hc.mpr h
          cases this
        have hx : x = 0 := by simpa using hx
        subst hx
        clear hc hi
        cases k <;> walk_at "ev"
    exact fin _ rfl
  by_cases h : (i : Int) < (ns.length : Int)
  · refine key (ns[i]'(by omega)) ⟨true, by simpa using h, ?_⟩
    rw [if_pos rfl]
    unfold atI ixN
    rw [if_pos (by omega), if_pos h]
    simp
  · exact key 0 ⟨false, by simpa using h, by simp⟩
def anys : List D := [.non, .bl true, .int 0, .int (-7), .int (10 ^ 39), .str "", .str "all", .tup [.int 0, .int 1], .lst [], .lst [.str "a", .non], .dk [] [], .tup [.str "once", .int 3, .int 1], .tup [.int 1, .str "lost", .str "taken"]]
theorem anys_at {r : Int} (h0 : 0 ≤ r) (h1 : r < 13) : ∃ v, oIx (.lst anys) (.int r) = some v ∧ v ∈ anys := by
  obtain ⟨n, rfl⟩ : ∃ n : Nat, r = (n : Int) := ⟨r.toNat, (Int.toNat_of_nonneg h0).symm⟩
  have hn : n < anys.length := by
    have : anys.length = 13 := rfl
    omega
  refine ⟨anys[n], ?_, List.getElem_mem hn⟩
  rw [oIx_lst]
  unfold atI ixN
  rw [if_pos (by omega), if_pos (by omega)]
  simp
theorem any_ok (k : Int) (bag : D) (hb : BagA k bag) (hk : k < 1000000) : ∃ v bag', Φ_L_any [bag] = .ret false v [bag'] ∧ v ∈ anys ∧ BagA (k + 1) bag' := by
  obtain ⟨r, b, e, hb', r0, r1⟩ := take_ok k 13 bag hb hk (by decide) (by decide)
  obtain ⟨v, hv, hm⟩ := anys_at r0 r1
  refine ⟨v, b, ?_, hm, hb'⟩
  have e0 := powOk (i := 10) (j := 39) 5 (by decide) (by decide) (by decide)
  rw [Bool.and_eq_true] at e0
  replace e0 := e0.2
  have p39 : (10 : Int) ^ (39 : Int).toNat = 10 ^ 39 := by decide
  unfold anys at hv
  clear hb hb' hm r0 r1 hk
  unfold Φ_L_any F_L_any
  walk_at "ev"
def fitB (k n : Nat) (d : D) : Bool := d.rok && (d.pyR.showable && (decide (d.pyR.depth ≤ k) && decide (d.pyR.shown.length ≤ n)))
theorem fitB_ok {k n : Nat} {d : D} (h : fitB k n d = true) : Fits k n d := by
  unfold fitB at h
  simp only [Bool.and_eq_true, decide_eq_true_eq] at h
  exact ⟨h.1, h.2.1, h.2.2.1, h.2.2.2⟩
theorem any_fits {v : D} (h : v ∈ anys) : Fits 5 200 v := by
  have key : ∀ v ∈ anys, fitB 5 200 v = true := by decide +kernel
  exact fitB_ok (key v h)
theorem fields_ok (x y : D) : Φ_L_fields [x, y] = .ret true (.lst (List.replicate 26 x)) [.non, .non] := by kernel_rfl
theorem seconds_ok (x y : D) : Φ_L_seconds [x, y] = .ret true (.lst (List.replicate 6 y)) [.non, .non] := by kernel_rfl
theorem rep26 (x : D) : oRep (.lst [x]) (.int 26) = some (.lst (List.replicate 26 x)) := by kernel_rfl
theorem rep6 (x : D) : oRep (.lst [x]) (.int 6) = some (.lst (List.replicate 6 x)) := by kernel_rfl
theorem l1_ok (s0 s1 s2 s3 s6 s7 s8 : Slot) (x y : D) : L_law_1 [s0, s1, s2, s3, .sh x, .sh y, s6, s7, s8, .un] = .val .nx [s0, s1, s2, s3, .sh x, .sh y, .sh (.int 18), .sh (.ex "Taken" [x]), .sh (.str "kind"), .un] := by kernel_rfl
theorem eq_text (t : Str) : oEqS true (.str t) (.str t) = some (.bl false) := by
  show some (D.bl (!decide (t = t))) = _
  rw [decide_eq_true rfl]
  rfl
theorem rep_repr {x : D} (h : x ∈ anys) (n : Nat) (hn : n ≤ 100) : ∃ t, oReprX (.lst (List.replicate n x)) = some (.str t) :=
  repr_fits (fits_lst (k := 5) (n := 200) fun d hd => by
    rw [List.eq_of_mem_replicate hd]
    exact any_fits h) (by omega) (by rw [List.length_replicate]; omega) rfl
theorem r1 {x y : D} (hx : x ∈ anys) (hy : y ∈ anys) (s0 s1 s2 s3 s6 s7 s8 s9 : Slot) : R_law_1 [s0, s1, s2, s3, .sh x, .sh y, s6, s7, s8, s9] = .val .nx [s0, s1, s2, s3, .sh x, .sh y, s6, s7, s8, s9] := by
  obtain ⟨t, ht⟩ := rep_repr hx 26 (by omega)
  obtain ⟨u, hu⟩ := rep_repr hy 6 (by omega)
  have q1 := eq_text t
  have q2 := eq_text u
  have e1 := fields_ok x y
  have e2 := seconds_ok x y
  have e3 := rep26 x
  have e4 := rep6 y
  clear hx hy
  generalize List.replicate 26 x = lx at *
  generalize List.replicate 6 y = ly at *
  unfold R_law_1
  generalize oReprX = o at ht hu ⊢
  generalize oEqS true = o2 at q1 q2 ⊢
  generalize oRep = o3 at e3 e4 ⊢
  walk_at "ev"
def InvB (sc : D) (k : Int) (env : List Slot) : Prop := ∃ bag s1 s3 s4 s5 s6 s7 s8, env = [.sh sc, s1, .ow bag, s3, s4, s5, s6, s7, s8, .un] ∧ BagA k bag
theorem b2 (sc bag : D) (s1 s3 s4 s5 s6 s7 s8 : Slot) (k : Int) (hb : BagA k bag) (hk : k < 500000) : ∃ env', B_law_2 [.sh sc, s1, .ow bag, s3, s4, s5, s6, s7, s8, .un] = .val .nx env' ∧ InvB sc (k + 2) env' := by
  obtain ⟨x, b1, e1, hx, hb1⟩ := any_ok k bag hb (by omega)
  obtain ⟨y, b2, e2, hy, hb2⟩ := any_ok (k + 1) b1 hb1 (by omega)
  have e3 : H_law_2 [.sh sc, s1, .ow bag, s3, s4, s5, s6, s7, s8, .un] = .val .nx [.sh sc, s1, .ow b2, s3, .sh x, .sh y, s6, s7, s8, .un] := by
    clear hb hb1 hb2 hx hy hk
    unfold H_law_2
    walk_at "ev"
  have e4 := l1_ok (.sh sc) s1 (.ow b2) s3 s6 s7 s8 x y
  have e5 := r1 hx hy (.sh sc) s1 (.ow b2) s3 (.sh (.int 18)) (.sh (.ex "Taken" [x])) (.sh (.str "kind")) .un
  exact ⟨_, seq7 e3 (seq7 e4 e5), b2, _, _, _, _, _, _, _, rfl, hb2.more (by omega)⟩
theorem loop_rng {p : Pat} {s : Ev Fl} {n : Nat} {env env' : List Slot} (hn : n ≤ 1000) (h : loopF p s (rangeD 0 n) env = .val .nx env') : fFor (fRng1 (fCons (fC (.int (n : Int))) fNil)) p s env = .val .nx env' := by
  unfold fFor
  rw [fRng1_one]
  show ((rng1 [.int (n : Int)] env).bind fun ds e => loopF p s ds e) = _
  rw [rng1_nat (by omega)]
  exact h
theorem l2 (sc : D) {env : List Slot} (h : InvB sc 0 env) : ∃ env', L_law_2 env = .val .nx env' ∧ InvB sc 6 env' := by
  obtain ⟨env', e, hi⟩ := loop_ok (p := .nm 3) (s := B_law_2) (ds := rangeD 0 3) (fun i env => i ≤ 3 ∧ InvB sc (2 * (i : Int)) env) (fun i d env hd hi => by
    obtain ⟨hl, rfl⟩ := rangeD_get hd
    obtain ⟨_, bag, s1, s3, s4, s5, s6, s7, s8, rfl, hb⟩ := hi
    obtain ⟨env', e, bag', t1, t3, t4, t5, t6, t7, t8, e', hb'⟩ := b2 sc bag s1 (.sh (.int (0 + (i : Int)))) s4 s5 s6 s7 s8 _ hb (by omega)
    exact ⟨_, env', rfl, .inl e, by omega, bag', t1, t3, t4, t5, t6, t7, t8, e', hb'.more (by omega)⟩) (env := env) ⟨by omega, by simpa using h⟩
  rw [rangeD_len] at hi
  exact ⟨env', loop_rng (n := 3) (by omega) e, hi.2⟩
def InvO (sc : D) (env : List Slot) : Prop := ∃ s1 s2 s3 s4 s5 s6 s7 s8, env = [.sh sc, s1, s2, s3, s4, s5, s6, s7, s8, .un]
theorem b3 (ns : List Int) (i : Nat) (hi : i < 1000) (s2 s3 s4 s5 s6 s7 s8 : Slot) : ∃ env', B_law_3 [.sh (.scr ns), .sh (.int (i : Int)), s2, s3, s4, s5, s6, s7, s8, .un] = .val .nx env' ∧ InvO (.scr ns) env' := by
  obtain ⟨d, e, hb⟩ := bag_ok ns i hi
  have e1 : H_law_3 [.sh (.scr ns), .sh (.int (i : Int)), s2, s3, s4, s5, s6, s7, s8, .un] = .val .nx [.sh (.scr ns), .sh (.int (i : Int)), .ow d, s3, s4, s5, s6, s7, s8, .un] := by
    clear hi hb
    unfold H_law_3
    walk_at "ev"
  obtain ⟨env', e2, bag, t1, t3, t4, t5, t6, t7, t8, rfl, hb1⟩ := l2 (.scr ns) ⟨d, .sh (.int (i : Int)), s3, s4, s5, s6, s7, s8, rfl, hb⟩
  exact ⟨_, seq7 e1 e2, _, _, _, _, _, _, _, _, rfl⟩
theorem many_cells (m : Nat) (h : m ≤ 1000) : ∃ n : Nat, n ≤ 3 ∧ ((o2 oMin [.int 3, .int (m : Int)]).bind fun x => o2 oMax [.int 1, x]) = some (.int (n : Int)) := by
  refine ⟨if 1 < min 3 m then min 3 m else 1, by split <;> omega, ?_⟩
  simp only [o2, oMin_int, oMax_int, Option.bind_some]
  congr 2
  split <;> split <;> split <;> omega
theorem l3 (ns : List Int) (hns : ns.length ≤ 63) {env : List Slot} (h : InvO (.scr ns) env) : ∃ env', L_law_3 env = .val .nx env' ∧ InvO (.scr ns) env' := by
  obtain ⟨n, hn, hc⟩ := many_cells ns.length (by omega)
  obtain ⟨env', e, hi⟩ := loop_ok (p := .nm 1) (s := B_law_3) (ds := rangeD 0 n) (fun i env => InvO (.scr ns) env) (fun i d env hd hi => by
    obtain ⟨hl, rfl⟩ := rangeD_get hd
    obtain ⟨s1, s2, s3, s4, s5, s6, s7, s8, rfl⟩ := hi
    obtain ⟨env', e, h'⟩ := b3 ns i (by omega) s2 s3 s4 s5 s6 s7 s8
    refine ⟨_, env', rfl, .inl ?_, h'⟩
    rw [Int.zero_add]
    exact e) (env := env) h
  refine ⟨env', ?_, hi⟩
  obtain ⟨s1, s2, s3, s4, s5, s6, s7, s8, rfl⟩ := h
  have hr := rng1_nat (n := n) (by omega)
  simp only [o2, oMin_int, oMax_int, Option.bind_some] at hc
  have hc := Option.some.inj hc
  clear hi hns hn
  unfold L_law_3
  generalize B_law_3 = bb at e ⊢
  walk_at "ev"
theorem law_true (ns : List Int) (h : ns.length ≤ 63) : ∃ l, Φ_law [.scr ns] = .ret false (.bl true) l := by
  obtain ⟨env', e, s1, s2, s3, s4, s5, s6, s7, s8, rfl⟩ := l3 ns h (env := [.sh (.scr ns), .un, .un, .un, .un, .un, .un, .un, .un, .un]) ⟨_, _, _, _, _, _, _, _, rfl⟩
  have e2 : R_law_4 [.sh (.scr ns), s1, s2, s3, s4, s5, s6, s7, s8, .un] = .val (.rt false (.bl true)) [.sh (.scr ns), s1, s2, s3, s4, s5, s6, s7, s8, .un] := rfl
  have : F_law [.sh (.scr ns), .un, .un, .un, .un, .un, .un, .un, .un, .un] = .val (.rt false (.bl true)) _ := seq7 e e2
  refine ⟨[.non], ?_⟩
  show ((Res.of [false] (F_law [.sh (.scr ns), .un, .un, .un, .un, .un, .un, .un, .un, .un])).quiet) = _
  rw [this]
  rfl
end K08
set_option maxRecDepth 100000
namespace K08
open PySem L2 Sb Vl
theorem bm_BadEnd : bmF "BadEnd" = [.type "ValueError", .type "Exception", .type "BaseException", .type "object"] := by kernel_rfl
theorem bm_BadFault : bmF "BadFault" = [.type "ValueError", .type "Exception", .type "BaseException", .type "object"] := by kernel_rfl
theorem bm_BadFrame : bmF "BadFrame" = [.type "ValueError", .type "Exception", .type "BaseException", .type "object"] := by kernel_rfl
theorem bm_BadText : bmF "BadText" = [.type "ValueError", .type "Exception", .type "BaseException", .type "object"] := by kernel_rfl
theorem bm_BadCommand : bmF "BadCommand" = [.type "ValueError", .type "Exception", .type "BaseException", .type "object"] := by kernel_rfl
theorem bm_NoPromise : bmF "NoPromise" = [.type "ValueError", .type "Exception", .type "BaseException", .type "object"] := by kernel_rfl
theorem bm_NoStation : bmF "NoStation" = [.type "KeyError", .type "LookupError", .type "Exception", .type "BaseException", .type "object"] := by kernel_rfl
theorem bm_NoName : bmF "NoName" = [.type "KeyError", .type "LookupError", .type "Exception", .type "BaseException", .type "object"] := by kernel_rfl
theorem bm_NoOutcome : bmF "NoOutcome" = [.type "LookupError", .type "Exception", .type "BaseException", .type "object"] := by kernel_rfl
theorem bm_NothingToUndo : bmF "NothingToUndo" = [.type "LookupError", .type "Exception", .type "BaseException", .type "object"] := by kernel_rfl
theorem bm_BadDeed : bmF "BadDeed" = [.type "IndexError", .type "LookupError", .type "Exception", .type "BaseException", .type "object"] := by kernel_rfl
theorem bm_Endless : bmF "Endless" = [.type "RuntimeError", .type "Exception", .type "BaseException", .type "object"] := by kernel_rfl
theorem bm_NothingWaits : bmF "NothingWaits" = [.type "RuntimeError", .type "Exception", .type "BaseException", .type "object"] := by kernel_rfl
theorem bm_NoHearer : bmF "NoHearer" = [.type "RuntimeError", .type "Exception", .type "BaseException", .type "object"] := by kernel_rfl
theorem bm_NoLine : bmF "NoLine" = [.type "RuntimeError", .type "Exception", .type "BaseException", .type "object"] := by kernel_rfl
theorem bm_TooMany : bmF "TooMany" = [.type "OverflowError", .type "ArithmeticError", .type "Exception", .type "BaseException", .type "object"] := by kernel_rfl
theorem bm_Unsound : bmF "Unsound" = [.type "ArithmeticError", .type "Exception", .type "BaseException", .type "object"] := by kernel_rfl
theorem bm_Unbounded : bmF "Unbounded" = [.type "ArithmeticError", .type "Exception", .type "BaseException", .type "object"] := by kernel_rfl
theorem bm_Taken : bmF "Taken" = [.type "TypeError", .type "Exception", .type "BaseException", .type "object"] := by kernel_rfl
theorem bm_pl (c : Str) (C : Addr) : (bmF c).contains (.ref C) = false := by
  by_cases z0 : c = "BadEnd"
  · rw [z0, bm_BadEnd]
    rfl
  by_cases z1 : c = "BadFault"
  · rw [z1, bm_BadFault]
    rfl
  by_cases z2 : c = "BadFrame"
  · rw [z2, bm_BadFrame]
    rfl
  by_cases z3 : c = "BadText"
  · rw [z3, bm_BadText]
    rfl
  by_cases z4 : c = "BadCommand"
  · rw [z4, bm_BadCommand]
    rfl
  by_cases z5 : c = "NoPromise"
  · rw [z5, bm_NoPromise]
    rfl
  by_cases z6 : c = "NoStation"
  · rw [z6, bm_NoStation]
    rfl
  by_cases z7 : c = "NoName"
  · rw [z7, bm_NoName]
    rfl
  by_cases z8 : c = "NoOutcome"
  · rw [z8, bm_NoOutcome]
    rfl
  by_cases z9 : c = "NothingToUndo"
  · rw [z9, bm_NothingToUndo]
    rfl
  by_cases z10 : c = "BadDeed"
  · rw [z10, bm_BadDeed]
    rfl
  by_cases z11 : c = "Endless"
  · rw [z11, bm_Endless]
    rfl
  by_cases z12 : c = "NothingWaits"
  · rw [z12, bm_NothingWaits]
    rfl
  by_cases z13 : c = "NoHearer"
  · rw [z13, bm_NoHearer]
    rfl
  by_cases z14 : c = "NoLine"
  · rw [z14, bm_NoLine]
    rfl
  by_cases z15 : c = "TooMany"
  · rw [z15, bm_TooMany]
    rfl
  by_cases z16 : c = "Unsound"
  · rw [z16, bm_Unsound]
    rfl
  by_cases z17 : c = "Unbounded"
  · rw [z17, bm_Unbounded]
    rfl
  by_cases z18 : c = "Taken"
  · rw [z18, bm_Taken]
    rfl
  unfold bmF
  rw [if_neg z0, if_neg z1, if_neg z2, if_neg z3, if_neg z4, if_neg z5, if_neg z6, if_neg z7, if_neg z8, if_neg z9, if_neg z10, if_neg z11, if_neg z12, if_neg z13, if_neg z14, if_neg z15, if_neg z16, if_neg z17, if_neg z18]
  rfl
end K08
set_option Elab.async false
set_option linter.all false
set_option maxRecDepth 100000
set_option maxHeartbeats 2000000
namespace Sb
open PySem PySem.Spec PySem.Calls PyProof.Rows L2
section
variable {P : Program} {w : World} {K : PySem.W.Frag} {mg mb : Str → Option Value} {k : Nat} {fa a : Addr} {fd : FuncData} {x : Str} {sp : Sp} {sh : Shared} {us : List Value} {ns : List Int}
/-- what the law's call comes to -/
def Good (sh : Shared) (r : Result) (s' : Shared) : Prop := r = .ok (.ret (.bool true)) ∧ OldK sh.heap s'.heap ∧ s'.os = sh.os ∧ AllBare s'.gens
/-- from a heap in which nothing but the script may be tracked -/
theorem law_at (kin : K.In sh.heap) (gl : sh.heap.Ns mainGlobals mg) (bl : sh.heap.Ns builtinsNs mb) (bb : ∀ y : Str, y ≠ "__name__" → mb y = bootBuiltins y) (nol : sh.heap.NoLimit) (g0 : sh.gens = #[])
    (ea : sh.heap.get? a = some { cls := .type "list", data := .seq us.toArray }) (hr : Room k callerA)
    (F : ∀ b : Heap, K.In b → b.Ns mainGlobals mg → FnG P w K mg b CX0 k fa fd [x] sp) (bind1 : ∀ (s : Shared) (u : Value), BindsTo s fd ⟨[u], []⟩ [(x, u)])
    (T : Hp) (only : Only T) (law : sp [.ref a] T (fun v _ => v = .bl true) fun _ _ _ => False) (ok : HOk P w T sh.heap) (alone : ∀ c, T c ≠ none → c = a) (away : T a ≠ none → K.lookup a = none) :
    codeAny (model P w) callerA (.call (.ref fa) ⟨[.ref a], []⟩) (Good sh) sh := by
  have keep1 : ∀ {c : Addr} {o : Obj}, sh.heap.get? c = some o → T c = none → (hidT sh.heap T).get? c = some o := fun e n => hidT_get e n
  -- a namespace is not the script
  have free1 : ∀ {c : Addr} {o : Obj} {en : Array DictEntry} {m : Nat}, sh.heap.get? c = some o → o.data = .dict en m → T c = none := by
    intro c o en m e d
    rcases ht : T c with _ | u
    · rfl
    · obtain rfl : c = a := alone c (by rw [ht]; exact Option.some_ne_none u)
      rw [ea] at e
      cases e
      exact absurd (show Data.seq us.toArray _ = Data.dict en m from d) (by intro z; cases z)
  have nsT : ∀ {c : Addr} {m : Str → Option Value}, sh.heap.Ns c m → (hidT sh.heap T).Ns c m := by
    rintro c m ⟨o, en, n, e, d, rest⟩
    exact ⟨o, en, n, keep1 e (free1 e d), d, rest⟩
  have kinT : K.In (hidT sh.heap T) := by
    intro c o e
    refine keep1 (kin c o e) ?_
    rcases ht : T c with _ | u
    · rfl
    · have hn : T c ≠ none := by rw [ht]; exact Option.some_ne_none u
      obtain rfl : c = a := alone c hn
      rw [away hn] at e
      cases e
  have md : Mod K mg (hidT sh.heap T) := by
    obtain ⟨mc, q1, q2⟩ := nol
    exact ⟨kinT, nsT gl, ⟨mb, nsT bl, bb⟩, ⟨mc, nsT q1, q2⟩⟩
  have none1 : ∀ c : Addr, c ∉ ([] : List Addr) := fun c z => by cases z
  have env : Env0 P w K mg (hidT sh.heap T) callerA [] sh T := ⟨rfl, md, fun _ _ e => of_hidT e, Nat.le_of_eq (hidT_size _ _), trivial, fun c z => absurd z (none1 c), ok, .of_eq g0⟩
  have run := (F _ kinT (nsT gl)).go callerA [] sh T ⟨[.ref a], []⟩ [.ref a] [.ref a] _ _ rfl hr env (bind1 sh (.ref a)) (.cons rfl .nil) law
  refine codeAny_mono run fun r s' z => ?_
  match r, z with
  | .error e, z => exact (show False from z).elim
  | .ok .next, z => exact (show False from z).elim
  | .ok .brk, z => exact (show False from z).elim
  | .ok .cont, z => exact (show False from z).elim
  | .ok (.ret u), ⟨v, T', os, bare, un, ok', rv, q⟩ =>
    have q' : v = .bl true := q
    subst q'
    obtain rfl : u = Value.bool true := rv
    refine ⟨rfl, OldK.of_keep fun c o e => ?_, os, bare⟩
    rcases ht : T c with _ | h
    · exact un.keep c o e ht (none1 c) (none1 c)
    · rcases only c with z | ⟨ob, ys, z⟩
      · rw [ht] at z
        cases z
      · obtain ⟨z1, _⟩ := ok c _ z
        obtain ⟨z2, _⟩ := ok' c _ (un.frzs c ob _ z)
        rw [e] at z1
        cases z1
        exact z2
/-- the law's promise, at the heap behind the top -/
theorem lawG (kin : K.In sh.heap) (gl : sh.heap.Ns mainGlobals mg) (bl : sh.heap.Ns builtinsNs mb) (bb : ∀ y : Str, y ≠ "__name__" → mb y = bootBuiltins y) (nol : sh.heap.NoLimit) (g0 : sh.gens = #[])
    (ea : sh.heap.get? a = some { cls := .type "list", data := .seq us.toArray }) (inn : IntsAre us ns) (short : ns.length ≤ sizeLine) (hr : Room k callerA)
    (F : ∀ b : Heap, K.In b → b.Ns mainGlobals mg → FnG P w K mg b CX0 k fa fd [x] sp) (bind1 : ∀ (s : Shared) (u : Value), BindsTo s fd ⟨[u], []⟩ [(x, u)])
    (law : ∀ T : Hp, Only T → SqL K T a (ns.map V.int) → sp [.ref a] T (fun v _ => v = .bl true) fun _ _ _ => False) :
    codeAny (model P w) callerA (.call (.ref fa) ⟨[.ref a], []⟩) (Good sh) sh := by
  have rv := vals_ints inn
  have len := inn.length
  rcases hk : K.lookup a with _ | o
  · have on : Only (fun c => if c = a then some (.frz { cls := .type "list", data := .seq us.toArray } (.lst (ns.map V.int))) else none) := fun c => by
      by_cases e : c = a
      · exact .inr ⟨_, _, if_pos e⟩
      · exact .inl (if_neg e)
    refine law_at kin gl bl bb nol g0 ea hr F bind1 _ on (law _ on (.inl (.inr ⟨_, if_pos rfl⟩))) (fun c u z => ?_) (fun c z => ?_) fun _ => hk
    · by_cases e : c = a
      · have z' := (if_pos e).symm.trans z
        cases z'
        subst e
        exact ⟨ea, by rw [List.length_map]; exact short, us, _, rv, ea⟩
      · have z' := (if_neg e).symm.trans z
        cases z'
    · by_cases e : c = a
      · exact e
      · exact absurd (if_neg e) z
  · have e := kin a o hk
    rw [ea] at e
    cases e
    have on : Only (fun _ => none) := fun _ => .inl rfl
    exact law_at kin gl bl bb nol g0 ea hr F bind1 _ on (law _ on (.inr ⟨_, us.toArray, _, hk, rfl, rfl, rfl, by rw [List.size_toArray, len]; exact short, by simpa using rv⟩)) (fun c u z => by
      have z' : (none : Option HO) = some u := z
      cases z') (fun c z => absurd rfl z) fun z => absurd rfl z
end
/-- the goal that k_head leaves (case hc) -/
theorem walkG {l : PySem.W.OpenLaw} {n k : Nat} {q : Program} {loose : List Str} {XP : (Str → Option Value) → Heap → Prop} {YP : World → Heap → Prop} {d : DefRec} {K : Params → PySem.W.Frag} {sp : World → Sp} {x : Str}
    (most : l.most = some n) (small : n ≤ sizeLine) (plain : d.params.defaults = []) (hr : Room k callerA) (kin : ∀ (w : World) (h : Heap), YP w h → (K w.params).In h)
    (F : ∀ (w : World) (mg : Str → Option Value) (fa : Addr) (h : Heap), (K w.params).In h → h.Ns mainGlobals mg → mg d.name = some (.ref fa) →
      ∃ fd : FuncData, (∀ (s : Shared) (u : Value), BindsTo s fd ⟨[u], []⟩ [(x, u)]) ∧ ∀ b : Heap, (K w.params).In b → b.Ns mainGlobals mg → FnG l.prog w (K w.params) mg b CX0 k fa fd [x] (sp w))
    (law : ∀ (w : World) (T : Hp) (a : Addr) (ns : List Int), ns.length ≤ n → Only T → SqL (K w.params) T a (ns.map V.int) → sp w [.ref a] T (fun v _ => v = .bl true) fun _ _ _ => False) :
    PySem.W.WalkO q loose XP YP l.row.toRowW d [] (fun f vs => PySem.call f vs) :=
  Att.attach_call most plain fun w s0 s1 mg mb fa o pm cd doc a us ns G Y _ _ _ name ea inn len g0 => by
    have kx := kin w _ Y
    obtain ⟨fd, b1, hF⟩ := F w mg fa _ kx G.T.g name
    exact lawG kx G.T.g G.T.b G.T.builtins G.T.nolimit g0 ea inn (Nat.le_trans len small) hr hF b1 fun T on sq => law w T a ns len on sq
end Sb
set_option Elab.async false
set_option linter.all false
set_option maxRecDepth 100000
set_option maxHeartbeats 4000000
namespace K08
open PySem L2 Sb Vl Pg
abbrev sBadCommand_init : Stmt := inClass (top 5) 0
theorem scBadCommand_init : FnScope ["self", "command"] ["self", "command"] (defScope sBadCommand_init) := ⟨rfl, rfl, rfl, by decide +kernel, rfl, by decide +kernel, by decide +kernel⟩
abbrev sBadDeed_init : Stmt := inClass (top 11) 0
theorem scBadDeed_init : FnScope ["self", "index"] ["self", "index"] (defScope sBadDeed_init) := ⟨rfl, rfl, rfl, by decide +kernel, rfl, by decide +kernel, by decide +kernel⟩
abbrev sBadEnd_init : Stmt := inClass (top 1) 0
theorem scBadEnd_init : FnScope ["self", "part", "row"] ["self", "part", "row"] (defScope sBadEnd_init) := ⟨rfl, rfl, rfl, by decide +kernel, rfl, by decide +kernel, by decide +kernel⟩
abbrev sBadFault_init : Stmt := inClass (top 2) 0
theorem scBadFault_init : FnScope ["self", "bit", "station"] ["self", "bit", "station"] (defScope sBadFault_init) := ⟨rfl, rfl, rfl, by decide +kernel, rfl, by decide +kernel, by decide +kernel⟩
abbrev sBadFrame_init : Stmt := inClass (top 3) 0
theorem scBadFrame_init : FnScope ["self", "frame"] ["self", "frame"] (defScope sBadFrame_init) := ⟨rfl, rfl, rfl, by decide +kernel, rfl, by decide +kernel, by decide +kernel⟩
abbrev sBadText_init : Stmt := inClass (top 4) 0
theorem scBadText_init : FnScope ["self", "text"] ["self", "text"] (defScope sBadText_init) := ⟨rfl, rfl, rfl, by decide +kernel, rfl, by decide +kernel, by decide +kernel⟩
abbrev sEndless_init : Stmt := inClass (top 12) 0
theorem scEndless_init : FnScope ["self", "bit", "ring"] ["self", "bit", "ring"] (defScope sEndless_init) := ⟨rfl, rfl, rfl, by decide +kernel, rfl, by decide +kernel, by decide +kernel⟩
abbrev sNoHearer_init : Stmt := inClass (top 14) 0
theorem scNoHearer_init : FnScope ["self"] ["self"] (defScope sNoHearer_init) := ⟨rfl, rfl, rfl, by decide +kernel, rfl, by decide +kernel, by decide +kernel⟩
abbrev sNoLine_init : Stmt := inClass (top 15) 0
theorem scNoLine_init : FnScope ["self"] ["self"] (defScope sNoLine_init) := ⟨rfl, rfl, rfl, by decide +kernel, rfl, by decide +kernel, by decide +kernel⟩
abbrev sNoName_init : Stmt := inClass (top 8) 0
theorem scNoName_init : FnScope ["self", "name"] ["self", "name"] (defScope sNoName_init) := ⟨rfl, rfl, rfl, by decide +kernel, rfl, by decide +kernel, by decide +kernel⟩
abbrev sNoOutcome_init : Stmt := inClass (top 9) 0
theorem scNoOutcome_init : FnScope ["self", "outcome"] ["self", "outcome"] (defScope sNoOutcome_init) := ⟨rfl, rfl, rfl, by decide +kernel, rfl, by decide +kernel, by decide +kernel⟩
abbrev sNoPromise_init : Stmt := inClass (top 6) 0
theorem scNoPromise_init : FnScope ["self", "promise"] ["self", "promise"] (defScope sNoPromise_init) := ⟨rfl, rfl, rfl, by decide +kernel, rfl, by decide +kernel, by decide +kernel⟩
abbrev sNoStation_init : Stmt := inClass (top 7) 0
theorem scNoStation_init : FnScope ["self", "station"] ["self", "station"] (defScope sNoStation_init) := ⟨rfl, rfl, rfl, by decide +kernel, rfl, by decide +kernel, by decide +kernel⟩
abbrev sNothingToUndo_init : Stmt := inClass (top 10) 0
theorem scNothingToUndo_init : FnScope ["self"] ["self"] (defScope sNothingToUndo_init) := ⟨rfl, rfl, rfl, by decide +kernel, rfl, by decide +kernel, by decide +kernel⟩
abbrev sNothingWaits_init : Stmt := inClass (top 13) 0
theorem scNothingWaits_init : FnScope ["self"] ["self"] (defScope sNothingWaits_init) := ⟨rfl, rfl, rfl, by decide +kernel, rfl, by decide +kernel, by decide +kernel⟩
abbrev sTaken_init : Stmt := inClass (top 19) 0
theorem scTaken_init : FnScope ["self", "frame"] ["self", "frame"] (defScope sTaken_init) := ⟨rfl, rfl, rfl, by decide +kernel, rfl, by decide +kernel, by decide +kernel⟩
abbrev sTooMany_init : Stmt := inClass (top 16) 0
theorem scTooMany_init : FnScope ["self", "limit"] ["self", "limit"] (defScope sTooMany_init) := ⟨rfl, rfl, rfl, by decide +kernel, rfl, by decide +kernel, by decide +kernel⟩
abbrev sUnbounded_init : Stmt := inClass (top 18) 0
theorem scUnbounded_init : FnScope ["self"] ["self"] (defScope sUnbounded_init) := ⟨rfl, rfl, rfl, by decide +kernel, rfl, by decide +kernel, by decide +kernel⟩
abbrev sUnsound_init : Stmt := inClass (top 17) 0
theorem scUnsound_init : FnScope ["self"] ["self"] (defScope sUnsound_init) := ⟨rfl, rfl, rfl, by decide +kernel, rfl, by decide +kernel, by decide +kernel⟩
theorem ok_BadCommand_init {P : Program} {w : World} {K : PySem.W.Frag} {mg : Str → Option Value} {base : Heap} {f C : Addr} {fd : FuncData} (F : Fun K "__init__" "BadCommand.__init__" sBadCommand_init f fd) (c : OexU K C) (n1 : PySem.W.findIn K (.ref C) "command" = some none) :
    FnOk P w K mg base CX0 1 f fd ["self", "command"] (spXI C ["command"]) := by
  refine F.ok scBadCommand_init (fun vs H Q E h => ?_) (fun cdv A outer s H vs Q E hr h => ?_)
  · obtain ⟨a, ws, rfl, hl, _⟩ := h
    simp [hl]
  · obtain ⟨a, v1, rfl, ea, k⟩ := spXI_one h
    refine ⟨_, (pss_one (ps_ostU (pv 0) (pv 1))), ?_⟩
    refine ⟨_, rfl, _, rfl, a, C, rfl, c, n1, .inl ⟨ea, fun dx hdx ne => ?_⟩⟩
    exact k _ dx upd_same hdx ne (by rw [upd_ne ne]; exact upd_same) fun b o e hb => by
      rw [upd_ne hb, upd_ne (ne_of_none e hdx)]
      exact e
theorem ok_BadDeed_init {P : Program} {w : World} {K : PySem.W.Frag} {mg : Str → Option Value} {base : Heap} {f C : Addr} {fd : FuncData} (F : Fun K "__init__" "BadDeed.__init__" sBadDeed_init f fd) (c : OexU K C) (n1 : PySem.W.findIn K (.ref C) "index" = some none) :
    FnOk P w K mg base CX0 1 f fd ["self", "index"] (spXI C ["index"]) := by
  refine F.ok scBadDeed_init (fun vs H Q E h => ?_) (fun cdv A outer s H vs Q E hr h => ?_)
  · obtain ⟨a, ws, rfl, hl, _⟩ := h
    simp [hl]
  · obtain ⟨a, v1, rfl, ea, k⟩ := spXI_one h
    refine ⟨_, (pss_one (ps_ostU (pv 0) (pv 1))), ?_⟩
    refine ⟨_, rfl, _, rfl, a, C, rfl, c, n1, .inl ⟨ea, fun dx hdx ne => ?_⟩⟩
    exact k _ dx upd_same hdx ne (by rw [upd_ne ne]; exact upd_same) fun b o e hb => by
      rw [upd_ne hb, upd_ne (ne_of_none e hdx)]
      exact e
theorem ok_BadEnd_init {P : Program} {w : World} {K : PySem.W.Frag} {mg : Str → Option Value} {base : Heap} {f C : Addr} {fd : FuncData} (F : Fun K "__init__" "BadEnd.__init__" sBadEnd_init f fd) (c : OexU K C) (n1 : PySem.W.findIn K (.ref C) "part" = some none) (n2 : PySem.W.findIn K (.ref C) "row" = some none) :
    FnOk P w K mg base CX0 1 f fd ["self", "part", "row"] (spXI C ["row", "part"]) := by
  refine F.ok scBadEnd_init (fun vs H Q E h => ?_) (fun cdv A outer s H vs Q E hr h => ?_)
  · obtain ⟨a, ws, rfl, hl, _⟩ := h
    simp [hl]
  · obtain ⟨a, v1, v2, rfl, ea, k⟩ := spXI_two h
    refine ⟨_, (pss_cons (ps_ostU (pv 0) (pv 1)) (pss_one (ps_ostU (pv 0) (pv 2)))), ?_⟩
    refine ⟨_, rfl, _, rfl, a, C, rfl, c, n1, .inl ⟨ea, fun dx hdx ne => ?_⟩⟩
    refine ⟨_, rfl, _, rfl, a, C, rfl, c, n2, .inr ⟨dx, _, upd_same, by rw [upd_ne ne]; exact upd_same, (by show 1 ≤ 900; decide), ?_⟩⟩
    exact k _ dx (by rw [upd_ne (Ne.symm ne)]; exact upd_same) hdx ne upd_same fun b o e hb => by
      rw [upd_ne (ne_of_none e hdx), upd_ne hb, upd_ne (ne_of_none e hdx)]
      exact e
theorem ok_BadFault_init {P : Program} {w : World} {K : PySem.W.Frag} {mg : Str → Option Value} {base : Heap} {f C : Addr} {fd : FuncData} (F : Fun K "__init__" "BadFault.__init__" sBadFault_init f fd) (c : OexU K C) (n1 : PySem.W.findIn K (.ref C) "bit" = some none) (n2 : PySem.W.findIn K (.ref C) "station" = some none) :
    FnOk P w K mg base CX0 1 f fd ["self", "bit", "station"] (spXI C ["station", "bit"]) := by
  refine F.ok scBadFault_init (fun vs H Q E h => ?_) (fun cdv A outer s H vs Q E hr h => ?_)
  · obtain ⟨a, ws, rfl, hl, _⟩ := h
    simp [hl]
  · obtain ⟨a, v1, v2, rfl, ea, k⟩ := spXI_two h
    refine ⟨_, (pss_cons (ps_ostU (pv 0) (pv 1)) (pss_one (ps_ostU (pv 0) (pv 2)))), ?_⟩
    refine ⟨_, rfl, _, rfl, a, C, rfl, c, n1, .inl ⟨ea, fun dx hdx ne => ?_⟩⟩
    refine ⟨_, rfl, _, rfl, a, C, rfl, c, n2, .inr ⟨dx, _, upd_same, by rw [upd_ne ne]; exact upd_same, (by show 1 ≤ 900; decide), ?_⟩⟩
    exact k _ dx (by rw [upd_ne (Ne.symm ne)]; exact upd_same) hdx ne upd_same fun b o e hb => by
      rw [upd_ne (ne_of_none e hdx), upd_ne hb, upd_ne (ne_of_none e hdx)]
      exact e
theorem ok_BadFrame_init {P : Program} {w : World} {K : PySem.W.Frag} {mg : Str → Option Value} {base : Heap} {f C : Addr} {fd : FuncData} (F : Fun K "__init__" "BadFrame.__init__" sBadFrame_init f fd) (c : OexU K C) (n1 : PySem.W.findIn K (.ref C) "frame" = some none) :
    FnOk P w K mg base CX0 1 f fd ["self", "frame"] (spXI C ["frame"]) := by
  refine F.ok scBadFrame_init (fun vs H Q E h => ?_) (fun cdv A outer s H vs Q E hr h => ?_)
  · obtain ⟨a, ws, rfl, hl, _⟩ := h
    simp [hl]
  · obtain ⟨a, v1, rfl, ea, k⟩ := spXI_one h
    refine ⟨_, (pss_one (ps_ostU (pv 0) (pv 1))), ?_⟩
    refine ⟨_, rfl, _, rfl, a, C, rfl, c, n1, .inl ⟨ea, fun dx hdx ne => ?_⟩⟩
    exact k _ dx upd_same hdx ne (by rw [upd_ne ne]; exact upd_same) fun b o e hb => by
      rw [upd_ne hb, upd_ne (ne_of_none e hdx)]
      exact e
theorem ok_BadText_init {P : Program} {w : World} {K : PySem.W.Frag} {mg : Str → Option Value} {base : Heap} {f C : Addr} {fd : FuncData} (F : Fun K "__init__" "BadText.__init__" sBadText_init f fd) (c : OexU K C) (n1 : PySem.W.findIn K (.ref C) "text" = some none) :
    FnOk P w K mg base CX0 1 f fd ["self", "text"] (spXI C ["text"]) := by
  refine F.ok scBadText_init (fun vs H Q E h => ?_) (fun cdv A outer s H vs Q E hr h => ?_)
  · obtain ⟨a, ws, rfl, hl, _⟩ := h
    simp [hl]
  · obtain ⟨a, v1, rfl, ea, k⟩ := spXI_one h
    refine ⟨_, (pss_one (ps_ostU (pv 0) (pv 1))), ?_⟩
    refine ⟨_, rfl, _, rfl, a, C, rfl, c, n1, .inl ⟨ea, fun dx hdx ne => ?_⟩⟩
    exact k _ dx upd_same hdx ne (by rw [upd_ne ne]; exact upd_same) fun b o e hb => by
      rw [upd_ne hb, upd_ne (ne_of_none e hdx)]
      exact e
theorem ok_Endless_init {P : Program} {w : World} {K : PySem.W.Frag} {mg : Str → Option Value} {base : Heap} {f C : Addr} {fd : FuncData} (F : Fun K "__init__" "Endless.__init__" sEndless_init f fd) (c : OexU K C) (n1 : PySem.W.findIn K (.ref C) "bit" = some none) (n2 : PySem.W.findIn K (.ref C) "ring" = some none) :
    FnOk P w K mg base CX0 1 f fd ["self", "bit", "ring"] (spXI C ["ring", "bit"]) := by
  refine F.ok scEndless_init (fun vs H Q E h => ?_) (fun cdv A outer s H vs Q E hr h => ?_)
  · obtain ⟨a, ws, rfl, hl, _⟩ := h
    simp [hl]
  · obtain ⟨a, v1, v2, rfl, ea, k⟩ := spXI_two h
    refine ⟨_, (pss_cons (ps_ostU (pv 0) (pv 1)) (pss_one (ps_ostU (pv 0) (pv 2)))), ?_⟩
    refine ⟨_, rfl, _, rfl, a, C, rfl, c, n1, .inl ⟨ea, fun dx hdx ne => ?_⟩⟩
    refine ⟨_, rfl, _, rfl, a, C, rfl, c, n2, .inr ⟨dx, _, upd_same, by rw [upd_ne ne]; exact upd_same, (by show 1 ≤ 900; decide), ?_⟩⟩
    exact k _ dx (by rw [upd_ne (Ne.symm ne)]; exact upd_same) hdx ne upd_same fun b o e hb => by
      rw [upd_ne (ne_of_none e hdx), upd_ne hb, upd_ne (ne_of_none e hdx)]
      exact e
theorem ok_NoHearer_init {P : Program} {w : World} {K : PySem.W.Frag} {mg : Str → Option Value} {base : Heap} {f : Addr} {fd : FuncData} (F : Fun K "__init__" "NoHearer.__init__" sNoHearer_init f fd) :
    FnOk P w K mg base CX0 1 f fd ["self"] sp0 := by
  refine F.ok scNoHearer_init (fun vs H Q E h => ?_) (fun cdv A outer s H vs Q E hr h => ?_)
  · obtain ⟨a, rfl, _⟩ := h
    rfl
  · obtain ⟨a, rfl, k⟩ := h
    exact ⟨_, pss_one ps_pass, k⟩
theorem ok_NoLine_init {P : Program} {w : World} {K : PySem.W.Frag} {mg : Str → Option Value} {base : Heap} {f : Addr} {fd : FuncData} (F : Fun K "__init__" "NoLine.__init__" sNoLine_init f fd) :
    FnOk P w K mg base CX0 1 f fd ["self"] sp0 := by
  refine F.ok scNoLine_init (fun vs H Q E h => ?_) (fun cdv A outer s H vs Q E hr h => ?_)
  · obtain ⟨a, rfl, _⟩ := h
    rfl
  · obtain ⟨a, rfl, k⟩ := h
    exact ⟨_, pss_one ps_pass, k⟩
theorem ok_NoName_init {P : Program} {w : World} {K : PySem.W.Frag} {mg : Str → Option Value} {base : Heap} {f C : Addr} {fd : FuncData} (F : Fun K "__init__" "NoName.__init__" sNoName_init f fd) (c : OexU K C) (n1 : PySem.W.findIn K (.ref C) "name" = some none) :
    FnOk P w K mg base CX0 1 f fd ["self", "name"] (spXI C ["name"]) := by
  refine F.ok scNoName_init (fun vs H Q E h => ?_) (fun cdv A outer s H vs Q E hr h => ?_)
  · obtain ⟨a, ws, rfl, hl, _⟩ := h
    simp [hl]
  · obtain ⟨a, v1, rfl, ea, k⟩ := spXI_one h
    refine ⟨_, (pss_one (ps_ostU (pv 0) (pv 1))), ?_⟩
    refine ⟨_, rfl, _, rfl, a, C, rfl, c, n1, .inl ⟨ea, fun dx hdx ne => ?_⟩⟩
    exact k _ dx upd_same hdx ne (by rw [upd_ne ne]; exact upd_same) fun b o e hb => by
      rw [upd_ne hb, upd_ne (ne_of_none e hdx)]
      exact e
theorem ok_NoOutcome_init {P : Program} {w : World} {K : PySem.W.Frag} {mg : Str → Option Value} {base : Heap} {f C : Addr} {fd : FuncData} (F : Fun K "__init__" "NoOutcome.__init__" sNoOutcome_init f fd) (c : OexU K C) (n1 : PySem.W.findIn K (.ref C) "outcome" = some none) :
    FnOk P w K mg base CX0 1 f fd ["self", "outcome"] (spXI C ["outcome"]) := by
  refine F.ok scNoOutcome_init (fun vs H Q E h => ?_) (fun cdv A outer s H vs Q E hr h => ?_)
  · obtain ⟨a, ws, rfl, hl, _⟩ := h
    simp [hl]
  · obtain ⟨a, v1, rfl, ea, k⟩ := spXI_one h
    refine ⟨_, (pss_one (ps_ostU (pv 0) (pv 1))), ?_⟩
    refine ⟨_, rfl, _, rfl, a, C, rfl, c, n1, .inl ⟨ea, fun dx hdx ne => ?_⟩⟩
    exact k _ dx upd_same hdx ne (by rw [upd_ne ne]; exact upd_same) fun b o e hb => by
      rw [upd_ne hb, upd_ne (ne_of_none e hdx)]
      exact e
theorem ok_NoPromise_init {P : Program} {w : World} {K : PySem.W.Frag} {mg : Str → Option Value} {base : Heap} {f C : Addr} {fd : FuncData} (F : Fun K "__init__" "NoPromise.__init__" sNoPromise_init f fd) (c : OexU K C) (n1 : PySem.W.findIn K (.ref C) "promise" = some none) :
    FnOk P w K mg base CX0 1 f fd ["self", "promise"] (spXI C ["promise"]) := by
  refine F.ok scNoPromise_init (fun vs H Q E h => ?_) (fun cdv A outer s H vs Q E hr h => ?_)
  · obtain ⟨a, ws, rfl, hl, _⟩ := h
    simp [hl]
  · obtain ⟨a, v1, rfl, ea, k⟩ := spXI_one h
    refine ⟨_, (pss_one (ps_ostU (pv 0) (pv 1))), ?_⟩
    refine ⟨_, rfl, _, rfl, a, C, rfl, c, n1, .inl ⟨ea, fun dx hdx ne => ?_⟩⟩
    exact k _ dx upd_same hdx ne (by rw [upd_ne ne]; exact upd_same) fun b o e hb => by
      rw [upd_ne hb, upd_ne (ne_of_none e hdx)]
      exact e
theorem ok_NoStation_init {P : Program} {w : World} {K : PySem.W.Frag} {mg : Str → Option Value} {base : Heap} {f C : Addr} {fd : FuncData} (F : Fun K "__init__" "NoStation.__init__" sNoStation_init f fd) (c : OexU K C) (n1 : PySem.W.findIn K (.ref C) "station" = some none) :
    FnOk P w K mg base CX0 1 f fd ["self", "station"] (spXI C ["station"]) := by
  refine F.ok scNoStation_init (fun vs H Q E h => ?_) (fun cdv A outer s H vs Q E hr h => ?_)
  · obtain ⟨a, ws, rfl, hl, _⟩ := h
    simp [hl]
  · obtain ⟨a, v1, rfl, ea, k⟩ := spXI_one h
    refine ⟨_, (pss_one (ps_ostU (pv 0) (pv 1))), ?_⟩
    refine ⟨_, rfl, _, rfl, a, C, rfl, c, n1, .inl ⟨ea, fun dx hdx ne => ?_⟩⟩
    exact k _ dx upd_same hdx ne (by rw [upd_ne ne]; exact upd_same) fun b o e hb => by
      rw [upd_ne hb, upd_ne (ne_of_none e hdx)]
      exact e
theorem ok_NothingToUndo_init {P : Program} {w : World} {K : PySem.W.Frag} {mg : Str → Option Value} {base : Heap} {f : Addr} {fd : FuncData} (F : Fun K "__init__" "NothingToUndo.__init__" sNothingToUndo_init f fd) :
    FnOk P w K mg base CX0 1 f fd ["self"] sp0 := by
  refine F.ok scNothingToUndo_init (fun vs H Q E h => ?_) (fun cdv A outer s H vs Q E hr h => ?_)
  · obtain ⟨a, rfl, _⟩ := h
    rfl
  · obtain ⟨a, rfl, k⟩ := h
    exact ⟨_, pss_one ps_pass, k⟩
theorem ok_NothingWaits_init {P : Program} {w : World} {K : PySem.W.Frag} {mg : Str → Option Value} {base : Heap} {f : Addr} {fd : FuncData} (F : Fun K "__init__" "NothingWaits.__init__" sNothingWaits_init f fd) :
    FnOk P w K mg base CX0 1 f fd ["self"] sp0 := by
  refine F.ok scNothingWaits_init (fun vs H Q E h => ?_) (fun cdv A outer s H vs Q E hr h => ?_)
  · obtain ⟨a, rfl, _⟩ := h
    rfl
  · obtain ⟨a, rfl, k⟩ := h
    exact ⟨_, pss_one ps_pass, k⟩
theorem ok_Taken_init {P : Program} {w : World} {K : PySem.W.Frag} {mg : Str → Option Value} {base : Heap} {f C : Addr} {fd : FuncData} (F : Fun K "__init__" "Taken.__init__" sTaken_init f fd) (c : OexU K C) (n1 : PySem.W.findIn K (.ref C) "frame" = some none) :
    FnOk P w K mg base CX0 1 f fd ["self", "frame"] (spXI C ["frame"]) := by
  refine F.ok scTaken_init (fun vs H Q E h => ?_) (fun cdv A outer s H vs Q E hr h => ?_)
  · obtain ⟨a, ws, rfl, hl, _⟩ := h
    simp [hl]
  · obtain ⟨a, v1, rfl, ea, k⟩ := spXI_one h
    refine ⟨_, (pss_one (ps_ostU (pv 0) (pv 1))), ?_⟩
    refine ⟨_, rfl, _, rfl, a, C, rfl, c, n1, .inl ⟨ea, fun dx hdx ne => ?_⟩⟩
    exact k _ dx upd_same hdx ne (by rw [upd_ne ne]; exact upd_same) fun b o e hb => by
      rw [upd_ne hb, upd_ne (ne_of_none e hdx)]
      exact e
theorem ok_TooMany_init {P : Program} {w : World} {K : PySem.W.Frag} {mg : Str → Option Value} {base : Heap} {f C : Addr} {fd : FuncData} (F : Fun K "__init__" "TooMany.__init__" sTooMany_init f fd) (c : OexU K C) (n1 : PySem.W.findIn K (.ref C) "limit" = some none) :
    FnOk P w K mg base CX0 1 f fd ["self", "limit"] (spXI C ["limit"]) := by
  refine F.ok scTooMany_init (fun vs H Q E h => ?_) (fun cdv A outer s H vs Q E hr h => ?_)
  · obtain ⟨a, ws, rfl, hl, _⟩ := h
    simp [hl]
  · obtain ⟨a, v1, rfl, ea, k⟩ := spXI_one h
    refine ⟨_, (pss_one (ps_ostU (pv 0) (pv 1))), ?_⟩
    refine ⟨_, rfl, _, rfl, a, C, rfl, c, n1, .inl ⟨ea, fun dx hdx ne => ?_⟩⟩
    exact k _ dx upd_same hdx ne (by rw [upd_ne ne]; exact upd_same) fun b o e hb => by
      rw [upd_ne hb, upd_ne (ne_of_none e hdx)]
      exact e
theorem ok_Unbounded_init {P : Program} {w : World} {K : PySem.W.Frag} {mg : Str → Option Value} {base : Heap} {f : Addr} {fd : FuncData} (F : Fun K "__init__" "Unbounded.__init__" sUnbounded_init f fd) :
    FnOk P w K mg base CX0 1 f fd ["self"] sp0 := by
  refine F.ok scUnbounded_init (fun vs H Q E h => ?_) (fun cdv A outer s H vs Q E hr h => ?_)
  · obtain ⟨a, rfl, _⟩ := h
    rfl
  · obtain ⟨a, rfl, k⟩ := h
    exact ⟨_, pss_one ps_pass, k⟩
theorem ok_Unsound_init {P : Program} {w : World} {K : PySem.W.Frag} {mg : Str → Option Value} {base : Heap} {f : Addr} {fd : FuncData} (F : Fun K "__init__" "Unsound.__init__" sUnsound_init f fd) :
    FnOk P w K mg base CX0 1 f fd ["self"] sp0 := by
  refine F.ok scUnsound_init (fun vs H Q E h => ?_) (fun cdv A outer s H vs Q E hr h => ?_)
  · obtain ⟨a, rfl, _⟩ := h
    rfl
  · obtain ⟨a, rfl, k⟩ := h
    exact ⟨_, pss_one ps_pass, k⟩
theorem all_mk {l : PySem.W.OpenLaw} {w : World} {K : PySem.W.Frag} {h : Heap} {mg : Str → Option Value} {fa : Addr} (X : K.In h) (G : h.Ns mainGlobals mg) (hfa : mg "law" = some (.ref fa))
    {C_BadCommand : Addr}
    {C_BadDeed : Addr}
    {C_BadEnd : Addr}
    {C_BadFault : Addr}
    {C_BadFrame : Addr}
    {C_BadText : Addr}
    {C_Endless : Addr}
    {C_NoHearer : Addr}
    {C_NoLine : Addr}
    {C_NoName : Addr}
    {C_NoOutcome : Addr}
    {C_NoPromise : Addr}
    {C_NoStation : Addr}
    {C_NothingToUndo : Addr}
    {C_NothingWaits : Addr}
    {C_Taken : Addr}
    {C_TooMany : Addr}
    {C_Unbounded : Addr}
    {C_Unsound : Addr}
    {f1 : Addr} {oc1 dc1 pm1 cd1 ct1 : Value} {od1 an1 : Option Addr} {sl1 : Array (Option Value)} {kV1 : Value}
    {f2 : Addr} {oc2 dc2 pm2 cd2 ct2 : Value} {od2 an2 : Option Addr} {sl2 : Array (Option Value)} {kV2 : Value}
    {f3 : Addr} {oc3 dc3 pm3 cd3 ct3 : Value} {od3 an3 : Option Addr} {sl3 : Array (Option Value)} {kV3 : Value}
    {f4 : Addr} {oc4 dc4 pm4 cd4 ct4 : Value} {od4 an4 : Option Addr} {sl4 : Array (Option Value)} {kV4 : Value}
    {f5 : Addr} {oc5 dc5 pm5 cd5 ct5 : Value} {od5 an5 : Option Addr} {sl5 : Array (Option Value)} {kV5 : Value}
    {f6 : Addr} {oc6 dc6 pm6 cd6 ct6 : Value} {od6 an6 : Option Addr} {sl6 : Array (Option Value)} {kV6 : Value}
    {f7 : Addr} {oc7 dc7 pm7 cd7 ct7 : Value} {od7 an7 : Option Addr} {sl7 : Array (Option Value)} {kV7 : Value}
    {f8 : Addr} {oc8 dc8 pm8 cd8 ct8 : Value} {od8 an8 : Option Addr} {sl8 : Array (Option Value)} {kV8 : Value}
    {f9 : Addr} {oc9 dc9 pm9 cd9 ct9 : Value} {od9 an9 : Option Addr} {sl9 : Array (Option Value)} {kV9 : Value}
    {f10 : Addr} {oc10 dc10 pm10 cd10 ct10 : Value} {od10 an10 : Option Addr} {sl10 : Array (Option Value)} {kV10 : Value}
    {f11 : Addr} {oc11 dc11 pm11 cd11 ct11 : Value} {od11 an11 : Option Addr} {sl11 : Array (Option Value)} {kV11 : Value}
    {f12 : Addr} {oc12 dc12 pm12 cd12 ct12 : Value} {od12 an12 : Option Addr} {sl12 : Array (Option Value)} {kV12 : Value}
    {f13 : Addr} {oc13 dc13 pm13 cd13 ct13 : Value} {od13 an13 : Option Addr} {sl13 : Array (Option Value)} {kV13 : Value}
    {f14 : Addr} {oc14 dc14 pm14 cd14 ct14 : Value} {od14 an14 : Option Addr} {sl14 : Array (Option Value)} {kV14 : Value}
    {f15 : Addr} {oc15 dc15 pm15 cd15 ct15 : Value} {od15 an15 : Option Addr} {sl15 : Array (Option Value)} {kV15 : Value}
    {f16 : Addr} {oc16 dc16 pm16 cd16 ct16 : Value} {od16 an16 : Option Addr} {sl16 : Array (Option Value)} {kV16 : Value}
    {f17 : Addr} {oc17 dc17 pm17 cd17 ct17 : Value} {od17 an17 : Option Addr} {sl17 : Array (Option Value)} {kV17 : Value}
    {f18 : Addr} {oc18 dc18 pm18 cd18 ct18 : Value} {od18 an18 : Option Addr} {sl18 : Array (Option Value)} {kV18 : Value}
    {f19 : Addr} {oc19 dc19 pm19 cd19 ct19 : Value} {od19 an19 : Option Addr} {sl19 : Array (Option Value)} {kV19 : Value}
    {f20 : Addr} {oc20 dc20 pm20 cd20 ct20 : Value} {od20 an20 : Option Addr} {sl20 : Array (Option Value)} {kV20 : Value}
    {f21 : Addr} {oc21 dc21 pm21 cd21 ct21 : Value} {od21 an21 : Option Addr} {sl21 : Array (Option Value)} {kV21 : Value}
    {f22 : Addr} {oc22 dc22 pm22 cd22 ct22 : Value} {od22 an22 : Option Addr} {sl22 : Array (Option Value)} {kV22 : Value}
    {f23 : Addr} {oc23 dc23 pm23 cd23 ct23 : Value} {od23 an23 : Option Addr} {sl23 : Array (Option Value)} {kV23 : Value}
    {f24 : Addr} {oc24 dc24 pm24 cd24 ct24 : Value} {od24 an24 : Option Addr} {sl24 : Array (Option Value)} {kV24 : Value}
    {f25 : Addr} {oc25 dc25 pm25 cd25 ct25 : Value} {od25 an25 : Option Addr} {sl25 : Array (Option Value)} {kV25 : Value}
    {f26 : Addr} {oc26 dc26 pm26 cd26 ct26 : Value} {od26 an26 : Option Addr} {sl26 : Array (Option Value)} {kV26 : Value}
    {f27 : Addr} {oc27 dc27 pm27 cd27 ct27 : Value} {od27 an27 : Option Addr} {sl27 : Array (Option Value)} {kV27 : Value}
    {f28 : Addr} {oc28 dc28 pm28 cd28 ct28 : Value} {od28 an28 : Option Addr} {sl28 : Array (Option Value)} {kV28 : Value}
    {q_BadCommand : Str} {N_BadCommand : Addr} {bs_BadCommand : List Value} {sn_BadCommand : List Str} {sub_BadCommand : List Value} {ab_BadCommand : Bool} {col_BadCommand : Option Bool} {dd_BadCommand : Option Addr} {m0_BadCommand m1_BadCommand m2_BadCommand m3_BadCommand m5_BadCommand : Option Value}
    {q_BadDeed : Str} {N_BadDeed : Addr} {bs_BadDeed : List Value} {sn_BadDeed : List Str} {sub_BadDeed : List Value} {ab_BadDeed : Bool} {col_BadDeed : Option Bool} {dd_BadDeed : Option Addr} {m0_BadDeed m1_BadDeed m2_BadDeed m3_BadDeed m5_BadDeed : Option Value}
    {q_BadEnd : Str} {N_BadEnd : Addr} {bs_BadEnd : List Value} {sn_BadEnd : List Str} {sub_BadEnd : List Value} {ab_BadEnd : Bool} {col_BadEnd : Option Bool} {dd_BadEnd : Option Addr} {m0_BadEnd m1_BadEnd m2_BadEnd m3_BadEnd m5_BadEnd : Option Value}
    {q_BadFault : Str} {N_BadFault : Addr} {bs_BadFault : List Value} {sn_BadFault : List Str} {sub_BadFault : List Value} {ab_BadFault : Bool} {col_BadFault : Option Bool} {dd_BadFault : Option Addr} {m0_BadFault m1_BadFault m2_BadFault m3_BadFault m5_BadFault : Option Value}
    {q_BadFrame : Str} {N_BadFrame : Addr} {bs_BadFrame : List Value} {sn_BadFrame : List Str} {sub_BadFrame : List Value} {ab_BadFrame : Bool} {col_BadFrame : Option Bool} {dd_BadFrame : Option Addr} {m0_BadFrame m1_BadFrame m2_BadFrame m3_BadFrame m5_BadFrame : Option Value}
    {q_BadText : Str} {N_BadText : Addr} {bs_BadText : List Value} {sn_BadText : List Str} {sub_BadText : List Value} {ab_BadText : Bool} {col_BadText : Option Bool} {dd_BadText : Option Addr} {m0_BadText m1_BadText m2_BadText m3_BadText m5_BadText : Option Value}
    {q_Endless : Str} {N_Endless : Addr} {bs_Endless : List Value} {sn_Endless : List Str} {sub_Endless : List Value} {ab_Endless : Bool} {col_Endless : Option Bool} {dd_Endless : Option Addr} {m0_Endless m1_Endless m2_Endless m3_Endless m5_Endless : Option Value}
    {q_NoHearer : Str} {N_NoHearer : Addr} {bs_NoHearer : List Value} {sn_NoHearer : List Str} {sub_NoHearer : List Value} {ab_NoHearer : Bool} {col_NoHearer : Option Bool} {dd_NoHearer : Option Addr} {m0_NoHearer m1_NoHearer m2_NoHearer m3_NoHearer m5_NoHearer : Option Value}
    {q_NoLine : Str} {N_NoLine : Addr} {bs_NoLine : List Value} {sn_NoLine : List Str} {sub_NoLine : List Value} {ab_NoLine : Bool} {col_NoLine : Option Bool} {dd_NoLine : Option Addr} {m0_NoLine m1_NoLine m2_NoLine m3_NoLine m5_NoLine : Option Value}
    {q_NoName : Str} {N_NoName : Addr} {bs_NoName : List Value} {sn_NoName : List Str} {sub_NoName : List Value} {ab_NoName : Bool} {col_NoName : Option Bool} {dd_NoName : Option Addr} {m0_NoName m1_NoName m2_NoName m3_NoName m5_NoName : Option Value}
    {q_NoOutcome : Str} {N_NoOutcome : Addr} {bs_NoOutcome : List Value} {sn_NoOutcome : List Str} {sub_NoOutcome : List Value} {ab_NoOutcome : Bool} {col_NoOutcome : Option Bool} {dd_NoOutcome : Option Addr} {m0_NoOutcome m1_NoOutcome m2_NoOutcome m3_NoOutcome m5_NoOutcome : Option Value}
    {q_NoPromise : Str} {N_NoPromise : Addr} {bs_NoPromise : List Value} {sn_NoPromise : List Str} {sub_NoPromise : List Value} {ab_NoPromise : Bool} {col_NoPromise : Option Bool} {dd_NoPromise : Option Addr} {m0_NoPromise m1_NoPromise m2_NoPromise m3_NoPromise m5_NoPromise : Option Value}
    {q_NoStation : Str} {N_NoStation : Addr} {bs_NoStation : List Value} {sn_NoStation : List Str} {sub_NoStation : List Value} {ab_NoStation : Bool} {col_NoStation : Option Bool} {dd_NoStation : Option Addr} {m0_NoStation m1_NoStation m2_NoStation m3_NoStation m5_NoStation : Option Value}
    {q_NothingToUndo : Str} {N_NothingToUndo : Addr} {bs_NothingToUndo : List Value} {sn_NothingToUndo : List Str} {sub_NothingToUndo : List Value} {ab_NothingToUndo : Bool} {col_NothingToUndo : Option Bool} {dd_NothingToUndo : Option Addr} {m0_NothingToUndo m1_NothingToUndo m2_NothingToUndo m3_NothingToUndo m5_NothingToUndo : Option Value}
    {q_NothingWaits : Str} {N_NothingWaits : Addr} {bs_NothingWaits : List Value} {sn_NothingWaits : List Str} {sub_NothingWaits : List Value} {ab_NothingWaits : Bool} {col_NothingWaits : Option Bool} {dd_NothingWaits : Option Addr} {m0_NothingWaits m1_NothingWaits m2_NothingWaits m3_NothingWaits m5_NothingWaits : Option Value}
    {q_Taken : Str} {N_Taken : Addr} {bs_Taken : List Value} {sn_Taken : List Str} {sub_Taken : List Value} {ab_Taken : Bool} {col_Taken : Option Bool} {dd_Taken : Option Addr} {m0_Taken m1_Taken m2_Taken m3_Taken m5_Taken : Option Value}
    {q_TooMany : Str} {N_TooMany : Addr} {bs_TooMany : List Value} {sn_TooMany : List Str} {sub_TooMany : List Value} {ab_TooMany : Bool} {col_TooMany : Option Bool} {dd_TooMany : Option Addr} {m0_TooMany m1_TooMany m2_TooMany m3_TooMany m5_TooMany : Option Value}
    {q_Unbounded : Str} {N_Unbounded : Addr} {bs_Unbounded : List Value} {sn_Unbounded : List Str} {sub_Unbounded : List Value} {ab_Unbounded : Bool} {col_Unbounded : Option Bool} {dd_Unbounded : Option Addr} {m0_Unbounded m1_Unbounded m2_Unbounded m3_Unbounded m5_Unbounded : Option Value}
    {q_Unsound : Str} {N_Unsound : Addr} {bs_Unsound : List Value} {sn_Unsound : List Str} {sub_Unsound : List Value} {ab_Unsound : Bool} {col_Unsound : Option Bool} {dd_Unsound : Option Addr} {m0_Unsound m1_Unsound m2_Unsound m3_Unsound m5_Unsound : Option Value}
    (a1 : PySem.W.findIn K (.ref C_BadCommand) "__init__" = some (some (.ref f1))) (i1 : PySem.W.isFn K (.ref f1) = true)
    (l1 : K.lookup f1 = some ⟨oc1, od1, .func (PySem.W.fnOf "__init__" "BadCommand.__init__" (defArgs sBadCommand_init) (defBody sBadCommand_init) (defScope sBadCommand_init) .none kV1 dc1 pm1 an1 cd1 ct1), sl1⟩) (c1 : PySem.W.codeIn K cd1 "BadCommand.__init__" = true) (k1 : PySem.W.keepIn K (.ref f1) = true)
    (a2 : PySem.W.findIn K (.ref C_BadDeed) "__init__" = some (some (.ref f2))) (i2 : PySem.W.isFn K (.ref f2) = true)
    (l2 : K.lookup f2 = some ⟨oc2, od2, .func (PySem.W.fnOf "__init__" "BadDeed.__init__" (defArgs sBadDeed_init) (defBody sBadDeed_init) (defScope sBadDeed_init) .none kV2 dc2 pm2 an2 cd2 ct2), sl2⟩) (c2 : PySem.W.codeIn K cd2 "BadDeed.__init__" = true) (k2 : PySem.W.keepIn K (.ref f2) = true)
    (a3 : PySem.W.findIn K (.ref C_BadEnd) "__init__" = some (some (.ref f3))) (i3 : PySem.W.isFn K (.ref f3) = true)
    (l3 : K.lookup f3 = some ⟨oc3, od3, .func (PySem.W.fnOf "__init__" "BadEnd.__init__" (defArgs sBadEnd_init) (defBody sBadEnd_init) (defScope sBadEnd_init) .none kV3 dc3 pm3 an3 cd3 ct3), sl3⟩) (c3 : PySem.W.codeIn K cd3 "BadEnd.__init__" = true) (k3 : PySem.W.keepIn K (.ref f3) = true)
    (a4 : PySem.W.findIn K (.ref C_BadFault) "__init__" = some (some (.ref f4))) (i4 : PySem.W.isFn K (.ref f4) = true)
    (l4 : K.lookup f4 = some ⟨oc4, od4, .func (PySem.W.fnOf "__init__" "BadFault.__init__" (defArgs sBadFault_init) (defBody sBadFault_init) (defScope sBadFault_init) .none kV4 dc4 pm4 an4 cd4 ct4), sl4⟩) (c4 : PySem.W.codeIn K cd4 "BadFault.__init__" = true) (k4 : PySem.W.keepIn K (.ref f4) = true)
    (a5 : PySem.W.findIn K (.ref C_BadFrame) "__init__" = some (some (.ref f5))) (i5 : PySem.W.isFn K (.ref f5) = true)
    (l5 : K.lookup f5 = some ⟨oc5, od5, .func (PySem.W.fnOf "__init__" "BadFrame.__init__" (defArgs sBadFrame_init) (defBody sBadFrame_init) (defScope sBadFrame_init) .none kV5 dc5 pm5 an5 cd5 ct5), sl5⟩) (c5 : PySem.W.codeIn K cd5 "BadFrame.__init__" = true) (k5 : PySem.W.keepIn K (.ref f5) = true)
    (a6 : PySem.W.findIn K (.ref C_BadText) "__init__" = some (some (.ref f6))) (i6 : PySem.W.isFn K (.ref f6) = true)
    (l6 : K.lookup f6 = some ⟨oc6, od6, .func (PySem.W.fnOf "__init__" "BadText.__init__" (defArgs sBadText_init) (defBody sBadText_init) (defScope sBadText_init) .none kV6 dc6 pm6 an6 cd6 ct6), sl6⟩) (c6 : PySem.W.codeIn K cd6 "BadText.__init__" = true) (k6 : PySem.W.keepIn K (.ref f6) = true)
    (a7 : PySem.W.findIn K (.ref C_Endless) "__init__" = some (some (.ref f7))) (i7 : PySem.W.isFn K (.ref f7) = true)
    (l7 : K.lookup f7 = some ⟨oc7, od7, .func (PySem.W.fnOf "__init__" "Endless.__init__" (defArgs sEndless_init) (defBody sEndless_init) (defScope sEndless_init) .none kV7 dc7 pm7 an7 cd7 ct7), sl7⟩) (c7 : PySem.W.codeIn K cd7 "Endless.__init__" = true) (k7 : PySem.W.keepIn K (.ref f7) = true)
    (a8 : PySem.W.findIn K (.ref C_NoHearer) "__init__" = some (some (.ref f8))) (i8 : PySem.W.isFn K (.ref f8) = true)
    (l8 : K.lookup f8 = some ⟨oc8, od8, .func (PySem.W.fnOf "__init__" "NoHearer.__init__" (defArgs sNoHearer_init) (defBody sNoHearer_init) (defScope sNoHearer_init) .none kV8 dc8 pm8 an8 cd8 ct8), sl8⟩) (c8 : PySem.W.codeIn K cd8 "NoHearer.__init__" = true) (k8 : PySem.W.keepIn K (.ref f8) = true)
    (a9 : PySem.W.findIn K (.ref C_NoLine) "__init__" = some (some (.ref f9))) (i9 : PySem.W.isFn K (.ref f9) = true)
    (l9 : K.lookup f9 = some ⟨oc9, od9, .func (PySem.W.fnOf "__init__" "NoLine.__init__" (defArgs sNoLine_init) (defBody sNoLine_init) (defScope sNoLine_init) .none kV9 dc9 pm9 an9 cd9 ct9), sl9⟩) (c9 : PySem.W.codeIn K cd9 "NoLine.__init__" = true) (k9 : PySem.W.keepIn K (.ref f9) = true)
    (a10 : PySem.W.findIn K (.ref C_NoName) "__init__" = some (some (.ref f10))) (i10 : PySem.W.isFn K (.ref f10) = true)
    (l10 : K.lookup f10 = some ⟨oc10, od10, .func (PySem.W.fnOf "__init__" "NoName.__init__" (defArgs sNoName_init) (defBody sNoName_init) (defScope sNoName_init) .none kV10 dc10 pm10 an10 cd10 ct10), sl10⟩) (c10 : PySem.W.codeIn K cd10 "NoName.__init__" = true) (k10 : PySem.W.keepIn K (.ref f10) = true)
    (a11 : PySem.W.findIn K (.ref C_NoOutcome) "__init__" = some (some (.ref f11))) (i11 : PySem.W.isFn K (.ref f11) = true)
    (l11 : K.lookup f11 = some ⟨oc11, od11, .func (PySem.W.fnOf "__init__" "NoOutcome.__init__" (defArgs sNoOutcome_init) (defBody sNoOutcome_init) (defScope sNoOutcome_init) .none kV11 dc11 pm11 an11 cd11 ct11), sl11⟩) (c11 : PySem.W.codeIn K cd11 "NoOutcome.__init__" = true) (k11 : PySem.W.keepIn K (.ref f11) = true)
    (a12 : PySem.W.findIn K (.ref C_NoPromise) "__init__" = some (some (.ref f12))) (i12 : PySem.W.isFn K (.ref f12) = true)
    (l12 : K.lookup f12 = some ⟨oc12, od12, .func (PySem.W.fnOf "__init__" "NoPromise.__init__" (defArgs sNoPromise_init) (defBody sNoPromise_init) (defScope sNoPromise_init) .none kV12 dc12 pm12 an12 cd12 ct12), sl12⟩) (c12 : PySem.W.codeIn K cd12 "NoPromise.__init__" = true) (k12 : PySem.W.keepIn K (.ref f12) = true)
    (a13 : PySem.W.findIn K (.ref C_NoStation) "__init__" = some (some (.ref f13))) (i13 : PySem.W.isFn K (.ref f13) = true)
    (l13 : K.lookup f13 = some ⟨oc13, od13, .func (PySem.W.fnOf "__init__" "NoStation.__init__" (defArgs sNoStation_init) (defBody sNoStation_init) (defScope sNoStation_init) .none kV13 dc13 pm13 an13 cd13 ct13), sl13⟩) (c13 : PySem.W.codeIn K cd13 "NoStation.__init__" = true) (k13 : PySem.W.keepIn K (.ref f13) = true)
    (a14 : PySem.W.findIn K (.ref C_NothingToUndo) "__init__" = some (some (.ref f14))) (i14 : PySem.W.isFn K (.ref f14) = true)
    (l14 : K.lookup f14 = some ⟨oc14, od14, .func (PySem.W.fnOf "__init__" "NothingToUndo.__init__" (defArgs sNothingToUndo_init) (defBody sNothingToUndo_init) (defScope sNothingToUndo_init) .none kV14 dc14 pm14 an14 cd14 ct14), sl14⟩) (c14 : PySem.W.codeIn K cd14 "NothingToUndo.__init__" = true) (k14 : PySem.W.keepIn K (.ref f14) = true)
    (a15 : PySem.W.findIn K (.ref C_NothingWaits) "__init__" = some (some (.ref f15))) (i15 : PySem.W.isFn K (.ref f15) = true)
    (l15 : K.lookup f15 = some ⟨oc15, od15, .func (PySem.W.fnOf "__init__" "NothingWaits.__init__" (defArgs sNothingWaits_init) (defBody sNothingWaits_init) (defScope sNothingWaits_init) .none kV15 dc15 pm15 an15 cd15 ct15), sl15⟩) (c15 : PySem.W.codeIn K cd15 "NothingWaits.__init__" = true) (k15 : PySem.W.keepIn K (.ref f15) = true)
    (a16 : PySem.W.findIn K (.ref C_Taken) "__init__" = some (some (.ref f16))) (i16 : PySem.W.isFn K (.ref f16) = true)
    (l16 : K.lookup f16 = some ⟨oc16, od16, .func (PySem.W.fnOf "__init__" "Taken.__init__" (defArgs sTaken_init) (defBody sTaken_init) (defScope sTaken_init) .none kV16 dc16 pm16 an16 cd16 ct16), sl16⟩) (c16 : PySem.W.codeIn K cd16 "Taken.__init__" = true) (k16 : PySem.W.keepIn K (.ref f16) = true)
    (a17 : PySem.W.findIn K (.ref C_TooMany) "__init__" = some (some (.ref f17))) (i17 : PySem.W.isFn K (.ref f17) = true)
    (l17 : K.lookup f17 = some ⟨oc17, od17, .func (PySem.W.fnOf "__init__" "TooMany.__init__" (defArgs sTooMany_init) (defBody sTooMany_init) (defScope sTooMany_init) .none kV17 dc17 pm17 an17 cd17 ct17), sl17⟩) (c17 : PySem.W.codeIn K cd17 "TooMany.__init__" = true) (k17 : PySem.W.keepIn K (.ref f17) = true)
    (a18 : PySem.W.findIn K (.ref C_Unbounded) "__init__" = some (some (.ref f18))) (i18 : PySem.W.isFn K (.ref f18) = true)
    (l18 : K.lookup f18 = some ⟨oc18, od18, .func (PySem.W.fnOf "__init__" "Unbounded.__init__" (defArgs sUnbounded_init) (defBody sUnbounded_init) (defScope sUnbounded_init) .none kV18 dc18 pm18 an18 cd18 ct18), sl18⟩) (c18 : PySem.W.codeIn K cd18 "Unbounded.__init__" = true) (k18 : PySem.W.keepIn K (.ref f18) = true)
    (a19 : PySem.W.findIn K (.ref C_Unsound) "__init__" = some (some (.ref f19))) (i19 : PySem.W.isFn K (.ref f19) = true)
    (l19 : K.lookup f19 = some ⟨oc19, od19, .func (PySem.W.fnOf "__init__" "Unsound.__init__" (defArgs sUnsound_init) (defBody sUnsound_init) (defScope sUnsound_init) .none kV19 dc19 pm19 an19 cd19 ct19), sl19⟩) (c19 : PySem.W.codeIn K cd19 "Unsound.__init__" = true) (k19 : PySem.W.keepIn K (.ref f19) = true)
    (a20 : PySem.W.nsIn K mainGlobals "_law_bag" = some (some (.ref f20)))
    (l20 : K.lookup f20 = some ⟨oc20, od20, .func (PySem.W.fnOf "_law_bag" "_law_bag" (defArgs sL_bag) (defBody sL_bag) (defScope sL_bag) .none kV20 dc20 pm20 an20 cd20 ct20), sl20⟩) (c20 : PySem.W.codeIn K cd20 "_law_bag" = true) (k20 : PySem.W.keepIn K (.ref f20) = true)
    (a21 : PySem.W.nsIn K mainGlobals "_law_take" = some (some (.ref f21)))
    (l21 : K.lookup f21 = some ⟨oc21, od21, .func (PySem.W.fnOf "_law_take" "_law_take" (defArgs sL_take) (defBody sL_take) (defScope sL_take) .none kV21 dc21 pm21 an21 cd21 ct21), sl21⟩) (c21 : PySem.W.codeIn K cd21 "_law_take" = true) (k21 : PySem.W.keepIn K (.ref f21) = true)
    (a22 : PySem.W.nsIn K mainGlobals "_law_any" = some (some (.ref f22)))
    (l22 : K.lookup f22 = some ⟨oc22, od22, .func (PySem.W.fnOf "_law_any" "_law_any" (defArgs sL_any) (defBody sL_any) (defScope sL_any) .none kV22 dc22 pm22 an22 cd22 ct22), sl22⟩) (c22 : PySem.W.codeIn K cd22 "_law_any" = true) (k22 : PySem.W.keepIn K (.ref f22) = true)
    (a23 : PySem.W.nsIn K mainGlobals "_law_family" = some (some (.ref f23)))
    (l23 : K.lookup f23 = some ⟨oc23, od23, .func (PySem.W.fnOf "_law_family" "_law_family" (defArgs sL_family) (defBody sL_family) (defScope sL_family) .none kV23 dc23 pm23 an23 cd23 ct23), sl23⟩) (c23 : PySem.W.codeIn K cd23 "_law_family" = true) (k23 : PySem.W.keepIn K (.ref f23) = true)
    (a24 : PySem.W.nsIn K mainGlobals "_law_base" = some (some (.ref f24)))
    (l24 : K.lookup f24 = some ⟨oc24, od24, .func (PySem.W.fnOf "_law_base" "_law_base" (defArgs sL_base) (defBody sL_base) (defScope sL_base) .none kV24 dc24 pm24 an24 cd24 ct24), sl24⟩) (c24 : PySem.W.codeIn K cd24 "_law_base" = true) (k24 : PySem.W.keepIn K (.ref f24) = true)
    (a25 : PySem.W.nsIn K mainGlobals "_law_made" = some (some (.ref f25)))
    (l25 : K.lookup f25 = some ⟨oc25, od25, .func (PySem.W.fnOf "_law_made" "_law_made" (defArgs sL_made) (defBody sL_made) (defScope sL_made) .none kV25 dc25 pm25 an25 cd25 ct25), sl25⟩) (c25 : PySem.W.codeIn K cd25 "_law_made" = true) (k25 : PySem.W.keepIn K (.ref f25) = true)
    (a26 : PySem.W.nsIn K mainGlobals "_law_fields" = some (some (.ref f26)))
    (l26 : K.lookup f26 = some ⟨oc26, od26, .func (PySem.W.fnOf "_law_fields" "_law_fields" (defArgs sL_fields) (defBody sL_fields) (defScope sL_fields) .none kV26 dc26 pm26 an26 cd26 ct26), sl26⟩) (c26 : PySem.W.codeIn K cd26 "_law_fields" = true) (k26 : PySem.W.keepIn K (.ref f26) = true)
    (a27 : PySem.W.nsIn K mainGlobals "_law_seconds" = some (some (.ref f27)))
    (l27 : K.lookup f27 = some ⟨oc27, od27, .func (PySem.W.fnOf "_law_seconds" "_law_seconds" (defArgs sL_seconds) (defBody sL_seconds) (defScope sL_seconds) .none kV27 dc27 pm27 an27 cd27 ct27), sl27⟩) (c27 : PySem.W.codeIn K cd27 "_law_seconds" = true) (k27 : PySem.W.keepIn K (.ref f27) = true)
    (a28 : PySem.W.nsIn K mainGlobals "law" = some (some (.ref f28)))
    (l28 : K.lookup f28 = some ⟨oc28, od28, .func (PySem.W.fnOf "law" "law" (defArgs slaw) (defBody slaw) (defScope slaw) .none kV28 dc28 pm28 an28 cd28 ct28), sl28⟩) (c28 : PySem.W.codeIn K cd28 "law" = true) (k28 : PySem.W.keepIn K (.ref f28) = true)
    (z_ArithmeticError : PySem.W.nsIn K mainGlobals "ArithmeticError" = some none)
    (z_IndexError : PySem.W.nsIn K mainGlobals "IndexError" = some none)
    (z_KeyError : PySem.W.nsIn K mainGlobals "KeyError" = some none)
    (z_LookupError : PySem.W.nsIn K mainGlobals "LookupError" = some none)
    (z_OverflowError : PySem.W.nsIn K mainGlobals "OverflowError" = some none)
    (z_RuntimeError : PySem.W.nsIn K mainGlobals "RuntimeError" = some none)
    (z_TypeError : PySem.W.nsIn K mainGlobals "TypeError" = some none)
    (z_ValueError : PySem.W.nsIn K mainGlobals "ValueError" = some none)
    (z_ZeroDivisionError : PySem.W.nsIn K mainGlobals "ZeroDivisionError" = some none)
    (z_abs : PySem.W.nsIn K mainGlobals "abs" = some none)
    (z_enumerate : PySem.W.nsIn K mainGlobals "enumerate" = some none)
    (z_int : PySem.W.nsIn K mainGlobals "int" = some none)
    (z_isinstance : PySem.W.nsIn K mainGlobals "isinstance" = some none)
    (z_len : PySem.W.nsIn K mainGlobals "len" = some none)
    (z_max : PySem.W.nsIn K mainGlobals "max" = some none)
    (z_min : PySem.W.nsIn K mainGlobals "min" = some none)
    (z_range : PySem.W.nsIn K mainGlobals "range" = some none)
    (z_repr : PySem.W.nsIn K mainGlobals "repr" = some none)
    (x_BadCommand : PySem.W.nsIn K mainGlobals "BadCommand" = some (some (.ref C_BadCommand)))
    (xL_BadCommand : K.lookup C_BadCommand = some (excClassObj "BadCommand" q_BadCommand C_BadCommand N_BadCommand bs_BadCommand [.type "ValueError", .type "Exception", .type "BaseException", .type "object"] true sn_BadCommand sub_BadCommand ab_BadCommand col_BadCommand dd_BadCommand m0_BadCommand m1_BadCommand m2_BadCommand m3_BadCommand m5_BadCommand "ValueError.__new__"))
    (xsa_BadCommand : PySem.W.findIn K (.ref C_BadCommand) "__setattr__" = some (some (.builtin "object.__setattr__")))
    (xt1_BadCommand : PySem.W.typeIn K (.ref f1) = some (.type "function"))
    (xkC_BadCommand : PySem.W.keepIn K (.ref C_BadCommand) = true)
    (xeC_BadCommand : PySem.W.subIn K (.ref C_BadCommand) (.type "BaseException") = some true)
    (xtC_BadCommand : PySem.W.typeIn K (.ref C_BadCommand) = some (.type "type"))
    (xga_BadCommand : PySem.W.findIn K (.ref C_BadCommand) "__getattribute__" = some (some (.builtin "BaseException.__getattribute__")))
    (xgg_BadCommand : PySem.W.findIn K (.ref C_BadCommand) "__getattr__" = some none)
    (xhC_BadCommand : PySem.W.hasDictIn K C_BadCommand = true)
    (xca_BadCommand : PySem.W.findIn K (.ref C_BadCommand) "__class__" = some (some (.builtin "object.__class__")))
    (xmo_BadCommand : PySem.W.mroIn K C_BadCommand (.type "object") = some true)
    (wg : PySem.W.specialIn K (.builtin "object.__class__") "__get__" = some (some (.builtin "getset_descriptor.__get__")))
    (wk : PySem.W.takesIn K (.builtin "object.__class__") = some true)
    (xn_BadCommand_command : PySem.W.findIn K (.ref C_BadCommand) "command" = some none)
    (x_BadDeed : PySem.W.nsIn K mainGlobals "BadDeed" = some (some (.ref C_BadDeed)))
    (xL_BadDeed : K.lookup C_BadDeed = some (excClassObj "BadDeed" q_BadDeed C_BadDeed N_BadDeed bs_BadDeed [.type "IndexError", .type "LookupError", .type "Exception", .type "BaseException", .type "object"] true sn_BadDeed sub_BadDeed ab_BadDeed col_BadDeed dd_BadDeed m0_BadDeed m1_BadDeed m2_BadDeed m3_BadDeed m5_BadDeed "IndexError.__new__"))
    (xsa_BadDeed : PySem.W.findIn K (.ref C_BadDeed) "__setattr__" = some (some (.builtin "object.__setattr__")))
    (xt1_BadDeed : PySem.W.typeIn K (.ref f2) = some (.type "function"))
    (xkC_BadDeed : PySem.W.keepIn K (.ref C_BadDeed) = true)
    (xeC_BadDeed : PySem.W.subIn K (.ref C_BadDeed) (.type "BaseException") = some true)
    (xtC_BadDeed : PySem.W.typeIn K (.ref C_BadDeed) = some (.type "type"))
    (xga_BadDeed : PySem.W.findIn K (.ref C_BadDeed) "__getattribute__" = some (some (.builtin "BaseException.__getattribute__")))
    (xgg_BadDeed : PySem.W.findIn K (.ref C_BadDeed) "__getattr__" = some none)
    (xhC_BadDeed : PySem.W.hasDictIn K C_BadDeed = true)
    (xca_BadDeed : PySem.W.findIn K (.ref C_BadDeed) "__class__" = some (some (.builtin "object.__class__")))
    (xmo_BadDeed : PySem.W.mroIn K C_BadDeed (.type "object") = some true)
    (xn_BadDeed_index : PySem.W.findIn K (.ref C_BadDeed) "index" = some none)
    (x_BadEnd : PySem.W.nsIn K mainGlobals "BadEnd" = some (some (.ref C_BadEnd)))
    (xL_BadEnd : K.lookup C_BadEnd = some (excClassObj "BadEnd" q_BadEnd C_BadEnd N_BadEnd bs_BadEnd [.type "ValueError", .type "Exception", .type "BaseException", .type "object"] true sn_BadEnd sub_BadEnd ab_BadEnd col_BadEnd dd_BadEnd m0_BadEnd m1_BadEnd m2_BadEnd m3_BadEnd m5_BadEnd "ValueError.__new__"))
    (xsa_BadEnd : PySem.W.findIn K (.ref C_BadEnd) "__setattr__" = some (some (.builtin "object.__setattr__")))
    (xt1_BadEnd : PySem.W.typeIn K (.ref f3) = some (.type "function"))
    (xkC_BadEnd : PySem.W.keepIn K (.ref C_BadEnd) = true)
    (xeC_BadEnd : PySem.W.subIn K (.ref C_BadEnd) (.type "BaseException") = some true)
    (xtC_BadEnd : PySem.W.typeIn K (.ref C_BadEnd) = some (.type "type"))
    (xga_BadEnd : PySem.W.findIn K (.ref C_BadEnd) "__getattribute__" = some (some (.builtin "BaseException.__getattribute__")))
    (xgg_BadEnd : PySem.W.findIn K (.ref C_BadEnd) "__getattr__" = some none)
    (xhC_BadEnd : PySem.W.hasDictIn K C_BadEnd = true)
    (xca_BadEnd : PySem.W.findIn K (.ref C_BadEnd) "__class__" = some (some (.builtin "object.__class__")))
    (xmo_BadEnd : PySem.W.mroIn K C_BadEnd (.type "object") = some true)
    (xn_BadEnd_part : PySem.W.findIn K (.ref C_BadEnd) "part" = some none)
    (xn_BadEnd_row : PySem.W.findIn K (.ref C_BadEnd) "row" = some none)
    (x_BadFault : PySem.W.nsIn K mainGlobals "BadFault" = some (some (.ref C_BadFault)))
    (xL_BadFault : K.lookup C_BadFault = some (excClassObj "BadFault" q_BadFault C_BadFault N_BadFault bs_BadFault [.type "ValueError", .type "Exception", .type "BaseException", .type "object"] true sn_BadFault sub_BadFault ab_BadFault col_BadFault dd_BadFault m0_BadFault m1_BadFault m2_BadFault m3_BadFault m5_BadFault "ValueError.__new__"))
    (xsa_BadFault : PySem.W.findIn K (.ref C_BadFault) "__setattr__" = some (some (.builtin "object.__setattr__")))
    (xt1_BadFault : PySem.W.typeIn K (.ref f4) = some (.type "function"))
    (xkC_BadFault : PySem.W.keepIn K (.ref C_BadFault) = true)
    (xeC_BadFault : PySem.W.subIn K (.ref C_BadFault) (.type "BaseException") = some true)
    (xtC_BadFault : PySem.W.typeIn K (.ref C_BadFault) = some (.type "type"))
    (xga_BadFault : PySem.W.findIn K (.ref C_BadFault) "__getattribute__" = some (some (.builtin "BaseException.__getattribute__")))
    (xgg_BadFault : PySem.W.findIn K (.ref C_BadFault) "__getattr__" = some none)
    (xhC_BadFault : PySem.W.hasDictIn K C_BadFault = true)
    (xca_BadFault : PySem.W.findIn K (.ref C_BadFault) "__class__" = some (some (.builtin "object.__class__")))
    (xmo_BadFault : PySem.W.mroIn K C_BadFault (.type "object") = some true)
    (xn_BadFault_bit : PySem.W.findIn K (.ref C_BadFault) "bit" = some none)
    (xn_BadFault_station : PySem.W.findIn K (.ref C_BadFault) "station" = some none)
    (x_BadFrame : PySem.W.nsIn K mainGlobals "BadFrame" = some (some (.ref C_BadFrame)))
    (xL_BadFrame : K.lookup C_BadFrame = some (excClassObj "BadFrame" q_BadFrame C_BadFrame N_BadFrame bs_BadFrame [.type "ValueError", .type "Exception", .type "BaseException", .type "object"] true sn_BadFrame sub_BadFrame ab_BadFrame col_BadFrame dd_BadFrame m0_BadFrame m1_BadFrame m2_BadFrame m3_BadFrame m5_BadFrame "ValueError.__new__"))
    (xsa_BadFrame : PySem.W.findIn K (.ref C_BadFrame) "__setattr__" = some (some (.builtin "object.__setattr__")))
    (xt1_BadFrame : PySem.W.typeIn K (.ref f5) = some (.type "function"))
    (xkC_BadFrame : PySem.W.keepIn K (.ref C_BadFrame) = true)
    (xeC_BadFrame : PySem.W.subIn K (.ref C_BadFrame) (.type "BaseException") = some true)
    (xtC_BadFrame : PySem.W.typeIn K (.ref C_BadFrame) = some (.type "type"))
    (xga_BadFrame : PySem.W.findIn K (.ref C_BadFrame) "__getattribute__" = some (some (.builtin "BaseException.__getattribute__")))
    (xgg_BadFrame : PySem.W.findIn K (.ref C_BadFrame) "__getattr__" = some none)
    (xhC_BadFrame : PySem.W.hasDictIn K C_BadFrame = true)
    (xca_BadFrame : PySem.W.findIn K (.ref C_BadFrame) "__class__" = some (some (.builtin "object.__class__")))
    (xmo_BadFrame : PySem.W.mroIn K C_BadFrame (.type "object") = some true)
    (xn_BadFrame_frame : PySem.W.findIn K (.ref C_BadFrame) "frame" = some none)
    (x_BadText : PySem.W.nsIn K mainGlobals "BadText" = some (some (.ref C_BadText)))
    (xL_BadText : K.lookup C_BadText = some (excClassObj "BadText" q_BadText C_BadText N_BadText bs_BadText [.type "ValueError", .type "Exception", .type "BaseException", .type "object"] true sn_BadText sub_BadText ab_BadText col_BadText dd_BadText m0_BadText m1_BadText m2_BadText m3_BadText m5_BadText "ValueError.__new__"))
    (xsa_BadText : PySem.W.findIn K (.ref C_BadText) "__setattr__" = some (some (.builtin "object.__setattr__")))
    (xt1_BadText : PySem.W.typeIn K (.ref f6) = some (.type "function"))
    (xkC_BadText : PySem.W.keepIn K (.ref C_BadText) = true)
    (xeC_BadText : PySem.W.subIn K (.ref C_BadText) (.type "BaseException") = some true)
    (xtC_BadText : PySem.W.typeIn K (.ref C_BadText) = some (.type "type"))
    (xga_BadText : PySem.W.findIn K (.ref C_BadText) "__getattribute__" = some (some (.builtin "BaseException.__getattribute__")))
    (xgg_BadText : PySem.W.findIn K (.ref C_BadText) "__getattr__" = some none)
    (xhC_BadText : PySem.W.hasDictIn K C_BadText = true)
    (xca_BadText : PySem.W.findIn K (.ref C_BadText) "__class__" = some (some (.builtin "object.__class__")))
    (xmo_BadText : PySem.W.mroIn K C_BadText (.type "object") = some true)
    (xn_BadText_text : PySem.W.findIn K (.ref C_BadText) "text" = some none)
    (x_Endless : PySem.W.nsIn K mainGlobals "Endless" = some (some (.ref C_Endless)))
    (xL_Endless : K.lookup C_Endless = some (excClassObj "Endless" q_Endless C_Endless N_Endless bs_Endless [.type "RuntimeError", .type "Exception", .type "BaseException", .type "object"] true sn_Endless sub_Endless ab_Endless col_Endless dd_Endless m0_Endless m1_Endless m2_Endless m3_Endless m5_Endless "RuntimeError.__new__"))
    (xsa_Endless : PySem.W.findIn K (.ref C_Endless) "__setattr__" = some (some (.builtin "object.__setattr__")))
    (xt1_Endless : PySem.W.typeIn K (.ref f7) = some (.type "function"))
    (xkC_Endless : PySem.W.keepIn K (.ref C_Endless) = true)
    (xeC_Endless : PySem.W.subIn K (.ref C_Endless) (.type "BaseException") = some true)
    (xtC_Endless : PySem.W.typeIn K (.ref C_Endless) = some (.type "type"))
    (xga_Endless : PySem.W.findIn K (.ref C_Endless) "__getattribute__" = some (some (.builtin "BaseException.__getattribute__")))
    (xgg_Endless : PySem.W.findIn K (.ref C_Endless) "__getattr__" = some none)
    (xhC_Endless : PySem.W.hasDictIn K C_Endless = true)
    (xca_Endless : PySem.W.findIn K (.ref C_Endless) "__class__" = some (some (.builtin "object.__class__")))
    (xmo_Endless : PySem.W.mroIn K C_Endless (.type "object") = some true)
    (xn_Endless_bit : PySem.W.findIn K (.ref C_Endless) "bit" = some none)
    (xn_Endless_ring : PySem.W.findIn K (.ref C_Endless) "ring" = some none)
    (x_NoHearer : PySem.W.nsIn K mainGlobals "NoHearer" = some (some (.ref C_NoHearer)))
    (xL_NoHearer : K.lookup C_NoHearer = some (excClassObj "NoHearer" q_NoHearer C_NoHearer N_NoHearer bs_NoHearer [.type "RuntimeError", .type "Exception", .type "BaseException", .type "object"] true sn_NoHearer sub_NoHearer ab_NoHearer col_NoHearer dd_NoHearer m0_NoHearer m1_NoHearer m2_NoHearer m3_NoHearer m5_NoHearer "RuntimeError.__new__"))
    (xsa_NoHearer : PySem.W.findIn K (.ref C_NoHearer) "__setattr__" = some (some (.builtin "object.__setattr__")))
    (xt1_NoHearer : PySem.W.typeIn K (.ref f8) = some (.type "function"))
    (xkC_NoHearer : PySem.W.keepIn K (.ref C_NoHearer) = true)
    (xeC_NoHearer : PySem.W.subIn K (.ref C_NoHearer) (.type "BaseException") = some true)
    (xtC_NoHearer : PySem.W.typeIn K (.ref C_NoHearer) = some (.type "type"))
    (xga_NoHearer : PySem.W.findIn K (.ref C_NoHearer) "__getattribute__" = some (some (.builtin "BaseException.__getattribute__")))
    (xgg_NoHearer : PySem.W.findIn K (.ref C_NoHearer) "__getattr__" = some none)
    (xhC_NoHearer : PySem.W.hasDictIn K C_NoHearer = true)
    (xca_NoHearer : PySem.W.findIn K (.ref C_NoHearer) "__class__" = some (some (.builtin "object.__class__")))
    (xmo_NoHearer : PySem.W.mroIn K C_NoHearer (.type "object") = some true)
    (x_NoLine : PySem.W.nsIn K mainGlobals "NoLine" = some (some (.ref C_NoLine)))
    (xL_NoLine : K.lookup C_NoLine = some (excClassObj "NoLine" q_NoLine C_NoLine N_NoLine bs_NoLine [.type "RuntimeError", .type "Exception", .type "BaseException", .type "object"] true sn_NoLine sub_NoLine ab_NoLine col_NoLine dd_NoLine m0_NoLine m1_NoLine m2_NoLine m3_NoLine m5_NoLine "RuntimeError.__new__"))
    (xsa_NoLine : PySem.W.findIn K (.ref C_NoLine) "__setattr__" = some (some (.builtin "object.__setattr__")))
    (xt1_NoLine : PySem.W.typeIn K (.ref f9) = some (.type "function"))
    (xkC_NoLine : PySem.W.keepIn K (.ref C_NoLine) = true)
    (xeC_NoLine : PySem.W.subIn K (.ref C_NoLine) (.type "BaseException") = some true)
    (xtC_NoLine : PySem.W.typeIn K (.ref C_NoLine) = some (.type "type"))
    (xga_NoLine : PySem.W.findIn K (.ref C_NoLine) "__getattribute__" = some (some (.builtin "BaseException.__getattribute__")))
    (xgg_NoLine : PySem.W.findIn K (.ref C_NoLine) "__getattr__" = some none)
    (xhC_NoLine : PySem.W.hasDictIn K C_NoLine = true)
    (xca_NoLine : PySem.W.findIn K (.ref C_NoLine) "__class__" = some (some (.builtin "object.__class__")))
    (xmo_NoLine : PySem.W.mroIn K C_NoLine (.type "object") = some true)
    (x_NoName : PySem.W.nsIn K mainGlobals "NoName" = some (some (.ref C_NoName)))
    (xL_NoName : K.lookup C_NoName = some (excClassObj "NoName" q_NoName C_NoName N_NoName bs_NoName [.type "KeyError", .type "LookupError", .type "Exception", .type "BaseException", .type "object"] true sn_NoName sub_NoName ab_NoName col_NoName dd_NoName m0_NoName m1_NoName m2_NoName m3_NoName m5_NoName "LookupError.__new__"))
    (xsa_NoName : PySem.W.findIn K (.ref C_NoName) "__setattr__" = some (some (.builtin "object.__setattr__")))
    (xt1_NoName : PySem.W.typeIn K (.ref f10) = some (.type "function"))
    (xkC_NoName : PySem.W.keepIn K (.ref C_NoName) = true)
    (xeC_NoName : PySem.W.subIn K (.ref C_NoName) (.type "BaseException") = some true)
    (xtC_NoName : PySem.W.typeIn K (.ref C_NoName) = some (.type "type"))
    (xga_NoName : PySem.W.findIn K (.ref C_NoName) "__getattribute__" = some (some (.builtin "BaseException.__getattribute__")))
    (xgg_NoName : PySem.W.findIn K (.ref C_NoName) "__getattr__" = some none)
    (xhC_NoName : PySem.W.hasDictIn K C_NoName = true)
    (xca_NoName : PySem.W.findIn K (.ref C_NoName) "__class__" = some (some (.builtin "object.__class__")))
    (xmo_NoName : PySem.W.mroIn K C_NoName (.type "object") = some true)
    (xn_NoName_name : PySem.W.findIn K (.ref C_NoName) "name" = some none)
    (x_NoOutcome : PySem.W.nsIn K mainGlobals "NoOutcome" = some (some (.ref C_NoOutcome)))
    (xL_NoOutcome : K.lookup C_NoOutcome = some (excClassObj "NoOutcome" q_NoOutcome C_NoOutcome N_NoOutcome bs_NoOutcome [.type "LookupError", .type "Exception", .type "BaseException", .type "object"] true sn_NoOutcome sub_NoOutcome ab_NoOutcome col_NoOutcome dd_NoOutcome m0_NoOutcome m1_NoOutcome m2_NoOutcome m3_NoOutcome m5_NoOutcome "LookupError.__new__"))
    (xsa_NoOutcome : PySem.W.findIn K (.ref C_NoOutcome) "__setattr__" = some (some (.builtin "object.__setattr__")))
    (xt1_NoOutcome : PySem.W.typeIn K (.ref f11) = some (.type "function"))
    (xkC_NoOutcome : PySem.W.keepIn K (.ref C_NoOutcome) = true)
    (xeC_NoOutcome : PySem.W.subIn K (.ref C_NoOutcome) (.type "BaseException") = some true)
    (xtC_NoOutcome : PySem.W.typeIn K (.ref C_NoOutcome) = some (.type "type"))
    (xga_NoOutcome : PySem.W.findIn K (.ref C_NoOutcome) "__getattribute__" = some (some (.builtin "BaseException.__getattribute__")))
    (xgg_NoOutcome : PySem.W.findIn K (.ref C_NoOutcome) "__getattr__" = some none)
    (xhC_NoOutcome : PySem.W.hasDictIn K C_NoOutcome = true)
    (xca_NoOutcome : PySem.W.findIn K (.ref C_NoOutcome) "__class__" = some (some (.builtin "object.__class__")))
    (xmo_NoOutcome : PySem.W.mroIn K C_NoOutcome (.type "object") = some true)
    (xn_NoOutcome_outcome : PySem.W.findIn K (.ref C_NoOutcome) "outcome" = some none)
    (x_NoPromise : PySem.W.nsIn K mainGlobals "NoPromise" = some (some (.ref C_NoPromise)))
    (xL_NoPromise : K.lookup C_NoPromise = some (excClassObj "NoPromise" q_NoPromise C_NoPromise N_NoPromise bs_NoPromise [.type "ValueError", .type "Exception", .type "BaseException", .type "object"] true sn_NoPromise sub_NoPromise ab_NoPromise col_NoPromise dd_NoPromise m0_NoPromise m1_NoPromise m2_NoPromise m3_NoPromise m5_NoPromise "ValueError.__new__"))
    (xsa_NoPromise : PySem.W.findIn K (.ref C_NoPromise) "__setattr__" = some (some (.builtin "object.__setattr__")))
    (xt1_NoPromise : PySem.W.typeIn K (.ref f12) = some (.type "function"))
    (xkC_NoPromise : PySem.W.keepIn K (.ref C_NoPromise) = true)
    (xeC_NoPromise : PySem.W.subIn K (.ref C_NoPromise) (.type "BaseException") = some true)
    (xtC_NoPromise : PySem.W.typeIn K (.ref C_NoPromise) = some (.type "type"))
    (xga_NoPromise : PySem.W.findIn K (.ref C_NoPromise) "__getattribute__" = some (some (.builtin "BaseException.__getattribute__")))
    (xgg_NoPromise : PySem.W.findIn K (.ref C_NoPromise) "__getattr__" = some none)
    (xhC_NoPromise : PySem.W.hasDictIn K C_NoPromise = true)
    (xca_NoPromise : PySem.W.findIn K (.ref C_NoPromise) "__class__" = some (some (.builtin "object.__class__")))
    (xmo_NoPromise : PySem.W.mroIn K C_NoPromise (.type "object") = some true)
    (xn_NoPromise_promise : PySem.W.findIn K (.ref C_NoPromise) "promise" = some none)
    (x_NoStation : PySem.W.nsIn K mainGlobals "NoStation" = some (some (.ref C_NoStation)))
    (xL_NoStation : K.lookup C_NoStation = some (excClassObj "NoStation" q_NoStation C_NoStation N_NoStation bs_NoStation [.type "KeyError", .type "LookupError", .type "Exception", .type "BaseException", .type "object"] true sn_NoStation sub_NoStation ab_NoStation col_NoStation dd_NoStation m0_NoStation m1_NoStation m2_NoStation m3_NoStation m5_NoStation "LookupError.__new__"))
    (xsa_NoStation : PySem.W.findIn K (.ref C_NoStation) "__setattr__" = some (some (.builtin "object.__setattr__")))
    (xt1_NoStation : PySem.W.typeIn K (.ref f13) = some (.type "function"))
    (xkC_NoStation : PySem.W.keepIn K (.ref C_NoStation) = true)
    (xeC_NoStation : PySem.W.subIn K (.ref C_NoStation) (.type "BaseException") = some true)
    (xtC_NoStation : PySem.W.typeIn K (.ref C_NoStation) = some (.type "type"))
    (xga_NoStation : PySem.W.findIn K (.ref C_NoStation) "__getattribute__" = some (some (.builtin "BaseException.__getattribute__")))
    (xgg_NoStation : PySem.W.findIn K (.ref C_NoStation) "__getattr__" = some none)
    (xhC_NoStation : PySem.W.hasDictIn K C_NoStation = true)
    (xca_NoStation : PySem.W.findIn K (.ref C_NoStation) "__class__" = some (some (.builtin "object.__class__")))
    (xmo_NoStation : PySem.W.mroIn K C_NoStation (.type "object") = some true)
    (xn_NoStation_station : PySem.W.findIn K (.ref C_NoStation) "station" = some none)
    (x_NothingToUndo : PySem.W.nsIn K mainGlobals "NothingToUndo" = some (some (.ref C_NothingToUndo)))
    (xL_NothingToUndo : K.lookup C_NothingToUndo = some (excClassObj "NothingToUndo" q_NothingToUndo C_NothingToUndo N_NothingToUndo bs_NothingToUndo [.type "LookupError", .type "Exception", .type "BaseException", .type "object"] true sn_NothingToUndo sub_NothingToUndo ab_NothingToUndo col_NothingToUndo dd_NothingToUndo m0_NothingToUndo m1_NothingToUndo m2_NothingToUndo m3_NothingToUndo m5_NothingToUndo "LookupError.__new__"))
    (xsa_NothingToUndo : PySem.W.findIn K (.ref C_NothingToUndo) "__setattr__" = some (some (.builtin "object.__setattr__")))
    (xt1_NothingToUndo : PySem.W.typeIn K (.ref f14) = some (.type "function"))
    (xkC_NothingToUndo : PySem.W.keepIn K (.ref C_NothingToUndo) = true)
    (xeC_NothingToUndo : PySem.W.subIn K (.ref C_NothingToUndo) (.type "BaseException") = some true)
    (xtC_NothingToUndo : PySem.W.typeIn K (.ref C_NothingToUndo) = some (.type "type"))
    (xga_NothingToUndo : PySem.W.findIn K (.ref C_NothingToUndo) "__getattribute__" = some (some (.builtin "BaseException.__getattribute__")))
    (xgg_NothingToUndo : PySem.W.findIn K (.ref C_NothingToUndo) "__getattr__" = some none)
    (xhC_NothingToUndo : PySem.W.hasDictIn K C_NothingToUndo = true)
    (xca_NothingToUndo : PySem.W.findIn K (.ref C_NothingToUndo) "__class__" = some (some (.builtin "object.__class__")))
    (xmo_NothingToUndo : PySem.W.mroIn K C_NothingToUndo (.type "object") = some true)
    (x_NothingWaits : PySem.W.nsIn K mainGlobals "NothingWaits" = some (some (.ref C_NothingWaits)))
    (xL_NothingWaits : K.lookup C_NothingWaits = some (excClassObj "NothingWaits" q_NothingWaits C_NothingWaits N_NothingWaits bs_NothingWaits [.type "RuntimeError", .type "Exception", .type "BaseException", .type "object"] true sn_NothingWaits sub_NothingWaits ab_NothingWaits col_NothingWaits dd_NothingWaits m0_NothingWaits m1_NothingWaits m2_NothingWaits m3_NothingWaits m5_NothingWaits "RuntimeError.__new__"))
    (xsa_NothingWaits : PySem.W.findIn K (.ref C_NothingWaits) "__setattr__" = some (some (.builtin "object.__setattr__")))
    (xt1_NothingWaits : PySem.W.typeIn K (.ref f15) = some (.type "function"))
    (xkC_NothingWaits : PySem.W.keepIn K (.ref C_NothingWaits) = true)
    (xeC_NothingWaits : PySem.W.subIn K (.ref C_NothingWaits) (.type "BaseException") = some true)
    (xtC_NothingWaits : PySem.W.typeIn K (.ref C_NothingWaits) = some (.type "type"))
    (xga_NothingWaits : PySem.W.findIn K (.ref C_NothingWaits) "__getattribute__" = some (some (.builtin "BaseException.__getattribute__")))
    (xgg_NothingWaits : PySem.W.findIn K (.ref C_NothingWaits) "__getattr__" = some none)
    (xhC_NothingWaits : PySem.W.hasDictIn K C_NothingWaits = true)
    (xca_NothingWaits : PySem.W.findIn K (.ref C_NothingWaits) "__class__" = some (some (.builtin "object.__class__")))
    (xmo_NothingWaits : PySem.W.mroIn K C_NothingWaits (.type "object") = some true)
    (x_Taken : PySem.W.nsIn K mainGlobals "Taken" = some (some (.ref C_Taken)))
    (xL_Taken : K.lookup C_Taken = some (excClassObj "Taken" q_Taken C_Taken N_Taken bs_Taken [.type "TypeError", .type "Exception", .type "BaseException", .type "object"] true sn_Taken sub_Taken ab_Taken col_Taken dd_Taken m0_Taken m1_Taken m2_Taken m3_Taken m5_Taken "TypeError.__new__"))
    (xsa_Taken : PySem.W.findIn K (.ref C_Taken) "__setattr__" = some (some (.builtin "object.__setattr__")))
    (xt1_Taken : PySem.W.typeIn K (.ref f16) = some (.type "function"))
    (xkC_Taken : PySem.W.keepIn K (.ref C_Taken) = true)
    (xeC_Taken : PySem.W.subIn K (.ref C_Taken) (.type "BaseException") = some true)
    (xtC_Taken : PySem.W.typeIn K (.ref C_Taken) = some (.type "type"))
    (xga_Taken : PySem.W.findIn K (.ref C_Taken) "__getattribute__" = some (some (.builtin "BaseException.__getattribute__")))
    (xgg_Taken : PySem.W.findIn K (.ref C_Taken) "__getattr__" = some none)
    (xhC_Taken : PySem.W.hasDictIn K C_Taken = true)
    (xca_Taken : PySem.W.findIn K (.ref C_Taken) "__class__" = some (some (.builtin "object.__class__")))
    (xmo_Taken : PySem.W.mroIn K C_Taken (.type "object") = some true)
    (xn_Taken_frame : PySem.W.findIn K (.ref C_Taken) "frame" = some none)
    (x_TooMany : PySem.W.nsIn K mainGlobals "TooMany" = some (some (.ref C_TooMany)))
    (xL_TooMany : K.lookup C_TooMany = some (excClassObj "TooMany" q_TooMany C_TooMany N_TooMany bs_TooMany [.type "OverflowError", .type "ArithmeticError", .type "Exception", .type "BaseException", .type "object"] true sn_TooMany sub_TooMany ab_TooMany col_TooMany dd_TooMany m0_TooMany m1_TooMany m2_TooMany m3_TooMany m5_TooMany "OverflowError.__new__"))
    (xsa_TooMany : PySem.W.findIn K (.ref C_TooMany) "__setattr__" = some (some (.builtin "object.__setattr__")))
    (xt1_TooMany : PySem.W.typeIn K (.ref f17) = some (.type "function"))
    (xkC_TooMany : PySem.W.keepIn K (.ref C_TooMany) = true)
    (xeC_TooMany : PySem.W.subIn K (.ref C_TooMany) (.type "BaseException") = some true)
    (xtC_TooMany : PySem.W.typeIn K (.ref C_TooMany) = some (.type "type"))
    (xga_TooMany : PySem.W.findIn K (.ref C_TooMany) "__getattribute__" = some (some (.builtin "BaseException.__getattribute__")))
    (xgg_TooMany : PySem.W.findIn K (.ref C_TooMany) "__getattr__" = some none)
    (xhC_TooMany : PySem.W.hasDictIn K C_TooMany = true)
    (xca_TooMany : PySem.W.findIn K (.ref C_TooMany) "__class__" = some (some (.builtin "object.__class__")))
    (xmo_TooMany : PySem.W.mroIn K C_TooMany (.type "object") = some true)
    (xn_TooMany_limit : PySem.W.findIn K (.ref C_TooMany) "limit" = some none)
    (x_Unbounded : PySem.W.nsIn K mainGlobals "Unbounded" = some (some (.ref C_Unbounded)))
    (xL_Unbounded : K.lookup C_Unbounded = some (excClassObj "Unbounded" q_Unbounded C_Unbounded N_Unbounded bs_Unbounded [.type "ArithmeticError", .type "Exception", .type "BaseException", .type "object"] true sn_Unbounded sub_Unbounded ab_Unbounded col_Unbounded dd_Unbounded m0_Unbounded m1_Unbounded m2_Unbounded m3_Unbounded m5_Unbounded "ArithmeticError.__new__"))
    (xsa_Unbounded : PySem.W.findIn K (.ref C_Unbounded) "__setattr__" = some (some (.builtin "object.__setattr__")))
    (xt1_Unbounded : PySem.W.typeIn K (.ref f18) = some (.type "function"))
    (xkC_Unbounded : PySem.W.keepIn K (.ref C_Unbounded) = true)
    (xeC_Unbounded : PySem.W.subIn K (.ref C_Unbounded) (.type "BaseException") = some true)
    (xtC_Unbounded : PySem.W.typeIn K (.ref C_Unbounded) = some (.type "type"))
    (xga_Unbounded : PySem.W.findIn K (.ref C_Unbounded) "__getattribute__" = some (some (.builtin "BaseException.__getattribute__")))
    (xgg_Unbounded : PySem.W.findIn K (.ref C_Unbounded) "__getattr__" = some none)
    (xhC_Unbounded : PySem.W.hasDictIn K C_Unbounded = true)
    (xca_Unbounded : PySem.W.findIn K (.ref C_Unbounded) "__class__" = some (some (.builtin "object.__class__")))
    (xmo_Unbounded : PySem.W.mroIn K C_Unbounded (.type "object") = some true)
    (x_Unsound : PySem.W.nsIn K mainGlobals "Unsound" = some (some (.ref C_Unsound)))
    (xL_Unsound : K.lookup C_Unsound = some (excClassObj "Unsound" q_Unsound C_Unsound N_Unsound bs_Unsound [.type "ArithmeticError", .type "Exception", .type "BaseException", .type "object"] true sn_Unsound sub_Unsound ab_Unsound col_Unsound dd_Unsound m0_Unsound m1_Unsound m2_Unsound m3_Unsound m5_Unsound "ArithmeticError.__new__"))
    (xsa_Unsound : PySem.W.findIn K (.ref C_Unsound) "__setattr__" = some (some (.builtin "object.__setattr__")))
    (xt1_Unsound : PySem.W.typeIn K (.ref f19) = some (.type "function"))
    (xkC_Unsound : PySem.W.keepIn K (.ref C_Unsound) = true)
    (xeC_Unsound : PySem.W.subIn K (.ref C_Unsound) (.type "BaseException") = some true)
    (xtC_Unsound : PySem.W.typeIn K (.ref C_Unsound) = some (.type "type"))
    (xga_Unsound : PySem.W.findIn K (.ref C_Unsound) "__getattribute__" = some (some (.builtin "BaseException.__getattribute__")))
    (xgg_Unsound : PySem.W.findIn K (.ref C_Unsound) "__getattr__" = some none)
    (xhC_Unsound : PySem.W.hasDictIn K C_Unsound = true)
    (xca_Unsound : PySem.W.findIn K (.ref C_Unsound) "__class__" = some (some (.builtin "object.__class__")))
    (xmo_Unsound : PySem.W.mroIn K C_Unsound (.type "object") = some true) :
    ∃ fd : FuncData, (∀ (s : Shared) (v : Value), BindsTo s fd ⟨[v], []⟩ [("_law_script", v)]) ∧ ∀ base : Heap, K.In base → base.Ns mainGlobals mg → FnG l.prog w K mg base CX0 4 fa fd ["_law_script"] (spLawB K) := by
  have e := hfa.symm.trans (PySem.W.mg_of X G a28)
  cases e
  have F1 := fun_mk (st := sBadCommand_init) l1 c1 k1
  have B1 := F1.binds (ps := ["self", "command"]) fun _ _ _ _ _ _ us hl => match us, hl with | [_, _], _ => rfl
  have F2 := fun_mk (st := sBadDeed_init) l2 c2 k2
  have B2 := F2.binds (ps := ["self", "index"]) fun _ _ _ _ _ _ us hl => match us, hl with | [_, _], _ => rfl
  have F3 := fun_mk (st := sBadEnd_init) l3 c3 k3
  have B3 := F3.binds (ps := ["self", "part", "row"]) fun _ _ _ _ _ _ us hl => match us, hl with | [_, _, _], _ => rfl
  have F4 := fun_mk (st := sBadFault_init) l4 c4 k4
  have B4 := F4.binds (ps := ["self", "bit", "station"]) fun _ _ _ _ _ _ us hl => match us, hl with | [_, _, _], _ => rfl
  have F5 := fun_mk (st := sBadFrame_init) l5 c5 k5
  have B5 := F5.binds (ps := ["self", "frame"]) fun _ _ _ _ _ _ us hl => match us, hl with | [_, _], _ => rfl
  have F6 := fun_mk (st := sBadText_init) l6 c6 k6
  have B6 := F6.binds (ps := ["self", "text"]) fun _ _ _ _ _ _ us hl => match us, hl with | [_, _], _ => rfl
  have F7 := fun_mk (st := sEndless_init) l7 c7 k7
  have B7 := F7.binds (ps := ["self", "bit", "ring"]) fun _ _ _ _ _ _ us hl => match us, hl with | [_, _, _], _ => rfl
  have F8 := fun_mk (st := sNoHearer_init) l8 c8 k8
  have B8 := F8.binds (ps := ["self"]) fun _ _ _ _ _ _ us hl => match us, hl with | [_], _ => rfl
  have F9 := fun_mk (st := sNoLine_init) l9 c9 k9
  have B9 := F9.binds (ps := ["self"]) fun _ _ _ _ _ _ us hl => match us, hl with | [_], _ => rfl
  have F10 := fun_mk (st := sNoName_init) l10 c10 k10
  have B10 := F10.binds (ps := ["self", "name"]) fun _ _ _ _ _ _ us hl => match us, hl with | [_, _], _ => rfl
  have F11 := fun_mk (st := sNoOutcome_init) l11 c11 k11
  have B11 := F11.binds (ps := ["self", "outcome"]) fun _ _ _ _ _ _ us hl => match us, hl with | [_, _], _ => rfl
  have F12 := fun_mk (st := sNoPromise_init) l12 c12 k12
  have B12 := F12.binds (ps := ["self", "promise"]) fun _ _ _ _ _ _ us hl => match us, hl with | [_, _], _ => rfl
  have F13 := fun_mk (st := sNoStation_init) l13 c13 k13
  have B13 := F13.binds (ps := ["self", "station"]) fun _ _ _ _ _ _ us hl => match us, hl with | [_, _], _ => rfl
  have F14 := fun_mk (st := sNothingToUndo_init) l14 c14 k14
  have B14 := F14.binds (ps := ["self"]) fun _ _ _ _ _ _ us hl => match us, hl with | [_], _ => rfl
  have F15 := fun_mk (st := sNothingWaits_init) l15 c15 k15
  have B15 := F15.binds (ps := ["self"]) fun _ _ _ _ _ _ us hl => match us, hl with | [_], _ => rfl
  have F16 := fun_mk (st := sTaken_init) l16 c16 k16
  have B16 := F16.binds (ps := ["self", "frame"]) fun _ _ _ _ _ _ us hl => match us, hl with | [_, _], _ => rfl
  have F17 := fun_mk (st := sTooMany_init) l17 c17 k17
  have B17 := F17.binds (ps := ["self", "limit"]) fun _ _ _ _ _ _ us hl => match us, hl with | [_, _], _ => rfl
  have F18 := fun_mk (st := sUnbounded_init) l18 c18 k18
  have B18 := F18.binds (ps := ["self"]) fun _ _ _ _ _ _ us hl => match us, hl with | [_], _ => rfl
  have F19 := fun_mk (st := sUnsound_init) l19 c19 k19
  have B19 := F19.binds (ps := ["self"]) fun _ _ _ _ _ _ us hl => match us, hl with | [_], _ => rfl
  have F20 := fun_mk (st := sL_bag) l20 c20 k20
  have B20 := F20.binds (ps := ["_law_script", "_law_at"]) fun _ _ _ _ _ _ us hl => match us, hl with | [_, _], _ => rfl
  have F21 := fun_mk (st := sL_take) l21 c21 k21
  have B21 := F21.binds (ps := ["_law_bag_here", "_law_many"]) fun _ _ _ _ _ _ us hl => match us, hl with | [_, _], _ => rfl
  have F22 := fun_mk (st := sL_any) l22 c22 k22
  have B22 := F22.binds (ps := ["_law_bag_here"]) fun _ _ _ _ _ _ us hl => match us, hl with | [_], _ => rfl
  have F23 := fun_mk (st := sL_family) l23 c23 k23
  have B23 := F23.binds (ps := ["_law_e"]) fun _ _ _ _ _ _ us hl => match us, hl with | [_], _ => rfl
  have F24 := fun_mk (st := sL_base) l24 c24 k24
  have B24 := F24.binds (ps := ["_law_e"]) fun _ _ _ _ _ _ us hl => match us, hl with | [_], _ => rfl
  have F25 := fun_mk (st := sL_made) l25 c25 k25
  have B25 := F25.binds (ps := ["_law_one", "_law_other"]) fun _ _ _ _ _ _ us hl => match us, hl with | [_, _], _ => rfl
  have F26 := fun_mk (st := sL_fields) l26 c26 k26
  have B26 := F26.binds (ps := ["_law_one", "_law_other"]) fun _ _ _ _ _ _ us hl => match us, hl with | [_, _], _ => rfl
  have F27 := fun_mk (st := sL_seconds) l27 c27 k27
  have B27 := F27.binds (ps := ["_law_one", "_law_other"]) fun _ _ _ _ _ _ us hl => match us, hl with | [_, _], _ => rfl
  have F28 := fun_mk (st := slaw) l28 c28 k28
  have B28 := F28.binds (ps := ["_law_script"]) fun _ _ _ _ _ _ us hl => match us, hl with | [_], _ => rfl
  refine ⟨PySem.W.fnOf "law" "law" (defArgs slaw) (defBody slaw) (defScope slaw) .none kV28 dc28 pm28 an28 cd28 ct28, fun s v => .of_eq rfl, fun base _ _ => ?_⟩
  have er_BadCommand : ErrC K "BadCommand" C_BadCommand (bmF "BadCommand") := by
    rw [bm_BadCommand]
    exact ⟨⟨_, _, _, _, _, _, _, _, _, _, _, _, _, _, xL_BadCommand⟩, ⟨xga_BadCommand, xgg_BadCommand, xeC_BadCommand, xhC_BadCommand, xca_BadCommand, wg, wk, xmo_BadCommand⟩, ⟨xga_BadCommand, xgg_BadCommand, xeC_BadCommand, xhC_BadCommand⟩, xtC_BadCommand⟩
  have er_BadDeed : ErrC K "BadDeed" C_BadDeed (bmF "BadDeed") := by
    rw [bm_BadDeed]
    exact ⟨⟨_, _, _, _, _, _, _, _, _, _, _, _, _, _, xL_BadDeed⟩, ⟨xga_BadDeed, xgg_BadDeed, xeC_BadDeed, xhC_BadDeed, xca_BadDeed, wg, wk, xmo_BadDeed⟩, ⟨xga_BadDeed, xgg_BadDeed, xeC_BadDeed, xhC_BadDeed⟩, xtC_BadDeed⟩
  have er_BadEnd : ErrC K "BadEnd" C_BadEnd (bmF "BadEnd") := by
    rw [bm_BadEnd]
    exact ⟨⟨_, _, _, _, _, _, _, _, _, _, _, _, _, _, xL_BadEnd⟩, ⟨xga_BadEnd, xgg_BadEnd, xeC_BadEnd, xhC_BadEnd, xca_BadEnd, wg, wk, xmo_BadEnd⟩, ⟨xga_BadEnd, xgg_BadEnd, xeC_BadEnd, xhC_BadEnd⟩, xtC_BadEnd⟩
  have er_BadFault : ErrC K "BadFault" C_BadFault (bmF "BadFault") := by
    rw [bm_BadFault]
    exact ⟨⟨_, _, _, _, _, _, _, _, _, _, _, _, _, _, xL_BadFault⟩, ⟨xga_BadFault, xgg_BadFault, xeC_BadFault, xhC_BadFault, xca_BadFault, wg, wk, xmo_BadFault⟩, ⟨xga_BadFault, xgg_BadFault, xeC_BadFault, xhC_BadFault⟩, xtC_BadFault⟩
  have er_BadFrame : ErrC K "BadFrame" C_BadFrame (bmF "BadFrame") := by
    rw [bm_BadFrame]
    exact ⟨⟨_, _, _, _, _, _, _, _, _, _, _, _, _, _, xL_BadFrame⟩, ⟨xga_BadFrame, xgg_BadFrame, xeC_BadFrame, xhC_BadFrame, xca_BadFrame, wg, wk, xmo_BadFrame⟩, ⟨xga_BadFrame, xgg_BadFrame, xeC_BadFrame, xhC_BadFrame⟩, xtC_BadFrame⟩
  have er_BadText : ErrC K "BadText" C_BadText (bmF "BadText") := by
    rw [bm_BadText]
    exact ⟨⟨_, _, _, _, _, _, _, _, _, _, _, _, _, _, xL_BadText⟩, ⟨xga_BadText, xgg_BadText, xeC_BadText, xhC_BadText, xca_BadText, wg, wk, xmo_BadText⟩, ⟨xga_BadText, xgg_BadText, xeC_BadText, xhC_BadText⟩, xtC_BadText⟩
  have er_Endless : ErrC K "Endless" C_Endless (bmF "Endless") := by
    rw [bm_Endless]
    exact ⟨⟨_, _, _, _, _, _, _, _, _, _, _, _, _, _, xL_Endless⟩, ⟨xga_Endless, xgg_Endless, xeC_Endless, xhC_Endless, xca_Endless, wg, wk, xmo_Endless⟩, ⟨xga_Endless, xgg_Endless, xeC_Endless, xhC_Endless⟩, xtC_Endless⟩
  have er_NoHearer : ErrC K "NoHearer" C_NoHearer (bmF "NoHearer") := by
    rw [bm_NoHearer]
    exact ⟨⟨_, _, _, _, _, _, _, _, _, _, _, _, _, _, xL_NoHearer⟩, ⟨xga_NoHearer, xgg_NoHearer, xeC_NoHearer, xhC_NoHearer, xca_NoHearer, wg, wk, xmo_NoHearer⟩, ⟨xga_NoHearer, xgg_NoHearer, xeC_NoHearer, xhC_NoHearer⟩, xtC_NoHearer⟩
  have er_NoLine : ErrC K "NoLine" C_NoLine (bmF "NoLine") := by
    rw [bm_NoLine]
    exact ⟨⟨_, _, _, _, _, _, _, _, _, _, _, _, _, _, xL_NoLine⟩, ⟨xga_NoLine, xgg_NoLine, xeC_NoLine, xhC_NoLine, xca_NoLine, wg, wk, xmo_NoLine⟩, ⟨xga_NoLine, xgg_NoLine, xeC_NoLine, xhC_NoLine⟩, xtC_NoLine⟩
  have er_NoName : ErrC K "NoName" C_NoName (bmF "NoName") := by
    rw [bm_NoName]
    exact ⟨⟨_, _, _, _, _, _, _, _, _, _, _, _, _, _, xL_NoName⟩, ⟨xga_NoName, xgg_NoName, xeC_NoName, xhC_NoName, xca_NoName, wg, wk, xmo_NoName⟩, ⟨xga_NoName, xgg_NoName, xeC_NoName, xhC_NoName⟩, xtC_NoName⟩
  have er_NoOutcome : ErrC K "NoOutcome" C_NoOutcome (bmF "NoOutcome") := by
    rw [bm_NoOutcome]
    exact ⟨⟨_, _, _, _, _, _, _, _, _, _, _, _, _, _, xL_NoOutcome⟩, ⟨xga_NoOutcome, xgg_NoOutcome, xeC_NoOutcome, xhC_NoOutcome, xca_NoOutcome, wg, wk, xmo_NoOutcome⟩, ⟨xga_NoOutcome, xgg_NoOutcome, xeC_NoOutcome, xhC_NoOutcome⟩, xtC_NoOutcome⟩
  have er_NoPromise : ErrC K "NoPromise" C_NoPromise (bmF "NoPromise") := by
    rw [bm_NoPromise]
    exact ⟨⟨_, _, _, _, _, _, _, _, _, _, _, _, _, _, xL_NoPromise⟩, ⟨xga_NoPromise, xgg_NoPromise, xeC_NoPromise, xhC_NoPromise, xca_NoPromise, wg, wk, xmo_NoPromise⟩, ⟨xga_NoPromise, xgg_NoPromise, xeC_NoPromise, xhC_NoPromise⟩, xtC_NoPromise⟩
  have er_NoStation : ErrC K "NoStation" C_NoStation (bmF "NoStation") := by
    rw [bm_NoStation]
    exact ⟨⟨_, _, _, _, _, _, _, _, _, _, _, _, _, _, xL_NoStation⟩, ⟨xga_NoStation, xgg_NoStation, xeC_NoStation, xhC_NoStation, xca_NoStation, wg, wk, xmo_NoStation⟩, ⟨xga_NoStation, xgg_NoStation, xeC_NoStation, xhC_NoStation⟩, xtC_NoStation⟩
  have er_NothingToUndo : ErrC K "NothingToUndo" C_NothingToUndo (bmF "NothingToUndo") := by
    rw [bm_NothingToUndo]
    exact ⟨⟨_, _, _, _, _, _, _, _, _, _, _, _, _, _, xL_NothingToUndo⟩, ⟨xga_NothingToUndo, xgg_NothingToUndo, xeC_NothingToUndo, xhC_NothingToUndo, xca_NothingToUndo, wg, wk, xmo_NothingToUndo⟩, ⟨xga_NothingToUndo, xgg_NothingToUndo, xeC_NothingToUndo, xhC_NothingToUndo⟩, xtC_NothingToUndo⟩
  have er_NothingWaits : ErrC K "NothingWaits" C_NothingWaits (bmF "NothingWaits") := by
    rw [bm_NothingWaits]
    exact ⟨⟨_, _, _, _, _, _, _, _, _, _, _, _, _, _, xL_NothingWaits⟩, ⟨xga_NothingWaits, xgg_NothingWaits, xeC_NothingWaits, xhC_NothingWaits, xca_NothingWaits, wg, wk, xmo_NothingWaits⟩, ⟨xga_NothingWaits, xgg_NothingWaits, xeC_NothingWaits, xhC_NothingWaits⟩, xtC_NothingWaits⟩
  have er_Taken : ErrC K "Taken" C_Taken (bmF "Taken") := by
    rw [bm_Taken]
    exact ⟨⟨_, _, _, _, _, _, _, _, _, _, _, _, _, _, xL_Taken⟩, ⟨xga_Taken, xgg_Taken, xeC_Taken, xhC_Taken, xca_Taken, wg, wk, xmo_Taken⟩, ⟨xga_Taken, xgg_Taken, xeC_Taken, xhC_Taken⟩, xtC_Taken⟩
  have er_TooMany : ErrC K "TooMany" C_TooMany (bmF "TooMany") := by
    rw [bm_TooMany]
    exact ⟨⟨_, _, _, _, _, _, _, _, _, _, _, _, _, _, xL_TooMany⟩, ⟨xga_TooMany, xgg_TooMany, xeC_TooMany, xhC_TooMany, xca_TooMany, wg, wk, xmo_TooMany⟩, ⟨xga_TooMany, xgg_TooMany, xeC_TooMany, xhC_TooMany⟩, xtC_TooMany⟩
  have er_Unbounded : ErrC K "Unbounded" C_Unbounded (bmF "Unbounded") := by
    rw [bm_Unbounded]
    exact ⟨⟨_, _, _, _, _, _, _, _, _, _, _, _, _, _, xL_Unbounded⟩, ⟨xga_Unbounded, xgg_Unbounded, xeC_Unbounded, xhC_Unbounded, xca_Unbounded, wg, wk, xmo_Unbounded⟩, ⟨xga_Unbounded, xgg_Unbounded, xeC_Unbounded, xhC_Unbounded⟩, xtC_Unbounded⟩
  have er_Unsound : ErrC K "Unsound" C_Unsound (bmF "Unsound") := by
    rw [bm_Unsound]
    exact ⟨⟨_, _, _, _, _, _, _, _, _, _, _, _, _, _, xL_Unsound⟩, ⟨xga_Unsound, xgg_Unsound, xeC_Unsound, xhC_Unsound, xca_Unsound, wg, wk, xmo_Unsound⟩, ⟨xga_Unsound, xgg_Unsound, xeC_Unsound, xhC_Unsound⟩, xtC_Unsound⟩
  have fam0 : Fam K ⟨fun c => if c = "BadCommand" then some (C_BadCommand, (["command"] : List Str)) else if c = "BadDeed" then some (C_BadDeed, (["index"] : List Str)) else if c = "BadEnd" then some (C_BadEnd, (["row", "part"] : List Str)) else if c = "BadFault" then some (C_BadFault, (["station", "bit"] : List Str)) else if c = "BadFrame" then some (C_BadFrame, (["frame"] : List Str)) else if c = "BadText" then some (C_BadText, (["text"] : List Str)) else if c = "Endless" then some (C_Endless, (["ring", "bit"] : List Str)) else if c = "NoHearer" then some (C_NoHearer, ([] : List Str)) else if c = "NoLine" then some (C_NoLine, ([] : List Str)) else if c = "NoName" then some (C_NoName, (["name"] : List Str)) else if c = "NoOutcome" then some (C_NoOutcome, (["outcome"] : List Str)) else if c = "NoPromise" then some (C_NoPromise, (["promise"] : List Str)) else if c = "NoStation" then some (C_NoStation, (["station"] : List Str)) else if c = "NothingToUndo" then some (C_NothingToUndo, ([] : List Str)) else if c = "NothingWaits" then some (C_NothingWaits, ([] : List Str)) else if c = "Taken" then some (C_Taken, (["frame"] : List Str)) else if c = "TooMany" then some (C_TooMany, (["limit"] : List Str)) else if c = "Unbounded" then some (C_Unbounded, ([] : List Str)) else if c = "Unsound" then some (C_Unsound, ([] : List Str)) else none, w⟩ bmF := ⟨fun c C ns h => (by
    dsimp only at h
    by_cases z0 : c = "BadCommand"
    · subst z0
      rw [if_pos rfl] at h
      cases h
      exact er_BadCommand
    rw [if_neg z0] at h
    by_cases z1 : c = "BadDeed"
    · subst z1
      rw [if_pos rfl] at h
      cases h
      exact er_BadDeed
    rw [if_neg z1] at h
    by_cases z2 : c = "BadEnd"
    · subst z2
      rw [if_pos rfl] at h
      cases h
      exact er_BadEnd
    rw [if_neg z2] at h
    by_cases z3 : c = "BadFault"
    · subst z3
      rw [if_pos rfl] at h
      cases h
      exact er_BadFault
    rw [if_neg z3] at h
    by_cases z4 : c = "BadFrame"
    · subst z4
      rw [if_pos rfl] at h
      cases h
      exact er_BadFrame
    rw [if_neg z4] at h
    by_cases z5 : c = "BadText"
    · subst z5
      rw [if_pos rfl] at h
      cases h
      exact er_BadText
    rw [if_neg z5] at h
    by_cases z6 : c = "Endless"
    · subst z6
      rw [if_pos rfl] at h
      cases h
      exact er_Endless
    rw [if_neg z6] at h
    by_cases z7 : c = "NoHearer"
    · subst z7
      rw [if_pos rfl] at h
      cases h
      exact er_NoHearer
    rw [if_neg z7] at h
    by_cases z8 : c = "NoLine"
    · subst z8
      rw [if_pos rfl] at h
      cases h
      exact er_NoLine
    rw [if_neg z8] at h
    by_cases z9 : c = "NoName"
    · subst z9
      rw [if_pos rfl] at h
      cases h
      exact er_NoName
    rw [if_neg z9] at h
    by_cases z10 : c = "NoOutcome"
    · subst z10
      rw [if_pos rfl] at h
      cases h
      exact er_NoOutcome
    rw [if_neg z10] at h
    by_cases z11 : c = "NoPromise"
    · subst z11
      rw [if_pos rfl] at h
      cases h
      exact er_NoPromise
    rw [if_neg z11] at h
    by_cases z12 : c = "NoStation"
    · subst z12
      rw [if_pos rfl] at h
      cases h
      exact er_NoStation
    rw [if_neg z12] at h
    by_cases z13 : c = "NothingToUndo"
    · subst z13
      rw [if_pos rfl] at h
      cases h
      exact er_NothingToUndo
    rw [if_neg z13] at h
    by_cases z14 : c = "NothingWaits"
    · subst z14
      rw [if_pos rfl] at h
      cases h
      exact er_NothingWaits
    rw [if_neg z14] at h
    by_cases z15 : c = "Taken"
    · subst z15
      rw [if_pos rfl] at h
      cases h
      exact er_Taken
    rw [if_neg z15] at h
    by_cases z16 : c = "TooMany"
    · subst z16
      rw [if_pos rfl] at h
      cases h
      exact er_TooMany
    rw [if_neg z16] at h
    by_cases z17 : c = "Unbounded"
    · subst z17
      rw [if_pos rfl] at h
      cases h
      exact er_Unbounded
    rw [if_neg z17] at h
    by_cases z18 : c = "Unsound"
    · subst z18
      rw [if_pos rfl] at h
      cases h
      exact er_Unsound
    rw [if_neg z18] at h
    cases h), bm_pl⟩
  obtain ⟨CT, hw_, fam_, h_BadCommand, h_BadDeed, h_BadEnd, h_BadFault, h_BadFrame, h_BadText, h_Endless, h_NoHearer, h_NoLine, h_NoName, h_NoOutcome, h_NoPromise, h_NoStation, h_NothingToUndo, h_NothingWaits, h_Taken, h_TooMany, h_Unbounded, h_Unsound⟩ : ∃ CT : Ct, CT.w = w ∧ Fam K CT bmF ∧ CT "BadCommand" = some (C_BadCommand, (["command"] : List Str)) ∧ CT "BadDeed" = some (C_BadDeed, (["index"] : List Str)) ∧ CT "BadEnd" = some (C_BadEnd, (["row", "part"] : List Str)) ∧ CT "BadFault" = some (C_BadFault, (["station", "bit"] : List Str)) ∧ CT "BadFrame" = some (C_BadFrame, (["frame"] : List Str)) ∧ CT "BadText" = some (C_BadText, (["text"] : List Str)) ∧ CT "Endless" = some (C_Endless, (["ring", "bit"] : List Str)) ∧ CT "NoHearer" = some (C_NoHearer, ([] : List Str)) ∧ CT "NoLine" = some (C_NoLine, ([] : List Str)) ∧ CT "NoName" = some (C_NoName, (["name"] : List Str)) ∧ CT "NoOutcome" = some (C_NoOutcome, (["outcome"] : List Str)) ∧ CT "NoPromise" = some (C_NoPromise, (["promise"] : List Str)) ∧ CT "NoStation" = some (C_NoStation, (["station"] : List Str)) ∧ CT "NothingToUndo" = some (C_NothingToUndo, ([] : List Str)) ∧ CT "NothingWaits" = some (C_NothingWaits, ([] : List Str)) ∧ CT "Taken" = some (C_Taken, (["frame"] : List Str)) ∧ CT "TooMany" = some (C_TooMany, (["limit"] : List Str)) ∧ CT "Unbounded" = some (C_Unbounded, ([] : List Str)) ∧ CT "Unsound" = some (C_Unsound, ([] : List Str)) := ⟨⟨fun c => if c = "BadCommand" then some (C_BadCommand, (["command"] : List Str)) else if c = "BadDeed" then some (C_BadDeed, (["index"] : List Str)) else if c = "BadEnd" then some (C_BadEnd, (["row", "part"] : List Str)) else if c = "BadFault" then some (C_BadFault, (["station", "bit"] : List Str)) else if c = "BadFrame" then some (C_BadFrame, (["frame"] : List Str)) else if c = "BadText" then some (C_BadText, (["text"] : List Str)) else if c = "Endless" then some (C_Endless, (["ring", "bit"] : List Str)) else if c = "NoHearer" then some (C_NoHearer, ([] : List Str)) else if c = "NoLine" then some (C_NoLine, ([] : List Str)) else if c = "NoName" then some (C_NoName, (["name"] : List Str)) else if c = "NoOutcome" then some (C_NoOutcome, (["outcome"] : List Str)) else if c = "NoPromise" then some (C_NoPromise, (["promise"] : List Str)) else if c = "NoStation" then some (C_NoStation, (["station"] : List Str)) else if c = "NothingToUndo" then some (C_NothingToUndo, ([] : List Str)) else if c = "NothingWaits" then some (C_NothingWaits, ([] : List Str)) else if c = "Taken" then some (C_Taken, (["frame"] : List Str)) else if c = "TooMany" then some (C_TooMany, (["limit"] : List Str)) else if c = "Unbounded" then some (C_Unbounded, ([] : List Str)) else if c = "Unsound" then some (C_Unsound, ([] : List Str)) else none, w⟩, rfl, fam0, by rfl, by rfl, by rfl, by rfl, by rfl, by rfl, by rfl, by rfl, by rfl, by rfl, by rfl, by rfl, by rfl, by rfl, by rfl, by rfl, by rfl, by rfl, by rfl⟩
  have e_BadCommand : cA CT "BadCommand" = C_BadCommand := by unfold cA; rw [h_BadCommand]; rfl
  have e_BadDeed : cA CT "BadDeed" = C_BadDeed := by unfold cA; rw [h_BadDeed]; rfl
  have e_BadEnd : cA CT "BadEnd" = C_BadEnd := by unfold cA; rw [h_BadEnd]; rfl
  have e_BadFault : cA CT "BadFault" = C_BadFault := by unfold cA; rw [h_BadFault]; rfl
  have e_BadFrame : cA CT "BadFrame" = C_BadFrame := by unfold cA; rw [h_BadFrame]; rfl
  have e_BadText : cA CT "BadText" = C_BadText := by unfold cA; rw [h_BadText]; rfl
  have e_Endless : cA CT "Endless" = C_Endless := by unfold cA; rw [h_Endless]; rfl
  have e_NoHearer : cA CT "NoHearer" = C_NoHearer := by unfold cA; rw [h_NoHearer]; rfl
  have e_NoLine : cA CT "NoLine" = C_NoLine := by unfold cA; rw [h_NoLine]; rfl
  have e_NoName : cA CT "NoName" = C_NoName := by unfold cA; rw [h_NoName]; rfl
  have e_NoOutcome : cA CT "NoOutcome" = C_NoOutcome := by unfold cA; rw [h_NoOutcome]; rfl
  have e_NoPromise : cA CT "NoPromise" = C_NoPromise := by unfold cA; rw [h_NoPromise]; rfl
  have e_NoStation : cA CT "NoStation" = C_NoStation := by unfold cA; rw [h_NoStation]; rfl
  have e_NothingToUndo : cA CT "NothingToUndo" = C_NothingToUndo := by unfold cA; rw [h_NothingToUndo]; rfl
  have e_NothingWaits : cA CT "NothingWaits" = C_NothingWaits := by unfold cA; rw [h_NothingWaits]; rfl
  have e_Taken : cA CT "Taken" = C_Taken := by unfold cA; rw [h_Taken]; rfl
  have e_TooMany : cA CT "TooMany" = C_TooMany := by unfold cA; rw [h_TooMany]; rfl
  have e_Unbounded : cA CT "Unbounded" = C_Unbounded := by unfold cA; rw [h_Unbounded]; rfl
  have e_Unsound : cA CT "Unsound" = C_Unsound := by unfold cA; rw [h_Unsound]; rfl
  have T : Txt K mg CT := { b_ArithmeticError := PySem.W.mg_none_of X G z_ArithmeticError, b_IndexError := PySem.W.mg_none_of X G z_IndexError, b_KeyError := PySem.W.mg_none_of X G z_KeyError, b_LookupError := PySem.W.mg_none_of X G z_LookupError, b_OverflowError := PySem.W.mg_none_of X G z_OverflowError, b_RuntimeError := PySem.W.mg_none_of X G z_RuntimeError, b_TypeError := PySem.W.mg_none_of X G z_TypeError, b_ValueError := PySem.W.mg_none_of X G z_ValueError, b_ZeroDivisionError := PySem.W.mg_none_of X G z_ZeroDivisionError, b_abs := PySem.W.mg_none_of X G z_abs, b_enumerate := PySem.W.mg_none_of X G z_enumerate, b_int := PySem.W.mg_none_of X G z_int, b_isinstance := PySem.W.mg_none_of X G z_isinstance, b_len := PySem.W.mg_none_of X G z_len, b_max := PySem.W.mg_none_of X G z_max, b_min := PySem.W.mg_none_of X G z_min, b_range := PySem.W.mg_none_of X G z_range, b_repr := PySem.W.mg_none_of X G z_repr, c_BadCommand := (by rw [e_BadCommand]; exact h_BadCommand), c_BadDeed := (by rw [e_BadDeed]; exact h_BadDeed), c_BadEnd := (by rw [e_BadEnd]; exact h_BadEnd), c_BadFault := (by rw [e_BadFault]; exact h_BadFault), c_BadFrame := (by rw [e_BadFrame]; exact h_BadFrame), c_BadText := (by rw [e_BadText]; exact h_BadText), c_Endless := (by rw [e_Endless]; exact h_Endless), c_NoHearer := (by rw [e_NoHearer]; exact h_NoHearer), c_NoLine := (by rw [e_NoLine]; exact h_NoLine), c_NoName := (by rw [e_NoName]; exact h_NoName), c_NoOutcome := (by rw [e_NoOutcome]; exact h_NoOutcome), c_NoPromise := (by rw [e_NoPromise]; exact h_NoPromise), c_NoStation := (by rw [e_NoStation]; exact h_NoStation), c_NothingToUndo := (by rw [e_NothingToUndo]; exact h_NothingToUndo), c_NothingWaits := (by rw [e_NothingWaits]; exact h_NothingWaits), c_Taken := (by rw [e_Taken]; exact h_Taken), c_TooMany := (by rw [e_TooMany]; exact h_TooMany), c_Unbounded := (by rw [e_Unbounded]; exact h_Unbounded), c_Unsound := (by rw [e_Unsound]; exact h_Unsound), xn_BadCommand_command := (by rw [e_BadCommand]; exact xn_BadCommand_command), xn_BadDeed_index := (by rw [e_BadDeed]; exact xn_BadDeed_index), xn_BadEnd_part := (by rw [e_BadEnd]; exact xn_BadEnd_part), xn_BadEnd_row := (by rw [e_BadEnd]; exact xn_BadEnd_row), xn_BadFault_bit := (by rw [e_BadFault]; exact xn_BadFault_bit), xn_BadFault_station := (by rw [e_BadFault]; exact xn_BadFault_station), xn_BadFrame_frame := (by rw [e_BadFrame]; exact xn_BadFrame_frame), xn_BadText_text := (by rw [e_BadText]; exact xn_BadText_text), xn_Endless_bit := (by rw [e_Endless]; exact xn_Endless_bit), xn_Endless_ring := (by rw [e_Endless]; exact xn_Endless_ring), xn_NoName_name := (by rw [e_NoName]; exact xn_NoName_name), xn_NoOutcome_outcome := (by rw [e_NoOutcome]; exact xn_NoOutcome_outcome), xn_NoPromise_promise := (by rw [e_NoPromise]; exact xn_NoPromise_promise), xn_NoStation_station := (by rw [e_NoStation]; exact xn_NoStation_station), xn_Taken_frame := (by rw [e_Taken]; exact xn_Taken_frame), xn_TooMany_limit := (by rw [e_TooMany]; exact xn_TooMany_limit), mc_BadCommand := (by rw [e_BadCommand]; exact PySem.W.mg_of X G x_BadCommand), mc_BadDeed := (by rw [e_BadDeed]; exact PySem.W.mg_of X G x_BadDeed), mc_BadEnd := (by rw [e_BadEnd]; exact PySem.W.mg_of X G x_BadEnd), mc_BadFault := (by rw [e_BadFault]; exact PySem.W.mg_of X G x_BadFault), mc_BadFrame := (by rw [e_BadFrame]; exact PySem.W.mg_of X G x_BadFrame), mc_BadText := (by rw [e_BadText]; exact PySem.W.mg_of X G x_BadText), mc_Endless := (by rw [e_Endless]; exact PySem.W.mg_of X G x_Endless), mc_NoHearer := (by rw [e_NoHearer]; exact PySem.W.mg_of X G x_NoHearer), mc_NoLine := (by rw [e_NoLine]; exact PySem.W.mg_of X G x_NoLine), mc_NoName := (by rw [e_NoName]; exact PySem.W.mg_of X G x_NoName), mc_NoOutcome := (by rw [e_NoOutcome]; exact PySem.W.mg_of X G x_NoOutcome), mc_NoPromise := (by rw [e_NoPromise]; exact PySem.W.mg_of X G x_NoPromise), mc_NoStation := (by rw [e_NoStation]; exact PySem.W.mg_of X G x_NoStation), mc_NothingToUndo := (by rw [e_NothingToUndo]; exact PySem.W.mg_of X G x_NothingToUndo), mc_NothingWaits := (by rw [e_NothingWaits]; exact PySem.W.mg_of X G x_NothingWaits), mc_Taken := (by rw [e_Taken]; exact PySem.W.mg_of X G x_Taken), mc_TooMany := (by rw [e_TooMany]; exact PySem.W.mg_of X G x_TooMany), mc_Unbounded := (by rw [e_Unbounded]; exact PySem.W.mg_of X G x_Unbounded), mc_Unsound := (by rw [e_Unsound]; exact PySem.W.mg_of X G x_Unsound), fam := fam_ }
  have oc_BadCommand : OexU K (cA CT "BadCommand") := by
    rw [e_BadCommand]
    exact ⟨⟨_, _, _, _, _, _, _, _, _, _, _, _, _, _, _, "ValueError", _, _, _, xL_BadCommand, ⟨by decide +kernel, by decide +kernel, by decide +kernel⟩, PySem.F.excBase_ValueError⟩, ⟨_, _, PySem.F.store_ValueError, (im_of xL_BadCommand (by decide +kernel)).2.1⟩, xhC_BadCommand, xsa_BadCommand, xkC_BadCommand⟩
  have O_BadCommand : OxU l.prog w K mg base 1 "BadCommand" (cA CT "BadCommand") f1 (PySem.W.fnOf "__init__" "BadCommand.__init__" (defArgs sBadCommand_init) (defBody sBadCommand_init) (defScope sBadCommand_init) .none kV1 dc1 pm1 an1 cd1 ct1) ["self", "command"] ["command"] (spXI (cA CT "BadCommand") ["command"]) :=
    ⟨oc_BadCommand, by rw [e_BadCommand]; exact a1, xt1_BadCommand, ok_BadCommand_init F1 oc_BadCommand (by rw [e_BadCommand]; exact xn_BadCommand_command), B1, fun s u ws hk hl => match ws, hl with | [_], _ => .of_eq rfl, by rw [e_BadCommand]; exact PySem.W.mg_of X G x_BadCommand⟩
  have oc_BadDeed : OexU K (cA CT "BadDeed") := by
    rw [e_BadDeed]
    exact ⟨⟨_, _, _, _, _, _, _, _, _, _, _, _, _, _, _, "IndexError", _, _, _, xL_BadDeed, ⟨by decide +kernel, by decide +kernel, by decide +kernel⟩, PySem.F.excBase_IndexError⟩, ⟨_, _, PySem.F.store_IndexError, (im_of xL_BadDeed (by decide +kernel)).2.1⟩, xhC_BadDeed, xsa_BadDeed, xkC_BadDeed⟩
  have O_BadDeed : OxU l.prog w K mg base 1 "BadDeed" (cA CT "BadDeed") f2 (PySem.W.fnOf "__init__" "BadDeed.__init__" (defArgs sBadDeed_init) (defBody sBadDeed_init) (defScope sBadDeed_init) .none kV2 dc2 pm2 an2 cd2 ct2) ["self", "index"] ["index"] (spXI (cA CT "BadDeed") ["index"]) :=
    ⟨oc_BadDeed, by rw [e_BadDeed]; exact a2, xt1_BadDeed, ok_BadDeed_init F2 oc_BadDeed (by rw [e_BadDeed]; exact xn_BadDeed_index), B2, fun s u ws hk hl => match ws, hl with | [_], _ => .of_eq rfl, by rw [e_BadDeed]; exact PySem.W.mg_of X G x_BadDeed⟩
  have oc_BadEnd : OexU K (cA CT "BadEnd") := by
    rw [e_BadEnd]
    exact ⟨⟨_, _, _, _, _, _, _, _, _, _, _, _, _, _, _, "ValueError", _, _, _, xL_BadEnd, ⟨by decide +kernel, by decide +kernel, by decide +kernel⟩, PySem.F.excBase_ValueError⟩, ⟨_, _, PySem.F.store_ValueError, (im_of xL_BadEnd (by decide +kernel)).2.1⟩, xhC_BadEnd, xsa_BadEnd, xkC_BadEnd⟩
  have O_BadEnd : OxU l.prog w K mg base 1 "BadEnd" (cA CT "BadEnd") f3 (PySem.W.fnOf "__init__" "BadEnd.__init__" (defArgs sBadEnd_init) (defBody sBadEnd_init) (defScope sBadEnd_init) .none kV3 dc3 pm3 an3 cd3 ct3) ["self", "part", "row"] ["row", "part"] (spXI (cA CT "BadEnd") ["row", "part"]) :=
    ⟨oc_BadEnd, by rw [e_BadEnd]; exact a3, xt1_BadEnd, ok_BadEnd_init F3 oc_BadEnd (by rw [e_BadEnd]; exact xn_BadEnd_part) (by rw [e_BadEnd]; exact xn_BadEnd_row), B3, fun s u ws hk hl => match ws, hl with | [_, _], _ => .of_eq rfl, by rw [e_BadEnd]; exact PySem.W.mg_of X G x_BadEnd⟩
  have oc_BadFault : OexU K (cA CT "BadFault") := by
    rw [e_BadFault]
    exact ⟨⟨_, _, _, _, _, _, _, _, _, _, _, _, _, _, _, "ValueError", _, _, _, xL_BadFault, ⟨by decide +kernel, by decide +kernel, by decide +kernel⟩, PySem.F.excBase_ValueError⟩, ⟨_, _, PySem.F.store_ValueError, (im_of xL_BadFault (by decide +kernel)).2.1⟩, xhC_BadFault, xsa_BadFault, xkC_BadFault⟩
  have O_BadFault : OxU l.prog w K mg base 1 "BadFault" (cA CT "BadFault") f4 (PySem.W.fnOf "__init__" "BadFault.__init__" (defArgs sBadFault_init) (defBody sBadFault_init) (defScope sBadFault_init) .none kV4 dc4 pm4 an4 cd4 ct4) ["self", "bit", "station"] ["station", "bit"] (spXI (cA CT "BadFault") ["station", "bit"]) :=
    ⟨oc_BadFault, by rw [e_BadFault]; exact a4, xt1_BadFault, ok_BadFault_init F4 oc_BadFault (by rw [e_BadFault]; exact xn_BadFault_bit) (by rw [e_BadFault]; exact xn_BadFault_station), B4, fun s u ws hk hl => match ws, hl with | [_, _], _ => .of_eq rfl, by rw [e_BadFault]; exact PySem.W.mg_of X G x_BadFault⟩
  have oc_BadFrame : OexU K (cA CT "BadFrame") := by
    rw [e_BadFrame]
    exact ⟨⟨_, _, _, _, _, _, _, _, _, _, _, _, _, _, _, "ValueError", _, _, _, xL_BadFrame, ⟨by decide +kernel, by decide +kernel, by decide +kernel⟩, PySem.F.excBase_ValueError⟩, ⟨_, _, PySem.F.store_ValueError, (im_of xL_BadFrame (by decide +kernel)).2.1⟩, xhC_BadFrame, xsa_BadFrame, xkC_BadFrame⟩
  have O_BadFrame : OxU l.prog w K mg base 1 "BadFrame" (cA CT "BadFrame") f5 (PySem.W.fnOf "__init__" "BadFrame.__init__" (defArgs sBadFrame_init) (defBody sBadFrame_init) (defScope sBadFrame_init) .none kV5 dc5 pm5 an5 cd5 ct5) ["self", "frame"] ["frame"] (spXI (cA CT "BadFrame") ["frame"]) :=
    ⟨oc_BadFrame, by rw [e_BadFrame]; exact a5, xt1_BadFrame, ok_BadFrame_init F5 oc_BadFrame (by rw [e_BadFrame]; exact xn_BadFrame_frame), B5, fun s u ws hk hl => match ws, hl with | [_], _ => .of_eq rfl, by rw [e_BadFrame]; exact PySem.W.mg_of X G x_BadFrame⟩
  have oc_BadText : OexU K (cA CT "BadText") := by
    rw [e_BadText]
    exact ⟨⟨_, _, _, _, _, _, _, _, _, _, _, _, _, _, _, "ValueError", _, _, _, xL_BadText, ⟨by decide +kernel, by decide +kernel, by decide +kernel⟩, PySem.F.excBase_ValueError⟩, ⟨_, _, PySem.F.store_ValueError, (im_of xL_BadText (by decide +kernel)).2.1⟩, xhC_BadText, xsa_BadText, xkC_BadText⟩
  have O_BadText : OxU l.prog w K mg base 1 "BadText" (cA CT "BadText") f6 (PySem.W.fnOf "__init__" "BadText.__init__" (defArgs sBadText_init) (defBody sBadText_init) (defScope sBadText_init) .none kV6 dc6 pm6 an6 cd6 ct6) ["self", "text"] ["text"] (spXI (cA CT "BadText") ["text"]) :=
    ⟨oc_BadText, by rw [e_BadText]; exact a6, xt1_BadText, ok_BadText_init F6 oc_BadText (by rw [e_BadText]; exact xn_BadText_text), B6, fun s u ws hk hl => match ws, hl with | [_], _ => .of_eq rfl, by rw [e_BadText]; exact PySem.W.mg_of X G x_BadText⟩
  have oc_Endless : OexU K (cA CT "Endless") := by
    rw [e_Endless]
    exact ⟨⟨_, _, _, _, _, _, _, _, _, _, _, _, _, _, _, "RuntimeError", _, _, _, xL_Endless, ⟨by decide +kernel, by decide +kernel, by decide +kernel⟩, PySem.F.excBase_RuntimeError⟩, ⟨_, _, PySem.F.store_RuntimeError, (im_of xL_Endless (by decide +kernel)).2.1⟩, xhC_Endless, xsa_Endless, xkC_Endless⟩
  have O_Endless : OxU l.prog w K mg base 1 "Endless" (cA CT "Endless") f7 (PySem.W.fnOf "__init__" "Endless.__init__" (defArgs sEndless_init) (defBody sEndless_init) (defScope sEndless_init) .none kV7 dc7 pm7 an7 cd7 ct7) ["self", "bit", "ring"] ["ring", "bit"] (spXI (cA CT "Endless") ["ring", "bit"]) :=
    ⟨oc_Endless, by rw [e_Endless]; exact a7, xt1_Endless, ok_Endless_init F7 oc_Endless (by rw [e_Endless]; exact xn_Endless_bit) (by rw [e_Endless]; exact xn_Endless_ring), B7, fun s u ws hk hl => match ws, hl with | [_, _], _ => .of_eq rfl, by rw [e_Endless]; exact PySem.W.mg_of X G x_Endless⟩
  have oc_NoHearer : OexU K (cA CT "NoHearer") := by
    rw [e_NoHearer]
    exact ⟨⟨_, _, _, _, _, _, _, _, _, _, _, _, _, _, _, "RuntimeError", _, _, _, xL_NoHearer, ⟨by decide +kernel, by decide +kernel, by decide +kernel⟩, PySem.F.excBase_RuntimeError⟩, ⟨_, _, PySem.F.store_RuntimeError, (im_of xL_NoHearer (by decide +kernel)).2.1⟩, xhC_NoHearer, xsa_NoHearer, xkC_NoHearer⟩
  have O_NoHearer : OxU l.prog w K mg base 1 "NoHearer" (cA CT "NoHearer") f8 (PySem.W.fnOf "__init__" "NoHearer.__init__" (defArgs sNoHearer_init) (defBody sNoHearer_init) (defScope sNoHearer_init) .none kV8 dc8 pm8 an8 cd8 ct8) ["self"] [] sp0 :=
    ⟨oc_NoHearer, by rw [e_NoHearer]; exact a8, xt1_NoHearer, ok_NoHearer_init F8, B8, fun s u ws hk hl => match ws, hl with | [], _ => .of_eq rfl, by rw [e_NoHearer]; exact PySem.W.mg_of X G x_NoHearer⟩
  have oc_NoLine : OexU K (cA CT "NoLine") := by
    rw [e_NoLine]
    exact ⟨⟨_, _, _, _, _, _, _, _, _, _, _, _, _, _, _, "RuntimeError", _, _, _, xL_NoLine, ⟨by decide +kernel, by decide +kernel, by decide +kernel⟩, PySem.F.excBase_RuntimeError⟩, ⟨_, _, PySem.F.store_RuntimeError, (im_of xL_NoLine (by decide +kernel)).2.1⟩, xhC_NoLine, xsa_NoLine, xkC_NoLine⟩
  have O_NoLine : OxU l.prog w K mg base 1 "NoLine" (cA CT "NoLine") f9 (PySem.W.fnOf "__init__" "NoLine.__init__" (defArgs sNoLine_init) (defBody sNoLine_init) (defScope sNoLine_init) .none kV9 dc9 pm9 an9 cd9 ct9) ["self"] [] sp0 :=
    ⟨oc_NoLine, by rw [e_NoLine]; exact a9, xt1_NoLine, ok_NoLine_init F9, B9, fun s u ws hk hl => match ws, hl with | [], _ => .of_eq rfl, by rw [e_NoLine]; exact PySem.W.mg_of X G x_NoLine⟩
  have oc_NoName : OexU K (cA CT "NoName") := by
    rw [e_NoName]
    exact ⟨⟨_, _, _, _, _, _, _, _, _, _, _, _, _, _, _, "LookupError", _, _, _, xL_NoName, ⟨by decide +kernel, by decide +kernel, by decide +kernel⟩, PySem.F.excBase_LookupError⟩, ⟨_, _, Vl.store_KeyError, (im_of xL_NoName (by decide +kernel)).2.1⟩, xhC_NoName, xsa_NoName, xkC_NoName⟩
  have O_NoName : OxU l.prog w K mg base 1 "NoName" (cA CT "NoName") f10 (PySem.W.fnOf "__init__" "NoName.__init__" (defArgs sNoName_init) (defBody sNoName_init) (defScope sNoName_init) .none kV10 dc10 pm10 an10 cd10 ct10) ["self", "name"] ["name"] (spXI (cA CT "NoName") ["name"]) :=
    ⟨oc_NoName, by rw [e_NoName]; exact a10, xt1_NoName, ok_NoName_init F10 oc_NoName (by rw [e_NoName]; exact xn_NoName_name), B10, fun s u ws hk hl => match ws, hl with | [_], _ => .of_eq rfl, by rw [e_NoName]; exact PySem.W.mg_of X G x_NoName⟩
  have oc_NoOutcome : OexU K (cA CT "NoOutcome") := by
    rw [e_NoOutcome]
    exact ⟨⟨_, _, _, _, _, _, _, _, _, _, _, _, _, _, _, "LookupError", _, _, _, xL_NoOutcome, ⟨by decide +kernel, by decide +kernel, by decide +kernel⟩, PySem.F.excBase_LookupError⟩, ⟨_, _, PySem.F.store_LookupError, (im_of xL_NoOutcome (by decide +kernel)).2.1⟩, xhC_NoOutcome, xsa_NoOutcome, xkC_NoOutcome⟩
  have O_NoOutcome : OxU l.prog w K mg base 1 "NoOutcome" (cA CT "NoOutcome") f11 (PySem.W.fnOf "__init__" "NoOutcome.__init__" (defArgs sNoOutcome_init) (defBody sNoOutcome_init) (defScope sNoOutcome_init) .none kV11 dc11 pm11 an11 cd11 ct11) ["self", "outcome"] ["outcome"] (spXI (cA CT "NoOutcome") ["outcome"]) :=
    ⟨oc_NoOutcome, by rw [e_NoOutcome]; exact a11, xt1_NoOutcome, ok_NoOutcome_init F11 oc_NoOutcome (by rw [e_NoOutcome]; exact xn_NoOutcome_outcome), B11, fun s u ws hk hl => match ws, hl with | [_], _ => .of_eq rfl, by rw [e_NoOutcome]; exact PySem.W.mg_of X G x_NoOutcome⟩
  have oc_NoPromise : OexU K (cA CT "NoPromise") := by
    rw [e_NoPromise]
    exact ⟨⟨_, _, _, _, _, _, _, _, _, _, _, _, _, _, _, "ValueError", _, _, _, xL_NoPromise, ⟨by decide +kernel, by decide +kernel, by decide +kernel⟩, PySem.F.excBase_ValueError⟩, ⟨_, _, PySem.F.store_ValueError, (im_of xL_NoPromise (by decide +kernel)).2.1⟩, xhC_NoPromise, xsa_NoPromise, xkC_NoPromise⟩
  have O_NoPromise : OxU l.prog w K mg base 1 "NoPromise" (cA CT "NoPromise") f12 (PySem.W.fnOf "__init__" "NoPromise.__init__" (defArgs sNoPromise_init) (defBody sNoPromise_init) (defScope sNoPromise_init) .none kV12 dc12 pm12 an12 cd12 ct12) ["self", "promise"] ["promise"] (spXI (cA CT "NoPromise") ["promise"]) :=
    ⟨oc_NoPromise, by rw [e_NoPromise]; exact a12, xt1_NoPromise, ok_NoPromise_init F12 oc_NoPromise (by rw [e_NoPromise]; exact xn_NoPromise_promise), B12, fun s u ws hk hl => match ws, hl with | [_], _ => .of_eq rfl, by rw [e_NoPromise]; exact PySem.W.mg_of X G x_NoPromise⟩
  have oc_NoStation : OexU K (cA CT "NoStation") := by
    rw [e_NoStation]
    exact ⟨⟨_, _, _, _, _, _, _, _, _, _, _, _, _, _, _, "LookupError", _, _, _, xL_NoStation, ⟨by decide +kernel, by decide +kernel, by decide +kernel⟩, PySem.F.excBase_LookupError⟩, ⟨_, _, Vl.store_KeyError, (im_of xL_NoStation (by decide +kernel)).2.1⟩, xhC_NoStation, xsa_NoStation, xkC_NoStation⟩
  have O_NoStation : OxU l.prog w K mg base 1 "NoStation" (cA CT "NoStation") f13 (PySem.W.fnOf "__init__" "NoStation.__init__" (defArgs sNoStation_init) (defBody sNoStation_init) (defScope sNoStation_init) .none kV13 dc13 pm13 an13 cd13 ct13) ["self", "station"] ["station"] (spXI (cA CT "NoStation") ["station"]) :=
    ⟨oc_NoStation, by rw [e_NoStation]; exact a13, xt1_NoStation, ok_NoStation_init F13 oc_NoStation (by rw [e_NoStation]; exact xn_NoStation_station), B13, fun s u ws hk hl => match ws, hl with | [_], _ => .of_eq rfl, by rw [e_NoStation]; exact PySem.W.mg_of X G x_NoStation⟩
  have oc_NothingToUndo : OexU K (cA CT "NothingToUndo") := by
    rw [e_NothingToUndo]
    exact ⟨⟨_, _, _, _, _, _, _, _, _, _, _, _, _, _, _, "LookupError", _, _, _, xL_NothingToUndo, ⟨by decide +kernel, by decide +kernel, by decide +kernel⟩, PySem.F.excBase_LookupError⟩, ⟨_, _, PySem.F.store_LookupError, (im_of xL_NothingToUndo (by decide +kernel)).2.1⟩, xhC_NothingToUndo, xsa_NothingToUndo, xkC_NothingToUndo⟩
  have O_NothingToUndo : OxU l.prog w K mg base 1 "NothingToUndo" (cA CT "NothingToUndo") f14 (PySem.W.fnOf "__init__" "NothingToUndo.__init__" (defArgs sNothingToUndo_init) (defBody sNothingToUndo_init) (defScope sNothingToUndo_init) .none kV14 dc14 pm14 an14 cd14 ct14) ["self"] [] sp0 :=
    ⟨oc_NothingToUndo, by rw [e_NothingToUndo]; exact a14, xt1_NothingToUndo, ok_NothingToUndo_init F14, B14, fun s u ws hk hl => match ws, hl with | [], _ => .of_eq rfl, by rw [e_NothingToUndo]; exact PySem.W.mg_of X G x_NothingToUndo⟩
  have oc_NothingWaits : OexU K (cA CT "NothingWaits") := by
    rw [e_NothingWaits]
    exact ⟨⟨_, _, _, _, _, _, _, _, _, _, _, _, _, _, _, "RuntimeError", _, _, _, xL_NothingWaits, ⟨by decide +kernel, by decide +kernel, by decide +kernel⟩, PySem.F.excBase_RuntimeError⟩, ⟨_, _, PySem.F.store_RuntimeError, (im_of xL_NothingWaits (by decide +kernel)).2.1⟩, xhC_NothingWaits, xsa_NothingWaits, xkC_NothingWaits⟩
  have O_NothingWaits : OxU l.prog w K mg base 1 "NothingWaits" (cA CT "NothingWaits") f15 (PySem.W.fnOf "__init__" "NothingWaits.__init__" (defArgs sNothingWaits_init) (defBody sNothingWaits_init) (defScope sNothingWaits_init) .none kV15 dc15 pm15 an15 cd15 ct15) ["self"] [] sp0 :=
    ⟨oc_NothingWaits, by rw [e_NothingWaits]; exact a15, xt1_NothingWaits, ok_NothingWaits_init F15, B15, fun s u ws hk hl => match ws, hl with | [], _ => .of_eq rfl, by rw [e_NothingWaits]; exact PySem.W.mg_of X G x_NothingWaits⟩
  have oc_Taken : OexU K (cA CT "Taken") := by
    rw [e_Taken]
    exact ⟨⟨_, _, _, _, _, _, _, _, _, _, _, _, _, _, _, "TypeError", _, _, _, xL_Taken, ⟨by decide +kernel, by decide +kernel, by decide +kernel⟩, PySem.F.excBase_TypeError⟩, ⟨_, _, PySem.F.store_TypeError, (im_of xL_Taken (by decide +kernel)).2.1⟩, xhC_Taken, xsa_Taken, xkC_Taken⟩
  have O_Taken : OxU l.prog w K mg base 1 "Taken" (cA CT "Taken") f16 (PySem.W.fnOf "__init__" "Taken.__init__" (defArgs sTaken_init) (defBody sTaken_init) (defScope sTaken_init) .none kV16 dc16 pm16 an16 cd16 ct16) ["self", "frame"] ["frame"] (spXI (cA CT "Taken") ["frame"]) :=
    ⟨oc_Taken, by rw [e_Taken]; exact a16, xt1_Taken, ok_Taken_init F16 oc_Taken (by rw [e_Taken]; exact xn_Taken_frame), B16, fun s u ws hk hl => match ws, hl with | [_], _ => .of_eq rfl, by rw [e_Taken]; exact PySem.W.mg_of X G x_Taken⟩
  have oc_TooMany : OexU K (cA CT "TooMany") := by
    rw [e_TooMany]
    exact ⟨⟨_, _, _, _, _, _, _, _, _, _, _, _, _, _, _, "OverflowError", _, _, _, xL_TooMany, ⟨by decide +kernel, by decide +kernel, by decide +kernel⟩, PySem.F.excBase_OverflowError⟩, ⟨_, _, PySem.F.store_OverflowError, (im_of xL_TooMany (by decide +kernel)).2.1⟩, xhC_TooMany, xsa_TooMany, xkC_TooMany⟩
  have O_TooMany : OxU l.prog w K mg base 1 "TooMany" (cA CT "TooMany") f17 (PySem.W.fnOf "__init__" "TooMany.__init__" (defArgs sTooMany_init) (defBody sTooMany_init) (defScope sTooMany_init) .none kV17 dc17 pm17 an17 cd17 ct17) ["self", "limit"] ["limit"] (spXI (cA CT "TooMany") ["limit"]) :=
    ⟨oc_TooMany, by rw [e_TooMany]; exact a17, xt1_TooMany, ok_TooMany_init F17 oc_TooMany (by rw [e_TooMany]; exact xn_TooMany_limit), B17, fun s u ws hk hl => match ws, hl with | [_], _ => .of_eq rfl, by rw [e_TooMany]; exact PySem.W.mg_of X G x_TooMany⟩
  have oc_Unbounded : OexU K (cA CT "Unbounded") := by
    rw [e_Unbounded]
    exact ⟨⟨_, _, _, _, _, _, _, _, _, _, _, _, _, _, _, "ArithmeticError", _, _, _, xL_Unbounded, ⟨by decide +kernel, by decide +kernel, by decide +kernel⟩, PySem.F.excBase_ArithmeticError⟩, ⟨_, _, PySem.F.store_ArithmeticError, (im_of xL_Unbounded (by decide +kernel)).2.1⟩, xhC_Unbounded, xsa_Unbounded, xkC_Unbounded⟩
  have O_Unbounded : OxU l.prog w K mg base 1 "Unbounded" (cA CT "Unbounded") f18 (PySem.W.fnOf "__init__" "Unbounded.__init__" (defArgs sUnbounded_init) (defBody sUnbounded_init) (defScope sUnbounded_init) .none kV18 dc18 pm18 an18 cd18 ct18) ["self"] [] sp0 :=
    ⟨oc_Unbounded, by rw [e_Unbounded]; exact a18, xt1_Unbounded, ok_Unbounded_init F18, B18, fun s u ws hk hl => match ws, hl with | [], _ => .of_eq rfl, by rw [e_Unbounded]; exact PySem.W.mg_of X G x_Unbounded⟩
  have oc_Unsound : OexU K (cA CT "Unsound") := by
    rw [e_Unsound]
    exact ⟨⟨_, _, _, _, _, _, _, _, _, _, _, _, _, _, _, "ArithmeticError", _, _, _, xL_Unsound, ⟨by decide +kernel, by decide +kernel, by decide +kernel⟩, PySem.F.excBase_ArithmeticError⟩, ⟨_, _, PySem.F.store_ArithmeticError, (im_of xL_Unsound (by decide +kernel)).2.1⟩, xhC_Unsound, xsa_Unsound, xkC_Unsound⟩
  have O_Unsound : OxU l.prog w K mg base 1 "Unsound" (cA CT "Unsound") f19 (PySem.W.fnOf "__init__" "Unsound.__init__" (defArgs sUnsound_init) (defBody sUnsound_init) (defScope sUnsound_init) .none kV19 dc19 pm19 an19 cd19 ct19) ["self"] [] sp0 :=
    ⟨oc_Unsound, by rw [e_Unsound]; exact a19, xt1_Unsound, ok_Unsound_init F19, B19, fun s u ws hk hl => match ws, hl with | [], _ => .of_eq rfl, by rw [e_Unsound]; exact PySem.W.mg_of X G x_Unsound⟩
  have V__law_bag : Vx l.prog w K mg base 1 "_law_bag" f20 _ ["_law_script", "_law_at"] CT [false, false] Φ_L_bag := ⟨dv_L_bag T  F20, PySem.W.mg_of X G a20, k20, B20⟩
  have V__law_take : Vx l.prog w K mg base 1 "_law_take" f21 _ ["_law_bag_here", "_law_many"] CT [true, false] Φ_L_take := ⟨dv_L_take T  F21, PySem.W.mg_of X G a21, k21, B21⟩
  have V__law_any : Vx l.prog w K mg base 2 "_law_any" f22 _ ["_law_bag_here"] CT [true] Φ_L_any := ⟨dv_L_any T V__law_take F22, PySem.W.mg_of X G a22, k22, B22⟩
  have V__law_family : Vx l.prog w K mg base 1 "_law_family" f23 _ ["_law_e"] CT [false] Φ_L_family := ⟨dv_L_family T  F23, PySem.W.mg_of X G a23, k23, B23⟩
  have V__law_base : Vx l.prog w K mg base 1 "_law_base" f24 _ ["_law_e"] CT [false] Φ_L_base := ⟨dv_L_base T  F24, PySem.W.mg_of X G a24, k24, B24⟩
  have V__law_made : Vx l.prog w K mg base 3 "_law_made" f25 _ ["_law_one", "_law_other"] CT [false, false] Φ_L_made := ⟨dv_L_made T O_BadCommand O_BadDeed O_BadEnd O_BadFault O_BadFrame O_BadText O_Endless O_NoHearer O_NoLine O_NoName O_NoOutcome O_NoPromise O_NoStation O_NothingToUndo O_NothingWaits O_Taken O_TooMany O_Unbounded O_Unsound F25, PySem.W.mg_of X G a25, k25, B25⟩
  have V__law_fields : Vx l.prog w K mg base 3 "_law_fields" f26 _ ["_law_one", "_law_other"] CT [false, false] Φ_L_fields := ⟨dv_L_fields T O_BadCommand O_BadDeed O_BadEnd O_BadFault O_BadFrame O_BadText O_Endless O_NoName O_NoOutcome O_NoPromise O_NoStation O_Taken O_TooMany F26, PySem.W.mg_of X G a26, k26, B26⟩
  have V__law_seconds : Vx l.prog w K mg base 3 "_law_seconds" f27 _ ["_law_one", "_law_other"] CT [false, false] Φ_L_seconds := ⟨dv_L_seconds T O_BadEnd O_BadFault O_Endless F27, PySem.W.mg_of X G a27, k27, B27⟩
  exact law_of (dv_law T V__law_any V__law_bag V__law_base V__law_family V__law_fields V__law_made V__law_seconds F28) law_true
end K08
open PySem PySem.W PyProof.Rows
set_option maxRecDepth 100000 in
set_option maxHeartbeats 0 in
theorem PySem.Challenge.cw_strongbit_k08_errors_made_holds : PySem.Challenge.rw_strongbit_k08_errors_made.Holds := by
  w_on; o_law; k_head; (case hw => w_witness2)
  k_fill
  refine Sb.walkG (l := PySem.Challenge.rw_strongbit_k08_errors_made) (n := 63) (k := 4) (x := "_law_script") (sp := fun w => Vl.spLawB _) rfl (by decide) rfl ⟨rfl, by decide, by decide⟩ (fun w h Y => PySem.W.kIn_of Y) ?F (fun _ _ a ns hl _ hS => ⟨a, ns, rfl, hS, hl, fun _ => rfl⟩)
  case F =>
    intro w mg fa h KX G hmg
    refine' K08.all_mk KX G hmg ?a1 ?i1 ?l1 ?c1 ?k1 ?a2 ?i2 ?l2 ?c2 ?k2 ?a3 ?i3 ?l3 ?c3 ?k3 ?a4 ?i4 ?l4 ?c4 ?k4 ?a5 ?i5 ?l5 ?c5 ?k5 ?a6 ?i6 ?l6 ?c6 ?k6 ?a7 ?i7 ?l7 ?c7 ?k7 ?a8 ?i8 ?l8 ?c8 ?k8 ?a9 ?i9 ?l9 ?c9 ?k9 ?a10 ?i10 ?l10 ?c10 ?k10 ?a11 ?i11 ?l11 ?c11 ?k11 ?a12 ?i12 ?l12 ?c12 ?k12 ?a13 ?i13 ?l13 ?c13 ?k13 ?a14 ?i14 ?l14 ?c14 ?k14 ?a15 ?i15 ?l15 ?c15 ?k15 ?a16 ?i16 ?l16 ?c16 ?k16 ?a17 ?i17 ?l17 ?c17 ?k17 ?a18 ?i18 ?l18 ?c18 ?k18 ?a19 ?i19 ?l19 ?c19 ?k19 ?a20 ?l20 ?c20 ?k20 ?a21 ?l21 ?c21 ?k21 ?a22 ?l22 ?c22 ?k22 ?a23 ?l23 ?c23 ?k23 ?a24 ?l24 ?c24 ?k24 ?a25 ?l25 ?c25 ?k25 ?a26 ?l26 ?c26 ?k26 ?a27 ?l27 ?c27 ?k27 ?a28 ?l28 ?c28 ?k28 ?z_ArithmeticError ?z_IndexError ?z_KeyError ?z_LookupError ?z_OverflowError ?z_RuntimeError ?z_TypeError ?z_ValueError ?z_ZeroDivisionError ?z_abs ?z_enumerate ?z_int ?z_isinstance ?z_len ?z_max ?z_min ?z_range ?z_repr ?x_BadCommand ?xL_BadCommand ?xsa_BadCommand ?xt1_BadCommand ?xkC_BadCommand ?xeC_BadCommand ?xtC_BadCommand ?xga_BadCommand ?xgg_BadCommand ?xhC_BadCommand ?xca_BadCommand ?xmo_BadCommand ?wg ?wk ?xn_BadCommand_command ?x_BadDeed ?xL_BadDeed ?xsa_BadDeed ?xt1_BadDeed ?xkC_BadDeed ?xeC_BadDeed ?xtC_BadDeed ?xga_BadDeed ?xgg_BadDeed ?xhC_BadDeed ?xca_BadDeed ?xmo_BadDeed ?xn_BadDeed_index ?x_BadEnd ?xL_BadEnd ?xsa_BadEnd ?xt1_BadEnd ?xkC_BadEnd ?xeC_BadEnd ?xtC_BadEnd ?xga_BadEnd ?xgg_BadEnd ?xhC_BadEnd ?xca_BadEnd ?xmo_BadEnd ?xn_BadEnd_part ?xn_BadEnd_row ?x_BadFault ?xL_BadFault ?xsa_BadFault ?xt1_BadFault ?xkC_BadFault ?xeC_BadFault ?xtC_BadFault ?xga_BadFault ?xgg_BadFault ?xhC_BadFault ?xca_BadFault ?xmo_BadFault ?xn_BadFault_bit ?xn_BadFault_station ?x_BadFrame ?xL_BadFrame ?xsa_BadFrame ?xt1_BadFrame ?xkC_BadFrame ?xeC_BadFrame ?xtC_BadFrame ?xga_BadFrame ?xgg_BadFrame ?xhC_BadFrame ?xca_BadFrame ?xmo_BadFrame ?xn_BadFrame_frame ?x_BadText ?xL_BadText ?xsa_BadText ?xt1_BadText ?xkC_BadText ?xeC_BadText ?xtC_BadText ?xga_BadText ?xgg_BadText ?xhC_BadText ?xca_BadText ?xmo_BadText ?xn_BadText_text ?x_Endless ?xL_Endless ?xsa_Endless ?xt1_Endless ?xkC_Endless ?xeC_Endless ?xtC_Endless ?xga_Endless ?xgg_Endless ?xhC_Endless ?xca_Endless ?xmo_Endless ?xn_Endless_bit ?xn_Endless_ring ?x_NoHearer ?xL_NoHearer ?xsa_NoHearer ?xt1_NoHearer ?xkC_NoHearer ?xeC_NoHearer ?xtC_NoHearer ?xga_NoHearer ?xgg_NoHearer ?xhC_NoHearer ?xca_NoHearer ?xmo_NoHearer ?x_NoLine ?xL_NoLine ?xsa_NoLine ?xt1_NoLine ?xkC_NoLine ?xeC_NoLine ?xtC_NoLine ?xga_NoLine ?xgg_NoLine ?xhC_NoLine ?xca_NoLine ?xmo_NoLine ?x_NoName ?xL_NoName ?xsa_NoName ?xt1_NoName ?xkC_NoName ?xeC_NoName ?xtC_NoName ?xga_NoName ?xgg_NoName ?xhC_NoName ?xca_NoName ?xmo_NoName ?xn_NoName_name ?x_NoOutcome ?xL_NoOutcome ?xsa_NoOutcome ?xt1_NoOutcome ?xkC_NoOutcome ?xeC_NoOutcome ?xtC_NoOutcome ?xga_NoOutcome ?xgg_NoOutcome ?xhC_NoOutcome ?xca_NoOutcome ?xmo_NoOutcome ?xn_NoOutcome_outcome ?x_NoPromise ?xL_NoPromise ?xsa_NoPromise ?xt1_NoPromise ?xkC_NoPromise ?xeC_NoPromise ?xtC_NoPromise ?xga_NoPromise ?xgg_NoPromise ?xhC_NoPromise ?xca_NoPromise ?xmo_NoPromise ?xn_NoPromise_promise ?x_NoStation ?xL_NoStation ?xsa_NoStation ?xt1_NoStation ?xkC_NoStation ?xeC_NoStation ?xtC_NoStation ?xga_NoStation ?xgg_NoStation ?xhC_NoStation ?xca_NoStation ?xmo_NoStation ?xn_NoStation_station ?x_NothingToUndo ?xL_NothingToUndo ?xsa_NothingToUndo ?xt1_NothingToUndo ?xkC_NothingToUndo ?xeC_NothingToUndo ?xtC_NothingToUndo ?xga_NothingToUndo ?xgg_NothingToUndo ?xhC_NothingToUndo ?xca_NothingToUndo ?xmo_NothingToUndo ?x_NothingWaits ?xL_NothingWaits ?xsa_NothingWaits ?xt1_NothingWaits ?xkC_NothingWaits ?xeC_NothingWaits ?xtC_NothingWaits ?xga_NothingWaits ?xgg_NothingWaits ?xhC_NothingWaits ?xca_NothingWaits ?xmo_NothingWaits ?x_Taken ?xL_Taken ?xsa_Taken ?xt1_Taken ?xkC_Taken ?xeC_Taken ?xtC_Taken ?xga_Taken ?xgg_Taken ?xhC_Taken ?xca_Taken ?xmo_Taken ?xn_Taken_frame ?x_TooMany ?xL_TooMany ?xsa_TooMany ?xt1_TooMany ?xkC_TooMany ?xeC_TooMany ?xtC_TooMany ?xga_TooMany ?xgg_TooMany ?xhC_TooMany ?xca_TooMany ?xmo_TooMany ?xn_TooMany_limit ?x_Unbounded ?xL_Unbounded ?xsa_Unbounded ?xt1_Unbounded ?xkC_Unbounded ?xeC_Unbounded ?xtC_Unbounded ?xga_Unbounded ?xgg_Unbounded ?xhC_Unbounded ?xca_Unbounded ?xmo_Unbounded ?x_Unsound ?xL_Unsound ?xsa_Unsound ?xt1_Unsound ?xkC_Unsound ?xeC_Unsound ?xtC_Unsound ?xga_Unsound ?xgg_Unsound ?xhC_Unsound ?xca_Unsound ?xmo_Unsound
    (case x_BadCommand => k_is)
    (case x_BadDeed => k_is)
    (case x_BadEnd => k_is)
    (case x_BadFault => k_is)
    (case x_BadFrame => k_is)
    (case x_BadText => k_is)
    (case x_Endless => k_is)
    (case x_NoHearer => k_is)
    (case x_NoLine => k_is)
    (case x_NoName => k_is)
    (case x_NoOutcome => k_is)
    (case x_NoPromise => k_is)
    (case x_NoStation => k_is)
    (case x_NothingToUndo => k_is)
    (case x_NothingWaits => k_is)
    (case x_Taken => k_is)
    (case x_TooMany => k_is)
    (case x_Unbounded => k_is)
    (case x_Unsound => k_is)
    (case a1 => k_is)
    (case i1 => k_is)
    (case l1 => k_is)
    (case c1 => k_is)
    (case k1 => k_is)
    (case a2 => k_is)
    (case i2 => k_is)
    (case l2 => k_is)
    (case c2 => k_is)
    (case k2 => k_is)
    (case a3 => k_is)
    (case i3 => k_is)
    (case l3 => k_is)
    (case c3 => k_is)
    (case k3 => k_is)
    (case a4 => k_is)
    (case i4 => k_is)
    (case l4 => k_is)
    (case c4 => k_is)
    (case k4 => k_is)
    (case a5 => k_is)
    (case i5 => k_is)
    (case l5 => k_is)
    (case c5 => k_is)
    (case k5 => k_is)
    (case a6 => k_is)
    (case i6 => k_is)
    (case l6 => k_is)
    (case c6 => k_is)
    (case k6 => k_is)
    (case a7 => k_is)
    (case i7 => k_is)
    (case l7 => k_is)
    (case c7 => k_is)
    (case k7 => k_is)
    (case a8 => k_is)
    (case i8 => k_is)
    (case l8 => k_is)
    (case c8 => k_is)
    (case k8 => k_is)
    (case a9 => k_is)
    (case i9 => k_is)
    (case l9 => k_is)
    (case c9 => k_is)
    (case k9 => k_is)
    (case a10 => k_is)
    (case i10 => k_is)
    (case l10 => k_is)
    (case c10 => k_is)
    (case k10 => k_is)
    (case a11 => k_is)
    (case i11 => k_is)
    (case l11 => k_is)
    (case c11 => k_is)
    (case k11 => k_is)
    (case a12 => k_is)
    (case i12 => k_is)
    (case l12 => k_is)
    (case c12 => k_is)
    (case k12 => k_is)
    (case a13 => k_is)
    (case i13 => k_is)
    (case l13 => k_is)
    (case c13 => k_is)
    (case k13 => k_is)
    (case a14 => k_is)
    (case i14 => k_is)
    (case l14 => k_is)
    (case c14 => k_is)
    (case k14 => k_is)
    (case a15 => k_is)
    (case i15 => k_is)
    (case l15 => k_is)
    (case c15 => k_is)
    (case k15 => k_is)
    (case a16 => k_is)
    (case i16 => k_is)
    (case l16 => k_is)
    (case c16 => k_is)
    (case k16 => k_is)
    (case a17 => k_is)
    (case i17 => k_is)
    (case l17 => k_is)
    (case c17 => k_is)
    (case k17 => k_is)
    (case a18 => k_is)
    (case i18 => k_is)
    (case l18 => k_is)
    (case c18 => k_is)
    (case k18 => k_is)
    (case a19 => k_is)
    (case i19 => k_is)
    (case l19 => k_is)
    (case c19 => k_is)
    (case k19 => k_is)
    (case a20 => k_is)
    (case l20 => k_is)
    (case c20 => k_is)
    (case k20 => k_is)
    (case a21 => k_is)
    (case l21 => k_is)
    (case c21 => k_is)
    (case k21 => k_is)
    (case a22 => k_is)
    (case l22 => k_is)
    (case c22 => k_is)
    (case k22 => k_is)
    (case a23 => k_is)
    (case l23 => k_is)
    (case c23 => k_is)
    (case k23 => k_is)
    (case a24 => k_is)
    (case l24 => k_is)
    (case c24 => k_is)
    (case k24 => k_is)
    (case a25 => k_is)
    (case l25 => k_is)
    (case c25 => k_is)
    (case k25 => k_is)
    (case a26 => k_is)
    (case l26 => k_is)
    (case c26 => k_is)
    (case k26 => k_is)
    (case a27 => k_is)
    (case l27 => k_is)
    (case c27 => k_is)
    (case k27 => k_is)
    (case a28 => k_is)
    (case l28 => k_is)
    (case c28 => k_is)
    (case k28 => k_is)
    (case z_ArithmeticError => k_is)
    (case z_IndexError => k_is)
    (case z_KeyError => k_is)
    (case z_LookupError => k_is)
    (case z_OverflowError => k_is)
    (case z_RuntimeError => k_is)
    (case z_TypeError => k_is)
    (case z_ValueError => k_is)
    (case z_ZeroDivisionError => k_is)
    (case z_abs => k_is)
    (case z_enumerate => k_is)
    (case z_int => k_is)
    (case z_isinstance => k_is)
    (case z_len => k_is)
    (case z_max => k_is)
    (case z_min => k_is)
    (case z_range => k_is)
    (case z_repr => k_is)
    (case xL_BadCommand => k_is)
    (case xsa_BadCommand => k_is)
    (case xt1_BadCommand => k_is)
    (case xkC_BadCommand => k_is)
    (case xeC_BadCommand => k_is)
    (case xtC_BadCommand => k_is)
    (case xga_BadCommand => k_is)
    (case xgg_BadCommand => k_is)
    (case xhC_BadCommand => k_is)
    (case xca_BadCommand => k_is)
    (case xmo_BadCommand => k_is)
    (case wg => k_is)
    (case wk => k_is)
    (case xn_BadCommand_command => k_is)
    (case xL_BadDeed => k_is)
    (case xsa_BadDeed => k_is)
    (case xt1_BadDeed => k_is)
    (case xkC_BadDeed => k_is)
    (case xeC_BadDeed => k_is)
    (case xtC_BadDeed => k_is)
    (case xga_BadDeed => k_is)
    (case xgg_BadDeed => k_is)
    (case xhC_BadDeed => k_is)
    (case xca_BadDeed => k_is)
    (case xmo_BadDeed => k_is)
    (case xn_BadDeed_index => k_is)
    (case xL_BadEnd => k_is)
    (case xsa_BadEnd => k_is)
    (case xt1_BadEnd => k_is)
    (case xkC_BadEnd => k_is)
    (case xeC_BadEnd => k_is)
    (case xtC_BadEnd => k_is)
    (case xga_BadEnd => k_is)
    (case xgg_BadEnd => k_is)
    (case xhC_BadEnd => k_is)
    (case xca_BadEnd => k_is)
    (case xmo_BadEnd => k_is)
    (case xn_BadEnd_part => k_is)
    (case xn_BadEnd_row => k_is)
    (case xL_BadFault => k_is)
    (case xsa_BadFault => k_is)
    (case xt1_BadFault => k_is)
    (case xkC_BadFault => k_is)
    (case xeC_BadFault => k_is)
    (case xtC_BadFault => k_is)
    (case xga_BadFault => k_is)
    (case xgg_BadFault => k_is)
    (case xhC_BadFault => k_is)
    (case xca_BadFault => k_is)
    (case xmo_BadFault => k_is)
    (case xn_BadFault_bit => k_is)
    (case xn_BadFault_station => k_is)
    (case xL_BadFrame => k_is)
    (case xsa_BadFrame => k_is)
    (case xt1_BadFrame => k_is)
    (case xkC_BadFrame => k_is)
    (case xeC_BadFrame => k_is)
    (case xtC_BadFrame => k_is)
    (case xga_BadFrame => k_is)
    (case xgg_BadFrame => k_is)
    (case xhC_BadFrame => k_is)
    (case xca_BadFrame => k_is)
    (case xmo_BadFrame => k_is)
    (case xn_BadFrame_frame => k_is)
    (case xL_BadText => k_is)
    (case xsa_BadText => k_is)
    (case xt1_BadText => k_is)
    (case xkC_BadText => k_is)
    (case xeC_BadText => k_is)
    (case xtC_BadText => k_is)
    (case xga_BadText => k_is)
    (case xgg_BadText => k_is)
    (case xhC_BadText => k_is)
    (case xca_BadText => k_is)
    (case xmo_BadText => k_is)
    (case xn_BadText_text => k_is)
    (case xL_Endless => k_is)
    (case xsa_Endless => k_is)
    (case xt1_Endless => k_is)
    (case xkC_Endless => k_is)
    (case xeC_Endless => k_is)
    (case xtC_Endless => k_is)
    (case xga_Endless => k_is)
    (case xgg_Endless => k_is)
    (case xhC_Endless => k_is)
    (case xca_Endless => k_is)
    (case xmo_Endless => k_is)
    (case xn_Endless_bit => k_is)
    (case xn_Endless_ring => k_is)
    (case xL_NoHearer => k_is)
    (case xsa_NoHearer => k_is)
    (case xt1_NoHearer => k_is)
    (case xkC_NoHearer => k_is)
    (case xeC_NoHearer => k_is)
    (case xtC_NoHearer => k_is)
    (case xga_NoHearer => k_is)
    (case xgg_NoHearer => k_is)
    (case xhC_NoHearer => k_is)
    (case xca_NoHearer => k_is)
    (case xmo_NoHearer => k_is)
    (case xL_NoLine => k_is)
    (case xsa_NoLine => k_is)
    (case xt1_NoLine => k_is)
    (case xkC_NoLine => k_is)
    (case xeC_NoLine => k_is)
    (case xtC_NoLine => k_is)
    (case xga_NoLine => k_is)
    (case xgg_NoLine => k_is)
    (case xhC_NoLine => k_is)
    (case xca_NoLine => k_is)
    (case xmo_NoLine => k_is)
    (case xL_NoName => k_is)
    (case xsa_NoName => k_is)
    (case xt1_NoName => k_is)
    (case xkC_NoName => k_is)
    (case xeC_NoName => k_is)
    (case xtC_NoName => k_is)
    (case xga_NoName => k_is)
    (case xgg_NoName => k_is)
    (case xhC_NoName => k_is)
    (case xca_NoName => k_is)
    (case xmo_NoName => k_is)
    (case xn_NoName_name => k_is)
    (case xL_NoOutcome => k_is)
    (case xsa_NoOutcome => k_is)
    (case xt1_NoOutcome => k_is)
    (case xkC_NoOutcome => k_is)
    (case xeC_NoOutcome => k_is)
    (case xtC_NoOutcome => k_is)
    (case xga_NoOutcome => k_is)
    (case xgg_NoOutcome => k_is)
    (case xhC_NoOutcome => k_is)
    (case xca_NoOutcome => k_is)
    (case xmo_NoOutcome => k_is)
    (case xn_NoOutcome_outcome => k_is)
    (case xL_NoPromise => k_is)
    (case xsa_NoPromise => k_is)
    (case xt1_NoPromise => k_is)
    (case xkC_NoPromise => k_is)
    (case xeC_NoPromise => k_is)
    (case xtC_NoPromise => k_is)
    (case xga_NoPromise => k_is)
    (case xgg_NoPromise => k_is)
    (case xhC_NoPromise => k_is)
    (case xca_NoPromise => k_is)
    (case xmo_NoPromise => k_is)
    (case xn_NoPromise_promise => k_is)
    (case xL_NoStation => k_is)
    (case xsa_NoStation => k_is)
    (case xt1_NoStation => k_is)
    (case xkC_NoStation => k_is)
    (case xeC_NoStation => k_is)
    (case xtC_NoStation => k_is)
    (case xga_NoStation => k_is)
    (case xgg_NoStation => k_is)
    (case xhC_NoStation => k_is)
    (case xca_NoStation => k_is)
    (case xmo_NoStation => k_is)
    (case xn_NoStation_station => k_is)
    (case xL_NothingToUndo => k_is)
    (case xsa_NothingToUndo => k_is)
    (case xt1_NothingToUndo => k_is)
    (case xkC_NothingToUndo => k_is)
    (case xeC_NothingToUndo => k_is)
    (case xtC_NothingToUndo => k_is)
    (case xga_NothingToUndo => k_is)
    (case xgg_NothingToUndo => k_is)
    (case xhC_NothingToUndo => k_is)
    (case xca_NothingToUndo => k_is)
    (case xmo_NothingToUndo => k_is)
    (case xL_NothingWaits => k_is)
    (case xsa_NothingWaits => k_is)
    (case xt1_NothingWaits => k_is)
    (case xkC_NothingWaits => k_is)
    (case xeC_NothingWaits => k_is)
    (case xtC_NothingWaits => k_is)
    (case xga_NothingWaits => k_is)
    (case xgg_NothingWaits => k_is)
    (case xhC_NothingWaits => k_is)
    (case xca_NothingWaits => k_is)
    (case xmo_NothingWaits => k_is)
    (case xL_Taken => k_is)
    (case xsa_Taken => k_is)
    (case xt1_Taken => k_is)
    (case xkC_Taken => k_is)
    (case xeC_Taken => k_is)
    (case xtC_Taken => k_is)
    (case xga_Taken => k_is)
    (case xgg_Taken => k_is)
    (case xhC_Taken => k_is)
    (case xca_Taken => k_is)
    (case xmo_Taken => k_is)
    (case xn_Taken_frame => k_is)
    (case xL_TooMany => k_is)
    (case xsa_TooMany => k_is)
    (case xt1_TooMany => k_is)
    (case xkC_TooMany => k_is)
    (case xeC_TooMany => k_is)
    (case xtC_TooMany => k_is)
    (case xga_TooMany => k_is)
    (case xgg_TooMany => k_is)
    (case xhC_TooMany => k_is)
    (case xca_TooMany => k_is)
    (case xmo_TooMany => k_is)
    (case xn_TooMany_limit => k_is)
    (case xL_Unbounded => k_is)
    (case xsa_Unbounded => k_is)
    (case xt1_Unbounded => k_is)
    (case xkC_Unbounded => k_is)
    (case xeC_Unbounded => k_is)
    (case xtC_Unbounded => k_is)
    (case xga_Unbounded => k_is)
    (case xgg_Unbounded => k_is)
    (case xhC_Unbounded => k_is)
    (case xca_Unbounded => k_is)
    (case xmo_Unbounded => k_is)
    (case xL_Unsound => k_is)
    (case xsa_Unsound => k_is)
    (case xt1_Unsound => k_is)
    (case xkC_Unsound => k_is)
    (case xeC_Unsound => k_is)
    (case xtC_Unsound => k_is)
    (case xga_Unsound => k_is)
    (case xgg_Unsound => k_is)
    (case xhC_Unsound => k_is)
    (case xca_Unsound => k_is)
    (case xmo_Unsound => k_is)
