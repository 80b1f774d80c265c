import PyProof.Rows.All
import Wide.All
import OpenK.AllK
import Wide.FinOn
import HandS.ForMost
import HandS.ForExc
import HandS.ExcInit
import HandS.ExcField
import HandS.IsInst
import HandS.ClsMeth
import HandS.Walk
import HandS.Conv
import HandS.Style
import HandS.TupAny
import HandS.Property
import HandS.MakeKwOnly
import HandS.Deep
import HandS.Codes
import PyProof.ReprReads
import PyProof.ReprRoads
import HandS.FStr
import KE.KCallOwn
import HandS.Text
import KE.GoesEnum
import HandS.IterVal
import KE.KOwnIter
import HandS.Ends
import PySem.Challenge.RW_strongbit_k01_ends_made
set_option Elab.async false
set_option linter.all false
set_option maxRecDepth 100000
set_option maxHeartbeats 2000000
/-! Sb: what the proofs of the ends' laws share: a rule for powers, the bag of draws. -/
namespace Sb
open PySem L2
variable {X : Cx}
theorem op_powB : OpR X (binaryOp .Pow) (rI (fun i j => 0 ≤ j ∧ (Builtin.Int.intBits i : Int) * j ≤ 2 ^ 27) fun i j => .int (i ^ j.toNat)) :=
  opI fun _ _ _ _ _ _ _ c q => PyProof.Rows.pow_int c.1 c.2 q
theorem pow_fits {i : Int} {k : Nat} {j : Int} (h : i.natAbs < 2 ^ k) (h0 : 0 ≤ j) (hj : (k : Int) * j ≤ 2 ^ 27) : 0 ≤ j ∧ (Builtin.Int.intBits i : Int) * j ≤ 2 ^ 27 := by
  have hb : Builtin.Int.intBits i ≤ k := PyProof.Rows.intBits_le h
  refine ⟨h0, Int.le_trans (Int.mul_le_mul_of_nonneg_right (by omega) h0) hj⟩
/-- a def of the text: what it keeps, its name, how it binds -/
structure Fx (P : Program) (w : World) (K : PySem.W.Frag) (mg : Str → Option Value) (base : Heap) (CX : CXT) (k : Nat) (x : Str) (f : Addr) (fd : FuncData) (ps : List Str) (sp : Sp) : Prop where
  ok : FnOk P w K mg base CX k f fd ps sp
  mg : mg x = some (.ref f)
  kp : PySem.W.keepIn K (.ref f) = true
  bd : Binds K fd ps []
/-- an own exception class with its __init__ -/
structure Ox (P : Program) (w : World) (K : PySem.W.Frag) (mg : Str → Option Value) (base : Heap) (k : Nat) (x : Str) (C f : Addr) (fd : FuncData) (ps : List Str) (sp : Sp) : Prop where
  c : OexC K C
  iC : PySem.W.findIn K (.ref C) "__init__" = some (some (.ref f))
  tI : PySem.W.typeIn K (.ref f) = some (.type "function")
  ok : FnOk P w K mg base CX0 k f fd ps sp
  bd : Binds K fd ps []
  mg : mg x = some (.ref C)
/-- BadEnd(v1, v2) is raised: its own dict is new -/
def BadAt (C : Addr) (H : Hp) (v1 v2 : V) (E : XK) : Prop := ∀ (H' : Hp) (d : Addr), Same H H' → H d = none → H' d = some (.xd [("row", v2), ("part", v1)]) → E (.ref C) (some d) H'
theorem BadAt.same {C : Addr} {H H1 : Hp} {v1 v2 : V} {E : XK} (s : Same H H1) (h : BadAt C H v1 v2 E) : BadAt C H1 v1 v2 E := fun H' d s' n e => h H' d (s.trans s') (s.free n) e
/-- BadEnd.__init__ -/
def spBadInit (C : Addr) : Sp := fun vs H Q _ => ∃ (a : Addr) (v1 v2 : V), vs = [.ref a, v1, v2] ∧ H a = some (exo a C none) ∧
  ∀ (H' : Hp) (d : Addr), H' a = some (exo a C (some d)) → H d = none → d ≠ a → H' d = some (exd d [("row", v2), ("part", v1)]) → (∀ b o, H b = some o → b ≠ a → H' b = some o) → Q .non H'
/-- all that stood stands, but at p -/
def But (p : Addr) (H H' : Hp) : Prop := ∀ b o, H b = some o → b ≠ p → H' b = some o
theorem But.refl {p : Addr} {H : Hp} : But p H H := fun _ _ h _ => h
theorem But.trans {p : Addr} {H H1 H2 : Hp} (a : But p H H1) (b : But p H1 H2) : But p H H2 := fun c o h n => b c o (a c o h n) n
theorem But.same {p : Addr} {H H1 : Hp} (a : Same H H1) : But p H H1 := fun c o h _ => a c o h
theorem But.upd {p : Addr} {H : Hp} {o : HO} : But p H (upd H p o) := fun c u h n => by rw [upd_ne n]; exact h
theorem Same.upd {p : Addr} {H : Hp} {o : HO} (n : H p = none) : Same H (upd H p o) := fun c u h => by
  rw [upd_ne (ne_of_none h n)]
  exact h
theorem sqT_same {K : PySem.W.Frag} {H H' : Hp} {a : Addr} {xs : List V} (e : Same H H') (h : SqT K H a xs) : SqT K H' a xs := by
  rcases h with (h | ⟨o, h⟩) | h
  · exact .inl (.inl (e _ _ h))
  · exact .inl (.inr ⟨o, e _ _ h⟩)
  · exact .inr h
/-- the bag at p: three numbers; n bounds how often it was asked -/
def Bag (H : Hp) (p : Addr) (n : Nat) : Prop := ∃ g b c : Int, H p = some (.lst [.int g, .int b, .int c]) ∧ 0 ≤ g ∧ 0 ≤ b ∧ b < 2 ^ 100 ∧ 0 ≤ c ∧ c ≤ n
theorem Bag.mono {H : Hp} {p : Addr} {n m : Nat} (h : Bag H p n) (l : n ≤ m) : Bag H p m := by
  obtain ⟨g, b, c, e, h0, h1, h2, h3, h4⟩ := h
  exact ⟨g, b, c, e, h0, h1, h2, h3, by omega⟩
theorem Bag.same {H H' : Hp} {p : Addr} {n : Nat} (h : Bag H p n) (s : Same H H') : Bag H' p n := by
  obtain ⟨g, b, c, e, r⟩ := h
  exact ⟨g, b, c, s _ _ e, r⟩
/-- take(bag, many): a draw below many -/
def spTake : Sp := fun vs H Q _ => ∃ (p : Addr) (n : Nat) (m : Int), vs = [.ref p, .int m] ∧ Bag H p n ∧ n ≤ 1000000 ∧ 0 < m ∧ m < 1073741824 ∧
  ∀ (H' : Hp) (d : Int), 0 ≤ d → d < m → Bag H' p (n + 1) → But p H H' → Q (.int d) H'
theorem hu65 {A : Around} {k : Nat} (hr : Room k A) : A.units + 65 < cLine := Nat.lt_of_le_of_lt (Nat.add_le_add_left (by omega : 65 ≤ 16 * k + 200) _) (by have := hr.un; omega)
theorem at3 {a b c : V} : atI [a, b, c] 0 = some a ∧ atI [a, b, c] 1 = some b ∧ atI [a, b, c] 2 = some c :=
  ⟨atI_nat (j := 0) rfl, atI_nat (j := 1) rfl, atI_nat (j := 2) rfl⟩
/-- what follows in a row: another row, or a word -/
inductive Pl where
  | num (n : Nat) | word (s : Str)
  deriving DecidableEq
def Pl.v : Pl → V
  | .num n => .int (n : Int)
  | .word s => .str s
def Pl.key : Pl → Key
  | .num n => .inl (n : Int)
  | .word s => .inr s
theorem Pl.v_key (p : Pl) : p.v = kV p.key := by cases p <;> rfl
theorem Pl.v_inj {p q : Pl} (h : p.v = q.v) : p = q := by
  cases p <;> cases q <;> simp_all [Pl.v] <;> omega
theorem Pl.key_inj {p q : Pl} (h : p.key = q.key) : p = q := by
  cases p <;> cases q <;> simp_all [Pl.key] <;> omega
/-- it fits into a machine of so many rows with these words -/
def Pl.Ok (many : Nat) (ws : List Str) : Pl → Prop
  | .num n => n < many
  | .word s => s ∈ ws
instance {many : Nat} {ws : List Str} (p : Pl) : Decidable (p.Ok many ws) := match p with
  | .num n => inferInstanceAs (Decidable (n < many))
  | .word s => inferInstanceAs (Decidable (s ∈ ws))
structure Row where
  put : Nat
  a : Pl
  b : Pl
  deriving DecidableEq
def Row.vs (r : Row) : List V := [.int (r.put : Int), r.a.v, r.b.v]
def Row.Ok (many : Nat) (ws : List Str) (r : Row) : Prop := (r.put = 0 ∨ r.put = 1) ∧ r.a.Ok many ws ∧ r.b.Ok many ws
instance {many : Nat} {ws : List Str} (r : Row) : Decidable (r.Ok many ws) := inferInstanceAs (Decidable ((r.put = 0 ∨ r.put = 1) ∧ r.a.Ok many ws ∧ r.b.Ok many ws))
/-- v is a row of H -/
def RowAt (H : Hp) (v : V) (r : Row) : Prop := ∃ a, v = .ref a ∧ H a = some (.tup r.vs)
/-- the values vs are the rows rs -/
def RowsV (H : Hp) (vs : List V) (rs : List Row) : Prop := Paired (RowAt H) vs rs
theorem RowAt.same {H H' : Hp} {v : V} {r : Row} (s : Same H H') (h : RowAt H v r) : RowAt H' v r := by
  obtain ⟨a, e, x⟩ := h
  exact ⟨a, e, s _ _ x⟩
theorem RowsV.imp {H H' : Hp} {vs : List V} {rs : List Row} (f : ∀ v r, RowAt H v r → RowAt H' v r) (h : RowsV H vs rs) : RowsV H' vs rs := Paired.mapP h f
theorem RowsV.same {H H' : Hp} {vs : List V} {rs : List Row} (s : Same H H') (h : RowsV H vs rs) : RowsV H' vs rs := h.imp fun _ _ => RowAt.same s
/-- a list (the bag, say) is no row -/
theorem RowsV.but {H H' : Hp} {p : Addr} {vs : List V} {rs : List Row} (s : But p H H') (hp : ∀ xs, H p ≠ some (.tup xs)) (h : RowsV H vs rs) : RowsV H' vs rs :=
  h.imp fun _ _ ⟨a, e, x⟩ => ⟨a, e, s _ _ x fun z => hp _ (by rw [← z]; exact x)⟩
theorem RowsV.get : ∀ {H : Hp} {vs : List V} {rs : List Row}, RowsV H vs rs → ∀ (i : Nat) (v : V), vs[i]? = some v → ∃ r, rs[i]? = some r ∧ RowAt H v r
  | _, _, _, .nil, i, v, e => by simp at e
  | _, _, _, .cons h t, 0, v, e => by
    simp at e
    subst e
    exact ⟨_, rfl, h⟩
  | _, _, _, .cons h t, i + 1, v, e => by
    obtain ⟨r, e1, e2⟩ := RowsV.get (vs := _) t i v (by simpa using e)
    exact ⟨r, by simpa using e1, e2⟩
theorem RowsV.get' : ∀ {H : Hp} {vs : List V} {rs : List Row}, RowsV H vs rs → ∀ (i : Nat) (r : Row), rs[i]? = some r → ∃ v, vs[i]? = some v ∧ RowAt H v r
  | _, _, _, .nil, i, v, e => by simp at e
  | _, _, _, .cons h t, 0, v, e => by
    simp at e
    subst e
    exact ⟨_, rfl, h⟩
  | _, _, _, .cons h t, i + 1, v, e => by
    obtain ⟨r, e1, e2⟩ := RowsV.get' (vs := _) t i v (by simpa using e)
    exact ⟨r, by simpa using e1, e2⟩
theorem RowsV.len {H : Hp} {vs : List V} {rs : List Row} (h : RowsV H vs rs) : vs.length = rs.length := Paired.length h
theorem RowsV.snoc {H : Hp} {v : V} {r : Row} (x : RowAt H v r) : ∀ {vs : List V} {rs : List Row}, RowsV H vs rs → RowsV H (vs ++ [v]) (rs ++ [r])
  | _, _, .nil => .cons x .nil
  | _, _, .cons h t => .cons h (RowsV.snoc x t)
theorem Bag.no {H : Hp} {p : Addr} {n : Nat} (h : Bag H p n) (xs : List V) : H p ≠ some (.tup xs) := by
  obtain ⟨g, b, c, e, _⟩ := h
  rw [e]
  intro z
  cases Option.some.inj z
end Sb

set_option Elab.async false
set_option linter.all false
set_option maxHeartbeats 2000000
/-! Sbm: where heard bits lead, in plain lists. -/
namespace Sb
open PySem L2
/-- p follows row i -/
def Fol (rows : List Row) (i : Nat) (p : Pl) : Prop := ∃ r, rows[i]? = some r ∧ (p = r.a ∨ p = r.b)
/-- some heard bits lead from row b to p -/
inductive Reach (rows : List Row) (b : Nat) : Pl → Prop where
  | base : Reach rows b (.num b)
  | step {i : Nat} {p : Pl} (h : Reach rows b (.num i)) (f : Fol rows i p) : Reach rows b p
def Pl.isNum : Pl → Bool
  | .num _ => true
  | .word _ => false
/-- what holds of the found ones and of those ahead; k (where it is some row) waits for its followers but the first j -/
structure RInv (rows : List Row) (b : Nat) (fs : List Pl) (as : List Nat) (hold : Option (Nat × Nat)) : Prop where
  nd : fs.Nodup
  sound : ∀ x, x ∈ fs → Reach rows b x
  start : Pl.num b ∈ fs
  sub : ∀ i, i ∈ as → Pl.num i ∈ fs
  small : ∀ i, Pl.num i ∈ fs → i < rows.length
  closed : ∀ i, Pl.num i ∈ fs → i ∉ as → (∀ j, hold ≠ some (i, j)) → ∀ p, Fol rows i p → p ∈ fs
  held : ∀ i j, hold = some (i, j) → Pl.num i ∈ fs ∧ ∀ r, rows[i]? = some r → (1 ≤ j → r.a ∈ fs) ∧ (2 ≤ j → r.b ∈ fs)
theorem RInv.begin {rows : List Row} {b : Nat} (h : b < rows.length) : RInv rows b [.num b] [b] none :=
  ⟨by simp, fun x hx => by simp at hx; subst hx; exact .base, by simp, fun i hi => by simp at hi; simp [hi], fun i hi => by simp at hi; omega,
   fun i hi ha => by simp at hi; simp [hi] at ha, fun i j z => by cases z⟩
theorem RInv.pop {rows : List Row} {b i : Nat} {fs : List Pl} {as : List Nat} (h : RInv rows b fs (as ++ [i]) none) : RInv rows b fs as (some (i, 0)) :=
  ⟨h.nd, h.sound, h.start, fun j hj => h.sub j (by simp [hj]), h.small, fun j hj ha hn p hp => h.closed j hj (by
      intro z
      rcases List.mem_append.mp z with z | z
      · exact ha z
      · simp at z
        exact hn 0 (by rw [z])) (by intro k z; cases z) p hp,
    fun k j e => by
      cases e
      exact ⟨h.sub i (by simp), fun r _ => ⟨fun z => absurd z (by omega), fun z => absurd z (by omega)⟩⟩⟩
theorem RInv.done {rows : List Row} {b i : Nat} {fs : List Pl} {as : List Nat} (h : RInv rows b fs as (some (i, 2))) : RInv rows b fs as none :=
  ⟨h.nd, h.sound, h.start, h.sub, h.small, fun j hj ha _ p hp => by
      by_cases e : j = i
      · subst e
        obtain ⟨r, hr, hp⟩ := hp
        obtain ⟨_, q⟩ := h.held j 2 rfl
        obtain ⟨q1, q2⟩ := q r hr
        rcases hp with rfl | rfl
        · exact q1 (by omega)
        · exact q2 (by omega)
      · exact h.closed j hj ha (fun k z => by cases z; exact e rfl) p hp, fun k j z => by cases z⟩
/-- the j-th follower is found already -/
theorem RInv.skip {rows : List Row} {b i j : Nat} {fs : List Pl} {as : List Nat} {r : Row} {p : Pl} (h : RInv rows b fs as (some (i, j))) (hr : rows[i]? = some r) (hp : (j = 0 ∧ p = r.a) ∨ (j = 1 ∧ p = r.b)) (hf : p ∈ fs) :
    RInv rows b fs as (some (i, j + 1)) :=
  ⟨h.nd, h.sound, h.start, h.sub, h.small, fun k hk ha hn => h.closed k hk ha (fun l z => by cases z; exact hn _ rfl), fun k l z => by
    cases z
    obtain ⟨q0, q⟩ := h.held i j rfl
    refine ⟨q0, fun r' hr' => ?_⟩
    rw [hr] at hr'
    cases hr'
    obtain ⟨q1, q2⟩ := q r hr
    rcases hp with ⟨rfl, rfl⟩ | ⟨rfl, rfl⟩
    · exact ⟨fun _ => hf, fun z => absurd z (by omega)⟩
    · exact ⟨fun _ => q1 (by omega), fun _ => hf⟩⟩
/-- a row that is new is ahead -/
def more (as : List Nat) : Pl → List Nat
  | .num k => as ++ [k]
  | .word _ => as
/-- it is new -/
theorem RInv.add {rows : List Row} {b i j : Nat} {fs : List Pl} {as : List Nat} {r : Row} {p : Pl} (h : RInv rows b fs as (some (i, j))) (hr : rows[i]? = some r) (hp : (j = 0 ∧ p = r.a) ∨ (j = 1 ∧ p = r.b)) (hf : p ∉ fs)
    (hs : ∀ k, p = .num k → k < rows.length) : RInv rows b (fs ++ [p]) (more as p) (some (i, j + 1)) := by
  have hi : Pl.num i ∈ fs := (h.held i j rfl).1
  have fol : Fol rows i p := ⟨r, hr, by rcases hp with ⟨_, e⟩ | ⟨_, e⟩ <;> simp [e]⟩
  have mem_as : ∀ k, k ∈ (more as p) → k ∈ as ∨ p = .num k := fun k hk => by
    cases p with
    | num m =>
      rcases List.mem_append.mp hk with z | z
      · exact .inl z
      · simp at z
        exact .inr (by rw [z])
    | word z => exact .inl hk
  have as_mem : ∀ k, k ∈ as → k ∈ (more as p) := fun k hk => by
    cases p with
    | num m => exact List.mem_append_left _ hk
    | word z => exact hk
  refine ⟨?_, ?_, by simp [h.start], ?_, ?_, ?_, ?_⟩
  · rw [List.nodup_append]
    refine ⟨h.nd, by simp, fun x hx y hy => ?_⟩
    simp at hy
    subst hy
    rintro rfl
    exact hf hx
  · intro x hx
    rcases List.mem_append.mp hx with z | z
    · exact h.sound x z
    · simp at z
      subst z
      exact .step (h.sound _ hi) fol
  · intro k hk
    rcases mem_as k hk with z | z
    · exact List.mem_append_left _ (h.sub k z)
    · rw [← z]
      simp
  · intro k hk
    rcases List.mem_append.mp hk with z | z
    · exact h.small k z
    · simp at z
      exact hs k z.symm
  · intro k hk ha hn q hq
    rcases List.mem_append.mp hk with z | z
    · exact List.mem_append_left _ (h.closed k z (fun y => ha (as_mem k y)) (fun l y => by cases y; exact hn _ rfl) q hq)
    · simp at z
      subst z
      exact absurd (List.mem_append_right _ (by simp)) ha
  · intro k l z
    cases z
    obtain ⟨_, q⟩ := h.held i j rfl
    refine ⟨List.mem_append_left _ hi, fun r' hr' => ?_⟩
    rw [hr] at hr'
    cases hr'
    obtain ⟨q1, q2⟩ := q r hr
    rcases hp with ⟨rfl, rfl⟩ | ⟨rfl, rfl⟩
    · exact ⟨fun _ => by simp, fun z => absurd z (by omega)⟩
    · exact ⟨fun _ => List.mem_append_left _ (q1 (by omega)), fun _ => by simp⟩
/-- nothing is ahead: just what is led to is found -/
theorem RInv.all {rows : List Row} {b : Nat} {fs : List Pl} (h : RInv rows b fs [] none) (x : Pl) : x ∈ fs ↔ Reach rows b x := by
  refine ⟨h.sound x, fun z => ?_⟩
  induction z with
  | base => exact h.start
  | step _ f ih => exact h.closed _ ih (by simp) (by intro k z; cases z) _ f
/-- the first row that is none -/
def firstBad (n : Nat) (ws : List Str) : List Row → Nat → Option Nat
  | [], _ => none
  | r :: t, i => if r.Ok n ws then firstBad n ws t (i + 1) else some i
theorem firstBad_none {n : Nat} {ws : List Str} : ∀ {l : List Row} {i : Nat}, firstBad n ws l i = none → ∀ r, r ∈ l → r.Ok n ws
  | [], _, _, r, h => by simp at h
  | x :: t, i, e, r, h => by
    unfold firstBad at e
    by_cases c : x.Ok n ws
    · rw [if_pos c] at e
      rcases List.mem_cons.mp h with z | z
      · rw [z]
        exact c
      · exact firstBad_none e r z
    · rw [if_neg c] at e
      cases e
theorem firstBad_all {n : Nat} {ws : List Str} : ∀ {l : List Row} {i : Nat}, (∀ r, r ∈ l → r.Ok n ws) → firstBad n ws l i = none
  | [], _, _ => rfl
  | x :: t, i, h => by
    unfold firstBad
    rw [if_pos (h x (by simp))]
    exact firstBad_all fun r hr => h r (by simp [hr])
theorem firstBad_at {n : Nat} {ws : List Str} : ∀ {l : List Row} {i k : Nat} {r : Row}, l[k]? = some r → ¬ r.Ok n ws → (∀ (j : Nat) (r' : Row), j < k → l[j]? = some r' → r'.Ok n ws) → firstBad n ws l i = some (i + k)
  | [], i, k, r, e, _, _ => by simp at e
  | x :: t, i, 0, r, e, h, _ => by
    simp at e
    subst e
    unfold firstBad
    rw [if_neg h]
    rfl
  | x :: t, i, k + 1, r, e, h, hp => by
    unfold firstBad
    rw [if_pos (hp 0 x (by omega) rfl), firstBad_at (l := t) (i := i + 1) (k := k) (r := r) (by simpa using e) h fun j r' hj hr => hp (j + 1) r' (by omega) (by simpa using hr)]
    congr 1
    omega
/-- what is wrong with a machine: None for its size, else the first index of no row -/
def machineFault (few most : Nat) (ws : List Str) (rows : List Row) : Option V :=
  if few ≤ rows.length ∧ rows.length ≤ most then (firstBad rows.length ws rows 0).map fun i => V.int (i : Int) else some .non
def hearerWords : List Str := ["taken", "lost"]
def senderWords : List Str := ["done", "again"]
open Classical in
/-- what is wrong with an end, the hearer's machine first -/
noncomputable def endFault (hs ss : List Row) : Option (V × V) :=
  match machineFault 2 100 hearerWords hs with
  | some v => some (.str "hearer", v)
  | none => match machineFault 1 100 senderWords ss with
    | some v => some (.str "sender", v)
    | none => if Reach hs 1 (.word "taken") then some (.str "body", .non) else none
theorem mf_none {few most : Nat} {ws : List Str} {rows : List Row} (h : machineFault few most ws rows = none) : few ≤ rows.length ∧ rows.length ≤ most ∧ ∀ r, r ∈ rows → r.Ok rows.length ws := by
  unfold machineFault at h
  by_cases c : few ≤ rows.length ∧ rows.length ≤ most
  · rw [if_pos c] at h
    refine ⟨c.1, c.2, firstBad_none (i := 0) ?_⟩
    cases e : firstBad rows.length ws rows 0 with
    | none => rfl
    | some i =>
      rw [e] at h
      cases h
  · rw [if_neg c] at h
    cases h
theorem mf_ok {few most : Nat} {ws : List Str} {rows : List Row} (h1 : few ≤ rows.length) (h2 : rows.length ≤ most) (h : ∀ r, r ∈ rows → r.Ok rows.length ws) : machineFault few most ws rows = none := by
  unfold machineFault
  rw [if_pos ⟨h1, h2⟩, firstBad_all h]
  rfl
theorem mf_size {few most : Nat} {ws : List Str} {rows : List Row} (h : ¬ (few ≤ rows.length ∧ rows.length ≤ most)) : machineFault few most ws rows = some .non := if_neg h
theorem mf_row {few most : Nat} {ws : List Str} {rows : List Row} {i : Nat} {r : Row} (h1 : few ≤ rows.length) (h2 : rows.length ≤ most) (e : rows[i]? = some r) (hb : ¬ r.Ok rows.length ws) (hp : ∀ (j : Nat) (r' : Row), j < i → rows[j]? = some r' → r'.Ok rows.length ws) :
    machineFault few most ws rows = some (.int (i : Int)) := by
  unfold machineFault
  rw [if_pos ⟨h1, h2⟩, firstBad_at (i := 0) e hb hp, Nat.zero_add]
  rfl
/-- how many rows are found -/
def nums (fs : List Pl) : Nat := (fs.filter Pl.isNum).length
theorem nodup_len {l : List Nat} : ∀ {n : Nat}, l.Nodup → (∀ x, x ∈ l → x < n) → l.length ≤ n := by
  intro n
  induction n generalizing l with
  | zero =>
    intro _ h
    cases l with
    | nil => simp
    | cons x r => exact absurd (h x (by simp)) (by omega)
  | succ n ih =>
    intro nd h
    have e : l.length ≤ (l.erase n).length + 1 := by
      rw [List.length_erase]
      split <;> omega
    have := ih (l := l.erase n) (nd.erase n) fun x hx => by
      have h1 := h x (List.mem_of_mem_erase hx)
      have h2 : x ≠ n := fun z => by
        subst z
        exact (List.Nodup.not_mem_erase nd) hx
      omega
    omega
theorem nums_le {fs : List Pl} {n : Nat} (nd : fs.Nodup) (h : ∀ i, Pl.num i ∈ fs → i < n) : nums fs ≤ n := by
  have e : nums fs = (fs.filterMap fun p => match p with | .num i => some i | .word _ => none).length := by
    unfold nums
    clear nd h
    induction fs with
    | nil => rfl
    | cons p r ih =>
      cases p with
      | num i => simp [Pl.isNum, List.filter_cons, ih]
      | word z => simp [Pl.isNum, List.filter_cons, ih]
  rw [e]
  refine nodup_len ?_ fun x hx => ?_
  · refine List.Pairwise.filterMap _ ?_ nd
    intro p q hpq x hx y hy
    cases p <;> cases q <;> simp_all
  · obtain ⟨p, hp, hx⟩ := List.mem_filterMap.mp hx
    cases p with
    | num i =>
      simp at hx
      subst hx
      exact h i hp
    | word z => simp at hx
theorem nums_snoc {fs : List Pl} {p : Pl} : nums (fs ++ [p]) = nums fs + (match p with | .num _ => 1 | .word _ => 0) := by
  unfold nums
  cases p <;> simp [Pl.isNum, List.filter_append, List.filter_cons]
end Sb

set_option Elab.async false
set_option linter.all false
set_option maxHeartbeats 2000000
/-! Sbw: ways without a row twice, from row 1. -/
namespace Sb
open PySem L2
/-- a way from row 1 on which no row comes twice -/
inductive Way (rows : List Row) : List Nat → Prop where
  | one : Way rows [1]
  | more {p : List Nat} {i j : Nat} (w : Way rows (p ++ [i])) (f : Fol rows i (.num j)) (n : j ∉ p ++ [i]) : Way rows (p ++ [i] ++ [j])
theorem Way.last {rows : List Row} {q : List Nat} (w : Way rows q) : ∃ p i, q = p ++ [i] := by
  cases w with
  | one => exact ⟨[], 1, rfl⟩
  | more w f n => exact ⟨_, _, rfl⟩
theorem snoc_inj {p q : List Nat} {i j : Nat} (h : p ++ [i] = q ++ [j]) : p = q ∧ i = j := by
  have := List.append_inj' h rfl
  exact ⟨this.1, by simpa using this.2⟩
theorem Way.reach {rows : List Row} {q : List Nat} (w : Way rows q) : ∀ p i, q = p ++ [i] → Reach rows 1 (.num i) := by
  induction w with
  | one =>
    intro p i h
    obtain ⟨rfl, rfl⟩ := snoc_inj (p := []) (i := 1) (q := p) (j := i) h
    exact .base
  | more w f n ih =>
    intro p i h
    obtain ⟨rfl, rfl⟩ := snoc_inj h
    exact .step (ih _ _ rfl) f
theorem Way.nodup {rows : List Row} {q : List Nat} (w : Way rows q) : q.Nodup := by
  induction w with
  | one => simp
  | more w f n ih =>
    rw [List.nodup_append]
    refine ⟨ih, by simp, fun x hx y hy => ?_⟩
    simp at hy
    subst hy
    rintro rfl
    exact n hx
theorem Way.pos {rows : List Row} {q : List Nat} (w : Way rows q) : 1 ≤ q.length := by
  obtain ⟨p, i, rfl⟩ := w.last
  simp
theorem Way.small {rows : List Row} {q : List Nat} {n : Nat} (hn : 1 < n) (hf : ∀ i j, Fol rows i (.num j) → j < n) (w : Way rows q) : ∀ x, x ∈ q → x < n := by
  induction w with
  | one =>
    intro x hx
    simp at hx
    omega
  | more w f n' ih =>
    intro x hx
    rcases List.mem_append.mp hx with z | z
    · exact ih x z
    · simp at z
      subst z
      exact hf _ _ f
/-- a way to each row on a way -/
theorem Way.cut {rows : List Row} {q : List Nat} (w : Way rows q) : ∀ x, x ∈ q → ∃ p, Way rows (p ++ [x]) := by
  induction w with
  | one =>
    intro x hx
    simp at hx
    subst hx
    exact ⟨[], .one⟩
  | more w f n ih =>
    intro x hx
    rcases List.mem_append.mp hx with z | z
    · exact ih x z
    · simp at z
      subst z
      exact ⟨_, .more w f n⟩
theorem Way.of_reach {rows : List Row} {x : Pl} (h : Reach rows 1 x) : ∀ i, x = .num i → ∃ p, Way rows (p ++ [i]) := by
  induction h with
  | base =>
    intro i e
    cases e
    exact ⟨[], .one⟩
  | @step k p h f ih =>
    intro i e
    subst e
    obtain ⟨p, w⟩ := ih k rfl
    by_cases c : i ∈ p ++ [k]
    · exact w.cut i c
    · exact ⟨_, .more w f c⟩
/-- a word behind some way -/
def Told (rows : List Row) (k : Nat) (z : Str) : Prop := ∃ p i, Way rows (p ++ [i]) ∧ (p ++ [i]).length ≤ k ∧ Fol rows i (.word z)
theorem told_iff {rows : List Row} {n : Nat} (hn : 1 < n) (hf : ∀ i j, Fol rows i (.num j) → j < n) (z : Str) : Told rows n z ↔ Reach rows 1 (.word z) := by
  refine ⟨fun ⟨p, i, w, _, f⟩ => .step (w.reach _ _ rfl) f, fun h => ?_⟩
  generalize e : Pl.word z = x at h
  cases h with
  | base => cases e
  | @step i _ h f =>
    subst e
    obtain ⟨p, w⟩ := Way.of_reach h i rfl
    exact ⟨p, i, w, nodup_len w.nodup (w.small hn hf), f⟩
/-- the ways of k + 1 rows from those of k: by the followers of the last -/
theorem way_step {rows : List Row} {q : List Nat} {k : Nat} (hk : 1 ≤ k) : Way rows q ∧ q.length = k + 1 ↔ ∃ p i j, Way rows (p ++ [i]) ∧ (p ++ [i]).length = k ∧ Fol rows i (.num j) ∧ j ∉ p ++ [i] ∧ q = p ++ [i] ++ [j] := by
  constructor
  · rintro ⟨w, hl⟩
    cases w with
    | one =>
      simp at hl
      omega
    | @more p i j w f n => exact ⟨p, i, j, w, by simp at hl ⊢; omega, f, n, rfl⟩
  · rintro ⟨p, i, j, w, hl, f, n, rfl⟩
    exact ⟨.more w f n, by simp at hl ⊢; omega⟩
/-- a way as Python's data -/
def wayD (q : List Nat) : PyData := .tuple (q.map fun (n : Nat) => PyData.int (n : Int))
theorem ints_lay : ∀ q : List Nat, PyData.canLayAll0 (q.map fun (n : Nat) => PyData.int (n : Int)) = true
  | [] => by simp [PyData.canLayAll0]
  | z :: zs => by simp [PyData.canLayAll0, PyData.canLay0, ints_lay zs]
theorem ints_depth : ∀ q : List Nat, PyData.depthAll (q.map fun (n : Nat) => PyData.int (n : Int)) = 0
  | [] => by simp [PyData.depthAll]
  | z :: zs => by simp [PyData.depthAll, PyData.depth, ints_depth zs]
theorem wayD_shaped (q : List Nat) : SeqAt.shaped (wayD q) = true := by
  show ((wayD q).canLay0 && decide ((wayD q).depth ≤ 64)) = true
  rw [Bool.and_eq_true]
  exact ⟨by simp [wayD, PyData.canLay0, ints_lay], decide_eq_true (by simp [wayD, PyData.depth, ints_depth])⟩
theorem ways_lay : ∀ qs : List (List Nat), PyData.canLayAll0 (qs.map wayD) = true
  | [] => by simp [PyData.canLayAll0]
  | z :: zs => by simp [PyData.canLayAll0, wayD, PyData.canLay0, ints_lay]; exact ways_lay zs
theorem ways_depth : ∀ qs : List (List Nat), PyData.depthAll (qs.map wayD) ≤ 1
  | [] => by simp [PyData.depthAll]
  | z :: zs => by
    have := ways_depth zs
    simp [PyData.depthAll, wayD, PyData.depth, ints_depth] at this ⊢
    omega
theorem ways_shaped (qs : List (List Nat)) : SeqAt.shaped (.list (qs.map wayD)) = true := by
  have h1 := ways_depth qs
  show (PyData.canLay0 (.list (qs.map wayD)) && decide (PyData.depth (.list (qs.map wayD)) ≤ 64)) = true
  rw [Bool.and_eq_true]
  exact ⟨by simp only [PyData.canLay0]; exact ways_lay qs, decide_eq_true (by simp only [PyData.depth]; omega)⟩
theorem wayD_eqv : ∀ p q : List Nat, PyData.eqv (wayD p) (wayD q) = decide (p = q)
  | [], [] => by simp [wayD, PyData.eqv, PyData.eqvAll]
  | [], y :: q => by simp [wayD, PyData.eqv, PyData.eqvAll]
  | x :: p, [] => by simp [wayD, PyData.eqv, PyData.eqvAll]
  | x :: p, y :: q => by
    have ih := wayD_eqv p q
    simp only [wayD, PyData.eqv] at ih
    simp only [wayD, PyData.eqv, List.map_cons, PyData.eqvAll, ih]
    by_cases h : x = y
    · subst h
      simp
    · have e : ((x : Int) == (y : Int)) = false := beq_eq_false_iff_ne.mpr (by omega)
      rw [e]
      simp [h]
end Sb

set_option Elab.async false
set_option linter.all false
set_option maxHeartbeats 2000000
/-! Sbh: the drawn machines of hearers: no heard bits lead from row 1 to "taken". -/
namespace Sb
open PySem L2
def unTaken : Pl → Pl
  | .num n => .num n
  | .word s => if s = "taken" then .word "lost" else .word s
theorem unTaken_word (s : Str) : unTaken (.word s) = if s = "taken" then .word "lost" else .word s := rfl
def unRow (r : Row) : Row := ⟨r.put, unTaken r.a, unTaken r.b⟩
/-- the rows at these places without "taken" -/
def unRows (rows : List Row) (is : List Nat) : List Row := is.foldl (fun rs i => match rs[i]? with | some r => rs.set i (unRow r) | none => rs) rows
theorem unTaken_twice (p : Pl) : unTaken (unTaken p) = unTaken p := by
  cases p with
  | num n => rfl
  | word s =>
    unfold unTaken
    by_cases h : s = "taken"
    · simp only [if_pos h]
      rw [if_neg (by decide +kernel)]
    · simp only [if_neg h]
theorem unRows_snoc (rows : List Row) (is : List Nat) (i : Nat) : unRows rows (is ++ [i]) = match (unRows rows is)[i]? with | some r => (unRows rows is).set i (unRow r) | none => unRows rows is := by
  unfold unRows
  rw [List.foldl_append]
  rfl
theorem unRows_len (rows : List Row) : ∀ is : List Nat, (unRows rows is).length = rows.length := by
  intro is
  induction hN : is.length generalizing is with
  | zero =>
    have : is = [] := List.length_eq_zero_iff.mp hN
    subst this
    rfl
  | succ k ih =>
    rcases List.eq_nil_or_concat is with z | ⟨p, i, z⟩
    · subst z
      simp at hN
    · have z' : is = p ++ [i] := by simpa using z
      subst z'
      rw [unRows_snoc]
      have := ih p (by simpa using hN)
      split
      · rw [List.length_set, this]
      · exact this
theorem unRows_get (rows : List Row) : ∀ (is : List Nat) (i : Nat) (r : Row), rows[i]? = some r → (unRows rows is)[i]? = some (if i ∈ is then unRow r else r) := by
  intro is
  induction hN : is.length generalizing is with
  | zero =>
    have : is = [] := List.length_eq_zero_iff.mp hN
    subst this
    intro i r h
    simpa [unRows] using h
  | succ k ih =>
    rcases List.eq_nil_or_concat is with z | ⟨p, j, z⟩
    · subst z
      simp at hN
    · have z' : is = p ++ [j] := by simpa using z
      subst z'
      intro i r h
      have hi := ih p (by simpa using hN) i r h
      rw [unRows_snoc]
      have hlen : i < rows.length := (List.getElem?_eq_some_iff.mp h).1
      by_cases hj : i = j
      · subst hj
        rw [hi]
        simp only []
        rw [List.getElem?_set_self (by rw [unRows_len]; exact hlen)]
        rw [if_pos (show i ∈ p ++ [i] by simp)]
        by_cases hp : i ∈ p
        · rw [if_pos hp]
          simp [unRow, unTaken_twice]
        · rw [if_neg hp]
      · have e : (i ∈ p ++ [j]) ↔ i ∈ p := by simp [hj]
        have e2 : (if i ∈ p ++ [j] then unRow r else r) = if i ∈ p then unRow r else r := by
          by_cases hp : i ∈ p
          · rw [if_pos hp, if_pos (e.mpr hp)]
          · rw [if_neg hp, if_neg fun z => hp (e.mp z)]
        rw [e2]
        split
        · rw [List.getElem?_set_ne (fun z => hj z.symm)]
          exact hi
        · exact hi
theorem unTaken_ok {n : Nat} {ws : List Str} (h : ("lost" : Str) ∈ ws) {p : Pl} (hp : p.Ok n ws) : (unTaken p).Ok n ws := by
  cases p with
  | num k => exact hp
  | word s =>
    rw [unTaken_word]
    by_cases c : s = "taken"
    · rw [if_pos c]
      exact h
    · rw [if_neg c]
      exact hp
theorem unRows_ok {rows : List Row} {is : List Nat} {n : Nat} {ws : List Str} (h : ("lost" : Str) ∈ ws) (hok : ∀ r, r ∈ rows → r.Ok n ws) : ∀ r, r ∈ unRows rows is → r.Ok n ws := by
  intro r hr
  obtain ⟨i, hi⟩ := List.getElem?_of_mem hr
  have hlt : i < rows.length := by
    have := (List.getElem?_eq_some_iff.mp hi).1
    rwa [unRows_len] at this
  have e := unRows_get rows is i rows[i] (List.getElem?_eq_getElem hlt)
  rw [hi] at e
  have h0 := hok rows[i] (List.getElem_mem hlt)
  cases Option.some.inj e
  split
  · exact ⟨h0.1, unTaken_ok h h0.2.1, unTaken_ok h h0.2.2⟩
  · exact h0
theorem unTaken_num {p : Pl} {n : Nat} (h : unTaken p = .num n) : p = .num n := by
  cases p with
  | num k => exact h
  | word s =>
    rw [unTaken_word] at h
    by_cases c : s = "taken"
    · rw [if_pos c] at h
      cases h
    · rw [if_neg c] at h
      cases h
theorem unTaken_taken {p : Pl} : unTaken p ≠ .word "taken" := by
  intro h
  cases p with
  | num k => cases h
  | word s =>
    rw [unTaken_word] at h
    by_cases c : s = "taken"
    · rw [if_pos c] at h
      exact absurd (Pl.word.inj h) (by decide +kernel)
    · rw [if_neg c] at h
      exact c (Pl.word.inj h)
/-- without "taken" on all that row 1 leads to, it leads to no "taken" -/
theorem unRows_body {rows : List Row} {is : List Nat} {b : Nat} (h : ∀ i, Reach rows b (.num i) → i ∈ is) : ¬ Reach (unRows rows is) b (.word "taken") := by
  have back : ∀ x, Reach (unRows rows is) b x → (∀ i, x = .num i → Reach rows b (.num i)) ∧ x ≠ .word "taken" := by
    intro x hx
    induction hx with
    | base => exact ⟨fun i e => by cases e; exact .base, fun e => by cases e⟩
    | @step i p hr f ih =>
      have hi := ih.1 i rfl
      obtain ⟨r, hr', hp⟩ := f
      have hlt : i < rows.length := by
        have := (List.getElem?_eq_some_iff.mp hr').1
        rwa [unRows_len] at this
      have e := unRows_get rows is i rows[i] (List.getElem?_eq_getElem hlt)
      rw [hr', if_pos (h i hi)] at e
      cases Option.some.inj e
      refine ⟨fun j ej => ?_, fun z => ?_⟩
      · subst ej
        refine .step hi ⟨rows[i], List.getElem?_eq_getElem hlt, ?_⟩
        rcases hp with hp | hp
        · exact .inl (unTaken_num hp.symm).symm
        · exact .inr (unTaken_num hp.symm).symm
      · subst z
        rcases hp with hp | hp
        · exact unTaken_taken hp.symm
        · exact unTaken_taken hp.symm
  intro h1
  exact (back _ h1).2 rfl
/-- a machine of a hearer as it is drawn -/
def HearerOk (rows : List Row) : Prop := 2 ≤ rows.length ∧ rows.length ≤ 100 ∧ (∀ r, r ∈ rows → r.Ok rows.length hearerWords) ∧ ¬ Reach rows 1 (.word "taken")
def SenderOk (rows : List Row) : Prop := 1 ≤ rows.length ∧ rows.length ≤ 100 ∧ ∀ r, r ∈ rows → r.Ok rows.length senderWords
theorem fault_none {hs ss : List Row} (h : HearerOk hs) (s : SenderOk ss) : endFault hs ss = none := by
  unfold endFault
  rw [mf_ok h.1 h.2.1 h.2.2.1, mf_ok s.1 s.2.1 s.2.2]
  exact if_neg h.2.2.2
end Sb

set_option Elab.async false
set_option linter.all false
set_option maxHeartbeats 2000000
/-! Sbn: lists of numbers as values; the rows that a row leads to, in the order in which they are met. -/
namespace Sb
open PySem L2
/-- numbers as values -/
def natsV (q : List Nat) : List V := q.map fun (n : Nat) => V.int (n : Int)
theorem natsV_len (q : List Nat) : (natsV q).length = q.length := by unfold natsV; rw [List.length_map]
theorem natsV_get {q : List Nat} {i n : Nat} (h : q[i]? = some n) : (natsV q)[i]? = some (V.int (n : Int)) := by
  unfold natsV
  rw [List.getElem?_map, h]
  rfl
theorem natsV_snoc (q : List Nat) (n : Nat) : natsV q ++ [V.int (n : Int)] = natsV (q ++ [n]) := by unfold natsV; simp
theorem inV_nat {j : Nat} : ∀ q : List Nat, inV (.int (j : Int)) (natsV q) = decide (j ∈ q)
  | [] => by simp [inV, natsV]
  | n :: q => by
    have ih := inV_nat (j := j) q
    unfold inV natsV at ih ⊢
    rw [List.map_cons, List.any_cons, ih]
    show (((n : Int) == (j : Int)) || decide (j ∈ q)) = decide (j ∈ n :: q)
    by_cases h : n = j
    · subst h
      simp
    · have h1 : ((n : Int) == (j : Int)) = false := beq_eq_false_iff_ne.mpr (by omega)
      have h2 : ¬ j = n := fun e => h e.symm
      rw [h1, Bool.false_or]
      simp [h2]
theorem flat_nats : ∀ q : List Nat, (natsV q).all flatV = true
  | [] => rfl
  | _ :: q => flat_nats q
theorem noTup {H : Hp} {a : Addr} {xs : List V} (h : H a = some (.lst xs)) (zs : List V) : H a ≠ some (.tup zs) := fun z => by
  rw [h] at z
  cases Option.some.inj z
/-- the rows met so far, the first t of them looked at -/
structure LInv (rows : List Row) (b : Nat) (fs : List Nat) (t : Nat) : Prop where
  nd : fs.Nodup
  sound : ∀ i, i ∈ fs → Reach rows b (.num i)
  start : b ∈ fs
  small : ∀ i, i ∈ fs → i < rows.length
  closed : ∀ c i, c < t → fs[c]? = some i → ∀ j, Fol rows i (.num j) → j ∈ fs
theorem LInv.begin {rows : List Row} {b : Nat} (h : b < rows.length) : LInv rows b [b] 0 :=
  ⟨by simp, fun i hi => by simp at hi; subst hi; exact .base, by simp, fun i hi => by simp at hi; omega, fun c i hc => by omega⟩
theorem LInv.add {rows : List Row} {b t i j : Nat} {fs : List Nat} (h : LInv rows b fs t) (hi : i ∈ fs) (f : Fol rows i (.num j)) (hj : j ∉ fs) (hs : j < rows.length) (ht : t ≤ fs.length) : LInv rows b (fs ++ [j]) t := by
  refine ⟨?_, fun x hx => ?_, by simp [h.start], fun x hx => ?_, fun c i' hc hi' k hk => ?_⟩
  · rw [List.nodup_append]
    refine ⟨h.nd, by simp, fun x hx y hy => ?_⟩
    simp at hy
    subst hy
    rintro rfl
    exact hj hx
  · rcases List.mem_append.mp hx with z | z
    · exact h.sound x z
    · simp at z
      subst z
      exact .step (h.sound i hi) f
  · rcases List.mem_append.mp hx with z | z
    · exact h.small x z
    · simp at z
      omega
  · rw [List.getElem?_append_left (by omega)] at hi'
    exact List.mem_append_left _ (h.closed c i' hc hi' k hk)
theorem LInv.next {rows : List Row} {b t i : Nat} {fs : List Nat} (h : LInv rows b fs t) (hi : fs[t]? = some i) (hc : ∀ j, Fol rows i (.num j) → j ∈ fs) : LInv rows b fs (t + 1) :=
  ⟨h.nd, h.sound, h.start, h.small, fun c i' hc' hi' j hj => by
    by_cases e : c = t
    · subst e
      rw [hi] at hi'
      cases hi'
      exact hc j hj
    · exact h.closed c i' (by omega) hi' j hj⟩
theorem LInv.all {rows : List Row} {b : Nat} {fs : List Nat} {t : Nat} (h : LInv rows b fs t) (ht : fs.length ≤ t) (i : Nat) : i ∈ fs ↔ Reach rows b (.num i) := by
  refine ⟨h.sound i, fun hr => ?_⟩
  generalize e : Pl.num i = x at hr
  induction hr generalizing i with
  | base =>
    cases e
    exact h.start
  | @step k p hk f ih =>
    subst e
    have hm := ih k rfl
    obtain ⟨c, hc⟩ := List.getElem?_of_mem hm
    exact h.closed c k (by have := (List.getElem?_eq_some_iff.mp hc).1; omega) hc i f
end Sb

set_option Elab.async false
set_option linter.all false
set_option maxRecDepth 100000
set_option maxHeartbeats 2000000
/-! Sbo: an own class's ==, len, repr as rules. -/
namespace Sb
open PySem PySem.Spec PyProof.Rows L2
section
variable {X : Cx} {CX : CXT} {k : Nat} {C f : Addr} {fd : FuncData} {ps : List Str} {sp : Sp} {E : XK}
/-- a def runs one level below the body -/
theorem run_in1 {pins : List (Addr × Obj)} {σ : L2.St} {H : Hp} {s : Shared} {Q : VK} {us : List Value} {vs : List V} (F : FnOk X.prog X.w X.K X.mg X.base CX k f fd ps sp) (hr : Room (k + 1) X.A) (hb : Binds X.K fd ps []) (hx : Passes CX X E)
    (I : Inv X pins σ H s) (r : Vals vs us) (h : sp vs H Q E) : wpAny (model X.prog X.w) X.A.in1 (call (.ref f) us) (EP X pins σ Q) X.xe s := by
  have hl : us.length = ps.length := by
    rw [← r.length]
    exact F.len _ _ _ _ h
  have bnd := hb s us I.kIn (by rw [List.append_nil]; exact hl)
  rw [List.append_nil] at bnd
  have run := F.run X.A.in1 X.stack s H ⟨us, []⟩ us vs Q E hr.in1 I.env0.in1 bnd r h
  refine wpAny_call (codeAny_mono run fun q s' hq => ?_)
  match q, hq with
  | .error er, hq => exact hx pins σ H s er s' I hq
  | .ok (.ret u), hq => exact I.after hq
  | .ok .next, hq => exact False.elim hq
  | .ok .brk, hq => exact False.elim hq
  | .ok .cont, hq => exact False.elim hq
/-- x == y, x of an own class with its own __eq__ -/
def rEqOwn (K : PySem.W.Frag) (C : Addr) (sp : Sp) (E : XK) : R2 := fun x y H Q => ∃ (a dx : Addr) (fs : List (Str × V)) (t : Value), x = .ref a ∧ H a = some (.ins C dx fs) ∧ TyX K H y t ∧ PySem.W.notFirst K C t = true ∧
  sp [x, y] H (fun v H' => ∃ b, v = .bl b ∧ Q (.bl b) H') E
theorem op_eqOwn (M : Meth X.K C "__eq__" f) (F : FnOk X.prog X.w X.K X.mg X.base CX k f fd ps sp) (hr : Room k X.A) (hb : Binds X.K fd ps []) (hx : Passes CX X E) : OpR X (compareOp .Eq) (rEqOwn X.K C sp E) := by
  intro pins s σ H x y v u Q I rx ry h
  obtain ⟨a, dx, fs, t, rfl, ha, ty, nf, hsp⟩ := h
  have ru := ry
  obtain ⟨P, Z, p, _⟩ := kit_of I ry ty
  cases (show v = Value.ref a from rx)
  obtain ⟨mA, O, _⟩ := ins_get I.hok ha
  obtain ⟨od, J, _⟩ := O.look
  obtain ⟨m, hF⟩ := I.fr
  show wpAny (model X.prog X.w) X.A (richCompare .Eq (.ref a) u) (EP X pins σ Q) X.xe s
  refine PySem.W.cmp_K (op := .Eq) (tb := t) hr.units0 hF I.ok.mod.kin J (Z.ty _ _ I.kIn p) nf M.at_ M.fn ?_
  refine wpAny_mono (run_fn (Q := fun v H' => ∃ b, v = .bl b ∧ Q (.bl b) H') (us := [.ref a, u]) (vs := [.ref a, y]) (ds := []) (dvs := []) F hr hb .nil hx I (.cons rfl (.cons ru .nil)) (by rw [List.append_nil]; exact hsp)) (fun w s' z => ?_) fun _ _ q => q
  obtain ⟨v', H', I', rv, b, eb, q⟩ := z
  subst eb
  cases (show w = Value.bool b from rv)
  exact ⟨.bl b, H', I', rfl, q⟩
/-- len(x) by an own __len__ -/
def rLenOwn (C : Addr) (sp : Sp) (E : XK) : List V → Hp → VK → Prop := fun xs H Q => ∃ (a dx : Addr) (fs : List (Str × V)), xs = [.ref a] ∧ H a = some (.ins C dx fs) ∧ sp [.ref a] H (fun v H' => ∃ n : Int, v = .int n ∧ 0 ≤ n ∧ n < 2 ^ 63 ∧ Q (.int n) H') E
theorem call_lenOwn (M : Meth X.K C "__len__" f) (F : FnOk X.prog X.w X.K X.mg X.base CX k f fd ps sp) (hr : Room (k + 1) X.A) (hb : Binds X.K fd ps []) (hx : Passes CX X E) : CallR X (.builtin "len") (rLenOwn C sp E) := by
  intro pins s σ H xs us Q I r h
  obtain ⟨a, dx, fs, rfl, ha, hsp⟩ := h
  obtain ⟨u, rfl, rx⟩ := vals1 r
  cases (show u = Value.ref a from rx)
  obtain ⟨mA, O, _⟩ := ins_get I.hok ha
  obtain ⟨od, J, _⟩ := O.look
  obtain ⟨m, hF⟩ := I.fr
  refine PySem.W.len_K hF I.ok.mod.kin J M.at_ M.fn (wpAny_mono (run_in1 (us := [.ref a]) (vs := [.ref a]) F hr hb hx I (.cons rfl .nil) hsp) (fun w s' z => ?_) fun _ _ q => q)
  obtain ⟨v', H', I', rv, n, en, h0, h1, q⟩ := z
  subst en
  obtain ⟨tk, e⟩ := (show ∃ t, w = Value.int n t from rv)
  subst e
  exact ⟨⟨h0, h1⟩, .int n, H', I'.tok _, ⟨_, rfl⟩, q⟩
/-- repr(x) by an own __repr__ -/
def rReprOwn (C : Addr) (sp : Sp) (E : XK) : List V → Hp → VK → Prop := fun xs H Q => ∃ (a dx : Addr) (fs : List (Str × V)), xs = [.ref a] ∧ H a = some (.ins C dx fs) ∧ sp [.ref a] H (fun v H' => ∃ z : Str, v = .str z ∧ Q (.str z) H') E
theorem call_reprOwn (M : Meth X.K C "__repr__" f) (F : FnOk X.prog X.w X.K X.mg X.base CX k f fd ps sp) (hr : Room (k + 1) X.A) (hb : Binds X.K fd ps []) (hx : Passes CX X E) : CallR X (.builtin "repr") (rReprOwn C sp E) := by
  intro pins s σ H xs us Q I r h
  obtain ⟨a, dx, fs, rfl, ha, hsp⟩ := h
  obtain ⟨u, rfl, rx⟩ := vals1 r
  cases (show u = Value.ref a from rx)
  obtain ⟨mA, O, _⟩ := ins_get I.hok ha
  obtain ⟨od, J, _⟩ := O.look
  obtain ⟨m, hF⟩ := I.fr
  refine PySem.W.repr_K hr.in1.units0 hF I.ok.mod.kin J M.at_ M.fn (wpAny_mono (run_in1 (us := [.ref a]) (vs := [.ref a]) F hr hb hx I (.cons rfl .nil) hsp) (fun w s' z => ?_) fun _ _ q => q)
  obtain ⟨v', H', I', rv, y, ey, q⟩ := z
  subst ey
  obtain ⟨tk, e⟩ := (show ∃ t, w = Value.str y t from rv)
  subst e
  exact ⟨.str y, H', I', ⟨_, rfl⟩, q⟩
end
/-- a built-in class is not asked first -/
theorem not_first {K : PySem.W.Frag} {C : Addr} {n : String} {l : List Value} (e : fastBuiltinMro n = some l) (h : l.contains (.ref C) = false) : PySem.W.notFirst K C (.type n) = true := by
  have e1 : PySem.W.subIn K (.type n) (.ref C) = some false := by
    show (fastBuiltinMro n).map (·.contains (.ref C)) = some false
    rw [e]
    simpa using h
  unfold PySem.W.notFirst
  rw [e1]
  simp
theorem first_self {K : PySem.W.Frag} {C : Addr} : PySem.W.notFirst K C (.ref C) = true := by simp [PySem.W.notFirst]
end Sb

set_option Elab.async false
set_option linter.all false
set_option maxRecDepth 100000
set_option maxHeartbeats 2000000
/-! Sbg: defs that run where no repr is under way: repr of data. -/
namespace Sb
open PySem PySem.Spec PyProof.Rows L2
/-- what a def keeps where no guard stands -/
structure FnG (P : Program) (w : World) (K : PySem.W.Frag) (mg : Str → Option Value) (base : Heap) (CX : CXT) (k : Nat) (f : Addr) (fd : FuncData) (ps : List Str) (sp : Sp) : Prop where
  size : ∀ xs H Q E, sp xs H Q E → xs.length = ps.length
  go : ∀ (A : Around) (st : List Env) (s : Shared) (H : Hp) (args : Args) (us : List Value) (xs : List V) (Q : VK) (E : XK), A.guards = some [] → Room k A → Env0 P w K mg base A st s H → BindsTo s fd args (ps.zip us) → Vals xs us → sp xs H Q E →
    codeAny (model P w) A (.call (.ref f) args) (CR CX st P w H s Q E) s
section
variable {CX : CXT} {P : Program} {w : World} {K : PySem.W.Frag} {mg : Str → Option Value} {base : Heap} {k : Nat} {f : Addr}
theorem guards_in {A : Around} {e : Env} (h : A.guards = some []) : (A.deeper e).guards = some [] := by
  first
    | exact h
    | (show (A.deeper e).guards = some []; simp [Around.deeper, h])
/-- a def's promise from its body, no guard standing -/
theorem fnG {nm ql : Str} {pr : Arguments} {bd : List Stmt} {sc : Scope} {dV kV doc pm cdv ct oc : Value} {an od : Option Addr} {osl : Array (Option Value)} {N ps : List Str} {sp : Sp}
    (at_ : K.lookup f = some ⟨oc, od, .func (PySem.W.fnOf nm ql pr bd sc dV kV doc pm an cdv ct), osl⟩) (cd_ : PySem.W.codeIn K cdv ql = true) (Z : FnScope N ps sc) (size : ∀ xs H Q E, sp xs H Q E → xs.length = ps.length)
    (hb : ∀ (A : Around) (st : List Env) (s : Shared) (H : Hp) (xs : List V) (Q : VK) (E : XK), A.guards = some [] → Room k (A.deeper (envOfC ql sc s.heap.objs.size f cdv)) → sp xs H Q E →
      ∃ t, PSs (cxOf CX P w K mg base N ql sc f cdv A st s H E) bd t ∧ t { nx := fun _ H' => Q .non H', rt := Q } (start N xs) H) :
    FnG P w K mg base CX (k + 1) f (PySem.W.fnOf nm ql pr bd sc dV kV doc pm an cdv ct) ps sp := by
  refine ⟨size, fun A st s H args us xs Q E hg hr e0 bnd r hs => ?_⟩
  have hlen := size _ _ _ _ hs
  have inK : K.In s.heap := e0.mod.kin.keeps fun b o e => (e0.bs b o e).1
  have nol : s.heap.NoLimit := e0.mod.nolimit.keeps fun b o e => (e0.bs b o e).1
  refine codeAny_call_function hr.depth (inK _ _ at_) rfl Z.co Z.gen rfl (PySem.W.codeRec_of inK cd_) (bnd _ _ _ _ ?_)
  refine wpAny_newFunctionEnv_cells Z.kind (fun ⟨n, v⟩ hy => ?_) fun env he s1 x => ?_
  · rcases Z.par n (List.of_mem_zip hy).1 with q | q
    · exact .inl q
    · exact .inr ⟨q, PySem.W.cellsFrom_some _ _ _ (.inl q)⟩
  subst he
  refine ⟨nol.keeps x.toInCall.keep, codeAny_func ?_⟩
  obtain ⟨t, ht, hq⟩ := hb A st s H xs Q E hg (hr.deeper _) hs
  have I : Inv (cxOf CX P w K mg base N ql sc f cdv A st s H E) [] (start N xs) H s1 := inv_start Z hr.hd e0 hlen r x
  refine wpAny_mono (ht.run [] s1 (start N xs) H _ I hq) (fun fl s' z => ?_) fun e s' z => z
  match fl, z with
  | .ret u, ⟨v, σ', H', J, rv, q⟩ => exact ⟨v, H', J.os, J.bare, J.base, J.hok, rv, q⟩
  | .next, ⟨σ', H', J, q⟩ => exact ⟨V.non, H', J.os, J.bare, J.base, J.hok, rfl, q⟩
  | .brk, ⟨_, _, _, q⟩ => exact False.elim q
  | .cont, ⟨_, _, _, q⟩ => exact False.elim q
/-- the same in the words of a def -/
theorem okG {x qual : Str} {st : Stmt} {fd : FuncData} {N ps : List Str} {sp : Sp} (F : Fun K x qual st f fd) (Z : FnScope N ps (defScope st)) (size : ∀ xs H Q E, sp xs H Q E → xs.length = ps.length)
    (hb : ∀ (cdv : Value) (A : Around) (out : List Env) (s : Shared) (H : Hp) (xs : List V) (Q : VK) (E : XK), A.guards = some [] → Room k (A.deeper (envOfC qual (defScope st) s.heap.objs.size f cdv)) → sp xs H Q E →
      ∃ t, PSs (cxOf CX0 P w K mg base N qual (defScope st) f cdv A out s H E).nox (defBody st) t ∧ t { nx := fun _ H' => Q .non H', rt := Q } (start N xs) H) : FnG P w K mg base CX0 (k + 1) f fd ps sp := by
  obtain ⟨oc, od, kV, doc, pm, an, cdv, ct, osl, rfl, at_, cd_⟩ := F.ex
  refine fnG at_ cd_ Z size fun A out s H xs Q E hg hr hs => ?_
  obtain ⟨t, h, q⟩ := hb cdv A out s H xs Q E hg hr hs
  exact ⟨t, h.nox, q⟩
end
section
variable {X : Cx}
def rReprD (K : PySem.W.Frag) : List V → Hp → VK → Prop := fun xs H Q => ∃ v d, xs = [v] ∧ Dp K H v d ∧ d.showable = true ∧ SeqAt.shaped d = true ∧ d.shown.length ≤ sizeLine ∧ Q (.str d.shown) H
theorem shaped_nd {d : PyData} (h : SeqAt.shaped d = true) : d.hasDict = false ∧ d.depth ≤ 64 := by
  have h' : (d.canLay0 && decide (d.depth ≤ 64)) = true := h
  rw [Bool.and_eq_true] at h'
  exact ⟨PyData.hasDict_of_canLay d h'.1, of_decide_eq_true h'.2⟩
theorem call_reprD (hg : X.A.guards = some []) (hu : X.A.units + 66 < cLine) : CallR X (.builtin "repr") (rReprD X.K) := by
  intro pins s σ H xs us Q I r h
  obtain ⟨v, d, rfl, hd, hs, hl, hz, q⟩ := h
  obtain ⟨u, rfl, rx⟩ := vals1 r
  obtain ⟨nd, hdp⟩ := shaped_nd hl
  obtain ⟨as, rd⟩ := Dp.reads I d v u hd rx
  cases hd with
  | lst a b =>
    cases (show u = Value.ref _ from rx)
    refine repr_of_reads' rd hs (PyData.noDict_hsm nd) hg (by omega) (fun b o e => e) (fun h' t tk hk => ?_) hz
    exact ⟨.str _, H, I.kept hk, ⟨_, rfl⟩, q⟩
  | tup a b =>
    cases (show u = Value.ref _ from rx)
    refine repr_of_reads' rd hs (PyData.noDict_hsm nd) hg (by omega) (fun b o e => e) (fun h' t tk hk => ?_) hz
    exact ⟨.str _, H, I.kept hk, ⟨_, rfl⟩, q⟩
  | non =>
    cases (show u = Value.none from rx)
    exact PySem.P.repr_of_none ⟨.str _, H, I.tok _, ⟨_, rfl⟩, q⟩
  | bl b =>
    cases (show u = Value.bool b from rx)
    exact PySem.P.repr_of_bool ⟨.str _, H, I.tok _, ⟨_, rfl⟩, q⟩
  | int i =>
    obtain ⟨t, rfl⟩ := (show ∃ t, u = Value.int i t from rx)
    exact PySem.P.repr_of_int (of_decide_eq_true hs) ⟨.str _, H, I.tok _, ⟨_, rfl⟩, q⟩
  | str x =>
    obtain ⟨t, rfl⟩ := (show ∃ t, u = Value.str x t from rx)
    exact PySem.P.repr_of_str ⟨.str _, H, I.tok _, ⟨_, rfl⟩, q⟩ hz
end
end Sb

set_option Elab.async false
set_option linter.all false
set_option maxRecDepth 100000
set_option maxHeartbeats 2000000
/-! Sbs: what an end shows; properties of ends; a loop over a list or a tuple. -/
namespace Sb
open PySem PySem.Spec PyProof.Rows L2
theorem pi_or {X : Cx} {tg l : Expr} {w1 w2 : TI} (h1 : PI X tg l w1) (h2 : PI X tg l w2) : PI X tg l (fun σ H R => w1 σ H R ∨ w2 σ H R) :=
  ⟨fun pins s σ H R I h => h.elim (fun z => h1.run pins s σ H R I z) (fun z => h2.run pins s σ H R I z)⟩
theorem passNo {X : Cx} : Passes (L2.CX X.prog X.w) X E0 := fun _ _ _ _ _ _ _ c => by
  obtain ⟨_, _, _, _, _, _, _, _, _, _, _, _, z⟩ := c
  exact z.elim
/-- a class with its __init__, made -/
structure Mx (P : Program) (w : World) (K : PySem.W.Frag) (mg : Str → Option Value) (base : Heap) (CX : CXT) (k : Nat) (x : Str) (D f : Addr) (fd : FuncData) (ps : List Str) (sp : Sp) : Prop where
  mkC : Mk K D f
  ok : FnOk P w K mg base CX k f fd ps sp
  mg : mg x = some (.ref D)
  bd : Binds K fd ps []
theorem dget_of {H : Hp} {p : Addr} {kvs : List (Key × V)} {k : Key} {v : V} (e : H p = some (.dK kvs)) (l : valV kvs k = some v) : DGet H p (kV k) (some v) := by
  rw [← l]
  exact DGet.k e
/-- f(k = v, ..) -/
theorem pe_callKo {X : Cx} {CX : CXT} {k : Nat} {f : Addr} {fd : FuncData} {ps ks : List Str} {sp : Sp} {E : XK} {x : Str} {p pos : Pos} {kws : List Keyword} {tk : TA} {g : List Value → List Value → List Value} {gV : List V → List V → List V}
    (F : FnOk X.prog X.w X.K X.mg X.base CX k f fd ps sp) (hr : Room k X.A) (gl : Gl X x) (at_ : X.mg x = some (.ref f)) (kp : PySem.W.keepIn X.K (.ref f) = true) (kb : KBinds X.K fd ps ks g gV) (hx : Passes CX X E) (hkw : PK X kws tk)
    (all1 : (backToKw pos (keywordEach kws X.env)).all (·.1.isSome) = true := by rfl) (names : (backToKw pos (keywordEach kws X.env)).filterMap (·.1) = ks := by rfl) (nd : (x == ("__debug__" : Str)) = false := by decide)
    (pl : ((backTo pos (starEach [] X.env)).any (·.1) || (backToKw pos (keywordEach kws X.env)).any (·.1.isNone)) = false := by rfl) : PE X (.Call (.Name x p) [] kws pos) (tCallK sp gV E tNil tk) := by
  refine ⟨fun pins s σ H Q I h => wpAny_Call_Name_kw (ld_glob I gl at_ ?_ nd)⟩
  refine PySem.W.callWith_KW0 (h₀ := X.base) I.ok.mod.kin kp all1 (thn (hkw.run pos pins s σ H _ I h) fun ws s2 ⟨zs, H2, I2, rz, q2⟩ => ⟨I2.kIn, ?_⟩) pl
  rw [names]
  exact run_fnk (us := []) (vs := []) F hr kb hx I2 .nil rz q2
/-- three keywords, turned round -/
def turn3 {α : Type} : List α → List α → List α
  | [], [a, b, c] => [c, b, a]
  | _, _ => []
/-- a property of a class that hands one attribute out -/
structure Px (P : Program) (w : World) (K : PySem.W.Frag) (mg : Str → Option Value) (base : Heap) (C p g : Addr) (fd : FuncData) (f at_ : Str) : Prop where
  pof : PropOf K C f p g
  ok : FnOk P w K mg base CX0 1 g fd ["self"] (getSp C at_)
  bd : Binds K fd ["self"] []
/-- the machine of a start and its row -/
def beginOf (hs ss : List Row) (st : Str) : List Row × Nat := if st = "sender" then (ss, 0) else if st = "wrong" then (hs, 1) else (hs, 0)
def isStart (st : Str) : Prop := st = "right" ∨ st = "wrong" ∨ st = "sender"
/-- one bit on -/
def stepPl (rs : List Row) (p : Pl) (b : Nat) : Pl := match p with
  | .num i => match rs[i]? with
    | some r => if b = 0 then r.a else r.b
    | none => .num i
  | .word s => .word s
def walkPl (rs : List Row) (p : Pl) (bs : List Nat) : Pl := bs.foldl (stepPl rs) p
def putOf (rs : List Row) (i : Nat) : Nat := (rs[i]?.map Row.put).getD 0
/-- what is shown at a place -/
def seenVs (rs : List Row) : Pl → List V
  | .num i => [.str "put", .int (putOf rs i : Int)]
  | .word s => [.str "word", .str s]
def seenD (rs : List Row) : Pl → PyData
  | .num i => .tuple [.str "put", .int (putOf rs i : Int)]
  | .word s => .tuple [.str "word", .str s]
theorem walk_word (rs : List Row) (s : Str) : ∀ bs : List Nat, walkPl rs (.word s) bs = .word s
  | [] => rfl
  | b :: r => walk_word rs s r
theorem walk_snoc (rs : List Row) (p : Pl) (bs : List Nat) (b : Nat) : walkPl rs p (bs ++ [b]) = stepPl rs (walkPl rs p bs) b := by
  unfold walkPl
  rw [List.foldl_append]
  rfl
theorem step_ok {rs : List Row} {ws : List Str} (h : ∀ r, r ∈ rs → r.Ok rs.length ws) {p : Pl} (b : Nat) (hp : p.Ok rs.length ws) : (stepPl rs p b).Ok rs.length ws := by
  cases p with
  | word s => exact hp
  | num i =>
    have hi : i < rs.length := hp
    have e : stepPl rs (.num i) b = if b = 0 then rs[i].a else rs[i].b := by
      show (match rs[i]? with | some r => if b = 0 then r.a else r.b | none => Pl.num i) = _
      rw [List.getElem?_eq_getElem hi]
    have hr := h rs[i] (List.getElem_mem hi)
    rw [e]
    by_cases c : b = 0
    · rw [if_pos c]
      exact hr.2.1
    · rw [if_neg c]
      exact hr.2.2
theorem walk_ok {rs : List Row} {ws : List Str} (h : ∀ r, r ∈ rs → r.Ok rs.length ws) : ∀ (bs : List Nat) {p : Pl}, p.Ok rs.length ws → (walkPl rs p bs).Ok rs.length ws
  | [], _, hp => hp
  | b :: r, _, hp => walk_ok h r (step_ok h b hp)
/-- a word of a machine -/
def isWords (ws : List Str) : Prop := ws = hearerWords ∨ ws = senderWords
/-- a value that can be told and compared -/
def fineD (d : PyData) : Prop := d.showable = true ∧ SeqAt.shaped d = true ∧ d.shown.length ≤ sizeLine
/-- what is shown can be told -/
theorem seen_fine {rs : List Row} {ws : List Str} (hw : isWords ws) (h : ∀ r, r ∈ rs → r.Ok rs.length ws) {p : Pl} (hp : p.Ok rs.length ws) : fineD (seenD rs p) := by
  cases p with
  | num i =>
    have hi : i < rs.length := hp
    have e : putOf rs i = 0 ∨ putOf rs i = 1 := by
      unfold putOf
      rw [List.getElem?_eq_getElem hi]
      exact (h rs[i] (List.getElem_mem hi)).1
    show fineD (.tuple [.str "put", .int (putOf rs i : Int)])
    rcases e with e | e <;> (rw [e]; exact ⟨by decide +kernel, by decide +kernel, by decide +kernel⟩)
  | word z =>
    have hz : z ∈ ws := hp
    have key : ∀ y : Str, y = "taken" ∨ y = "lost" ∨ y = "done" ∨ y = "again" → fineD (.tuple [.str "word", .str y]) := by
      rintro y (rfl | rfl | rfl | rfl) <;> exact ⟨by decide +kernel, by decide +kernel, by decide +kernel⟩
    refine key z ?_
    rcases hw with rfl | rfl <;> (simp only [hearerWords, senderWords, List.mem_cons, List.not_mem_nil, or_false] at hz; rcases hz with rfl | rfl <;> simp)
theorem seen_dp {K : PySem.W.Frag} {H : Hp} {t : Addr} {rs : List Row} {p : Pl} (h : H t = some (.tup (seenVs rs p))) : Dp K H (.ref t) (seenD rs p) := by
  cases p with
  | num i => exact .tup (SqT.of h) (.cons (.str _) (.cons (.int _) .nil))
  | word z => exact .tup (SqT.of h) (.cons (.str _) (.cons (.str _) .nil))
theorem walk_more {rs : List Row} {p : Pl} {bs : List Nat} {z : Str} (h : walkPl rs p bs = .word z) (l : List Nat) : walkPl rs p (bs ++ l) = .word z := by
  unfold walkPl at h ⊢
  rw [List.foldl_append, h]
  exact walk_word rs z _
theorem natsV_app (q r : List Nat) : natsV q ++ natsV r = natsV (q ++ r) := by unfold natsV; rw [List.map_append]
theorem natsV_ne {q : List Nat} (h : q ≠ []) : natsV q ≠ [] := by
  cases q with
  | nil => exact absurd rfl h
  | cons a b => simp [natsV]
theorem walk_stays {rs : List Row} {p : Pl} {bs : List Nat} {i : Nat} {z : Str} (h : walkPl rs p (bs.take i) = .word z) : walkPl rs p bs = .word z := by
  have e : walkPl rs p (bs.take i ++ bs.drop i) = .word z := by
    unfold walkPl at h ⊢
    rw [List.foldl_append, h]
    exact walk_word rs z _
  rwa [List.take_append_drop] at e
end Sb

set_option Elab.async false
set_option linter.all false
set_option maxRecDepth 100000
set_option maxHeartbeats 2000000
/-! Sbd: rows as Python's data. -/
namespace Sb
open PySem PySem.Spec PyProof.Rows L2
def plD : Pl → PyData
  | .num n => .int (n : Int)
  | .word s => .str s
def rowD (r : Row) : PyData := .tuple [.int (r.put : Int), plD r.a, plD r.b]
def rowsD (rs : List Row) : List PyData := rs.map rowD
theorem plD_eqv (p q : Pl) : PyData.eqv (plD p) (plD q) = decide (p = q) := by
  cases p <;> cases q <;> simp [plD, PyData.eqv] <;> (rw [Bool.eq_iff_iff]; simp) <;> omega
theorem rowD_eqv (r q : Row) : PyData.eqv (rowD r) (rowD q) = decide (r = q) := by
  obtain ⟨p1, a1, b1⟩ := r
  obtain ⟨p2, a2, b2⟩ := q
  simp only [rowD, PyData.eqv, PyData.eqvAll, plD_eqv, Bool.and_true]
  rw [Bool.eq_iff_iff]
  simp
  intro _ _
  omega
theorem rowsD_eqv : ∀ rs qs : List Row, PyData.eqvAll (rowsD rs) (rowsD qs) = decide (rs = qs)
  | [], [] => by simp [rowsD, PyData.eqvAll]
  | [], q :: qs => by simp [rowsD, PyData.eqvAll]
  | r :: rs, [] => by simp [rowsD, PyData.eqvAll]
  | r :: rs, q :: qs => by
    have ih := rowsD_eqv rs qs
    unfold rowsD at ih ⊢
    rw [List.map_cons, List.map_cons]
    simp only [PyData.eqvAll, rowD_eqv, ih]
    rw [Bool.eq_iff_iff]
    simp
/-- a word that the machines know -/
def okWord (s : Str) : Prop := s ∈ hearerWords ∨ s ∈ senderWords
def okPl : Pl → Prop
  | .num _ => True
  | .word s => okWord s
def okRow (r : Row) : Prop := okPl r.a ∧ okPl r.b
theorem okPl_of {many : Nat} {ws : List Str} (hw : isWords ws) {p : Pl} (h : p.Ok many ws) : okPl p := by
  cases p with
  | num n => exact True.intro
  | word s =>
    rcases hw with rfl | rfl
    · exact .inl h
    · exact .inr h
theorem okRow_of {many : Nat} {ws : List Str} (hw : isWords ws) {r : Row} (h : r.Ok many ws) : okRow r := ⟨okPl_of hw h.2.1, okPl_of hw h.2.2⟩
theorem okWord_cases {s : Str} (h : okWord s) : s = "taken" ∨ s = "lost" ∨ s = "done" ∨ s = "again" := by
  rcases h with h | h <;> (simp only [hearerWords, senderWords, List.mem_cons, List.not_mem_nil, or_false] at h; rcases h with rfl | rfl <;> simp)
theorem plD_lay {p : Pl} (h : okPl p) : (plD p).canLay0 = true ∧ (plD p).depth = 0 := by
  cases p with
  | num n => exact ⟨by simp [plD, PyData.canLay0], by simp [plD, PyData.depth]⟩
  | word s =>
    rcases okWord_cases h with rfl | rfl | rfl | rfl <;> exact ⟨by decide +kernel, by simp [plD, PyData.depth]⟩
theorem rowD_lay {r : Row} (h : okRow r) : (rowD r).canLay0 = true ∧ (rowD r).depth ≤ 1 := by
  obtain ⟨a1, a2⟩ := plD_lay h.1
  obtain ⟨b1, b2⟩ := plD_lay h.2
  refine ⟨by simp [rowD, PyData.canLay0, PyData.canLayAll0, a1, b1], by simp [rowD, PyData.depth, PyData.depthAll, a2, b2]⟩
theorem rowsD_lay : ∀ {rs : List Row}, (∀ r, r ∈ rs → okRow r) → PyData.canLayAll0 (rowsD rs) = true ∧ PyData.depthAll (rowsD rs) ≤ 1
  | [], _ => ⟨by simp [rowsD, PyData.canLayAll0], by simp [rowsD, PyData.depthAll]⟩
  | r :: rs, h => by
    obtain ⟨a1, a2⟩ := rowD_lay (h r (by simp))
    obtain ⟨b1, b2⟩ := rowsD_lay (rs := rs) fun q hq => h q (by simp [hq])
    unfold rowsD at b1 b2 ⊢
    rw [List.map_cons]
    refine ⟨by simp [PyData.canLayAll0, a1, b1], by simp only [PyData.depthAll]; omega⟩
theorem shaped_tup {ds : List PyData} {n : Nat} (h : PyData.canLayAll0 ds = true ∧ PyData.depthAll ds ≤ n) (hn : n ≤ 60) : SeqAt.shaped (.tuple ds) = true := by
  show ((PyData.tuple ds).canLay0 && decide ((PyData.tuple ds).depth ≤ 64)) = true
  rw [Bool.and_eq_true]
  exact ⟨by simp [PyData.canLay0, h.1], decide_eq_true (by have := h.2; simp only [PyData.depth]; omega)⟩
theorem shaped_lst {ds : List PyData} {n : Nat} (h : PyData.canLayAll0 ds = true ∧ PyData.depthAll ds ≤ n) (hn : n ≤ 60) : SeqAt.shaped (.list ds) = true := by
  show ((PyData.list ds).canLay0 && decide ((PyData.list ds).depth ≤ 64)) = true
  rw [Bool.and_eq_true]
  exact ⟨by simp [PyData.canLay0, h.1], decide_eq_true (by have := h.2; simp only [PyData.depth]; omega)⟩
theorem plD_dp {K : PySem.W.Frag} {H : Hp} : ∀ p : Pl, Dp K H p.v (plD p)
  | .num n => .int _
  | .word s => .str s
theorem rowD_dp {K : PySem.W.Frag} {H : Hp} {v : V} {r : Row} (h : RowAt H v r) : Dp K H v (rowD r) := by
  obtain ⟨a, rfl, e⟩ := h
  exact .tup (SqT.of e) (.cons (.int _) (.cons (plD_dp _) (.cons (plD_dp _) .nil)))
theorem rowsD_dp {K : PySem.W.Frag} {H : Hp} : ∀ {vs : List V} {rs : List Row}, RowsV H vs rs → DpAll K H vs (rowsD rs)
  | _, _, .nil => .nil
  | _, _, .cons h t => .cons (rowD_dp h) (rowsD_dp t)
theorem tupD_dp {K : PySem.W.Frag} {H : Hp} {t : Addr} {vs : List V} {rs : List Row} (e : H t = some (.tup vs)) (h : RowsV H vs rs) : Dp K H (.ref t) (.tuple (rowsD rs)) := .tup (SqT.of e) (rowsD_dp h)
mutual
theorem dp_stay {K : PySem.W.Frag} {H H' : Hp} (s : Same H H') : ∀ {v : V} {d : PyData}, Dp K H v d → Dp K H' v d
  | _, _, .non => .non
  | _, _, .bl b => .bl b
  | _, _, .int i => .int i
  | _, _, .str x => .str x
  | _, _, .lst a h => .lst (s.seq a) (dps_stay s h)
  | _, _, .tup a h => .tup (sqT_same s a) (dps_stay s h)
theorem dps_stay {K : PySem.W.Frag} {H H' : Hp} (s : Same H H') : ∀ {vs : List V} {ds : List PyData}, DpAll K H vs ds → DpAll K H' vs ds
  | _, _, .nil => .nil
  | _, _, .cons h t => .cons (dp_stay s h) (dps_stay s t)
end
end Sb

set_option Elab.async false
set_option linter.all false
set_option maxRecDepth 100000
set_option maxHeartbeats 2000000
/-! Sbt: str of an own class; the texts of machines. -/
namespace Sb
open PySem PySem.Spec PyProof.Rows L2
section
variable {X : Cx} {CX : CXT} {k : Nat} {C f : Addr} {fd : FuncData} {ps : List Str} {sp : Sp} {E : XK}
/-- a def runs two levels below the body -/
theorem run_in2 {pins : List (Addr × Obj)} {σ : L2.St} {H : Hp} {s : Shared} {Q : VK} {us : List Value} {vs : List V} (F : FnOk X.prog X.w X.K X.mg X.base CX k f fd ps sp) (hr : Room (k + 2) X.A) (hb : Binds X.K fd ps []) (hx : Passes CX X E)
    (I : Inv X pins σ H s) (r : Vals vs us) (h : sp vs H Q E) : wpAny (model X.prog X.w) X.A.in1.in1 (call (.ref f) us) (EP X pins σ Q) X.xe s := by
  have hl : us.length = ps.length := by
    rw [← r.length]
    exact F.len _ _ _ _ h
  have bnd := hb s us I.kIn (by rw [List.append_nil]; exact hl)
  rw [List.append_nil] at bnd
  have run := F.run X.A.in1.in1 X.stack s H ⟨us, []⟩ us vs Q E hr.in1.in1 I.env0.in1.in1 bnd r h
  refine wpAny_call (codeAny_mono run fun q s' hq => ?_)
  match q, hq with
  | .error er, hq => exact hx pins σ H s er s' I hq
  | .ok (.ret u), hq => exact I.after hq
  | .ok .next, hq => exact False.elim hq
  | .ok .brk, hq => exact False.elim hq
  | .ok .cont, hq => exact False.elim hq
/-- str(x) by an own __str__ -/
def rStrOwn (C : Addr) (sp : Sp) (E : XK) : List V → Hp → VK → Prop := fun xs H Q => ∃ (a dx : Addr) (fs : List (Str × V)), xs = [.ref a] ∧ H a = some (.ins C dx fs) ∧ sp [.ref a] H (fun v H' => ∃ z : Str, v = .str z ∧ Q (.str z) H') E
theorem call_strOwn (M : Meth X.K C "__str__" f) (F : FnOk X.prog X.w X.K X.mg X.base CX k f fd ps sp) (hr : Room (k + 2) X.A) (hb : Binds X.K fd ps []) (hx : Passes CX X E) : CallR X (.type "str") (rStrOwn C sp E) := by
  intro pins s σ H xs us Q I r h
  obtain ⟨a, dx, fs, rfl, ha, hsp⟩ := h
  obtain ⟨u, rfl, rx⟩ := vals1 r
  cases (show u = Value.ref a from rx)
  obtain ⟨mA, O, _⟩ := ins_get I.hok ha
  obtain ⟨od, J, _⟩ := O.look
  refine PySem.W.kso_call hr.in1.in1.units0 I.kIn J M.at_ M.fn (wpAny_mono (run_in2 (us := [.ref a]) (vs := [.ref a]) F hr hb hx I (.cons rfl .nil) hsp) (fun w s' z => ?_) fun _ _ q => q)
  obtain ⟨v', H', I', rv, y, ey, q⟩ := z
  subst ey
  obtain ⟨tk, e⟩ := (show ∃ t, w = Value.str y t from rv)
  subst e
  exact ⟨.str y, H', I', ⟨_, rfl⟩, q⟩
end
/-- the text of a part, of a row, of a machine, of an end -/
def plT : Pl → Str
  | .num n => Str.ofString (toString (n : Int))
  | .word s => s
def rowT (r : Row) : Str := ((((Str.empty ++ Str.ofString (toString (r.put : Int))) ++ (" " : Str)) ++ plT r.a) ++ (" " : Str)) ++ plT r.b
def machT (rs : List Row) : Str := Txt.join (", " : Str) (rs.map rowT)
def endT (hs ss : List Row) : Str := ((Str.empty ++ machT hs) ++ (" | " : Str)) ++ machT ss
def smallPl : Pl → Prop
  | .num n => n ≤ 1000
  | .word s => okWord s
def smallRow (r : Row) : Prop := r.put ≤ 1000 ∧ smallPl r.a ∧ smallPl r.b
theorem num_len {n : Nat} (h : n ≤ 1000) : (Str.ofString (toString (n : Int))).length ≤ 10 := by
  have key : ∀ m : Fin 1001, (Str.ofString (toString ((m.val : Nat) : Int))).length ≤ 10 := by decide +kernel
  exact key ⟨n, by omega⟩
theorem num_log {n : Nat} (h : n ≤ 1000) : ((n : Int)).natAbs.log2 < 1920 := Nat.lt_of_le_of_lt (Nat.log2_le_self _) (by omega)
theorem plT_len {p : Pl} (h : smallPl p) : (plT p).length ≤ 10 := by
  cases p with
  | num n => exact num_len h
  | word s => rcases okWord_cases h with rfl | rfl | rfl | rfl <;> decide +kernel
theorem rowT_len {r : Row} (h : smallRow r) : (rowT r).length ≤ 32 := by
  have h1 := num_len h.1
  have h2 := plT_len h.2.1
  have h3 := plT_len h.2.2
  have e : (" " : Str).length = 1 := by decide +kernel
  have e0 : Str.empty.length = 0 := by decide +kernel
  unfold rowT
  rw [strLen_append, strLen_append, strLen_append, strLen_append, strLen_append, e, e0]
  omega
theorem smallPl_of {many : Nat} {ws : List Str} (hw : isWords ws) (hm : many ≤ 1000) {p : Pl} (h : p.Ok many ws) : smallPl p := by
  cases p with
  | num n => exact Nat.le_of_lt (Nat.lt_of_lt_of_le h hm)
  | word s => exact okPl_of hw h
theorem smallRow_of {many : Nat} {ws : List Str} (hw : isWords ws) (hm : many ≤ 1000) {r : Row} (h : r.Ok many ws) : smallRow r := ⟨by have := h.1; omega, smallPl_of hw hm h.2.1, smallPl_of hw hm h.2.2⟩
/-- {x}: a part of a row, as a text -/
def tFmtP (te : TE) : TE := fun σ H Q => te σ H fun x H1 => ∃ p : Pl, x = p.v ∧ smallPl p ∧ Q (.str (plT p)) H1
theorem pe_fmtP {X : Cx} {e : Expr} {te : TE} {pos : Pos} (he : PE X e te) : PE X (.FormattedValue e (-1) none pos) (tFmtP te) := by
  refine ⟨fun pins s σ H Q I h => wpAny_FormattedValue_plain (thn (he.run pins s σ H _ I h) fun v s1 hv => ?_)⟩
  obtain ⟨x, H1, I1, r1, p, ep, hp, q⟩ := hv
  subst ep
  cases p with
  | num n =>
    obtain ⟨t, rfl⟩ := (show ∃ t, v = Value.int (n : Int) t from r1)
    exact wpAny_formatField_int (num_log hp) ⟨.str (plT (.num n)), H1, I1.tok _, ⟨_, rfl⟩, q⟩
  | word z =>
    obtain ⟨t, rfl⟩ := (show ∃ t, v = Value.str z t from r1)
    exact wpAny_formatField_str ⟨.str z, H1, I1, ⟨t, rfl⟩, q⟩ ⟨.str z, H1, I1.tok _, ⟨_, rfl⟩, q⟩ (Nat.le_trans (plT_len (p := .word z) hp) (by decide))
theorem machT_len {rs : List Row} (h : ∀ r, r ∈ rs → smallRow r) : ((rs.map rowT).map (·.length)).sum ≤ 32 * rs.length := by
  induction rs with
  | nil => simp
  | cons r rs ih =>
    have h1 := rowT_len (h r (by simp))
    have h2 := ih fun q hq => h q (by simp [hq])
    simp only [List.map_cons, List.sum_cons, List.length_cons]
    omega
theorem join_len (sep : Str) (xs : List Str) : (Txt.join sep xs).length ≤ (xs.map (·.length)).sum + xs.length * sep.length := by
  show (Builtin.Str.glued sep xs).length ≤ _
  rw [StrLaws.glued_eq_join]
  exact StrLaws.join_length_le sep xs
theorem machT_fits {rs : List Row} (h : ∀ r, r ∈ rs → smallRow r) (hn : rs.length ≤ 1000) : (machT rs).length ≤ 34000 := by
  have h1 := join_len (", " : Str) (rs.map rowT)
  have h2 := machT_len h
  have e : (", " : Str).length = 2 := by decide +kernel
  rw [e, List.length_map] at h1
  unfold machT
  omega
end Sb

set_option Elab.async false
set_option linter.all false
set_option maxRecDepth 100000
set_option maxHeartbeats 2000000
/-! Sbe: enumerate of a tuple. -/
namespace Sb
open PySem PySem.W PySem.Calls PyProof.Rows
theorem meets_enum1 {v : Value} {o : Obj} {Z : Heap → Prop} (B : Begins v o Z) :
    Meets (Builtin.«enumerate.__new__» ⟨[.type "enumerate", v], []⟩) (fun _ R s => Z s.heap ∧
      R (.ok (.ret (.ref (s.heap.push o).objs.size))) { s with heap := (s.heap.push o).push { cls := .type "enumerate", data := .fields #[.none, .bool false, .ref s.heap.objs.size, rawInt 0, .none, .none] } }) :=
  .of_wp fun prog w A R s hz => by
    obtain ⟨hp, gs, dr, tk, os⟩ := s
    obtain ⟨z1, fin⟩ := hz
    have hsub := sub_enumerate
    have begun : ∀ {A2 : Around} {E2 : Value → Shared → Prop} {Q2 : Value → Shared → Prop}, Q2 (.ref hp.objs.size) ⟨hp.push o, gs, dr, tk, os⟩ → wpAny (model prog w) A2 (pyIter v) Q2 E2 ⟨hp, gs, dr, tk, os⟩ :=
      fun q => B.iter prog w _ _ ⟨hp, gs, dr, tk, os⟩ _ z1 q
    wp_walk using begun
    refine wpAny_stack_any fun st => wpAny_pure ?_
    split
    · rename_i c _ _ _ _ _
      cases (c == Value.type "enumerate")
      all_goals (wp_walk using begun; exact ⟨_, rfl, fin⟩)
    · wp_walk using begun
      exact ⟨_, rfl, fin⟩
end Sb
namespace Sb
open PySem PySem.W PySem.Calls PyProof.Rows
section
variable {prog : Program} {w : World} {A : Around} {E : Value → Shared → Prop} {s : Shared}
/-- enumerate(v): its two new cells -/
theorem enum1_begins {v : Value} {o : Obj} {Z : Heap → Prop} {Q : Value → Shared → Prop} (B : Begins v o Z) (z1 : Z s.heap)
    (fin : ∀ h', IsEnum h' (s.heap.objs.size + 1) s.heap.objs.size 0 .none → h'.get? s.heap.objs.size = some o → (∀ b u, s.heap.get? b = some u → h'.get? b = some u) → Q (.ref (s.heap.objs.size + 1)) { s with heap := h' }) :
    wpAny (model prog w) A (call (.type "enumerate") [v]) Q E s := by
  have grow : (s.heap.push o).objs.size = s.heap.objs.size + 1 := Heap.size_push ..
  have top : IsEnum ((s.heap.push o).push { cls := .type "enumerate", data := .fields #[.none, .bool false, .ref s.heap.objs.size, rawInt 0, .none, .none] }) (s.heap.objs.size + 1) s.heap.objs.size 0 .none := by
    have q := Heap.get?_push_size (s.heap.push o) (o := { cls := .type "enumerate", data := .fields #[.none, .bool false, .ref s.heap.objs.size, rawInt 0, .none, .none] }) rfl
    rwa [grow] at q
  refine callType_new F.called_enumerate (by decide) (F.typeCall_enumerate_1 _) (F.newCall_enumerate_1 _) (fun obj => F.args_object_init_2 obj _) F.entry_enumerate_new (meets_enum1 B) ⟨z1, ?_⟩
  show _ ∧ _
  rw [grow]
  exact ⟨⟨_, top, rfl⟩, fin _ top (Heap.get?_push_of_some _ (Heap.get?_push_size _ B.free)) fun b u x => Heap.get?_push_of_some _ (Heap.get?_push_of_some _ x)⟩
end
end Sb
namespace Sb
open PySem PySem.Spec PySem.Calls PyProof.Rows L2
/-- the tuple at a, its items xs, in new pairs with their numbers -/
def ItEt (K : PySem.W.Frag) (a : Addr) (xs : List V) : It :=
  ⟨fun i H => SqT K H a xs ∧ i < xs.length, fun i H v H' => ∃ t x, v = .ref t ∧ H t = none ∧ H' = upd H t (.tup [.int (i : Nat), x]) ∧ xs[i]? = some x, fun i H => SqT K H a xs ∧ i = xs.length⟩
theorem turn_enumT {P : Program} {w : World} {K : PySem.W.Frag} {elts : List Expr} {kk : Nat} {tpos : Pos} (a e it : Addr) (xs : List V) :
    Turn P w K (.Tuple elts kk tpos) (ItEt K a xs) [e, it] e (fun i h => (∃ old, IsEnum h e it ((i : Nat) : Int) old) ∧ h.IsTupleIter it a i ∧ e ≠ it ∧ a ≠ it ∧ a ≠ e) where
  mem := by simp
  obj := fun i h st b hb => by
    obtain ⟨⟨old, z⟩, ⟨o, ho, _, hd⟩, _⟩ := st
    rcases (show b = e ∨ b = it by simpa using hb) with rfl | rfl
    · exact ⟨_, z, fun v q => nomatch q⟩
    · exact ⟨o, ho, fun v q => by rw [hd] at q; cases q⟩
  keep := fun i h h' st k => by
    obtain ⟨⟨old, z⟩, z2, rest⟩ := st
    exact ⟨⟨old, k e (by simp) _ z⟩, z2.at fun o q => k it (by simp) o q, rest⟩
  item := by
    intro X hP hw hK calm i pins s σ H E I free st go
    subst hP hw hK
    obtain ⟨⟨old, he⟩, hit, ne, nai, nae⟩ := st
    obtain ⟨hq, hlt⟩ := go
    obtain ⟨its, rv, tp, hz⟩ := I.tuple hq
    have hx : xs[i]? = some xs[i] := List.getElem?_eq_getElem hlt
    obtain ⟨u, hu, ru⟩ := rv.get hx
    have sz : i < its.toArray.size := by
      have := (List.getElem?_eq_some_iff.mp hu).1
      simpa using this
    have hel : e < s.heap.objs.size := Heap.lt_size he
    have hil : it < s.heap.objs.size := by
      obtain ⟨_, q, _⟩ := hit
      exact Heap.lt_size q
    refine wpAny_pyNext_enum_itemD (fp := [it, a]) (Draws.tuple (A := X.A.in1) (I.ok.hd calm) it a nai its.toArray) he ⟨hit, tp⟩ sz ne (by simp; exact ⟨ne, Ne.symm nae⟩) fun x h' tk px out st' hT hsz hk => ?_
    obtain rfl : x = u := by
      have : its[i]? = some x := by simpa using px
      rw [hu] at this
      exact (Option.some.inj this).symm
    refine ⟨_, rfl, wpAny_letOwnedTupleGo_enum (s := { s with heap := h', toks := tk + 1 }) out fun h2 he2 sb => ?_⟩
    have hT2 : h2.get? s.heap.objs.size = some { cls := .type "tuple", data := .seq #[.int i tk, x] } := (sb.2 _ (Nat.ne_of_gt hel)).trans hT
    have new : ObjOk X.prog X.w (upd H s.heap.objs.size (.tup [.int (i : Nat), xs[i]])) h2 s.heap.objs.size (.tup [.int (i : Nat), xs[i]]) :=
      ⟨by show 2 ≤ sizeLine; decide, [.int i tk, x], .cons ⟨_, rfl⟩ (.cons ru .nil), ⟨_, hT2, rfl, _, rfl⟩⟩
    have I1 : Inv X pins σ (upd H s.heap.objs.size (.tup [.int (i : Nat), xs[i]])) { s with heap := h2, toks := tk + 1 } :=
      I.turnedNew (ch := [e, it]) (fun b ob hb q => (sb.2 b (fun z => hb (by simp [z]))).trans (hk b ob (fun z => hb (by simp [z])) (fun z => hb (by simp [z])) q)) free (Nat.le_refl _) new
    refine ⟨.ref s.heap.objs.size, _, I1, rfl, ⟨_, xs[i], rfl, I.hok.fresh (Nat.le_refl _), rfl, hx⟩, ⟨⟨x, ?_⟩, st'.1.at fun o q => (sb.2 it (Ne.symm ne)).trans q, ne, nai, nae⟩, fun b hb => ?_⟩
    · rw [show ((i + 1 : Nat) : Int) = (i : Int) + 1 by omega]
      exact he2
    · have hb' : b < s.heap.objs.size := by
        rcases (show b = e ∨ b = it by simpa using hb) with rfl | rfl
        · exact hel
        · exact hil
      rw [upd_ne (Nat.ne_of_lt hb')]
      exact (free b hb).1
  done := by
    intro X hP hw hK calm i pins s σ H E I free st stop
    subst hP hw hK
    obtain ⟨⟨old, he⟩, hit, ne, nai, nae⟩ := st
    obtain ⟨hq, rfl⟩ := stop
    obtain ⟨its, rv, tp, hz⟩ := I.tuple hq
    obtain ⟨f0, f1, f2, f3, f4, f5⟩ := free it (by simp)
    have hl := rv.length
    have hn : xs.length = its.toArray.size := by
      rw [List.size_toArray]
      exact hl
    exact wpAny_pyNext_enum_endD (Draws.tuple (A := X.A.in1) (I.ok.hd calm) it a nai its.toArray) he ⟨by rw [← hn]; exact hit, tp⟩ fun h' eb => ⟨rfl, I.turned (t' := s.toks) (fun b o hb q => eb b o hb q) f0 f1 f3 f4 f5⟩
  self := fun A i s Q E st h => by
    obtain ⟨⟨_, he⟩, _⟩ := st
    exact wpAny_pyIter_enum he h
/-- enumerate(e), e a tuple -/
def iEnumT (K : PySem.W.Frag) (ta : TA) : TI := fun σ H R => ta σ H fun vs H1 => ∃ a xs, vs = [.ref a] ∧ SqT K H1 a xs ∧ R (ItEt K a xs) H1
theorem pi_enumT {X : Cx} {e : Expr} {ta : TA} {p pos tpos : Pos} {elts : List Expr} {kk : Nat} (gl : Gl X "enumerate") (no : X.mg "enumerate" = none) (ha : PA X [e] ta) (one : starEach [e] X.env = [(false, eval e X.env)] := by rfl) :
    PI X (.Tuple elts kk tpos) (.Call (.Name "enumerate" p) [e] [] pos) (iEnumT X.K ta) := by
  refine ⟨fun pins s σ H R I h => ?_⟩
  refine Call_ (ld_blt I gl no boot_enumerate (PyProof.Rows.callWith_type1 (thn (ha.run pos pins s σ H _ I h) fun us s1 ⟨vs, H1, I1, r1, a, xs, ex, hq, q⟩ => ?_) one rfl))
  subst ex
  obtain ⟨u, rfl, ru⟩ := vals1 r1
  cases (show u = Value.ref a from ru)
  obtain ⟨its, rv, tp, hz⟩ := I1.tuple hq
  have ha1 : a < s1.heap.objs.size := by
    obtain ⟨o, z, _⟩ := tp
    exact Heap.lt_size z
  refine enum1_begins (begins_tuple a its.toArray) tp fun h' he hit hk => wpAny_pyIter_enum he ?_
  have I2 : Inv X pins σ H1 { s1 with heap := h' } := I1.kept (t' := s1.toks) hk
  refine ⟨s1.heap.objs.size + 1, [s1.heap.objs.size + 1, s1.heap.objs.size], _, _, H1, rfl, I2, turn_enumT a (s1.heap.objs.size + 1) s1.heap.objs.size xs, ⟨⟨.none, he⟩, ⟨_, hit, rfl, rfl⟩, Nat.succ_ne_self _, Nat.ne_of_lt ha1, Nat.ne_of_lt (Nat.lt_succ_of_lt ha1)⟩, fun b hb => ?_, q⟩
  have le : s1.heap.objs.size ≤ b := by
    rcases (show b = s1.heap.objs.size + 1 ∨ b = s1.heap.objs.size by simpa using hb) with rfl | rfl
    · exact Nat.le_add_right _ _
    · exact Nat.le_refl _
  exact I1.fpOk le (I1.hok.fresh le)
theorem walk_enumT {K : PySem.W.Frag} {a : Addr} {xs : List V} : Walk (ItEt K a xs) xs.length (fun H => SqT K H a xs) (YPair (fun i => some (.int (i : Nat))) (fun i => xs[i]?)) :=
  ⟨fun i _ hi q => ⟨q, hi⟩, fun _ q => ⟨q, rfl⟩, fun i H v H' _ q y => by
    obtain ⟨t, x, h1, h2, h3, h4⟩ := y
    exact ⟨t, .int (i : Nat), x, h1, h2, h3, rfl, h4⟩⟩
theorem walk_weaken {J : It} {n : Nat} {G G' : Hp → Prop} {Y : Nat → Hp → V → Hp → Prop} (h : ∀ H, G' H → G H) (w : Walk J n G Y) : Walk J n G' Y :=
  ⟨fun i H hi q => w.goes i H hi (h H q), fun H q => w.stops H (h H q), fun i H x H' hi q y => w.yields i H x H' hi (h H q) y⟩
/-- a list stays a list, a tuple a tuple -/
def StayE (K : PySem.W.Frag) (a : Addr) (xs : List V) (H H' : Hp) : Prop := (SqL K H a xs → SqL K H' a xs) ∧ (SqT K H a xs → SqT K H' a xs)
theorem StayE.same {K : PySem.W.Frag} {a : Addr} {xs : List V} {H H' : Hp} (s : Same H H') : StayE K a xs H H' := ⟨fun z => s.seq z, fun z => sqT_same s z⟩
/-- for i, x in enumerate(e), e a list or a tuple: whatever walks so -/
def iEnumE (K : PySem.W.Frag) (ta : TA) : TI := fun σ H R => ta σ H fun vs H1 => ∃ a xs, vs = [.ref a] ∧ (SqL K H1 a xs ∨ SqT K H1 a xs) ∧
  ∀ J, Walk J xs.length (StayE K a xs H1) (YPair (fun i => some (.int (i : Nat))) (fun i => xs[i]?)) → R J H1
theorem pi_enumE {X : Cx} {e : Expr} {ta : TA} {p pos tpos : Pos} {elts : List Expr} {kk : Nat} (gl : Gl X "enumerate") (no : X.mg "enumerate" = none) (ha : PA X [e] ta) (one : starEach [e] X.env = [(false, eval e X.env)] := by rfl) :
    PI X (.Tuple elts kk tpos) (.Call (.Name "enumerate" p) [e] [] pos) (iEnumE X.K ta) := by
  refine ⟨fun pins s σ H R I h => ?_⟩
  refine Call_ (ld_blt I gl no boot_enumerate (PyProof.Rows.callWith_type1 (thn (ha.run pos pins s σ H _ I h) fun us s1 ⟨vs, H1, I1, r1, a, xs, ex, hq, q⟩ => ?_) one rfl))
  subst ex
  obtain ⟨u, rfl, ru⟩ := vals1 r1
  cases (show u = Value.ref a from ru)
  have two : ∀ b : Addr, b ∈ [s1.heap.objs.size + 1, s1.heap.objs.size] → s1.heap.objs.size ≤ b := fun b hb => by
    rcases (show b = s1.heap.objs.size + 1 ∨ b = s1.heap.objs.size by simpa using hb) with rfl | rfl
    · exact Nat.le_add_right _ _
    · exact Nat.le_refl _
  rcases hq with hq | hq
  · obtain ⟨its, rv, pl, hz⟩ := I1.list hq
    refine call_enumerate_list pl.isList fun h' he hit hsz hk => wpAny_pyIter_enum he ?_
    exact ⟨s1.heap.objs.size + 1, [s1.heap.objs.size + 1, s1.heap.objs.size], _, _, H1, rfl, I1.kept (t' := s1.toks) hk, turn_enum a (s1.heap.objs.size + 1) s1.heap.objs.size, ⟨⟨.none, he⟩, hit, Nat.succ_ne_self _⟩, fun b hb => I1.fpOk (two b hb) (I1.hok.fresh (two b hb)), q _ (walk_weaken (fun H' z => z.1 hq) walk_enum)⟩
  · obtain ⟨its, rv, tp, hz⟩ := I1.tuple hq
    have ha1 : a < s1.heap.objs.size := by
      obtain ⟨o, z, _⟩ := tp
      exact Heap.lt_size z
    refine enum1_begins (begins_tuple a its.toArray) tp fun h' he hit hk => wpAny_pyIter_enum he ?_
    exact ⟨s1.heap.objs.size + 1, [s1.heap.objs.size + 1, s1.heap.objs.size], _, _, H1, rfl, I1.kept (t' := s1.toks) hk, turn_enumT a (s1.heap.objs.size + 1) s1.heap.objs.size xs, ⟨⟨.none, he⟩, ⟨_, hit, rfl, rfl⟩, Nat.succ_ne_self _, Nat.ne_of_lt ha1, Nat.ne_of_lt (Nat.lt_succ_of_lt ha1)⟩, fun b hb => I1.fpOk (two b hb) (I1.hok.fresh (two b hb)), q _ (walk_weaken (fun H' z => z.2 hq) walk_enumT)⟩
/-- a tracked list or tuple -/
def Mach (H : Hp) (a : Addr) (xs : List V) : Prop := H a = some (.lst xs) ∨ H a = some (.tup xs)
theorem Mach.same {H H' : Hp} {a : Addr} {xs : List V} (h : Mach H a xs) (s : Same H H') : Mach H' a xs := h.elim (fun z => .inl (s _ _ z)) fun z => .inr (s _ _ z)
theorem Mach.but {H H' : Hp} {p a : Addr} {xs : List V} (h : Mach H a xs) (b : But p H H') (n : a ≠ p) : Mach H' a xs := h.elim (fun z => .inl (b _ _ z n)) fun z => .inr (b _ _ z n)
theorem Mach.sq {K : PySem.W.Frag} {H : Hp} {a : Addr} {xs : List V} (h : Mach H a xs) : SqL K H a xs ∨ SqT K H a xs := h.elim (fun z => .inl (SqL.of z)) fun z => .inr (SqT.of z)
theorem Mach.stay {K : PySem.W.Frag} {H H' : Hp} {a : Addr} {xs : List V} (s : Same H H') : StayE K a xs H H' := StayE.same s
theorem Mach.stayAt {K : PySem.W.Frag} {H H1 H' : Hp} {a : Addr} {xs : List V} (h : Mach H a xs) (s1 : Same H H1) (s2 : Same H H') : StayE K a xs H1 H' := by
  rcases h with h | h
  · refine ⟨fun _ => SqL.of (s2 _ _ h), fun z => ?_⟩
    have e1 := s1 _ _ h
    rcases z with (z | ⟨o, z⟩) | z
    · rw [e1] at z
      cases z
    · rw [e1] at z
      cases z
    · exact .inr z
  · refine ⟨fun z => ?_, fun _ => SqT.of (s2 _ _ h)⟩
    have e1 := s1 _ _ h
    rcases z with (z | ⟨o, z⟩) | z
    · rw [e1] at z
      cases z
    · rw [e1] at z
      cases z
    · exact .inr z
theorem Mach.ne {H : Hp} {a e : Addr} {xs : List V} {D dx : Addr} {fs : List (Str × V)} (h : Mach H a xs) (g : H e = some (.ins D dx fs)) : a ≠ e := h.elim (fun z => ne_of z g (by intro q; cases q)) fun z => ne_of z g (by intro q; cases q)
/-- tuple(e), e a tracked list or tuple -/
def rTupleM : List V → Hp → VK → Prop := fun xs H Q => ∃ (p : Addr) (ys : List V), xs = [.ref p] ∧ Mach H p ys ∧ ∀ (t : Addr) (H' : Hp), Same H H' → H' t = some (.tup ys) → Q (.ref t) H'
theorem call_tupleM {X : Cx} : CallR X (.type "tuple") rTupleM := fun pins s σ H xs us Q I r h => by
  obtain ⟨p, ys, e, m, q⟩ := h
  refine call_tuple_of pins s σ H xs us Q I r ⟨p, ys, e, ?_⟩
  rcases m with m | m
  · exact .inl ⟨SqL.of m, fun t ht => q t _ (Sb.Same.upd ht) upd_same⟩
  · exact .inr ⟨SqT.of m, q p H (Same.refl _) m⟩
end Sb

set_option Elab.async false
set_option linter.all false
set_option maxRecDepth 100000
set_option maxHeartbeats 2000000
/-! Sbi: an own __iter__ that hands out a tuple's iterator. -/
namespace Sb
open PySem PySem.Spec PyProof.Rows L2
/-- at it an iterator over the tuple at a, at its i-th place -/
def TiO (a it : Addr) (i : Nat) : HO := .ext fun h => h.IsTupleIter it a i
theorem tiO_ok {P : Program} {w : World} {H : Hp} {h : Heap} {a it : Addr} {i : Nat} (e : h.IsTupleIter it a i) : ObjOk P w H h it (TiO a it i) :=
  ⟨e, let ⟨o, z, _⟩ := e; ⟨o, z⟩, fun h1 h2 q k => q.at fun o z => k o z⟩
/-- iter(e), e a tuple -/
def rIterT (K : PySem.W.Frag) (n : Nat) : List V → Hp → VK → Prop := fun xs H Q => ∃ (a : Addr) (zs : List V), xs = [.ref a] ∧ SqT K H a zs ∧ ∀ it, H it = none → n ≤ it → Q (.ref it) (upd H it (TiO a it 0))
theorem call_iterT {X : Cx} : CallR X (.builtin "iter") (rIterT X.K X.s_0.heap.objs.size) := by
  intro pins s σ H xs us Q I r h
  obtain ⟨a, zs, rfl, hq, q⟩ := h
  obtain ⟨u, rfl, ru⟩ := vals1 r
  cases (show u = Value.ref a from ru)
  obtain ⟨its, rv, tp, hz⟩ := I.tuple hq
  refine Calls.call_function_entry (by decide +kernel) (by decide +kernel) PySem.W.kdk_entry_iter (PySem.W.kdk_args_iter _) ?_
  unfold Builtin.«iter»
  refine wpAny_bind (m := someArgs "iter" 1 2 _) (wpAny_of_eq (a := [Value.ref a]) (by first | rfl | kernel_rfl!) ?_)
  show wpAny _ _ (pyIter (.ref a) >>= _) _ _ _
  refine wpAny_bind (wpAny_pyIter_tuple tp (wpAny_pure ⟨_, rfl, ?_⟩))
  exact ⟨.ref s.heap.objs.size, _, I.laid (t' := s.toks) (fun b u e => Heap.get?_push_of_some _ e) (Nat.le_refl _) (tiO_ok ⟨_, Heap.get?_push_size _ rfl, rfl, rfl⟩), rfl, q _ (I.hok.fresh (Nat.le_refl _)) I.sz⟩
/-- what a def keeps, by the size of the heap it comes to -/
structure FnN (P : Program) (w : World) (K : PySem.W.Frag) (mg : Str → Option Value) (base : Heap) (CX : CXT) (k : Nat) (f : Addr) (fd : FuncData) (ps : List Str) (sp : Nat → Sp) : Prop where
  size : ∀ n xs H Q E, sp n xs H Q E → xs.length = ps.length
  go : ∀ (A : Around) (st : List Env) (s : Shared) (H : Hp) (args : Args) (us : List Value) (xs : List V) (Q : VK) (E : XK), Room k A → Env0 P w K mg base A st s H → BindsTo s fd args (ps.zip us) → Vals xs us → sp s.heap.objs.size xs H Q E →
    codeAny (model P w) A (.call (.ref f) args) (CR CX st P w H s Q E) s
theorem okN {P : Program} {w : World} {K : PySem.W.Frag} {mg : Str → Option Value} {base : Heap} {k : Nat} {f : Addr} {x qual : Str} {st : Stmt} {fd : FuncData} {N ps : List Str} {sp : Nat → Sp} (F : Fun K x qual st f fd) (Z : FnScope N ps (defScope st)) (size : ∀ n xs H Q E, sp n xs H Q E → xs.length = ps.length)
    (hb : ∀ (cdv : Value) (A : Around) (out : List Env) (s : Shared) (H : Hp) (xs : List V) (Q : VK) (E : XK), Room k (A.deeper (envOfC qual (defScope st) s.heap.objs.size f cdv)) → sp s.heap.objs.size xs H Q E →
      ∃ t, PSs (cxOf CX0 P w K mg base N qual (defScope st) f cdv A out s H E).nox (defBody st) t ∧ t { nx := fun _ H' => Q .non H', rt := Q } (start N xs) H) : FnN P w K mg base CX0 (k + 1) f fd ps sp := by
  obtain ⟨oc, od, kV, doc, pm, an, cdv, ct, osl, rfl, at_, cd_⟩ := F.ex
  refine ⟨size, fun A out s H args us xs Q E hr e0 bnd r hs => ?_⟩
  have hlen := size _ _ _ _ _ hs
  have inK : K.In s.heap := e0.mod.kin.keeps fun b o e => (e0.bs b o e).1
  have nol : s.heap.NoLimit := e0.mod.nolimit.keeps fun b o e => (e0.bs b o e).1
  refine codeAny_call_function hr.depth (inK _ _ at_) rfl Z.co Z.gen rfl (PySem.W.codeRec_of inK cd_) (bnd _ _ _ _ ?_)
  refine wpAny_newFunctionEnv_cells Z.kind (fun ⟨n, v⟩ hy => ?_) fun env he s1 x => ?_
  · rcases Z.par n (List.of_mem_zip hy).1 with q | q
    · exact .inl q
    · exact .inr ⟨q, PySem.W.cellsFrom_some _ _ _ (.inl q)⟩
  subst he
  refine ⟨nol.keeps x.toInCall.keep, codeAny_func ?_⟩
  obtain ⟨t, ht, hq⟩ := hb cdv A out s H xs Q E (hr.deeper _) hs
  have I : Inv (cxOf CX0 P w K mg base N qual (defScope st) f cdv A out s H E) [] (start N xs) H s1 := inv_start Z hr.hd e0 hlen r x
  refine wpAny_mono (ht.nox.run [] s1 (start N xs) H _ I hq) (fun fl s' z => ?_) fun e s' z => z
  match fl, z with
  | .ret u, ⟨v, σ', H', J, rv, q⟩ => exact ⟨v, H', J.os, J.bare, J.base, J.hok, rv, q⟩
  | .next, ⟨σ', H', J, q⟩ => exact ⟨V.non, H', J.os, J.bare, J.base, J.hok, rfl, q⟩
  | .brk, ⟨_, _, _, q⟩ => exact False.elim q
  | .cont, ⟨_, _, _, q⟩ => exact False.elim q
/-- x.__iter__(): an iterator over the tuple that one attribute holds -/
def spIterOf (K : PySem.W.Frag) (C : Addr) (fld : Str) : Nat → Sp := fun n vs H Q _ => ∃ (a dx t : Addr) (fs : List (Str × V)) (xs : List V), vs = [.ref a] ∧ H a = some (.ins C dx fs) ∧ fs.lookup fld = some (.ref t) ∧ SqT K H t xs ∧
  ∀ it, H it = none → n ≤ it → Q (.ref it) (upd H it (TiO t it 0))
/-- for x in e, e of an own class with such an __iter__ -/
def iOwn (K : PySem.W.Frag) (C : Addr) (fld : Str) (te : TE) : TI := fun σ H R => te σ H fun x H1 => ∃ (a dx t : Addr) (fs : List (Str × V)) (xs : List V), x = .ref a ∧ H1 a = some (.ins C dx fs) ∧ fs.lookup fld = some (.ref t) ∧ SqT K H1 t xs ∧ R (Itt K t) H1
theorem pi_own {X : Cx} {k : Nat} {C f : Addr} {fd : FuncData} {fld : Str} {tg e : Expr} {te : TE} (he : PE X e te) (M : Meth X.K C "__iter__" f) (F : FnN X.prog X.w X.K X.mg X.base CX0 k f fd ["self"] (spIterOf X.K C fld)) (hr : Room k X.A) (hb : Binds X.K fd ["self"] []) :
    PI X tg e (iOwn X.K C fld te) := by
  refine ⟨fun pins s σ H R I h => ?_⟩
  refine thn (he.run pins s σ H _ I h) fun u s1 ⟨x, H1, I1, r1, a, dx, t, fs, xs, ex, ea, el, et, q⟩ => ?_
  subst ex
  cases (show u = Value.ref a from r1)
  obtain ⟨mA, O, _⟩ := ins_get I1.hok ea
  obtain ⟨od, J, _⟩ := O.look
  obtain ⟨m, hF⟩ := I1.fr
  refine PySem.W.owit_iter hF I1.ok.mod.kin J M.at_ M.fn ?_
  have bnd := hb s1 [.ref a] I1.kIn rfl
  rw [List.append_nil] at bnd
  have run := F.go X.A X.stack s1 H1 ⟨[.ref a], []⟩ [.ref a] [.ref a] (fun v H2 => ∃ it, v = .ref it ∧ H1 it = none ∧ s1.heap.objs.size ≤ it ∧ H2 = upd H1 it (TiO t it 0)) E0 hr I1.env0 bnd (.cons rfl .nil)
    ⟨a, dx, t, fs, xs, rfl, ea, el, et, fun it n1 n2 => ⟨it, rfl, n1, n2, rfl⟩⟩
  refine wpAny_call (codeAny_mono run fun r s' hq => ?_)
  match r, hq with
  | .error er, hq => exact False.elim hq
  | .ok .next, hq => exact False.elim hq
  | .ok .brk, hq => exact False.elim hq
  | .ok .cont, hq => exact False.elim hq
  | .ok (.ret v), hq =>
    obtain ⟨v', H2, I2, rv, it, ev, n1, n2, eH⟩ := I1.after hq
    subst ev
    cases (show v = Value.ref it from rv)
    subst eH
    have st : s'.heap.IsTupleIter it t 0 := (I2.hok it _ upd_same).1
    show wpAny _ _ (specialOf (.ref it) "__next__") _ _ s'
    refine wpAny_specialOf st.typeIs PySem.F.slot_tuple_iterator_next.lookup ?_
    have Id := ItX.inv_drop I2 (φ := fun h => h.IsTupleIter it t 0) upd_same
    have fp := ItX.inv_fp I2 upd_same (Nat.le_trans I1.sz n2)
    rw [ItX.dropH_upd n1] at Id fp
    refine ⟨it, [it], _, Itt X.K t, H1, rfl, Id, turn_tuple t it, st, fun b hb => ?_, q⟩
    have e : b = it := by simpa using hb
    rw [e]
    exact fp
end Sb

set_option Elab.async false
set_option linter.all false
set_option maxRecDepth 100000
set_option maxHeartbeats 2000000
/-! Sbl: the end of a law that runs where no repr is under way. -/
namespace Sb
open PySem PySem.Spec PySem.Calls PyProof.Rows L2
section
variable {P : Program} {w : World} {K : PySem.W.Frag} {mg mb : Str → Option Value} {k : Nat} {fa a : Addr} {fd : FuncData} {x : Str} {sp : Sp} {sh : Shared} {us : List Value} {ns : List Int}
/-- what the law's call comes to -/
def Good (sh : Shared) (r : Result) (s' : Shared) : Prop := r = .ok (.ret (.bool true)) ∧ OldK sh.heap s'.heap ∧ s'.os = sh.os ∧ AllBare s'.gens
/-- from a heap in which nothing but the script may be tracked -/
theorem law_at (kin : K.In sh.heap) (gl : sh.heap.Ns mainGlobals mg) (bl : sh.heap.Ns builtinsNs mb) (bb : ∀ y : Str, y ≠ "__name__" → mb y = bootBuiltins y) (nol : sh.heap.NoLimit) (g0 : sh.gens = #[])
    (ea : sh.heap.get? a = some { cls := .type "list", data := .seq us.toArray }) (hr : Room k callerA)
    (F : ∀ b : Heap, K.In b → b.Ns mainGlobals mg → FnG P w K mg b CX0 k fa fd [x] sp) (bind1 : ∀ (s : Shared) (u : Value), BindsTo s fd ⟨[u], []⟩ [(x, u)])
    (T : Hp) (only : Only T) (law : sp [.ref a] T (fun v _ => v = .bl true) fun _ _ _ => False) (ok : HOk P w T sh.heap) (alone : ∀ c, T c ≠ none → c = a) (away : T a ≠ none → K.lookup a = none) :
    codeAny (model P w) callerA (.call (.ref fa) ⟨[.ref a], []⟩) (Good sh) sh := by
  have keep1 : ∀ {c : Addr} {o : Obj}, sh.heap.get? c = some o → T c = none → (hidT sh.heap T).get? c = some o := fun e n => hidT_get e n
  -- a namespace is not the script
  have free1 : ∀ {c : Addr} {o : Obj} {en : Array DictEntry} {m : Nat}, sh.heap.get? c = some o → o.data = .dict en m → T c = none := by
    intro c o en m e d
    rcases ht : T c with _ | u
    · rfl
    · obtain rfl : c = a := alone c (by rw [ht]; exact Option.some_ne_none u)
      rw [ea] at e
      cases e
      exact absurd (show Data.seq us.toArray _ = Data.dict en m from d) (by intro z; cases z)
  have nsT : ∀ {c : Addr} {m : Str → Option Value}, sh.heap.Ns c m → (hidT sh.heap T).Ns c m := by
    rintro c m ⟨o, en, n, e, d, rest⟩
    exact ⟨o, en, n, keep1 e (free1 e d), d, rest⟩
  have kinT : K.In (hidT sh.heap T) := by
    intro c o e
    refine keep1 (kin c o e) ?_
    rcases ht : T c with _ | u
    · rfl
    · have hn : T c ≠ none := by rw [ht]; exact Option.some_ne_none u
      obtain rfl : c = a := alone c hn
      rw [away hn] at e
      cases e
  have md : Mod K mg (hidT sh.heap T) := by
    obtain ⟨mc, q1, q2⟩ := nol
    exact ⟨kinT, nsT gl, ⟨mb, nsT bl, bb⟩, ⟨mc, nsT q1, q2⟩⟩
  have none1 : ∀ c : Addr, c ∉ ([] : List Addr) := fun c z => by cases z
  have env : Env0 P w K mg (hidT sh.heap T) callerA [] sh T := ⟨rfl, md, fun _ _ e => of_hidT e, Nat.le_of_eq (hidT_size _ _), trivial, fun c z => absurd z (none1 c), ok, .of_eq g0⟩
  have run := (F _ kinT (nsT gl)).go callerA [] sh T ⟨[.ref a], []⟩ [.ref a] [.ref a] _ _ rfl hr env (bind1 sh (.ref a)) (.cons rfl .nil) law
  refine codeAny_mono run fun r s' z => ?_
  match r, z with
  | .error e, z => exact (show False from z).elim
  | .ok .next, z => exact (show False from z).elim
  | .ok .brk, z => exact (show False from z).elim
  | .ok .cont, z => exact (show False from z).elim
  | .ok (.ret u), ⟨v, T', os, bare, un, ok', rv, q⟩ =>
    have q' : v = .bl true := q
    subst q'
    obtain rfl : u = Value.bool true := rv
    refine ⟨rfl, OldK.of_keep fun c o e => ?_, os, bare⟩
    rcases ht : T c with _ | h
    · exact un.keep c o e ht (none1 c) (none1 c)
    · rcases only c with z | ⟨ob, ys, z⟩
      · rw [ht] at z
        cases z
      · obtain ⟨z1, _⟩ := ok c _ z
        obtain ⟨z2, _⟩ := ok' c _ (un.frzs c ob _ z)
        rw [e] at z1
        cases z1
        exact z2
/-- the law's promise, at the heap behind the top -/
theorem lawG (kin : K.In sh.heap) (gl : sh.heap.Ns mainGlobals mg) (bl : sh.heap.Ns builtinsNs mb) (bb : ∀ y : Str, y ≠ "__name__" → mb y = bootBuiltins y) (nol : sh.heap.NoLimit) (g0 : sh.gens = #[])
    (ea : sh.heap.get? a = some { cls := .type "list", data := .seq us.toArray }) (inn : IntsAre us ns) (short : ns.length ≤ sizeLine) (hr : Room k callerA)
    (F : ∀ b : Heap, K.In b → b.Ns mainGlobals mg → FnG P w K mg b CX0 k fa fd [x] sp) (bind1 : ∀ (s : Shared) (u : Value), BindsTo s fd ⟨[u], []⟩ [(x, u)])
    (law : ∀ T : Hp, Only T → SqL K T a (ns.map V.int) → sp [.ref a] T (fun v _ => v = .bl true) fun _ _ _ => False) :
    codeAny (model P w) callerA (.call (.ref fa) ⟨[.ref a], []⟩) (Good sh) sh := by
  have rv := vals_ints inn
  have len := inn.length
  rcases hk : K.lookup a with _ | o
  · have on : Only (fun c => if c = a then some (.frz { cls := .type "list", data := .seq us.toArray } (.lst (ns.map V.int))) else none) := fun c => by
      by_cases e : c = a
      · exact .inr ⟨_, _, if_pos e⟩
      · exact .inl (if_neg e)
    refine law_at kin gl bl bb nol g0 ea hr F bind1 _ on (law _ on (.inl (.inr ⟨_, if_pos rfl⟩))) (fun c u z => ?_) (fun c z => ?_) fun _ => hk
    · by_cases e : c = a
      · have z' := (if_pos e).symm.trans z
        cases z'
        subst e
        exact ⟨ea, by rw [List.length_map]; exact short, us, _, rv, ea⟩
      · have z' := (if_neg e).symm.trans z
        cases z'
    · by_cases e : c = a
      · exact e
      · exact absurd (if_neg e) z
  · have e := kin a o hk
    rw [ea] at e
    cases e
    have on : Only (fun _ => none) := fun _ => .inl rfl
    exact law_at kin gl bl bb nol g0 ea hr F bind1 _ on (law _ on (.inr ⟨_, us.toArray, _, hk, rfl, rfl, rfl, by rw [List.size_toArray, len]; exact short, by simpa using rv⟩)) (fun c u z => by
      have z' : (none : Option HO) = some u := z
      cases z') (fun c z => absurd rfl z) fun z => absurd rfl z
end
/-- the goal that k_head leaves (case hc) -/
theorem walkG {l : PySem.W.OpenLaw} {n k : Nat} {q : Program} {loose : List Str} {XP : (Str → Option Value) → Heap → Prop} {YP : World → Heap → Prop} {d : DefRec} {K : Params → PySem.W.Frag} {sp : World → Sp} {x : Str}
    (most : l.most = some n) (small : n ≤ sizeLine) (plain : d.params.defaults = []) (hr : Room k callerA) (kin : ∀ (w : World) (h : Heap), YP w h → (K w.params).In h)
    (F : ∀ (w : World) (mg : Str → Option Value) (fa : Addr) (h : Heap), (K w.params).In h → h.Ns mainGlobals mg → mg d.name = some (.ref fa) →
      ∃ fd : FuncData, (∀ (s : Shared) (u : Value), BindsTo s fd ⟨[u], []⟩ [(x, u)]) ∧ ∀ b : Heap, (K w.params).In b → b.Ns mainGlobals mg → FnG l.prog w (K w.params) mg b CX0 k fa fd [x] (sp w))
    (law : ∀ (w : World) (T : Hp) (a : Addr) (ns : List Int), ns.length ≤ n → Only T → SqL (K w.params) T a (ns.map V.int) → sp w [.ref a] T (fun v _ => v = .bl true) fun _ _ _ => False) :
    PySem.W.WalkO q loose XP YP l.row.toRowW d [] (fun f vs => PySem.call f vs) :=
  Att.attach_call most plain fun w s0 s1 mg mb fa o pm cd doc a us ns G Y _ _ _ name ea inn len g0 => by
    have kx := kin w _ Y
    obtain ⟨fd, b1, hF⟩ := F w mg fa _ kx G.T.g name
    exact lawG kx G.T.g G.T.b G.T.builtins G.T.nolimit g0 ea inn (Nat.le_trans len small) hr hF b1 fun T on sq => law w T a ns len on sq
end Sb

set_option Elab.async false
set_option linter.all false
set_option maxRecDepth 100000
set_option maxHeartbeats 2000000
namespace K01
open PySem L2 Sb
def top (i : Nat) : Stmt := PySem.Challenge.pw_strongbit_k01_ends_made.main.body.getD i (.Pass ⟨0, 0, 0, 0⟩)
abbrev sBadEnd_init : Stmt := inClass (top 2) 0
theorem scBadEnd_init : FnScope ["self", "part", "row"] ["self", "part", "row"] (defScope sBadEnd_init) := ⟨rfl, rfl, rfl, by decide +kernel, rfl, by decide +kernel, by decide +kernel⟩
abbrev sis_number : Stmt := top 6
theorem scis_number : FnScope ["value"] ["value"] (defScope sis_number) := ⟨rfl, rfl, rfl, by decide +kernel, rfl, by decide +kernel, by decide +kernel⟩
abbrev sis_follower : Stmt := top 7
theorem scis_follower : FnScope ["value", "size", "words"] ["value", "size", "words"] (defScope sis_follower) := ⟨rfl, rfl, rfl, by decide +kernel, rfl, by decide +kernel, by decide +kernel⟩
abbrev sis_row : Stmt := top 8
theorem scis_row : FnScope ["value", "size", "words", "put", "on_strong", "on_weak"] ["value", "size", "words"] (defScope sis_row) := ⟨rfl, rfl, rfl, by decide +kernel, rfl, by decide +kernel, by decide +kernel⟩
abbrev sreached : Stmt := top 9
theorem screached : FnScope ["rows", "begin", "found", "ahead", "place", "follower"] ["rows", "begin"] (defScope sreached) := ⟨rfl, rfl, rfl, by decide +kernel, rfl, by decide +kernel, by decide +kernel⟩
abbrev scheck_machine : Stmt := top 13
theorem sccheck_machine : FnScope ["part", "machine", "fewest", "most", "words", "index", "row"] ["part", "machine", "fewest", "most", "words"] (defScope scheck_machine) := ⟨rfl, rfl, rfl, by decide +kernel, rfl, by decide +kernel, by decide +kernel⟩
abbrev snumbered_rows : Stmt := top 14
theorem scnumbered_rows : FnScope ["part", "machine", "index", "row"] ["part", "machine"] (defScope snumbered_rows) := ⟨rfl, rfl, rfl, by decide +kernel, rfl, by decide +kernel, by decide +kernel⟩
abbrev sEnd_init : Stmt := inClass (top 15) 1
theorem scEnd_init : FnScope ["self", "hearer", "sender"] ["self", "hearer", "sender"] (defScope sEnd_init) := ⟨rfl, rfl, rfl, by decide +kernel, rfl, by decide +kernel, by decide +kernel⟩
abbrev sEnd_hearer : Stmt := inClass (top 15) 3
theorem scEnd_hearer : FnScope ["self"] ["self"] (defScope sEnd_hearer) := ⟨rfl, rfl, rfl, by decide +kernel, rfl, by decide +kernel, by decide +kernel⟩
abbrev sEnd_sender : Stmt := inClass (top 15) 4
theorem scEnd_sender : FnScope ["self"] ["self"] (defScope sEnd_sender) := ⟨rfl, rfl, rfl, by decide +kernel, rfl, by decide +kernel, by decide +kernel⟩
abbrev sEnd_eq : Stmt := inClass (top 15) 5
theorem scEnd_eq : FnScope ["self", "other"] ["self", "other"] (defScope sEnd_eq) := ⟨rfl, rfl, rfl, by decide +kernel, rfl, by decide +kernel, by decide +kernel⟩
abbrev sEnd_len : Stmt := inClass (top 15) 6
theorem scEnd_len : FnScope ["self"] ["self"] (defScope sEnd_len) := ⟨rfl, rfl, rfl, by decide +kernel, rfl, by decide +kernel, by decide +kernel⟩
abbrev sEnd_repr : Stmt := inClass (top 15) 7
theorem scEnd_repr : FnScope ["self"] ["self"] (defScope sEnd_repr) := ⟨rfl, rfl, rfl, by decide +kernel, rfl, by decide +kernel, by decide +kernel⟩
abbrev sEnd_iter : Stmt := inClass (top 15) 9
theorem scEnd_iter : FnScope ["self"] ["self"] (defScope sEnd_iter) := ⟨rfl, rfl, rfl, by decide +kernel, rfl, by decide +kernel, by decide +kernel⟩
abbrev smachine_text : Stmt := top 11
theorem scmachine_text : FnScope ["rows", "put", "on_strong", "on_weak"] ["rows"] (defScope smachine_text) := ⟨rfl, rfl, rfl, by decide +kernel, rfl, by decide +kernel, by decide +kernel⟩
abbrev sEnd_str : Stmt := inClass (top 15) 8
theorem scEnd_str : FnScope ["self"] ["self"] (defScope sEnd_str) := ⟨rfl, rfl, rfl, by decide +kernel, rfl, by decide +kernel, by decide +kernel⟩
abbrev sL_bag : Stmt := top 17
theorem scL_bag : FnScope ["_law_script", "_law_at", "_law_cell", "_law_great"] ["_law_script", "_law_at"] (defScope sL_bag) := ⟨rfl, rfl, rfl, by decide +kernel, rfl, by decide +kernel, by decide +kernel⟩
abbrev sL_take : Stmt := top 18
theorem scL_take : FnScope ["_law_bag_here", "_law_many", "_law_digit", "_law_mixed"] ["_law_bag_here", "_law_many"] (defScope sL_take) := ⟨rfl, rfl, rfl, by decide +kernel, rfl, by decide +kernel, by decide +kernel⟩
abbrev sL_place : Stmt := top 19
theorem scL_place : FnScope ["_law_bag_here", "_law_many", "_law_words", "_law_way"] ["_law_bag_here", "_law_many", "_law_words"] (defScope sL_place) := ⟨rfl, rfl, rfl, by decide +kernel, rfl, by decide +kernel, by decide +kernel⟩
abbrev sL_rows : Stmt := top 20
theorem scL_rows : FnScope ["_law_bag_here", "_law_many", "_law_words", "_law_k"] ["_law_bag_here", "_law_many", "_law_words"] (defScope sL_rows) := ⟨rfl, rfl, rfl, by decide +kernel, rfl, by decide +kernel, by decide +kernel⟩
abbrev sL_led : Stmt := top 21
theorem scL_led : FnScope ["_law_rows_here", "_law_first", "_law_found", "_law_at", "_law_place_here"] ["_law_rows_here", "_law_first"] (defScope sL_led) := ⟨rfl, rfl, rfl, by decide +kernel, rfl, by decide +kernel, by decide +kernel⟩
abbrev sL_hearer : Stmt := top 22
theorem scL_hearer : FnScope ["_law_bag_here", "_law_many", "_law_rows_here", "_law_at", "_law_put", "_law_strong", "_law_weak"] ["_law_bag_here", "_law_many"] (defScope sL_hearer) := ⟨rfl, rfl, rfl, by decide +kernel, rfl, by decide +kernel, by decide +kernel⟩
abbrev sL_sender : Stmt := top 23
theorem scL_sender : FnScope ["_law_bag_here", "_law_many"] ["_law_bag_here", "_law_many"] (defScope sL_sender) := ⟨rfl, rfl, rfl, by decide +kernel, rfl, by decide +kernel, by decide +kernel⟩
abbrev sL_listed : Stmt := top 24
theorem scL_listed : FnScope ["_law_end", "_law_part"] ["_law_end"] (defScope sL_listed) := ⟨rfl, rfl, rfl, by decide +kernel, rfl, by decide +kernel, by decide +kernel⟩
abbrev sL_due : Stmt := top 25
theorem scL_due : FnScope ["_law_ears", "_law_mouth", "_law_found", "_law_index", "_law_row"] ["_law_ears", "_law_mouth"] (defScope sL_due) := ⟨rfl, rfl, rfl, by decide +kernel, rfl, by decide +kernel, by decide +kernel⟩
abbrev sL_right : Stmt := top 26
theorem scL_right : FnScope ["_law_end", "_law_ears", "_law_mouth", "_law_due_here"] ["_law_end", "_law_ears", "_law_mouth"] (defScope sL_right) := ⟨rfl, rfl, rfl, by decide +kernel, rfl, by decide +kernel, by decide +kernel⟩
abbrev sL_changed : Stmt := top 27
theorem scL_changed : FnScope ["_law_bag_here", "_law_rows_here", "_law_at", "_law_row"] ["_law_bag_here", "_law_rows_here"] (defScope sL_changed) := ⟨rfl, rfl, rfl, by decide +kernel, rfl, by decide +kernel, by decide +kernel⟩
abbrev slaw : Stmt := top 28
theorem sclaw : FnScope ["_law_script", "_law_k", "_law_bag_here", "_law_turn", "_law_ears", "_law_mouth", "_law_one", "_law_other", "_law_end"] ["_law_script"] (defScope slaw) := ⟨rfl, rfl, rfl, by decide +kernel, rfl, by decide +kernel, by decide +kernel⟩
/-- the names that the top leaves to the built-in ones -/
structure Txt (K : PySem.W.Frag) (mg : Str → Option Value) : Prop where
  b_int : mg "int" = none
  b_len : mg "len" = none
  b_abs : mg "abs" = none
  b_isinstance : mg "isinstance" = none
  b_bool : mg "bool" = none
  b_str : mg "str" = none
  b_tuple : mg "tuple" = none
  b_list : mg "list" = none
  b_enumerate : mg "enumerate" = none
  b_range : mg "range" = none
  b_max : mg "max" = none
  b_min : mg "min" = none
  b_repr : mg "repr" = none
  b_iter : mg "iter" = none
end K01

set_option Elab.async false
set_option linter.all false
set_option maxRecDepth 100000
set_option maxHeartbeats 4000000
namespace K01
open PySem L2 Sb
variable {P : Program} {w : World} {K : PySem.W.Frag} {mg : Str → Option Value} {base : Heap}
theorem ok_take {f : Addr} {fd : FuncData} (F : Fun K "_law_take" "_law_take" sL_take f fd) (T : Txt K mg) : FnOk P w K mg base CX0 1 f fd ["_law_bag_here", "_law_many"] spTake := by
  refine F.ok scL_take (fun vs H Q E h => ?_) (fun cdv A outer s H vs Q E hr h => ?_)
  · obtain ⟨p, n, m, rfl, _⟩ := h
    rfl
  · obtain ⟨p, n, m, rfl, ⟨g, b, c, e, g0, b0, b1, c0, c1⟩, hn, m0, m1, k⟩ := h
    refine ⟨_, (pss_cons (ps_if (pt_cmpR op_gt (pe_ix ix_list (pv 0) pe_int (fun _ _ => rfl)) pe_int (nomark _)) (pss_cons (ps_set (i := 2) scL_take.nd rfl (Or.inl rfl) (pe_op op_mod (pe_callTy call_int1 (by rfl) T.b_int (by decide +kernel) (pa_cons (pe_ix ix_list (pv 0) pe_int (fun _ _ => rfl)) pa_nil)) (pv 1)))
  (pss_cons (ps_asg (pe_op op_fdiv (pe_ix ix_list (pv 0) pe_int (fun _ _ => rfl)) (pv 1)) (pg_sub (pv 0) pe_int set_list))
  (pss_one (ps_ret (pv 2))))) pss_nil)
  (pss_cons (ps_asg (pe_op op_add (pe_ix ix_list (pv 0) pe_int (fun _ _ => rfl)) pe_int) (pg_sub (pv 0) pe_int set_list))
  (pss_cons (ps_set (i := 3) scL_take.nd rfl (Or.inl rfl) (pe_op op_mod (pe_callTy call_int1 (by rfl) T.b_int (by decide +kernel) (pa_cons (pe_op Sb.op_powB (pe_op op_add (pe_ix ix_list (pv 0) pe_int (fun _ _ => rfl)) (pe_op op_mul pe_int (pe_ix ix_list (pv 0) pe_int (fun _ _ => rfl)))) pe_int) pa_nil)) pe_int))
  (pss_cons (ps_set (i := 3) scL_take.nd rfl (Or.inl rfl) (pe_op op_mod (pe_callTy call_int1 (by rfl) T.b_int (by decide +kernel) (pa_cons (pe_op Sb.op_powB (pe_op op_add (pv 3) (pe_op op_mul pe_int (pe_ix ix_list (pv 0) pe_int (fun _ _ => rfl)))) pe_int) pa_nil)) pe_int))
  (pss_one (ps_ret (pe_op op_mod (pe_op op_fdiv (pv 3) pe_int) (pv 1)))))))), ?_⟩
    refine ⟨_, rfl, p, _, 0, _, rfl, rfl, SqL.of e, at3.1, _, _, rfl, rfl, _, rfl, ?_⟩
    refine ite2 (fun hg => ?_) (fun hg => ?_)
    · refine ⟨_, rfl, p, _, 0, _, rfl, rfl, SqL.of e, at3.1, .inl ⟨_, rfl, ?_⟩⟩
      have gp : 0 < g := of_decide_eq_true hg
      refine ⟨_, rfl, _, _, rfl, rfl, m0, ?_⟩
      refine ⟨_, rfl, p, _, 0, _, rfl, rfl, SqL.of e, at3.1, _, rfl, _, _, rfl, rfl, ⟨m0, m1⟩, _, rfl, p, _, 0, 0, rfl, rfl, e, rfl, ?_⟩
      refine ⟨_, rfl, k _ _ (Int.emod_nonneg _ (by omega)) (Int.emod_lt_of_pos _ m0) ⟨g / m, b, c, upd_same, Int.ediv_nonneg g0 (by omega), b0, b1, c0, by omega⟩ But.upd⟩
    · refine ⟨_, rfl, p, _, 2, _, rfl, rfl, SqL.of e, at3.2.2, _, _, rfl, rfl, _, rfl, p, _, 2, 2, rfl, rfl, e, rfl, ?_⟩
      generalize eh : upd H p _ = H1
      have e1 : H1 p = some (.lst [.int g, .int b, .int (c + 1)]) := by rw [← eh]; exact upd_same
      have s1 : But p H H1 := by rw [← eh]; exact But.upd
      have z1 : (b + 1000003 * (c + 1)).natAbs < 2 ^ 101 := by
        have : (2 : Int) ^ 100 = 1267650600228229401496703205376 := by decide
        have : (2 : Nat) ^ 101 = 2535301200456458802993406410752 := by decide
        omega
      refine ⟨_, rfl, p, _, 1, _, rfl, rfl, SqL.of e1, at3.2.1, _, rfl, p, _, 2, _, rfl, rfl, SqL.of e1, at3.2.2, _, _, rfl, rfl, .inl ⟨by decide, by decide⟩, _, _, rfl, rfl, _, _, rfl, rfl, pow_fits z1 (by decide) (by decide), .inl ⟨_, rfl, ?_⟩⟩
      refine ⟨_, _, rfl, rfl, (by show (0 : Int) < 2305843009213693921; decide), ?_⟩
      have z2 : ((b + 1000003 * (c + 1)) ^ Int.toNat 3 % 2305843009213693921 + 179424673 * (c + 1)).natAbs < 2 ^ 63 := by
        generalize eu : (b + 1000003 * (c + 1)) ^ Int.toNat 3 % 2305843009213693921 = u
        have u0 : 0 ≤ u := by rw [← eu]; exact Int.emod_nonneg _ (by decide)
        have u1 : u < 2305843009213693921 := by rw [← eu]; exact Int.emod_lt_of_pos _ (by decide)
        have : (2 : Nat) ^ 63 = 9223372036854775808 := by decide
        omega
      refine ⟨_, rfl, _, rfl, p, _, 2, _, rfl, rfl, SqL.of e1, at3.2.2, _, _, rfl, rfl, .inl ⟨by decide, by decide⟩, _, _, rfl, rfl, _, _, rfl, rfl, pow_fits z2 (by decide) (by decide), .inl ⟨_, rfl, ?_⟩⟩
      refine ⟨_, _, rfl, rfl, (by show (0 : Int) < 2305843009213693951; decide), ?_⟩
      refine ⟨_, rfl, _, _, rfl, rfl, ⟨by decide, by decide⟩, _, rfl, _, _, rfl, rfl, m0, ?_⟩
      exact k _ _ (Int.emod_nonneg _ (by omega)) (Int.emod_lt_of_pos _ m0) ⟨g, b, c + 1, e1, g0, b0, b1, by omega, by omega⟩ s1

end K01

set_option Elab.async false
set_option linter.all false
set_option maxRecDepth 100000
set_option maxHeartbeats 4000000
namespace K01
open PySem L2 Sb
variable {P : Program} {w : World} {K : PySem.W.Frag} {mg : Str → Option Value} {base : Heap}
/-- bag(script, at): a new bag -/
def spBag (K : PySem.W.Frag) : Sp := fun vs H Q _ => ∃ (a : Addr) (ns : List Int) (i : Nat), vs = [.ref a, .int i] ∧ SqL K H a (ns.map V.int) ∧ i ≤ 100 ∧ ns.length ≤ 63 ∧
  ∀ (H' : Hp) (p : Addr), H p = none → Same H H' → Bag H' p 0 → Q (.ref p) H'
theorem ok_bag {f : Addr} {fd : FuncData} (F : Fun K "_law_bag" "_law_bag" sL_bag f fd) (T : Txt K mg) : FnOk P w K mg base CX0 1 f fd ["_law_script", "_law_at"] (spBag K) := by
  refine F.ok scL_bag (fun vs H Q E h => ?_) (fun cdv A outer s H vs Q E hr h => ?_)
  · obtain ⟨a, ns, i, rfl, _⟩ := h
    rfl
  · obtain ⟨a, ns, i, rfl, hS, hi, hn, k⟩ := h
    refine ⟨_, (C8.pss_cut (ps_set (i := 2) scL_bag.nd rfl (Or.inl rfl) (pe_ifExp (pt_cmpR op_lt (pv 1) (pe_callB call_len_seq (by rfl) T.b_len (by decide +kernel) (pa_cons (pv 0) pa_nil)) (nomark _)) (pe_ix ix_list (pv 0) (pv 1) (fun _ _ => rfl)) pe_int))
  (C8.pss_cut (ps_set (i := 3) scL_bag.nd rfl (Or.inl rfl) (pe_ifExp (pt_cmpR op_ge (pe_callB call_abs (by rfl) T.b_abs (by decide +kernel) (pa_cons (pv 2) pa_nil)) (pe_op Sb.op_powB pe_int pe_int) (nomark _)) (pe_callB call_abs (by rfl) T.b_abs (by decide +kernel) (pa_cons (pv 2) pa_nil)) pe_int))
  (pss_one (ps_ret (pe_lst (pa_cons (pv 3) (pa_cons (pe_op op_add (pe_op op_add (pe_op op_mul (pe_op op_mod (pe_callTy call_int1 (by rfl) T.b_int (by decide +kernel) (pa_cons (pv 2) pa_nil)) pe_int) pe_int) (pe_op op_mul pe_int (pv 1))) pe_int) (pa_cons pe_int pa_nil)))))))), ?_⟩
    refine ⟨fun σ' H' => ∃ z : Int, σ' = [some (.ref a), some (.int i), some (.int z), none] ∧ H' = H, ?_, ?_⟩
    · refine ⟨_, rfl, _, rfl, a, _, rfl, .inl hS, _, _, rfl, rfl, _, rfl, ?_⟩
      refine ite2 (fun hc => ?_) (fun hc => ?_)
      · have hc' : (i : Int) < ((ns.map V.int).length : Nat) := of_decide_eq_true hc
        have hl : i < ns.length := by
          rw [List.length_map] at hc'
          omega
        exact ⟨_, rfl, _, rfl, a, _, _, .int ns[i], rfl, rfl, hS, atI_nat (by simp [hl]), ns[i], rfl, rfl⟩
      · exact ⟨0, rfl, rfl⟩
    · rintro σ' H' ⟨z, rfl, rfl⟩
      refine ⟨fun σ' H1 => ∃ g : Int, 0 ≤ g ∧ σ' = [some (.ref a), some (.int i), some (.int z), some (.int g)] ∧ H1 = H', ?_, ?_⟩
      · refine ⟨_, rfl, _, rfl, _, _, rfl, rfl, pow_fits (k := 10) (by decide) (by decide) (by decide), _, _, rfl, rfl, _, rfl, ?_⟩
        refine ite2 (fun hc => ?_) (fun hc => ?_)
        · exact ⟨_, rfl, _, rfl, _, by split <;> omega, rfl, rfl⟩
        · exact ⟨0, by omega, rfl, rfl⟩
      · rintro σ' H1 ⟨g, hg, rfl, rfl⟩
        have y0 : 0 ≤ z % 2305843009213693951 := Int.emod_nonneg _ (by decide)
        have y1 : z % 2305843009213693951 < 2305843009213693951 := Int.emod_lt_of_pos _ (by decide)
        refine ⟨_, rfl, _, rfl, .inl ⟨_, rfl, _, _, rfl, rfl, (by show (0 : Int) < 2305843009213693951; decide), _, _, rfl, rfl, .inr ⟨by decide, by decide⟩, _, rfl, _, _, rfl, rfl, .inl ⟨by decide, by decide⟩, _, _, rfl, rfl, _, _, rfl, rfl, (by show 3 ≤ sizeLine; decide), fun p hp => ?_⟩⟩
        refine k _ p hp (Sb.Same.upd hp) ⟨g, _, 0, upd_same, hg, ?_, ?_, by omega, by omega⟩
        · generalize z % 2305843009213693951 = y at *
          omega
        · have : (2 : Int) ^ 100 = 1267650600228229401496703205376 := by decide
          generalize z % 2305843009213693951 = y at *
          omega

end K01

set_option Elab.async false
set_option linter.all false
set_option maxRecDepth 100000
set_option maxHeartbeats 4000000
namespace K01
open PySem L2 Sb
variable {P : Program} {w : World} {K : PySem.W.Frag} {mg : Str → Option Value} {base : Heap}
/-- is_number(x): x an int or a text -/
def spNum : Sp := fun vs H Q _ => ∃ x : Pl, vs = [x.v] ∧ Q (.bl (match x with | .num _ => true | .word _ => false)) H
theorem ok_num {f : Addr} {fd : FuncData} (F : Fun K "is_number" "is_number" sis_number f fd) (T : Txt K mg) : FnOk P w K mg base CX0 1 f fd ["value"] spNum := by
  refine F.ok scis_number (fun vs H Q E h => ?_) (fun cdv A outer s H vs Q E hr h => ?_)
  · obtain ⟨x, rfl, _⟩ := h
    rfl
  · obtain ⟨x, rfl, k⟩ := h
    refine ⟨_, (pss_one (ps_ret (pe_and (pe_callB call_isi (by rfl) T.b_isinstance (by decide +kernel) (pa_cons (pv 0) (pa_cons (pe_bltn (v := .ty "int") (by rfl) T.b_int (by decide +kernel) rfl) pa_nil))) (pe_one (pe_not (pe_callB call_isi (by rfl) T.b_isinstance (by decide +kernel) (pa_cons (pv 0) (pa_cons (pe_bltn (v := .ty "bool") (by rfl) T.b_bool (by decide +kernel) rfl) pa_nil)))))))), ?_⟩
    cases x with
    | num n =>
      refine ⟨_, rfl, _, _, _, _, true, rfl, .ty _, .base (.int _), kit_ty (by decide +kernel), true, rfl, iteT ?_⟩
      exact ⟨_, rfl, _, _, _, _, false, rfl, .ty _, .base (.int _), kit_ty (by decide +kernel), false, rfl, k⟩
    | word z =>
      exact ⟨_, rfl, _, _, _, _, false, rfl, .ty _, .base (.str _), kit_ty (by decide +kernel), false, rfl, iteF k⟩

end K01

set_option Elab.async false
set_option linter.all false
set_option maxRecDepth 100000
set_option maxHeartbeats 4000000
namespace K01
open PySem L2 Sb
variable {P : Program} {w : World} {K : PySem.W.Frag} {mg : Str → Option Value} {base : Heap}
/-- is_follower(x, size, words) -/
def spFol (K : PySem.W.Frag) : Sp := fun vs H Q _ => ∃ (x : Pl) (n : Nat) (wa : Addr) (ws : List Str), vs = [x.v, .int n, .ref wa] ∧ SqT K H wa (ws.map V.str) ∧ Q (.bl (decide (x.Ok n ws))) H
theorem inV_str {z : Str} {ws : List Str} : inV (.str z) (ws.map V.str) = decide (z ∈ ws) := by
  unfold inV
  induction ws with
  | nil => rfl
  | cons y r ih =>
    rw [List.map_cons, List.any_cons, ih]
    show ((y == z) || decide (z ∈ r)) = decide (z ∈ y :: r)
    by_cases h : y = z
    · subst h
      simp
    · have h1 : (y == z) = false := by simpa using h
      have h2 : ¬ z = y := fun e => h e.symm
      rw [h1, Bool.false_or]
      simp [h2]
theorem flat_strs : ∀ ws : List Str, (ws.map V.str).all flatV = true
  | [] => rfl
  | _ :: r => flat_strs r
theorem ok_fol {f fN : Addr} {fd fdN : FuncData} (F : Fun K "is_follower" "is_follower" sis_follower f fd) (T : Txt K mg) (G_is_number : Fx P w K mg base CX0 1 "is_number" fN fdN ["value"] spNum) :
    FnOk P w K mg base CX0 2 f fd ["value", "size", "words"] (spFol K) := by
  refine F.ok scis_follower (fun vs H Q E h => ?_) (fun cdv A outer s H vs Q E hr h => ?_)
  · obtain ⟨x, n, wa, ws, rfl, _⟩ := h
    rfl
  · obtain ⟨x, n, wa, ws, rfl, hw, k⟩ := h
    refine ⟨_, (pss_cons (ps_if (pt_val (pe_callB call_isi (by rfl) T.b_isinstance (by decide +kernel) (pa_cons (pv 0) (pa_cons (pe_bltn (v := .ty "str") (by rfl) T.b_str (by decide +kernel) rfl) pa_nil)))) (pss_one (ps_ret (pe_cmpR op_in_seq (pv 0) (pv 2) (by rfl)))) pss_nil)
  (pss_one (ps_ret (pe_and (pe_call G_is_number.ok (hr.mono (by decide)) rfl G_is_number.mg G_is_number.kp G_is_number.bd .nil pass0 (pa_cons (pv 0) pa_nil)) (pe_one (pe_chain op_le op_lt pe_int (pv 0) (pv 1))))))), ?_⟩
    cases x with
    | word z =>
      refine ⟨_, rfl, _, _, _, _, true, rfl, .ty _, .base (.str _), kit_ty (by decide +kernel), true, rfl, iteT ?_⟩
      refine ⟨_, rfl, _, rfl, wa, _, rfl, .inr hw, rfl, flat_strs ws, ?_⟩
      show Q (.bl (inV (.str z) (ws.map V.str))) H
      rw [inV_str]
      exact k
    | num m =>
      refine ⟨_, rfl, _, _, _, _, false, rfl, .ty _, .base (.int _), kit_ty (by decide +kernel), false, rfl, iteF ?_⟩
      refine ⟨_, rfl, .num m, rfl, true, rfl, iteT ?_⟩
      refine ⟨_, rfl, _, _, rfl, rfl, true, ?_, iteT ?_⟩
      · exact congrArg V.bl (decide_eq_true (by show (0 : Int) ≤ (m : Int); omega))
      · refine ⟨_, rfl, _, _, rfl, rfl, ?_⟩
        have e : decide ((m : Int) < (n : Int)) = decide ((Pl.num m).Ok n ws) := by
          show decide ((m : Int) < (n : Int)) = decide (m < n)
          rw [Bool.eq_iff_iff]
          simp
        show Q (.bl (decide ((m : Int) < (n : Int)))) H
        rw [e]
        exact k

end K01

set_option Elab.async false
set_option linter.all false
set_option maxRecDepth 100000
set_option maxHeartbeats 4000000
namespace K01
open PySem L2 Sb
variable {P : Program} {w : World} {K : PySem.W.Frag} {mg : Str → Option Value} {base : Heap}
/-- is_row(v, size, words) of a row -/
def spRow (K : PySem.W.Frag) : Sp := fun vs H Q _ => ∃ (v : V) (r : Row) (n : Nat) (wa : Addr) (ws : List Str), vs = [v, .int n, .ref wa] ∧ RowAt H v r ∧ SqT K H wa (ws.map V.str) ∧
  ∀ H', Same H H' → Q (.bl (decide (r.Ok n ws))) H'
theorem ok_row {f fN fF : Addr} {fd fdN fdF : FuncData} (F : Fun K "is_row" "is_row" sis_row f fd) (T : Txt K mg) (G_is_number : Fx P w K mg base CX0 1 "is_number" fN fdN ["value"] spNum)
    (G_is_follower : Fx P w K mg base CX0 2 "is_follower" fF fdF ["value", "size", "words"] (spFol K)) :
    FnOk P w K mg base CX0 3 f fd ["value", "size", "words"] (spRow K) := by
  refine F.ok scis_row (fun vs H Q E h => ?_) (fun cdv A outer s H vs Q E hr h => ?_)
  · obtain ⟨v, r, n, wa, ws, rfl, _⟩ := h
    rfl
  · obtain ⟨v, r, n, wa, ws, rfl, ⟨a, rfl, ha⟩, hw, k⟩ := h
    refine ⟨_, (pss_cons (ps_if (PW.pt (pw_or (pt_not (pt_val (pe_callB call_isi (by rfl) T.b_isinstance (by decide +kernel) (pa_cons (pv 0) (pa_cons (pe_bltn (v := .ty "tuple") (by rfl) T.b_tuple (by decide +kernel) rfl) pa_nil))))) (pw_or1 (pt_cmpR op_ne (pe_callB call_len_seq (by rfl) T.b_len (by decide +kernel) (pa_cons (pv 0) pa_nil)) pe_int (nomark _))))) (pss_one (ps_ret pe_bl)) pss_nil)
  (pss_cons (ps_asg (pv 0) (pg_tup rfl (pgs_cons (pg_name (i := 3) scis_row.nd rfl (Or.inl rfl)) (pgs_cons (pg_name (i := 4) scis_row.nd rfl (Or.inl rfl)) (pgs_cons (pg_name (i := 5) scis_row.nd rfl (Or.inl rfl)) pgs_nil)))))
  (pss_cons (ps_if (PW.pt (pw_or (pt_not (pt_val (pe_call G_is_number.ok (hr.mono (by decide)) rfl G_is_number.mg G_is_number.kp G_is_number.bd .nil pass0 (pa_cons (pv 3) pa_nil)))) (pw_or1 (pt_cmpR op_notIn_seq (pv 3) (pe_tup (pa_cons pe_int (pa_cons pe_int pa_nil))) (by rfl))))) (pss_one (ps_ret pe_bl)) pss_nil)
  (pss_one (ps_ret (pe_and (pe_call G_is_follower.ok (hr.mono (by decide)) rfl G_is_follower.mg G_is_follower.kp G_is_follower.bd .nil pass0 (pa_cons (pv 4) (pa_cons (pv 1) (pa_cons (pv 2) pa_nil)))) (pe_one (pe_call G_is_follower.ok (hr.mono (by decide)) rfl G_is_follower.mg G_is_follower.kp G_is_follower.bd .nil pass0 (pa_cons (pv 5) (pa_cons (pv 1) (pa_cons (pv 2) pa_nil))))))))))), ?_⟩
    refine ⟨_, rfl, _, _, _, _, true, rfl, .ty _, .base (.tup ha), kit_ty (by decide +kernel), true, rfl, iteF ?_⟩
    refine ⟨_, rfl, a, _, rfl, .inr (SqT.of ha), ?_⟩
    refine ⟨rfl, _, rfl, iteNS rfl ?_⟩
    refine ⟨_, rfl, a, _, rfl, SqT.of ha, rfl, _, _, rfl, _, _, rfl, _, _, rfl, rfl, ?_⟩
    refine ⟨_, rfl, .num r.put, rfl, true, rfl, iteF ?_⟩
    refine ⟨_, rfl, (by show 2 ≤ sizeLine; decide), fun p hp => ?_⟩
    generalize eh : upd H p _ = H1
    have s1 : Same H H1 := by rw [← eh]; exact Sb.Same.upd hp
    have ep : H1 p = some (.tup [.int 0, .int 1]) := by rw [← eh]; exact upd_same
    refine ⟨p, _, rfl, .inr (SqT.of ep), rfl, rfl, ?_⟩
    have ein : inV (V.int (r.put : Int)) [V.int 0, V.int 1] = decide (r.put = 0 ∨ r.put = 1) := by
      show (((0 : Int) == (r.put : Int)) || (((1 : Int) == (r.put : Int)) || false)) = _
      rw [Bool.eq_iff_iff]
      simp
      omega
    by_cases hput : r.put = 0 ∨ r.put = 1
    · rw [decide_eq_true hput] at ein
      refine ⟨false, congrArg (fun b => V.bl (!b)) ein, iteF ?_⟩
      have hw1 := sqT_same s1 hw
      refine ⟨_, rfl, _, rfl, _, rfl, r.a, n, wa, ws, rfl, hw1, _, rfl, ?_⟩
      refine ite2 (fun hc => ?_) (fun hc => ?_)
      · have ha1 : r.a.Ok n ws := of_decide_eq_true hc
        refine ⟨_, rfl, _, rfl, _, rfl, r.b, n, wa, ws, rfl, hw1, ?_⟩
        have e : decide (r.b.Ok n ws) = decide (r.Ok n ws) := by
          rw [Bool.eq_iff_iff]
          simp [Row.Ok, hput, ha1]
        rw [e]
        exact k _ s1
      · have ha1 : ¬ r.a.Ok n ws := fun z => hc (decide_eq_true z)
        have e : false = decide (r.Ok n ws) := by
          rw [Bool.eq_iff_iff]
          simp [Row.Ok, ha1]
        rw [e]
        exact k _ s1
    · rw [decide_eq_false hput] at ein
      refine ⟨true, congrArg (fun b => V.bl (!b)) ein, iteT ?_⟩
      have e : false = decide (r.Ok n ws) := by
        rw [Bool.eq_iff_iff]
        simp only [Row.Ok, hput]
        simp
      show Q (V.bl false) _
      rw [e]
      exact k _ s1

end K01

set_option Elab.async false
set_option linter.all false
set_option maxRecDepth 100000
set_option maxHeartbeats 4000000
namespace K01
open PySem L2 Sb
variable {P : Program} {w : World} {K : PySem.W.Frag} {mg : Str → Option Value} {base : Heap}
/-- a list or a tuple -/
def SqE (K : PySem.W.Frag) (H : Hp) (a : Addr) (xs : List V) : Prop := SqL K H a xs ∨ SqT K H a xs
theorem SqE.same {H H' : Hp} {a : Addr} {xs : List V} (s : Same H H') (h : SqE K H a xs) : SqE K H' a xs := h.elim (fun z => .inl (s.seq z)) (fun z => .inr (sqT_same s z))
theorem SqE.ix {H : Hp} {a : Addr} {xs : List V} {i : Int} {v : V} {Q : VK} (h : SqE K H a xs) (e : atI xs i = some v) (q : Q v H) : rIx K (.ref a) (.int i) H Q :=
  h.elim (fun z => .inl ⟨a, _, _, v, rfl, rfl, z, e, q⟩) (fun z => .inr (.inl ⟨a, _, _, v, rfl, rfl, z, e, q⟩))
/-- reached(rows, begin): just what is led to, each once -/
def spReach (K : PySem.W.Frag) : Sp := fun vs H Q _ => ∃ (l : Addr) (b : Nat) (xs : List V) (rows : List Row) (ws : List Str), vs = [.ref l, .int b] ∧ SqE K H l xs ∧ RowsV H xs rows ∧ b < rows.length ∧ rows.length ≤ 1000 ∧
  (∀ r, r ∈ rows → r.Ok rows.length ws) ∧ ∀ (H' : Hp) (p : Addr) (ps : List Pl), Same H H' → H p = none → H' p = some (.lst (ps.map Pl.v)) → ps.Nodup → (∀ x, x ∈ ps ↔ Reach rows b x) → Q (.ref p) H'
def kvsOf (fs : List Pl) : List (Key × V) := fs.map fun x => (x.key, .bl true)
theorem val_of (p : Pl) : ∀ fs : List Pl, (valV (kvsOf fs) p.key).isSome = decide (p ∈ fs)
  | [] => by simp [kvsOf, valV_nil]
  | q :: r => by
    by_cases e : q.key = p.key
    · have e2 := Pl.key_inj e
      subst e2
      rw [show kvsOf (q :: r) = (q.key, V.bl true) :: kvsOf r from rfl, valV_pos rfl]
      simp
    · rw [show kvsOf (q :: r) = (q.key, V.bl true) :: kvsOf r from rfl, valV_neg e, val_of p r]
      have h : ¬ p = q := fun z => e (by rw [z])
      simp [h]
theorem ok_reach {f fN : Addr} {fd fdN : FuncData} (F : Fun K "reached" "reached" sreached f fd) (T : Txt K mg) (G_is_number : Fx P w K mg base CX0 1 "is_number" fN fdN ["value"] spNum) :
    FnOk P w K mg base CX0 2 f fd ["rows", "begin"] (spReach K) := by
  refine F.ok screached (fun vs H Q E h => ?_) (fun cdv A outer s H vs Q E hr h => ?_)
  · obtain ⟨l, b, xs, rows, ws, rfl, _⟩ := h
    rfl
  · obtain ⟨l, b, xs, rows, ws, rfl, hl, hR, hb, hsz, hok, k⟩ := h
    refine ⟨_, (pss_cons (ps_set (i := 2) screached.nd rfl (Or.inl rfl) (pe_disp (pps_cons (pv 1) pe_bl pps_nil) (by rfl) (by rfl) (fun z => by cases z) (by decide)))
  (pss_cons (ps_set (i := 3) screached.nd rfl (Or.inl rfl) (pe_lst (pa_cons (pv 1) pa_nil)))
  (pss_cons (ps_while PassesOwn.never (pt_truth (pv 3) (by intro _; rfl)) (pss_cons (ps_set (i := 4) screached.nd rfl (Or.inl rfl) (pe_bm0 PySem.F.plainAttrs_list PySem.F.slot_list_pop PySem.F.type_list_pop mt_pop (pv 3)))
  (pss_one (ps_for PassesOwn.never rfl (pi_tup (pe_slice sl_tup (pe_ix ix_seq (pv 0) (pv 4) (fun _ _ => rfl)) (po_some pe_int) po_none)) (pg_name (i := 5) screached.nd rfl (Or.inl rfl)) (pss_cons (ps_if (pt_cmp (pc_din (hu_of hr) (pv 5) (pv 2))) (pss_one ps_continue) pss_nil)
  (pss_cons (ps_dput (hu_of hr) (pv 2) (pv 5) pe_bl rfl)
  (pss_one (ps_if (pt_val (pe_call G_is_number.ok (hr.mono (by decide)) rfl G_is_number.mg G_is_number.kp G_is_number.bd .nil pass0 (pa_cons (pv 5) pa_nil))) (pss_one (ps_expr (pe_bm PySem.F.plainAttrs_list PySem.F.slot_list_append PySem.F.type_list_append mt_append (pv 3) (pa_cons (pv 5) pa_nil)))) pss_nil))))))))
  (pss_one (ps_ret (pe_callTy (call_list_dK rfl) (by rfl) T.b_list (by decide +kernel) (pa_cons (pv 2) pa_nil))))))), ?_⟩
    intro fa hfa
    refine ⟨_, rfl, upd_same, [(.inl b, .bl true)], rfl, (by show 1 ≤ 15; decide), ?_⟩
    generalize eh : upd (upd H fa _) fa _ = H1
    have s1 : Same H H1 := by rw [← eh, upd_upd]; exact Sb.Same.upd hfa
    have ef : H1 fa = some (.dK (kvsOf [.num b])) := by rw [← eh]; exact upd_same
    refine ⟨_, rfl, (by show 1 ≤ sizeLine; decide), fun aa haa => ?_⟩
    have haH : H aa = none := s1.free haa
    have nfa : fa ≠ aa := ne_of_none ef haa
    have big : ∀ n : Nat, n ≤ 100000 → n < sizeLine := fun n h => Nat.lt_of_le_of_lt h (by decide)
    refine ⟨fun m σ H' => ∃ (fs : List Pl) (as : List Nat) (v4 v5 : Option V), σ = [some (.ref l), some (.int b), some (.ref fa), some (.ref aa), v4, v5] ∧ Same H H' ∧ H' fa = some (.dK (kvsOf fs)) ∧
        H' aa = some (.lst (as.map fun (i : Nat) => V.int (i : Int))) ∧ RInv rows b fs as none ∧ m = 2 * (rows.length - nums fs) + as.length ∧ as.length ≤ nums fs ∧ fs.length + 2 * as.length ≤ 1 + 2 * nums fs,
      ⟨_, [.num b], [b], none, none, rfl, s1.trans (Sb.Same.upd haa), by rw [upd_ne nfa]; exact ef, upd_same, RInv.begin hb, rfl, Nat.le_refl 1, Nat.le_refl 3⟩, ?_⟩
    rintro m σ H2 ⟨fs, as, v4, v5, rfl, s2, f2, a2, I, rfl, c1, c2⟩
    refine ⟨_, rfl, _, .inl ⟨_, SqL.of a2, rfl⟩, ?_⟩
    refine ite2 (fun hc => ?_) (fun hc => ?_)
    · -- a row is taken
      obtain ⟨as', i, rfl⟩ : ∃ as' i, as = as' ++ [i] := by
        rcases List.eq_nil_or_concat as with z | ⟨as', i, z⟩
        · subst z
          exact absurd hc (by decide)
        · exact ⟨as', i, by simpa using z⟩
      have hi : i < rows.length := I.small i (I.sub i (by simp))
      obtain ⟨r, hr⟩ : ∃ r, rows[i]? = some r := ⟨rows[i], List.getElem?_eq_getElem hi⟩
      have hrok := hok r (List.mem_of_getElem? hr)
      obtain ⟨v, hv, hva⟩ := hR.get' i r hr
      obtain ⟨ra, rfl, hra⟩ := RowAt.same s2 hva
      refine ⟨fun σ' H' => ∃ m', m' < 2 * (rows.length - nums fs) + (as' ++ [i]).length ∧ ∃ (fs : List Pl) (as : List Nat) (v4 v5 : Option V), σ' = [some (.ref l), some (.int b), some (.ref fa), some (.ref aa), v4, v5] ∧ Same H H' ∧ H' fa = some (.dK (kvsOf fs)) ∧
        H' aa = some (.lst (as.map fun (i : Nat) => V.int (i : Int))) ∧ RInv rows b fs as none ∧ m' = 2 * (rows.length - nums fs) + as.length ∧ as.length ≤ nums fs ∧ fs.length + 2 * as.length ≤ 1 + 2 * nums fs, fun σ' H' z => z, ?_⟩
      have ed : ((as' ++ [i]).map fun (i : Nat) => V.int (i : Int)).dropLast = as'.map fun (i : Nat) => V.int (i : Int) := by
        rw [List.map_append, List.map_singleton, List.dropLast_concat]
      refine ⟨_, rfl, .inl ⟨rfl, _, SqL.of a2⟩, aa, _, .int i, rfl, rfl, a2, by simp, ?_⟩
      rw [ed]
      generalize eh3 : upd H2 aa _ = H3
      have a3 : H3 aa = some (.lst (as'.map fun (i : Nat) => V.int (i : Int))) := by rw [← eh3]; exact upd_same
      have s3 : Same H H3 := fun c o e => by rw [← eh3, upd_ne (ne_of_none e haH)]; exact s2 c o e
      have f3 : H3 fa = some (.dK (kvsOf fs)) := by rw [← eh3, upd_ne nfa]; exact f2
      have nra : ra ≠ aa := ne_of hra a2 (by intro z; cases z)
      have r3 : H3 ra = some (.tup r.vs) := by rw [← eh3, upd_ne nra]; exact hra
      refine ⟨_, rfl, _, rfl, (hl.same s3).ix (atI_nat hv) ⟨_, rfl, ?_⟩⟩
      refine ⟨ra, _, rfl, SqT.of r3, (by intro z; have z1 : HT.sIx 3 0 (some 1) = 0 := z.1; revert z1; decide), fun q hq => ?_⟩
      generalize eh4 : upd H3 q _ = H4
      have t4 : Same H3 H4 := by rw [← eh4]; exact Sb.Same.upd hq
      have q4 : H4 q = some (.tup [r.a.v, r.b.v]) := by rw [← eh4]; exact upd_same
      refine ⟨q, rfl, ⟨_, SqT.of q4⟩, for_tup (K := K) (a := q) (xs := [r.a.v, r.b.v]) (fun j σ' H' => ∃ (fs' : List Pl) (as'' : List Nat) (v5 : Option V), σ' = [some (.ref l), some (.int b), some (.ref fa), some (.ref aa), some (.int i), v5] ∧ Same H H' ∧
        H' fa = some (.dK (kvsOf fs')) ∧ H' aa = some (.lst (as''.map fun (i : Nat) => V.int (i : Int))) ∧ RInv rows b fs' as'' (some (i, j)) ∧ 2 * (rows.length - nums fs') + as''.length < 2 * (rows.length - nums fs) + (as' ++ [i]).length ∧
        as''.length + 1 ≤ nums fs' ∧ fs'.length + 2 * as''.length + 2 ≤ 1 + 2 * nums fs' + j ∧ H' q = some (.tup [r.a.v, r.b.v]))
        ⟨fs, as', v5, rfl, s3.trans t4, t4 _ _ f3, t4 _ _ a3, I.pop, by simp, by simpa using c1, by simp at c2; omega, q4⟩ (fun _ _ _ _ z => by
          obtain ⟨_, _, _, _, _, _, _, _, _, _, _, z⟩ := z
          exact SqT.of z) ?_ ?_⟩
      · rintro j x σ' H5 hx ⟨fs', as'', v5, rfl, s5, f5, a5, I5, m5, d1, d2, q5⟩
        obtain ⟨p, rfl, hp⟩ : ∃ p : Pl, x = p.v ∧ ((j = 0 ∧ p = r.a) ∨ (j = 1 ∧ p = r.b)) := by
          match j, hx with
          | 0, hx => exact ⟨r.a, (Option.some.inj hx).symm, .inl ⟨rfl, rfl⟩⟩
          | 1, hx => exact ⟨r.b, (Option.some.inj hx).symm, .inr ⟨rfl, rfl⟩⟩
          | j + 2, hx => simp at hx
        have nle : nums fs' ≤ rows.length := nums_le I5.nd I5.small
        refine ⟨_, rfl, _, rfl, fa, _, rfl, by rw [Pl.v_key]; exact DGet.k f5, _, rfl, ?_⟩
        rw [val_of]
        refine ite2 (fun hc => ?_) (fun hc => ?_)
        · have hf : p ∈ fs' := of_decide_eq_true hc
          exact ⟨fs', as'', _, rfl, s5, f5, a5, I5.skip hr hp hf, m5, d1, by omega, q5⟩
        · have hf : p ∉ fs' := fun z => hc (decide_eq_true z)
          have hsm : ∀ k, p = .num k → k < rows.length := fun k e => by
            rcases hp with ⟨_, e2⟩ | ⟨_, e2⟩
            · have := hrok.2.1
              rw [← e2, e] at this
              exact this
            · have := hrok.2.2
              rw [← e2, e] at this
              exact this
          have I6 := I5.add hr hp hf hsm
          have nle6 := nums_le I6.nd I6.small
          rw [nums_snoc] at nle6
          have en : valV (kvsOf fs') p.key = none := by
            have z := val_of p fs'
            rw [decide_eq_false hf] at z
            cases e : valV (kvsOf fs') p.key with
            | none => rfl
            | some y =>
              rw [e] at z
              cases z
          have ek : putK (kvsOf fs') p.key (.bl true) = kvsOf (fs' ++ [p]) := by
            rw [putK_new _ en]
            simp [kvsOf]
          refine ⟨_, rfl, _, rfl, fa, _, rfl, by rw [Pl.v_key]; exact DPut.k f5 (by rw [kvsOf, List.length_map]; exact big _ (by omega)), ?_⟩
          rw [ek]
          generalize eh6 : upd H5 fa _ = H6
          have f6 : H6 fa = some (.dK (kvsOf (fs' ++ [p]))) := by rw [← eh6]; exact upd_same
          have s6 : Same H H6 := fun c o e => by rw [← eh6, upd_ne (ne_of_none e hfa)]; exact s5 c o e
          have a6 : H6 aa = some (.lst (as''.map fun (i : Nat) => V.int (i : Int))) := by rw [← eh6, upd_ne (Ne.symm nfa)]; exact a5
          have nq : q ≠ fa := ne_of q5 f5 (by intro z; cases z)
          have nqa : q ≠ aa := ne_of q5 a5 (by intro z; cases z)
          have q6 : H6 q = some (.tup [r.a.v, r.b.v]) := by rw [← eh6, upd_ne nq]; exact q5
          refine ⟨_, rfl, p, rfl, _, rfl, ?_⟩
          cases p with
          | num z =>
            refine iteT ?_
            refine ⟨_, rfl, .inl ⟨rfl, _, SqL.of a6⟩, _, rfl, aa, _, _, rfl, rfl, a6, by rw [List.length_map]; exact big _ (by omega), ?_⟩
            refine ⟨fs' ++ [.num z], as'' ++ [z], _, rfl, fun c o e => by rw [upd_ne (ne_of_none e haH)]; exact s6 c o e, by rw [upd_ne nfa]; exact f6, by rw [upd_same]; simp [Pl.v], I6, ?_, ?_, ?_, by rw [upd_ne nqa]; exact q6⟩
            · rw [nums_snoc]
              simp at nle6 ⊢
              simp at m5
              omega
            · rw [nums_snoc]
              simp
              omega
            · rw [nums_snoc]
              simp
              omega
          | word z =>
            refine iteF ?_
            refine ⟨fs' ++ [.word z], as'', _, rfl, s6, f6, a6, I6, ?_, ?_, ?_, q6⟩
            · rw [nums_snoc]
              simpa using m5
            · rw [nums_snoc]
              simpa using d1
            · rw [nums_snoc]
              simp
              omega
      · rintro σ' H5 ⟨fs', as'', v5, rfl, s5, f5, a5, I5, m5, d1, d2, q5⟩
        have I6 : RInv rows b fs' as'' none := RInv.done I5
        have d2' : fs'.length + 2 * as''.length + 2 ≤ 1 + 2 * nums fs' + 2 := d2
        exact ⟨_, m5, fs', as'', _, _, rfl, s5, f5, a5, I6, rfl, by omega, by omega⟩
    · -- nothing is ahead
      have e0 : as = [] := by
        cases as with
        | nil => rfl
        | cons x r => exact absurd rfl hc
      subst e0
      refine ⟨_, rfl, fa, _, rfl, f2, fun q hq => ?_⟩
      have em : (kvsOf fs).map (fun kv => kV kv.1) = fs.map Pl.v := by
        simp [kvsOf, Pl.v_key]
      rw [em]
      exact k _ q fs (s2.trans (Sb.Same.upd hq)) (s2.free hq) upd_same I.nd I.all

end K01

set_option Elab.async false
set_option linter.all false
set_option maxRecDepth 100000
set_option maxHeartbeats 4000000
namespace K01
open PySem L2 Sb
variable {P : Program} {w : World} {K : PySem.W.Frag} {mg : Str → Option Value} {base : Heap}
theorem ok_bad {f C : Addr} {fd : FuncData} (F : Fun K "__init__" "BadEnd.__init__" sBadEnd_init f fd) (c : OexC K C) (n1 : PySem.W.findIn K (.ref C) "part" = some none) (n2 : PySem.W.findIn K (.ref C) "row" = some none) :
    FnOk P w K mg base CX0 1 f fd ["self", "part", "row"] (spBadInit C) := by
  refine F.ok scBadEnd_init (fun vs H Q E h => ?_) (fun cdv A outer s H vs Q E hr h => ?_)
  · obtain ⟨a, v1, v2, rfl, _⟩ := h
    rfl
  · obtain ⟨a, v1, v2, rfl, ea, k⟩ := h
    refine ⟨_, (pss_cons (ps_ost (pv 0) (pv 1))
  (pss_one (ps_ost (pv 0) (pv 2)))), ?_⟩
    refine ⟨_, rfl, _, rfl, a, C, rfl, c, n1, .inl ⟨ea, fun dx hdx ne => ?_⟩⟩
    refine ⟨_, rfl, _, rfl, a, C, rfl, c, n2, .inr ⟨dx, _, upd_same, by rw [upd_ne ne]; exact upd_same, (by show 1 ≤ 900; decide), ?_⟩⟩
    exact k _ dx (by rw [upd_ne (Ne.symm ne)]; exact upd_same) hdx ne upd_same fun b o e hb => by
      rw [upd_ne (ne_of_none e hdx), upd_ne hb, upd_ne (ne_of_none e hdx)]
      exact e

end K01

set_option Elab.async false
set_option linter.all false
set_option maxRecDepth 100000
set_option maxHeartbeats 4000000
namespace K01
open PySem L2 Sb
variable {P : Program} {w : World} {K : PySem.W.Frag} {mg : Str → Option Value} {base : Heap}
/-- ys are the tuples (part, index, row) of xs -/
def Numbered (H : Hp) (part : V) (xs ys : List V) : Prop := ys.length = xs.length ∧ ∀ (i : Nat) (v : V), xs[i]? = some v → ∃ a, ys[i]? = some (.ref a) ∧ H a = some (.tup [part, .int (i : Int), v])
theorem Numbered.same {H H' : Hp} {part : V} {xs ys : List V} (s : Same H H') (h : Numbered H part xs ys) : Numbered H' part xs ys := ⟨h.1, fun i v e => by
  obtain ⟨a, e1, e2⟩ := h.2 i v e
  exact ⟨a, e1, s _ _ e2⟩⟩
def spNumb : Sp := fun vs H Q _ => ∃ (part : V) (l : Addr) (xs : List V), vs = [part, .ref l] ∧ Mach H l xs ∧ xs.length ≤ 1000 ∧
  ∀ (H' : Hp) (p : Addr) (ys : List V), Same H H' → H p = none → H' p = some (.lst ys) → Numbered H' part xs ys → Q (.ref p) H'
theorem ok_numb {f : Addr} {fd : FuncData} (F : Fun K "numbered_rows" "numbered_rows" snumbered_rows f fd) (T : Txt K mg) : FnOk P w K mg base CX0 1 f fd ["part", "machine"] spNumb := by
  refine F.ok scnumbered_rows (fun vs H Q E h => ?_) (fun cdv A outer s H vs Q E hr h => ?_)
  · obtain ⟨part, l, xs, rfl, _⟩ := h
    rfl
  · obtain ⟨part, l, xs, rfl, hl, hn, k⟩ := h
    refine ⟨_, (pss_one (ps_ret (pe_lc (own := [("index", 2), ("row", 3)]) (g := (gTup K 2 (gCons (gName 2) (gCons (gName 3) gNil)))) (tt := tYes) rfl scnumbered_rows.nd (pi_enumE (by rfl) T.b_enumerate (pa_cons (pv 1) pa_nil)) (blkOk_by (N := ["part", "machine", "index", "row"]) (own := [("index", 2), ("row", 3)]) (sc := defScope snumbered_rows) (by decide +kernel)) (fun _ _ _ _ _ => (pg_tup rfl (pgs_cons (pg_name (i := 2) scnumbered_rows.nd rfl (Or.inl rfl)) (pgs_cons (pg_name (i := 3) scnumbered_rows.nd rfl (Or.inl rfl)) pgs_nil)))) (fun _ _ _ _ _ => pts_nil) (fun _ _ _ _ _ => (pe_tup (pa_cons (pv 0) (pa_cons (pv 2) (pa_cons (pv 3) pa_nil)))))))), ?_⟩
    refine ⟨_, rfl, l, xs, rfl, hl.sq, fun J wk D hD => lc_it wk (fun i H' => ∃ ys : List V, Same H H' ∧ H' D = some (.lst ys) ∧ Numbered H' part (xs.take i) ys)
      ⟨[], Sb.Same.upd hD, upd_same, rfl, fun i v e => by simp at e⟩ (fun i H' _ ⟨_, s2, _⟩ => hl.stayAt (Same.refl _) s2) ?_ ?_⟩
    · rintro i x H2 H3 hi ⟨ys, s2, hD2, hN⟩ ⟨t, y, z, rfl, ht, rfl, e1, e2⟩
      cases (Option.some.inj e1).symm
      have s3 : Same H (upd H2 t (.tup [.int (i : Int), z])) := s2.trans (Sb.Same.upd ht)
      have nt : D ≠ t := ne_of_none hD2 ht
      refine ⟨t, _, rfl, SqT.of upd_same, rfl, _, _, rfl, _, _, rfl, rfl, rfl, ?_⟩
      refine ⟨_, rfl, _, rfl, _, rfl, (by show 3 ≤ sizeLine; decide), fun q hq => ?_⟩
      have nq : D ≠ q := ne_of_none (by rw [upd_ne nt]; exact hD2) hq
      generalize eh : upd (upd H2 t _) q _ = H4
      have s4 : Same H2 H4 := by rw [← eh]; exact (Sb.Same.upd ht).trans (Sb.Same.upd hq)
      have q4 : H4 q = some (.tup [part, .int (i : Int), z]) := by rw [← eh]; exact upd_same
      have qD : H D = none := hD
      have hq2 : H2 q = none := (Sb.Same.upd ht).free hq
      refine ⟨ys, s4 _ _ hD2, ?_, ys ++ [.ref q], fun b o e => ?_, upd_same, ?_⟩
      · have : ys.length = i := by
          rw [hN.1, List.length_take]
          omega
        exact Nat.lt_of_le_of_lt (by omega : ys.length ≤ 1000) (by decide)
      · rw [upd_ne (ne_of_none e qD)]
        exact s4 _ _ (s2 _ _ e)
      · have el : (xs.take i).length = i := by
          rw [List.length_take]
          omega
        have et : xs.take (i + 1) = xs.take i ++ [z] := by
          rw [List.take_add_one]
          have : xs[i]? = some z := e2
          rw [this]
          rfl
        rw [et]
        refine ⟨by simp [hN.1], fun j v e => ?_⟩
        rcases Nat.lt_or_ge j i with hj | hj
        · rw [List.getElem?_append_left (by omega)] at e
          obtain ⟨a, ea, ha⟩ := hN.2 j v e
          refine ⟨a, by rw [List.getElem?_append_left (by rw [hN.1]; omega)]; exact ea, ?_⟩
          rw [upd_ne (ne_of (s4 _ _ ha) (s4 _ _ hD2) (by intro z; cases z))]
          exact s4 _ _ ha
        · have ej : j = i := by
            have := (List.getElem?_eq_some_iff.mp e).1
            simp at this
            omega
          subst ej
          rw [List.getElem?_append_right (by omega), el, Nat.sub_self] at e
          cases Option.some.inj e
          refine ⟨q, ?_, ?_⟩
          · rw [List.getElem?_append_right (by rw [hN.1]; omega), hN.1, el, Nat.sub_self]
            rfl
          · rw [upd_ne (Ne.symm nq)]
            exact q4
    · rintro H2 ⟨ys, s2, hD2, hN⟩
      rw [List.take_length] at hN
      exact k H2 D ys s2 hD hD2 hN

end K01

set_option Elab.async false
set_option linter.all false
set_option maxRecDepth 100000
set_option maxHeartbeats 4000000
namespace K01
open PySem L2 Sb
variable {P : Program} {w : World} {K : PySem.W.Frag} {mg : Str → Option Value} {base : Heap}
/-- check_machine(part, machine, fewest, most, words) of a list of rows -/
def spCheck (K : PySem.W.Frag) (C : Addr) : Sp := fun vs H Q E => ∃ (part : V) (l : Addr) (few most : Nat) (wa : Addr) (xs : List V) (rows : List Row) (ws : List Str), vs = [part, .ref l, .int few, .int most, .ref wa] ∧ Mach H l xs ∧ RowsV H xs rows ∧
  SqT K H wa (ws.map V.str) ∧ (¬ (few ≤ rows.length ∧ rows.length ≤ most) → BadAt C H part .non E) ∧
  (few ≤ rows.length → rows.length ≤ most → ∀ (i : Nat) (r : Row), rows[i]? = some r → ¬ r.Ok rows.length ws → (∀ (j : Nat) (r' : Row), j < i → rows[j]? = some r' → r'.Ok rows.length ws) → BadAt C H part (.int (i : Int)) E) ∧
  (few ≤ rows.length → rows.length ≤ most → (∀ r, r ∈ rows → r.Ok rows.length ws) → ∀ H', Same H H' → Q .non H')
theorem pair_classes : Paired ClsV [V.ty "list", V.ty "tuple"] [Value.type "list", Value.type "tuple"] := .cons (.ty _) (.cons (.ty _) .nil)
theorem kit_list {K : PySem.W.Frag} : PySem.W.kitAny K (.type "list") [Value.type "list", Value.type "tuple"] = some true :=
  kitAny_cons (b := true) (r := true) (kit_ty (by decide +kernel)) (fun z => by cases z) fun _ => rfl
theorem kit_tuple {K : PySem.W.Frag} : PySem.W.kitAny K (.type "tuple") [Value.type "list", Value.type "tuple"] = some true :=
  kitAny_cons (b := false) (r := true) (kit_ty (by decide +kernel)) (fun _ => kitAny_cons (b := true) (r := true) (kit_ty (by decide +kernel)) (fun z => by cases z) fun _ => rfl) fun z => by cases z
theorem ok_check {f fR fI C : Addr} {fd fdR fdI : FuncData} (F : Fun K "check_machine" "check_machine" scheck_machine f fd) (T : Txt K mg) (G_is_row : Fx P w K mg base CX0 3 "is_row" fR fdR ["value", "size", "words"] (spRow K))
    (O_BadEnd : Ox P w K mg base 1 "BadEnd" C fI fdI ["self", "part", "row"] (spBadInit C)) :
    FnOk P w K mg base (L2.CX P w) 4 f fd ["part", "machine", "fewest", "most", "words"] (spCheck K C) := by
  refine F.okX sccheck_machine (fun vs H Q E h => ?_) (fun cdv A outer s H vs Q E hr h => ?_)
  · obtain ⟨part, l, few, most, wa, xs, rows, ws, rfl, _⟩ := h
    rfl
  · obtain ⟨part, l, few, most, wa, xs, rows, ws, rfl, hl, hR, hw, k1, k2, k3⟩ := h
    refine ⟨_, (pss_cons (ps_if (PW.pt (pw_or (pt_not (pt_val (pe_callB call_isiT (by rfl) T.b_isinstance (by decide +kernel) (pa_cons (pv 1) (pa_cons (pe_tup (pa_cons (pe_bltn (v := .ty "list") (by rfl) T.b_list (by decide +kernel) rfl) (pa_cons (pe_bltn (v := .ty "tuple") (by rfl) T.b_tuple (by decide +kernel) rfl) pa_nil))) pa_nil))))) (pw_or1 (pt_not (pt_chain op_le op_le (pv 2) (pe_callB call_len_seq (by rfl) T.b_len (by decide +kernel) (pa_cons (pv 1) pa_nil)) (pv 3)))))) (pss_one (ps_raise rfl (takes_of rfl rfl rfl rfl) (pmk_oex O_BadEnd.c O_BadEnd.iC O_BadEnd.tI O_BadEnd.ok (hr.mono (by decide)) O_BadEnd.bd .nil pass0 rfl O_BadEnd.mg (pa_cons (pv 0) (pa_cons pe_non pa_nil))))) pss_nil)
  (pss_one (ps_for (passes_of rfl) rfl (pi_enumE (by rfl) T.b_enumerate (pa_cons (pv 1) pa_nil)) (pg_tup rfl (pgs_cons (pg_name (i := 5) sccheck_machine.nd rfl (Or.inl rfl)) (pgs_cons (pg_name (i := 6) sccheck_machine.nd rfl (Or.inl rfl)) pgs_nil))) (pss_one (ps_if (pt_not (pt_val (pe_call G_is_row.ok (hr.mono (by decide)) rfl G_is_row.mg G_is_row.kp G_is_row.bd .nil pass0 (pa_cons (pv 6) (pa_cons (pe_callB call_len_seq (by rfl) T.b_len (by decide +kernel) (pa_cons (pv 1) pa_nil)) (pa_cons (pv 4) pa_nil)))))) (pss_one (ps_raise rfl (takes_of rfl rfl rfl rfl) (pmk_oex O_BadEnd.c O_BadEnd.iC O_BadEnd.tI O_BadEnd.ok (hr.mono (by decide)) O_BadEnd.bd .nil pass0 rfl O_BadEnd.mg (pa_cons (pv 0) (pa_cons (pv 5) pa_nil))))) pss_nil))))), ?_⟩
    have raised : ∀ (v2 : V) (H1 : Hp), Same H H1 → BadAt C H part v2 E → ∀ a, H1 a = none → spBadInit C [.ref a, part, v2] (upd H1 a (exo a C none)) (fun v H2 => v = .non ∧ ∃ (d : Addr) (fs : List (Str × V)), H2 a = some (exo a C (some d)) ∧ H2 d = some (exd d fs) ∧ H1 d = none ∧ E (.ref C) (some d) (upd (del H2 a) d (.xd fs))) (fun _ _ _ => False) := by
      intro v2 H1 s1 kB a ha
      refine ⟨a, part, v2, rfl, upd_same, fun H' d e1 n1 ne e2 kp => ⟨rfl, d, _, e1, e2, ?_, ?_⟩⟩
      · rw [upd_ne ne] at n1
        exact n1
      · have hd : H1 d = none := by
          rw [upd_ne ne] at n1
          exact n1
        refine kB _ d (fun b o e => ?_) (s1.free hd) upd_same
        have e' := s1 b o e
        have nb : b ≠ a := ne_of_none e' ha
        have nd : b ≠ d := ne_of_none e' hd
        rw [upd_ne nd, del_ne nb]
        exact kp b o (by rw [upd_ne nb]; exact e') nb
    refine ⟨_, rfl, (by show 2 ≤ sizeLine; decide), fun p hp => ?_⟩
    generalize eh : upd H p _ = H1
    have s1 : Same H H1 := by rw [← eh]; exact Sb.Same.upd hp
    have ep : H1 p = some (.tup [.ty "list", .ty "tuple"]) := by rw [← eh]; exact upd_same
    have hl1 := hl.same s1
    obtain ⟨ty, hty, hki⟩ : ∃ ty, TyX K H1 (.ref l) ty ∧ PySem.W.kitAny K ty [Value.type "list", Value.type "tuple"] = some true := by
      rcases hl1 with z | z
      · exact ⟨_, .base (.lst z), kit_list⟩
      · exact ⟨_, .base (.tup z), kit_tuple⟩
    refine ⟨_, p, _, _, _, true, rfl, ep, pair_classes, hty, hki, true, rfl, iteF ?_⟩
    refine ⟨_, rfl, _, rfl, l, _, rfl, hl1.sq, _, _, rfl, rfl, _, rfl, ?_⟩
    have elen : (xs.length : Int) = (rows.length : Int) := by rw [hR.len]
    rw [elen]
    have refused : ¬ (few ≤ rows.length ∧ rows.length ≤ most) → ∀ a, H1 a = none → spBadInit C [.ref a, part, .non] (upd H1 a (exo a C none)) (fun v H2 => v = .non ∧ ∃ (d : Addr) (fs : List (Str × V)), H2 a = some (exo a C (some d)) ∧ H2 d = some (exd d fs) ∧ H1 d = none ∧ E (.ref C) (some d) (upd (del H2 a) d (.xd fs))) (fun _ _ _ => False) :=
      fun z => raised _ _ s1 (k1 z)
    refine ite2 (fun h1 => ?_) (fun h1 => ?_)
    · have g1 : few ≤ rows.length := by
        have : (few : Int) ≤ (rows.length : Int) := of_decide_eq_true h1
        omega
      refine ⟨_, rfl, _, _, rfl, rfl, _, rfl, ?_⟩
      by_cases g2 : rows.length ≤ most
      · have e2 : decide ((rows.length : Int) ≤ (most : Int)) = true := decide_eq_true (by omega)
        rw [e2]
        refine iteF ?_
        -- the rows, one by one
        refine ⟨_, rfl, l, xs, rfl, hl1.sq, fun J wk => for_it wk (fun i σ' H' => ∃ v5 v6 : Option V, σ' = [some part, some (.ref l), some (.int (few : Int)), some (.int (most : Int)), some (.ref wa), v5, v6] ∧ Same H H' ∧ (∀ (j : Nat) (r' : Row), j < i → rows[j]? = some r' → r'.Ok rows.length ws))
          ⟨none, none, rfl, s1, fun j r' z => absurd z (Nat.not_lt_zero _)⟩ (fun i σ' H' _ ⟨_, _, _, s2, _⟩ => hl.stayAt s1 s2) ?_ ?_⟩
        · rintro i x σ' H2 H3 hi ⟨v5, v6, rfl, s2, hpre⟩ ⟨t, y, z, rfl, ht, rfl, e1, e2⟩
          cases (Option.some.inj e1).symm
          obtain ⟨r, hr, hv⟩ := hR.get i z e2
          have s3 : Same H (upd H2 t (.tup [.int (i : Int), z])) := s2.trans (Sb.Same.upd ht)
          refine ⟨t, _, rfl, SqT.of upd_same, rfl, _, _, rfl, _, _, rfl, rfl, ?_⟩
          refine ⟨_, rfl, _, rfl, l, _, rfl, (hl.same s3).sq, _, rfl, z, r, rows.length, wa, ws, (by rw [hR.len]; rfl), RowAt.same s3 hv, sqT_same s3 hw, fun H4 s4 => ?_⟩
          refine ⟨_, rfl, ?_⟩
          by_cases hok : r.Ok rows.length ws
          · rw [decide_eq_true hok]
            refine iteF ⟨_, _, rfl, s3.trans s4, fun j r' hj hr' => ?_⟩
            by_cases ej : j = i
            · subst ej
              rw [hr] at hr'
              cases hr'
              exact hok
            · exact hpre j r' (by omega) hr'
          · rw [decide_eq_false hok]
            refine iteT ⟨_, rfl, _, rfl, (by show 2 ≤ 1000; decide), raised _ _ (s3.trans s4) (k2 g1 g2 i r hr hok hpre)⟩
        · rintro σ' H2 ⟨v5, v6, rfl, s2, hpre⟩
          refine k3 g1 g2 (fun r hr => ?_) _ s2
          obtain ⟨j, hj⟩ := List.getElem?_of_mem hr
          have hjl : j < xs.length := by
            rw [hR.len]
            exact (List.getElem?_eq_some_iff.mp hj).1
          exact hpre j r hjl hj
      · have e2 : decide ((rows.length : Int) ≤ (most : Int)) = false := decide_eq_false (by omega)
        rw [e2]
        exact iteT ⟨_, rfl, (by show 2 ≤ 1000; decide), refused (fun z => g2 z.2)⟩
    · refine ⟨false, rfl, iteT ⟨_, rfl, (by show 2 ≤ 1000; decide), refused (fun z => h1 ?_)⟩⟩
      exact decide_eq_true (by omega)

end K01

set_option Elab.async false
set_option linter.all false
set_option maxRecDepth 100000
set_option maxHeartbeats 4000000
namespace K01
open PySem L2 Sb
variable {P : Program} {w : World} {K : PySem.W.Frag} {mg : Str → Option Value} {base : Heap}
/-- what the top has made: the class of ends at D, the words of both machines -/
structure TxtE (K : PySem.W.Frag) (mg : Str → Option Value) (D hA sA : Addr) : Prop extends Txt K mg where
  m_End : mg "End" = some (.ref D)
  m_HEARER_WORDS : mg "HEARER_WORDS" = some (.ref hA)
  m_SENDER_WORDS : mg "SENDER_WORDS" = some (.ref sA)
  hW : ∀ H, SqT K H hA (hearerWords.map V.str)
  sW : ∀ H, SqT K H sA (senderWords.map V.str)
  clD : Cls K D
  n1 : NoAttr K D "hearer_rows"
  n2 : NoAttr K D "sender_rows"
  n3 : NoAttr K D "rows"
  most : ∃ mc u, ClX.CRead K D mc ∧ ClX.CVal K D mc "MOST" (.int 100) u
/-- the attributes of an end -/
def endF (t1 t2 t3 : Addr) : List (Str × V) := putF "rows" (.ref t3) (putF "sender_rows" (.ref t2) (putF "hearer_rows" (.ref t1) []))
/-- at e: the end of these machines -/
def EndAt (D : Addr) (H : Hp) (e : Addr) (hs ss : List Row) : Prop := ∃ (dx t1 t2 t3 : Addr) (xs ys zs us : List V), H e = some (.ins D dx (endF t1 t2 t3)) ∧ H t1 = some (.tup xs) ∧ RowsV H xs hs ∧ H t2 = some (.tup ys) ∧ RowsV H ys ss ∧
  H t3 = some (.tup (zs ++ us)) ∧ Numbered H (.str "hearer") xs zs ∧ Numbered H (.str "sender") ys us
/-- End.__init__ of two lists of rows -/
def spEnd (C D : Addr) : Sp := fun vs H Q E => ∃ (e h1 h2 dx : Addr) (xs ys : List V) (hs ss : List Row), vs = [.ref e, .ref h1, .ref h2] ∧ H e = some (.ins D dx []) ∧ Mach H h1 xs ∧ RowsV H xs hs ∧ Mach H h2 ys ∧ RowsV H ys ss ∧
  (∀ p v, endFault hs ss = some (p, v) → BadAt C H p v E) ∧
  (endFault hs ss = none → ∀ H' : Hp, EndAt D H' e hs ss → (∀ b o, H b = some o → b ≠ e → H' b = some o) → Q .non H')
theorem flat_pls : ∀ ps : List Pl, (ps.map Pl.v).all flatV = true
  | [] => rfl
  | p :: r => by
    rw [List.map_cons, List.all_cons, flat_pls r]
    cases p <;> rfl
theorem inV_pl {z : Str} : ∀ ps : List Pl, inV (.str z) (ps.map Pl.v) = decide (Pl.word z ∈ ps)
  | [] => by simp [inV]
  | p :: r => by
    have ih := inV_pl (z := z) r
    unfold inV at ih ⊢
    rw [List.map_cons, List.any_cons, ih]
    cases p with
    | num n =>
      show (false || decide (Pl.word z ∈ r)) = decide (Pl.word z ∈ Pl.num n :: r)
      simp
    | word y =>
      show ((y == z) || decide (Pl.word z ∈ r)) = decide (Pl.word z ∈ Pl.word y :: r)
      by_cases h : y = z
      · subst h
        simp
      · have h1 : (y == z) = false := by simpa using h
        have h2 : ¬ z = y := fun e => h e.symm
        rw [h1, Bool.false_or]
        simp [h2]
theorem ok_end {f fC fR fN C D hA sA fI : Addr} {fd fdC fdR fdN fdI : FuncData} (F : Fun K "__init__" "End.__init__" sEnd_init f fd) (T : TxtE K mg D hA sA)
    (G_check_machine : Fx P w K mg base (L2.CX P w) 4 "check_machine" fC fdC ["part", "machine", "fewest", "most", "words"] (spCheck K C)) (G_reached : Fx P w K mg base CX0 2 "reached" fR fdR ["rows", "begin"] (spReach K))
    (G_numbered_rows : Fx P w K mg base CX0 1 "numbered_rows" fN fdN ["part", "machine"] spNumb) (O_BadEnd : Ox P w K mg base 1 "BadEnd" C fI fdI ["self", "part", "row"] (spBadInit C)) :
    FnOk P w K mg base (L2.CX P w) 5 f fd ["self", "hearer", "sender"] (spEnd C D) := by
  refine F.okX scEnd_init (fun vs H Q E h => ?_) (fun cdv A outer s H vs Q E hr h => ?_)
  · obtain ⟨e, h1, h2, dx, xs, ys, hs, ss, rfl, _⟩ := h
    rfl
  · obtain ⟨e, h1, h2, dx, xs, ys, hs, ss, rfl, he, hl1, hR1, hl2, hR2, kB, kQ⟩ := h
    obtain ⟨mc, u, cr, cv⟩ := T.most
    refine ⟨_, (pss_cons (ps_expr (pe_call G_check_machine.ok (hr.mono (by decide)) rfl G_check_machine.mg G_check_machine.kp G_check_machine.bd .nil (passes_call (W := fun cls d _ H => E cls d H) (takes_of rfl rfl rfl rfl) (fun _ _ _ _ h => h)) (pa_cons pe_str (pa_cons (pv 1) (pa_cons pe_int (pa_cons (ClX.pe_cval (pe_glob (v := .ref _) (by rfl) T.m_End rfl)) (pa_cons (pe_glob (v := .ref _) (by rfl) T.m_HEARER_WORDS rfl) pa_nil)))))))
  (pss_cons (ps_expr (pe_call G_check_machine.ok (hr.mono (by decide)) rfl G_check_machine.mg G_check_machine.kp G_check_machine.bd .nil (passes_call (W := fun cls d _ H => E cls d H) (takes_of rfl rfl rfl rfl) (fun _ _ _ _ h => h)) (pa_cons pe_str (pa_cons (pv 2) (pa_cons pe_int (pa_cons (ClX.pe_cval (pe_glob (v := .ref _) (by rfl) T.m_End rfl)) (pa_cons (pe_glob (v := .ref _) (by rfl) T.m_SENDER_WORDS rfl) pa_nil)))))))
  (pss_cons (ps_if (pt_cmpR op_in_seq pe_str (pe_call G_reached.ok (hr.mono (by decide)) rfl G_reached.mg G_reached.kp G_reached.bd .nil pass0 (pa_cons (pv 1) (pa_cons pe_int pa_nil))) (by rfl)) (pss_one (ps_raise rfl (takes_of rfl rfl rfl rfl) (pmk_oex O_BadEnd.c O_BadEnd.iC O_BadEnd.tI O_BadEnd.ok (hr.mono (by decide)) O_BadEnd.bd .nil pass0 rfl O_BadEnd.mg (pa_cons pe_str (pa_cons pe_non pa_nil))))) pss_nil)
  (pss_cons (ps_fld (pv 0) (pe_callTy call_tupleM (by rfl) T.b_tuple (by decide +kernel) (pa_cons (pv 1) pa_nil)) rfl)
  (pss_cons (ps_fld (pv 0) (pe_callTy call_tupleM (by rfl) T.b_tuple (by decide +kernel) (pa_cons (pv 2) pa_nil)) rfl)
  (pss_one (ps_fld (pv 0) (pe_callTy call_tuple_of (by rfl) T.b_tuple (by decide +kernel) (pa_cons (pe_op op_cat (pe_call G_numbered_rows.ok (hr.mono (by decide)) rfl G_numbered_rows.mg G_numbered_rows.kp G_numbered_rows.bd .nil pass0 (pa_cons pe_str (pa_cons (pv 1) pa_nil))) (pe_call G_numbered_rows.ok (hr.mono (by decide)) rfl G_numbered_rows.mg G_numbered_rows.kp G_numbered_rows.bd .nil pass0 (pa_cons pe_str (pa_cons (pv 2) pa_nil)))) pa_nil)) rfl))))))), ?_⟩
    -- the hearer's machine
    refine ⟨_, rfl, D, mc, _, u, rfl, cr, cv, .str "hearer", h1, 2, 100, hA, xs, hs, hearerWords, rfl, hl1, hR1, T.hW H, fun z => kB _ _ ?_, fun g1 g2 i r er hb hp => kB _ _ ?_, fun g1 g2 hok H1 s1 => ?_⟩
    · unfold endFault
      rw [mf_size z]
    · unfold endFault
      rw [mf_row g1 g2 er hb hp]
    have m1 : machineFault 2 100 hearerWords hs = none := mf_ok g1 g2 hok
    have hR1' := hR1.same s1
    have hR2' := hR2.same s1
    -- the sender's
    refine ⟨_, rfl, D, mc, _, u, rfl, cr, cv, .str "sender", h2, 1, 100, sA, ys, ss, senderWords, rfl, hl2.same s1, hR2', T.sW H1, fun z => (kB _ _ ?_).same s1, fun q1 q2 i r er hb hp => (kB _ _ ?_).same s1, fun q1 q2 hok2 H2 s2 => ?_⟩
    · unfold endFault
      rw [m1, mf_size z]
    · unfold endFault
      rw [m1, mf_row q1 q2 er hb hp]
    have m2 : machineFault 1 100 senderWords ss = none := mf_ok q1 q2 hok2
    have s12 := s1.trans s2
    -- where the body's row leads
    refine ⟨_, rfl, h1, 1, xs, hs, hearerWords, rfl, (hl1.same s12).sq, hR1.same s12, by omega, by omega, hok, fun H3 p ps s3 hp ep nd hin => ?_⟩
    have s13 := s12.trans s3
    refine ⟨p, _, rfl, .inl (SqL.of ep), rfl, flat_pls ps, _, rfl, ?_⟩
    show if inV (.str "taken") (ps.map Pl.v) = true then _ else _
    rw [inV_pl]
    refine ite2 (fun hc => ?_) (fun hc => ?_)
    · have ht : Reach hs 1 (.word "taken") := (hin _).mp (of_decide_eq_true hc)
      refine ⟨by show 2 ≤ 1000; decide, fun a ha => ?_⟩
      have kb : BadAt C H (.str "body") .non E := kB _ _ (by
        unfold endFault
        rw [m1, m2, if_pos ht])
      refine ⟨a, _, _, rfl, upd_same, fun H' d e1 n1 ne e2 kp => ⟨rfl, d, _, e1, e2, ?_, ?_⟩⟩
      · rw [upd_ne ne] at n1
        exact n1
      · have hd : H3 d = none := by
          rw [upd_ne ne] at n1
          exact n1
        refine kb _ d (fun b o eo => ?_) (s13.free hd) upd_same
        have e' := s13 b o eo
        have nb : b ≠ a := ne_of_none e' ha
        have nd : b ≠ d := ne_of_none e' hd
        rw [upd_ne nd, del_ne nb]
        exact kp b o (by rw [upd_ne nb]; exact e') nb
    · have ht : ¬ Reach hs 1 (.word "taken") := fun z => hc (decide_eq_true ((hin _).mpr z))
      have ef : endFault hs ss = none := by
        unfold endFault
        rw [m1, m2, if_neg ht]
      have he3 : H3 e = some (.ins D dx []) := s13 _ _ he
      have nh1 : h1 ≠ e := hl1.ne he
      have nh2 : h2 ≠ e := hl2.ne he
      have hn1 : xs.length ≤ 100 := by
        rw [hR1.len]
        exact g2
      have hn2 : ys.length ≤ 100 := by
        rw [hR2.len]
        exact q2
      -- self.hearer_rows
      refine ⟨_, rfl, h1, xs, rfl, hl1.same s13, fun t1 H31 s31 e31 => ?_⟩
      have he31 := s31 _ _ he3
      have nt1 : t1 ≠ e := ne_of e31 he31 (by intro z; cases z)
      refine ⟨_, rfl, e, D, dx, _, rfl, he31, T.clD, T.n1, (by show 0 < 1000; decide), ?_⟩
      generalize eh4 : upd H31 e _ = H4
      have he4 : H4 e = some (.ins D dx (putF "hearer_rows" (.ref t1) [])) := by rw [← eh4]; exact upd_same
      have b4 : But e H3 H4 := by rw [← eh4]; exact (But.same s31).trans But.upd
      have et1 : H4 t1 = some (.tup xs) := by rw [← eh4, upd_ne nt1]; exact e31
      have c4 : But e H H4 := (But.same s13).trans b4
      -- self.sender_rows
      refine ⟨_, rfl, h2, ys, rfl, hl2.but c4 nh2, fun t2 H41 s41 e41 => ?_⟩
      have he41 := s41 _ _ he4
      have nt2 : t2 ≠ e := ne_of e41 he41 (by intro z; cases z)
      refine ⟨_, rfl, e, D, dx, _, rfl, he41, T.clD, T.n2, (by show 1 < 1000; decide), ?_⟩
      generalize eh5 : upd H41 e _ = H5
      have he5 : H5 e = some (.ins D dx (putF "sender_rows" (.ref t2) (putF "hearer_rows" (.ref t1) []))) := by rw [← eh5]; exact upd_same
      have b5 : But e H4 H5 := by rw [← eh5]; exact (But.same s41).trans But.upd
      have et2 : H5 t2 = some (.tup ys) := by rw [← eh5, upd_ne nt2]; exact e41
      have c5 : But e H H5 := c4.trans b5
      -- self.rows
      refine ⟨_, rfl, .str "hearer", h1, xs, rfl, hl1.but c5 nh1, by omega, fun H6 r1 zs s6 hr1 er1 N1 => ?_⟩
      refine ⟨_, rfl, .str "sender", h2, ys, rfl, (hl2.but c5 nh2).same s6, by omega, fun H7 r2 us s7 hr2 er2 N2 => ?_⟩
      have hz : zs.length ≤ 100 := by rw [N1.1]; exact hn1
      have hu : us.length ≤ 100 := by rw [N2.1]; exact hn2
      refine ⟨r1, r2, zs, us, rfl, rfl, s7 _ _ er1, er2, Nat.le_trans (by omega : zs.length + us.length ≤ 200) (by decide), fun r3 hr3 => ?_⟩
      generalize eh8 : upd H7 r3 _ = H8
      have s8 : Same H7 H8 := by rw [← eh8]; exact Sb.Same.upd hr3
      have er3 : H8 r3 = some (.lst (zs ++ us)) := by rw [← eh8]; exact upd_same
      have s58 : Same H5 H8 := (s6.trans s7).trans s8
      have he8 : H8 e = some _ := s58 _ _ he5
      refine ⟨r3, _, rfl, .inl ⟨SqL.of er3, fun t3 ht3 => ?_⟩⟩
      refine ⟨_, rfl, e, D, dx, _, rfl, by rw [upd_ne (ne_of_none he8 ht3)]; exact he8, T.clD, T.n3, (by show 2 < 1000; decide), ?_⟩
      generalize eh9 : upd (upd H8 t3 _) e _ = H9
      have he9 : H9 e = some (.ins D dx (endF t1 t2 t3)) := by rw [← eh9]; exact upd_same
      have b9 : But e H8 H9 := by rw [← eh9]; exact (But.same (Sb.Same.upd ht3)).trans But.upd
      have nt3 : t3 ≠ e := Ne.symm (ne_of_none he8 ht3)
      have et3 : H9 t3 = some (.tup (zs ++ us)) := by rw [← eh9, upd_ne nt3]; exact upd_same
      have c9 : But e H H9 := (c5.trans (But.same s58)).trans b9
      have b59 : But e H5 H9 := (But.same s58).trans b9
      have noE : ∀ {H' : Hp} {fs : List (Str × V)}, H' e = some (.ins D dx fs) → ∀ zs, H' e ≠ some (.tup zs) := fun h zs z => by
        rw [h] at z
        cases Option.some.inj z
      have keepN : ∀ {H' : Hp} {part : V} {as bs : List V} {fs : List (Str × V)}, H' e = some (.ins D dx fs) → But e H' H9 → Numbered H' part as bs → Numbered H9 part as bs := fun hE b N => ⟨N.1, fun i v z => by
        obtain ⟨a, e1, e2⟩ := N.2 i v z
        exact ⟨a, e1, b _ _ e2 (ne_of e2 hE (by intro z; cases z))⟩⟩
      refine kQ ef H9 ⟨dx, t1, t2, t3, xs, ys, zs, us, he9, b59 _ _ (b5 _ _ et1 nt1) nt1, hR1.but c9 (noE he), b59 _ _ et2 nt2, hR2.but c9 (noE he), et3, ?_, ?_⟩ c9
      · exact keepN ((s7.trans s8) _ _ (s6 _ _ he5)) ((But.refl).trans b9 |> fun _ => b9) (N1.same (s7.trans s8))
      · exact keepN (s8 _ _ (s7 _ _ (s6 _ _ he5))) b9 (N2.same s8)
theorem EndAt.same {D e : Addr} {H H1 : Hp} {hs ss : List Row} (h : EndAt D H e hs ss) (s : Same H H1) : EndAt D H1 e hs ss := by
  obtain ⟨dx, t1, t2, t3, xs, ys, zs, us, he, e1, r1, e2, r2, e3, n1, n2⟩ := h
  exact ⟨dx, t1, t2, t3, xs, ys, zs, us, s _ _ he, s _ _ e1, r1.same s, s _ _ e2, r2.same s, s _ _ e3, n1.same s, n2.same s⟩
theorem free_but {H H1 : Hp} {p t : Addr} {n : Nat} (b : But p H H1) (hB : Bag H1 p n) (h : H1 t = none) : H t = none := by
  cases e : H t with
  | none => rfl
  | some o =>
    by_cases c : t = p
    · obtain ⟨g, x, y, e1, _⟩ := hB
      rw [c, e1] at h
      cases h
    · rw [b _ _ e c] at h
      cases h
theorem EndAt.but {D e p : Addr} {H H1 : Hp} {n : Nat} {hs ss : List Row} (h : EndAt D H e hs ss) (b : But p H H1) (hB : Bag H p n) (ne : e ≠ p) : EndAt D H1 e hs ss := by
  obtain ⟨dx, t1, t2, t3, xs, ys, zs, us, he, e1, r1, e2, r2, e3, n1, n2⟩ := h
  have nt : ∀ {t : Addr} {xs : List V}, H t = some (.tup xs) → t ≠ p := fun z e => hB.no _ (by rw [← e]; exact z)
  have kn : ∀ {part : V} {as bs : List V}, Numbered H part as bs → Numbered H1 part as bs := fun N => ⟨N.1, fun i v z => by
    obtain ⟨a, e1, e2⟩ := N.2 i v z
    exact ⟨a, e1, b _ _ e2 (nt e2)⟩⟩
  exact ⟨dx, t1, t2, t3, xs, ys, zs, us, b _ _ he ne, b _ _ e1 (nt e1), r1.but b hB.no, b _ _ e2 (nt e2), r2.but b hB.no, b _ _ e3 (nt e3), kn n1, kn n2⟩

end K01

set_option Elab.async false
set_option linter.all false
set_option maxRecDepth 100000
set_option maxHeartbeats 4000000
namespace K01
open PySem L2 Sb
variable {P : Program} {w : World} {K : PySem.W.Frag} {mg : Str → Option Value} {base : Heap}
/-- place(bag, many, words): what follows in a row -/
def spPlaceW : Sp := fun vs H Q _ => ∃ (p wa : Addr) (n many : Nat) (w0 w1 : Str), vs = [.ref p, .int many, .ref wa] ∧ H wa = some (.lst [.str w0, .str w1]) ∧ wa ≠ p ∧ Bag H p n ∧ n < 1000000 ∧ 0 < many ∧ many ≤ 1000 ∧
  ∀ (H' : Hp) (x : Pl), x.Ok many [w0, w1] → Bag H' p (n + 1) → But p H H' → Q x.v H'
theorem ok_placew {f fT : Addr} {fd fdT : FuncData} (F : Fun K "_law_place" "_law_place" sL_place f fd) (T : Txt K mg) (G__law_take : Fx P w K mg base CX0 1 "_law_take" fT fdT ["_law_bag_here", "_law_many"] spTake) :
    FnOk P w K mg base CX0 2 f fd ["_law_bag_here", "_law_many", "_law_words"] spPlaceW := by
  refine F.ok scL_place (fun vs H Q E h => ?_) (fun cdv A outer s H vs Q E hr h => ?_)
  · obtain ⟨p, wa, n, m, w0, w1, rfl, _⟩ := h
    rfl
  · obtain ⟨p, wa, n, m, w0, w1, rfl, hw, nwp, hB, hn, m0, m1, k⟩ := h
    refine ⟨_, (pss_cons (ps_set (i := 3) scL_place.nd rfl (Or.inl rfl) (pe_call G__law_take.ok (hr.mono (by decide)) rfl G__law_take.mg G__law_take.kp G__law_take.bd .nil pass0 (pa_cons (pv 0) (pa_cons (pe_op op_add (pv 1) pe_int) pa_nil))))
  (pss_one (ps_ret (pe_ifExp (pt_cmpR op_lt (pv 3) (pv 1) (nomark _)) (pv 3) (pe_ix ix_list (pv 2) (pe_op op_mod (pe_callTy call_int1 (by rfl) T.b_int (by decide +kernel) (pa_cons (pv 3) pa_nil)) pe_int) (fun _ _ => rfl)))))), ?_⟩
    refine ⟨_, rfl, _, rfl, _, _, rfl, rfl, p, n, _, rfl, hB, by omega, by omega, by omega, fun H1 d d0 d1 hB1 s1 => ?_⟩
    refine ⟨_, rfl, _, rfl, _, _, rfl, rfl, _, rfl, ?_⟩
    refine ite2 (fun hc => ?_) (fun hc => ?_)
    · have hd : d < (m : Int) := of_decide_eq_true hc
      obtain ⟨j, rfl⟩ : ∃ j : Nat, d = (j : Int) := ⟨d.toNat, by omega⟩
      exact ⟨_, rfl, k H1 (.num j) (by show j < m; omega) hB1 s1⟩
    · have hw1 := s1 _ _ hw nwp
      have e2 : d % 2 = 0 ∨ d % 2 = 1 := by omega
      refine ⟨_, rfl, _, rfl, .inl ⟨_, rfl, _, _, rfl, rfl, (by show (0 : Int) < 2; decide), ?_⟩⟩
      rcases e2 with e | e
      · exact ⟨wa, _, _, _, rfl, rfl, SqL.of hw1, by rw [e]; exact atI_nat (j := 0) rfl, k H1 (.word w0) (by show w0 ∈ [w0, w1]; simp) hB1 s1⟩
      · exact ⟨wa, _, _, _, rfl, rfl, SqL.of hw1, by rw [e]; exact atI_nat (j := 1) rfl, k H1 (.word w1) (by show w1 ∈ [w0, w1]; simp) hB1 s1⟩

end K01

set_option Elab.async false
set_option linter.all false
set_option maxRecDepth 100000
set_option maxHeartbeats 4000000
namespace K01
open PySem L2 Sb
variable {P : Program} {w : World} {K : PySem.W.Frag} {mg : Str → Option Value} {base : Heap}
theorem noTupL {H : Hp} {a : Addr} {xs : List V} (h : H a = some (.lst xs)) (zs : List V) : H a ≠ some (.tup zs) := fun z => by
  rw [h] at z
  cases Option.some.inj z
/-- rows(bag, many, words): a machine -/
def spRows : Sp := fun vs H Q _ => ∃ (p wa : Addr) (n many : Nat) (w0 w1 : Str), vs = [.ref p, .int many, .ref wa] ∧ H wa = some (.lst [.str w0, .str w1]) ∧ wa ≠ p ∧ Bag H p n ∧ n + 3 * many ≤ 1000000 ∧ 0 < many ∧ many ≤ 1000 ∧
  ∀ (H' : Hp) (q : Addr) (xs : List V) (rs : List Row), Bag H' p (n + 3 * many) → But p H H' → H q = none → H' q = some (.lst xs) → RowsV H' xs rs → rs.length = many → (∀ r, r ∈ rs → r.Ok many [w0, w1]) → Q (.ref q) H'
theorem ok_rows {f fT fP : Addr} {fd fdT fdP : FuncData} (F : Fun K "_law_rows" "_law_rows" sL_rows f fd) (T : Txt K mg) (G__law_take : Fx P w K mg base CX0 1 "_law_take" fT fdT ["_law_bag_here", "_law_many"] spTake)
    (G__law_place : Fx P w K mg base CX0 2 "_law_place" fP fdP ["_law_bag_here", "_law_many", "_law_words"] spPlaceW) : FnOk P w K mg base CX0 3 f fd ["_law_bag_here", "_law_many", "_law_words"] spRows := by
  refine F.ok scL_rows (fun vs H Q E h => ?_) (fun cdv A outer s H vs Q E hr h => ?_)
  · obtain ⟨p, wa, n, m, w0, w1, rfl, _⟩ := h
    rfl
  · obtain ⟨p, wa, n, m, w0, w1, rfl, hw, nwp, hB, hn, m0, m1, k⟩ := h
    refine ⟨_, (pss_one (ps_ret (pe_lc (own := [("_law_k", 3)]) (g := (gName 3)) (tt := tYes) rfl scL_rows.nd (pi_range1 (by rfl) T.b_range (pa_cons (pv 1) pa_nil)) (blkOk_by (N := ["_law_bag_here", "_law_many", "_law_words", "_law_k"]) (own := [("_law_k", 3)]) (sc := defScope sL_rows) (by decide +kernel)) (fun _ _ _ _ _ => (pg_name (i := 3) scL_rows.nd rfl (Or.inl rfl))) (fun _ _ _ _ _ => pts_nil) (fun _ _ _ _ _ => (pe_tup (pa_cons (pe_call G__law_take.ok (hr.mono (by decide)) rfl G__law_take.mg G__law_take.kp G__law_take.bd .nil pass0 (pa_cons (pv 0) (pa_cons pe_int pa_nil))) (pa_cons (pe_call G__law_place.ok (hr.mono (by decide)) rfl G__law_place.mg G__law_place.kp G__law_place.bd .nil pass0 (pa_cons (pv 0) (pa_cons (pv 1) (pa_cons (pv 2) pa_nil)))) (pa_cons (pe_call G__law_place.ok (hr.mono (by decide)) rfl G__law_place.mg G__law_place.kp G__law_place.bd .nil pass0 (pa_cons (pv 0) (pa_cons (pv 1) (pa_cons (pv 2) pa_nil)))) pa_nil)))))))), ?_⟩
    refine ⟨_, rfl, _, rfl, by omega, by omega, fun D hD => lc_range (lo := 0) (n := ((m : Int)).toNat) (fun j H' => ∃ (vs : List V) (rs : List Row), But p H H' ∧ Bag H' p (n + 3 * j) ∧ H' D = some (.lst vs) ∧ RowsV H' vs rs ∧ rs.length = j ∧ (∀ r, r ∈ rs → r.Ok m [w0, w1]))
      ⟨[], [], But.same (Sb.Same.upd hD), hB.same (Sb.Same.upd hD), upd_same, .nil, rfl, fun r hr => by simp at hr⟩ ?_ ?_⟩
    · have npD : D ≠ p := by
        obtain ⟨g, b, c, e, _⟩ := hB
        exact Ne.symm (ne_of_none e hD)
      rintro j H6 hj ⟨vs, rs, s6, hB6, eD6, hR6, hrl, hrok⟩
      have hw6 := s6 _ _ hw nwp
      refine ⟨rfl, ?_⟩
      refine ⟨_, rfl, p, _, 2, rfl, hB6, by omega, by decide, by decide, fun H7 d7 d70 d71 hB7 b7 => ?_⟩
      obtain ⟨put, rfl⟩ : ∃ put : Nat, d7 = (put : Int) := ⟨d7.toNat, by omega⟩
      have hput : put < 2 := by omega
      have hw7 := b7 _ _ hw6 nwp
      refine ⟨_, rfl, _, rfl, _, rfl, p, wa, _, m, w0, w1, rfl, hw7, nwp, hB7, by omega, by omega, by omega, fun H8 xa hxa hB8 b8 => ?_⟩
      refine ⟨_, rfl, _, rfl, _, rfl, p, wa, _, m, w0, w1, rfl, b8 _ _ hw7 nwp, nwp, hB8, by omega, by omega, by omega, fun H9 xb hxb hB9 b9 => ?_⟩
      refine ⟨(by show 3 ≤ sizeLine; decide), fun q hq => ?_⟩
      have b69 : But p H6 H9 := (b7.trans b8).trans b9
      have eD9 : H9 D = some (.lst vs) := b69 _ _ eD6 npD
      have sq : Same H9 (upd H9 q (.tup (Row.vs ⟨put, xa, xb⟩))) := Sb.Same.upd hq
      have hvl : vs.length = j := by rw [hR6.len, hrl]
      refine ⟨vs, sq _ _ eD9, Nat.lt_of_le_of_lt (by omega : vs.length ≤ 1000) (by decide), vs ++ [.ref q], rs ++ [⟨put, xa, xb⟩], fun c o ho hc => ?_, ?_, upd_same, ?_, by simp [hrl], fun r hr' => ?_⟩
      · rw [upd_ne (ne_of_none ho hD)]
        exact sq _ _ (b69 _ _ (s6 _ _ ho hc) hc)
      · obtain ⟨g, b, c, e, r1, r2, r3, r4, r5⟩ := hB9
        refine ⟨g, b, c, by rw [upd_ne (Ne.symm npD)]; exact sq _ _ e, r1, r2, r3, r4, by omega⟩
      · refine RowsV.but But.upd (noTupL (sq _ _ eD9)) ?_
        exact RowsV.snoc ⟨q, rfl, upd_same⟩ ((hR6.but b69 hB6.no).same sq)
      · rcases List.mem_append.mp hr' with z | z
        · exact hrok r z
        · simp at z
          subst z
          exact ⟨by show put = 0 ∨ put = 1; omega, hxa, hxb⟩
    · rintro H6 ⟨vs, rs, s6, hB6, eD6, hR6, hrl, hrok⟩
      exact k H6 D vs rs (hB6.mono (by omega)) s6 hD eD6 hR6 (by omega) hrok

end K01

set_option Elab.async false
set_option linter.all false
set_option maxRecDepth 100000
set_option maxHeartbeats 4000000
namespace K01
open PySem L2 Sb
variable {P : Program} {w : World} {K : PySem.W.Frag} {mg : Str → Option Value} {base : Heap}
/-- led(rows, first): the rows that it leads to -/
def spLed : Sp := fun vs H Q _ => ∃ (l : Addr) (b : Nat) (xs : List V) (rows : List Row) (ws : List Str), vs = [.ref l, .int b] ∧ H l = some (.lst xs) ∧ RowsV H xs rows ∧ b < rows.length ∧ rows.length ≤ 1000 ∧ (∀ r, r ∈ rows → r.Ok rows.length ws) ∧
  ∀ (H' : Hp) (q : Addr) (fs : List Nat), Same H H' → H q = none → H' q = some (.lst (natsV fs)) → fs.Nodup → (∀ i, i ∈ fs ↔ Reach rows b (.num i)) → (∀ i, i ∈ fs → i < rows.length) → Q (.ref q) H'
theorem ok_led {f : Addr} {fd : FuncData} (F : Fun K "_law_led" "_law_led" sL_led f fd) (T : Txt K mg) : FnOk P w K mg base CX0 1 f fd ["_law_rows_here", "_law_first"] spLed := by
  refine F.ok scL_led (fun vs H Q E h => ?_) (fun cdv A outer s H vs Q E hr h => ?_)
  · obtain ⟨l, b, xs, rows, ws, rfl, _⟩ := h
    rfl
  · obtain ⟨l, b, xs, rows, ws, rfl, hl, hR, hb, hsz, hok, k⟩ := h
    refine ⟨_, (pss_cons (ps_par (i := 2) (j := 3) rfl scL_led.nd rfl rfl (by decide) rfl rfl (pa_cons (pe_lst (pa_cons (pv 1) pa_nil)) (pa_cons pe_int pa_nil)) (by rfl))
  (pss_cons (ps_while PassesOwn.never (pt_cmpR op_lt (pv 3) (pe_callB call_len_seq (by rfl) T.b_len (by decide +kernel) (pa_cons (pv 2) pa_nil)) (nomark _)) (pss_cons (ps_for PassesOwn.never rfl (pi_tup (pe_slice sl_tup (pe_ix ix_list (pv 0) (pe_ix ix_list (pv 2) (pv 3) (fun _ _ => rfl)) (fun _ _ => rfl)) (po_some pe_int) po_none)) (pg_name (i := 4) scL_led.nd rfl (Or.inl rfl)) (pss_one (ps_if (PW.pt (pw_and (pt_not (pt_val (pe_callB call_isi (by rfl) T.b_isinstance (by decide +kernel) (pa_cons (pv 4) (pa_cons (pe_bltn (v := .ty "str") (by rfl) T.b_str (by decide +kernel) rfl) pa_nil))))) (pw_and1 (pt_cmpR op_notIn_seq (pv 4) (pv 2) (by rfl))))) (pss_one (ps_expr (pe_bm PySem.F.plainAttrs_list PySem.F.slot_list_append PySem.F.type_list_append mt_append (pv 2) (pa_cons (pv 4) pa_nil)))) pss_nil)))
  (pss_one (ps_set (i := 3) scL_led.nd rfl (Or.inl rfl) (pe_op op_add (pv 3) pe_int)))))
  (pss_one (ps_ret (pv 2))))), ?_⟩
    refine ⟨_, rfl, (by show 1 ≤ sizeLine; decide), fun fa hfa => ⟨_, _, rfl, ?_⟩⟩
    refine ⟨fun m σ H' => ∃ (fs : List Nat) (t : Nat) (v4 : Option V), σ = [some (.ref l), some (.int b), some (.ref fa), some (.int t), v4] ∧ Same H H' ∧ H' fa = some (.lst (natsV fs)) ∧ LInv rows b fs t ∧ t ≤ fs.length ∧ m = rows.length - t,
      ⟨_, [b], 0, none, rfl, Sb.Same.upd hfa, upd_same, LInv.begin hb, Nat.zero_le _, rfl⟩, ?_⟩
    rintro m σ H2 ⟨fs, t, v4, rfl, s2, ef, I, ht, rfl⟩
    have hfl : fs.length ≤ rows.length := nodup_len I.nd I.small
    refine ⟨_, rfl, _, rfl, fa, _, rfl, .inl (SqL.of ef), _, _, rfl, rfl, _, rfl, ?_⟩
    rw [natsV_len]
    refine ite2 (fun hc => ?_) (fun hc => ?_)
    · have htl : t < fs.length := by
        have : (t : Int) < (fs.length : Int) := of_decide_eq_true hc
        omega
      obtain ⟨i, hi⟩ : ∃ i, fs[t]? = some i := ⟨fs[t], List.getElem?_eq_getElem htl⟩
      have hif := List.mem_of_getElem? hi
      obtain ⟨r, hr⟩ : ∃ r, rows[i]? = some r := ⟨rows[i]'(I.small i hif), List.getElem?_eq_getElem (I.small i hif)⟩
      obtain ⟨v, hv, hva⟩ := hR.get' i r hr
      obtain ⟨ra, rfl, hra⟩ := RowAt.same s2 hva
      have hrok := hok r (List.mem_of_getElem? hr)
      refine ⟨fun σ' H' => ∃ m', m' < rows.length - t ∧ ∃ (fs : List Nat) (t : Nat) (v4 : Option V), σ' = [some (.ref l), some (.int b), some (.ref fa), some (.int t), v4] ∧ Same H H' ∧ H' fa = some (.lst (natsV fs)) ∧ LInv rows b fs t ∧ t ≤ fs.length ∧ m' = rows.length - t, fun _ _ z => z, ?_⟩
      refine ⟨_, rfl, _, rfl, _, rfl, fa, _, _, _, rfl, rfl, SqL.of ef, atI_nat (natsV_get hi), l, _, _, _, rfl, rfl, SqL.of (s2 _ _ hl), atI_nat hv, _, rfl, ?_⟩
      refine ⟨ra, _, rfl, SqT.of hra, (by intro z; have z1 : HT.sIx 3 0 (some 1) = 0 := z.1; revert z1; decide), fun q hq => ?_⟩
      generalize eh4 : upd H2 q _ = H4
      have t4 : Same H2 H4 := by rw [← eh4]; exact Sb.Same.upd hq
      have q4 : H4 q = some (.tup [r.a.v, r.b.v]) := by rw [← eh4]; exact upd_same
      refine ⟨q, rfl, ⟨_, SqT.of q4⟩, for_tup (K := K) (a := q) (xs := [r.a.v, r.b.v]) (fun j σ' H' => ∃ (fs' : List Nat) (v4 : Option V), σ' = [some (.ref l), some (.int b), some (.ref fa), some (.int t), v4] ∧ Same H H' ∧ H' fa = some (.lst (natsV fs')) ∧ H' q = some (.tup [r.a.v, r.b.v]) ∧
          LInv rows b fs' t ∧ fs'[t]? = some i ∧ ∀ x, x ∈ [r.a, r.b].take j → ∀ c, x = .num c → c ∈ fs')
        ⟨fs, v4, rfl, s2.trans t4, t4 _ _ ef, q4, I, hi, fun x hx => by simp at hx⟩ (fun j σ' H' _ ⟨_, _, _, _, _, z, _⟩ => SqT.of z) ?_ ?_⟩
      · rintro j y σ' H5 hy ⟨fs', v4, rfl, s5, ef5, eq5, I5, hi5, hd5⟩
        obtain ⟨x, rfl, hx, htk⟩ : ∃ x : Pl, y = x.v ∧ (x = r.a ∨ x = r.b) ∧ [r.a, r.b].take (j + 1) = [r.a, r.b].take j ++ [x] := by
          match j, hy with
          | 0, h => exact ⟨r.a, (Option.some.inj h).symm, .inl rfl, rfl⟩
          | 1, h => exact ⟨r.b, (Option.some.inj h).symm, .inr rfl, rfl⟩
          | j + 2, h => simp at h
        have hfl5 : fs'.length ≤ rows.length := nodup_len I5.nd I5.small
        cases x with
        | word z =>
          refine ⟨_, rfl, _, _, _, _, true, rfl, .ty _, .base (.str _), kit_ty (by decide +kernel), true, rfl, iteF (iteF ?_)⟩
          refine ⟨fs', _, rfl, s5, ef5, eq5, I5, hi5, fun x hx' c e => ?_⟩
          rw [htk] at hx'
          rcases List.mem_append.mp hx' with h | h
          · exact hd5 x h c e
          · simp at h
            rw [h] at e
            cases e
        | num c =>
          refine ⟨_, rfl, _, _, _, _, false, rfl, .ty _, .base (.int _), kit_ty (by decide +kernel), false, rfl, iteT ?_⟩
          refine ⟨_, rfl, _, rfl, fa, _, rfl, .inl (SqL.of ef5), rfl, flat_nats _, _, rfl, ?_⟩
          show if (!inV (.int (c : Int)) (natsV fs')) = true then _ else _
          rw [inV_nat]
          by_cases hin : c ∈ fs'
          · rw [decide_eq_true hin]
            refine iteF ⟨fs', _, rfl, s5, ef5, eq5, I5, hi5, fun x hx' c' e => ?_⟩
            rw [htk] at hx'
            rcases List.mem_append.mp hx' with h | h
            · exact hd5 x h c' e
            · simp at h
              rw [h] at e
              cases e
              exact hin
          · rw [decide_eq_false hin]
            have hcs : c < rows.length := by
              rcases hx with e | e
              · have := hrok.2.1
                rw [← e] at this
                exact this
              · have := hrok.2.2
                rw [← e] at this
                exact this
            refine iteT ⟨_, rfl, .inl ⟨rfl, _, SqL.of ef5⟩, _, rfl, fa, _, _, rfl, rfl, ef5, by rw [natsV_len]; exact Nat.lt_of_le_of_lt (by omega : fs'.length ≤ 1000) (by decide), ?_⟩
            refine ⟨fs' ++ [c], _, rfl, fun d o ho => by rw [upd_ne (ne_of_none ho hfa)]; exact s5 _ _ ho, by rw [upd_same, ← natsV_snoc]; rfl, by rw [upd_ne (ne_of eq5 ef5 (by intro z; cases z))]; exact eq5,
              I5.add (List.mem_of_getElem? hi5) ⟨r, hr, hx⟩ hin hcs (by have := (List.getElem?_eq_some_iff.mp hi5).1; omega), ?_, fun x hx' c' e => ?_⟩
            · rw [List.getElem?_append_left (List.getElem?_eq_some_iff.mp hi5).1]
              exact hi5
            · rw [htk] at hx'
              rcases List.mem_append.mp hx' with h | h
              · exact List.mem_append_left _ (hd5 x h c' e)
              · simp at h
                rw [h] at e
                cases e
                simp
      · rintro σ' H5 ⟨fs', v4, rfl, s5, ef5, eq5, I5, hi5, hd5⟩
        have htl5 := (List.getElem?_eq_some_iff.mp hi5).1
        refine ⟨_, rfl, _, _, rfl, rfl, _, ?_, fs', t + 1, _, rfl, s5, ef5, I5.next hi5 fun j hj => ?_, by omega, rfl⟩
        · omega
        · obtain ⟨r', hr', hp⟩ := hj
          rw [hr] at hr'
          cases hr'
          exact hd5 (.num j) (by rcases hp with h | h <;> simp [h]) j rfl
    · have htl : fs.length ≤ t := by
        have : ¬ (t : Int) < (fs.length : Int) := fun z => hc (decide_eq_true z)
        omega
      exact ⟨_, rfl, k H2 fa fs s2 hfa ef I.nd (fun i => I.all htl i) I.small⟩

end K01

set_option Elab.async false
set_option linter.all false
set_option maxRecDepth 100000
set_option maxHeartbeats 4000000
namespace K01
open PySem L2 Sb
variable {P : Program} {w : World} {K : PySem.W.Frag} {mg : Str → Option Value} {base : Heap}
theorem RowsV.set {H : Hp} {v : V} {r : Row} (x : RowAt H v r) : ∀ {vs : List V} {rs : List Row} (i : Nat), RowsV H vs rs → RowsV H (vs.set i v) (rs.set i r)
  | _, _, _, .nil => .nil
  | _, _, 0, .cons _ t => .cons x t
  | _, _, i + 1, .cons h t => .cons h (RowsV.set x i t)
theorem ixN_nat {n j : Nat} (h : j < n) : ixN n (j : Int) = some j := by
  unfold ixN
  simp [seqIndex?, h]
theorem same_but {H H1 H2 : Hp} {p : Addr} (s : Same H H1) (b : But p H1 H2) (hp : H p = none) : Same H H2 := fun c o h => b _ _ (s _ _ h) (ne_of_none h hp)
/-- 'lost' if x == 'taken' else x -/
theorem un_v (x : Pl) : (if decide (x.v = V.str "taken") = true then V.str "lost" else x.v) = (unTaken x).v := by
  cases x with
  | num n => rfl
  | word s =>
    rw [unTaken_word]
    by_cases h : s = "taken"
    · rw [if_pos h, h]
      rfl
    · rw [if_neg h]
      have e : decide ((Pl.word s).v = V.str "taken") = false := decide_eq_false fun z => h (V.str.inj z)
      rw [e]
      rfl
/-- hearer(bag, many): a machine of a hearer whose body's row leads to no "taken" -/
def spHearer : Sp := fun vs H Q _ => ∃ (p : Addr) (n many : Nat), vs = [.ref p, .int many] ∧ Bag H p n ∧ n + 3 * many ≤ 1000000 ∧ 2 ≤ many ∧ many ≤ 100 ∧
  ∀ (H' : Hp) (q : Addr) (xs : List V) (rs : List Row), Bag H' p (n + 3 * many) → But p H H' → H q = none → H' q = some (.lst xs) → RowsV H' xs rs → rs.length = many → HearerOk rs → Q (.ref q) H'
theorem ok_hearer {f fR fL : Addr} {fd fdR fdL : FuncData} (F : Fun K "_law_hearer" "_law_hearer" sL_hearer f fd) (T : Txt K mg) (G__law_rows : Fx P w K mg base CX0 3 "_law_rows" fR fdR ["_law_bag_here", "_law_many", "_law_words"] spRows)
    (G__law_led : Fx P w K mg base CX0 1 "_law_led" fL fdL ["_law_rows_here", "_law_first"] spLed) : FnOk P w K mg base CX0 4 f fd ["_law_bag_here", "_law_many"] spHearer := by
  refine F.ok scL_hearer (fun vs H Q E h => ?_) (fun cdv A outer s H vs Q E hr h => ?_)
  · obtain ⟨p, n, m, rfl, _⟩ := h
    rfl
  · obtain ⟨p, n, m, rfl, hB, hn, m2, m1, k⟩ := h
    refine ⟨_, (pss_cons (ps_set (i := 2) scL_hearer.nd rfl (Or.inl rfl) (pe_call G__law_rows.ok (hr.mono (by decide)) rfl G__law_rows.mg G__law_rows.kp G__law_rows.bd .nil pass0 (pa_cons (pv 0) (pa_cons (pv 1) (pa_cons (pe_lst (pa_cons pe_str (pa_cons pe_str pa_nil))) pa_nil)))))
  (pss_cons (ps_for PassesOwn.never rfl (pi_list (pe_call G__law_led.ok (hr.mono (by decide)) rfl G__law_led.mg G__law_led.kp G__law_led.bd .nil pass0 (pa_cons (pv 2) (pa_cons pe_int pa_nil)))) (pg_name (i := 3) scL_hearer.nd rfl (Or.inl rfl)) (pss_cons (ps_asg (pe_ix ix_list (pv 2) (pv 3) (fun _ _ => rfl)) (pg_tup rfl (pgs_cons (pg_name (i := 4) scL_hearer.nd rfl (Or.inl rfl)) (pgs_cons (pg_name (i := 5) scL_hearer.nd rfl (Or.inl rfl)) (pgs_cons (pg_name (i := 6) scL_hearer.nd rfl (Or.inl rfl)) pgs_nil)))))
  (pss_one (ps_asg (pe_tup (pa_cons (pv 4) (pa_cons (pe_ifExp (pt_cmpR op_eq (pv 5) pe_str (nomark _)) pe_str (pv 5)) (pa_cons (pe_ifExp (pt_cmpR op_eq (pv 6) pe_str (nomark _)) pe_str (pv 6)) pa_nil)))) (pg_sub (pv 2) (pv 3) set_list)))))
  (pss_one (ps_ret (pv 2))))), ?_⟩
    obtain ⟨g0, b0, c0, ebag, _⟩ := id hB
    refine ⟨_, rfl, _, rfl, (by show 2 ≤ sizeLine; decide), fun wa hwa => ?_⟩
    have sw : Same H (upd H wa (.lst [.str "taken", .str "lost"])) := Sb.Same.upd hwa
    refine ⟨p, wa, n, m, "taken", "lost", rfl, upd_same, Ne.symm (ne_of_none ebag hwa), hB.same sw, hn, by omega, by omega, fun H1 q xs rs hB1 b1 hq eq hR hrl hrok => ?_⟩
    have hq0 : H q = none := sw.free hq
    have c1 : But p H H1 := (But.same sw).trans b1
    have npq : q ≠ p := Ne.symm (ne_of_none ebag hq0)
    have hrok' : ∀ r, r ∈ rs → r.Ok rs.length hearerWords := by rw [hrl]; exact hrok
    refine ⟨_, rfl, q, 1, xs, rs, hearerWords, rfl, eq, hR, by omega, by omega, hrok', fun H2 fa fs s2 hfa ef nd hin hsm => ?_⟩
    have nfq : fa ≠ q := Ne.symm (ne_of_none eq hfa)
    refine ⟨fa, rfl, ⟨_, SqL.of ef⟩, for_list (K := K) (a := fa) (xs := natsV fs) (fun b σ' H' => ∃ (xs' : List V) (v3 v4 v5 v6 : Option V), σ' = [some (.ref p), some (.int m), some (.ref q), v3, v4, v5, v6] ∧ But q H2 H' ∧ H' q = some (.lst xs') ∧ RowsV H' xs' (unRows rs (fs.take b)))
      ⟨xs, none, none, none, none, rfl, But.refl, s2 _ _ eq, hR.same s2⟩ (fun b σ' H' _ ⟨_, _, _, _, _, _, z, _, _⟩ => SqL.of (z _ _ ef nfq)) ?_ ?_⟩
    · rintro b y σ' H3 hy ⟨xs', v3, v4, v5, v6, rfl, b3, eq3, hR3⟩
      obtain ⟨i, hi, rfl⟩ : ∃ i : Nat, fs[b]? = some i ∧ y = V.int (i : Int) := by
        unfold natsV at hy
        rw [List.getElem?_map] at hy
        cases e : fs[b]? with
        | none =>
          rw [e] at hy
          cases hy
        | some i =>
          rw [e] at hy
          exact ⟨i, rfl, (Option.some.inj hy).symm⟩
      have hib : i < rs.length := hsm i (List.mem_of_getElem? hi)
      have hlen : (unRows rs (fs.take b)).length = rs.length := unRows_len _ _
      obtain ⟨r, hr⟩ : ∃ r, (unRows rs (fs.take b))[i]? = some r := ⟨_, List.getElem?_eq_getElem (by rw [hlen]; exact hib)⟩
      obtain ⟨v, hv, ra, rfl, hra⟩ := hR3.get' i r hr
      have hxl : i < xs'.length := by
        rw [hR3.len, hlen]
        exact hib
      refine ⟨_, rfl, _, rfl, q, _, _, _, rfl, rfl, SqL.of eq3, atI_nat hv, ra, _, rfl, SqT.of hra, rfl, _, _, rfl, _, _, rfl, _, _, rfl, rfl, ?_⟩
      have sc : ∀ x : Pl, scal x.v (V.str "taken") = true := fun x => by cases x <;> rfl
      have un : ∀ (x : Pl) (R : VK) (H' : Hp), R (unTaken x).v H' → (if decide (x.v = V.str "taken") = true then tC (.str "lost") [] H' R else R x.v H') := fun x R H' h => by
        rw [← un_v] at h
        by_cases c : decide (x.v = V.str "taken") = true
        · rw [if_pos c] at h ⊢
          exact h
        · rw [if_neg c] at h ⊢
          exact h
      refine ⟨_, rfl, _, rfl, sc r.a, _, rfl, ?_⟩
      have h1 : ∀ {A B : Prop} {x : Pl}, (x.v = V.str "taken" → unTaken x = .word "lost" → A) → (¬ x.v = V.str "taken" → unTaken x = x → B) → if decide (x.v = V.str "taken") = true then A else B := by
        intro A B x ha hb'
        cases x with
        | num n => exact iteF (hb' (fun z => by cases z) rfl)
        | word s =>
          by_cases c : s = "taken"
          · subst c
            refine ite2 (fun _ => ha rfl rfl) (fun z => absurd (decide_eq_true rfl) z)
          · refine ite2 (fun z => absurd (V.str.inj (of_decide_eq_true z)) c) (fun _ => hb' (fun z => c (V.str.inj z)) ?_)
            rw [unTaken_word, if_neg c]
      have step : ∀ (w1 w2 : V), w1 = (unTaken r.a).v → w2 = (unTaken r.b).v → [V.int (r.put : Int), w1, w2].length ≤ sizeLine ∧ ∀ t1, H3 t1 = none → ∃ (xs'' : List V) (v3 v4 v5 v6 : Option V), [some (V.ref p), some (.int m), some (.ref q), some (.int (i : Int)), some (.int (r.put : Int)), some r.a.v, some r.b.v] = [some (.ref p), some (.int m), some (.ref q), v3, v4, v5, v6] ∧
          But q H2 (upd (upd H3 t1 (.tup [V.int (r.put : Int), w1, w2])) q (.lst (xs'.set i (.ref t1)))) ∧ (upd (upd H3 t1 (.tup [V.int (r.put : Int), w1, w2])) q (.lst (xs'.set i (.ref t1)))) q = some (.lst xs'') ∧
          RowsV (upd (upd H3 t1 (.tup [V.int (r.put : Int), w1, w2])) q (.lst (xs'.set i (.ref t1)))) xs'' (unRows rs (fs.take (b + 1))) := by
        rintro w1 w2 rfl rfl
        refine ⟨(by show 3 ≤ sizeLine; decide), fun t1 ht1 => ⟨xs'.set i (.ref t1), _, _, _, _, rfl, fun c o ho hc => ?_, upd_same, ?_⟩⟩
        · rw [upd_ne hc]
          exact Sb.Same.upd ht1 _ _ (b3 _ _ ho hc)
        · have etk : fs.take (b + 1) = fs.take b ++ [i] := by
            rw [List.take_add_one, hi]
            rfl
          rw [etk, unRows_snoc, hr]
          have s4 : Same H3 (upd H3 t1 (.tup (unRow r).vs)) := Sb.Same.upd ht1
          exact RowsV.but But.upd (noTup (s4 _ _ eq3)) (RowsV.set ⟨t1, rfl, upd_same⟩ _ (hR3.same s4))
      have hix : ∀ t1 w1 w2, H3 t1 = none → (upd H3 t1 (.tup [V.int (r.put : Int), w1, w2])) q = some (.lst xs') := fun t1 w1 w2 ht1 => by rw [upd_ne (ne_of_none eq3 ht1)]; exact eq3
      refine h1 (fun _ e1 => ?_) (fun _ e1 => ?_)
      · refine ⟨_, rfl, sc r.b, _, rfl, h1 (fun _ e2 => ?_) (fun _ e2 => ?_)⟩
        · obtain ⟨z1, z2⟩ := step (.str "lost") (.str "lost") (by rw [e1]; rfl) (by rw [e2]; rfl)
          exact ⟨z1, fun t1 ht1 => ⟨_, rfl, _, rfl, q, xs', _, _, rfl, rfl, hix _ _ _ ht1, ixN_nat hxl, z2 t1 ht1⟩⟩
        · obtain ⟨z1, z2⟩ := step (.str "lost") r.b.v (by rw [e1]; rfl) (by rw [e2])
          exact ⟨_, rfl, z1, fun t1 ht1 => ⟨_, rfl, _, rfl, q, xs', _, _, rfl, rfl, hix _ _ _ ht1, ixN_nat hxl, z2 t1 ht1⟩⟩
      · refine ⟨_, rfl, _, rfl, sc r.b, _, rfl, h1 (fun _ e2 => ?_) (fun _ e2 => ?_)⟩
        · obtain ⟨z1, z2⟩ := step r.a.v (.str "lost") (by rw [e1]) (by rw [e2]; rfl)
          exact ⟨z1, fun t1 ht1 => ⟨_, rfl, _, rfl, q, xs', _, _, rfl, rfl, hix _ _ _ ht1, ixN_nat hxl, z2 t1 ht1⟩⟩
        · obtain ⟨z1, z2⟩ := step r.a.v r.b.v (by rw [e1]) (by rw [e2])
          exact ⟨_, rfl, z1, fun t1 ht1 => ⟨_, rfl, _, rfl, q, xs', _, _, rfl, rfl, hix _ _ _ ht1, ixN_nat hxl, z2 t1 ht1⟩⟩
    · rintro σ' H3 ⟨xs', v3, v4, v5, v6, rfl, b3, eq3, hR3⟩
      rw [natsV_len, List.take_length] at hR3
      have el : (unRows rs fs).length = m := by rw [unRows_len, hrl]
      refine ⟨_, rfl, k H3 q xs' (unRows rs fs) ?_ (fun c o ho hc => ?_) hq0 eq3 hR3 el ⟨by omega, by omega, ?_, unRows_body fun i hi => (hin i).mpr hi⟩⟩
      · obtain ⟨g, bb, c, e, r⟩ := hB1
        exact ⟨g, bb, c, b3 _ _ (s2 _ _ e) (Ne.symm npq), r⟩
      · exact b3 _ _ (s2 _ _ (c1 _ _ ho hc)) (ne_of_none ho hq0)
      · rw [el]
        exact unRows_ok (by decide +kernel) hrok
/-- sender(bag, many): a machine of a sender -/
def spSender : Sp := fun vs H Q _ => ∃ (p : Addr) (n many : Nat), vs = [.ref p, .int many] ∧ Bag H p n ∧ n + 3 * many ≤ 1000000 ∧ 1 ≤ many ∧ many ≤ 100 ∧
  ∀ (H' : Hp) (q : Addr) (xs : List V) (rs : List Row), Bag H' p (n + 3 * many) → But p H H' → H q = none → H' q = some (.lst xs) → RowsV H' xs rs → rs.length = many → SenderOk rs → Q (.ref q) H'
theorem ok_sender {f fR : Addr} {fd fdR : FuncData} (F : Fun K "_law_sender" "_law_sender" sL_sender f fd) (G__law_rows : Fx P w K mg base CX0 3 "_law_rows" fR fdR ["_law_bag_here", "_law_many", "_law_words"] spRows) :
    FnOk P w K mg base CX0 4 f fd ["_law_bag_here", "_law_many"] spSender := by
  refine F.ok scL_sender (fun vs H Q E h => ?_) (fun cdv A outer s H vs Q E hr h => ?_)
  · obtain ⟨p, n, m, rfl, _⟩ := h
    rfl
  · obtain ⟨p, n, m, rfl, hB, hn, m2, m1, k⟩ := h
    refine ⟨_, (pss_one (ps_ret (pe_call G__law_rows.ok (hr.mono (by decide)) rfl G__law_rows.mg G__law_rows.kp G__law_rows.bd .nil pass0 (pa_cons (pv 0) (pa_cons (pv 1) (pa_cons (pe_lst (pa_cons pe_str (pa_cons pe_str pa_nil))) pa_nil)))))), ?_⟩
    obtain ⟨g0, b0, c0, ebag, _⟩ := id hB
    refine ⟨_, rfl, _, rfl, (by show 2 ≤ sizeLine; decide), fun wa hwa => ?_⟩
    have sw : Same H (upd H wa (.lst [.str "done", .str "again"])) := Sb.Same.upd hwa
    refine ⟨p, wa, n, m, "done", "again", rfl, upd_same, Ne.symm (ne_of_none ebag hwa), hB.same sw, hn, by omega, by omega, fun H1 q xs rs hB1 b1 hq eq hR hrl hrok => ?_⟩
    exact k H1 q xs rs hB1 ((But.same sw).trans b1) (sw.free hq) eq hR hrl ⟨by omega, by omega, by rw [hrl]; exact hrok⟩

end K01

set_option Elab.async false
set_option linter.all false
set_option maxRecDepth 100000
set_option maxHeartbeats 4000000
namespace K01
open PySem L2 Sb
variable {P : Program} {w : World} {K : PySem.W.Frag} {mg : Str → Option Value} {base : Heap}
theorem ok_hearer_get {f D : Addr} {fd : FuncData} (F : Fun K "hearer" "End.hearer" sEnd_hearer f fd) (c : Cls K D) (n : NoAttr K D "hearer_rows") : FnOk P w K mg base CX0 1 f fd ["self"] (getSp D "hearer_rows") := by
  obtain ⟨oc, od, kV, doc, pm, an, cdv, ct, osl, rfl, at_, cd_⟩ := F.ex
  exact fn_getter at_ cd_ scEnd_hearer rfl rfl c n
theorem ok_sender_get {f D : Addr} {fd : FuncData} (F : Fun K "sender" "End.sender" sEnd_sender f fd) (c : Cls K D) (n : NoAttr K D "sender_rows") : FnOk P w K mg base CX0 1 f fd ["self"] (getSp D "sender_rows") := by
  obtain ⟨oc, od, kV, doc, pm, an, cdv, ct, osl, rfl, at_, cd_⟩ := F.ex
  exact fn_getter at_ cd_ scEnd_sender rfl rfl c n

end K01

set_option Elab.async false
set_option linter.all false
set_option maxRecDepth 100000
set_option maxHeartbeats 4000000
namespace K01
open PySem L2 Sb
variable {P : Program} {w : World} {K : PySem.W.Frag} {mg : Str → Option Value} {base : Heap}
/-- what is asked of the class itself -/
structure ClsO (K : PySem.W.Frag) (D : Addr) : Prop where
  i : (PySem.W.clsIn K D).isSome = true
  t : PySem.W.typeIn K (.ref D) = some (.type "type")
  u : PySem.W.findIn K (.ref D) "__class__" = some (some (.builtin "object.__class__"))
  g : PySem.W.specialIn K (.builtin "object.__class__") "__get__" = some (some (.builtin "getset_descriptor.__get__"))
  k : PySem.W.takesIn K (.builtin "object.__class__") = some true
  m : PySem.W.mroIn K D (.type "object") = some true
theorem kit_self {D : Addr} : PySem.W.kitOne K (.ref D) (.ref D) = some true := by
  unfold PySem.W.kitOne
  rw [if_pos (by simp)]
theorem kit_other {D : Addr} (c : ClsO K D) {n : String} {l : List Value} (e : fastBuiltinMro n = some l) (h : l.contains (.ref D) = false) : PySem.W.kitOne K (.type n) (.ref D) = some false := by
  unfold PySem.W.kitOne
  rw [if_neg (by intro z; cases z)]
  unfold PySem.W.kitCls
  dsimp only
  rw [if_pos (by rw [c.i, c.t]; rfl)]
  show (fastBuiltinMro n).map (·.contains (.ref D)) = some false
  rw [e]
  simpa using h
theorem ok_iter {f D : Addr} {fd : FuncData} (F : Fun K "__iter__" "End.__iter__" sEnd_iter f fd) (T : Txt K mg) (c : Cls K D) (n : NoAttr K D "rows") : FnN P w K mg base CX0 1 f fd ["self"] (spIterOf K D "rows") := by
  refine okN F scEnd_iter (fun n vs H Q E h => ?_) (fun cdv A outer s H vs Q E hr h => ?_)
  · obtain ⟨a, dx, t, fs, xs, rfl, _⟩ := h
    rfl
  · obtain ⟨a, dx, t, fs, xs, rfl, ea, el, et, k⟩ := h
    refine ⟨_, (pss_one (ps_ret (pe_callB call_iterT (by rfl) T.b_iter (by decide +kernel) (pa_cons (pe_fld (pv 0) rfl) pa_nil)))), ?_⟩
    exact ⟨_, rfl, a, D, dx, fs, _, rfl, ea, c, n, el, t, xs, rfl, et, k⟩
/-- an end's == -/
def spEq (K : PySem.W.Frag) (D : Addr) : Sp := fun vs H Q _ => ∃ (a : Addr) (y : V) (hs ss : List Row), vs = [.ref a, y] ∧ EndAt D H a hs ss ∧ (∀ r, r ∈ hs → okRow r) ∧ (∀ r, r ∈ ss → okRow r) ∧
  ((∃ (b : Addr) (hs' ss' : List Row), y = .ref b ∧ EndAt D H b hs' ss' ∧ (∀ r, r ∈ hs' → okRow r) ∧ (∀ r, r ∈ ss' → okRow r) ∧ Q (.bl (decide (hs = hs' ∧ ss = ss'))) H) ∨
   ∃ (n : String) (l : List Value), TyX K H y (.type n) ∧ fastBuiltinMro n = some l ∧ l.contains (.ref D) = false ∧ Q (.bl false) H)
theorem ok_eq {f D hA sA : Addr} {fd : FuncData} (F : Fun K "__eq__" "End.__eq__" sEnd_eq f fd) (TE : TxtE K mg D hA sA) (o : ClsO K D) : FnOk P w K mg base CX0 1 f fd ["self", "other"] (spEq K D) := by
  have T : TxtE K mg D hA sA := TE
  refine F.ok scEnd_eq (fun vs H Q E h => ?_) (fun cdv A outer s H vs Q E hr h => ?_)
  · obtain ⟨a, y, hs, ss, rfl, _⟩ := h
    rfl
  · obtain ⟨a, y, hs, ss, rfl, ⟨dx, t1, t2, t3, xs, ys, zs, us, he, e1, r1, e2, r2, e3, n1, n2⟩, o1, o2, h⟩ := h
    refine ⟨_, (pss_one (ps_ret (pe_and (pe_callB call_isi (by rfl) T.b_isinstance (by decide +kernel) (pa_cons (pv 1) (pa_cons (pe_glob (v := .ref _) (by rfl) T.m_End rfl) pa_nil))) (pe_and (pe_cmpR (op_eqD hr.units) (pe_fld (pv 0) rfl) (pe_fld (pv 1) rfl) (nomark _)) (pe_one (pe_cmpR (op_eqD hr.units) (pe_fld (pv 0) rfl) (pe_fld (pv 1) rfl) (nomark _))))))), ?_⟩
    rcases h with ⟨b, hs', ss', rfl, ⟨dx', t1', t2', t3', xs', ys', zs', us', he', e1', r1', e2', r2', e3', n1', n2'⟩, p1, p2, k⟩ | ⟨n, l, ty, em, no, k⟩
    · refine ⟨_, rfl, _, _, _, _, true, rfl, .own _, .base (.ins he' TE.clD o.u o.g o.k o.m), kit_self, true, rfl, iteT ?_⟩
      have sh : ∀ {rs : List Row}, (∀ r, r ∈ rs → okRow r) → SeqAt.shaped (.tuple (rowsD rs)) = true := fun h => shaped_tup (rowsD_lay h) (by decide)
      refine ⟨_, rfl, a, D, dx, _, _, rfl, he, TE.clD, TE.n1, rfl, _, rfl, b, D, dx', _, _, rfl, he', TE.clD, TE.n1, rfl, _, _, tupD_dp e1 r1, tupD_dp e1' r1', sh o1, sh p1, _, rfl, ?_⟩
      have q1 : PyData.eqv (.tuple (rowsD hs)) (.tuple (rowsD hs')) = decide (hs = hs') := rowsD_eqv hs hs'
      have q2 : PyData.eqv (.tuple (rowsD ss)) (.tuple (rowsD ss')) = decide (ss = ss') := rowsD_eqv ss ss'
      rw [q1]
      refine ite2 (fun h1 => ?_) (fun h1 => ?_)
      · have h1' : hs = hs' := of_decide_eq_true h1
        refine ⟨_, rfl, a, D, dx, _, _, rfl, he, TE.clD, TE.n2, rfl, _, rfl, b, D, dx', _, _, rfl, he', TE.clD, TE.n2, rfl, _, _, tupD_dp e2 r2, tupD_dp e2' r2', sh o2, sh p2, ?_⟩
        rw [q2]
        have e : decide (ss = ss') = decide (hs = hs' ∧ ss = ss') := by simp [h1']
        rw [e]
        exact k
      · have h1' : ¬ hs = hs' := fun z => h1 (decide_eq_true z)
        have e : decide (hs = hs' ∧ ss = ss') = false := decide_eq_false fun z => h1' z.1
        rw [e] at k
        exact k
    · exact ⟨_, rfl, _, _, _, _, false, rfl, .own _, ty, kit_other o em no, false, rfl, iteF k⟩
/-- len(end) -/
def spLenE (D : Addr) : Sp := fun vs H Q _ => ∃ (a : Addr) (hs ss : List Row), vs = [.ref a] ∧ EndAt D H a hs ss ∧ Q (.int ((hs.length + ss.length : Nat) : Int)) H
theorem ok_len {f D hA sA : Addr} {fd : FuncData} (F : Fun K "__len__" "End.__len__" sEnd_len f fd) (TE : TxtE K mg D hA sA) : FnOk P w K mg base CX0 1 f fd ["self"] (spLenE D) := by
  have T : TxtE K mg D hA sA := TE
  refine F.ok scEnd_len (fun vs H Q E h => ?_) (fun cdv A outer s H vs Q E hr h => ?_)
  · obtain ⟨a, hs, ss, rfl, _⟩ := h
    rfl
  · obtain ⟨a, hs, ss, rfl, ⟨dx, t1, t2, t3, xs, ys, zs, us, he, e1, r1, e2, r2, e3, n1, n2⟩, k⟩ := h
    refine ⟨_, (pss_one (ps_ret (pe_callB call_len_seq (by rfl) T.b_len (by decide +kernel) (pa_cons (pe_fld (pv 0) rfl) pa_nil)))), ?_⟩
    refine ⟨_, rfl, a, D, dx, _, _, rfl, he, TE.clD, TE.n3, rfl, t3, _, rfl, .inr (SqT.of e3), ?_⟩
    have e : (zs ++ us).length = hs.length + ss.length := by rw [List.length_append, n1.1, n2.1, r1.len, r2.len]
    rw [e]
    exact k
/-- repr(end) -/
def reprE (hs ss : List Row) : Str := ((((Str.empty ++ ("End(" : Str)) ++ (toString ((hs.length : Nat) : Int) : String)) ++ (" hearer rows, " : Str)) ++ (toString ((ss.length : Nat) : Int) : String)) ++ (" sender rows)" : Str)
def spReprE (D : Addr) : Sp := fun vs H Q _ => ∃ (a : Addr) (hs ss : List Row), vs = [.ref a] ∧ EndAt D H a hs ss ∧ hs.length ≤ 1000 ∧ ss.length ≤ 1000 ∧ Q (.str (reprE hs ss)) H
theorem ok_repr {f D hA sA : Addr} {fd : FuncData} (F : Fun K "__repr__" "End.__repr__" sEnd_repr f fd) (TE : TxtE K mg D hA sA) : FnOk P w K mg base CX0 1 f fd ["self"] (spReprE D) := by
  have T : TxtE K mg D hA sA := TE
  refine F.ok scEnd_repr (fun vs H Q E h => ?_) (fun cdv A outer s H vs Q E hr h => ?_)
  · obtain ⟨a, hs, ss, rfl, _⟩ := h
    rfl
  · obtain ⟨a, hs, ss, rfl, ⟨dx, t1, t2, t3, xs, ys, zs, us, he, e1, r1, e2, r2, e3, n1, n2⟩, l1, l2, k⟩ := h
    refine ⟨_, (pss_one (ps_ret (pe_joined (.cons pe_str (.cons (pe_fmt (pe_callB call_len_seq (by rfl) T.b_len (by decide +kernel) (pa_cons (pe_fld (pv 0) rfl) pa_nil))) (.cons pe_str (.cons (pe_fmt (pe_callB call_len_seq (by rfl) T.b_len (by decide +kernel) (pa_cons (pe_fld (pv 0) rfl) pa_nil))) (.cons pe_str .nil)))))))), ?_⟩
    have x1 : xs.length = hs.length := r1.len
    have x2 : ys.length = ss.length := r2.len
    have big : ∀ n : Nat, n ≤ 100 → n ≤ sizeLine := fun n h => Nat.le_trans h (by decide)
    have c1 : (Str.empty ++ ("End(" : Str)).length = 4 := by decide +kernel
    have c2 : ((" hearer rows, " : Str)).length = 14 := by decide +kernel
    have c3 : ((" sender rows)" : Str)).length = 13 := by decide +kernel
    have b1 := num_len l1
    have b2 := num_len l2
    refine ⟨_, rfl, big _ (by rw [c1]; decide), ?_⟩
    refine ⟨_, rfl, a, D, dx, _, _, rfl, he, TE.clD, TE.n1, rfl, t1, xs, rfl, .inr (SqT.of e1), .inr ⟨_, rfl, by rw [x1]; exact num_log l1, _, rfl, big _ ?_, ?_⟩⟩
    · rw [x1, strLen_append, c1]
      omega
    refine ⟨_, rfl, big _ ?_, ?_⟩
    · rw [x1, strLen_append, strLen_append, c1, c2]
      omega
    refine ⟨_, rfl, a, D, dx, _, _, rfl, he, TE.clD, TE.n2, rfl, t2, ys, rfl, .inr (SqT.of e2), .inr ⟨_, rfl, by rw [x2]; exact num_log l2, _, rfl, big _ ?_, ?_⟩⟩
    · rw [x1, x2, strLen_append, strLen_append, strLen_append, c1, c2]
      omega
    refine ⟨_, rfl, big _ ?_, ?_⟩
    · rw [x1, x2, strLen_append, strLen_append, strLen_append, strLen_append, c1, c2, c3]
      omega
    rw [x1, x2]
    exact k

end K01

set_option Elab.async false
set_option linter.all false
set_option maxRecDepth 100000
set_option maxHeartbeats 4000000
namespace K01
open PySem L2 Sb
variable {P : Program} {w : World} {K : PySem.W.Frag} {mg : Str → Option Value} {base : Heap}
/-- machine_text(rows) -/
def spText : Sp := fun vs H Q _ => ∃ (t : Addr) (xs : List V) (rs : List Row), vs = [.ref t] ∧ H t = some (.tup xs) ∧ RowsV H xs rs ∧ rs.length ≤ 1000 ∧ (∀ r, r ∈ rs → smallRow r) ∧ ∀ H', Same H H' → Q (.str (machT rs)) H'
theorem ok_text {f : Addr} {fd : FuncData} (F : Fun K "machine_text" "machine_text" smachine_text f fd) (T : Txt K mg) : FnOk P w K mg base CX0 1 f fd ["rows"] spText := by
  refine F.ok scmachine_text (fun vs H Q E h => ?_) (fun cdv A outer s H vs Q E hr h => ?_)
  · obtain ⟨t, xs, rs, rfl, _⟩ := h
    rfl
  · obtain ⟨t, xs, rs, rfl, ht, hR, hn, hsm, k⟩ := h
    refine ⟨_, (pss_one (ps_ret (pe_join pe_str (pe_lc (own := [("put", 1), ("on_strong", 2), ("on_weak", 3)]) (g := (gTup K 3 (gCons (gName 1) (gCons (gName 2) (gCons (gName 3) gNil))))) (tt := tYes) rfl scmachine_text.nd (pi_tup (pv 0)) (blkOk_by (N := ["rows", "put", "on_strong", "on_weak"]) (own := [("put", 1), ("on_strong", 2), ("on_weak", 3)]) (sc := defScope smachine_text) (by decide +kernel)) (fun _ _ _ _ _ => (pg_tup rfl (pgs_cons (pg_name (i := 1) scmachine_text.nd rfl (Or.inl rfl)) (pgs_cons (pg_name (i := 2) scmachine_text.nd rfl (Or.inl rfl)) (pgs_cons (pg_name (i := 3) scmachine_text.nd rfl (Or.inl rfl)) pgs_nil))))) (fun _ _ _ _ _ => pts_nil) (fun _ _ _ _ _ => (pe_joined (.cons (pe_fmtP (pv 1)) (.cons pe_str (.cons (pe_fmtP (pv 2)) (.cons pe_str (.cons (pe_fmtP (pv 3)) .nil))))))))))), ?_⟩
    have e2 : (", " : Str).length = 2 := by decide +kernel
    have e1 : (" " : Str).length = 1 := by decide +kernel
    have e0 : Str.empty.length = 0 := by decide +kernel
    have big : ∀ n : Nat, n ≤ 100 → n ≤ sizeLine := fun n h => Nat.le_trans h (by decide)
    refine ⟨⟨_, rfl⟩, _, rfl, t, rfl, ⟨_, SqT.of ht⟩, fun D hD => lc_tup (K := K) (a := t) (xs := xs) (te := fun σ H Q => tJs [tFmtP (tVar 1), tC (V.str " "), tFmtP (tVar 2), tC (V.str " "), tFmtP (tVar 3)] Str.empty σ H fun out H1 => Q (V.str out) H1) (fun i H' => Same H H' ∧ H' D = some (.lst ((rs.take i).map fun r => V.str (rowT r))))
      ⟨Sb.Same.upd hD, upd_same⟩ (fun i H' _ ⟨z, _⟩ => SqT.of (z _ _ ht)) ?_ ?_⟩
    · rintro i x H2 hx ⟨s2, e2D⟩
      obtain ⟨r, hr', v⟩ := hR.get i x hx
      obtain ⟨ra, rfl, hra⟩ := RowAt.same s2 v
      have sm := hsm r (List.mem_of_getElem? hr')
      have a1 := num_len sm.1
      have a2 := plT_len sm.2.1
      have a3 := plT_len sm.2.2
      refine ⟨ra, _, rfl, SqT.of hra, rfl, _, _, rfl, _, _, rfl, _, _, rfl, rfl, rfl, ?_⟩
      refine ⟨_, rfl, .num r.put, rfl, sm.1, _, rfl, big _ ?_, ?_⟩
      · show (Str.empty ++ Str.ofString (toString (r.put : Int))).length ≤ 100
        rw [strLen_append, e0]
        omega
      refine ⟨_, rfl, big _ ?_, ?_⟩
      · show ((Str.empty ++ Str.ofString (toString (r.put : Int))) ++ (" " : Str)).length ≤ 100
        rw [strLen_append, strLen_append, e0, e1]
        omega
      refine ⟨_, rfl, r.a, rfl, sm.2.1, _, rfl, big _ ?_, ?_⟩
      · show (((Str.empty ++ Str.ofString (toString (r.put : Int))) ++ (" " : Str)) ++ plT r.a).length ≤ 100
        rw [strLen_append, strLen_append, strLen_append, e0, e1]
        omega
      refine ⟨_, rfl, big _ ?_, ?_⟩
      · show ((((Str.empty ++ Str.ofString (toString (r.put : Int))) ++ (" " : Str)) ++ plT r.a) ++ (" " : Str)).length ≤ 100
        rw [strLen_append, strLen_append, strLen_append, strLen_append, e0, e1]
        omega
      refine ⟨_, rfl, r.b, rfl, sm.2.2, _, rfl, big _ ?_, ?_⟩
      · exact Nat.le_trans (rowT_len sm) (by decide)
      refine ⟨_, e2D, ?_, fun b o z => ?_, ?_⟩
      · rw [List.length_map, List.length_take]
        exact Nat.lt_of_le_of_lt (by omega : min i rs.length ≤ 1000) (by decide)
      · rw [upd_ne (ne_of_none z hD)]
        exact s2 _ _ z
      · rw [upd_same, List.take_add_one, hr', List.map_append]
        rfl
    · rintro H2 ⟨s2, e2D⟩
      have el : xs.length = rs.length := hR.len
      rw [el, List.take_length] at e2D
      refine ⟨_, D, rs.map rowT, rfl, rfl, .inl (SqL.of (by rw [List.map_map]; exact e2D)), ?_, k _ s2⟩
      have h2 := machT_len hsm
      rw [e2, List.length_map]
      omega
/-- str(end) -/
def spStrE (D : Addr) : Sp := fun vs H Q _ => ∃ (a : Addr) (hs ss : List Row), vs = [.ref a] ∧ EndAt D H a hs ss ∧ hs.length ≤ 1000 ∧ ss.length ≤ 1000 ∧ (∀ r, r ∈ hs → smallRow r) ∧ (∀ r, r ∈ ss → smallRow r) ∧ ∀ H', Same H H' → Q (.str (endT hs ss)) H'
theorem ok_str {f fM D hA sA : Addr} {fd fdM : FuncData} (F : Fun K "__str__" "End.__str__" sEnd_str f fd) (TE : TxtE K mg D hA sA) (G_machine_text : Fx P w K mg base CX0 1 "machine_text" fM fdM ["rows"] spText) : FnOk P w K mg base CX0 2 f fd ["self"] (spStrE D) := by
  have T : TxtE K mg D hA sA := TE
  refine F.ok scEnd_str (fun vs H Q E h => ?_) (fun cdv A outer s H vs Q E hr h => ?_)
  · obtain ⟨a, hs, ss, rfl, _⟩ := h
    rfl
  · obtain ⟨a, hs, ss, rfl, ⟨dx, t1, t2, t3, xs, ys, zs, us, he, e1, r1, e2, r2, e3, n1, n2⟩, l1, l2, m1, m2, k⟩ := h
    refine ⟨_, (pss_one (ps_ret (pe_joined (.cons (pe_fmt (pe_call G_machine_text.ok (hr.mono (by decide)) rfl G_machine_text.mg G_machine_text.kp G_machine_text.bd .nil pass0 (pa_cons (pe_fld (pv 0) rfl) pa_nil))) (.cons pe_str (.cons (pe_fmt (pe_call G_machine_text.ok (hr.mono (by decide)) rfl G_machine_text.mg G_machine_text.kp G_machine_text.bd .nil pass0 (pa_cons (pe_fld (pv 0) rfl) pa_nil))) .nil)))))), ?_⟩
    have b1 := machT_fits m1 l1
    have b2 := machT_fits m2 l2
    have e0 : Str.empty.length = 0 := by decide +kernel
    have e3 : (" | " : Str).length = 3 := by decide +kernel
    have big : ∀ n : Nat, n ≤ 70000 → n ≤ sizeLine := fun n h => Nat.le_trans h (by decide)
    refine ⟨_, rfl, a, D, dx, _, _, rfl, he, TE.clD, TE.n1, rfl, t1, xs, hs, rfl, e1, r1, l1, m1, fun H1 s1 => .inl ⟨_, rfl, big _ (by omega), _, rfl, big _ ?_, ?_⟩⟩
    · rw [strLen_append, e0]
      omega
    refine ⟨_, rfl, big _ ?_, ?_⟩
    · rw [strLen_append, strLen_append, e0, e3]
      omega
    refine ⟨_, rfl, a, D, dx, _, _, rfl, s1 _ _ he, TE.clD, TE.n2, rfl, t2, ys, ss, rfl, s1 _ _ e2, r2.same s1, l2, m2, fun H2 s2 => .inl ⟨_, rfl, big _ (by omega), _, rfl, big _ ?_, ?_⟩⟩
    · rw [strLen_append, strLen_append, strLen_append, e0, e3]
      omega
    exact k _ (s1.trans s2)

end K01

set_option Elab.async false
set_option linter.all false
set_option maxRecDepth 100000
set_option maxHeartbeats 4000000
namespace K01
open PySem L2 Sb
variable {P : Program} {w : World} {K : PySem.W.Frag} {mg : Str → Option Value} {base : Heap}
/-- a method of the class -/
structure Nx (P : Program) (w : World) (K : PySem.W.Frag) (mg : Str → Option Value) (base : Heap) (k : Nat) (D f : Addr) (m : Str) (fd : FuncData) (ps : List Str) (sp : Sp) : Prop where
  m : Meth K D m f
  ok : FnOk P w K mg base CX0 k f fd ps sp
  bd : Binds K fd ps []
structure NxI (P : Program) (w : World) (K : PySem.W.Frag) (mg : Str → Option Value) (base : Heap) (D f : Addr) (fd : FuncData) : Prop where
  m : Meth K D "__iter__" f
  ok : FnN P w K mg base CX0 1 f fd ["self"] (spIterOf K D "rows")
  bd : Binds K fd ["self"] []
/-- what iterating yields, as data -/
def partD (p : Str) (i : Nat) (r : Row) : PyData := .tuple [.str p, .int (i : Int), rowD r]
def partsD (p : Str) : Nat → List Row → List PyData
  | _, [] => []
  | i, r :: rs => partD p i r :: partsD p (i + 1) rs
def allD (hs ss : List Row) : List PyData := partsD "hearer" 0 hs ++ partsD "sender" 0 ss
theorem partsD_dp {p : Str} {H : Hp} : ∀ {rs : List Row} {j : Nat} {xs zs : List V}, RowsV H xs rs → zs.length = xs.length → (∀ (i : Nat) (v : V), xs[i]? = some v → ∃ a, zs[i]? = some (.ref a) ∧ H a = some (.tup [.str p, .int ((j + i : Nat) : Int), v])) → DpAll K H zs (partsD p j rs)
  | [], j, _, zs, .nil, hl, _ => by
    have : zs = [] := List.length_eq_zero_iff.mp hl
    subst this
    exact .nil
  | r :: rs, j, _, zs, .cons h t, hl, hg => by
    match zs, hl with
    | z :: zs, hl =>
      obtain ⟨a, e1, e2⟩ := hg 0 _ rfl
      have e1' : z = .ref a := Option.some.inj e1
      subst e1'
      refine .cons (.tup (SqT.of e2) (.cons (.str _) (.cons (.int _) (.cons (rowD_dp h) .nil)))) (partsD_dp (j := j + 1) t (by simpa using hl) fun i v hv => ?_)
      obtain ⟨b, q1, q2⟩ := hg (i + 1) v (by simpa using hv)
      refine ⟨b, by simpa using q1, ?_⟩
      rw [show j + 1 + i = j + (i + 1) by omega]
      exact q2
theorem numb_dp {p : Str} {H : Hp} {xs zs : List V} {rs : List Row} (h : RowsV H xs rs) (n : Numbered H (.str p) xs zs) : DpAll K H zs (partsD p 0 rs) := partsD_dp h n.1 fun i v e => by
  obtain ⟨a, e1, e2⟩ := n.2 i v e
  exact ⟨a, e1, by rw [e2, Nat.zero_add]⟩
theorem dpAll_app {H : Hp} : ∀ {xs ys : List V} {ds es : List PyData}, DpAll K H xs ds → DpAll K H ys es → DpAll K H (xs ++ ys) (ds ++ es)
  | _, _, _, _, .nil, h => h
  | _, _, _, _, .cons a b, h => .cons a (dpAll_app b h)
theorem part_lay {p : Str} (hp : PyData.strOk p = true) {r : Row} (h : okRow r) (i : Nat) : (partD p i r).canLay0 = true ∧ (partD p i r).depth ≤ 2 := by
  obtain ⟨a1, a2⟩ := rowD_lay h
  exact ⟨by simp [partD, PyData.canLay0, PyData.canLayAll0, a1, hp], by simp only [partD, PyData.depth, PyData.depthAll]; omega⟩
theorem parts_lay {p : Str} (hp : PyData.strOk p = true) : ∀ {rs : List Row} {j : Nat}, (∀ r, r ∈ rs → okRow r) → PyData.canLayAll0 (partsD p j rs) = true ∧ PyData.depthAll (partsD p j rs) ≤ 2
  | [], j, _ => ⟨by simp [partsD, PyData.canLayAll0], by simp [partsD, PyData.depthAll]⟩
  | r :: rs, j, h => by
    obtain ⟨a1, a2⟩ := part_lay hp (h r (by simp)) j
    obtain ⟨b1, b2⟩ := parts_lay hp (rs := rs) (j := j + 1) fun q hq => h q (by simp [hq])
    exact ⟨by simp [partsD, PyData.canLayAll0, a1, b1], by simp only [partsD, PyData.depthAll]; omega⟩
theorem layAll_app : ∀ (ds es : List PyData), PyData.canLayAll0 ds = true → PyData.canLayAll0 es = true → PyData.canLayAll0 (ds ++ es) = true
  | [], _, _, h => h
  | d :: ds, es, h1, h2 => by
    simp only [PyData.canLayAll0, Bool.and_eq_true] at h1
    rw [List.cons_append]
    simp [PyData.canLayAll0, h1.1, layAll_app ds es h1.2 h2]
theorem depthAll_app {n : Nat} : ∀ (ds es : List PyData), PyData.depthAll ds ≤ n → PyData.depthAll es ≤ n → PyData.depthAll (ds ++ es) ≤ n
  | [], _, _, h => h
  | d :: ds, es, h1, h2 => by
    simp only [PyData.depthAll] at h1
    rw [List.cons_append]
    simp only [PyData.depthAll]
    have := depthAll_app ds es (n := n) (by omega) h2
    omega
theorem all_shaped {hs ss : List Row} (h1 : ∀ r, r ∈ hs → okRow r) (h2 : ∀ r, r ∈ ss → okRow r) : SeqAt.shaped (.list (allD hs ss)) = true := by
  obtain ⟨a1, a2⟩ := parts_lay (p := "hearer") (by decide +kernel) (j := 0) h1
  obtain ⟨b1, b2⟩ := parts_lay (p := "sender") (by decide +kernel) (j := 0) h2
  exact shaped_lst (n := 2) ⟨layAll_app _ _ a1 b1, depthAll_app _ _ a2 b2⟩ (by decide)
/-- listed(end) -/
def spListed (K : PySem.W.Frag) (D : Addr) : Sp := fun vs H Q _ => ∃ (e : Addr) (hs ss : List Row), vs = [.ref e] ∧ EndAt D H e hs ss ∧ hs.length ≤ 1000 ∧ ss.length ≤ 1000 ∧
  ∀ (H' : Hp) (l : Addr) (xs : List V), Same H H' → H l = none → H' l = some (.lst xs) → DpAll K H' xs (allD hs ss) → Q (.ref l) H'
theorem ok_listed {f fI D : Addr} {fd fdI : FuncData} (F : Fun K "_law_listed" "_law_listed" sL_listed f fd) (T : Txt K mg) (N_iter : NxI P w K mg base D fI fdI) : FnOk P w K mg base CX0 2 f fd ["_law_end"] (spListed K D) := by
  refine F.ok scL_listed (fun vs H Q E h => ?_) (fun cdv A outer s H vs Q E hr h => ?_)
  · obtain ⟨e, hs, ss, rfl, _⟩ := h
    rfl
  · obtain ⟨e, hs, ss, rfl, ⟨dx, t1, t2, t3, xs, ys, zs, us, he, e1, r1, e2, r2, e3, n1, n2⟩, l1, l2, k⟩ := h
    refine ⟨_, (pss_one (ps_ret (pe_lc (own := [("_law_part", 1)]) (g := (gName 1)) (tt := tYes) rfl scL_listed.nd (pi_own (pv 0) N_iter.m N_iter.ok (hr.mono (by decide)) N_iter.bd) (blkOk_by (N := ["_law_end", "_law_part"]) (own := [("_law_part", 1)]) (sc := defScope sL_listed) (by decide +kernel)) (fun _ _ _ _ _ => (pg_name (i := 1) scL_listed.nd rfl (Or.inl rfl))) (fun _ _ _ _ _ => pts_nil) (fun _ _ _ _ _ => (pv 1))))), ?_⟩
    have hz : (zs ++ us).length ≤ 2000 := by rw [List.length_append, n1.1, n2.1, r1.len, r2.len]; omega
    have dz : DpAll K H (zs ++ us) (allD hs ss) := dpAll_app (numb_dp r1 n1) (numb_dp r2 n2)
    refine ⟨_, rfl, e, dx, t3, _, zs ++ us, rfl, he, rfl, SqT.of e3, fun B hB => lc_tup (K := K) (a := t3) (xs := zs ++ us) (fun i H' => Same H H' ∧ H' B = some (.lst ((zs ++ us).take i)))
      ⟨Sb.Same.upd hB, upd_same⟩ (fun i H' _ ⟨z, _⟩ => SqT.of (z _ _ e3)) ?_ ?_⟩
    · rintro i x H2 hx ⟨s2, eB⟩
      refine ⟨rfl, _, rfl, _, eB, ?_, fun b o z => ?_, ?_⟩
      · rw [List.length_take]
        exact Nat.lt_of_le_of_lt (by omega : min i (zs ++ us).length ≤ 2000) (by decide)
      · rw [upd_ne (ne_of_none z hB)]
        exact s2 _ _ z
      · rw [upd_same, List.take_add_one, hx]
        rfl
    · rintro H2 ⟨s2, eB⟩
      rw [List.take_length] at eB
      exact k H2 B _ s2 hB eB (dps_stay s2 dz)
/-- due(ears, mouth) -/
def spDue (K : PySem.W.Frag) : Sp := fun vs H Q _ => ∃ (q1 q2 : Addr) (xs ys : List V) (hs ss : List Row), vs = [.ref q1, .ref q2] ∧ H q1 = some (.lst xs) ∧ RowsV H xs hs ∧ H q2 = some (.lst ys) ∧ RowsV H ys ss ∧ hs.length ≤ 1000 ∧ ss.length ≤ 1000 ∧
  ∀ (H' : Hp) (l : Addr) (zs : List V), Same H H' → H l = none → H' l = some (.lst zs) → DpAll K H' zs (allD hs ss) → Q (.ref l) H'
theorem ok_due {f : Addr} {fd : FuncData} (F : Fun K "_law_due" "_law_due" sL_due f fd) (T : Txt K mg) : FnOk P w K mg base CX0 1 f fd ["_law_ears", "_law_mouth"] (spDue K) := by
  refine F.ok scL_due (fun vs H Q E h => ?_) (fun cdv A outer s H vs Q E hr h => ?_)
  · obtain ⟨q1, q2, xs, ys, hs, ss, rfl, _⟩ := h
    rfl
  · obtain ⟨q1, q2, xs, ys, hs, ss, rfl, e1, r1, e2, r2, l1, l2, k⟩ := h
    refine ⟨_, (pss_cons (ps_setLc (i := 2) (own := [("_law_index", 3), ("_law_row", 4)]) (g := (gTup K 2 (gCons (gName 3) (gCons (gName 4) gNil)))) (tt := tYes) rfl scL_due.nd rfl rfl (sw_true rfl rfl rfl (by decide +kernel)) (pi_enum (by rfl) T.b_enumerate (pa_cons (pv 0) pa_nil)) (blkOk_by (N := ["_law_ears", "_law_mouth", "_law_found", "_law_index", "_law_row"]) (own := [("_law_index", 3), ("_law_row", 4)]) (sc := defScope sL_due) (by decide +kernel)) (fun _ _ _ _ _ => (pg_tup rfl (pgs_cons (pg_name (i := 3) scL_due.nd rfl (Or.inl rfl)) (pgs_cons (pg_name (i := 4) scL_due.nd rfl (Or.inl rfl)) pgs_nil)))) (fun _ _ _ _ _ => pts_nil) (fun _ _ _ _ _ => (pe_tup (pa_cons pe_str (pa_cons (pv 3) (pa_cons (pv 4) pa_nil))))))
  (pss_one (ps_ret (pe_op op_cat (pv 2) (pe_lc (own := [("_law_index", 3), ("_law_row", 4)]) (g := (gTup K 2 (gCons (gName 3) (gCons (gName 4) gNil)))) (tt := tYes) rfl scL_due.nd (pi_enum (by rfl) T.b_enumerate (pa_cons (pv 1) pa_nil)) (blkOk_by (N := ["_law_ears", "_law_mouth", "_law_found", "_law_index", "_law_row"]) (own := [("_law_index", 3), ("_law_row", 4)]) (sc := defScope sL_due) (by decide +kernel)) (fun _ _ _ _ _ => (pg_tup rfl (pgs_cons (pg_name (i := 3) scL_due.nd rfl (Or.inl rfl)) (pgs_cons (pg_name (i := 4) scL_due.nd rfl (Or.inl rfl)) pgs_nil)))) (fun _ _ _ _ _ => pts_nil) (fun _ _ _ _ _ => (pe_tup (pa_cons pe_str (pa_cons (pv 3) (pa_cons (pv 4) pa_nil)))))))))), ?_⟩
    have x1 := r1.len
    have x2 := r2.len
    refine ⟨_, rfl, q1, xs, rfl, SqL.of e1, fun D hD => lc_it walk_enum (fun i H' => ∃ zs : List V, Same H H' ∧ H' D = some (.lst zs) ∧ Numbered H' (.str "hearer") (xs.take i) zs)
      ⟨[], Sb.Same.upd hD, upd_same, rfl, fun i v e => by simp at e⟩ (fun i H' _ ⟨_, s2, _⟩ => SqL.of (s2 _ _ e1)) ?_ ?_⟩
    · rintro i x H2 H3 hi ⟨zs, s2, hD2, hN⟩ ⟨t, y, z, rfl, ht, rfl, e1, e2⟩
      cases (Option.some.inj e1).symm
      have s3 : Same H (upd H2 t (.tup [.int (i : Int), z])) := s2.trans (Sb.Same.upd ht)
      have nt : D ≠ t := ne_of_none hD2 ht
      refine ⟨t, _, rfl, SqT.of upd_same, rfl, _, _, rfl, _, _, rfl, rfl, rfl, ?_⟩
      refine ⟨_, rfl, _, rfl, (by show 3 ≤ sizeLine; decide), fun q hq => ?_⟩
      have nq : D ≠ q := ne_of_none (by rw [upd_ne nt]; exact hD2) hq
      generalize eh : upd (upd H2 t _) q _ = H4
      have s4 : Same H2 H4 := by rw [← eh]; exact (Sb.Same.upd ht).trans (Sb.Same.upd hq)
      have q4 : H4 q = some (.tup [.str "hearer", .int (i : Int), z]) := by rw [← eh]; exact upd_same
      have qD : H D = none := hD
      have hq2 : H2 q = none := (Sb.Same.upd ht).free hq
      refine ⟨zs, s4 _ _ hD2, ?_, zs ++ [.ref q], fun b o e => ?_, upd_same, ?_⟩
      · have : zs.length = i := by
          rw [hN.1, List.length_take]
          omega
        exact Nat.lt_of_le_of_lt (by omega : zs.length ≤ 1000) (by decide)
      · rw [upd_ne (ne_of_none e qD)]
        exact s4 _ _ (s2 _ _ e)
      · have el : (xs.take i).length = i := by
          rw [List.length_take]
          omega
        have et : xs.take (i + 1) = xs.take i ++ [z] := by
          rw [List.take_add_one]
          have : xs[i]? = some z := e2
          rw [this]
          rfl
        rw [et]
        refine ⟨by simp [hN.1], fun j v e => ?_⟩
        rcases Nat.lt_or_ge j i with hj | hj
        · rw [List.getElem?_append_left (by omega)] at e
          obtain ⟨a, ea, ha⟩ := hN.2 j v e
          refine ⟨a, by rw [List.getElem?_append_left (by rw [hN.1]; omega)]; exact ea, ?_⟩
          rw [upd_ne (ne_of (s4 _ _ ha) (s4 _ _ hD2) (by intro z; cases z))]
          exact s4 _ _ ha
        · have ej : j = i := by
            have := (List.getElem?_eq_some_iff.mp e).1
            simp at this
            omega
          subst ej
          rw [List.getElem?_append_right (by omega), el, Nat.sub_self] at e
          cases Option.some.inj e
          refine ⟨q, ?_, ?_⟩
          · rw [List.getElem?_append_right (by rw [hN.1]; omega), hN.1, el, Nat.sub_self]
            rfl
          · rw [upd_ne (Ne.symm nq)]
            exact q4
    · rintro H2 ⟨zs, s2, hD2, hN⟩
      rw [List.take_length] at hN
      refine ⟨_, rfl, ?_⟩
      refine ⟨_, rfl, q2, ys, rfl, SqL.of (s2 _ _ e2), fun B2 hB2 => lc_it walk_enum (fun i H2' => ∃ us : List V, Same H2 H2' ∧ H2' B2 = some (.lst us) ∧ Numbered H2' (.str "sender") (ys.take i) us)
        ⟨[], Sb.Same.upd hB2, upd_same, rfl, fun i v e => by simp at e⟩ (fun i H2' _ ⟨_, w2, _⟩ => SqL.of (w2 _ _ (s2 _ _ e2))) ?_ ?_⟩
      · rintro i x G2 G3 hi ⟨us, w2, hB3, hM⟩ ⟨t, y, z, rfl, ht, rfl, e1, e2⟩
        cases (Option.some.inj e1).symm
        have w3 : Same H2 (upd G2 t (.tup [.int (i : Int), z])) := w2.trans (Sb.Same.upd ht)
        have nt : B2 ≠ t := ne_of_none hB3 ht
        refine ⟨t, _, rfl, SqT.of upd_same, rfl, _, _, rfl, _, _, rfl, rfl, rfl, ?_⟩
        refine ⟨_, rfl, _, rfl, (by show 3 ≤ sizeLine; decide), fun q hq => ?_⟩
        have nq : B2 ≠ q := ne_of_none (by rw [upd_ne nt]; exact hB3) hq
        generalize eh : upd (upd G2 t _) q _ = G4
        have w4 : Same G2 G4 := by rw [← eh]; exact (Sb.Same.upd ht).trans (Sb.Same.upd hq)
        have q5 : G4 q = some (.tup [.str "sender", .int (i : Int), z]) := by rw [← eh]; exact upd_same
        have qD : H2 B2 = none := hB2
        have hq2 : G2 q = none := (Sb.Same.upd ht).free hq
        refine ⟨us, w4 _ _ hB3, ?_, us ++ [.ref q], fun b o e => ?_, upd_same, ?_⟩
        · have : us.length = i := by
            rw [hM.1, List.length_take]
            omega
          exact Nat.lt_of_le_of_lt (by omega : us.length ≤ 1000) (by decide)
        · rw [upd_ne (ne_of_none e qD)]
          exact w4 _ _ (w2 _ _ e)
        · have el : (ys.take i).length = i := by
            rw [List.length_take]
            omega
          have et : ys.take (i + 1) = ys.take i ++ [z] := by
            rw [List.take_add_one]
            have : ys[i]? = some z := e2
            rw [this]
            rfl
          rw [et]
          refine ⟨by simp [hM.1], fun j v e => ?_⟩
          rcases Nat.lt_or_ge j i with hj | hj
          · rw [List.getElem?_append_left (by omega)] at e
            obtain ⟨a, ea, ha⟩ := hM.2 j v e
            refine ⟨a, by rw [List.getElem?_append_left (by rw [hM.1]; omega)]; exact ea, ?_⟩
            rw [upd_ne (ne_of (w4 _ _ ha) (w4 _ _ hB3) (by intro z; cases z))]
            exact w4 _ _ ha
          · have ej : j = i := by
              have := (List.getElem?_eq_some_iff.mp e).1
              simp at this
              omega
            subst ej
            rw [List.getElem?_append_right (by omega), el, Nat.sub_self] at e
            cases Option.some.inj e
            refine ⟨q, ?_, ?_⟩
            · rw [List.getElem?_append_right (by rw [hM.1]; omega), hM.1, el, Nat.sub_self]
              rfl
            · rw [upd_ne (Ne.symm nq)]
              exact q5
      · rintro H3 ⟨us, s3, hD3, hN3⟩
        rw [List.take_length] at hN3
        have s3' : Same H H3 := s2.trans s3
        have hz : (zs ++ us).length ≤ 2000 := by rw [List.length_append, hN.1, hN3.1]; omega
        refine ⟨_, _, _, _, rfl, rfl, s3 _ _ hD2, hD3, (by rw [List.length_append] at hz; exact Nat.le_trans hz (by decide : 2000 ≤ sizeLine)), fun p hp => ?_⟩
        have sp := Sb.Same.upd (o := .lst (zs ++ us)) hp
        refine k _ p (zs ++ us) (s3'.trans sp) (s3'.free hp) upd_same (dps_stay sp (dpAll_app (dps_stay s3 (numb_dp (r1.same s2) hN)) (numb_dp (r2.same s3') hN3)))
theorem empty_app (x : Str) : Str.empty ++ x = x := by
  cases x with
  | mk c =>
    show (⟨#[] ++ c⟩ : Str) = ⟨c⟩
    rw [Array.empty_append]
/-- right(end, ears, mouth) -/
def spRight (D : Addr) : Sp := fun vs H Q _ => ∃ (e q1 q2 : Addr) (xs ys : List V) (hs ss : List Row), vs = [.ref e, .ref q1, .ref q2] ∧ EndAt D H e hs ss ∧ H q1 = some (.lst xs) ∧ RowsV H xs hs ∧ H q2 = some (.lst ys) ∧ RowsV H ys ss ∧ hs.length ≤ 1000 ∧ ss.length ≤ 1000 ∧
  (∀ r, r ∈ hs → okRow r) ∧ (∀ r, r ∈ ss → okRow r) ∧ ∀ H', Same H H' → Q (.bl true) H'
theorem ok_right {f fL fD D hA sA p1 g1 p2 g2 f1 f2 : Addr} {fd fdL fdD fd1 fd2 fd3 fd4 : FuncData} (F : Fun K "_law_right" "_law_right" sL_right f fd) (T : Txt K mg) (TE : TxtE K mg D hA sA)
    (Q_hearer : Px P w K mg base D p1 g1 fd1 "hearer" "hearer_rows") (Q_sender : Px P w K mg base D p2 g2 fd2 "sender" "sender_rows") (N_len : Nx P w K mg base 1 D f1 "__len__" fd3 ["self"] (spLenE D)) (N_repr : Nx P w K mg base 1 D f2 "__repr__" fd4 ["self"] (spReprE D))
    (G__law_listed : Fx P w K mg base CX0 2 "_law_listed" fL fdL ["_law_end"] (spListed K D)) (G__law_due : Fx P w K mg base CX0 1 "_law_due" fD fdD ["_law_ears", "_law_mouth"] (spDue K)) : FnOk P w K mg base CX0 3 f fd ["_law_end", "_law_ears", "_law_mouth"] (spRight D) := by
  refine F.ok scL_right (fun vs H Q E h => ?_) (fun cdv A outer s H vs Q E hr h => ?_)
  · obtain ⟨e, q1, q2, xs, ys, hs, ss, rfl, _⟩ := h
    rfl
  · obtain ⟨e, q1, q2, xs, ys, hs, ss, rfl, hE, eq1, hR1, eq2, hR2, l1, l2, o1, o2, k⟩ := h
    refine ⟨_, (pss_cons (ps_if (PW.pt (pw_or (pt_cmpR (op_neD hr.units) (pe_prop (pv 0) TE.clD Q_hearer.pof Q_hearer.ok (hr.mono (by decide)) Q_hearer.bd .nil pass0 rfl) (pe_callTy call_tuple_of (by rfl) T.b_tuple (by decide +kernel) (pa_cons (pv 1) pa_nil)) (nomark _)) (pw_or (pt_cmpR (op_neD hr.units) (pe_prop (pv 0) TE.clD Q_sender.pof Q_sender.ok (hr.mono (by decide)) Q_sender.bd .nil pass0 rfl) (pe_callTy call_tuple_of (by rfl) T.b_tuple (by decide +kernel) (pa_cons (pv 2) pa_nil)) (nomark _)) (pw_or1 (pt_not (pt_val (pe_callB call_isi (by rfl) T.b_isinstance (by decide +kernel) (pa_cons (pe_prop (pv 0) TE.clD Q_hearer.pof Q_hearer.ok (hr.mono (by decide)) Q_hearer.bd .nil pass0 rfl) (pa_cons (pe_bltn (v := .ty "tuple") (by rfl) T.b_tuple (by decide +kernel) rfl) pa_nil))))))))) (pss_one (ps_ret pe_bl)) pss_nil)
  (pss_cons (ps_if (PW.pt (pw_or (pt_cmpR op_ne (pe_callB (call_lenOwn N_len.m N_len.ok (hr.mono (by decide)) N_len.bd pass0) (by rfl) T.b_len (by decide +kernel) (pa_cons (pv 0) pa_nil)) (pe_op op_add (pe_callB call_len_seq (by rfl) T.b_len (by decide +kernel) (pa_cons (pv 1) pa_nil)) (pe_callB call_len_seq (by rfl) T.b_len (by decide +kernel) (pa_cons (pv 2) pa_nil))) (nomark _)) (pw_or1 (pt_not (pt_val (pe_callB call_isi (by rfl) T.b_isinstance (by decide +kernel) (pa_cons (pe_prop (pv 0) TE.clD Q_sender.pof Q_sender.ok (hr.mono (by decide)) Q_sender.bd .nil pass0 rfl) (pa_cons (pe_bltn (v := .ty "tuple") (by rfl) T.b_tuple (by decide +kernel) rfl) pa_nil)))))))) (pss_one (ps_ret pe_bl)) pss_nil)
  (pss_cons (ps_set (i := 3) scL_right.nd rfl (Or.inl rfl) (pe_call G__law_due.ok (hr.mono (by decide)) rfl G__law_due.mg G__law_due.kp G__law_due.bd .nil pass0 (pa_cons (pv 1) (pa_cons (pv 2) pa_nil))))
  (pss_cons (ps_if (PW.pt (pw_or (pt_cmpR (op_neD hr.units) (pe_call G__law_listed.ok (hr.mono (by decide)) rfl G__law_listed.mg G__law_listed.kp G__law_listed.bd .nil pass0 (pa_cons (pv 0) pa_nil)) (pv 3) (nomark _)) (pw_or1 (pt_cmpR (op_neD hr.units) (pe_call G__law_listed.ok (hr.mono (by decide)) rfl G__law_listed.mg G__law_listed.kp G__law_listed.bd .nil pass0 (pa_cons (pv 0) pa_nil)) (pv 3) (nomark _))))) (pss_one (ps_ret pe_bl)) pss_nil)
  (pss_one (ps_ret (pe_cmpR op_eq (pe_callB (call_reprOwn N_repr.m N_repr.ok (hr.mono (by decide)) N_repr.bd pass0) (by rfl) T.b_repr (by decide +kernel) (pa_cons (pv 0) pa_nil)) (pe_op op_add_str (pe_op op_add_str (pe_op op_add_str (pe_op op_add_str pe_str (pe_callTy call_str_int (by rfl) T.b_str (by decide +kernel) (pa_cons (pe_callB call_len_seq (by rfl) T.b_len (by decide +kernel) (pa_cons (pv 1) pa_nil)) pa_nil))) pe_str) (pe_callTy call_str_int (by rfl) T.b_str (by decide +kernel) (pa_cons (pe_callB call_len_seq (by rfl) T.b_len (by decide +kernel) (pa_cons (pv 2) pa_nil)) pa_nil))) pe_str) (nomark _)))))))), ?_⟩
    obtain ⟨dx, t1, t2, t3, xs', ys', zs, us, he, e1, r1, e2, r2, e3, n1, n2⟩ := id hE
    have sh1 : SeqAt.shaped (.tuple (rowsD hs)) = true := shaped_tup (rowsD_lay o1) (by decide)
    have sh2 : SeqAt.shaped (.tuple (rowsD ss)) = true := shaped_tup (rowsD_lay o2) (by decide)
    have same : ∀ d : PyData, SeqAt.shaped d = true → V.bl (!PyData.eqv d d) = V.bl false := fun d h => congrArg (fun b => V.bl (!b)) (SeqAt.eqv_refl _ (SeqAt.canLay_of_shaped h))
    -- the tuples
    refine ⟨_, rfl, e, dx, _, rfl, he, e, dx, _, .ref t1, rfl, he, rfl, _, rfl, q1, xs, rfl, .inl ⟨SqL.of eq1, fun a1 ha1 => ?_⟩⟩
    have s1 := Sb.Same.upd (o := .tup xs) ha1
    refine ⟨_, _, tupD_dp (s1 _ _ e1) (r1.same s1), tupD_dp upd_same (hR1.same s1), sh1, sh1, false, same _ sh1, iteF ?_⟩
    generalize upd H a1 _ = H1 at s1
    refine ⟨_, rfl, e, dx, _, rfl, s1 _ _ he, e, dx, _, .ref t2, rfl, s1 _ _ he, rfl, _, rfl, q2, ys, rfl, .inl ⟨SqL.of (s1 _ _ eq2), fun a2 ha2 => ?_⟩⟩
    have s2 := Sb.Same.upd (o := .tup ys) ha2
    have s12 := s1.trans s2
    refine ⟨_, _, tupD_dp (s12 _ _ e2) (r2.same s12), tupD_dp upd_same (hR2.same s12), sh2, sh2, false, same _ sh2, iteF ?_⟩
    generalize upd H1 a2 _ = H2 at s2 s12
    refine ⟨_, rfl, e, dx, _, rfl, s12 _ _ he, e, dx, _, .ref t1, rfl, s12 _ _ he, rfl, _, _, _, _, true, rfl, .ty _, .base (.tup (s12 _ _ e1)), kit_ty (by decide +kernel), true, rfl, iteF ?_⟩
    -- the lengths
    refine ⟨_, rfl, e, dx, _, rfl, s12 _ _ he, e, hs, ss, rfl, hE.same s12, _, rfl, by omega, by omega, _, rfl, q1, xs, rfl, .inl (SqL.of (s12 _ _ eq1)), _, rfl, q2, ys, rfl, .inl (SqL.of (s12 _ _ eq2)), _, _, rfl, rfl, rfl, false, ?_, iteF ?_⟩
    · refine congrArg (fun b => V.bl (!b)) (decide_eq_true ?_)
      rw [hR1.len, hR2.len, Int.natCast_add]
    refine ⟨_, rfl, e, dx, _, rfl, s12 _ _ he, e, dx, _, .ref t2, rfl, s12 _ _ he, rfl, _, _, _, _, true, rfl, .ty _, .base (.tup (s12 _ _ e2)), kit_ty (by decide +kernel), true, rfl, iteF ?_⟩
    -- what iterating yields
    refine ⟨_, rfl, _, rfl, q1, q2, xs, ys, hs, ss, rfl, s12 _ _ eq1, hR1.same s12, s12 _ _ eq2, hR2.same s12, l1, l2, fun H3 dl zs1 s3 hdl edl ddl => ?_⟩
    have s13 := s12.trans s3
    have shA := all_shaped o1 o2
    refine ⟨_, rfl, e, hs, ss, rfl, hE.same s13, l1, l2, fun H4 la xs4 s4 hla ela dla => ?_⟩
    have s14 := s13.trans s4
    refine ⟨_, rfl, _, _, .lst (SqL.of ela) dla, .lst (SqL.of (s4 _ _ edl)) (dps_stay s4 ddl), shA, shA, false, same _ shA, iteF ?_⟩
    refine ⟨_, rfl, e, hs, ss, rfl, hE.same s14, l1, l2, fun H5 lb xs5 s5 hlb elb dlb => ?_⟩
    have s15 := s14.trans s5
    refine ⟨_, rfl, _, _, .lst (SqL.of elb) dlb, .lst (SqL.of ((s4.trans s5) _ _ edl)) (dps_stay (s4.trans s5) ddl), shA, shA, false, same _ shA, iteF ?_⟩
    -- the text
    have x1 := hR1.len
    have x2 := hR2.len
    refine ⟨_, rfl, e, dx, _, rfl, s15 _ _ he, e, hs, ss, rfl, hE.same s15, l1, l2, _, rfl, ?_⟩
    have b1 := num_len l1
    have b2 := num_len l2
    have c1 : (("End(" : Str)).length = 4 := by decide +kernel
    have c2 : ((" hearer rows, " : Str)).length = 14 := by decide +kernel
    have c3 : ((" sender rows)" : Str)).length = 13 := by decide +kernel
    have big : ∀ n : Nat, n ≤ 100 → n ≤ sizeLine := fun n h => Nat.le_trans h (by decide)
    refine ⟨_, rfl, q1, xs, rfl, .inl (SqL.of (s15 _ _ eq1)), _, rfl, by rw [x1]; exact num_log l1, _, _, rfl, rfl, big _ (by rw [x1, c1]; omega), ?_⟩
    refine ⟨_, _, rfl, rfl, big _ (by rw [x1, strLen_append, c1, c2]; omega), ?_⟩
    refine ⟨_, rfl, q2, ys, rfl, .inl (SqL.of (s15 _ _ eq2)), _, rfl, by rw [x2]; exact num_log l2, _, _, rfl, rfl, big _ (by rw [x1, x2, strLen_append, strLen_append, c1, c2]; omega), ?_⟩
    refine ⟨_, _, rfl, rfl, big _ (by rw [x1, x2, strLen_append, strLen_append, strLen_append, c1, c2, c3]; omega), rfl, ?_⟩
    rw [x1, x2]
    have e0 : reprE hs ss = ((((("End(" : Str) ++ (toString ((hs.length : Nat) : Int) : String)) ++ (" hearer rows, " : Str)) ++ (toString ((ss.length : Nat) : Int) : String)) ++ (" sender rows)" : Str)) := by
      unfold reprE
      rw [empty_app]
    rw [decide_eq_true (congrArg V.str e0)]
    exact k _ s15

end K01

set_option Elab.async false
set_option linter.all false
set_option maxRecDepth 100000
set_option maxHeartbeats 4000000
namespace K01
open PySem L2 Sb
variable {P : Program} {w : World} {K : PySem.W.Frag} {mg : Str → Option Value} {base : Heap}
/-- the other put bit -/
def flip (r : Row) : Row := ⟨1 - r.put, r.a, r.b⟩
def flipAt (rs : List Row) (i : Nat) : List Row := match rs[i]? with | some r => rs.set i (flip r) | none => rs
theorem cut_take {xs : List V} {i : Nat} (h : i ≤ xs.length) : cutV xs none (some (i : Int)) = xs.take i := by
  unfold cutV
  rw [HT.sIx_nat, HT.sIx_none, Nat.min_eq_left h, Nat.sub_zero, List.drop_zero]
theorem cut_drop {xs : List V} {i : Nat} (h : i ≤ xs.length) : cutV xs (some (i : Int)) none = xs.drop i := by
  unfold cutV
  rw [HT.sIx_nat, HT.sIx_none, Nat.min_eq_left h]
  exact List.take_of_length_le (by rw [List.length_drop]; omega)
/-- changed(bag, rows) -/
def spChanged : Sp := fun vs H Q _ => ∃ (p q : Addr) (n : Nat) (xs : List V) (rs : List Row), vs = [.ref p, .ref q] ∧ Bag H p n ∧ n ≤ 1000000 ∧ H q = some (.lst xs) ∧ q ≠ p ∧ RowsV H xs rs ∧ 0 < rs.length ∧ rs.length ≤ 1000 ∧ (∀ r, r ∈ rs → r.put ≤ 1) ∧
  ∀ (H' : Hp) (l : Addr) (xs' : List V) (i : Nat), i < rs.length → Bag H' p (n + 1) → But p H H' → H l = none → H' l = some (.lst xs') → RowsV H' xs' (flipAt rs i) → Q (.ref l) H'
theorem ok_changed {f fT : Addr} {fd fdT : FuncData} (F : Fun K "_law_changed" "_law_changed" sL_changed f fd) (T : Txt K mg) (G__law_take : Fx P w K mg base CX0 1 "_law_take" fT fdT ["_law_bag_here", "_law_many"] spTake) :
    FnOk P w K mg base CX0 2 f fd ["_law_bag_here", "_law_rows_here"] spChanged := by
  refine F.ok scL_changed (fun vs H Q E h => ?_) (fun cdv A outer s H vs Q E hr h => ?_)
  · obtain ⟨p, q, n, xs, rs, rfl, _⟩ := h
    rfl
  · obtain ⟨p, q, n, xs, rs, rfl, hB, hn, eq, nqp, hR, h0, h1, hput, k⟩ := h
    refine ⟨_, (pss_cons (ps_set (i := 2) scL_changed.nd rfl (Or.inl rfl) (pe_call G__law_take.ok (hr.mono (by decide)) rfl G__law_take.mg G__law_take.kp G__law_take.bd .nil pass0 (pa_cons (pv 0) (pa_cons (pe_callB call_len_seq (by rfl) T.b_len (by decide +kernel) (pa_cons (pv 1) pa_nil)) pa_nil))))
  (pss_cons (ps_set (i := 3) scL_changed.nd rfl (Or.inl rfl) (pe_ix ix_list (pv 1) (pv 2) (fun _ _ => rfl)))
  (pss_one (ps_ret (pe_op op_cat (pe_op op_cat (pe_slice sl_list (pv 1) po_none (po_some (pv 2))) (pe_lst (pa_cons (pe_op op_catT (pe_tup (pa_cons (pe_op op_sub pe_int (pe_ix ix_tup (pv 3) pe_int (fun _ _ => rfl))) pa_nil)) (pe_slice sl_tup (pv 3) (po_some pe_int) po_none)) pa_nil))) (pe_slice sl_list (pv 1) (po_some (pe_op op_add (pv 2) pe_int)) po_none)))))), ?_⟩
    refine ⟨_, rfl, _, rfl, q, xs, rfl, .inl (SqL.of eq), p, n, xs.length, rfl, hB, hn, ?_, ?_, fun H1 d d0 d1 hB1 b1 => ?_⟩
    · have := hR.len
      omega
    · have := hR.len
      omega
    obtain ⟨i, rfl⟩ : ∃ m : Nat, d = (m : Int) := ⟨d.toNat, by omega⟩
    have hi : i < rs.length := by
      have := hR.len
      omega
    obtain ⟨r, hr'⟩ : ∃ r, rs[i]? = some r := ⟨_, List.getElem?_eq_getElem hi⟩
    have eq1 := b1 _ _ eq nqp
    have hR1 := hR.but b1 hB.no
    obtain ⟨v, hv, ra, rfl, hra⟩ := hR1.get' i r hr'
    refine ⟨_, rfl, _, rfl, q, xs, _, _, rfl, rfl, SqL.of eq1, atI_nat hv, ?_⟩
    have xl := hR.len
    have nq : ∀ {H' : Hp}, Same H1 H' → H' q = some (.lst xs) := fun s => s _ _ eq1
    have nra : ∀ {H' : Hp}, Same H1 H' → H' ra = some (.tup r.vs) := fun s => s _ _ hra
    have hput1 : r.put ≤ 1 := hput r (List.mem_of_getElem? hr')
    have ep : (1 : Int) - (r.put : Int) = ((1 - r.put : Nat) : Int) := by omega
    refine ⟨_, rfl, _, rfl, (i : Int), rfl, q, xs, rfl, SqL.of eq1, fun l1 hl1 => ?_⟩
    rw [cut_take (by omega : i ≤ xs.length)]
    generalize ea1 : upd H1 l1 _ = A1
    have s1 : Same H1 A1 := by rw [← ea1]; exact Sb.Same.upd hl1
    have e1 : A1 l1 = some (.lst (xs.take i)) := by rw [← ea1]; exact upd_same
    refine ⟨_, rfl, ra, _, 0, _, rfl, rfl, SqT.of (nra s1), rfl, 1, (r.put : Int), rfl, rfl, (by show 1 ≤ sizeLine; decide), fun l2 hl2 => ?_⟩
    generalize ea2 : upd A1 l2 _ = A2
    have s2 : Same A1 A2 := by rw [← ea2]; exact Sb.Same.upd hl2
    have e2 : A2 l2 = some (.tup [.int (1 - (r.put : Int))]) := by rw [← ea2]; exact upd_same
    refine ⟨_, rfl, 1, rfl, ra, _, rfl, SqT.of (nra (s1.trans s2)), (by intro z; have z1 : HT.sIx 3 0 (some 1) = 0 := z.1; revert z1; decide), fun l3 hl3 => ?_⟩
    generalize ea3 : upd A2 l3 _ = A3
    have s3 : Same A2 A3 := by rw [← ea3]; exact Sb.Same.upd hl3
    have e3 : A3 l3 = some (.tup [r.a.v, r.b.v]) := by rw [← ea3]; exact upd_same
    refine ⟨l2, l3, _, _, rfl, rfl, SqT.of (s3 _ _ e2), SqT.of e3, by simp, (by show 1 + 2 ≤ sizeLine; decide), (fun z => absurd z (by simp)), fun _ l4 hl4 => ?_⟩
    generalize ea4 : upd A3 l4 _ = A4
    have s4 : Same A3 A4 := by rw [← ea4]; exact Sb.Same.upd hl4
    have e4 : A4 l4 = some (.tup (flip r).vs) := by
      rw [← ea4, upd_same]
      show some (HO.tup [V.int (1 - (r.put : Int)), r.a.v, r.b.v]) = _
      rw [ep]
      rfl
    refine ⟨(by show 1 ≤ sizeLine; decide), fun l5 hl5 => ?_⟩
    generalize ea5 : upd A4 l5 _ = A5
    have s5 : Same A4 A5 := by rw [← ea5]; exact Sb.Same.upd hl5
    have e5 : A5 l5 = some (.lst [.ref l4]) := by rw [← ea5]; exact upd_same
    have s25 := ((s2.trans s3).trans s4).trans s5
    have lt : (xs.take i).length ≤ 1000 := by rw [List.length_take]; omega
    refine ⟨l1, l5, _, _, rfl, rfl, s25 _ _ e1, e5, Nat.le_trans (by simp only [List.length_cons, List.length_nil]; omega : (xs.take i).length + [V.ref l4].length ≤ 2000) (by decide), fun l6 hl6 => ?_⟩
    generalize ea6 : upd A5 l6 _ = A6
    have s6 : Same A5 A6 := by rw [← ea6]; exact Sb.Same.upd hl6
    have e6 : A6 l6 = some (.lst (xs.take i ++ [.ref l4])) := by rw [← ea6]; exact upd_same
    have s16 := (s1.trans s25).trans s6
    refine ⟨_, rfl, _, rfl, (i : Int), 1, rfl, rfl, ((i + 1 : Nat) : Int), by rw [Int.natCast_add]; rfl, q, xs, rfl, SqL.of (nq s16), fun l7 hl7 => ?_⟩
    rw [cut_drop (by omega : i + 1 ≤ xs.length)]
    generalize ea7 : upd A6 l7 _ = A7
    have s7 : Same A6 A7 := by rw [← ea7]; exact Sb.Same.upd hl7
    have e7 : A7 l7 = some (.lst (xs.drop (i + 1))) := by rw [← ea7]; exact upd_same
    refine ⟨l6, l7, _, _, rfl, rfl, s7 _ _ e6, e7, Nat.le_trans (by simp only [List.length_append, List.length_drop, List.length_cons, List.length_nil]; omega : (xs.take i ++ [V.ref l4]).length + (xs.drop (i + 1)).length ≤ 3000) (by decide), fun l8 hl8 => ?_⟩
    have s8 := Sb.Same.upd (o := .lst ((xs.take i ++ [.ref l4]) ++ xs.drop (i + 1))) hl8
    have s18 := (s16.trans s7).trans s8
    have ex : (xs.take i ++ [V.ref l4]) ++ xs.drop (i + 1) = xs.set i (.ref l4) := by
      rw [List.set_eq_take_append_cons_drop, if_pos (by omega), List.append_assoc]
      rfl
    refine k _ l8 _ i hi (hB1.same s18) (b1.trans (But.same s18)) (free_but b1 hB1 ((s16.trans s7).free hl8)) upd_same ?_
    have ef : flipAt rs i = rs.set i (flip r) := by
      unfold flipAt
      rw [hr']
    rw [ef]
    have fin := RowsV.set (rs := rs) (r := flip r) ⟨l4, rfl, ((s5.trans s6).trans (s7.trans s8)) _ _ e4⟩ i (hR1.same s18)
    rw [← ex] at fin
    exact fin

end K01

set_option Elab.async false
set_option linter.all false
set_option maxRecDepth 100000
set_option maxHeartbeats 4000000
namespace K01
open PySem L2 Sb
variable {P : Program} {w : World} {K : PySem.W.Frag} {mg : Str → Option Value} {base : Heap}
theorem EndAt.ins {D e : Addr} {H : Hp} {hs ss : List Row} (h : EndAt D H e hs ss) : ∃ dx fs, H e = some (.ins D dx fs) := by
  obtain ⟨dx, t1, t2, t3, xs, ys, zs, us, he, _⟩ := h
  exact ⟨dx, _, he⟩
theorem EndAt.butL {D e p : Addr} {H H1 : Hp} {hs ss : List Row} (h : EndAt D H e hs ss) (b : But p H H1) (hp : ∀ xs, H p ≠ some (.tup xs)) (ne : e ≠ p) : EndAt D H1 e hs ss := by
  obtain ⟨dx, t1, t2, t3, xs, ys, zs, us, he, e1, r1, e2, r2, e3, n1, n2⟩ := h
  have nt : ∀ {t : Addr} {xs : List V}, H t = some (.tup xs) → t ≠ p := fun z e => hp _ (by rw [← e]; exact z)
  have kn : ∀ {part : V} {as bs : List V}, Numbered H part as bs → Numbered H1 part as bs := fun N => ⟨N.1, fun i v z => by
    obtain ⟨a, e1, e2⟩ := N.2 i v z
    exact ⟨a, e1, b _ _ e2 (nt e2)⟩⟩
  exact ⟨dx, t1, t2, t3, xs, ys, zs, us, b _ _ he ne, b _ _ e1 (nt e1), r1.but b hp, b _ _ e2 (nt e2), r2.but b hp, b _ _ e3 (nt e3), kn n1, kn n2⟩
/-- an end is made -/
theorem made {C D h1 h2 : Addr} {H : Hp} {xs ys : List V} {hs ss : List Row} {Q : Addr → Hp → Prop} (m1 : Mach H h1 xs) (r1 : RowsV H xs hs) (m2 : Mach H h2 ys) (r2 : RowsV H ys ss) (k1 : HearerOk hs) (k2 : SenderOk ss)
    (q : ∀ (e : Addr) (H' : Hp), Same H H' → H e = none → EndAt D H' e hs ss → Q e H') :
    ∀ x dx, H x = none → H dx = none → dx ≠ x → spEnd C D [.ref x, .ref h1, .ref h2] (upd (upd H dx (.own x)) x (.ins D dx [])) (fun v H3 => v = .non ∧ Q x H3) E0 := by
  intro x dx hx hdx ne
  have s1 : Same H (upd (upd H dx (.own x)) x (.ins D dx [])) := (Sb.Same.upd hdx).trans (Sb.Same.upd (by rw [upd_ne (Ne.symm ne)]; exact hx))
  exact ⟨x, h1, h2, dx, xs, ys, hs, ss, rfl, upd_same, m1.same s1, r1.same s1, m2.same s1, r2.same s1, fun (u v : V) (z : endFault hs ss = some (u, v)) => absurd z (by rw [fault_none k1 k2]; intro q; cases q),
    fun _ H' hE b => ⟨rfl, q x H' (fun c o z => b _ _ (s1 _ _ z) (ne_of_none z hx)) hx hE⟩⟩
theorem flipAt_len {rs : List Row} {i : Nat} : (flipAt rs i).length = rs.length := by
  unfold flipAt
  cases rs[i]? with
  | none => rfl
  | some r => exact List.length_set
theorem flip_ok {many : Nat} {ws : List Str} {r : Row} (h : r.Ok many ws) : (flip r).Ok many ws := ⟨by have := h.1; show 1 - r.put = 0 ∨ 1 - r.put = 1; omega, h.2⟩
theorem flipAt_ok {rs : List Row} {many : Nat} {ws : List Str} (h : ∀ r, r ∈ rs → r.Ok many ws) (i : Nat) : ∀ r, r ∈ flipAt rs i → r.Ok many ws := by
  intro r hr
  unfold flipAt at hr
  cases e : rs[i]? with
  | none =>
    rw [e] at hr
    exact h r hr
  | some q =>
    rw [e] at hr
    rcases List.mem_or_eq_of_mem_set hr with z | z
    · exact h r z
    · subst z
      exact flip_ok (h q (List.mem_of_getElem? e))
theorem flipAt_fol {rs : List Row} {i j : Nat} {p : Pl} (h : Fol (flipAt rs i) j p) : Fol rs j p := by
  obtain ⟨r, hr, hp⟩ := h
  unfold flipAt at hr
  cases e : rs[i]? with
  | none =>
    rw [e] at hr
    exact ⟨r, hr, hp⟩
  | some q =>
    rw [e] at hr
    have hr : (rs.set i (flip q))[j]? = some r := hr
    by_cases c : i = j
    · subst c
      have hi : i < rs.length := (List.getElem?_eq_some_iff.mp e).1
      rw [List.getElem?_set_self hi] at hr
      cases Option.some.inj hr
      exact ⟨q, e, hp⟩
    · rw [List.getElem?_set_ne c] at hr
      exact ⟨r, hr, hp⟩
theorem flipAt_reach {rs : List Row} {i b : Nat} {x : Pl} (h : Reach (flipAt rs i) b x) : Reach rs b x := by
  induction h with
  | base => exact .base
  | step _ f ih => exact .step ih (flipAt_fol f)
theorem hearer_flip {rs : List Row} (h : HearerOk rs) (i : Nat) : HearerOk (flipAt rs i) :=
  ⟨by rw [flipAt_len]; exact h.1, by rw [flipAt_len]; exact h.2.1, by rw [flipAt_len]; exact flipAt_ok h.2.2.1 i, fun z => h.2.2.2 (flipAt_reach z)⟩
theorem sender_flip {rs : List Row} (h : SenderOk rs) (i : Nat) : SenderOk (flipAt rs i) :=
  ⟨by rw [flipAt_len]; exact h.1, by rw [flipAt_len]; exact h.2.1, by rw [flipAt_len]; exact flipAt_ok h.2.2 i⟩
theorem flipAt_ne {rs : List Row} {i : Nat} (hi : i < rs.length) (hp : ∀ r, r ∈ rs → r.put ≤ 1) : rs ≠ flipAt rs i := by
  intro z
  obtain ⟨r, hr⟩ : ∃ r, rs[i]? = some r := ⟨_, List.getElem?_eq_getElem hi⟩
  have e : flipAt rs i = rs.set i (flip r) := by
    unfold flipAt
    rw [hr]
  have q : (rs.set i (flip r))[i]? = some r := by rw [← e, ← z]; exact hr
  rw [List.getElem?_set_self hi] at q
  have q2 : (flip r).put = r.put := congrArg Row.put (Option.some.inj q)
  have := hp r (List.mem_of_getElem? hr)
  have q3 : 1 - r.put = r.put := q2
  omega

end K01

set_option Elab.async false
set_option linter.all false
set_option maxRecDepth 100000
set_option maxHeartbeats 4000000
namespace K01
open PySem L2 Sb
variable {P : Program} {w : World} {K : PySem.W.Frag} {mg : Str → Option Value} {base : Heap}
def turn2 {α : Type} : List α → List α → List α
  | [x], [b, c] => [x, c, b]
  | _, _ => []
theorem kb_end {f : Addr} {fd : FuncData} (F : Fun K "__init__" "End.__init__" sEnd_init f fd) : KBn K fd ["self", "hearer", "sender"] 1 ["sender", "hearer"] turn2 turn2 := by
  obtain ⟨oc, od, kV, doc, pm, an, cdv, ct, osl, rfl, at_, cd_⟩ := F.ex
  refine ⟨fun s us ws X h1 h2 => ?_, fun {vs us zs ws} r1 r2 => ?_⟩
  · match us, ws, h1, h2 with
    | [x], [b, c], _, _ => exact .of_eq rfl
  · cases r1 with
    | nil => exact .nil
    | cons a r =>
      cases r with
      | cons _ _ => exact .nil
      | nil =>
        match zs, ws, r2 with
        | [], _, .nil => exact .nil
        | [_], _, .cons _ .nil => exact .nil
        | [_, _], _, .cons x (.cons y .nil) => exact .cons a (.cons y (.cons x .nil))
        | _ :: _ :: _ :: _, _, .cons _ (.cons _ (.cons _ _)) => exact .nil
/-- a class with its __init__, made by name too -/
structure MxK (P : Program) (w : World) (K : PySem.W.Frag) (mg : Str → Option Value) (base : Heap) (CX : CXT) (k : Nat) (x : Str) (D f : Addr) (fd : FuncData) (ps : List Str) (sp : Sp) : Prop extends Mx P w K mg base CX k x D f fd ps sp where
  kb : KBn K fd ["self", "hearer", "sender"] 1 ["sender", "hearer"] turn2 turn2
def spLaw (K : PySem.W.Frag) : Sp := fun vs H Q _ => ∃ (a : Addr) (ns : List Int), vs = [.ref a] ∧ SqL K H a (ns.map V.int) ∧ ns.length ≤ 63 ∧ ∀ H', Q (.bl true) H'
theorem ok_law {f fB fT fH fS fE fR fC C D hA sA p1 g1 p2 g2 fQ fZ : Addr} {fd fdB fdT fdH fdS fdE fdR fdC fd1 fd2 fdQ fdZ : FuncData} (F : Fun K "law" "law" slaw f fd) (T : Txt K mg) (TE : TxtE K mg D hA sA) (o : ClsO K D)
    (G__law_bag : Fx P w K mg base CX0 1 "_law_bag" fB fdB ["_law_script", "_law_at"] (spBag K)) (G__law_take : Fx P w K mg base CX0 1 "_law_take" fT fdT ["_law_bag_here", "_law_many"] spTake)
    (G__law_hearer : Fx P w K mg base CX0 4 "_law_hearer" fH fdH ["_law_bag_here", "_law_many"] spHearer) (G__law_sender : Fx P w K mg base CX0 4 "_law_sender" fS fdS ["_law_bag_here", "_law_many"] spSender)
    (M_End : MxK P w K mg base (L2.CX P w) 5 "End" D fE fdE ["self", "hearer", "sender"] (spEnd C D)) (G__law_right : Fx P w K mg base CX0 3 "_law_right" fR fdR ["_law_end", "_law_ears", "_law_mouth"] (spRight D))
    (G__law_changed : Fx P w K mg base CX0 2 "_law_changed" fC fdC ["_law_bag_here", "_law_rows_here"] spChanged) (Q_hearer : Px P w K mg base D p1 g1 fd1 "hearer" "hearer_rows") (Q_sender : Px P w K mg base D p2 g2 fd2 "sender" "sender_rows")
    (N_eq : Nx P w K mg base 1 D fQ "__eq__" fdQ ["self", "other"] (spEq K D)) (N_str : Nx P w K mg base 2 D fZ "__str__" fdZ ["self"] (spStrE D)) :
    FnOk P w K mg base CX0 9 f fd ["_law_script"] (spLaw K) := by
  refine F.ok sclaw (fun vs H Q E h => ?_) (fun cdv A outer s H vs Q E hr h => ?_)
  · obtain ⟨a, ns, rfl, _⟩ := h
    rfl
  · obtain ⟨a, ns, rfl, hS, hlen, k⟩ := h
    refine ⟨_, (pss_cons (ps_for PassesOwn.never rfl (pi_range1 (by rfl) T.b_range (pa_cons (pe_callB (call_max2 rfl) (by rfl) T.b_max (by decide +kernel) (pa_cons pe_int (pa_cons (pe_callB (call_min2 rfl) (by rfl) T.b_min (by decide +kernel) (pa_cons pe_int (pa_cons (pe_callB call_len_seq (by rfl) T.b_len (by decide +kernel) (pa_cons (pv 0) pa_nil)) pa_nil))) pa_nil))) pa_nil)) (pg_name (i := 1) sclaw.nd rfl (Or.inl rfl)) (pss_cons (ps_set (i := 2) sclaw.nd rfl (Or.inl rfl) (pe_call G__law_bag.ok (hr.mono (by decide)) rfl G__law_bag.mg G__law_bag.kp G__law_bag.bd .nil pass0 (pa_cons (pv 0) (pa_cons (pv 1) pa_nil))))
  (pss_one (ps_for PassesOwn.never rfl (pi_range1 (by rfl) T.b_range (pa_cons pe_int pa_nil)) (pg_name (i := 3) sclaw.nd rfl (Or.inl rfl)) (pss_cons (ps_par (i := 4) (j := 5) rfl sclaw.nd rfl rfl (by decide) rfl rfl (pa_cons (pe_call G__law_hearer.ok (hr.mono (by decide)) rfl G__law_hearer.mg G__law_hearer.kp G__law_hearer.bd .nil pass0 (pa_cons (pv 2) (pa_cons (pe_op op_add pe_int (pe_call G__law_take.ok (hr.mono (by decide)) rfl G__law_take.mg G__law_take.kp G__law_take.bd .nil pass0 (pa_cons (pv 2) (pa_cons pe_int pa_nil)))) pa_nil))) (pa_cons (pe_call G__law_sender.ok (hr.mono (by decide)) rfl G__law_sender.mg G__law_sender.kp G__law_sender.bd .nil pass0 (pa_cons (pv 2) (pa_cons (pe_op op_add pe_int (pe_call G__law_take.ok (hr.mono (by decide)) rfl G__law_take.mg G__law_take.kp G__law_take.bd .nil pass0 (pa_cons (pv 2) (pa_cons pe_int pa_nil)))) pa_nil))) pa_nil)) (by rfl))
  (pss_cons (ps_par (i := 6) (j := 7) rfl sclaw.nd rfl rfl (by decide) rfl rfl (pa_cons (pe_callTy call_list_of (by rfl) T.b_list (by decide +kernel) (pa_cons (pv 4) pa_nil)) (pa_cons (pe_callTy call_list_of (by rfl) T.b_list (by decide +kernel) (pa_cons (pv 5) pa_nil)) pa_nil)) (by rfl))
  (C8.pss_cut (ps_set (i := 8) sclaw.nd rfl (Or.inl rfl) (pe_ifExp (pt_cmpR op_eq (pe_call G__law_take.ok (hr.mono (by decide)) rfl G__law_take.mg G__law_take.kp G__law_take.bd .nil pass0 (pa_cons (pv 2) (pa_cons pe_int pa_nil))) pe_int (nomark _)) (pe_make M_End.mkC M_End.ok (hr.mono (by decide)) rfl M_End.mg M_End.bd .nil passNo (pa_cons (pv 6) (pa_cons (pv 7) pa_nil))) (pe_makeK0 M_End.mkC M_End.ok (hr.mono (by decide)) rfl M_End.mg M_End.kb passNo (pk_cons (pv 7) (pk_cons (pv 6) pk_nil)))))
  (pss_cons (ps_if (PW.pt (pw_or (pt_not (pt_val (pe_call G__law_right.ok (hr.mono (by decide)) rfl G__law_right.mg G__law_right.kp G__law_right.bd .nil pass0 (pa_cons (pv 8) (pa_cons (pv 4) (pa_cons (pv 5) pa_nil)))))) (pw_or1 (pt_not (pt_val (pe_call G__law_right.ok (hr.mono (by decide)) rfl G__law_right.mg G__law_right.kp G__law_right.bd .nil pass0 (pa_cons (pe_make M_End.mkC M_End.ok (hr.mono (by decide)) rfl M_End.mg M_End.bd .nil passNo (pa_cons (pe_callTy call_tupleM (by rfl) T.b_tuple (by decide +kernel) (pa_cons (pv 6) pa_nil)) (pa_cons (pe_callTy call_tupleM (by rfl) T.b_tuple (by decide +kernel) (pa_cons (pv 7) pa_nil)) pa_nil))) (pa_cons (pv 4) (pa_cons (pv 5) pa_nil))))))))) (pss_one (ps_ret pe_bl)) pss_nil)
  (pss_cons (ps_if (PW.pt (pw_or (pt_cmpR (op_neD hr.units) (pv 6) (pv 4) (nomark _)) (pw_or (pt_cmpR (op_neD hr.units) (pv 7) (pv 5) (nomark _)) (pw_or1 (pt_not (pt_cmpR (op_eqOwn N_eq.m N_eq.ok (hr.mono (by decide)) N_eq.bd pass0) (pv 8) (pe_make M_End.mkC M_End.ok (hr.mono (by decide)) rfl M_End.mg M_End.bd .nil passNo (pa_cons (pe_callTy call_tupleM (by rfl) T.b_tuple (by decide +kernel) (pa_cons (pv 4) pa_nil)) (pa_cons (pe_callTy call_list_of (by rfl) T.b_list (by decide +kernel) (pa_cons (pv 5) pa_nil)) pa_nil))) (nomark _))))))) (pss_one (ps_ret pe_bl)) pss_nil)
  (pss_cons (ps_if (PW.pt (pw_or (pt_cmpR (op_eqOwn N_eq.m N_eq.ok (hr.mono (by decide)) N_eq.bd pass0) (pv 8) (pe_make M_End.mkC M_End.ok (hr.mono (by decide)) rfl M_End.mg M_End.bd .nil passNo (pa_cons (pe_call G__law_changed.ok (hr.mono (by decide)) rfl G__law_changed.mg G__law_changed.kp G__law_changed.bd .nil pass0 (pa_cons (pv 2) (pa_cons (pv 4) pa_nil))) (pa_cons (pv 5) pa_nil))) (nomark _)) (pw_or1 (pt_cmpR (op_eqOwn N_eq.m N_eq.ok (hr.mono (by decide)) N_eq.bd pass0) (pv 8) (pe_make M_End.mkC M_End.ok (hr.mono (by decide)) rfl M_End.mg M_End.bd .nil passNo (pa_cons (pv 4) (pa_cons (pe_call G__law_changed.ok (hr.mono (by decide)) rfl G__law_changed.mg G__law_changed.kp G__law_changed.bd .nil pass0 (pa_cons (pv 2) (pa_cons (pv 5) pa_nil))) pa_nil))) (nomark _))))) (pss_one (ps_ret pe_bl)) pss_nil)
  (pss_cons (ps_asg pe_non (pg_sub (pv 6) pe_int set_list))
  (pss_cons (ps_expr (pe_bm PySem.F.plainAttrs_list PySem.F.slot_list_append PySem.F.type_list_append mt_append (pv 6) (pa_cons (pe_tup (pa_cons pe_int (pa_cons pe_int (pa_cons pe_int pa_nil)))) pa_nil)))
  (pss_cons (ps_expr (pe_bm0 PySem.F.plainAttrs_list PySem.F.slot_list_clear PySem.F.type_list_clear mt_clear (pv 7)))
  (pss_cons (ps_if (PW.pt (pw_or (pt_not (pt_val (pe_call G__law_right.ok (hr.mono (by decide)) rfl G__law_right.mg G__law_right.kp G__law_right.bd .nil pass0 (pa_cons (pv 8) (pa_cons (pv 4) (pa_cons (pv 5) pa_nil)))))) (pw_or (pt_cmpR (op_eqOwn N_eq.m N_eq.ok (hr.mono (by decide)) N_eq.bd pass0) (pv 8) (pv 4) (nomark _)) (pw_or1 (pt_cmpR (op_eqOwn N_eq.m N_eq.ok (hr.mono (by decide)) N_eq.bd pass0) (pv 8) (pe_tup (pa_cons (pe_prop (pv 8) TE.clD Q_hearer.pof Q_hearer.ok (hr.mono (by decide)) Q_hearer.bd .nil pass0 rfl) (pa_cons (pe_prop (pv 8) TE.clD Q_sender.pof Q_sender.ok (hr.mono (by decide)) Q_sender.bd .nil pass0 rfl) pa_nil))) (nomark _)))))) (pss_one (ps_ret pe_bl)) pss_nil)
  (pss_one (ps_if (PW.pt (pw_or (pt_cmpR (op_eqOwn N_eq.m N_eq.ok (hr.mono (by decide)) N_eq.bd pass0) (pv 8) (pe_callTy (call_strOwn N_str.m N_str.ok (hr.mono (by decide)) N_str.bd pass0) (by rfl) T.b_str (by decide +kernel) (pa_cons (pv 8) pa_nil)) (nomark _)) (pw_or1 (pt_not (pt_cmpR (op_eqOwn N_eq.m N_eq.ok (hr.mono (by decide)) N_eq.bd pass0) (pv 8) (pv 8) (nomark _)))))) (pss_one (ps_ret pe_bl)) pss_nil))))))))))))))))
  (pss_one (ps_ret (pe_cmpR op_eq (ClX.pe_cval (pe_glob (v := .ref _) (by rfl) TE.m_End rfl)) pe_int (nomark _))))), ?_⟩
    refine ⟨_, rfl, a, _, rfl, .inl hS, _, _, rfl, _, _, rfl, _, rfl, by split <;> (try split) <;> omega, by split <;> (try split) <;> omega,
      for_range (lo := 0) (n := _) (fun i σ' H' => ∃ v1 v2 v3 v4 v5 v6 v7 v8 : Option V, σ' = [some (.ref a), v1, v2, v3, v4, v5, v6, v7, v8] ∧ Same H H')
      ⟨none, none, none, none, none, none, none, none, rfl, Same.refl _⟩ ?_ ?_⟩
    · rintro i σ' H2 hi ⟨v1, v2, v3, v4, v5, v6, v7, v8, rfl, s2⟩
      have hi4 : i ≤ 4 := by
        have h2 : ∀ z : Int, z.toNat ≤ 4 → i < z.toNat → i ≤ 4 := fun z h h' => by omega
        refine h2 _ ?_ hi
        split <;> (try split) <;> omega
      refine ⟨_, rfl, _, rfl, a, ns, i, by rw [Int.zero_add]; rfl, s2.seq hS, by omega, hlen, fun H3 p hp s3 hB3 => ?_⟩
      have hpH : H p = none := s2.free hp
      have s13 : Same H H3 := s2.trans s3
      -- the turns
      refine ⟨4, rfl, by decide, by decide, for_range (lo := 0) (n := 4) (fun t σ' H' => ∃ v3 v4 v5 v6 v7 v8 : Option V, σ' = [some (.ref a), some (.int (0 + (i : Int))), some (.ref p), v3, v4, v5, v6, v7, v8] ∧ Same H H' ∧ Bag H' p (1000 * t))
        ⟨v3, v4, v5, v6, v7, v8, rfl, s13, hB3⟩ ?_ ?_⟩
      · rintro t σ' H4 ht ⟨v3, v4, v5, v6, v7, v8, rfl, s4, hB4⟩
        refine ⟨_, rfl, _, rfl, p, _, 6, rfl, hB4, by omega, by decide, by decide, fun H5 d5 d50 d51 hB5 b5 => ?_⟩
        obtain ⟨m1, rfl⟩ : ∃ m : Nat, d5 = (m : Int) := ⟨d5.toNat, by omega⟩
        refine ⟨_, _, rfl, rfl, p, _, 2 + m1, by rw [Int.natCast_add]; rfl, hB5, by omega, by omega, by omega, fun H6 q1 xs hs hB6 b6 hq1 eq1 hR1 hl1 hok1 => ?_⟩
        refine ⟨_, rfl, _, rfl, p, _, 6, rfl, hB6, by omega, by decide, by decide, fun H7 d7 d70 d71 hB7 b7 => ?_⟩
        obtain ⟨m2, rfl⟩ : ∃ m : Nat, d7 = (m : Int) := ⟨d7.toNat, by omega⟩
        refine ⟨_, _, rfl, rfl, p, _, 1 + m2, by rw [Int.natCast_add]; rfl, hB7, by omega, by omega, by omega, fun H8 q2 ys ss hB8 b8 hq2 eq2 hR2 hl2 hok2 => ?_⟩
        have nq1 : q1 ≠ p := by
          obtain ⟨g, b, c, e, _⟩ := hB5
          exact Ne.symm (ne_of_none e hq1)
        have nq2 : q2 ≠ p := by
          obtain ⟨g, b, c, e, _⟩ := hB7
          exact Ne.symm (ne_of_none e hq2)
        have b68 := b7.trans b8
        have eq1' : H8 q1 = some (.lst xs) := b68 _ _ eq1 nq1
        have hR1' : RowsV H8 xs hs := hR1.but b68 hB6.no
        refine ⟨_, _, rfl, ?_⟩
        have ok1 : ∀ r, r ∈ hs → okRow r := fun r hr => okRow_of (.inl rfl) (hok1.2.2.1 r hr)
        have ok2 : ∀ r, r ∈ ss → okRow r := fun r hr => okRow_of (.inr rfl) (hok2.2.2 r hr)
        have len1 : hs.length ≤ 1000 := Nat.le_trans hok1.2.1 (by decide)
        have len2 : ss.length ≤ 1000 := Nat.le_trans hok2.2.1 (by decide)
        have sm1 : ∀ r, r ∈ hs → smallRow r := fun r hr => smallRow_of (.inl rfl) len1 (hok1.2.2.1 r hr)
        have sm2 : ∀ r, r ∈ ss → smallRow r := fun r hr => smallRow_of (.inr rfl) len2 (hok2.2.2 r hr)
        have put1 : ∀ r, r ∈ hs → r.put ≤ 1 := fun r hr => by have := (hok1.2.2.1 r hr).1; omega
        have put2 : ∀ r, r ∈ ss → r.put ≤ 1 := fun r hr => by have := (hok2.2.2 r hr).1; omega
        have shL1 : SeqAt.shaped (.list (rowsD hs)) = true := shaped_lst (rowsD_lay ok1) (by decide)
        have shL2 : SeqAt.shaped (.list (rowsD ss)) = true := shaped_lst (rowsD_lay ok2) (by decide)
        have same : ∀ d : PyData, SeqAt.shaped d = true → V.bl (!PyData.eqv d d) = V.bl false := fun d h => congrArg (fun b => V.bl (!b)) (SeqAt.eqv_refl _ (SeqAt.canLay_of_shaped h))
        have dpL : ∀ {H' : Hp} {l : Addr} {zs : List V} {rs : List Row}, H' l = some (.lst zs) → RowsV H' zs rs → Dp K H' (.ref l) (.list (rowsD rs)) := fun e r => .lst (SqL.of e) (rowsD_dp r)
        -- the copies
        refine ⟨_, rfl, q1, xs, rfl, .inl (SqL.of eq1'), fun o1 ho1 => ?_⟩
        refine ⟨_, rfl, q2, ys, rfl, .inl (SqL.of ((Sb.Same.upd ho1) _ _ eq2)), fun o2 ho2 => ⟨_, _, rfl, ?_⟩⟩
        generalize eh10 : upd (upd H8 o1 _) o2 _ = H10
        have s10 : Same H8 H10 := by rw [← eh10]; exact (Sb.Same.upd ho1).trans (Sb.Same.upd ho2)
        have n12 : o1 ≠ o2 := ne_of_none (upd_same (H := H8) (a := o1)) ho2
        have ho2' : H8 o2 = none := (Sb.Same.upd ho1).free ho2
        have eo1 : H10 o1 = some (.lst xs) := by rw [← eh10, upd_ne n12]; exact upd_same
        have eo2 : H10 o2 = some (.lst ys) := by rw [← eh10]; exact upd_same
        have hB10 := hB8.same s10
        have np1 : o1 ≠ p := by
          obtain ⟨g, b, c, z, _⟩ := hB8
          exact Ne.symm (ne_of_none z ho1)
        have np2 : o2 ≠ p := by
          obtain ⟨g, b, c, z, _⟩ := hB8
          exact Ne.symm (ne_of_none z ho2')
        -- what stands while only the bag is drawn from
        have f1 : ∀ {H' : Hp}, But p H10 H' → H' q1 = some (.lst xs) ∧ RowsV H' xs hs := fun b => ⟨b _ _ (s10 _ _ eq1') nq1, (hR1'.same s10).but b hB10.no⟩
        have f2 : ∀ {H' : Hp}, But p H10 H' → H' q2 = some (.lst ys) ∧ RowsV H' ys ss := fun b => ⟨b _ _ (s10 _ _ eq2) nq2, (hR2.same s10).but b hB10.no⟩
        have g1 : ∀ {H' : Hp}, But p H10 H' → H' o1 = some (.lst xs) := fun b => b _ _ eo1 np1
        have g2 : ∀ {H' : Hp}, But p H10 H' → H' o2 = some (.lst ys) := fun b => b _ _ eo2 np2
        refine ⟨fun σ' H' => ∃ e : Addr, σ' = [some (.ref a), some (.int (0 + (i : Int))), some (.ref p), some (.int (0 + (t : Int))), some (.ref q1), some (.ref q2), some (.ref o1), some (.ref o2), some (.ref e)] ∧ But p H10 H' ∧ Bag H' p (1000 * t + 100) ∧ EndAt D H' e hs ss ∧ H10 e = none, ?_, ?_⟩
        · refine ⟨_, rfl, p, _, 2, rfl, hB10, by omega, by decide, by decide, fun H11 d d0 d1 hB11 b11 => ?_⟩
          obtain ⟨z1, z2⟩ := f1 b11
          obtain ⟨z3, z4⟩ := f2 b11
          refine ⟨rfl, _, rfl, ite2 (fun _ => ?_) (fun _ => ?_)⟩
          · refine ⟨_, rfl, _, rfl, made (.inl (g1 b11)) z2 (.inl (g2 b11)) z4 hok1 hok2 fun e H12 s12 he hE => ?_⟩
            exact ⟨e, rfl, b11.trans (But.same s12), (hB11.same s12).mono (by omega), hE, free_but b11 hB11 he⟩
          · refine ⟨_, rfl, _, rfl, rfl, rfl, made (.inl (g1 b11)) z2 (.inl (g2 b11)) z4 hok1 hok2 fun e H12 s12 he hE => ?_⟩
            exact ⟨e, rfl, b11.trans (But.same s12), (hB11.same s12).mono (by omega), hE, free_but b11 hB11 he⟩
        rintro σ' H11 ⟨e, rfl, b11, hB11, hE, he0⟩
        have npe : e ≠ p := by
          obtain ⟨g, b, c, z, _⟩ := hB10
          exact Ne.symm (ne_of_none z he0)
        have fE : ∀ {H' : Hp}, But p H11 H' → EndAt D H' e hs ss := fun b => hE.but b hB11 npe
        -- it shows its machines
        obtain ⟨z1, z2⟩ := f1 b11
        obtain ⟨z3, z4⟩ := f2 b11
        refine ⟨_, rfl, _, rfl, _, rfl, e, q1, q2, xs, ys, hs, ss, rfl, hE, z1, z2, z3, z4, len1, len2, ok1, ok2, fun H12 s12 => ⟨true, rfl, iteF ?_⟩⟩
        have b12 := b11.trans (But.same s12)
        refine ⟨_, rfl, o1, xs, rfl, .inl (g1 b12), fun t1 H13 s13 e13 => ?_⟩
        have b13 := b12.trans (But.same s13)
        refine ⟨_, rfl, o2, ys, rfl, .inl (g2 b13), fun t2 H14 s14 e14 => ?_⟩
        have b14 := b13.trans (But.same s14)
        refine made (.inr (s14 _ _ e13)) (f1 b14).2 (.inr e14) (f2 b14).2 hok1 hok2 fun e2 H15 s15 _ hE2 => ?_
        have b15 := b14.trans (But.same s15)
        refine ⟨_, rfl, _, rfl, e2, q1, q2, xs, ys, hs, ss, rfl, hE2, (f1 b15).1, (f1 b15).2, (f2 b15).1, (f2 b15).2, len1, len2, ok1, ok2, fun H16 s16 => ⟨true, rfl, iteF ?_⟩⟩
        have b16 := b15.trans (But.same s16)
        have c16 : Same H11 H16 := (((s12.trans s13).trans s14).trans s15).trans s16
        have hB16 := hB11.same c16
        -- the lists are as they were; equal machines make equal ends
        refine ⟨_, rfl, _, rfl, _, _, dpL (g1 b16) (f1 b16).2, dpL (f1 b16).1 (f1 b16).2, shL1, shL1, false, same _ shL1, iteF ?_⟩
        refine ⟨_, rfl, _, rfl, _, _, dpL (g2 b16) (f2 b16).2, dpL (f2 b16).1 (f2 b16).2, shL2, shL2, false, same _ shL2, iteF ?_⟩
        refine ⟨_, rfl, _, rfl, q1, xs, rfl, .inl (f1 b16).1, fun t3 H17 s17 e17 => ?_⟩
        have b17 := b16.trans (But.same s17)
        refine ⟨_, rfl, q2, ys, rfl, .inl (SqL.of (f2 b17).1), fun l3 hl3 => ?_⟩
        have u3 := Sb.Same.upd (o := .lst ys) hl3
        have b17' := b17.trans (But.same u3)
        refine made (.inr (u3 _ _ e17)) (f1 b17').2 (.inl upd_same) (f2 b17').2 hok1 hok2 fun e3 H18 s18 he3 hE3 => ?_
        have c18 : Same H11 H18 := ((c16.trans s17).trans u3).trans s18
        have b18 : But p H10 H18 := b17'.trans (But.same s18)
        have hB18 := hB11.same c18
        obtain ⟨dx, fs, hi⟩ := (fE (But.same c18)).ins
        obtain ⟨dx3, fs3, hi3⟩ := hE3.ins
        refine ⟨e, dx, fs, _, rfl, hi, .base (.ins hi3 TE.clD o.u o.g o.k o.m), first_self, e, .ref e3, hs, ss, rfl, fE (But.same c18), ok1, ok2, .inl ⟨e3, hs, ss, rfl, hE3, ok1, ok2, _, rfl, true, congrArg V.bl (decide_eq_true ⟨rfl, rfl⟩), iteF ?_⟩⟩
        -- unequal machines make unequal ends
        refine ⟨_, rfl, _, rfl, _, rfl, p, q1, _, xs, hs, rfl, hB18, by omega, (f1 b18).1, nq1, (f1 b18).2, by omega, len1, put1, fun H19 l4 xs4 j4 hj4 hB19 b19 hl4 el4 hR4 => ?_⟩
        have c19 : But p H11 H19 := (But.same c18).trans b19
        have d19 : But p H10 H19 := b18.trans b19
        refine ⟨_, rfl, made (.inl el4) hR4 (.inl (f2 d19).1) (f2 d19).2 (hearer_flip hok1 j4) hok2 fun e4 H20 s20 he4 hE4 => ?_⟩
        have c20 : But p H11 H20 := c19.trans (But.same s20)
        have d20 : But p H10 H20 := d19.trans (But.same s20)
        have hB20 := hB19.same s20
        obtain ⟨dx', fs', hi'⟩ := (fE c20).ins
        obtain ⟨dx4, fs4, hi4'⟩ := hE4.ins
        have okF1 : ∀ r, r ∈ flipAt hs j4 → okRow r := fun r hr => okRow_of (.inl rfl) (flipAt_ok hok1.2.2.1 j4 r hr)
        refine ⟨e, dx', fs', _, rfl, hi', .base (.ins hi4' TE.clD o.u o.g o.k o.m), first_self, e, .ref e4, hs, ss, rfl, fE c20, ok1, ok2, .inl ⟨e4, _, ss, rfl, hE4, okF1, ok2, _, rfl, false, congrArg V.bl (decide_eq_false fun z => flipAt_ne hj4 put1 z.1), iteF ?_⟩⟩
        refine ⟨_, rfl, _, rfl, _, rfl, _, rfl, p, q2, _, ys, ss, rfl, hB20, by omega, (f2 d20).1, nq2, (f2 d20).2, by omega, len2, put2, fun H21 l5 xs5 j5 hj5 hB21 b21 hl5 el5 hR5 => ?_⟩
        have c21 : But p H11 H21 := c20.trans b21
        have d21 : But p H10 H21 := d20.trans b21
        refine made (.inl (f1 d21).1) (f1 d21).2 (.inl el5) hR5 hok1 (sender_flip hok2 j5) fun e5 H22 s22 he5 hE5 => ?_
        have c22 : But p H11 H22 := c21.trans (But.same s22)
        have d22 : But p H10 H22 := d21.trans (But.same s22)
        have hB22 := hB21.same s22
        obtain ⟨dx2, fs2, hi2⟩ := (fE c22).ins
        obtain ⟨dx5, fs5, hi5⟩ := hE5.ins
        have okF2 : ∀ r, r ∈ flipAt ss j5 → okRow r := fun r hr => okRow_of (.inr rfl) (flipAt_ok hok2.2.2 j5 r hr)
        refine ⟨e, dx2, fs2, _, rfl, hi2, .base (.ins hi5 TE.clD o.u o.g o.k o.m), first_self, e, .ref e5, hs, ss, rfl, fE c22, ok1, ok2, .inl ⟨e5, hs, _, rfl, hE5, ok1, okF2, _, rfl, false, congrArg V.bl (decide_eq_false fun z => flipAt_ne hj5 put2 z.2), iteF ?_⟩⟩
        -- the lists are changed
        have xl : 0 < xs.length := by rw [hR1.len]; omega
        refine ⟨_, rfl, o1, xs, 0, 0, rfl, rfl, g1 d22, ixN_nat (j := 0) xl, ?_⟩
        generalize eh23 : upd H22 o1 _ = H23
        have b23 : But o1 H22 H23 := by rw [← eh23]; exact But.upd
        have eo23 : H23 o1 = some (.lst (xs.set 0 .non)) := by rw [← eh23]; exact upd_same
        refine ⟨_, rfl, .inl ⟨rfl, _, SqL.of eo23⟩, (by show 3 ≤ sizeLine; decide), fun t6 ht6 => ?_⟩
        generalize eh24 : upd H23 t6 _ = H24
        have s24 : Same H23 H24 := by rw [← eh24]; exact Sb.Same.upd ht6
        refine ⟨o1, _, _, rfl, rfl, s24 _ _ eo23, ?_, ?_⟩
        · rw [List.length_set, hR1.len]
          exact Nat.lt_of_le_of_lt len1 (by decide)
        generalize eh25 : upd H24 o1 _ = H25
        have b25 : But o1 H24 H25 := by rw [← eh25]; exact But.upd
        have k25 : But o1 H22 H25 := (b23.trans (But.same s24)).trans b25
        have eo25 : H25 o2 = some (.lst ys) := k25 _ _ (g2 d22) (Ne.symm n12)
        refine ⟨_, rfl, .inl ⟨rfl, _, SqL.of eo25⟩, o2, ys, rfl, rfl, eo25, ?_⟩
        generalize eh26 : upd H25 o2 _ = H26
        have b26 : But o2 H25 H26 := by rw [← eh26]; exact But.upd
        have ne1 : e ≠ o1 := Ne.symm (ne_of_none eo1 he0)
        have ne2 : e ≠ o2 := Ne.symm (ne_of_none eo2 he0)
        have k26 : ∀ b u, H22 b = some u → b ≠ o1 → b ≠ o2 → H26 b = some u := fun b u z m1 m2 => b26 _ _ (k25 _ _ z m1) m2
        have nl : ∀ {H' : Hp} {l : Addr} {zs : List V}, H' l = some (.lst zs) → ∀ xs, H' l ≠ some (.tup xs) := fun h xs z => by
          rw [h] at z
          cases z
        have hE26 : EndAt D H26 e hs ss := ((fE c22).butL k25 (nl (g1 d22)) ne1).butL b26 (nl eo25) ne2
        have q1o1 : q1 ≠ o1 := ne_of_none eq1' ho1
        have q1o2 : q1 ≠ o2 := ne_of_none eq1' ho2'
        have q2o1 : q2 ≠ o1 := ne_of_none eq2 ho1
        have q2o2 : q2 ≠ o2 := ne_of_none eq2 ho2'
        have y1 : H26 q1 = some (.lst xs) := k26 _ _ (f1 d22).1 q1o1 q1o2
        have y2 : H26 q2 = some (.lst ys) := k26 _ _ (f2 d22).1 q2o1 q2o2
        have r1 : RowsV H26 xs hs := (((f1 d22).2).but k25 (nl (g1 d22))).but b26 (nl eo25)
        have r2 : RowsV H26 ys ss := (((f2 d22).2).but k25 (nl (g1 d22))).but b26 (nl eo25)
        refine ⟨_, rfl, _, rfl, _, rfl, e, q1, q2, xs, ys, hs, ss, rfl, hE26, y1, r1, y2, r2, len1, len2, ok1, ok2, fun H27 s27 => ⟨true, rfl, iteF ?_⟩⟩
        have hE27 := hE26.same s27
        obtain ⟨ex, t1', t2', t3', xs', ys', zs', us', h27, e1', r1', e2', r2', _⟩ := id hE27
        refine ⟨_, rfl, _, rfl, e, ex, _, _, rfl, h27, .base (.lst (s27 _ _ y1)), not_first (n := "list") rfl rfl, e, .ref q1, hs, ss, rfl, hE27, ok1, ok2, .inr ⟨"list", _, .base (.lst (s27 _ _ y1)), rfl, rfl, _, rfl, false, rfl, iteF ?_⟩⟩
        refine ⟨_, rfl, _, rfl, e, ex, _, rfl, h27, e, ex, _, .ref t1', rfl, h27, rfl, _, rfl, e, ex, _, rfl, h27, e, ex, _, .ref t2', rfl, h27, rfl, (by show 2 ≤ sizeLine; decide), fun t7 ht7 => ?_⟩
        have s28 := Sb.Same.upd (o := .tup [.ref t1', .ref t2']) ht7
        have tt7 : TyX K (upd H27 t7 (.tup [.ref t1', .ref t2'])) (.ref t7) (.type "tuple") := .base (.tup upd_same)
        refine ⟨e, ex, _, _, rfl, s28 _ _ h27, tt7, not_first (n := "tuple") rfl rfl, e, .ref t7, hs, ss, rfl, hE27.same s28, ok1, ok2, .inr ⟨"tuple", _, tt7, rfl, rfl, _, rfl, false, rfl, iteF ?_⟩⟩
        have hE28 := hE27.same s28
        have h28 := s28 _ _ h27
        refine ⟨_, rfl, _, rfl, e, ex, _, rfl, h28, e, hs, ss, rfl, hE28, len1, len2, sm1, sm2, fun H29 s29 => ⟨_, rfl, ?_⟩⟩
        have hE29 := hE28.same s29
        have h29 := s29 _ _ h28
        refine ⟨e, ex, _, _, rfl, h29, .base (.str _), not_first (n := "str") rfl rfl, e, _, hs, ss, rfl, hE29, ok1, ok2, .inr ⟨"str", _, .base (.str _), rfl, rfl, _, rfl, false, rfl, iteF ?_⟩⟩
        refine ⟨_, rfl, _, rfl, e, ex, _, _, rfl, h29, .base (.ins h29 TE.clD o.u o.g o.k o.m), first_self, e, .ref e, hs, ss, rfl, hE29, ok1, ok2, .inl ⟨e, hs, ss, rfl, hE29, ok1, ok2, _, rfl, true, congrArg V.bl (decide_eq_true ⟨rfl, rfl⟩), iteF ?_⟩⟩
        -- the next turn
        have s2629 : Same H26 H29 := (s27.trans s28).trans s29
        refine ⟨_, _, _, _, _, _, rfl, fun b u z => ?_, ?_⟩
        · have z8 : H8 b = some u := (((b5.trans b6).trans b7).trans b8) _ _ (s4 _ _ z) (ne_of_none z hpH)
          exact s2629 _ _ (k26 _ _ (d22 _ _ (s10 _ _ z8) (ne_of_none z hpH)) (ne_of_none z8 ho1) (ne_of_none z8 ho2'))
        · obtain ⟨g, b, c, z, l1, l2, l3, l4, l5⟩ := hB22
          exact ⟨g, b, c, s2629 _ _ (k26 _ _ z (Ne.symm np1) (Ne.symm np2)), l1, l2, l3, l4, by omega⟩
      · rintro σ' H4 ⟨v3, v4, v5, v6, v7, v8, rfl, s4, hB4⟩
        exact ⟨_, _, _, _, _, _, _, _, rfl, s4⟩
    · rintro σ' H2 ⟨v1, v2, v3, v4, v5, v6, v7, v8, rfl, s2⟩
      obtain ⟨mc, u, cr, cv⟩ := TE.most
      exact ⟨D, mc, _, u, rfl, cr, cv, rfl, k _⟩

end K01

set_option Elab.async false
set_option linter.all false
set_option maxRecDepth 100000
set_option maxHeartbeats 4000000
namespace K01
open PySem L2 Sb
theorem all_mk {l : PySem.W.OpenLaw} {w : World} {K : PySem.W.Frag} {h : Heap} {mg : Str → Option Value} {fa : Addr} (X : K.In h) (G : h.Ns mainGlobals mg) (hfa : mg "law" = some (.ref fa))
    {f1 : Addr} {oc1 kV1 dc1 pm1 cd1 ct1 : Value} {od1 an1 : Option Addr} {sl1 : Array (Option Value)}
    {f2 : Addr} {oc2 kV2 dc2 pm2 cd2 ct2 : Value} {od2 an2 : Option Addr} {sl2 : Array (Option Value)}
    {f3 : Addr} {oc3 kV3 dc3 pm3 cd3 ct3 : Value} {od3 an3 : Option Addr} {sl3 : Array (Option Value)}
    {f4 : Addr} {oc4 kV4 dc4 pm4 cd4 ct4 : Value} {od4 an4 : Option Addr} {sl4 : Array (Option Value)}
    {f5 : Addr} {oc5 kV5 dc5 pm5 cd5 ct5 : Value} {od5 an5 : Option Addr} {sl5 : Array (Option Value)}
    {f6 : Addr} {oc6 kV6 dc6 pm6 cd6 ct6 : Value} {od6 an6 : Option Addr} {sl6 : Array (Option Value)}
    {f7 : Addr} {oc7 kV7 dc7 pm7 cd7 ct7 : Value} {od7 an7 : Option Addr} {sl7 : Array (Option Value)}
    {f8 : Addr} {oc8 kV8 dc8 pm8 cd8 ct8 : Value} {od8 an8 : Option Addr} {sl8 : Array (Option Value)}
    {f9 : Addr} {oc9 kV9 dc9 pm9 cd9 ct9 : Value} {od9 an9 : Option Addr} {sl9 : Array (Option Value)}
    {p9 : Addr} {rs9 : List Value}
    {f10 : Addr} {oc10 kV10 dc10 pm10 cd10 ct10 : Value} {od10 an10 : Option Addr} {sl10 : Array (Option Value)}
    {p10 : Addr} {rs10 : List Value}
    {f11 : Addr} {oc11 kV11 dc11 pm11 cd11 ct11 : Value} {od11 an11 : Option Addr} {sl11 : Array (Option Value)}
    {f12 : Addr} {oc12 kV12 dc12 pm12 cd12 ct12 : Value} {od12 an12 : Option Addr} {sl12 : Array (Option Value)}
    {f13 : Addr} {oc13 kV13 dc13 pm13 cd13 ct13 : Value} {od13 an13 : Option Addr} {sl13 : Array (Option Value)}
    {f14 : Addr} {oc14 kV14 dc14 pm14 cd14 ct14 : Value} {od14 an14 : Option Addr} {sl14 : Array (Option Value)}
    {f15 : Addr} {oc15 kV15 dc15 pm15 cd15 ct15 : Value} {od15 an15 : Option Addr} {sl15 : Array (Option Value)}
    {f16 : Addr} {oc16 kV16 dc16 pm16 cd16 ct16 : Value} {od16 an16 : Option Addr} {sl16 : Array (Option Value)}
    {f17 : Addr} {oc17 kV17 dc17 pm17 cd17 ct17 : Value} {od17 an17 : Option Addr} {sl17 : Array (Option Value)}
    {f18 : Addr} {oc18 kV18 dc18 pm18 cd18 ct18 : Value} {od18 an18 : Option Addr} {sl18 : Array (Option Value)}
    {f19 : Addr} {oc19 kV19 dc19 pm19 cd19 ct19 : Value} {od19 an19 : Option Addr} {sl19 : Array (Option Value)}
    {f20 : Addr} {oc20 kV20 dc20 pm20 cd20 ct20 : Value} {od20 an20 : Option Addr} {sl20 : Array (Option Value)}
    {f21 : Addr} {oc21 kV21 dc21 pm21 cd21 ct21 : Value} {od21 an21 : Option Addr} {sl21 : Array (Option Value)}
    {f22 : Addr} {oc22 kV22 dc22 pm22 cd22 ct22 : Value} {od22 an22 : Option Addr} {sl22 : Array (Option Value)}
    {f23 : Addr} {oc23 kV23 dc23 pm23 cd23 ct23 : Value} {od23 an23 : Option Addr} {sl23 : Array (Option Value)}
    {f24 : Addr} {oc24 kV24 dc24 pm24 cd24 ct24 : Value} {od24 an24 : Option Addr} {sl24 : Array (Option Value)}
    {f25 : Addr} {oc25 kV25 dc25 pm25 cd25 ct25 : Value} {od25 an25 : Option Addr} {sl25 : Array (Option Value)}
    {f26 : Addr} {oc26 kV26 dc26 pm26 cd26 ct26 : Value} {od26 an26 : Option Addr} {sl26 : Array (Option Value)}
    {f27 : Addr} {oc27 kV27 dc27 pm27 cd27 ct27 : Value} {od27 an27 : Option Addr} {sl27 : Array (Option Value)}
    {f28 : Addr} {oc28 kV28 dc28 pm28 cd28 ct28 : Value} {od28 an28 : Option Addr} {sl28 : Array (Option Value)}
    {CBadEnd CEnd hA sA : Addr} {nm q : Str} {N : Addr} {bs : List Value} {sn : List Str} {sub : List Value} {ab : Bool} {col : Option Bool} {dd : Option Addr} {m0 m1 m2 m3 m5 : Option Value} {mt : Tok}
    {hd sd : Option Addr} {ht1 ht2 st1 st2 : Tok} {hn sn' : Nat} {hsl ssl : Array (Option Value)} 
    (a1 : PySem.W.findIn K (.ref CBadEnd) "__init__" = some (some (.ref f1))) (i1 : PySem.W.isFn K (.ref f1) = true)
    (l1 : K.lookup f1 = some ⟨oc1, od1, .func (PySem.W.fnOf "__init__" "BadEnd.__init__" (defArgs sBadEnd_init) (defBody sBadEnd_init) (defScope sBadEnd_init) .none kV1 dc1 pm1 an1 cd1 ct1), sl1⟩) (c1 : PySem.W.codeIn K cd1 "BadEnd.__init__" = true) (k1 : PySem.W.keepIn K (.ref f1) = true)
    (a2 : PySem.W.nsIn K mainGlobals "is_number" = some (some (.ref f2)))
    (l2 : K.lookup f2 = some ⟨oc2, od2, .func (PySem.W.fnOf "is_number" "is_number" (defArgs sis_number) (defBody sis_number) (defScope sis_number) .none kV2 dc2 pm2 an2 cd2 ct2), sl2⟩) (c2 : PySem.W.codeIn K cd2 "is_number" = true) (k2 : PySem.W.keepIn K (.ref f2) = true)
    (a3 : PySem.W.nsIn K mainGlobals "is_follower" = some (some (.ref f3)))
    (l3 : K.lookup f3 = some ⟨oc3, od3, .func (PySem.W.fnOf "is_follower" "is_follower" (defArgs sis_follower) (defBody sis_follower) (defScope sis_follower) .none kV3 dc3 pm3 an3 cd3 ct3), sl3⟩) (c3 : PySem.W.codeIn K cd3 "is_follower" = true) (k3 : PySem.W.keepIn K (.ref f3) = true)
    (a4 : PySem.W.nsIn K mainGlobals "is_row" = some (some (.ref f4)))
    (l4 : K.lookup f4 = some ⟨oc4, od4, .func (PySem.W.fnOf "is_row" "is_row" (defArgs sis_row) (defBody sis_row) (defScope sis_row) .none kV4 dc4 pm4 an4 cd4 ct4), sl4⟩) (c4 : PySem.W.codeIn K cd4 "is_row" = true) (k4 : PySem.W.keepIn K (.ref f4) = true)
    (a5 : PySem.W.nsIn K mainGlobals "reached" = some (some (.ref f5)))
    (l5 : K.lookup f5 = some ⟨oc5, od5, .func (PySem.W.fnOf "reached" "reached" (defArgs sreached) (defBody sreached) (defScope sreached) .none kV5 dc5 pm5 an5 cd5 ct5), sl5⟩) (c5 : PySem.W.codeIn K cd5 "reached" = true) (k5 : PySem.W.keepIn K (.ref f5) = true)
    (a6 : PySem.W.nsIn K mainGlobals "check_machine" = some (some (.ref f6)))
    (l6 : K.lookup f6 = some ⟨oc6, od6, .func (PySem.W.fnOf "check_machine" "check_machine" (defArgs scheck_machine) (defBody scheck_machine) (defScope scheck_machine) .none kV6 dc6 pm6 an6 cd6 ct6), sl6⟩) (c6 : PySem.W.codeIn K cd6 "check_machine" = true) (k6 : PySem.W.keepIn K (.ref f6) = true)
    (a7 : PySem.W.nsIn K mainGlobals "numbered_rows" = some (some (.ref f7)))
    (l7 : K.lookup f7 = some ⟨oc7, od7, .func (PySem.W.fnOf "numbered_rows" "numbered_rows" (defArgs snumbered_rows) (defBody snumbered_rows) (defScope snumbered_rows) .none kV7 dc7 pm7 an7 cd7 ct7), sl7⟩) (c7 : PySem.W.codeIn K cd7 "numbered_rows" = true) (k7 : PySem.W.keepIn K (.ref f7) = true)
    (a8 : PySem.W.findIn K (.ref CEnd) "__init__" = some (some (.ref f8))) (i8 : PySem.W.isFn K (.ref f8) = true)
    (l8 : K.lookup f8 = some ⟨oc8, od8, .func (PySem.W.fnOf "__init__" "End.__init__" (defArgs sEnd_init) (defBody sEnd_init) (defScope sEnd_init) .none kV8 dc8 pm8 an8 cd8 ct8), sl8⟩) (c8 : PySem.W.codeIn K cd8 "End.__init__" = true) (k8 : PySem.W.keepIn K (.ref f8) = true)
    (a9 : PySem.W.findIn K (.ref CEnd) "hearer" = some (some (.ref p9))) (g9 : PySem.W.specialIn K (.ref p9) "__get__" = some (some (.builtin "property.__get__"))) (t9 : PySem.W.takesIn K (.ref p9) = some true) (r9 : PySem.W.recIn K p9 "property" = some (.ref f9 :: rs9))
    (l9 : K.lookup f9 = some ⟨oc9, od9, .func (PySem.W.fnOf "hearer" "End.hearer" (defArgs sEnd_hearer) (defBody sEnd_hearer) (defScope sEnd_hearer) .none kV9 dc9 pm9 an9 cd9 ct9), sl9⟩) (c9 : PySem.W.codeIn K cd9 "End.hearer" = true) (k9 : PySem.W.keepIn K (.ref f9) = true)
    (a10 : PySem.W.findIn K (.ref CEnd) "sender" = some (some (.ref p10))) (g10 : PySem.W.specialIn K (.ref p10) "__get__" = some (some (.builtin "property.__get__"))) (t10 : PySem.W.takesIn K (.ref p10) = some true) (r10 : PySem.W.recIn K p10 "property" = some (.ref f10 :: rs10))
    (l10 : K.lookup f10 = some ⟨oc10, od10, .func (PySem.W.fnOf "sender" "End.sender" (defArgs sEnd_sender) (defBody sEnd_sender) (defScope sEnd_sender) .none kV10 dc10 pm10 an10 cd10 ct10), sl10⟩) (c10 : PySem.W.codeIn K cd10 "End.sender" = true) (k10 : PySem.W.keepIn K (.ref f10) = true)
    (a11 : PySem.W.findIn K (.ref CEnd) "__eq__" = some (some (.ref f11))) (i11 : PySem.W.isFn K (.ref f11) = true)
    (l11 : K.lookup f11 = some ⟨oc11, od11, .func (PySem.W.fnOf "__eq__" "End.__eq__" (defArgs sEnd_eq) (defBody sEnd_eq) (defScope sEnd_eq) .none kV11 dc11 pm11 an11 cd11 ct11), sl11⟩) (c11 : PySem.W.codeIn K cd11 "End.__eq__" = true) (k11 : PySem.W.keepIn K (.ref f11) = true)
    (a12 : PySem.W.findIn K (.ref CEnd) "__len__" = some (some (.ref f12))) (i12 : PySem.W.isFn K (.ref f12) = true)
    (l12 : K.lookup f12 = some ⟨oc12, od12, .func (PySem.W.fnOf "__len__" "End.__len__" (defArgs sEnd_len) (defBody sEnd_len) (defScope sEnd_len) .none kV12 dc12 pm12 an12 cd12 ct12), sl12⟩) (c12 : PySem.W.codeIn K cd12 "End.__len__" = true) (k12 : PySem.W.keepIn K (.ref f12) = true)
    (a13 : PySem.W.findIn K (.ref CEnd) "__repr__" = some (some (.ref f13))) (i13 : PySem.W.isFn K (.ref f13) = true)
    (l13 : K.lookup f13 = some ⟨oc13, od13, .func (PySem.W.fnOf "__repr__" "End.__repr__" (defArgs sEnd_repr) (defBody sEnd_repr) (defScope sEnd_repr) .none kV13 dc13 pm13 an13 cd13 ct13), sl13⟩) (c13 : PySem.W.codeIn K cd13 "End.__repr__" = true) (k13 : PySem.W.keepIn K (.ref f13) = true)
    (a14 : PySem.W.findIn K (.ref CEnd) "__iter__" = some (some (.ref f14))) (i14 : PySem.W.isFn K (.ref f14) = true)
    (l14 : K.lookup f14 = some ⟨oc14, od14, .func (PySem.W.fnOf "__iter__" "End.__iter__" (defArgs sEnd_iter) (defBody sEnd_iter) (defScope sEnd_iter) .none kV14 dc14 pm14 an14 cd14 ct14), sl14⟩) (c14 : PySem.W.codeIn K cd14 "End.__iter__" = true) (k14 : PySem.W.keepIn K (.ref f14) = true)
    (a15 : PySem.W.nsIn K mainGlobals "machine_text" = some (some (.ref f15)))
    (l15 : K.lookup f15 = some ⟨oc15, od15, .func (PySem.W.fnOf "machine_text" "machine_text" (defArgs smachine_text) (defBody smachine_text) (defScope smachine_text) .none kV15 dc15 pm15 an15 cd15 ct15), sl15⟩) (c15 : PySem.W.codeIn K cd15 "machine_text" = true) (k15 : PySem.W.keepIn K (.ref f15) = true)
    (a16 : PySem.W.findIn K (.ref CEnd) "__str__" = some (some (.ref f16))) (i16 : PySem.W.isFn K (.ref f16) = true)
    (l16 : K.lookup f16 = some ⟨oc16, od16, .func (PySem.W.fnOf "__str__" "End.__str__" (defArgs sEnd_str) (defBody sEnd_str) (defScope sEnd_str) .none kV16 dc16 pm16 an16 cd16 ct16), sl16⟩) (c16 : PySem.W.codeIn K cd16 "End.__str__" = true) (k16 : PySem.W.keepIn K (.ref f16) = true)
    (a17 : PySem.W.nsIn K mainGlobals "_law_bag" = some (some (.ref f17)))
    (l17 : K.lookup f17 = some ⟨oc17, od17, .func (PySem.W.fnOf "_law_bag" "_law_bag" (defArgs sL_bag) (defBody sL_bag) (defScope sL_bag) .none kV17 dc17 pm17 an17 cd17 ct17), sl17⟩) (c17 : PySem.W.codeIn K cd17 "_law_bag" = true) (k17 : PySem.W.keepIn K (.ref f17) = true)
    (a18 : PySem.W.nsIn K mainGlobals "_law_take" = some (some (.ref f18)))
    (l18 : K.lookup f18 = some ⟨oc18, od18, .func (PySem.W.fnOf "_law_take" "_law_take" (defArgs sL_take) (defBody sL_take) (defScope sL_take) .none kV18 dc18 pm18 an18 cd18 ct18), sl18⟩) (c18 : PySem.W.codeIn K cd18 "_law_take" = true) (k18 : PySem.W.keepIn K (.ref f18) = true)
    (a19 : PySem.W.nsIn K mainGlobals "_law_place" = some (some (.ref f19)))
    (l19 : K.lookup f19 = some ⟨oc19, od19, .func (PySem.W.fnOf "_law_place" "_law_place" (defArgs sL_place) (defBody sL_place) (defScope sL_place) .none kV19 dc19 pm19 an19 cd19 ct19), sl19⟩) (c19 : PySem.W.codeIn K cd19 "_law_place" = true) (k19 : PySem.W.keepIn K (.ref f19) = true)
    (a20 : PySem.W.nsIn K mainGlobals "_law_rows" = some (some (.ref f20)))
    (l20 : K.lookup f20 = some ⟨oc20, od20, .func (PySem.W.fnOf "_law_rows" "_law_rows" (defArgs sL_rows) (defBody sL_rows) (defScope sL_rows) .none kV20 dc20 pm20 an20 cd20 ct20), sl20⟩) (c20 : PySem.W.codeIn K cd20 "_law_rows" = true) (k20 : PySem.W.keepIn K (.ref f20) = true)
    (a21 : PySem.W.nsIn K mainGlobals "_law_led" = some (some (.ref f21)))
    (l21 : K.lookup f21 = some ⟨oc21, od21, .func (PySem.W.fnOf "_law_led" "_law_led" (defArgs sL_led) (defBody sL_led) (defScope sL_led) .none kV21 dc21 pm21 an21 cd21 ct21), sl21⟩) (c21 : PySem.W.codeIn K cd21 "_law_led" = true) (k21 : PySem.W.keepIn K (.ref f21) = true)
    (a22 : PySem.W.nsIn K mainGlobals "_law_hearer" = some (some (.ref f22)))
    (l22 : K.lookup f22 = some ⟨oc22, od22, .func (PySem.W.fnOf "_law_hearer" "_law_hearer" (defArgs sL_hearer) (defBody sL_hearer) (defScope sL_hearer) .none kV22 dc22 pm22 an22 cd22 ct22), sl22⟩) (c22 : PySem.W.codeIn K cd22 "_law_hearer" = true) (k22 : PySem.W.keepIn K (.ref f22) = true)
    (a23 : PySem.W.nsIn K mainGlobals "_law_sender" = some (some (.ref f23)))
    (l23 : K.lookup f23 = some ⟨oc23, od23, .func (PySem.W.fnOf "_law_sender" "_law_sender" (defArgs sL_sender) (defBody sL_sender) (defScope sL_sender) .none kV23 dc23 pm23 an23 cd23 ct23), sl23⟩) (c23 : PySem.W.codeIn K cd23 "_law_sender" = true) (k23 : PySem.W.keepIn K (.ref f23) = true)
    (a24 : PySem.W.nsIn K mainGlobals "_law_listed" = some (some (.ref f24)))
    (l24 : K.lookup f24 = some ⟨oc24, od24, .func (PySem.W.fnOf "_law_listed" "_law_listed" (defArgs sL_listed) (defBody sL_listed) (defScope sL_listed) .none kV24 dc24 pm24 an24 cd24 ct24), sl24⟩) (c24 : PySem.W.codeIn K cd24 "_law_listed" = true) (k24 : PySem.W.keepIn K (.ref f24) = true)
    (a25 : PySem.W.nsIn K mainGlobals "_law_due" = some (some (.ref f25)))
    (l25 : K.lookup f25 = some ⟨oc25, od25, .func (PySem.W.fnOf "_law_due" "_law_due" (defArgs sL_due) (defBody sL_due) (defScope sL_due) .none kV25 dc25 pm25 an25 cd25 ct25), sl25⟩) (c25 : PySem.W.codeIn K cd25 "_law_due" = true) (k25 : PySem.W.keepIn K (.ref f25) = true)
    (a26 : PySem.W.nsIn K mainGlobals "_law_right" = some (some (.ref f26)))
    (l26 : K.lookup f26 = some ⟨oc26, od26, .func (PySem.W.fnOf "_law_right" "_law_right" (defArgs sL_right) (defBody sL_right) (defScope sL_right) .none kV26 dc26 pm26 an26 cd26 ct26), sl26⟩) (c26 : PySem.W.codeIn K cd26 "_law_right" = true) (k26 : PySem.W.keepIn K (.ref f26) = true)
    (a27 : PySem.W.nsIn K mainGlobals "_law_changed" = some (some (.ref f27)))
    (l27 : K.lookup f27 = some ⟨oc27, od27, .func (PySem.W.fnOf "_law_changed" "_law_changed" (defArgs sL_changed) (defBody sL_changed) (defScope sL_changed) .none kV27 dc27 pm27 an27 cd27 ct27), sl27⟩) (c27 : PySem.W.codeIn K cd27 "_law_changed" = true) (k27 : PySem.W.keepIn K (.ref f27) = true)
    (a28 : PySem.W.nsIn K mainGlobals "law" = some (some (.ref f28)))
    (l28 : K.lookup f28 = some ⟨oc28, od28, .func (PySem.W.fnOf "law" "law" (defArgs slaw) (defBody slaw) (defScope slaw) .none kV28 dc28 pm28 an28 cd28 ct28), sl28⟩) (c28 : PySem.W.codeIn K cd28 "law" = true) (k28 : PySem.W.keepIn K (.ref f28) = true)
    (z_int : PySem.W.nsIn K mainGlobals "int" = some none)
    (z_len : PySem.W.nsIn K mainGlobals "len" = some none)
    (z_abs : PySem.W.nsIn K mainGlobals "abs" = some none)
    (z_isinstance : PySem.W.nsIn K mainGlobals "isinstance" = some none)
    (z_bool : PySem.W.nsIn K mainGlobals "bool" = some none)
    (z_str : PySem.W.nsIn K mainGlobals "str" = some none)
    (z_tuple : PySem.W.nsIn K mainGlobals "tuple" = some none)
    (z_list : PySem.W.nsIn K mainGlobals "list" = some none)
    (z_enumerate : PySem.W.nsIn K mainGlobals "enumerate" = some none)
    (z_range : PySem.W.nsIn K mainGlobals "range" = some none)
    (z_max : PySem.W.nsIn K mainGlobals "max" = some none)
    (z_min : PySem.W.nsIn K mainGlobals "min" = some none)
    (z_repr : PySem.W.nsIn K mainGlobals "repr" = some none)
    (z_iter : PySem.W.nsIn K mainGlobals "iter" = some none)
    (xC : PySem.W.nsIn K mainGlobals "BadEnd" = some (some (.ref CBadEnd))) (xD : PySem.W.nsIn K mainGlobals "End" = some (some (.ref CEnd)))
    (xL : K.lookup CBadEnd = some (excClassObj nm q CBadEnd N bs [.type "ValueError", .type "Exception", .type "BaseException", .type "object"] true sn sub ab col dd m0 m1 m2 m3 m5 "ValueError.__new__"))
    (xsa : PySem.W.findIn K (.ref CBadEnd) "__setattr__" = some (some (.builtin "object.__setattr__"))) (xga : PySem.W.findIn K (.ref CBadEnd) "__getattribute__" = some (some (.builtin "BaseException.__getattribute__"))) (xgg : PySem.W.findIn K (.ref CBadEnd) "__getattr__" = some none)
    (xn1 : PySem.W.findIn K (.ref CBadEnd) "part" = some none) (xn2 : PySem.W.findIn K (.ref CBadEnd) "row" = some none) (xt1 : PySem.W.typeIn K (.ref f1) = some (.type "function"))
    (xkC : PySem.W.keepIn K (.ref CBadEnd) = true) (xeC : PySem.W.subIn K (.ref CBadEnd) (.type "BaseException") = some true) (xtC : PySem.W.typeIn K (.ref CBadEnd) = some (.type "type")) (xhC : PySem.W.hasDictIn K CBadEnd = true)
    (xiC : PySem.W.isClsIn K CBadEnd = true) (xsC : PySem.W.subIn K (.ref CBadEnd) (.ref CBadEnd) = some true)
    (ypg : PySem.W.plainGet K CEnd Str.empty = true) (yhd : PySem.W.hasDictIn K CEnd = true) (ypo : PySem.W.plainOver K CEnd = true) (ysa : PySem.W.findIn K (.ref CEnd) "__setattr__" = some (some (.builtin "object.__setattr__"))) (ymk : PySem.W.makesIn K CEnd = true) (ykc : PySem.W.keepIn K (.ref CEnd) = true)
    (yn1 : PySem.W.findIn K (.ref CEnd) "hearer_rows" = some none) (yn2 : PySem.W.findIn K (.ref CEnd) "sender_rows" = some none) (yn3 : PySem.W.findIn K (.ref CEnd) "rows" = some none)
    (yrd : PySem.W.readsIn K CEnd (.type "type") = true) (yga : PySem.W.specialIn K (.ref CEnd) "__getattribute__" = some (some (.builtin "type.__getattribute__"))) (yat : PySem.W.findCls K (.ref CEnd) (.type "type") "MOST" = some (.val (.int 100 mt)))
    (wh : PySem.W.nsIn K mainGlobals "HEARER_WORDS" = some (some (.ref hA))) (ws : PySem.W.nsIn K mainGlobals "SENDER_WORDS" = some (some (.ref sA)))
    (whl : K.lookup hA = some ⟨.type "tuple", hd, .seq #[.str "taken" ht1, .str "lost" ht2] hn, hsl⟩) (wsl : K.lookup sA = some ⟨.type "tuple", sd, .seq #[.str "done" st1, .str "again" st2] sn', ssl⟩)
    (wi : PySem.W.isClsIn K CEnd = true) (wt : PySem.W.typeIn K (.ref CEnd) = some (.type "type")) (wu : PySem.W.findIn K (.ref CEnd) "__class__" = some (some (.builtin "object.__class__"))) (wg : PySem.W.specialIn K (.builtin "object.__class__") "__get__" = some (some (.builtin "getset_descriptor.__get__")))
    (wk : PySem.W.takesIn K (.builtin "object.__class__") = some true) (wm : PySem.W.mroIn K CEnd (.type "object") = some true) :
    ∃ fd : FuncData, (∀ (s : Shared) (v : Value), BindsTo s fd ⟨[v], []⟩ [("_law_script", v)]) ∧ ∀ base : Heap, K.In base → base.Ns mainGlobals mg → FnOk l.prog w K mg base CX0 9 fa fd ["_law_script"] (spLaw K) := by
  have e := hfa.symm.trans (PySem.W.mg_of X G a28)
  cases e
  have F1 := fun_mk (st := sBadEnd_init) l1 c1 k1
  have B1 := F1.binds (ps := ["self", "part", "row"]) fun _ _ _ _ _ _ us hl => match us, hl with | [_, _, _], _ => rfl
  have F2 := fun_mk (st := sis_number) l2 c2 k2
  have B2 := F2.binds (ps := ["value"]) fun _ _ _ _ _ _ us hl => match us, hl with | [_], _ => rfl
  have F3 := fun_mk (st := sis_follower) l3 c3 k3
  have B3 := F3.binds (ps := ["value", "size", "words"]) fun _ _ _ _ _ _ us hl => match us, hl with | [_, _, _], _ => rfl
  have F4 := fun_mk (st := sis_row) l4 c4 k4
  have B4 := F4.binds (ps := ["value", "size", "words"]) fun _ _ _ _ _ _ us hl => match us, hl with | [_, _, _], _ => rfl
  have F5 := fun_mk (st := sreached) l5 c5 k5
  have B5 := F5.binds (ps := ["rows", "begin"]) fun _ _ _ _ _ _ us hl => match us, hl with | [_, _], _ => rfl
  have F6 := fun_mk (st := scheck_machine) l6 c6 k6
  have B6 := F6.binds (ps := ["part", "machine", "fewest", "most", "words"]) fun _ _ _ _ _ _ us hl => match us, hl with | [_, _, _, _, _], _ => rfl
  have F7 := fun_mk (st := snumbered_rows) l7 c7 k7
  have B7 := F7.binds (ps := ["part", "machine"]) fun _ _ _ _ _ _ us hl => match us, hl with | [_, _], _ => rfl
  have F8 := fun_mk (st := sEnd_init) l8 c8 k8
  have B8 := F8.binds (ps := ["self", "hearer", "sender"]) fun _ _ _ _ _ _ us hl => match us, hl with | [_, _, _], _ => rfl
  have F9 := fun_mk (st := sEnd_hearer) l9 c9 k9
  have B9 := F9.binds (ps := ["self"]) fun _ _ _ _ _ _ us hl => match us, hl with | [_], _ => rfl
  have F10 := fun_mk (st := sEnd_sender) l10 c10 k10
  have B10 := F10.binds (ps := ["self"]) fun _ _ _ _ _ _ us hl => match us, hl with | [_], _ => rfl
  have F11 := fun_mk (st := sEnd_eq) l11 c11 k11
  have B11 := F11.binds (ps := ["self", "other"]) fun _ _ _ _ _ _ us hl => match us, hl with | [_, _], _ => rfl
  have F12 := fun_mk (st := sEnd_len) l12 c12 k12
  have B12 := F12.binds (ps := ["self"]) fun _ _ _ _ _ _ us hl => match us, hl with | [_], _ => rfl
  have F13 := fun_mk (st := sEnd_repr) l13 c13 k13
  have B13 := F13.binds (ps := ["self"]) fun _ _ _ _ _ _ us hl => match us, hl with | [_], _ => rfl
  have F14 := fun_mk (st := sEnd_iter) l14 c14 k14
  have B14 := F14.binds (ps := ["self"]) fun _ _ _ _ _ _ us hl => match us, hl with | [_], _ => rfl
  have F15 := fun_mk (st := smachine_text) l15 c15 k15
  have B15 := F15.binds (ps := ["rows"]) fun _ _ _ _ _ _ us hl => match us, hl with | [_], _ => rfl
  have F16 := fun_mk (st := sEnd_str) l16 c16 k16
  have B16 := F16.binds (ps := ["self"]) fun _ _ _ _ _ _ us hl => match us, hl with | [_], _ => rfl
  have F17 := fun_mk (st := sL_bag) l17 c17 k17
  have B17 := F17.binds (ps := ["_law_script", "_law_at"]) fun _ _ _ _ _ _ us hl => match us, hl with | [_, _], _ => rfl
  have F18 := fun_mk (st := sL_take) l18 c18 k18
  have B18 := F18.binds (ps := ["_law_bag_here", "_law_many"]) fun _ _ _ _ _ _ us hl => match us, hl with | [_, _], _ => rfl
  have F19 := fun_mk (st := sL_place) l19 c19 k19
  have B19 := F19.binds (ps := ["_law_bag_here", "_law_many", "_law_words"]) fun _ _ _ _ _ _ us hl => match us, hl with | [_, _, _], _ => rfl
  have F20 := fun_mk (st := sL_rows) l20 c20 k20
  have B20 := F20.binds (ps := ["_law_bag_here", "_law_many", "_law_words"]) fun _ _ _ _ _ _ us hl => match us, hl with | [_, _, _], _ => rfl
  have F21 := fun_mk (st := sL_led) l21 c21 k21
  have B21 := F21.binds (ps := ["_law_rows_here", "_law_first"]) fun _ _ _ _ _ _ us hl => match us, hl with | [_, _], _ => rfl
  have F22 := fun_mk (st := sL_hearer) l22 c22 k22
  have B22 := F22.binds (ps := ["_law_bag_here", "_law_many"]) fun _ _ _ _ _ _ us hl => match us, hl with | [_, _], _ => rfl
  have F23 := fun_mk (st := sL_sender) l23 c23 k23
  have B23 := F23.binds (ps := ["_law_bag_here", "_law_many"]) fun _ _ _ _ _ _ us hl => match us, hl with | [_, _], _ => rfl
  have F24 := fun_mk (st := sL_listed) l24 c24 k24
  have B24 := F24.binds (ps := ["_law_end"]) fun _ _ _ _ _ _ us hl => match us, hl with | [_], _ => rfl
  have F25 := fun_mk (st := sL_due) l25 c25 k25
  have B25 := F25.binds (ps := ["_law_ears", "_law_mouth"]) fun _ _ _ _ _ _ us hl => match us, hl with | [_, _], _ => rfl
  have F26 := fun_mk (st := sL_right) l26 c26 k26
  have B26 := F26.binds (ps := ["_law_end", "_law_ears", "_law_mouth"]) fun _ _ _ _ _ _ us hl => match us, hl with | [_, _, _], _ => rfl
  have F27 := fun_mk (st := sL_changed) l27 c27 k27
  have B27 := F27.binds (ps := ["_law_bag_here", "_law_rows_here"]) fun _ _ _ _ _ _ us hl => match us, hl with | [_, _], _ => rfl
  have F28 := fun_mk (st := slaw) l28 c28 k28
  have B28 := F28.binds (ps := ["_law_script"]) fun _ _ _ _ _ _ us hl => match us, hl with | [_], _ => rfl
  refine ⟨PySem.W.fnOf "law" "law" (defArgs slaw) (defBody slaw) (defScope slaw) .none kV28 dc28 pm28 an28 cd28 ct28, fun s v => .of_eq rfl, fun base _ _ => ?_⟩
  have T : Txt K mg := ⟨PySem.W.mg_none_of X G z_int, PySem.W.mg_none_of X G z_len, PySem.W.mg_none_of X G z_abs, PySem.W.mg_none_of X G z_isinstance, PySem.W.mg_none_of X G z_bool, PySem.W.mg_none_of X G z_str, PySem.W.mg_none_of X G z_tuple, PySem.W.mg_none_of X G z_list, PySem.W.mg_none_of X G z_enumerate, PySem.W.mg_none_of X G z_range, PySem.W.mg_none_of X G z_max, PySem.W.mg_none_of X G z_min, PySem.W.mg_none_of X G z_repr, PySem.W.mg_none_of X G z_iter⟩
  have TE : TxtE K mg CEnd hA sA := { T with
    m_End := PySem.W.mg_of X G xD, m_HEARER_WORDS := PySem.W.mg_of X G wh, m_SENDER_WORDS := PySem.W.mg_of X G ws,
    hW := fun H => .inr ⟨_, _, _, whl, rfl, rfl, (by show 2 ≤ sizeLine; decide), .cons ⟨_, rfl⟩ (.cons ⟨_, rfl⟩ .nil)⟩, sW := fun H => .inr ⟨_, _, _, wsl, rfl, rfl, (by show 2 ≤ sizeLine; decide), .cons ⟨_, rfl⟩ (.cons ⟨_, rfl⟩ .nil)⟩,
    clD := ⟨ypg, yhd, ypo, ysa⟩, n1 := yn1, n2 := yn2, n3 := yn3, most := ⟨_, _, ⟨yrd, yga⟩, ⟨yat, ⟨_, rfl⟩⟩⟩ }
  have te : PySem.W.exmOne K (.ref CBadEnd) (.ref CBadEnd) = some true := by
    have e1 : (PySem.W.subIn K (.ref CBadEnd) (.type "BaseException") == some true) = true := by rw [xeC] <;> rfl
    have h2' : (PySem.W.clsIn K CBadEnd).isSome = true := xiC
    have e2 : ((PySem.W.clsIn K CBadEnd).isSome && PySem.W.typeIn K (.ref CBadEnd) == some (.type "type")) = true := by rw [h2', xtC] <;> rfl
    unfold PySem.W.exmOne
    rw [if_pos e1]
    unfold PySem.W.kitCls
    dsimp only
    rw [if_pos e2]
    exact xsC
  have oc : OexC K CBadEnd := ⟨⟨nm, q, N, bs, _, sn, sub, ab, col, dd, m0, m1, m2, m3, m5, xL, by decide +kernel⟩, xsa, xeC, xtC, xkC⟩
  have O1 : Ox l.prog w K mg base 1 "BadEnd" CBadEnd f1 _ ["self", "part", "row"] (spBadInit CBadEnd) := ⟨oc, a1, xt1, ok_bad F1 oc xn1 xn2, B1, PySem.W.mg_of X G xC⟩
  have G2 : Fx l.prog w K mg base CX0 1 "is_number" f2 _ ["value"] spNum := ⟨ok_num F2 T, PySem.W.mg_of X G a2, k2, B2⟩
  have G3 : Fx l.prog w K mg base CX0 2 "is_follower" f3 _ ["value", "size", "words"] (spFol K) := ⟨ok_fol F3 T G2, PySem.W.mg_of X G a3, k3, B3⟩
  have G4 : Fx l.prog w K mg base CX0 3 "is_row" f4 _ ["value", "size", "words"] (spRow K) := ⟨ok_row F4 T G2 G3, PySem.W.mg_of X G a4, k4, B4⟩
  have G5 : Fx l.prog w K mg base CX0 2 "reached" f5 _ ["rows", "begin"] (spReach K) := ⟨ok_reach F5 T G2, PySem.W.mg_of X G a5, k5, B5⟩
  have G6 : Fx l.prog w K mg base (L2.CX l.prog w) 4 "check_machine" f6 _ ["part", "machine", "fewest", "most", "words"] (spCheck K CBadEnd) := ⟨ok_check F6 T G4 O1, PySem.W.mg_of X G a6, k6, B6⟩
  have G7 : Fx l.prog w K mg base CX0 1 "numbered_rows" f7 _ ["part", "machine"] spNumb := ⟨ok_numb F7 T, PySem.W.mg_of X G a7, k7, B7⟩
  have M8 : Mx l.prog w K mg base (L2.CX l.prog w) 5 "End" CEnd f8 _ ["self", "hearer", "sender"] (spEnd CBadEnd CEnd) := ⟨⟨ymk, a8, i8, ykc⟩, ok_end F8 TE G6 G5 G7 O1, PySem.W.mg_of X G xD, B8⟩
  have Q9 : Px l.prog w K mg base CEnd p9 f9 _ "hearer" "hearer_rows" := ⟨⟨a9, g9, t9, _, r9⟩, ok_hearer_get F9 ⟨ypg, yhd, ypo, ysa⟩ yn1, B9⟩
  have Q10 : Px l.prog w K mg base CEnd p10 f10 _ "sender" "sender_rows" := ⟨⟨a10, g10, t10, _, r10⟩, ok_sender_get F10 ⟨ypg, yhd, ypo, ysa⟩ yn2, B10⟩
  have O : ClsO K CEnd := ⟨wi, wt, wu, wg, wk, wm⟩
  have Gt : Fx l.prog w K mg base CX0 1 "machine_text" f15 _ ["rows"] spText := ⟨ok_text F15 T, PySem.W.mg_of X G a15, k15, B15⟩
  have Ne : Nx l.prog w K mg base 1 CEnd f11 "__eq__" _ ["self", "other"] (spEq K CEnd) := ⟨⟨a11, i11, k11⟩, ok_eq F11 TE O, B11⟩
  have Nl : Nx l.prog w K mg base 1 CEnd f12 "__len__" _ ["self"] (spLenE CEnd) := ⟨⟨a12, i12, k12⟩, ok_len F12 TE, B12⟩
  have Nr : Nx l.prog w K mg base 1 CEnd f13 "__repr__" _ ["self"] (spReprE CEnd) := ⟨⟨a13, i13, k13⟩, ok_repr F13 TE, B13⟩
  have Ns : Nx l.prog w K mg base 2 CEnd f16 "__str__" _ ["self"] (spStrE CEnd) := ⟨⟨a16, i16, k16⟩, ok_str F16 TE Gt, B16⟩
  have Ni : NxI l.prog w K mg base CEnd f14 _ := ⟨⟨a14, i14, k14⟩, ok_iter F14 T ⟨ypg, yhd, ypo, ysa⟩ yn3, B14⟩
  have Lb : Fx l.prog w K mg base CX0 1 "_law_bag" f17 _ ["_law_script", "_law_at"] (spBag K) := ⟨ok_bag F17 T, PySem.W.mg_of X G a17, k17, B17⟩
  have Lt : Fx l.prog w K mg base CX0 1 "_law_take" f18 _ ["_law_bag_here", "_law_many"] spTake := ⟨ok_take F18 T, PySem.W.mg_of X G a18, k18, B18⟩
  have Lp : Fx l.prog w K mg base CX0 2 "_law_place" f19 _ ["_law_bag_here", "_law_many", "_law_words"] spPlaceW := ⟨ok_placew F19 T Lt, PySem.W.mg_of X G a19, k19, B19⟩
  have Lr : Fx l.prog w K mg base CX0 3 "_law_rows" f20 _ ["_law_bag_here", "_law_many", "_law_words"] spRows := ⟨ok_rows F20 T Lt Lp, PySem.W.mg_of X G a20, k20, B20⟩
  have Ll : Fx l.prog w K mg base CX0 1 "_law_led" f21 _ ["_law_rows_here", "_law_first"] spLed := ⟨ok_led F21 T, PySem.W.mg_of X G a21, k21, B21⟩
  have Lh : Fx l.prog w K mg base CX0 4 "_law_hearer" f22 _ ["_law_bag_here", "_law_many"] spHearer := ⟨ok_hearer F22 T Lr Ll, PySem.W.mg_of X G a22, k22, B22⟩
  have Ls : Fx l.prog w K mg base CX0 4 "_law_sender" f23 _ ["_law_bag_here", "_law_many"] spSender := ⟨ok_sender F23 Lr, PySem.W.mg_of X G a23, k23, B23⟩
  have Lx : Fx l.prog w K mg base CX0 2 "_law_listed" f24 _ ["_law_end"] (spListed K CEnd) := ⟨ok_listed F24 T Ni, PySem.W.mg_of X G a24, k24, B24⟩
  have Ld : Fx l.prog w K mg base CX0 1 "_law_due" f25 _ ["_law_ears", "_law_mouth"] (spDue K) := ⟨ok_due F25 T, PySem.W.mg_of X G a25, k25, B25⟩
  have Lg : Fx l.prog w K mg base CX0 3 "_law_right" f26 _ ["_law_end", "_law_ears", "_law_mouth"] (spRight CEnd) := ⟨ok_right F26 T TE Q9 Q10 Nl Nr Lx Ld, PySem.W.mg_of X G a26, k26, B26⟩
  have Lc : Fx l.prog w K mg base CX0 2 "_law_changed" f27 _ ["_law_bag_here", "_law_rows_here"] spChanged := ⟨ok_changed F27 T Lt, PySem.W.mg_of X G a27, k27, B27⟩
  exact ok_law F28 T TE O Lb Lt Lh Ls { M8 with kb := kb_end F8 } Lg Lc Q9 Q10 Ne Ns

end K01
open PySem PySem.W PyProof.Rows
set_option maxRecDepth 100000 in
set_option maxHeartbeats 0 in
theorem PySem.Challenge.cw_strongbit_k01_ends_made_holds : PySem.Challenge.rw_strongbit_k01_ends_made.Holds := by
  w_on; o_law; k_head; (case hw => w_witness2)
  k_fill
  refine L2.walk_of (l := PySem.Challenge.rw_strongbit_k01_ends_made) (n := 63) (k := 9) (x := "_law_script") (CX := fun _ => L2.CX0) (sp := fun w => K01.spLaw _) rfl (by decide) rfl ⟨rfl, by decide, by decide⟩ (fun w h Y => PySem.W.kIn_of Y) ?F (fun _ _ a ns hl _ hS => ⟨a, ns, rfl, hS, hl, fun _ => rfl⟩) (fun _ _ _ _ _ h => h)
  case F =>
    intro w mg fa h KX G hmg
    refine' K01.all_mk KX G hmg ?a1 ?i1 ?l1 ?c1 ?k1 ?a2 ?l2 ?c2 ?k2 ?a3 ?l3 ?c3 ?k3 ?a4 ?l4 ?c4 ?k4 ?a5 ?l5 ?c5 ?k5 ?a6 ?l6 ?c6 ?k6 ?a7 ?l7 ?c7 ?k7 ?a8 ?i8 ?l8 ?c8 ?k8 ?a9 ?g9 ?t9 ?r9 ?l9 ?c9 ?k9 ?a10 ?g10 ?t10 ?r10 ?l10 ?c10 ?k10 ?a11 ?i11 ?l11 ?c11 ?k11 ?a12 ?i12 ?l12 ?c12 ?k12 ?a13 ?i13 ?l13 ?c13 ?k13 ?a14 ?i14 ?l14 ?c14 ?k14 ?a15 ?l15 ?c15 ?k15 ?a16 ?i16 ?l16 ?c16 ?k16 ?a17 ?l17 ?c17 ?k17 ?a18 ?l18 ?c18 ?k18 ?a19 ?l19 ?c19 ?k19 ?a20 ?l20 ?c20 ?k20 ?a21 ?l21 ?c21 ?k21 ?a22 ?l22 ?c22 ?k22 ?a23 ?l23 ?c23 ?k23 ?a24 ?l24 ?c24 ?k24 ?a25 ?l25 ?c25 ?k25 ?a26 ?l26 ?c26 ?k26 ?a27 ?l27 ?c27 ?k27 ?a28 ?l28 ?c28 ?k28 ?z_int ?z_len ?z_abs ?z_isinstance ?z_bool ?z_str ?z_tuple ?z_list ?z_enumerate ?z_range ?z_max ?z_min ?z_repr ?z_iter ?xC ?xD ?xL ?xsa ?xga ?xgg ?xn1 ?xn2 ?xt1 ?xkC ?xeC ?xtC ?xhC ?xiC ?xsC ?ypg ?yhd ?ypo ?ysa ?ymk ?ykc ?yn1 ?yn2 ?yn3 ?yrd ?yga ?yat ?wh ?ws ?whl ?wsl ?wi ?wt ?wu ?wg ?wk ?wm
    (case xC => k_is)
    (case xD => k_is)
    (case a1 => k_is)
    (case i1 => k_is)
    (case l1 => k_is)
    (case c1 => k_is)
    (case k1 => k_is)
    (case a2 => k_is)
    (case l2 => k_is)
    (case c2 => k_is)
    (case k2 => k_is)
    (case a3 => k_is)
    (case l3 => k_is)
    (case c3 => k_is)
    (case k3 => k_is)
    (case a4 => k_is)
    (case l4 => k_is)
    (case c4 => k_is)
    (case k4 => k_is)
    (case a5 => k_is)
    (case l5 => k_is)
    (case c5 => k_is)
    (case k5 => k_is)
    (case a6 => k_is)
    (case l6 => k_is)
    (case c6 => k_is)
    (case k6 => k_is)
    (case a7 => k_is)
    (case l7 => k_is)
    (case c7 => k_is)
    (case k7 => k_is)
    (case a8 => k_is)
    (case i8 => k_is)
    (case l8 => k_is)
    (case c8 => k_is)
    (case k8 => k_is)
    (case a9 => k_is)
    (case g9 => k_is)
    (case t9 => k_is)
    (case r9 => k_is)
    (case l9 => k_is)
    (case c9 => k_is)
    (case k9 => k_is)
    (case a10 => k_is)
    (case g10 => k_is)
    (case t10 => k_is)
    (case r10 => k_is)
    (case l10 => k_is)
    (case c10 => k_is)
    (case k10 => k_is)
    (case a11 => k_is)
    (case i11 => k_is)
    (case l11 => k_is)
    (case c11 => k_is)
    (case k11 => k_is)
    (case a12 => k_is)
    (case i12 => k_is)
    (case l12 => k_is)
    (case c12 => k_is)
    (case k12 => k_is)
    (case a13 => k_is)
    (case i13 => k_is)
    (case l13 => k_is)
    (case c13 => k_is)
    (case k13 => k_is)
    (case a14 => k_is)
    (case i14 => k_is)
    (case l14 => k_is)
    (case c14 => k_is)
    (case k14 => k_is)
    (case a15 => k_is)
    (case l15 => k_is)
    (case c15 => k_is)
    (case k15 => k_is)
    (case a16 => k_is)
    (case i16 => k_is)
    (case l16 => k_is)
    (case c16 => k_is)
    (case k16 => k_is)
    (case a17 => k_is)
    (case l17 => k_is)
    (case c17 => k_is)
    (case k17 => k_is)
    (case a18 => k_is)
    (case l18 => k_is)
    (case c18 => k_is)
    (case k18 => k_is)
    (case a19 => k_is)
    (case l19 => k_is)
    (case c19 => k_is)
    (case k19 => k_is)
    (case a20 => k_is)
    (case l20 => k_is)
    (case c20 => k_is)
    (case k20 => k_is)
    (case a21 => k_is)
    (case l21 => k_is)
    (case c21 => k_is)
    (case k21 => k_is)
    (case a22 => k_is)
    (case l22 => k_is)
    (case c22 => k_is)
    (case k22 => k_is)
    (case a23 => k_is)
    (case l23 => k_is)
    (case c23 => k_is)
    (case k23 => k_is)
    (case a24 => k_is)
    (case l24 => k_is)
    (case c24 => k_is)
    (case k24 => k_is)
    (case a25 => k_is)
    (case l25 => k_is)
    (case c25 => k_is)
    (case k25 => k_is)
    (case a26 => k_is)
    (case l26 => k_is)
    (case c26 => k_is)
    (case k26 => k_is)
    (case a27 => k_is)
    (case l27 => k_is)
    (case c27 => k_is)
    (case k27 => k_is)
    (case a28 => k_is)
    (case l28 => k_is)
    (case c28 => k_is)
    (case k28 => k_is)
    (case z_int => k_is)
    (case z_len => k_is)
    (case z_abs => k_is)
    (case z_isinstance => k_is)
    (case z_bool => k_is)
    (case z_str => k_is)
    (case z_tuple => k_is)
    (case z_list => k_is)
    (case z_enumerate => k_is)
    (case z_range => k_is)
    (case z_max => k_is)
    (case z_min => k_is)
    (case z_repr => k_is)
    (case z_iter => k_is)
    (case xL => k_is)
    (case xsa => k_is)
    (case xga => k_is)
    (case xgg => k_is)
    (case xn1 => k_is)
    (case xn2 => k_is)
    (case xt1 => k_is)
    (case xkC => k_is)
    (case xeC => k_is)
    (case xtC => k_is)
    (case xhC => k_is)
    (case xiC => k_is)
    (case xsC => k_is)
    (case ypg => k_is)
    (case yhd => k_is)
    (case ypo => k_is)
    (case ysa => k_is)
    (case ymk => k_is)
    (case ykc => k_is)
    (case yn1 => k_is)
    (case yn2 => k_is)
    (case yn3 => k_is)
    (case yrd => k_is)
    (case yga => k_is)
    (case yat => k_is)
    (case wh => k_is)
    (case ws => k_is)
    (case whl => k_is)
    (case wsl => k_is)
    (case wi => k_is)
    (case wt => k_is)
    (case wu => k_is)
    (case wg => k_is)
    (case wk => k_is)
    (case wm => k_is)
