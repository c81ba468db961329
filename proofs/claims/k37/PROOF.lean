import PyProof.Rows.All
import Wide.All
import OpenK.AllK
import Wide.FinOn
import HandS.Base
import HandS.Call
import HandS.List
import HandS.Comp
import HandS.Conv
import HandS.Text
import HandS.Words
import HandS.WordsList
import HandS.Ends
import HandS.SortInts
import HandS.Wide
import HandS.IsInst
import HandS.More
import HandS.Evl
import HandS.Defaults
import HandS.Zip
import HandS.ExcOwn
import HandS.Iter
import HandS.Style
import KE.KDictZip
import PyProof.Rows.RegZipMeets
import PyProof.ReprRoads
import HandS.Set
import HandS.Walk
import HandS.Dict
import PyProof.StrLawsIn
import PyProof.Rows.StrInSeq
import PyProof.EqAt
import PyProof.EqKinds
import PyProof.Rows.SetFrom
import PyProof.Rows.SortShellAny
import HandS.SetBool
import KE.SortData
import HandS.SetFor
import HandS.Deep
import HandS.TryOnly
import KE.KRevSl
import KE.GoesMore
import KE.GoesZip
import PyProof.CollectStr
import HandS.ExcValue
import HandS.Rev
import KE.DatumOrd
import HandS.SortKw
import HandS.Flow
import KE.DataMinMax
import KE.KDictKeyed
import KE.KDictDisplayH
import PySem.Challenge.RW_lastother_k37_fewest_calls_to_one_color
set_option Elab.async false
set_option linter.all false
set_option maxRecDepth 100000
set_option maxHeartbeats 4000000
/-! Lineups over the hand layer: what stands where, and rules of my own. -/
namespace LX
open PySem L2

/-! ### own operator rules -/
def CPowW (i j : Int) : Prop := 0 ≤ j ∧ j ≤ 1000 ∧ i.natAbs < 2 ^ 1000
theorem op_powW {X : Cx} : OpR X (binaryOp .Pow) (rI CPowW fun i j => .int (i ^ j.toNat)) := opI fun i j _ _ _ _ _ hc q => by
  refine PyProof.Rows.pow_int hc.1 ?_ q
  have h1 : Builtin.Int.intBits i ≤ 1000 := PyProof.Rows.intBits_le hc.2.2
  have h2 : (Builtin.Int.intBits i : Int) ≤ 1000 := by omega
  have h3 := Int.mul_le_mul h2 hc.2.1 hc.1 (by decide : (0:Int) ≤ 1000)
  exact Int.le_trans h3 (by decide)

/-! ### the rules that speak of the written part, with its name -/
section
variable {X : Cx} {K : PySem.W.Frag} {e o : Expr} {es : List Expr} {te to : TE} {t : TA} {pos apos cpos : Pos}
theorem kix_list (h : X.K = K := by rfl) : IxR X (rIxL K) := h ▸ ix_list
theorem kix_tup (h : X.K = K := by rfl) : IxR X (rIxT K) := h ▸ ix_tup
theorem ksl_list (h : X.K = K := by rfl) : SlR X (rSlL K) := h ▸ sl_list
def qLen (K : PySem.W.Frag) : List V → Hp → VK → Prop := fun xs H Q => ∃ p ys, xs = [.ref p] ∧ (SqL K H p ys ∨ SqT K H p ys) ∧ Q (.int ys.length) H
theorem klen (h : X.K = K := by rfl) : CallR X (.builtin "len") (qLen K) := h ▸ call_len_seq
def qList (K : PySem.W.Frag) : List V → Hp → VK → Prop := fun xs H Q => ∃ p ys, xs = [.ref p] ∧ (SqL K H p ys ∨ SqT K H p ys) ∧ ∀ l, H l = none → Q (.ref l) (upd H l (.lst ys))
theorem klist (h : X.K = K := by rfl) : CallR X (.type "list") (qList K) := h ▸ call_list_of
theorem ksorted (h : X.K = K := by rfl) : CallR X (.builtin "sorted") (rSortedI K) := h ▸ cr_sortedI
theorem kall (hc : X.calm = true) (h : X.K = K := by rfl) : CallR X (.builtin "all") (rAll K) := h ▸ cr_all hc
theorem kany (hc : X.calm = true) (h : X.K = K := by rfl) : CallR X (.builtin "any") (rAny K) := h ▸ cr_any hc
theorem ksum (hc : X.calm = true) (h : X.K = K := by rfl) : CallR X (.builtin "sum") (rSum K) := h ▸ cr_sum hc
theorem kisi (h : X.K = K := by rfl) : CallR X (.builtin "isinstance") (rIsi K) := h ▸ call_isi
theorem kisiT (h : X.K = K := by rfl) : CallR X (.builtin "isinstance") (rIsiT K) := h ▸ call_isiT
theorem kin (h : X.K = K := by rfl) : OpR X (compareOp .In) (rIn K false) := h ▸ op_in_seq
theorem knotIn (h : X.K = K := by rfl) : OpR X (compareOp .NotIn) (rIn K true) := h ▸ op_notIn_seq
theorem keqD (hu : X.A.units + 64 < cLine) (h : X.K = K := by rfl) : OpR X (compareOp .Eq) (rEqD K) := h ▸ op_eqD hu
theorem kneD (hu : X.A.units + 64 < cLine) (h : X.K = K := by rfl) : OpR X (compareOp .NotEq) (rNeD K) := h ▸ op_neD hu
theorem kpi_list {tg : Expr} (he : PE X e te) (h : X.K = K := by rfl) : PI X tg e (iList K te) := h ▸ pi_list he
theorem kbm {T id : String} {name : Str} {r : V → List V → Hp → VK → Prop} (p1 : PySem.PlainAttrs T) (p2 : PySem.Slot T name id) (p3 : typeOf (.builtin id) = pure (.type "method_descriptor")) (m : MtR X id r) (ho : PE X o to) (ha : PA X (e :: es) t)
    (q1 : attributeBase o name X.env (eval o X.env) = eval o X.env := by rfl)
    (q2 : ((backTo cpos (starEach (e :: es) X.env)).all (fun y => !y.1) && (backToKw cpos (keywordEach [] X.env)).all (fun y => y.1.isSome) && decide ((e :: es).length + ([] : List Keyword).length + (if ([] : List Keyword).isEmpty then 0 else 1) < 30)) = true := by rfl)
    (q3 : (apos.endLine == cpos.line) = true := by rfl) (q4 : starEach (e :: es) X.env = (false, eval e X.env) :: starEach es X.env := by rfl) (q5 : (backTo cpos (starEach es X.env)).any (·.1) = false := by rfl) (h : X.K = K := by rfl) :
    PE X (.Call (.Attribute o name apos) (e :: es) [] cpos) (tBM K T r to t) := h ▸ pe_bm p1 p2 p3 m ho ha q1 q2 q3 q4 q5
theorem kbm0 {T id : String} {name : Str} {r : V → List V → Hp → VK → Prop} (p1 : PySem.PlainAttrs T) (p2 : PySem.Slot T name id) (p3 : typeOf (.builtin id) = pure (.type "method_descriptor")) (m : MtR X id r) (ho : PE X o to)
    (q1 : attributeBase o name X.env (eval o X.env) = eval o X.env := by rfl) (q3 : (apos.endLine == cpos.line) = true := by rfl) (h : X.K = K := by rfl) :
    PE X (.Call (.Attribute o name apos) [] [] cpos) (tBM0 K T r to) := h ▸ pe_bm0 p1 p2 p3 m ho q1 q3
def qTru (K : PySem.W.Frag) (ta : TE) : TT := fun σ H Q => ta σ H fun x H' => ∃ k, TruV K x H' k ∧ Q k H'
theorem kpt_truth {b : Expr} {tb : TE} (hb : PE X b tb) (g : ∀ whole, isTrue b X.env whole = (do let v ← whole; standAt b.pos; holding [v] (truthy v))) (h : X.K = K := by rfl) : PT X b (qTru K tb) := h ▸ pt_truth hb g
theorem kpg_tup {k n : Nat} {u : TGs} (hc : X.calm = true) (hp : PGs X es u) (hn : (assignEach es X.env).length = n := by rfl) (hst : (assignEach es X.env).findIdx? (·.1) = none := by rfl) (h : X.K = K := by rfl) :
    PG X (.Tuple es k pos) (gTup K n u) := h ▸ pg_tup hc hp hn hst
end

/-! ### heaps -/
def Same' (p : Addr) (H H' : Hp) : Prop := ∀ b o, H b = some o → b ≠ p → H' b = some o
theorem Same'.refl (p : Addr) (H : Hp) : Same' p H H := fun _ _ h _ => h
theorem Same'.trans {p : Addr} {H H1 H2 : Hp} (a : Same' p H H1) (b : Same' p H1 H2) : Same' p H H2 := fun c o h n => b c o (a c o h n) n
theorem Same'.upd {p : Addr} {H : Hp} {o : HO} : Same' p H (upd H p o) := fun b u h n => by
  rw [upd_ne n]
  exact h
/-- a row of people: person, color (a code) -/
abbrev Row := List (Nat × Nat)
abbrev sg (c : Nat) : V := .str ⟨#[c]⟩
def oV : Option Nat → V
  | some c => sg c
  | none => .non
abbrev pr (e : Nat × Nat) : List V := [.int (e.1 : Int), sg e.2]
def TupsAt (H : Hp) : List Addr → Row → Prop
  | [], [] => True
  | t :: ts, e :: r => H t = some (.tup (pr e)) ∧ TupsAt H ts r
  | _, _ => False
theorem TupsAt.len {H : Hp} : ∀ {ts : List Addr} {r : Row}, TupsAt H ts r → ts.length = r.length
  | [], [], _ => rfl
  | _ :: ts, _ :: r, h => congrArg (· + 1) (TupsAt.len (ts := ts) (r := r) h.2)
  | [], _ :: _, h => h.elim
  | _ :: _, [], h => h.elim
theorem TupsAt.mono {H H' : Hp} : ∀ {ts : List Addr} {r : Row}, TupsAt H ts r → (∀ b xs, H b = some (.tup xs) → H' b = some (.tup xs)) → TupsAt H' ts r
  | [], [], _, _ => True.intro
  | _ :: ts, _ :: r, h, k => ⟨k _ _ h.1, TupsAt.mono (ts := ts) (r := r) h.2 k⟩
  | [], _ :: _, h, _ => h.elim
  | _ :: _, [], h, _ => h.elim
theorem TupsAt.get {H : Hp} : ∀ {ts : List Addr} {r : Row} {i : Nat} {t : Addr}, TupsAt H ts r → ts[i]? = some t → ∃ e, r[i]? = some e ∧ H t = some (.tup (pr e))
  | [], [], i, t, _, h => by simp at h
  | _ :: ts, e :: r, 0, t, h, q => by
    simp at q
    subst q
    exact ⟨e, rfl, h.1⟩
  | _ :: ts, _ :: r, i + 1, t, h, q => by
    simp at q
    obtain ⟨e, h1, h2⟩ := TupsAt.get (ts := ts) (r := r) h.2 q
    exact ⟨e, by simpa using h1, h2⟩
  | [], _ :: _, _, _, h, _ => h.elim
  | _ :: _, [], _, _, h, _ => h.elim
theorem TupsAt.app {H : Hp} : ∀ {ts us : List Addr} {r q : Row}, TupsAt H ts r → TupsAt H us q → TupsAt H (ts ++ us) (r ++ q)
  | [], _, [], _, _, h => h
  | _ :: ts, us, _ :: r, q, h, k => ⟨h.1, TupsAt.app (ts := ts) (r := r) h.2 k⟩
  | [], _, _ :: _, _, h, _ => h.elim
  | _ :: _, _, [], _, h, _ => h.elim
theorem TupsAt.take {H : Hp} : ∀ {ts : List Addr} {r : Row} (n : Nat), TupsAt H ts r → TupsAt H (ts.take n) (r.take n)
  | _, _, 0, _ => True.intro
  | [], [], _ + 1, _ => True.intro
  | _ :: ts, _ :: r, n + 1, h => ⟨h.1, TupsAt.take (ts := ts) (r := r) n h.2⟩
  | [], _ :: _, _ + 1, h => h.elim
  | _ :: _, [], _ + 1, h => h.elim
theorem TupsAt.drop {H : Hp} : ∀ {ts : List Addr} {r : Row} (n : Nat), TupsAt H ts r → TupsAt H (ts.drop n) (r.drop n)
  | _, _, 0, h => h
  | [], [], _ + 1, _ => True.intro
  | _ :: ts, _ :: r, n + 1, h => TupsAt.drop (ts := ts) (r := r) n h.2
  | [], _ :: _, _ + 1, h => h.elim
  | _ :: _, [], _ + 1, h => h.elim
theorem TupsAt.one {H : Hp} {t : Addr} {e : Nat × Nat} (h : H t = some (.tup (pr e))) : TupsAt H [t] [e] := ⟨h, True.intro⟩
def RowAt (H : Hp) (a : Addr) (r : Row) : Prop := ∃ ts : List Addr, H a = some (.lst (ts.map V.ref)) ∧ TupsAt H ts r
theorem sTups {H H' : Hp} (s : Same H H') : ∀ b xs, H b = some (.tup xs) → H' b = some (.tup xs) := fun b xs h => s b _ h
theorem RowAt.same {H H' : Hp} {a : Addr} {r : Row} (h : RowAt H a r) (s : Same H H') : RowAt H' a r :=
  let ⟨ts, h1, h2⟩ := h
  ⟨ts, s _ _ h1, h2.mono (sTups s)⟩
/-- a list at p is not the tuples' -/
theorem RowAt.same' {H H' : Hp} {a p : Addr} {r : Row} {xs : List V} (h : RowAt H a r) (s : Same' p H H') (hp : H p = some (.lst xs)) (n : a ≠ p) : RowAt H' a r :=
  let ⟨ts, h1, h2⟩ := h
  ⟨ts, s _ _ h1 n, h2.mono fun b ys e => s b _ e fun q => by
    rw [q, hp] at e
    cases e⟩
theorem sNew {H : Hp} {p : Addr} {o : HO} (h : H p = none) : Same H (upd H p o) := fun a u e => by
  rw [upd_ne (ne_of_none e h)]
  exact e
/-- a change of an object that H does not know -/
theorem sUpd {H H' : Hp} {p : Addr} {o : HO} (s : Same H H') (h : H p = none) : Same H (upd H' p o) := fun a u e => by
  rw [upd_ne (ne_of_none e h)]
  exact s a u e
theorem sTo {H H' : Hp} (p : Addr) (s : Same H H') : Same' p H H' := fun b o h _ => s b o h

/-! ### the draws' bag -/
structure Src (H : Hp) (p : Addr) : Prop where
  ex : ∃ s0 s1 s2 : Int, H p = some (.lst [.int s0, .int s1, .int s2]) ∧ s1.natAbs < 2 ^ 400
theorem Src.same {H H' : Hp} {p : Addr} (h : Src H p) (s : Same H H') : Src H' p :=
  let ⟨s0, s1, s2, h1, h2⟩ := h.ex
  ⟨s0, s1, s2, s _ _ h1, h2⟩
theorem Src.lst {H : Hp} {p : Addr} (h : Src H p) : ∃ xs, H p = some (.lst xs) :=
  let ⟨s0, s1, s2, h1, _⟩ := h.ex
  ⟨_, h1⟩

/-! ### readings, step by step -/
section
variable {σ : St} {H : Hp} {Q : VK} {v x y : V} {ta tb tc te : TE} {r r' : R2} {i : Nat} {K : PySem.W.Frag} {t u : TT} {t1 t2 : TS} {D : Ends} {g : TG} {QB : Bool → Hp → Prop} {QA : List V → Hp → Prop} {tr : TA}
theorem rd_var (e : σ[i]? = some (some v)) (q : Q v H) : tVar i σ H Q := ⟨v, e, q⟩
theorem rd_c (q : Q v H) : tC v σ H Q := q
theorem rd_op (q : ta σ H fun x H1 => tb σ H1 fun y H2 => r x y H2 Q) : tOp r ta tb σ H Q := q
theorem rd_un {r : V → Hp → VK → Prop} (q : ta σ H fun x H1 => r x H1 Q) : tUn r ta σ H Q := q
theorem rd_I0 {f : Int → Int → V} {a b : Int} (q : Q (f a b) H) : rI0 f (.int a) (.int b) H Q := ⟨a, b, rfl, rfl, q⟩
theorem rd_I {C : Int → Int → Prop} {f : Int → Int → V} {a b : Int} (c : C a b) (q : Q (f a b) H) : rI C f (.int a) (.int b) H Q := ⟨a, b, rfl, rfl, c, q⟩
theorem rd_U {f : Int → V} {a : Int} (q : Q (f a) H) : rU f (.int a) H Q := ⟨a, rfl, q⟩
theorem rd_eq (s : scal x y = true) (q : Q (.bl (decide (x = y))) H) : rEq x y H Q := ⟨s, q⟩
theorem rd_ne (s : scal x y = true) (q : Q (.bl (!decide (x = y))) H) : rNe x y H Q := ⟨s, q⟩
theorem rd_test (q : te σ H fun x H' => ∃ k, x = .bl k ∧ QB k H') : tTest te σ H QB := q
theorem rd_tB (q : te σ H fun x H' => ∃ k, x = .bl k ∧ QB k H') : tB te σ H QB := q
theorem rd_bl {b : Bool} {R : Bool → Prop} (q : R b) : ∃ k, V.bl b = .bl k ∧ R k := ⟨b, rfl, q⟩
theorem rd_dec {p A B : Prop} [Decidable p] (h1 : p → A) (h2 : ¬ p → B) : if decide p = true then A else B := by
  by_cases h : p
  · rw [decide_eq_true h]
    exact iteT (h1 h)
  · rw [decide_eq_false h]
    exact iteF (h2 h)
theorem rd_ndec {p A B : Prop} [Decidable p] (h1 : ¬ p → A) (h2 : p → B) : if (!decide p) = true then A else B := by
  by_cases h : p
  · rw [decide_eq_true h]
    exact iteF (h2 h)
  · rw [decide_eq_false h]
    exact iteT (h1 h)
theorem rd_nt {A B : Prop} (h : B) : if (!true) = true then A else B := iteF h
theorem rd_nf {A B : Prop} (h : A) : if (!false) = true then A else B := iteT h
theorem rd_yes {p A B : Prop} [Decidable p] (h : p) (q : A) : if decide p = true then A else B := rd_dec (fun _ => q) fun n => absurd h n
theorem rd_no {p A B : Prop} [Decidable p] (h : ¬ p) (q : B) : if decide p = true then A else B := rd_dec (fun n => absurd n h) fun _ => q
theorem rd_2i {a b : Int} {R : Int → Int → Prop} (q : R a b) : ∃ i j, [V.int a, V.int b] = [V.int i, V.int j] ∧ R i j := ⟨a, b, rfl, q⟩
theorem rd_chain (q : ta σ H fun x H1 => tb σ H1 fun y H2 => r x y H2 fun z H3 => ∃ k, z = .bl k ∧ (if k = true then tc σ H3 fun w' H4 => r' y w' H4 Q else Q (.bl false) H3)) : tChain r r' ta tb tc σ H Q := q
theorem rd_and (q : t σ H fun c H1 => if c = true then u σ H1 QB else QB false H1) : tAnd t u σ H QB := q
theorem rd_or (q : t σ H fun c H1 => if c = true then QB true H1 else u σ H1 QB) : tOr t u σ H QB := q
theorem rd_not (q : t σ H fun c H1 => QB (!c) H1) : tNot t σ H QB := q
theorem rd_andV (q : ta σ H fun x H1 => ∃ c, x = .bl c ∧ if c = true then tb σ H1 Q else Q (.bl false) H1) : tAndV ta tb σ H Q := q
theorem rd_orV (q : ta σ H fun x H1 => ∃ c, x = .bl c ∧ if c = true then Q (.bl true) H1 else tb σ H1 Q) : tOrV ta tb σ H Q := q
theorem rd_notV (q : ta σ H fun x H1 => ∃ c, x = .bl c ∧ Q (.bl (!c)) H1) : tNotV ta σ H Q := q
theorem rd_ifE (q : t σ H fun c H1 => if c = true then ta σ H1 Q else tb σ H1 Q) : tIf t ta tb σ H Q := q
theorem rd_next (q : D.nx σ H) : tNext D σ H := q
theorem rd_seq (q : t1 { D with nx := t2 D } σ H) : tSeq t1 t2 D σ H := q
theorem rd_drop (q : te σ H fun _ H1 => D.nx σ H1) : tDrop te D σ H := q
theorem rd_ret (q : te σ H D.rt) : tRet te D σ H := q
theorem rd_ifS (q : t σ H fun b H1 => if b = true then t1 D σ H1 else t2 D σ H1) : tIfS t t1 t2 D σ H := q
theorem rd_asg (q : te σ H fun x H1 => g x σ H1 D.nx) : tAsg te g D σ H := q
theorem rd_name {R : St → Hp → Prop} (q : R (σ.set i (some v)) H) : gName i v σ H R := q
theorem rd_par {j : Nat} (q : tr σ H fun vs H1 => ∃ v w, vs = [v, w] ∧ D.nx ((σ.set i (some v)).set j (some w)) H1) : tPar i j tr D σ H := q
theorem rd_two {v w : V} {R : V → V → Prop} (q : R v w) : ∃ a b, [v, w] = [a, b] ∧ R a b := ⟨v, w, rfl, q⟩
theorem rd_nil (q : QA [] H) : tNil σ H QA := q
theorem rd_cons (q : ta σ H fun x H1 => tr σ H1 fun xs H2 => QA (x :: xs) H2) : tCons ta tr σ H QA := q
theorem rd_tup (q : tr σ H fun xs H1 => xs.length ≤ sizeLine ∧ ∀ p, H1 p = none → Q (.ref p) (upd H1 p (.tup xs))) : tTup tr σ H Q := q
theorem rd_lst (q : tr σ H fun xs H1 => xs.length ≤ sizeLine ∧ ∀ p, H1 p = none → Q (.ref p) (upd H1 p (.lst xs))) : tLst tr σ H Q := q
theorem rd_cb {r : List V → Hp → VK → Prop} (q : tr σ H fun vs H1 => r vs H1 Q) : tCB r tr σ H Q := q
theorem rd_call {sp : Sp} {dvs : List V} {E : XK} (q : tr σ H fun vs H1 => sp (vs ++ dvs) H1 Q E) : tCall sp dvs E tr σ H Q := q
theorem rd_ixL {p : Addr} {xs : List V} {j : Int} (h : H p = some (.lst xs)) (a : atI xs j = some v) (q : Q v H) : rIxL K (.ref p) (.int j) H Q := ⟨p, xs, j, v, rfl, rfl, SqL.of h, a, q⟩
theorem rd_ixT {p : Addr} {xs : List V} {j : Int} (h : H p = some (.tup xs)) (a : atI xs j = some v) (q : Q v H) : rIxT K (.ref p) (.int j) H Q := ⟨p, xs, j, v, rfl, rfl, SqT.of h, a, q⟩
theorem rd_sub {to ti : TE} {s : TSet} {R : St → Hp → Prop} (q : to σ H fun o H1 => ti σ H1 fun i H2 => s o i v H2 fun H3 => R σ H3) : gSub to ti s v σ H R := q
theorem rd_setL {p : Addr} {xs : List V} {k : Int} {j : Nat} {R : Hp → Prop} (h : H p = some (.lst xs)) (e : ixN xs.length k = some j) (q : R (upd H p (.lst (xs.set j v)))) : rSetL (.ref p) (.int k) v H R := ⟨p, xs, k, j, rfl, rfl, h, e, q⟩
theorem rd_len {p : Addr} {xs : List V} (h : H p = some (.lst xs)) (q : Q (.int xs.length) H) : qLen K [.ref p] H Q := ⟨p, xs, rfl, Or.inl (SqL.of h), q⟩
theorem rd_sl {tl th : TO} {r : V → Option Int → Option Int → Hp → VK → Prop} (q : te σ H fun x H1 => tl σ H1 fun l H2 => th σ H2 fun u H3 => r x l u H3 Q) : tSl r te tl th σ H Q := q
theorem rd_nopart {R : Option Int → Hp → Prop} (q : R none H) : tNoPart σ H R := q
theorem rd_part {R : Option Int → Hp → Prop} (q : te σ H fun x H1 => ∃ i, x = .int i ∧ R (some i) H1) : tPart te σ H R := q
theorem rd_int {j : Int} {R : Int → Prop} (q : R j) : ∃ i, V.int j = .int i ∧ R i := ⟨j, rfl, q⟩
theorem rd_slL {p : Addr} {xs : List V} {l u : Option Int} (h : H p = some (.lst xs)) (q : ∀ b, H b = none → Q (.ref b) (upd H b (.lst (cutV xs l u)))) : rSlL K (.ref p) l u H Q := ⟨p, xs, rfl, SqL.of h, q⟩
theorem rd_cat {p b : Addr} {xs ys : List V} (h : H p = some (.lst xs)) (h2 : H b = some (.lst ys)) (z : xs.length + ys.length ≤ sizeLine) (q : ∀ c, H c = none → Q (.ref c) (upd H c (.lst (xs ++ ys)))) : rCat (.ref p) (.ref b) H Q := ⟨p, b, xs, ys, rfl, rfl, h, h2, z, q⟩
theorem rd_isN (q : Q (.bl (decide (x = .non))) H) : (fun x y H Q => y = V.non ∧ Q (.bl (decide (x = .non))) H : R2) x .non H Q := ⟨rfl, q⟩
theorem rd_bm {T : String} {r : V → List V → Hp → VK → Prop} (q : te σ H fun x H1 => tyV K T x H1 ∧ tr σ H1 fun xs H2 => r x xs H2 Q) : tBM K T r te tr σ H Q := q
theorem rd_bm0 {T : String} {r : V → List V → Hp → VK → Prop} (q : te σ H fun x H1 => tyV K T x H1 ∧ r x [] H1 Q) : tBM0 K T r te σ H Q := q
theorem rd_for {wi : TI} (q : wi σ H fun J H1 => ∃ W : Nat → Nat → St → Hp → Prop, (∃ m, W 0 m σ H1) ∧ ∀ i m σ H, W i m σ H →
  (J.stop i H ∧ D.nx σ H) ∨ (J.go i H ∧ ∃ N : St → Hp → Prop, (∀ σ' H', N σ' H' → ∃ m', m' < m ∧ W (i + 1) m' σ' H') ∧ ∀ x H', J.yld i H x H' → g x σ H' fun σ2 H2 => t1 { D with nx := N, ct := N, bk := D.nx } σ2 H2)) : tFor wi g t1 D σ H := q
theorem rd_iList {tl : TE} {R : It → Hp → Prop} (q : tl σ H fun x H1 => ∃ a, x = .ref a ∧ (∃ xs, SqL K H1 a xs) ∧ R (Itl K a) H1) : iList K tl σ H R := q
theorem rd_gtup {n : Nat} {s : TGs} {p : Addr} {xs : List V} {R : St → Hp → Prop} (h : H p = some (.tup xs)) (z : xs.length = n) (q : s xs σ H R) : gTup K n s (.ref p) σ H R := ⟨p, xs, rfl, SqT.of h, z, q⟩
theorem rd_gcons {s : TG} {w : TGs} {vs : List V} {R : St → Hp → Prop} (q : s v σ H fun σ' H' => w vs σ' H' R) : gCons s w (v :: vs) σ H R := ⟨v, vs, rfl, q⟩
theorem rd_gnil {R : St → Hp → Prop} (q : R σ H) : gNil [] σ H R := ⟨rfl, q⟩
theorem rd_sl_len {n : Nat} (h : n ≤ 1000) : n ≤ sizeLine := Nat.le_of_lt (small1000 h)
end

section
variable {σ : St} {H : Hp} {Q : VK} {v x y : V} {K : PySem.W.Frag} {ta te : TE} {D : Ends} {g : TG} {tb : TS}
theorem rd_typ {n : String} (h : zTyV v H = some n) (q : Q (.ty n) H) : r1 kTyp [v] H Q := ⟨n, h, q⟩
theorem rd_2ty {m n : String} {R : String → String → Prop} (q : R m n) : ∃ a b, V.ty m = V.ty a ∧ V.ty n = V.ty b ∧ R a b := ⟨m, n, rfl, rfl, q⟩
theorem rd_NT {m n : String} (q : Q (.bl (!decide (m = n))) H) : rNT (.ty m) (.ty n) H Q := ⟨m, n, rfl, rfl, q⟩
theorem rd_2s {m n : Str} {R : Str → Str → Prop} (q : R m n) : ∃ a b, V.str m = V.str a ∧ V.str n = V.str b ∧ R a b := ⟨m, n, rfl, rfl, q⟩
theorem rd_lenS {m : Str} {R : Str → Prop} (q : R m) : ∃ a, [V.str m] = [V.str a] ∧ R a := ⟨m, rfl, q⟩
theorem rd_lenT {p : Addr} {xs : List V} (h : H p = some (.tup xs)) (q : Q (.int xs.length) H) : qLen K [.ref p] H Q := ⟨p, xs, rfl, Or.inr (SqT.of h), q⟩
theorem rd_isi {t u : Value} {c : V} {b : Bool} (h1 : ClsV c u) (h2 : TyX K H v t) (h3 : PySem.W.kitOne K t u = some b) (q : Q (.bl b) H) : rIsi K [v, c] H Q := ⟨v, c, t, u, b, rfl, h1, h2, h3, q⟩
theorem rd_listOf {p : Addr} {xs : List V} (h : H p = some (.lst xs)) (q : ∀ l, H l = none → Q (.ref l) (upd H l (.lst xs))) : qList K [.ref p] H Q := ⟨p, xs, rfl, Or.inl (SqL.of h), q⟩
theorem rd_rep {p : Addr} {xs : List V} {k : Int} (h : H p = some (.lst xs)) (h1 : 0 ≤ k) (h2 : k < 2 ^ 62) (z : xs.length * k.toNat ≤ sizeLine) (q : rRep (.ref p) (.int k) H Q) : rRep (.ref p) (.int k) H Q := q
/-- for i, x in enumerate(xs): every turn has a new tuple -/
theorem for_enum {a : Addr} {xs : List V} {σ : St} {H : Hp} (Pv : Nat → St → Hp → Prop) (h0 : Pv 0 σ H) (hl : ∀ i σ H, i ≤ xs.length → Pv i σ H → SqL K H a xs)
    (hs : ∀ i x (T : Addr) σ H, xs[i]? = some x → Pv i σ H → H T = none → g (.ref T) σ (upd H T (.tup [.int (i : Nat), x])) fun σ2 H2 => tb { D with nx := Pv (i + 1), ct := Pv (i + 1), bk := D.nx } σ2 H2) (hd : ∀ σ H, Pv xs.length σ H → D.nx σ H) :
    ∃ W : Nat → Nat → St → Hp → Prop, (∃ m, W 0 m σ H) ∧ ∀ i m σ H, W i m σ H →
      ((Ite K a).stop i H ∧ D.nx σ H) ∨ ((Ite K a).go i H ∧ ∃ N : St → Hp → Prop, (∀ σ' H', N σ' H' → ∃ m', m' < m ∧ W (i + 1) m' σ' H') ∧ ∀ x H', (Ite K a).yld i H x H' → g x σ H' fun σ2 H2 => tb { D with nx := N, ct := N, bk := D.nx } σ2 H2) := by
  refine ⟨fun i m σ H => m = xs.length - i ∧ i ≤ xs.length ∧ Pv i σ H, ⟨_, rfl, Nat.zero_le _, h0⟩, fun i m σ H hw => ?_⟩
  obtain ⟨rfl, hi, p⟩ := hw
  have q := hl i σ H hi p
  by_cases hlt : i < xs.length
  · have hx : xs[i]? = some xs[i] := List.getElem?_eq_getElem hlt
    refine Or.inr ⟨⟨xs, xs[i], q, hx⟩, Pv (i + 1), fun σ' H' p' => ⟨xs.length - (i + 1), by omega, rfl, hlt, p'⟩, fun x H' ⟨T, z, e1, e2, e3, e4⟩ => ?_⟩
    subst e1 e3
    have ez : z = xs[i] := Option.some.inj ((e4 xs q).symm.trans hx)
    subst ez
    exact hs i _ T σ H hx p e2
  · have e : i = xs.length := by omega
    subst e
    exact Or.inl ⟨⟨xs, q, Nat.le_refl _⟩, hd σ H p⟩
end

/-! ### rows: the first other color, the colors by person, a call -/
def fo (r : Row) (c : Nat) : Option Nat := (r.find? fun e => e.2 != c).map (·.2)
def colOf (r : Row) (q : Nat) : Nat := ((r.find? fun e => e.1 == q).map (·.2)).getD 0
theorem fo_nil (c : Nat) : fo [] c = none := rfl
theorem fo_yes {e : Nat × Nat} {r : Row} {c : Nat} (h : e.2 ≠ c) : fo (e :: r) c = some e.2 := by
  unfold fo
  rw [List.find?_cons_of_pos (by simpa using h)]
  rfl
theorem fo_no {e : Nat × Nat} {r : Row} {c : Nat} (h : e.2 = c) : fo (e :: r) c = fo r c := by
  unfold fo
  rw [List.find?_cons_of_neg (by simpa using h)]
theorem drop_of {α : Type} {l : List α} {i : Nat} {x : α} (h : l[i]? = some x) : l.drop i = x :: l.drop (i + 1) := by
  obtain ⟨h1, h2⟩ := List.getElem?_eq_some_iff.mp h
  rw [← h2]
  exact List.drop_eq_getElem_cons h1
structure Vr (r : Row) : Prop where
  n1 : 1 ≤ r.length
  n2 : r.length ≤ 60
  col : ∀ e ∈ r, 97 ≤ e.2 ∧ e.2 ≤ 122
  perm : (r.map (·.1)).Perm (List.range r.length)
theorem Vr.lt {r : Row} (h : Vr r) {e : Nat × Nat} (he : e ∈ r) : e.1 < r.length := by
  have := h.perm.mem_iff.mp (List.mem_map_of_mem (f := (·.1)) he)
  exact List.mem_range.mp this
theorem Vr.nodup {r : Row} (h : Vr r) : (r.map (·.1)).Nodup := h.perm.nodup_iff.mpr List.nodup_range
theorem Vr.has {r : Row} (h : Vr r) {q : Nat} (hq : q < r.length) : ∃ e ∈ r, e.1 = q := by
  have := h.perm.mem_iff.mpr (List.mem_range.mpr hq)
  obtain ⟨e, h1, h2⟩ := List.mem_map.mp this
  exact ⟨e, h1, h2⟩
/-- the list that colors_by_person fills -/
def fillC (l : List V) (r : Row) : List V := r.foldl (fun l e => l.set e.1 (sg e.2)) l
theorem fillC_len (r : Row) : ∀ l : List V, (fillC l r).length = l.length := by
  induction r with
  | nil => intro l; rfl
  | cons e r ih =>
    intro l
    show (fillC (l.set e.1 (sg e.2)) r).length = _
    rw [ih, List.length_set]
theorem fillC_no {q : Nat} : ∀ (r : Row) (l : List V), (∀ e ∈ r, e.1 ≠ q) → (fillC l r)[q]? = l[q]? := by
  intro r
  induction r with
  | nil => intro l _; rfl
  | cons e r ih =>
    intro l h
    show (fillC (l.set e.1 (sg e.2)) r)[q]? = _
    rw [ih _ fun x hx => h x (List.mem_cons_of_mem _ hx), List.getElem?_set_ne (h e List.mem_cons_self)]
theorem fillC_at {q : Nat} : ∀ (r : Row) (l : List V), (r.map (·.1)).Nodup → q < l.length → (∃ e ∈ r, e.1 = q) → (fillC l r)[q]? = some (sg (colOf r q)) := by
  intro r
  induction r with
  | nil =>
    intro l _ _ h
    obtain ⟨e, he, _⟩ := h
    cases he
  | cons e r ih =>
    intro l nd hl h
    have nd' := List.nodup_cons.mp (show (e.1 :: r.map (·.1)).Nodup from nd)
    show (fillC (l.set e.1 (sg e.2)) r)[q]? = _
    by_cases c : e.1 = q
    · rw [fillC_no r _ fun x hx z => nd'.1 (by rw [c, ← z]; exact List.mem_map_of_mem (f := (·.1)) hx), c, List.getElem?_set_self hl]
      unfold colOf
      rw [List.find?_cons_of_pos (by simpa using c)]
      rfl
    · rw [ih _ nd'.2 (by rw [List.length_set]; exact hl) ?_]
      · unfold colOf
        rw [List.find?_cons_of_neg (by simpa using c)]
      · obtain ⟨x, hx, hq⟩ := h
        rcases List.mem_cons.mp hx with z | z
        · exact absurd (z ▸ hq) c
        · exact ⟨x, z, hq⟩
def byPerson (r : Row) : List V := (List.range r.length).map fun q => sg (colOf r q)
theorem fillC_is {r : Row} (h : Vr r) {x : V} : fillC (List.replicate r.length x) r = byPerson r := by
  apply List.ext_getElem?
  intro q
  unfold byPerson
  rw [List.getElem?_map]
  by_cases c : q < r.length
  · rw [fillC_at r _ h.nodup (by rw [List.length_replicate]; exact c) (h.has c), List.getElem?_range c]
    rfl
  · rw [List.getElem?_eq_none (by rw [fillC_len, List.length_replicate]; omega), List.getElem?_eq_none (by rw [List.length_range]; omega)]
    rfl
def app (r : Row) (p : Nat) : Row := (p, (fo r (colOf r p)).getD (colOf r p)) :: r.filter fun e => e.1 != p
theorem flat_rep {α : Type} (x : α) : ∀ n : Nat, (List.replicate n [x]).flatten = List.replicate n x
  | 0 => rfl
  | n + 1 => by
    rw [List.replicate_succ, List.flatten_cons, flat_rep x n]
    rfl
theorem fillC_snoc (l : List V) (r : Row) (e : Nat × Nat) : fillC l (r ++ [e]) = (fillC l r).set e.1 (sg e.2) := by
  unfold fillC
  rw [List.foldl_append]
  rfl
theorem take_of {α : Type} {l : List α} {i : Nat} {x : α} (h : l[i]? = some x) : l.take (i + 1) = l.take i ++ [x] := by
  rw [List.take_add_one, h]
  rfl
theorem ixN_nat {n j : Nat} (h : j < n) : ixN n (j : Int) = some j := by
  unfold ixN
  rw [if_pos (by omega), if_pos (by omega)]
  simp
theorem sz60 {n : Nat} (h : n ≤ 60) : n ≤ sizeLine := Nat.le_trans h (by decide)
theorem getElem?_mem {α : Type} {l : List α} {i : Nat} {x : α} (h : l[i]? = some x) : x ∈ l := List.mem_of_getElem? h
/-! ### data -/
theorem dp_ints {K : PySem.W.Frag} {H : Hp} : ∀ ns : List Int, DpAll K H (ns.map V.int) (ns.map PyData.int)
  | [] => .nil
  | n :: ns => .cons (.int n) (dp_ints ns)
theorem lay_ints : ∀ ns : List Int, PyData.canLayAll0 (ns.map PyData.int) = true
  | [] => by simp only [List.map_nil, PyData.canLayAll0]
  | n :: ns => by
    simp only [List.map_cons, PyData.canLayAll0, PyData.canLay0, Bool.true_and]
    exact lay_ints ns
theorem dep_ints : ∀ ns : List Int, PyData.depthAll (ns.map PyData.int) = 0
  | [] => by simp only [List.map_nil, PyData.depthAll]
  | n :: ns => by
    simp only [List.map_cons, PyData.depthAll, PyData.depth]
    rw [dep_ints ns]
    rfl
abbrev dI (ns : List Int) : PyData := .list (ns.map PyData.int)
theorem shp_ints (ns : List Int) : SeqAt.shaped (dI ns) = true := by
  refine Bool.and_eq_true_iff.mpr ⟨?_, decide_eq_true ?_⟩
  · simp only [PyData.canLay0]
    exact lay_ints ns
  · simp only [PyData.depth]
    rw [dep_ints]
    decide
/-- a row as data -/
abbrev dE (e : Nat × Nat) : PyData := .tuple [.int (e.1 : Int), .str ⟨#[e.2]⟩]
abbrev dR (r : Row) : PyData := .list (r.map dE)
theorem dp_tups {K : PySem.W.Frag} {H : Hp} : ∀ {ts : List Addr} {r : Row}, TupsAt H ts r → DpAll K H (ts.map V.ref) (r.map dE)
  | [], [], _ => .nil
  | _ :: ts, e :: r, h => .cons (.tup (SqT.of h.1) (.cons (.int _) (.cons (.str _) .nil))) (dp_tups (ts := ts) (r := r) h.2)
  | [], _ :: _, h => h.elim
  | _ :: _, [], h => h.elim
theorem RowAt.dp {K : PySem.W.Frag} {H : Hp} {a : Addr} {r : Row} (h : RowAt H a r) : Dp K H (.ref a) (dR r) :=
  let ⟨_, h1, h2⟩ := h
  .lst (SqL.of h1) (dp_tups h2)
def Cok (r : Row) : Prop := ∀ e ∈ r, 97 ≤ e.2 ∧ e.2 ≤ 122
theorem str_ok {c : Nat} (h : c ≤ 122) : PyData.strOk ⟨#[c]⟩ = true := by
  show (#[c] : Array Nat).all (· < 0x110000) = true
  simp
  omega
theorem lay_row : ∀ r : Row, Cok r → PyData.canLayAll0 (r.map dE) = true ∧ PyData.depthAll (r.map dE) ≤ 1
  | [], _ => by
    simp only [List.map_nil, PyData.canLayAll0, PyData.depthAll]
    exact ⟨trivial, Nat.zero_le _⟩
  | e :: r, h => by
    obtain ⟨h1, h2⟩ := lay_row r fun x hx => h x (List.mem_cons_of_mem _ hx)
    simp only [List.map_cons, PyData.canLayAll0, PyData.canLay0, PyData.depthAll, PyData.depth, Bool.true_and, Bool.and_true]
    rw [h1, str_ok (h e List.mem_cons_self).2]
    refine ⟨rfl, ?_⟩
    omega
theorem shp_row (r : Row) (h : Cok r) : SeqAt.shaped (dR r) = true := by
  obtain ⟨h1, h2⟩ := lay_row r h
  refine Bool.and_eq_true_iff.mpr ⟨?_, decide_eq_true ?_⟩
  · simp only [PyData.canLay0]
    exact h1
  · simp only [PyData.depth]
    omega
theorem shp_ent (e : Nat × Nat) (h : e.2 ≤ 122) : SeqAt.shaped (dE e) = true := by
  refine Bool.and_eq_true_iff.mpr ⟨?_, decide_eq_true ?_⟩
  · simp only [PyData.canLay0, PyData.canLayAll0, Bool.true_and, Bool.and_true]
    exact str_ok h
  · simp only [PyData.depth, PyData.depthAll]
    decide
section
variable {σ : St} {H : Hp} {Q : VK} {v x y : V} {K : PySem.W.Frag} {ta te : TE} {D : Ends} {g : TG} {tb : TS}
theorem rd_eqD {d : PyData} (h1 : Dp K H x d) (h2 : Dp K H y d) (s : SeqAt.shaped d = true) (q : Q (.bl true) H) : rEqD K x y H Q :=
  ⟨d, d, h1, h2, s, s, by rw [SeqAt.eqv_refl d (SeqAt.canLay_of_shaped s)]; exact q⟩
theorem rd_neD {d : PyData} (h1 : Dp K H x d) (h2 : Dp K H y d) (s : SeqAt.shaped d = true) (q : Q (.bl false) H) : rNeD K x y H Q :=
  ⟨d, d, h1, h2, s, s, by rw [SeqAt.eqv_refl d (SeqAt.canLay_of_shaped s)]; exact q⟩
theorem rd_eqD2 {d e : PyData} (h1 : Dp K H x d) (h2 : Dp K H y e) (s : SeqAt.shaped d = true) (s2 : SeqAt.shaped e = true) {b : Bool} (hb : PyData.eqv d e = b) (q : Q (.bl b) H) : rEqD K x y H Q :=
  ⟨d, e, h1, h2, s, s2, by rw [hb]; exact q⟩
theorem rd_neD2 {d e : PyData} (h1 : Dp K H x d) (h2 : Dp K H y e) (s : SeqAt.shaped d = true) (s2 : SeqAt.shaped e = true) {b : Bool} (hb : PyData.eqv d e = b) (q : Q (.bl (!b)) H) : rNeD K x y H Q :=
  ⟨d, e, h1, h2, s, s2, by rw [hb]; exact q⟩
theorem rd_tyes {R : Bool → Hp → Prop} (q : R true H) : tYes σ H R := q
theorem rd_lstRg {tr : St → Hp → (Int → Int → Hp → Prop) → Prop} (q : tr σ H fun a b H1 => RgOk a b ∧ ∀ q, H1 q = none → Q (.ref q) (upd H1 q (.lst (rgV a b)))) : tLstRg tr σ H Q := q
theorem rd_rg1 {R : Int → Int → Hp → Prop} (q : ta σ H fun x H1 => ∃ n, x = .int n ∧ R 0 n H1) : tRg1 ta σ H R := q
theorem rd_tyL {p : Addr} {xs : List V} (h : H p = some (.lst xs)) (q : Q (.ty "list") H) : r1 kTyp [.ref p] H Q :=
  ⟨"list", by show (match H p with | some (.lst _) => _ | some (.tup _) => _ | _ => _) = _; rw [h], q⟩
theorem rd_tyT {p : Addr} {xs : List V} (h : H p = some (.tup xs)) (q : Q (.ty "tuple") H) : r1 kTyp [.ref p] H Q :=
  ⟨"tuple", by show (match H p with | some (.lst _) => _ | some (.tup _) => _ | _ => _) = _; rw [h], q⟩
end
abbrev pI (r : Row) : List Int := r.map fun e => (e.1 : Int)
theorem pI_map (r : Row) : (pI r).map V.int = r.map fun e => V.int (e.1 : Int) := by
  show (r.map _).map _ = _
  rw [List.map_map]
  rfl
abbrev rI' (n : Nat) : List Int := (List.range n).map fun i : Nat => (i : Int)
theorem rgV_is (n : Nat) : rgV 0 (n : Int) = (rI' n).map V.int := by
  unfold rgV
  rw [List.map_map, show ((n : Int) - 0).toNat = n by omega]
  apply List.map_congr_left
  intro i _
  show V.int (0 + (i : Int)) = V.int (i : Int)
  rw [Int.zero_add]
theorem sorted_is {r : Row} (h : Vr r) {ns : List Int} (hp : ns.Perm (pI r)) (hs : ns.Pairwise (· ≤ ·)) : ns = rI' r.length := by
  have h1 : (pI r).Perm (rI' r.length) := by
    have q := h.perm.map fun i : Nat => (i : Int)
    rw [List.map_map] at q
    exact q
  have h2 : (rI' r.length).Pairwise (· ≤ ·) := by
    refine List.pairwise_map.mpr (List.pairwise_lt_range.imp fun {a b} k => ?_)
    omega
  exact List.Perm.eq_of_pairwise (fun a b _ _ x y => Int.le_antisymm x y) hs h2 (hp.trans h1)
theorem lt60 {n : Nat} (h : n ≤ 60) : n < sizeLine := Nat.lt_of_le_of_lt h (by decide)
abbrev vN (p : Nat) : V := .int (p : Int)
/-! ### a call keeps a row a row -/
theorem byPerson_at {r : Row} {p : Nat} (h : p < r.length) : (byPerson r)[p]? = some (sg (colOf r p)) := by
  unfold byPerson
  rw [List.getElem?_map, List.getElem?_range h]
  rfl
def takenEach (r : Row) : List V := (List.range r.length).map fun q => oV (fo r (colOf r q))
theorem takenEach_at {r : Row} {p : Nat} (h : p < r.length) : (takenEach r)[p]? = some (oV (fo r (colOf r p))) := by
  unfold takenEach
  rw [List.getElem?_map, List.getElem?_range h]
  rfl
theorem fo_mem {r : Row} {c d : Nat} (h : fo r c = some d) : ∃ e ∈ r, e.2 = d ∧ d ≠ c := by
  unfold fo at h
  obtain ⟨e, h1, h2⟩ := Option.map_eq_some_iff.mp h
  have h3 := List.find?_some h1
  refine ⟨e, List.mem_of_find?_eq_some h1, h2, ?_⟩
  rw [← h2]
  simpa using h3
theorem colOf_mem {r : Row} {p : Nat} (h : ∃ e ∈ r, e.1 = p) : (p, colOf r p) ∈ r := by
  unfold colOf
  cases q : r.find? fun e => e.1 == p with
  | none =>
    obtain ⟨e, h1, h2⟩ := h
    have := List.find?_eq_none.mp q e h1
    exact absurd (by simpa using h2) this
  | some e =>
    have h1 := List.mem_of_find?_eq_some q
    have h2 : e.1 = p := by simpa using List.find?_some q
    show (p, e.2) ∈ r
    rw [← h2]
    exact h1
theorem perm_out {p : Nat} : ∀ {r : Row}, (r.map (·.1)).Nodup → (∃ e ∈ r, e.1 = p) → (p :: (r.filter fun e => e.1 != p).map (·.1)).Perm (r.map (·.1))
  | [], _, h => by
    obtain ⟨e, he, _⟩ := h
    cases he
  | e :: r, nd, h => by
    have nd' := List.nodup_cons.mp (show (e.1 :: r.map (·.1)).Nodup from nd)
    by_cases c : e.1 = p
    · rw [List.filter_cons_of_neg (by simpa using c)]
      have e2 : (r.filter fun e => e.1 != p) = r := by
        apply List.filter_eq_self.mpr
        intro x hx
        simp only [bne_iff_ne, ne_eq]
        intro z
        exact nd'.1 (by rw [c, ← z]; exact List.mem_map_of_mem (f := (·.1)) hx)
      rw [e2, List.map_cons, c]
    · rw [List.filter_cons_of_pos (by simpa using c), List.map_cons, List.map_cons]
      have h' : ∃ e ∈ r, e.1 = p := by
        obtain ⟨x, hx, hq⟩ := h
        rcases List.mem_cons.mp hx with z | z
        · exact absurd (z ▸ hq) c
        · exact ⟨x, z, hq⟩
      exact (List.Perm.swap _ _ _).trans ((perm_out nd'.2 h').cons _)
theorem app_perm {r : Row} (h : Vr r) {p : Nat} (hp : p < r.length) : ((app r p).map (·.1)).Perm (r.map (·.1)) := perm_out h.nodup (h.has hp)
theorem app_len {r : Row} (h : Vr r) {p : Nat} (hp : p < r.length) : (app r p).length = r.length := by
  have := (app_perm h hp).length_eq
  rw [List.length_map, List.length_map] at this
  exact this
theorem Vr.colOf {r : Row} (h : Vr r) {p : Nat} (hp : p < r.length) : 97 ≤ LX.colOf r p ∧ LX.colOf r p ≤ 122 := h.col _ (colOf_mem (h.has hp))
theorem Vr.fo {r : Row} (h : Vr r) {c d : Nat} (e : LX.fo r c = some d) : 97 ≤ d ∧ d ≤ 122 := by
  obtain ⟨x, h1, h2, _⟩ := fo_mem e
  rw [← h2]
  exact h.col x h1
theorem Vr.app {r : Row} (h : Vr r) {p : Nat} (hp : p < r.length) : Vr (LX.app r p) where
  n1 := by rw [app_len h hp]; exact h.n1
  n2 := by rw [app_len h hp]; exact h.n2
  col := by
    intro e he
    rcases List.mem_cons.mp he with z | z
    · rw [z]
      show 97 ≤ (LX.fo r (LX.colOf r p)).getD (LX.colOf r p) ∧ (LX.fo r (LX.colOf r p)).getD (LX.colOf r p) ≤ 122
      cases q : LX.fo r (LX.colOf r p) with
      | none => exact h.colOf hp
      | some d => exact h.fo q
    · exact h.col e (List.mem_filter.mp z).1
  perm := by rw [app_len h hp]; exact (app_perm h hp).trans h.perm
/-- calls one after the other -/
def apps (r : Row) (cs : List Nat) : Row := cs.foldl app r
theorem apps_snoc (r : Row) (cs : List Nat) (p : Nat) : apps r (cs ++ [p]) = app (apps r cs) p := by
  unfold apps
  rw [List.foldl_append]
  rfl
theorem apps_len {r : Row} (h : Vr r) : ∀ (cs : List Nat), (∀ p ∈ cs, p < r.length) → Vr (apps r cs) ∧ (apps r cs).length = r.length := by
  intro cs
  induction cs generalizing r with
  | nil => intro _; exact ⟨h, rfl⟩
  | cons p cs ih =>
    intro hc
    have hp := hc p List.mem_cons_self
    have := ih (h.app hp) fun q hq => by
      rw [app_len h hp]
      exact hc q (List.mem_cons_of_mem _ hq)
    exact ⟨this.1, this.2.trans (app_len h hp)⟩
theorem oV_none {o : Option Nat} : decide (oV o = V.non) = o.isNone := by
  cases o with
  | none => rfl
  | some c => rfl
theorem sz60' {n : Nat} (h : n ≤ 100) : n ≤ sizeLine := Nat.le_trans h (by decide)
/-! ### the script and its cells -/
theorem cut_ints (ns : List Int) (lo hi : Option Int) : ∃ ms : List Int, cutV (ns.map V.int) lo hi = ms.map V.int ∧ ms.length ≤ ns.length := by
  unfold cutV
  rw [← List.map_drop, ← List.map_take]
  refine ⟨_, rfl, ?_⟩
  rw [List.length_take, List.length_drop]
  omega
theorem eqv_nil (ns : List Int) : PyData.eqv (dI ns) (dI []) = decide (ns = []) := by
  cases ns with
  | nil => rfl
  | cons n ns => simp [PyData.eqv, PyData.eqvAll]
theorem rd_cut {t u : TS} {D : Ends} {σ : St} {H : Hp} (M : St → Hp → Prop) (h : t { D with nx := M } σ H) (k : ∀ σ' H', M σ' H' → u D σ' H') : Evl.tCut t u D σ H := ⟨M, h, k⟩
theorem rd_bool {H : Hp} {b : Bool} {R : Int → Prop} {Q : VK} (q : Q (.int (if b then 1 else 0)) H) : (∃ i, [V.bl b] = [V.int i] ∧ Q (.int i) H) ∨ ∃ k, [V.bl b] = [V.bl k] ∧ Q (.int (if k then 1 else 0)) H := Or.inr ⟨b, rfl, q⟩
theorem Same'.of {p : Addr} {H H' : Hp} (h : ∀ b, b ≠ p → H' b = H b) : Same' p H H' := fun b o e n => by rw [h b n]; exact e
theorem Same'.free {p q : Addr} {H H' : Hp} (s : Same' p H H') (h : H' q = none) (n : q ≠ p) : H q = none := by
  cases e : H q with
  | none => rfl
  | some o =>
    rw [s q o e n] at h
    cases h
theorem Src.not_none {H : Hp} {p q : Addr} (h : Src H p) (hq : H q = none) : q ≠ p := fun e => by
  obtain ⟨xs, h1⟩ := h.lst
  rw [e, h1] at hq
  cases hq
/-- the script: locked, or an object of the module -/
def Scr (K : PySem.W.Frag) (H : Hp) (l : Addr) (ns : List Int) : Prop := (∃ o, H l = some (.frz o (.lst (ns.map V.int)))) ∨ ∀ H', SqL K H' l (ns.map V.int)
theorem Scr.of {K : PySem.W.Frag} {H : Hp} {l : Addr} {ns : List Int} (hO : Only H) (h : SqL K H l (ns.map V.int)) : Scr K H l ns := by
  rcases h with (h | ⟨o, h⟩) | h
  · rcases hO l with z | ⟨o, xs, z⟩
    · rw [h] at z
      cases z
    · rw [h] at z
      cases z
  · exact Or.inl ⟨o, h⟩
  · exact Or.inr fun H' => Or.inr h
theorem Scr.seq {K : PySem.W.Frag} {H : Hp} {l : Addr} {ns : List Int} (h : Scr K H l ns) : SqL K H l (ns.map V.int) := by
  rcases h with ⟨o, h⟩ | h
  · exact Or.inl (Or.inr ⟨o, h⟩)
  · exact h H
theorem Scr.same {K : PySem.W.Frag} {H H' : Hp} {l : Addr} {ns : List Int} (h : Scr K H l ns) (s : Same H H') : Scr K H' l ns := by
  rcases h with ⟨o, h⟩ | h
  · exact Or.inl ⟨o, s _ _ h⟩
  · exact Or.inr h
theorem Scr.same' {K : PySem.W.Frag} {H H' : Hp} {l p : Addr} {ns : List Int} (h : Scr K H l ns) (s : Same' p H H') (hp : ∃ xs, H p = some (.lst xs)) : Scr K H' l ns := by
  rcases h with ⟨o, h⟩ | h
  · refine Or.inl ⟨o, s _ _ h fun e => ?_⟩
    obtain ⟨xs, hx⟩ := hp
    rw [e, hx] at h
    cases h
  · exact Or.inr h
theorem seqIx {n j : Nat} (h : j < n) : PySem.seqIndex? (j : Int) n = some j := by
  show (if (decide (0 ≤ if (j : Int) < 0 then (j : Int) + n else j) && decide ((if (j : Int) < 0 then (j : Int) + n else j) < (n : Int))) = true then some (if (j : Int) < 0 then (j : Int) + n else j).toNat else none) = some j
  have e : (if (j : Int) < 0 then (j : Int) + n else (j : Int)) = (j : Int) := if_neg (by omega)
  rw [e, if_pos (by rw [decide_eq_true (show (0 : Int) ≤ j by omega), decide_eq_true (show (j : Int) < n by omega)]; rfl)]
  simp
theorem erase_map {α β : Type} (f : α → β) : ∀ (l : List α) (j : Nat), (l.map f).eraseIdx j = (l.eraseIdx j).map f
  | [], _ => rfl
  | x :: l, 0 => rfl
  | x :: l, j + 1 => by
    show f x :: (l.map f).eraseIdx j = f x :: (l.eraseIdx j).map f
    rw [erase_map f l j]
theorem erase_perm {α : Type} : ∀ {l : List α} {j : Nat} {x : α}, l[j]? = some x → (x :: l.eraseIdx j).Perm l
  | [], j, x, h => by simp at h
  | y :: l, 0, x, h => by
    have e : y = x := Option.some.inj h
    rw [e]
    exact List.Perm.refl _
  | y :: l, j + 1, x, h => by
    have ih := erase_perm (l := l) (j := j) (x := x) (by simpa using h)
    exact (List.Perm.swap _ _ _).trans (ih.cons _)
theorem abc_at : ∀ m : Nat, m < 26 → atI (Str.ofString "abcdefghijklmnopqrstuvwxyz").cps.toList (m : Int) = some (97 + m) := by
  decide +kernel
theorem abc_len : (Str.ofString "abcdefghijklmnopqrstuvwxyz").length ≤ sizeLine := by
  have e : (Str.ofString "abcdefghijklmnopqrstuvwxyz").length = 26 := by decide +kernel
  rw [e]
  decide
theorem Same'.tups {p : Addr} {H H' : Hp} (s : Same' p H H') {xs : List V} (hp : H p = some (.lst xs)) : ∀ b ys, H b = some (.tup ys) → H' b = some (.tup ys) := fun b ys e => s b _ e fun q => by
  rw [q, hp] at e
  cases e
/-- a row that is being drawn -/
structure Drw (H : Hp) (D q p : Addr) (n i : Nat) (H0 : Hp) : Prop where
  ex : ∃ (us : List Addr) (rr : Row) (ls : List Nat), H D = some (.lst (us.map V.ref)) ∧ H q = some (.lst (ls.map vN)) ∧ TupsAt H us rr ∧ rr.length = i ∧ (rr.map (·.1) ++ ls).Perm (List.range n) ∧ Cok rr
  src : Src H p
  same : Same' p H0 H
theorem drw_end {H H0 : Hp} {D q p : Addr} {n : Nat} (h : Drw H D q p n n H0) (n1 : 1 ≤ n) (n2 : n ≤ 60) : ∃ r, RowAt H D r ∧ Vr r := by
  obtain ⟨us, rr, ls, h1, h2, h3, h4, h5, h6⟩ := h.ex
  have e := h5.length_eq
  rw [List.length_append, List.length_map, List.length_range] at e
  have : ls = [] := List.length_eq_zero_iff.mp (by omega)
  rw [this, List.append_nil] at h5
  exact ⟨rr, ⟨us, h1, h3⟩, ⟨by omega, by omega, h6, by rw [h4]; exact h5⟩⟩
theorem pick4 (a b c d : Int) {j : Int} (h0 : 0 ≤ j) (h1 : j < 4) : ∃ x : Int, atI [V.int a, V.int b, V.int c, V.int d] j = some (.int x) ∧ (x = a ∨ x = b ∨ x = c ∨ x = d) := by
  have : j = 0 ∨ j = 1 ∨ j = 2 ∨ j = 3 := by omega
  rcases this with e | e | e | e
  · subst e
    exact ⟨a, rfl, Or.inl rfl⟩
  · subst e
    exact ⟨b, rfl, Or.inr (Or.inl rfl)⟩
  · subst e
    exact ⟨c, rfl, Or.inr (Or.inr (Or.inl rfl))⟩
  · subst e
    exact ⟨d, rfl, Or.inr (Or.inr (Or.inr rfl))⟩
theorem rgV_nat {z : Int} (h : 0 ≤ z) : rgV 0 z = (List.range z.toNat).map vN := by
  have e : z = (z.toNat : Int) := by omega
  rw [e, rgV_is, List.map_map]
  rfl
theorem rd_ifV {σ : St} {H : Hp} {Q : VK} {v : V} {t : TT} {ta tb : TE} (b : Bool) (ht : ∀ R : Bool → Hp → Prop, R b H → t σ H R) (ha : b = true → ∀ R : VK, R v H → ta σ H R) (hb : b = false → ∀ R : VK, R v H → tb σ H R) (q : Q v H) : tIf t ta tb σ H Q := by
  refine ht _ ?_
  cases b with
  | true => exact ha rfl _ q
  | false => exact hb rfl _ q
theorem scal_oV (x y : Option Nat) : scal (oV x) (oV y) = true := by
  cases x <;> cases y <;> rfl
theorem oV_inj {x y : Option Nat} (h : oV x = oV y) : x = y := by
  cases x with
  | none =>
    cases y with
    | none => rfl
    | some b => cases h
  | some a =>
    cases y with
    | none => cases h
    | some b =>
      injection h with h
      injection h with h
      injection h with h
      injection h with h
      rw [h]
theorem sg_inj {x y : Nat} (h : sg x = sg y) : x = y := by
  have := oV_inj (x := some x) (y := some y) h
  exact Option.some.inj this
theorem sIx_nat (n d : Nat) (k : Nat) (h : k ≤ n) : HT.sIx n d (some (k : Int)) = k := by
  rw [HT.sIx_nat]
  omega
theorem cut_take (xs : List V) (k : Nat) (h : k ≤ xs.length) : cutV xs none (some (k : Int)) = xs.take k := by
  unfold cutV
  rw [sIx_nat _ _ _ h]
  have e : HT.sIx xs.length 0 none = 0 := rfl
  rw [e]
  rfl
theorem cut_drop (xs : List V) (k : Nat) (h : k ≤ xs.length) : cutV xs (some (k : Int)) none = xs.drop k := by
  unfold cutV
  rw [sIx_nat _ _ _ h]
  have e : HT.sIx xs.length xs.length none = xs.length := rfl
  rw [e]
  apply List.take_of_length_le
  rw [List.length_drop]
  omega
theorem at_last {α : Type} {l : List α} (h : 0 < l.length) : ∃ x ∈ l, atI l (-1) = some x := by
  have h2 : l.length - 1 < l.length := by omega
  refine ⟨l[l.length - 1], List.getElem_mem h2, ?_⟩
  unfold atI ixN
  rw [if_neg (by omega), if_pos (by omega)]
  show l[((-1 : Int) + l.length).toNat]? = _
  rw [show ((-1 : Int) + l.length).toNat = l.length - 1 by omega]
  exact List.getElem?_eq_getElem h2
theorem pick3 (a b c : Nat) {j : Int} (h0 : 0 ≤ j) (h1 : j < 3) : ∃ x : Nat, atI [sg a, sg b, sg c] j = some (sg x) ∧ (x = a ∨ x = b ∨ x = c) := by
  have : j = 0 ∨ j = 1 ∨ j = 2 := by omega
  rcases this with e | e | e
  · subst e
    exact ⟨a, rfl, Or.inl rfl⟩
  · subst e
    exact ⟨b, rfl, Or.inr (Or.inl rfl)⟩
  · subst e
    exact ⟨c, rfl, Or.inr (Or.inr rfl)⟩
theorem rd_forL {K : PySem.W.Frag} {σ : St} {H : Hp} {tl : TE} {g : TG} {tb : TS} {D : Ends} (M : Addr → Hp → Prop) (h1 : ∀ R : VK, (∀ b H1, M b H1 → R (.ref b) H1) → tl σ H R)
    (h2 : ∀ b H1, M b H1 → (∃ xs, SqL K H1 b xs) ∧ ∃ W : Nat → Nat → St → Hp → Prop, (∃ m, W 0 m σ H1) ∧ ∀ i m σ H, W i m σ H →
      ((Itl K b).stop i H ∧ D.nx σ H) ∨ ((Itl K b).go i H ∧ ∃ N : St → Hp → Prop, (∀ σ' H', N σ' H' → ∃ m', m' < m ∧ W (i + 1) m' σ' H') ∧ ∀ x H', (Itl K b).yld i H x H' → g x σ H' fun σ2 H2 => tb { D with nx := N, ct := N, bk := D.nx } σ2 H2)) :
    tFor (iList K tl) g tb D σ H := h1 _ fun b H1 m => ⟨b, rfl, (h2 b H1 m).1, (h2 b H1 m).2⟩
theorem cut_tail (xs : List V) : cutV xs (some 1) none = xs.drop 1 := by
  by_cases h : 1 ≤ xs.length
  · exact cut_drop xs 1 h
  · have e : xs = [] := List.length_eq_zero_iff.mp (by omega)
    rw [e]
    rfl
theorem rd_in {neg : Bool} {K : PySem.W.Frag} {H : Hp} {Q : VK} {x : V} {p : Addr} {xs : List V} {b : Bool} (h : H p = some (.lst xs)) (f : flatV x = true) (fs : xs.all flatV = true) (hb : inV x xs = b) (q : Q (.bl (if neg then !b else b)) H) : rIn K neg x (.ref p) H Q :=
  ⟨p, xs, rfl, Or.inl (SqL.of h), f, fs, by rw [hb]; exact q⟩
theorem rd_notin {K : PySem.W.Frag} {H : Hp} {Q : VK} {x : V} {p : Addr} {xs : List V} {b : Bool} (h : H p = some (.lst xs)) (f : flatV x = true) (fs : xs.all flatV = true) (hb : inV x xs = b) (q : Q (.bl (!b)) H) : rIn K true x (.ref p) H Q :=
  rd_in h f fs hb q
theorem rd_isin {K : PySem.W.Frag} {H : Hp} {Q : VK} {x : V} {p : Addr} {xs : List V} {b : Bool} (h : H p = some (.lst xs)) (f : flatV x = true) (fs : xs.all flatV = true) (hb : inV x xs = b) (q : Q (.bl b) H) : rIn K false x (.ref p) H Q :=
  rd_in h f fs hb q
theorem rd_forR {σ : St} {H : Hp} {ta : TA} {n : Int} {g : TG} {tb : TS} {D : Ends} (M : Hp → Prop) (h1 : ∀ R : List V → Hp → Prop, (∀ H1, M H1 → R [.int n] H1) → ta σ H R) (n0 : 0 ≤ n) (n1 : n ≤ 100000)
    (h2 : ∀ H1, M H1 → ∃ W : Nat → Nat → St → Hp → Prop, (∃ m, W 0 m σ H1) ∧ ∀ i m σ H, W i m σ H →
      ((Itr 0 n.toNat).stop i H ∧ D.nx σ H) ∨ ((Itr 0 n.toNat).go i H ∧ ∃ N : St → Hp → Prop, (∀ σ' H', N σ' H' → ∃ m', m' < m ∧ W (i + 1) m' σ' H') ∧ ∀ x H', (Itr 0 n.toNat).yld i H x H' → g x σ H' fun σ2 H2 => tb { D with nx := N, ct := N, bk := D.nx } σ2 H2)) :
    tFor (iRng1 ta) g tb D σ H := h1 _ fun H1 m => ⟨n, rfl, by omega, by omega, h2 H1 m⟩
theorem rd_forRn {σ : St} {H : Hp} {ta : TA} {g : TG} {tb : TS} {D : Ends} (M : Int → Hp → Prop) (h1 : ∀ R : List V → Hp → Prop, (∀ n H1, M n H1 → R [.int n] H1) → ta σ H R)
    (h2 : ∀ n H1, M n H1 → 0 ≤ n ∧ n ≤ 100000 ∧ ∃ W : Nat → Nat → St → Hp → Prop, (∃ m, W 0 m σ H1) ∧ ∀ i m σ H, W i m σ H →
      ((Itr 0 n.toNat).stop i H ∧ D.nx σ H) ∨ ((Itr 0 n.toNat).go i H ∧ ∃ N : St → Hp → Prop, (∀ σ' H', N σ' H' → ∃ m', m' < m ∧ W (i + 1) m' σ' H') ∧ ∀ x H', (Itr 0 n.toNat).yld i H x H' → g x σ H' fun σ2 H2 => tb { D with nx := N, ct := N, bk := D.nx } σ2 H2)) :
    tFor (iRng1 ta) g tb D σ H := h1 _ fun n H1 m => ⟨n, rfl, by have := (h2 n H1 m).1; omega, by have := (h2 n H1 m).2.1; omega, (h2 n H1 m).2.2⟩
/-! ### what calls take, runs -/
def takens : Row → List Nat → List (Option Nat)
  | _, [] => []
  | r, p :: cs => fo r (colOf r p) :: takens (app r p) cs
theorem takens_snoc : ∀ (r : Row) (cs : List Nat) (p : Nat), takens r (cs ++ [p]) = takens r cs ++ [fo (apps r cs) (colOf (apps r cs) p)]
  | _, [], _ => rfl
  | r, q :: cs, p => by
    show fo r (colOf r q) :: takens (app r q) (cs ++ [p]) = fo r (colOf r q) :: (takens (app r q) cs ++ [_])
    rw [takens_snoc (app r q) cs p]
    rfl
theorem takens_len : ∀ (r : Row) (cs : List Nat), (takens r cs).length = cs.length
  | _, [] => rfl
  | r, p :: cs => congrArg (· + 1) (takens_len (app r p) cs)
/-- the last run grows, or a new one begins -/
def rsnoc (acc : List (Int × Nat)) (x : Int) : List (Int × Nat) :=
  match acc.getLast? with
  | some (y, k) => if y = x then acc.set (acc.length - 1) (x, k + 1) else acc ++ [(x, 1)]
  | none => acc ++ [(x, 1)]
def runsI (cs : List Int) : List (Int × Nat) := cs.foldl rsnoc []
theorem runsI_snoc (cs : List Int) (x : Int) : runsI (cs ++ [x]) = rsnoc (runsI cs) x := by
  unfold runsI
  rw [List.foldl_append]
  rfl
theorem rsnoc_len (acc : List (Int × Nat)) (x : Int) : (rsnoc acc x).length ≤ acc.length + 1 := by
  unfold rsnoc
  split
  · split
    · rw [List.length_set]
      omega
    · rw [List.length_append]
      simp
  · rw [List.length_append]
    simp
theorem runs_fold_len : ∀ (cs : List Int) (acc : List (Int × Nat)), (cs.foldl rsnoc acc).length ≤ acc.length + cs.length
  | [], acc => Nat.le_refl _
  | x :: cs, acc => by
    have h1 := runs_fold_len cs (rsnoc acc x)
    have h2 := rsnoc_len acc x
    show (cs.foldl rsnoc (rsnoc acc x)).length ≤ acc.length + (cs.length + 1)
    omega
theorem runsI_len (cs : List Int) : (runsI cs).length ≤ cs.length := by
  have := runs_fold_len cs []
  have e : ([] : List (Int × Nat)).length = 0 := rfl
  rw [e] at this
  unfold runsI
  omega
def shortR (rs : List (Int × Nat)) : List Int := rs.flatMap fun e => List.replicate (if e.2 % 2 = 1 then 1 else 2) e.1
def short (cs : List Int) : List Int := shortR (runsI cs)
theorem shortR_snoc (rs : List (Int × Nat)) (e : Int × Nat) : shortR (rs ++ [e]) = shortR rs ++ List.replicate (if e.2 % 2 = 1 then 1 else 2) e.1 := by
  unfold shortR
  rw [List.flatMap_append, List.flatMap_cons, List.flatMap_nil, List.append_nil]
theorem shortR_len (rs : List (Int × Nat)) : (shortR rs).length ≤ 2 * rs.length := by
  induction rs with
  | nil => exact Nat.le_refl _
  | cons e rs ih =>
    unfold shortR at ih ⊢
    rw [List.flatMap_cons, List.length_append, List.length_replicate, List.length_cons]
    split <;> omega
abbrev prI (e : Int × Nat) : List V := [.int e.1, .int (e.2 : Int)]
/-- tuples of two ints -/
def PairsAt (H : Hp) : List Addr → List (Int × Nat) → Prop
  | [], [] => True
  | t :: ts, e :: r => H t = some (.tup (prI e)) ∧ PairsAt H ts r
  | _, _ => False
theorem PairsAt.len {H : Hp} : ∀ {ts : List Addr} {r : List (Int × Nat)}, PairsAt H ts r → ts.length = r.length
  | [], [], _ => rfl
  | _ :: ts, _ :: r, h => congrArg (· + 1) (PairsAt.len (ts := ts) (r := r) h.2)
  | [], _ :: _, h => h.elim
  | _ :: _, [], h => h.elim
theorem PairsAt.mono {H H' : Hp} : ∀ {ts : List Addr} {r : List (Int × Nat)}, PairsAt H ts r → (∀ b xs, H b = some (.tup xs) → H' b = some (.tup xs)) → PairsAt H' ts r
  | [], [], _, _ => True.intro
  | _ :: ts, _ :: r, h, k => ⟨k _ _ h.1, PairsAt.mono (ts := ts) (r := r) h.2 k⟩
  | [], _ :: _, h, _ => h.elim
  | _ :: _, [], h, _ => h.elim
theorem PairsAt.get {H : Hp} : ∀ {ts : List Addr} {r : List (Int × Nat)} {i : Nat} {t : Addr}, PairsAt H ts r → ts[i]? = some t → ∃ e, r[i]? = some e ∧ H t = some (.tup (prI e))
  | [], [], i, t, _, h => by simp at h
  | _ :: ts, e :: r, 0, t, h, q => by
    simp at q
    subst q
    exact ⟨e, rfl, h.1⟩
  | _ :: ts, _ :: r, i + 1, t, h, q => by
    simp at q
    obtain ⟨e, h1, h2⟩ := PairsAt.get (ts := ts) (r := r) h.2 q
    exact ⟨e, by simpa using h1, h2⟩
  | [], _ :: _, _, _, h, _ => h.elim
  | _ :: _, [], _, _, h, _ => h.elim
theorem PairsAt.snoc {H : Hp} {t : Addr} {e : Int × Nat} (ht : H t = some (.tup (prI e))) : ∀ {ts : List Addr} {r : List (Int × Nat)}, PairsAt H ts r → PairsAt H (ts ++ [t]) (r ++ [e])
  | [], [], _ => ⟨ht, True.intro⟩
  | _ :: ts, _ :: r, h => ⟨h.1, PairsAt.snoc ht (ts := ts) (r := r) h.2⟩
  | [], _ :: _, h => h.elim
  | _ :: _, [], h => h.elim
theorem PairsAt.set {H : Hp} {t : Addr} {e : Int × Nat} (ht : H t = some (.tup (prI e))) : ∀ {ts : List Addr} {r : List (Int × Nat)} (j : Nat), PairsAt H ts r → PairsAt H (ts.set j t) (r.set j e)
  | [], [], _, _ => True.intro
  | _ :: ts, _ :: r, 0, h => ⟨ht, h.2⟩
  | _ :: ts, _ :: r, j + 1, h => ⟨h.1, PairsAt.set ht (ts := ts) (r := r) j h.2⟩
  | [], _ :: _, _, h => h.elim
  | _ :: _, [], _, h => h.elim
theorem PairsAt.last {H : Hp} {ts : List Addr} {r : List (Int × Nat)} (h : PairsAt H ts r) {e : Int × Nat} (he : r.getLast? = some e) : ∃ t, ts[ts.length - 1]? = some t ∧ H t = some (.tup (prI e)) := by
  have hl := h.len
  rw [List.getLast?_eq_getElem?] at he
  have h1 : r.length - 1 < r.length := (List.getElem?_eq_some_iff.mp he).1
  have h2 : ts.length - 1 < ts.length := by omega
  have h3 := List.getElem?_eq_getElem h2
  obtain ⟨e', h4, h5⟩ := h.get h3
  rw [show ts.length - 1 = r.length - 1 by omega, he] at h4
  cases h4
  exact ⟨_, h3, h5⟩
theorem at_neg1 {α : Type} {l : List α} {x : α} (h : l[l.length - 1]? = some x) : atI l (-1) = some x := by
  have h1 := (List.getElem?_eq_some_iff.mp h).1
  unfold atI ixN
  rw [if_neg (by omega), if_pos (by omega)]
  show l[((-1 : Int) + l.length).toNat]? = _
  rw [show ((-1 : Int) + l.length).toNat = l.length - 1 by omega]
  exact h
theorem ix_neg1 {n : Nat} (h : 0 < n) : ixN n (-1) = some (n - 1) := by
  unfold ixN
  rw [if_neg (by omega), if_pos (by omega)]
  congr 1
  omega
theorem rd_truL {K : PySem.W.Frag} {H : Hp} {p : Addr} {xs : List V} {R : Bool → Prop} (h : H p = some (.lst xs)) (q : R (!xs.isEmpty)) : ∃ k, TruV K (.ref p) H k ∧ R k := ⟨_, Or.inl ⟨xs, SqL.of h, rfl⟩, q⟩
theorem rd_qtru {K : PySem.W.Frag} {σ : St} {H : Hp} {ta : TE} {Q : Bool → Hp → Prop} (q : ta σ H fun x H' => ∃ k, TruV K x H' k ∧ Q k H') : qTru K ta σ H Q := q
theorem sz1000 {n : Nat} (h : n ≤ 100000) : n < sizeLine := Nat.lt_of_le_of_lt h (by decide)
/-- a row that is filtered, its entries as they stand -/
theorem filt_turn {H : Hp} {us : List Addr} {r : Row} {i : Nat} {p : Nat × Nat → Bool} {t : Addr} {e : Nat × Nat} (h : TupsAt H us ((r.take i).filter p)) (he : r[i]? = some e) (ht : H t = some (.tup (pr e))) :
    TupsAt H (if p e = true then us ++ [t] else us) ((r.take (i + 1)).filter p) := by
  rw [take_of he, List.filter_append]
  by_cases c : p e = true
  · rw [if_pos c, List.filter_cons_of_pos c]
    exact h.app (TupsAt.one ht)
  · rw [if_neg c, List.filter_cons_of_neg c]
    show TupsAt H us (_ ++ [])
    rw [List.append_nil]
    exact h
/-- what happens to the runs, by the last one -/
theorem rsnoc_grow {acc : List (Int × Nat)} {x : Int} {k : Nat} (h : acc.getLast? = some (x, k)) : rsnoc acc x = acc.set (acc.length - 1) (x, k + 1) := by
  unfold rsnoc
  rw [h]
  show (if x = x then _ else _) = _
  rw [if_pos rfl]
theorem rsnoc_new {acc : List (Int × Nat)} {x y : Int} {k : Nat} (h : acc.getLast? = some (y, k)) (n : y ≠ x) : rsnoc acc x = acc ++ [(x, 1)] := by
  unfold rsnoc
  rw [h]
  show (if y = x then _ else _) = _
  rw [if_neg n]
theorem rsnoc_nil (x : Int) : rsnoc [] x = [(x, 1)] := rfl
theorem last_of_ne {acc : List (Int × Nat)} (h : acc ≠ []) : ∃ e, acc.getLast? = some e := ⟨_, List.getLast?_eq_some_getLast h⟩
theorem rd_iteJ {b : Bool} {σ : St} {H : Hp} {ta tb : TE} {Q : VK} (v : V) (h1 : b = true → ∀ R : VK, R v H → ta σ H R) (h2 : b = false → ∀ R : VK, R v H → tb σ H R) (q : Q v H) : if b = true then ta σ H Q else tb σ H Q := by
  cases b with
  | true => exact iteT (h1 rfl _ q)
  | false => exact iteF (h2 rfl _ q)
end LX

/-! ### comprehensions that add only new objects: the list they make -/
namespace LX
open PySem L2
theorem range_fm {α β : Type} (f : α → Option β) : ∀ l : List α, (List.range l.length).filterMap (fun i => (l[i]?).bind f) = l.filterMap f
  | [] => rfl
  | x :: l => by
    rw [List.length_cons, List.range_succ_eq_map, List.filterMap_cons, List.filterMap_map]
    have ih := range_fm f l
    show (match f x with | none => _ | some b => b :: _) = _
    have e : ((fun i => ((x :: l)[i]?).bind f) ∘ Nat.succ) = fun i => (l[i]?).bind f := rfl
    rw [e, ih]
    cases q : f x with
    | none => rw [List.filterMap_cons_none q]
    | some y => rw [List.filterMap_cons_some q]
section
variable {K : PySem.W.Frag} {a D : Addr} {xs : List V} {g : TG} {tt : TT} {te : TE} {vs : List Nat} {σ : L2.St} {H1 : Hp} {Qd : Hp → Prop}
theorem lc_ix (f : Nat → Option V) (hD : H1 D = none) (ha : ∀ H, Same H1 H → SqL K H a xs) (hz : xs.length ≤ 1000)
    (hs : ∀ i x, xs[i]? = some x → ∀ H, Same H1 H → ∀ (T : V → Hp → Prop) (F : Hp → Prop), (∀ y H', f i = some y → Same H H' → T y H') → (∀ H', f i = none → Same H H' → F H') →
      g x (wipe σ vs) H fun σ2 H2 => wipe σ2 vs = wipe σ vs ∧ tt σ2 H2 fun b H3 => if b = true then te σ2 H3 T else F H3)
    (hd : ∀ H', Same H1 H' → H' D = some (.lst ((List.range xs.length).filterMap f)) → Qd H') :
    ∃ W : Nat → Nat → Hp → Prop, (∃ m, W 0 m (upd H1 D (.lst []))) ∧ ∀ i m H, W i m H →
      ((Itl K a).stop i H ∧ Qd H) ∨ ((Itl K a).go i H ∧ ∃ Nx : Hp → Prop, (∀ H', Nx H' → ∃ m', m' < m ∧ W (i + 1) m' H') ∧ ∀ x H', (Itl K a).yld i H x H' → g x (wipe σ vs) H' fun σ2 H2 => wipe σ2 vs = wipe σ vs ∧ tt σ2 H2 fun b H3 =>
        if b = true then te σ2 H3 fun y H4 => ∃ acc, H4 D = some (.lst acc) ∧ acc.length < sizeLine ∧ Nx (upd H4 D (.lst (acc ++ [y]))) else Nx H3) := by
  refine lc_list (K := K) (a := a) (xs := xs) (fun i H => Same H1 H ∧ H D = some (.lst ((List.range i).filterMap f)) ∧ i ≤ 1000) ⟨sNew hD, upd_same, Nat.zero_le _⟩ (fun i H _ h => ha H h.1) ?_ ?_
  · rintro i x H hi ⟨s, e, hi2⟩
    have hil : i < xs.length := (List.getElem?_eq_some_iff.mp hi).1
    have ln : ((List.range i).filterMap f).length ≤ i := by
      have := List.length_filterMap_le f (List.range i)
      rw [List.length_range] at this
      exact this
    refine hs i x hi H s _ _ (fun y H' hy s2 => ⟨_, s2 _ _ e, small1000 (Nat.le_trans ln hi2), sUpd (s.trans s2) hD, ?_, by omega⟩) fun H' hn s2 => ⟨s.trans s2, ?_, by omega⟩
    · rw [upd_same, List.range_succ, List.filterMap_append, List.filterMap_cons_some hy]
      rfl
    · rw [s2 _ _ e, List.range_succ, List.filterMap_append, List.filterMap_cons_none hn]
      show _ = some (HO.lst (_ ++ []))
      rw [List.append_nil]
  · rintro H ⟨s, e, _⟩
    exact hd H s e
theorem lc_rng {n : Nat} (f : Nat → Option V) (hD : H1 D = none) (hz : n ≤ 1000)
    (hs : ∀ i, i < n → ∀ H, Same H1 H → ∀ (T : V → Hp → Prop) (F : Hp → Prop), (∀ y H', f i = some y → Same H H' → T y H') → (∀ H', f i = none → Same H H' → F H') →
      g (.int (i : Int)) (wipe σ vs) H fun σ2 H2 => wipe σ2 vs = wipe σ vs ∧ tt σ2 H2 fun b H3 => if b = true then te σ2 H3 T else F H3)
    (hd : ∀ H', Same H1 H' → H' D = some (.lst ((List.range n).filterMap f)) → Qd H') :
    ∃ W : Nat → Nat → Hp → Prop, (∃ m, W 0 m (upd H1 D (.lst []))) ∧ ∀ i m H, W i m H →
      ((Itr 0 n).stop i H ∧ Qd H) ∨ ((Itr 0 n).go i H ∧ ∃ Nx : Hp → Prop, (∀ H', Nx H' → ∃ m', m' < m ∧ W (i + 1) m' H') ∧ ∀ x H', (Itr 0 n).yld i H x H' → g x (wipe σ vs) H' fun σ2 H2 => wipe σ2 vs = wipe σ vs ∧ tt σ2 H2 fun b H3 =>
        if b = true then te σ2 H3 fun y H4 => ∃ acc, H4 D = some (.lst acc) ∧ acc.length < sizeLine ∧ Nx (upd H4 D (.lst (acc ++ [y]))) else Nx H3) := by
  refine lc_range (lo := 0) (n := n) (fun i H => Same H1 H ∧ H D = some (.lst ((List.range i).filterMap f)) ∧ i ≤ 1000) ⟨sNew hD, upd_same, Nat.zero_le _⟩ ?_ ?_
  · rintro i H hi ⟨s, e, hi2⟩
    have ln : ((List.range i).filterMap f).length ≤ i := by
      have := List.length_filterMap_le f (List.range i)
      rw [List.length_range] at this
      exact this
    rw [Int.zero_add]
    refine hs i hi H s _ _ (fun y H' hy s2 => ⟨_, s2 _ _ e, small1000 (Nat.le_trans ln hi2), sUpd (s.trans s2) hD, ?_, by omega⟩) fun H' hn s2 => ⟨s.trans s2, ?_, by omega⟩
    · rw [upd_same, List.range_succ, List.filterMap_append, List.filterMap_cons_some hy]
      rfl
    · rw [s2 _ _ e, List.range_succ, List.filterMap_append, List.filterMap_cons_none hn]
      show _ = some (HO.lst (_ ++ []))
      rw [List.append_nil]
  · rintro H ⟨s, e, _⟩
    exact hd H s e
theorem rd_lc {wi : TI} {H : Hp} {Q : VK} (q : wi σ H fun J H1 => ∀ D, H1 D = none → ∃ W : Nat → Nat → Hp → Prop, (∃ m, W 0 m (upd H1 D (.lst []))) ∧ ∀ i m H, W i m H →
  (J.stop i H ∧ Q (.ref D) H) ∨ (J.go i H ∧ ∃ Nx : Hp → Prop, (∀ H', Nx H' → ∃ m', m' < m ∧ W (i + 1) m' H') ∧ ∀ x H', J.yld i H x H' → g x (wipe σ vs) H' fun σ2 H2 => wipe σ2 vs = wipe σ vs ∧ tt σ2 H2 fun b H3 =>
    if b = true then te σ2 H3 fun y H4 => ∃ acc, H4 D = some (.lst acc) ∧ acc.length < sizeLine ∧ Nx (upd H4 D (.lst (acc ++ [y]))) else Nx H3)) : tLc wi g tt te vs σ H Q := q
theorem rd_iR {ta : TA} {H : Hp} {R : It → Hp → Prop} (q : ta σ H fun vs H1 => ∃ j : Int, vs = [.int j] ∧ -(2 ^ 62) ≤ j ∧ j < 2 ^ 62 ∧ R (Itr 0 j.toNat) H1) : iRng1 ta σ H R := q
theorem rd_n {n : Nat} {R : It → Prop} (h : n ≤ 1000) (q : R (Itr 0 n)) : ∃ j : Int, [V.int (n : Int)] = [.int j] ∧ -(2 ^ 62) ≤ j ∧ j < 2 ^ 62 ∧ R (Itr 0 j.toNat) := ⟨n, rfl, by omega, by omega, q⟩
/-- over a list of plain values -/
theorem lc_vals {α : Type} {zs : List α} {v : α → V} (f : α → Option V) (hD : H1 D = none) (ha : H1 a = some (.lst (zs.map v))) (hz : zs.length ≤ 1000)
    (hs : ∀ x, x ∈ zs → ∀ H, Same H1 H → ∀ (T : V → Hp → Prop) (F : Hp → Prop), (∀ y H', f x = some y → Same H H' → T y H') → (∀ H', f x = none → Same H H' → F H') →
      g (v x) (wipe σ vs) H fun σ2 H2 => wipe σ2 vs = wipe σ vs ∧ tt σ2 H2 fun b H3 => if b = true then te σ2 H3 T else F H3)
    (hd : ∀ H', Same H1 H' → H' D = some (.lst (zs.filterMap f)) → Qd H') :
    ∃ W : Nat → Nat → Hp → Prop, (∃ m, W 0 m (upd H1 D (.lst []))) ∧ ∀ i m H, W i m H →
      ((Itl K a).stop i H ∧ Qd H) ∨ ((Itl K a).go i H ∧ ∃ Nx : Hp → Prop, (∀ H', Nx H' → ∃ m', m' < m ∧ W (i + 1) m' H') ∧ ∀ x H', (Itl K a).yld i H x H' → g x (wipe σ vs) H' fun σ2 H2 => wipe σ2 vs = wipe σ vs ∧ tt σ2 H2 fun b H3 =>
        if b = true then te σ2 H3 fun y H4 => ∃ acc, H4 D = some (.lst acc) ∧ acc.length < sizeLine ∧ Nx (upd H4 D (.lst (acc ++ [y]))) else Nx H3) := by
  refine lc_ix (xs := zs.map v) (fun i => (zs[i]?).bind f) hD (fun H s => SqL.of (s _ _ ha)) (by rw [List.length_map]; exact hz) (fun i x hi H s T F hT hF => ?_) fun H' s e => hd H' s ?_
  · rw [List.getElem?_map] at hi
    obtain ⟨z, h1, rfl⟩ := Option.map_eq_some_iff.mp hi
    refine hs z (List.mem_of_getElem? h1) H s T F (fun y H' hy => hT y H' ?_) fun H' hn => hF H' ?_
    · rw [h1]
      exact hy
    · rw [h1]
      exact hn
  · rw [List.length_map, range_fm] at e
    exact e
/-- over a row -/
theorem lc_row {ts : List Addr} {r : Row} (f : Nat × Nat → Option V) (hD : H1 D = none) (ha : H1 a = some (.lst (ts.map V.ref))) (ht : TupsAt H1 ts r) (hz : r.length ≤ 1000)
    (hs : ∀ t e, e ∈ r → t ∈ ts → ∀ H, Same H1 H → H t = some (.tup (pr e)) → ∀ (T : V → Hp → Prop) (F : Hp → Prop), (∀ y H', f e = some y → Same H H' → T y H') → (∀ H', f e = none → Same H H' → F H') →
      g (.ref t) (wipe σ vs) H fun σ2 H2 => wipe σ2 vs = wipe σ vs ∧ tt σ2 H2 fun b H3 => if b = true then te σ2 H3 T else F H3)
    (hd : ∀ H', Same H1 H' → H' D = some (.lst (r.filterMap f)) → Qd H') :
    ∃ W : Nat → Nat → Hp → Prop, (∃ m, W 0 m (upd H1 D (.lst []))) ∧ ∀ i m H, W i m H →
      ((Itl K a).stop i H ∧ Qd H) ∨ ((Itl K a).go i H ∧ ∃ Nx : Hp → Prop, (∀ H', Nx H' → ∃ m', m' < m ∧ W (i + 1) m' H') ∧ ∀ x H', (Itl K a).yld i H x H' → g x (wipe σ vs) H' fun σ2 H2 => wipe σ2 vs = wipe σ vs ∧ tt σ2 H2 fun b H3 =>
        if b = true then te σ2 H3 fun y H4 => ∃ acc, H4 D = some (.lst acc) ∧ acc.length < sizeLine ∧ Nx (upd H4 D (.lst (acc ++ [y]))) else Nx H3) := by
  have hl := ht.len
  refine lc_ix (xs := ts.map V.ref) (fun i => (r[i]?).bind f) hD (fun H s => SqL.of (s _ _ ha)) (by rw [List.length_map, hl]; exact hz) (fun i x hi H s T F hT hF => ?_) fun H' s e => hd H' s ?_
  · rw [List.getElem?_map] at hi
    obtain ⟨t, h1, rfl⟩ := Option.map_eq_some_iff.mp hi
    obtain ⟨e, h2, h3⟩ := ht.get h1
    refine hs t e (List.mem_of_getElem? h2) (List.mem_of_getElem? h1) H s (s _ _ h3) T F (fun y H' hy => hT y H' ?_) fun H' hn => hF H' ?_
    · rw [h2]
      exact hy
    · rw [h2]
      exact hn
  · rw [List.length_map, hl, range_fm] at e
    exact e
/-- over a row, the entries as they stand -/
theorem lc_rowF {ts : List Addr} {r : Row} (p : Nat × Nat → Bool) (hD : H1 D = none) (ha : H1 a = some (.lst (ts.map V.ref))) (ht : TupsAt H1 ts r) (hz : r.length ≤ 1000)
    (hs : ∀ t e, e ∈ r → ∀ H, Same H1 H → H t = some (.tup (pr e)) → ∀ (T : V → Hp → Prop) (F : Hp → Prop), (∀ H', p e = true → Same H H' → T (.ref t) H') → (∀ H', ¬ p e = true → Same H H' → F H') →
      g (.ref t) (wipe σ vs) H fun σ2 H2 => wipe σ2 vs = wipe σ vs ∧ tt σ2 H2 fun b H3 => if b = true then te σ2 H3 T else F H3)
    (hd : ∀ H' us, Same H1 H' → H' D = some (.lst (us.map V.ref)) → TupsAt H' us (r.filter p) → Qd H') :
    ∃ W : Nat → Nat → Hp → Prop, (∃ m, W 0 m (upd H1 D (.lst []))) ∧ ∀ i m H, W i m H →
      ((Itl K a).stop i H ∧ Qd H) ∨ ((Itl K a).go i H ∧ ∃ Nx : Hp → Prop, (∀ H', Nx H' → ∃ m', m' < m ∧ W (i + 1) m' H') ∧ ∀ x H', (Itl K a).yld i H x H' → g x (wipe σ vs) H' fun σ2 H2 => wipe σ2 vs = wipe σ vs ∧ tt σ2 H2 fun b H3 =>
        if b = true then te σ2 H3 fun y H4 => ∃ acc, H4 D = some (.lst acc) ∧ acc.length < sizeLine ∧ Nx (upd H4 D (.lst (acc ++ [y]))) else Nx H3) := by
  have hl := ht.len
  refine lc_list (K := K) (a := a) (xs := ts.map V.ref) (fun i H => Same H1 H ∧ ∃ us, H D = some (.lst (us.map V.ref)) ∧ TupsAt H us ((r.take i).filter p)) ⟨sNew hD, [], upd_same, True.intro⟩ (fun i H _ h => SqL.of (h.1 _ _ ha)) ?_ ?_
  · rintro i x H hi ⟨s, us, e, hU⟩
    rw [List.getElem?_map] at hi
    obtain ⟨t, h1, rfl⟩ := Option.map_eq_some_iff.mp hi
    obtain ⟨en, h2, h3⟩ := ht.get h1
    have hz2 := hU.len
    have ln : us.length ≤ 1000 := by
      have q := List.length_filter_le p (r.take i)
      rw [List.length_take] at q
      omega
    refine hs t en (List.mem_of_getElem? h2) H s (s _ _ h3) _ _ (fun H' c s2 => ⟨_, s2 _ _ e, small1000 (by rw [List.length_map]; exact ln), sUpd (s.trans s2) hD, us ++ [t], ?_, ?_⟩) fun H' c s2 => ⟨s.trans s2, us, s2 _ _ e, ?_⟩
    · rw [upd_same, List.map_append]
      rfl
    · have q := filt_turn hU h2 (s _ _ h3)
      rw [if_pos c] at q
      refine q.mono fun b ys eb => ?_
      have nb : b ≠ D := fun z => by
        rw [z, e] at eb
        cases eb
      rw [upd_ne nb]
      exact s2 _ _ eb
    · have q := filt_turn hU h2 (s _ _ h3)
      rw [if_neg c] at q
      exact q.mono (sTups s2)
  · rintro H ⟨s, us, e, hU⟩
    rw [List.length_map, hl, List.take_length] at hU
    exact hd H us s e hU
end
/-! ### the colors of the others -/
def ot (r : Row) (w : Nat) : List Nat := (r.filter fun e => e.1 != w).map (·.2)
theorem fm_if {α : Type} {p : α → Bool} {v : α → V} : ∀ l : List α, l.filterMap (fun e => if p e = true then some (v e) else none) = (l.filter p).map v
  | [] => rfl
  | x :: l => by
    by_cases h : p x = true
    · rw [List.filterMap_cons_some (b := v x) (by rw [if_pos h]), List.filter_cons_of_pos h, List.map_cons, fm_if l]
    · rw [List.filterMap_cons_none (by rw [if_neg h]), List.filter_cons_of_neg h, fm_if l]
theorem fm_all {α : Type} {v : α → V} : ∀ l : List α, l.filterMap (fun e => some (v e)) = l.map v
  | [] => rfl
  | x :: l => by
    have e : (x :: l).filterMap (fun e => some (v e)) = v x :: l.filterMap fun e => some (v e) := List.filterMap_cons_some (f := fun e => some (v e)) rfl
    rw [e, fm_all l, List.map_cons]
theorem colOf_is {r : Row} (nd : (r.map (·.1)).Nodup) {e : Nat × Nat} (he : e ∈ r) : colOf r e.1 = e.2 := by
  induction r with
  | nil => cases he
  | cons x r ih =>
    have nd' := List.nodup_cons.mp (show (x.1 :: r.map (·.1)).Nodup from nd)
    unfold colOf
    rcases List.mem_cons.mp he with z | z
    · rw [z, List.find?_cons_of_pos (by simp)]
      rfl
    · have : x.1 ≠ e.1 := fun q => nd'.1 (by rw [q]; exact List.mem_map_of_mem (f := (·.1)) z)
      rw [List.find?_cons_of_neg (by simpa using this)]
      exact ih nd'.2 z
theorem ot_find {c w : Nat} : ∀ {r : Row}, (∀ e ∈ r, e.1 = w → e.2 = c) → (ot r w).find? (fun x => x != c) = fo r c
  | [], _ => rfl
  | e :: r, h => by
    have ih := ot_find (r := r) fun x hx => h x (List.mem_cons_of_mem _ hx)
    by_cases k : e.1 = w
    · rw [fo_no (h e List.mem_cons_self k), ← ih]
      unfold ot
      rw [List.filter_cons_of_neg (by simpa using k)]
    · have e2 : ot (e :: r) w = e.2 :: ot r w := by
        unfold ot
        rw [List.filter_cons_of_pos (by simpa using k)]
        rfl
      rw [e2]
      by_cases d : e.2 = c
      · rw [fo_no d, ← ih, List.find?_cons_of_neg (by simpa using d)]
      · rw [fo_yes d, List.find?_cons_of_pos (by simpa using d)]
/-- what a called person takes, counted from the others -/
def cand (o : List Nat) (c : Nat) : List Nat := (o.take 1).filter (fun x => x != c) ++ o.filter fun x => x != o.headD 0
theorem cand_head (o : List Nat) (c : Nat) : (cand o c).head? = o.find? fun x => x != c := by
  unfold cand
  cases o with
  | nil => rfl
  | cons x o =>
    show (([x] : List Nat).filter (fun y => y != c) ++ (x :: o).filter fun y => y != x).head? = _
    by_cases h : x = c
    · rw [List.filter_cons_of_neg (by simpa using h), List.filter_nil, List.nil_append, List.filter_cons_of_neg (by simp), List.head?_filter, List.find?_cons_of_neg (by simpa using h), h]
    · rw [List.filter_cons_of_pos (by simpa using h), List.find?_cons_of_pos (by simpa using h)]
      rfl
theorem cand_is {r : Row} (h : Vr r) {w : Nat} : (cand (ot r w) (colOf r w)).head? = fo r (colOf r w) := by
  rw [cand_head]
  exact ot_find fun e he k => by rw [← k, colOf_is h.nodup he]
/-- letters as data -/
abbrev dS (cs : List Nat) : PyData := .list (cs.map fun c => .str ⟨#[c]⟩)
theorem dp_strs {K : PySem.W.Frag} {H : Hp} : ∀ cs : List Nat, DpAll K H (cs.map sg) (cs.map fun c => PyData.str ⟨#[c]⟩)
  | [] => .nil
  | c :: cs => .cons (.str _) (dp_strs cs)
theorem lay_strs : ∀ cs : List Nat, (∀ c ∈ cs, c ≤ 122) → PyData.canLayAll0 (cs.map fun c => PyData.str ⟨#[c]⟩) = true ∧ PyData.depthAll (cs.map fun c => PyData.str ⟨#[c]⟩) ≤ 1
  | [], _ => by
    simp only [List.map_nil, PyData.canLayAll0, PyData.depthAll]
    exact ⟨trivial, Nat.zero_le _⟩
  | c :: cs, h => by
    obtain ⟨h1, h2⟩ := lay_strs cs fun x hx => h x (List.mem_cons_of_mem _ hx)
    simp only [List.map_cons, PyData.canLayAll0, PyData.canLay0, PyData.depthAll, PyData.depth]
    rw [h1, str_ok (h c List.mem_cons_self)]
    exact ⟨rfl, by omega⟩
theorem shp_strs (cs : List Nat) (h : ∀ c ∈ cs, c ≤ 122) : SeqAt.shaped (dS cs) = true := by
  obtain ⟨h1, h2⟩ := lay_strs cs h
  refine Bool.and_eq_true_iff.mpr ⟨?_, decide_eq_true ?_⟩
  · simp only [PyData.canLay0]
    exact h1
  · simp only [PyData.depth]
    omega
theorem eqv_nilS (cs : List Nat) : PyData.eqv (dS cs) (.list []) = cs.isEmpty := by
  cases cs with
  | nil => rfl
  | cons n ns => simp [PyData.eqv, PyData.eqvAll]
theorem cut1 (xs : List V) : cutV xs none (some 1) = xs.take 1 := by
  unfold cutV HT.sIx
  cases xs with
  | nil => rfl
  | cons x xs => simp
end LX

/-! ### defs that show data (repr): the same promises, said where no repr runs -/
namespace LX
open PySem L2
open PySem.Spec PyProof.Rows
/-- as FnOk, for callers among whom no repr runs -/
structure FnG (P : Program) (w : World) (K : PySem.W.Frag) (mg : Str → Option Value) (base : Heap) (k : Nat) (f : Addr) (fd : FuncData) (ps : List Str) (sp : Sp) : Prop where
  len : ∀ vs H Q E, sp vs H Q E → vs.length = ps.length
  go : ∀ (A : Around) (o : List Env) (s : Shared) (H : Hp) (ar : Args) (us : List Value) (vs : List V) (Q : VK) (E : XK), Room k A → A.guards = some [] → Env0 P w K mg base A o s H →
    BindsTo s fd ar (ps.zip us) → Vals vs us → sp vs H Q E → codeAny (model P w) A (.call (.ref f) ar) (CR CX0 o P w H s Q E) s
section
variable {P : Program} {w : World} {K : PySem.W.Frag} {mg : Str → Option Value} {base : Heap} {x qual : Str} {st : Stmt} {f : Addr} {fd : FuncData} {N ps : List Str} {k : Nat} {sp : Sp}
/-- a def of the text by its body, as Fun.ok, with the word that no repr runs around it -/
theorem fnG (F : Fun K x qual st f fd) (S : FnScope N ps (defScope st)) (len : ∀ vs H Q E, sp vs H Q E → vs.length = ps.length)
    (body : ∀ (cdv : Value) (A : Around) (outer : List Env) (s : Shared) (H : Hp) (vs : List V) (Q : VK) (E : XK), Room k (A.deeper (envOfC qual (defScope st) s.heap.objs.size f cdv)) →
      (A.deeper (envOfC qual (defScope st) s.heap.objs.size f cdv)).guards = some [] → sp vs H Q E →
      ∃ t, PSs (cxOf CX0 P w K mg base N qual (defScope st) f cdv A outer s H E).nox (defBody st) t ∧ t { nx := fun _ H' => Q .non H', rt := Q } (start N vs) H) :
    FnG P w K mg base (k + 1) f fd ps sp := by
  obtain ⟨oc, od, kV, doc, pm, an, cdv, ct, osl, rfl, lk, hcd⟩ := F.ex
  constructor
  · exact len
  intro A o s H ar us vs Q E room quiet e0 bind r want
  have n := len vs H Q E want
  have KH := e0.mod.kin.keeps fun b ob e => (e0.bs b ob e).1
  have NL := e0.mod.nolimit.keeps fun b ob e => (e0.bs b ob e).1
  -- every parameter is a local or a cell
  have par : ∀ q ∈ ps.zip us, (defScope st).names.lookup q.1 = some .local ∨ ((defScope st).names.lookup q.1 = some .cell ∧ ((cellsFrom (s.heap.objs.size + 1) (defScope st).names []).lookup q.1).isSome = true) := by
    intro q hq
    have hm : q.1 ∈ ps := (List.of_mem_zip (show (q.1, q.2) ∈ ps.zip us from hq)).1
    exact (S.par q.1 hm).imp id fun c => ⟨c, PySem.W.cellsFrom_some _ _ _ (Or.inl c)⟩
  apply codeAny_call_function room.depth (KH _ _ lk) rfl S.co S.gen rfl (PySem.W.codeRec_of KH hcd)
  apply bind
  apply wpAny_newFunctionEnv_cells S.kind par
  intro env henv s1 made
  cases henv
  refine ⟨NL.keeps made.toInCall.keep, ?_⟩
  apply codeAny_func
  obtain ⟨t, der, rd⟩ := body cdv A o s H vs Q E (room.deeper _) quiet want
  have inv := inv_start (CX := CX0) (E := E) (N := N) S room.hd e0 n r made
  apply wpAny_mono (der.nox.run [] s1 (start N vs) H _ inv rd)
  · intro fl s2 hs
    cases fl with
    | brk =>
      obtain ⟨_, _, _, no⟩ := hs
      exact no.elim
    | cont =>
      obtain ⟨_, _, _, no⟩ := hs
      exact no.elim
    | next =>
      obtain ⟨σ', H', J, q⟩ := hs
      exact ⟨.non, H', J.os, J.bare, J.base, J.hok, rfl, q⟩
    | ret u =>
      obtain ⟨v, σ', H', J, rv, q⟩ := hs
      exact ⟨v, H', J.os, J.bare, J.base, J.hok, rv, q⟩
  · exact fun _ _ z => z
theorem FnG.mono {j : Nat} (F : FnG P w K mg base j f fd ps sp) (h : j ≤ k) : FnG P w K mg base k f fd ps sp := ⟨F.len, fun A o s H ar us vs Q E room => F.go A o s H ar us vs Q E (room.mono h)⟩
end
section
variable {X : Cx} {k n : Nat} {f : Addr} {fd : FuncData} {ps ks : List Str} {sp : Sp} {x : Str} {p pos : Pos} {e : Expr} {es : List Expr} {kws : List Keyword} {t tk : TA} {g : List Value → List Value → List Value} {gV : List V → List V → List V}
/-- f(e, ..), f a def that shows data -/
theorem pe_callG (F : FnG X.prog X.w X.K X.mg X.base k f fd ps sp) (room : Room k X.A) (quiet : X.A.guards = some []) (g0 : Gl X x) (g1 : X.mg x = some (.ref f)) (g2 : PySem.W.keepIn X.K (.ref f) = true) (b : Binds X.K fd ps [])
    (ha : PA X (e :: es) t) (q0 : (x == ("__debug__" : Str)) = false := by decide) (q1 : starEach (e :: es) X.env = (false, eval e X.env) :: starEach es X.env := by rfl) (q2 : (backTo pos (starEach es X.env)).any (·.1) = false := by rfl) :
    PE X (.Call (.Name x p) (e :: es) [] pos) (tCall sp [] E0 t) := by
  constructor
  intro pins s σ H Q I h
  apply wpAny_Call_Name_kw
  apply ld_glob I g0 g1 _ q0
  refine PySem.W.callWith_K (h₀ := X.base) I.ok.mod.kin g2 (thn (ha.run pos pins s σ H _ I h) ?_) q1 q2
  rintro us s1 ⟨vs, H1, J, r, q⟩
  refine ⟨J.kIn, ?_⟩
  have q' : sp vs H1 Q E0 := by rw [List.append_nil] at q; exact q
  have lu : (us ++ []).length = ps.length := by
    rw [List.append_nil, ← r.length]
    exact F.len _ _ _ _ q'
  have bd := b s1 us J.kIn lu
  rw [List.append_nil] at bd
  refine wpAny_call (codeAny_mono (F.go X.A X.stack s1 H1 ⟨us, []⟩ us vs Q E0 room quiet J.env0 bd r q') ?_)
  intro res s2 hq
  match res, hq with
  | .error _, hq => exact hq.elim
  | .ok (.ret _), hq => exact J.after hq
  | .ok .next, hq => exact hq.elim
  | .ok .brk, hq => exact hq.elim
  | .ok .cont, hq => exact hq.elim
/-- f(k = v, ..): nothing by position -/
theorem pe_callN0 (F : FnOk X.prog X.w X.K X.mg X.base CX0 k f fd ps sp) (room : Room k X.A) (g0 : Gl X x) (g1 : X.mg x = some (.ref f)) (g2 : PySem.W.keepIn X.K (.ref f) = true) (b : KBn X.K fd ps 0 ks g gV) (hk : PK X kws tk)
    (q1 : (backToKw pos (keywordEach kws X.env)).all (·.1.isSome) = true := by rfl) (q2 : (backToKw pos (keywordEach kws X.env)).filterMap (·.1) = ks := by rfl) (q0 : (x == ("__debug__" : Str)) = false := by decide)
    (q3 : ((backTo pos (starEach [] X.env)).any (·.1) || (backToKw pos (keywordEach kws X.env)).any (·.1.isNone)) = false := by rfl) :
    PE X (.Call (.Name x p) [] kws pos) (tCallN 0 ks.length sp gV E0 tNil tk) := by
  constructor
  intro pins s σ H Q I h
  apply wpAny_Call_Name_kw
  apply ld_glob I g0 g1 _ q0
  refine PySem.W.callWith_KW0 (h₀ := X.base) I.ok.mod.kin g2 q1 ?_ q3
  refine thn (hk.run pos pins s σ H _ I h) ?_
  rintro ws s2 ⟨zs, H2, J, rz, l1, l2, q⟩
  refine ⟨J.kIn, ?_⟩
  rw [q2]
  exact run_fnN (us := []) (vs := []) F room b pass0 J .nil rz l1 l2 q
/-- repr of data: none, bools, ints, texts, lists and tuples of these -/
def qRepr (K : PySem.W.Frag) : List V → Hp → VK → Prop := fun vs H Q => ∃ (v : V) (d : PyData), vs = [v] ∧ (∃ a, v = .ref a) ∧ Dp K H v d ∧ d.showable = true ∧ d.hasDict = false ∧ d.depth ≤ 20 ∧ d.shown.length ≤ sizeLine ∧ Q (.str d.shown) H
theorem krepr {K : PySem.W.Frag} (quiet : X.A.guards = some []) (hu : X.A.units + 64 < cLine) (h : X.K = K := by rfl) : CallR X (.builtin "repr") (qRepr K) := by
  subst h
  intro pins s σ H vs us Q I r want
  obtain ⟨v, d, rfl, ⟨a, rfl⟩, dp, sh, nd, dd, sz, q⟩ := want
  obtain ⟨u, rfl, ru⟩ : ∃ u, us = [u] ∧ RelV (.ref a) u := by
    cases r with
    | cons r1 r2 =>
      cases r2
      exact ⟨_, rfl, r1⟩
  cases ru
  obtain ⟨as, rs⟩ := Dp.reads I d (.ref a) (.ref a) dp rfl
  refine PySem.repr_of_reads' rs sh (fun z => by rw [nd] at z; cases z) quiet (by omega) (fun _ _ e => e) ?_ sz
  intro h' y tk keep
  exact ⟨.str d.shown, H, I.kept keep, ⟨y, rfl⟩, q⟩
end
/-! ### the law's own head, for a law that shows data -/
/-- what is tracked at the start: the script, locked, if it is none of the module's own objects -/
def H0 (K : PySem.W.Frag) (a : Addr) (o : Obj) (xs : List V) : Hp := fun b => if b = a ∧ (K.lookup a).isNone = true then some (.frz o (.lst xs)) else none
theorem H0_some {K : PySem.W.Frag} {a b : Addr} {o : Obj} {xs : List V} {u : HO} (h : H0 K a o xs b = some u) : b = a ∧ K.lookup a = none ∧ u = .frz o (.lst xs) := by
  unfold H0 at h
  by_cases c : b = a ∧ (K.lookup a).isNone = true
  · rw [if_pos c] at h
    exact ⟨c.1, Option.isNone_iff_eq_none.mp c.2, (Option.some.inj h).symm⟩
  · rw [if_neg c] at h
    cases h
theorem law_callG {P : Program} {w : World} {K : PySem.W.Frag} {mg mb : Str → Option Value} {k : Nat} {fa a : Addr} {fd : FuncData} {x : Str} {sp : Sp} {s₁ : Shared} {vs : List Value} {ns : List Int} (inK : K.In s₁.heap) (gm : s₁.heap.Ns mainGlobals mg) (gb : s₁.heap.Ns builtinsNs mb)
    (bb : ∀ y : Str, y ≠ "__name__" → mb y = bootBuiltins y) (nl : s₁.heap.NoLimit) (gens : s₁.gens = #[]) (at_a : s₁.heap.get? a = some { cls := .type "list", data := .seq vs.toArray }) (hin : IntsAre vs ns) (few : ns.length ≤ sizeLine) (room : Room k callerA)
    (F : ∀ base : Heap, K.In base → base.Ns mainGlobals mg → FnG P w K mg base k fa fd [x] sp) (bind : ∀ (s : Shared) (u : Value), BindsTo s fd ⟨[u], []⟩ [(x, u)])
    (good : ∀ H : Hp, Only H → SqL K H a (ns.map V.int) → sp [.ref a] H (fun v _ => v = .bl true) fun _ _ _ => False) :
    codeAny (model P w) callerA (.call (.ref fa) ⟨[.ref a], []⟩) (fun r s' => r = .ok (.ret (.bool true)) ∧ OldK s₁.heap s'.heap ∧ s'.os = s₁.os ∧ AllBare s'.gens) s₁ := by
  have rv := vals_ints hin
  have nv := hin.length
  generalize ho : ({ cls := .type "list", data := .seq vs.toArray } : Obj) = o at at_a
  have only : Only (H0 K a o (ns.map V.int)) := fun b => by
    cases q : H0 K a o (ns.map V.int) b with
    | none => exact Or.inl rfl
    | some u => exact Or.inr ⟨o, _, by rw [(H0_some q).2.2]⟩
  have seq : SqL K (H0 K a o (ns.map V.int)) a (ns.map V.int) := by
    cases q : K.lookup a with
    | none => exact Or.inl (Or.inr ⟨o, if_pos ⟨rfl, by rw [q]; rfl⟩⟩)
    | some o' =>
      have e := inK a o' q
      rw [at_a] at e
      cases e
      subst ho
      exact Or.inr ⟨_, vs.toArray, _, q, rfl, rfl, rfl, by rw [List.size_toArray, nv]; exact few, by simpa using rv⟩
  have held : HOk P w (H0 K a o (ns.map V.int)) s₁.heap := fun b u q => by
    obtain ⟨rfl, _, rfl⟩ := H0_some q
    subst ho
    exact ⟨at_a, by rw [List.length_map]; exact few, vs, _, rv, at_a⟩
  -- what is not the script stands in the base
  have out : ∀ {b : Addr} {ob : Obj}, s₁.heap.get? b = some ob → H0 K a o (ns.map V.int) b = none → (hidT s₁.heap (H0 K a o (ns.map V.int))).get? b = some ob := fun e n => hidT_get e n
  have dicts : ∀ {b : Addr} {ob : Obj} {es : Array DictEntry} {n : Nat}, s₁.heap.get? b = some ob → ob.data = .dict es n → H0 K a o (ns.map V.int) b = none := by
    intro b ob es n e d
    cases q : H0 K a o (ns.map V.int) b with
    | none => rfl
    | some u =>
      obtain ⟨rfl, _, _⟩ := H0_some q
      rw [at_a] at e
      cases e
      subst ho
      cases d
  have names : ∀ {b : Addr} {m : Str → Option Value}, s₁.heap.Ns b m → (hidT s₁.heap (H0 K a o (ns.map V.int))).Ns b m := by
    rintro b m ⟨ob, es, n, e, d, z⟩
    exact ⟨ob, es, n, out e (dicts e d), d, z⟩
  have kb : K.In (hidT s₁.heap (H0 K a o (ns.map V.int))) := fun b ob e => by
    refine out (inK b ob e) ?_
    cases q : H0 K a o (ns.map V.int) b with
    | none => rfl
    | some u =>
      obtain ⟨rfl, q2, _⟩ := H0_some q
      rw [q2] at e
      cases e
  obtain ⟨mc, c1, c2⟩ := nl
  have e0 : Env0 P w K mg (hidT s₁.heap (H0 K a o (ns.map V.int))) callerA [] s₁ (H0 K a o (ns.map V.int)) := {
    frames := rfl
    mod := ⟨kb, names gm, ⟨mb, names gb, bb⟩, ⟨mc, names c1, c2⟩⟩
    bs := fun b ob e => of_hidT e
    bsz := Nat.le_of_eq (hidT_size _ _)
    funs := trivial
    frf := fun b hb => absurd (show b ∈ ([] : List Addr) from hb) List.not_mem_nil
    hok := held
    bare := .of_eq gens }
  refine codeAny_mono ((F _ kb (names gm)).go callerA [] s₁ (H0 K a o (ns.map V.int)) ⟨[.ref a], []⟩ [.ref a] [.ref a] _ _ room rfl e0 (bind s₁ (.ref a)) (.cons rfl .nil) (good _ only seq)) ?_
  intro res s' hq
  match res, hq with
  | .error _, hq => exact hq.elim
  | .ok .next, hq => exact hq.elim
  | .ok .brk, hq => exact hq.elim
  | .ok .cont, hq => exact hq.elim
  | .ok (.ret u), hq =>
    obtain ⟨v, H', os, bare, un, held', r', q⟩ := hq
    have q' : v = .bl true := q
    subst q'
    cases (show u = Value.bool true from r')
    refine ⟨rfl, OldK.of_keep fun b ob e => ?_, os, bare⟩
    cases z : H0 K a o (ns.map V.int) b with
    | none => exact un.keep b ob e z (fun y => absurd (show b ∈ ([] : List Addr) from y) List.not_mem_nil) List.not_mem_nil
    | some y =>
      obtain ⟨rfl, _, rfl⟩ := H0_some z
      obtain ⟨e1, _⟩ := held _ _ z
      obtain ⟨e2, _⟩ := held' _ _ (un.frzs _ _ _ z)
      rw [e] at e1
      cases e1
      exact e2
theorem walk_ofG {l : PySem.W.OpenLaw} {n k : Nat} {q : Program} {loose : List Str} {XP : (Str → Option Value) → Heap → Prop} {YP : World → Heap → Prop} {d : DefRec} {K : Params → PySem.W.Frag} {sp : PySem.W.Frag → Sp} {x : Str} (hn : l.most = some n) (few : n ≤ sizeLine)
    (nodef : d.params.defaults = []) (room : Room k callerA) (hY : ∀ (w : World) (h : Heap), YP w h → (K w.params).In h)
    (F : ∀ (w : World) (mg : Str → Option Value) (fa : Addr) (h : Heap), (K w.params).In h → h.Ns mainGlobals mg → mg d.name = some (.ref fa) → ∃ fd : FuncData, (∀ (s : Shared) (u : Value), BindsTo s fd ⟨[u], []⟩ [(x, u)]) ∧
      ∀ base : Heap, (K w.params).In base → base.Ns mainGlobals mg → FnG l.prog w (K w.params) mg base k fa fd [x] (sp (K w.params)))
    (good : ∀ (K : PySem.W.Frag) (H : Hp) (a : Addr) (ns : List Int), ns.length ≤ n → Only H → SqL K H a (ns.map V.int) → sp K [.ref a] H (fun v _ => v = .bl true) fun _ _ _ => False) :
    PySem.W.WalkO q loose XP YP l.row.toRowW d [] (fun f vs => PySem.call f vs) := by
  apply Att.attach_call hn nodef
  intro w s₀ s₁ mg mb fa o pm cd doc a vs ns G Y ho hd hcd hmg at_a hin most gens
  have inK := hY w _ Y
  obtain ⟨fd, bind, hF⟩ := F w mg fa _ inK G.T.g hmg
  exact law_callG inK G.T.g G.T.b G.T.builtins G.T.nolimit gens at_a hin (Nat.le_trans most few) room hF bind fun H only seq => good _ H a ns most only seq
/-! ### calls with keywords: the values in the parameters' order -/
def pick {α : Type} (ix : List Nat) (l : List α) : List α := ix.filterMap (l[·]?)
theorem vals_at {vs : List V} {us : List Value} (h : Vals vs us) : ∀ i : Nat, (vs[i]? = none ∧ us[i]? = none) ∨ ∃ v u, vs[i]? = some v ∧ us[i]? = some u ∧ RelV v u := by
  induction h with
  | nil => exact fun i => Or.inl ⟨rfl, rfl⟩
  | cons r _ ih =>
    intro i
    cases i with
    | zero => exact Or.inr ⟨_, _, rfl, rfl, r⟩
    | succ i => exact ih i
theorem vals_pick {vs : List V} {us : List Value} (h : Vals vs us) : ∀ ix : List Nat, Vals (pick ix vs) (pick ix us)
  | [] => .nil
  | i :: ix => by
    unfold pick
    rcases vals_at h i with ⟨h1, h2⟩ | ⟨v, u, h1, h2, r⟩
    · rw [List.filterMap_cons_none h1, List.filterMap_cons_none h2]
      exact vals_pick h ix
    · rw [List.filterMap_cons_some h1, List.filterMap_cons_some h2]
      exact .cons r (vals_pick h ix)
theorem _root_.L2.Fun.kb {K : PySem.W.Frag} {x qual : Str} {st : Stmt} {f : Addr} {fd : FuncData} {ps ks : List Str} {n : Nat} {ix : List Nat} (F : Fun K x qual st f fd)
    (h : ∀ (kV doc pm : Value) (an : Option Addr) (cdv ct : Value) (us ws : List Value), us.length = n → ws.length = ks.length → bindArgs (PySem.W.fnOf x qual (defArgs st) (defBody st) (defScope st) .none kV doc pm an cdv ct) ⟨us, ks.zip ws⟩ = pure (ps.zip (pick ix (us ++ ws)))) :
    KBn K fd ps n ks (fun us ws => pick ix (us ++ ws)) (fun vs zs => pick ix (vs ++ zs)) := by
  obtain ⟨oc, od, kV, doc, pm, an, cdv, ct, osl, rfl, lk, hcd⟩ := F.ex
  exact ⟨fun s us ws _ l1 l2 => .of_eq (h kV doc pm an cdv ct us ws l1 l2), fun r1 r2 => vals_pick (r1.append r2) ix⟩
theorem rd_callN0 {σ : L2.St} {H : Hp} {Q : VK} {m : Nat} {sp : Sp} {gV : List V → List V → List V} {E : XK} {tk : TA} (q : tk σ H fun zs H2 => zs.length = m ∧ sp (gV [] zs) H2 Q E) : tCallN 0 m sp gV E tNil tk σ H Q := by
  show tk σ H fun zs H2 => ([] : List V).length = 0 ∧ zs.length = m ∧ sp (gV [] zs) H2 Q E
  have e : (fun (zs : List V) (H2 : Hp) => ([] : List V).length = 0 ∧ zs.length = m ∧ sp (gV [] zs) H2 Q E) = fun zs H2 => zs.length = m ∧ sp (gV [] zs) H2 Q E := by
    funext zs H2
    exact propext ⟨fun z => z.2, fun z => ⟨rfl, z⟩⟩
  rw [e]
  exact q
/-! ### what can be shown: no deeper than n, the leaves no longer than B, no heavier than m -/
structure Sh (B n m : Nat) (d : PyData) : Prop where
  sh : d.showable = true
  nd : d.hasDict = false
  dp : d.depth ≤ n
  ls : d.leavesShort B = true
  wt : d.weight ≤ m
theorem sh_all {B n m : Nat} : ∀ {xs : List PyData}, (∀ x ∈ xs, Sh B n m x) → PyData.showableAll xs = true ∧ PyData.hasDictAll xs = false ∧ PyData.depthAll xs ≤ n ∧ PyData.leavesShortAll B xs = true ∧ PyData.weightAll xs ≤ xs.length * (m + 1)
  | [], _ => by
    simp only [PyData.showableAll, PyData.hasDictAll, PyData.depthAll, PyData.leavesShortAll, PyData.weightAll]
    exact ⟨trivial, trivial, Nat.zero_le _, trivial, Nat.zero_le _⟩
  | x :: xs, h => by
    obtain ⟨a1, a2, a3, a4, a5⟩ := h x List.mem_cons_self
    obtain ⟨b1, b2, b3, b4, b5⟩ := sh_all fun y hy => h y (List.mem_cons_of_mem _ hy)
    have e : (xs.length + 1) * (m + 1) = xs.length * (m + 1) + (m + 1) := Nat.succ_mul ..
    simp only [PyData.showableAll, PyData.hasDictAll, PyData.depthAll, PyData.leavesShortAll, PyData.weightAll, List.length_cons, a1, a2, a4, b1, b2, b4, Bool.and_self, Bool.or_self, true_and, e]
    omega
theorem Sh.list {B n m : Nat} {xs : List PyData} (h : ∀ x ∈ xs, Sh B n m x) : Sh B (n + 1) (xs.length * (m + 1)) (.list xs) := by
  obtain ⟨a1, a2, a3, a4, a5⟩ := sh_all h
  exact ⟨by simpa only [PyData.showable] using a1, by simpa only [PyData.hasDict] using a2, by simp only [PyData.depth]; omega, by simpa only [PyData.leavesShort] using a4, by simpa only [PyData.weight] using a5⟩
theorem Sh.tuple {B n m : Nat} {xs : List PyData} (h : ∀ x ∈ xs, Sh B n m x) : Sh B (n + 1) (xs.length * (m + 1)) (.tuple xs) := by
  obtain ⟨a1, a2, a3, a4, a5⟩ := sh_all h
  exact ⟨by simpa only [PyData.showable] using a1, by simpa only [PyData.hasDict] using a2, by simp only [PyData.depth]; omega, by simpa only [PyData.leavesShort] using a4, by simpa only [PyData.weight] using a5⟩
theorem Sh.mono {B n m n' m' : Nat} {d : PyData} (h : Sh B n m d) (h1 : n ≤ n') (h2 : m ≤ m') : Sh B n' m' d := ⟨h.sh, h.nd, Nat.le_trans h.dp h1, h.ls, Nat.le_trans h.wt h2⟩
theorem Sh.none {B : Nat} : Sh B 0 0 .none := ⟨by simp only [PyData.showable], by simp only [PyData.hasDict], by simp only [PyData.depth]; omega, by simp only [PyData.leavesShort], by simp only [PyData.weight]; omega⟩
theorem Sh.chr {B c : Nat} (h : c ≤ 122) : Sh B 0 1 (.str ⟨#[c]⟩) := ⟨by simp only [PyData.showable], by simp only [PyData.hasDict], by simp only [PyData.depth]; omega, by
  simp only [PyData.leavesShort]
  show [c].all (fun c => decide (c < 16 ^ 8)) = true
  have : c < 16 ^ 8 := Nat.lt_of_le_of_lt h (by decide)
  simp only [List.all_cons, List.all_nil, Bool.and_true, decide_eq_true_eq]
  exact this, by simp only [PyData.weight]; exact Nat.le_refl 1⟩
theorem Sh.int {i : Int} (h : i.natAbs < 10 ^ 12) : Sh 13 0 40 (.int i) := by
  have l : i.natAbs.log2 < 40 := by
    by_cases z : i.natAbs = 0
    · rw [z]
      decide
    · exact (Nat.log2_lt z).mpr (Nat.lt_of_lt_of_le h (by decide))
  refine ⟨?_, by simp only [PyData.hasDict], by simp only [PyData.depth]; omega, ?_, ?_⟩
  · simp only [PyData.showable, decide_eq_true_eq]
    omega
  · simp only [PyData.leavesShort, decide_eq_true_eq]
    exact PyData.shown_int_le h
  · simp only [PyData.weight]
    split
    · omega
    · omega
theorem Sh.fits {n m : Nat} {d : PyData} (h : Sh 13 n m d) (hm : m ≤ 2 ^ 20) : d.shown.length ≤ sizeLine := PyData.shown_fits (by decide) (by decide) h.ls (Nat.le_trans h.wt hm)
theorem rd_repr {K : PySem.W.Frag} {H : Hp} {Q : VK} {a : Addr} {n m : Nat} {d : PyData} (hd : Dp K H (.ref a) d) (h : Sh 13 n m d) (hn : n ≤ 20) (hm : m ≤ 2 ^ 20) (q : Q (.str d.shown) H) : qRepr K [.ref a] H Q :=
  ⟨_, d, rfl, ⟨a, rfl⟩, hd, h.sh, h.nd, Nat.le_trans h.dp hn, h.fits hm, q⟩
theorem sh_row {r : Row} (h : Vr r) : Sh 13 2 (60 * 83) (dR r) := by
  have e : ∀ x ∈ r.map dE, Sh 13 1 82 x := fun x hx => by
    obtain ⟨y, hy, rfl⟩ := List.mem_map.mp hx
    refine (Sh.tuple (xs := [.int (y.1 : Int), .str ⟨#[y.2]⟩]) (n := 0) (m := 40) fun z hz => ?_).mono (Nat.le_refl _) (show 2 * 41 ≤ 82 by decide)
    have hl := h.col y hy
    have hp := h.lt hy
    have h60 := h.n2
    rcases List.mem_cons.mp hz with c | c
    · rw [c]
      exact Sh.int (by have : (10 : Nat) ^ 12 = 1000000000000 := by decide
                       omega)
    · rw [List.mem_singleton.mp c]
      exact (Sh.chr hl.2).mono (Nat.le_refl _) (by decide)
  refine (Sh.list e).mono (Nat.le_refl _) ?_
  rw [List.length_map]
  exact Nat.mul_le_mul_right 83 h.n2
/-- letters or None -/
def dO : Option Nat → PyData
  | none => .none
  | some c => .str ⟨#[c]⟩
theorem dp_opt {K : PySem.W.Frag} {H : Hp} (o : Option Nat) : Dp K H (oV o) (dO o) := by
  cases o with
  | none => exact .non
  | some c => exact .str _
theorem dp_opts {K : PySem.W.Frag} {H : Hp} : ∀ os : List (Option Nat), DpAll K H (os.map oV) (os.map dO)
  | [] => .nil
  | o :: os => .cons (dp_opt o) (dp_opts os)
theorem sh_opt {o : Option Nat} (h : ∀ c, o = some c → c ≤ 122) : Sh 13 0 1 (dO o) := by
  cases o with
  | none => exact Sh.none.mono (Nat.le_refl _) (by decide)
  | some c => exact Sh.chr (h c rfl)
theorem sh_opts {os : List (Option Nat)} (h : ∀ c, some c ∈ os → c ≤ 122) : Sh 13 1 (os.length * 2) (.list (os.map dO)) := by
  have := Sh.list (xs := os.map dO) (n := 0) (m := 1) (B := 13) fun x hx => by
    obtain ⟨o, ho, rfl⟩ := List.mem_map.mp hx
    exact sh_opt fun c e => h c (by rw [← e]; exact ho)
  rw [List.length_map] at this
  exact this
end LX

/-! ### a source of draws that counts them -/
namespace LX
open PySem L2
structure SrcN (H : Hp) (p : Addr) (b : Nat) : Prop where
  ex : ∃ s0 s1 s2 : Int, H p = some (.lst [.int s0, .int s1, .int s2]) ∧ s1.natAbs < 2 ^ 400 ∧ s2.natAbs ≤ b
theorem SrcN.src {H : Hp} {p : Addr} {b : Nat} (h : SrcN H p b) : Src H p :=
  let ⟨s0, s1, s2, h1, h2, _⟩ := h.ex
  ⟨s0, s1, s2, h1, h2⟩
theorem SrcN.same {H H' : Hp} {p : Addr} {b : Nat} (h : SrcN H p b) (s : Same H H') : SrcN H' p b :=
  let ⟨s0, s1, s2, h1, h2⟩ := h.ex
  ⟨s0, s1, s2, s _ _ h1, h2⟩
theorem SrcN.mono {H : Hp} {p : Addr} {b c : Nat} (h : SrcN H p b) (k : b ≤ c) : SrcN H p c :=
  let ⟨s0, s1, s2, h1, h2, h3⟩ := h.ex
  ⟨s0, s1, s2, h1, h2, Nat.le_trans h3 k⟩
theorem SrcN.not_none {H : Hp} {p q : Addr} {b : Nat} (h : SrcN H p b) (hq : H q = none) : q ≠ p := h.src.not_none hq
theorem SrcN.lst {H : Hp} {p : Addr} {b : Nat} (h : SrcN H p b) : ∃ xs, H p = some (.lst xs) := h.src.lst
/-- kept where a list elsewhere changes -/
theorem SrcN.off {H : Hp} {p q : Addr} {b : Nat} {o : HO} (h : SrcN H p b) (n : q ≠ p) : SrcN (upd H q o) p b :=
  let ⟨s0, s1, s2, h1, h2⟩ := h.ex
  ⟨s0, s1, s2, by rw [upd_ne n.symm]; exact h1, h2⟩
theorem mod_small {x m : Int} {k : Nat} (h0 : 0 < m) (h : m ≤ 2 ^ k) : (x % m).natAbs < 2 ^ k := by
  have a0 := Int.emod_nonneg x (show m ≠ 0 by omega)
  have a1 := Int.emod_lt_of_pos x h0
  have e : ((2 ^ k : Nat) : Int) = (2 : Int) ^ k := by
    rw [Int.natCast_pow]
    rfl
  omega
theorem add_small {x y : Int} {j k m : Nat} (hx : x.natAbs < 2 ^ j) (hy : y.natAbs < 2 ^ k) (h1 : j < m) (h2 : k < m) : (x + y).natAbs < 2 ^ m := by
  obtain ⟨n, rfl⟩ : ∃ n, m = n + 1 := ⟨m - 1, by omega⟩
  have a := Nat.pow_le_pow_right (show 0 < 2 by decide) (show j ≤ n by omega)
  have b := Nat.pow_le_pow_right (show 0 < 2 by decide) (show k ≤ n by omega)
  rw [Nat.pow_succ]
  omega
theorem mul_small {x y : Int} {j k m : Nat} (hx : x.natAbs < 2 ^ j) (hy : y.natAbs < 2 ^ k) (h : j + k ≤ m) : (x * y).natAbs < 2 ^ m := by
  rw [Int.natAbs_mul]
  refine Nat.lt_of_lt_of_le ?_ (Nat.pow_le_pow_right (show 0 < 2 by decide) h)
  rw [Nat.pow_add]
  exact Nat.mul_lt_mul'' hx hy
end LX

/-! ### list(zip(xs, ys)), two lists of one length: new tuples in a new list -/
namespace LX
open PySem PySem.Spec PyProof.Rows L2
theorem Un.more {fs : List Addr} {H H' : Hp} {h h' : Heap} (k : ∀ b u, h.get? b = some u → h'.get? b = some u) (s : Same H H') (new : ∀ b, H b = none → b < h.objs.size → H' b = none) : Un fs [] H H' h h' where
  keep := fun b u q _ _ _ => k b u q
  slot := fun b u q _ _ _ => ⟨u.slots, k b u q⟩
  free := fun b u q n _ => new b n (Heap.lt_size q)
  there := fun b u q _ => ⟨u, k b u q⟩
  tups := fun b xs q => s b _ q
  frzs := fun b u xs q => s b _ q
  tbls := fun b ps q => ⟨#[], by rw [s b _ q]; simp⟩
theorem HOk.more {P : Program} {w : World} {H H' : Hp} {h h' : Heap} (x : HOk P w H h) (k : ∀ b u, h.get? b = some u → h'.get? b = some u) (s : Same H H') (new : ∀ b o, H b = none → H' b = some o → ObjOk P w H' h' b o) : HOk P w H' h' := fun b o e => by
  cases q : H b with
  | none => exact new b o q e
  | some u =>
    have e2 := s b _ q
    rw [e] at e2
    cases e2
    exact (x b o q).stay (fun c v _ z => k c v z) (fun c z => s c _ z) fun c xs z => s c _ z
/-- the zip z amid its walk: i pairs are out, all above B -/
structure ZAt (h : Heap) (z TI TO i1 i2 l1 l2 B : Addr) (xs ys : Array Value) (i : Nat) (Ts : List Addr) : Prop where
  pr : IsPair h TI (.ref i1) (.ref i2)
  w1 : h.IsListIter i1 l1 i
  w2 : h.IsListIter i2 l2 i
  a1 : h.IsList l1 xs
  a2 : h.IsList l2 ys
  zp : (IsZip h z TI TO .none ∧ ∃ a b, IsPair h TO a b) ∨ ∃ T f oT, IsZipHeld h z TI TO T f ∧ h.get? T = some oT ∧ B ≤ T
  len : Ts.length = i
  nd : Ts.Nodup
  out : ∀ (j : Nat) (T : Addr), Ts[j]? = some T → B ≤ T ∧ ∃ x y, xs[j]? = some x ∧ ys[j]? = some y ∧ IsPair h T x y
theorem pairKeep {h h' : Heap} {T : Addr} {x y : Value} (p : IsPair h T x y) (e : ∀ o, h.get? T = some o → h'.get? T = some o) : IsPair h' T x y := e _ p
section
variable {P : Program} {w : World} {A : Around} {R : Result → Shared → Prop} {z TI TO i1 i2 l1 l2 S B : Addr} {xs ys : Array Value} {res : Value}
theorem zipLoop (hh : A.in1.handled = none) (D : ZipApart z TI TO i1 i2 l1 l2) (same : xs.size ≤ ys.size) (few : xs.size ≤ sizeLine) (lt : ∀ b, b = z ∨ b = TI ∨ b = TO ∨ b = i1 ∨ b = i2 ∨ b = l1 ∨ b = l2 → b < B) (ltS : S < B) (offS : S ≠ z ∧ S ≠ TI ∧ S ≠ TO ∧ S ≠ i1 ∧ S ≠ i2 ∧ S ≠ l1 ∧ S ≠ l2) :
    ∀ (m i : Nat) (s : Shared) (Ts : List Addr), i + m = xs.size → B ≤ s.heap.objs.size → ZAt s.heap z TI TO i1 i2 l1 l2 B xs ys i Ts → (∃ c, s.heap.get? S = some (seqObj "list" (Ts.map Value.ref).toArray c)) →
      (∀ (h' : Heap) (tk : Nat) (Us : List Addr) (c' : Nat), Us.length = xs.size → Us.Nodup → (∀ (j : Nat) (T : Addr), Us[j]? = some T → B ≤ T ∧ ∃ x y, xs[j]? = some x ∧ ys[j]? = some y ∧ IsPair h' T x y) → h'.get? S = some (seqObj "list" (Us.map Value.ref).toArray c') →
        (∀ b o, b ≠ S → b ≠ z → b ≠ TO → b ≠ i1 → b ≠ i2 → s.heap.get? b = some o → h'.get? b = some o) → R (.ok (.ret res)) { s with heap := h', toks := tk }) →
      codeAny (model P w) A (.builtin "list.extend.loop" ⟨[.ref S, .ref z, res], []⟩) R s := by
  have lz := lt z (by simp)
  have lTI := lt TI (by simp)
  have lTO := lt TO (by simp)
  have li1 := lt i1 (by simp)
  have li2 := lt i2 (by simp)
  have ll1 := lt l1 (by simp)
  have ll2 := lt l2 (by simp)
  obtain ⟨oz, oTI, oTO, oi1, oi2, ol1, ol2⟩ := offS
  intro m
  induction m with
  | zero =>
    intro i s Ts hi hB Z ⟨c, hS⟩ hR
    have e : i = xs.size := by omega
    subst e
    have off : xs[xs.size]? = none ∨ ys[xs.size]? = none := Or.inl (Array.getElem?_eq_none (Nat.le_refl _))
    refine codeAny_builtin PySem.F.entry_extend_loop ?_
    rw [Around.under_plainId PySem.F.plain_extend_loop _]
    show wpAny _ A.in1 (pyNext (.ref z) >>= _) _ _ s
    have fin : ∀ h' : Heap, (∀ b o, b ≠ z → b ≠ TO → b ≠ i1 → b ≠ i2 → s.heap.get? b = some o → h'.get? b = some o) → R (.ok (.ret res)) { s with heap := h' } := fun h' k => by
      refine hR h' s.toks Ts c Z.len Z.nd (fun j T hj => ?_) (k _ _ oz oTO oi1 oi2 hS) fun b o _ b1 b2 b3 b4 e => k b o b1 b2 b3 b4 e
      obtain ⟨q1, x, y, q2, q3, q4⟩ := Z.out j T hj
      exact ⟨q1, x, y, q2, q3, pairKeep q4 fun o e => k T o (Nat.ne_of_gt (Nat.lt_of_lt_of_le lz q1)) (Nat.ne_of_gt (Nat.lt_of_lt_of_le lTO q1)) (Nat.ne_of_gt (Nat.lt_of_lt_of_le li1 q1)) (Nat.ne_of_gt (Nat.lt_of_lt_of_le li2 q1)) e⟩
    rcases Z.zp with ⟨z1, a, b, z2⟩ | ⟨T, f, oT, z1, z2, z3⟩
    · exact wpAny_bind (wpAny_pyNext_zip_end hh D z1 Z.pr z2 Z.w1 Z.w2 Z.a1 Z.a2 off fun h' k => wpAny_pure (fin h' fun b o b1 b2 b3 b4 e => k b o b1 b2 b3 b4 e))
    · exact wpAny_bind (wpAny_pyNext_zip_end_held hh D z1 z2 Z.pr Z.w1 Z.w2 Z.a1 Z.a2 off fun h' k => wpAny_pure (fin h' fun b o b1 _ b3 b4 e => k b o b1 b3 b4 e))
  | succ m ih =>
    intro i s Ts hi hB Z ⟨c, hS⟩ hR
    have ex : xs[i]? = some xs[i] := Array.getElem?_eq_getElem (by omega)
    have ey : ys[i]? = some ys[i] := Array.getElem?_eq_getElem (by omega)
    refine codeAny_builtin PySem.F.entry_extend_loop ?_
    rw [Around.under_plainId PySem.F.plain_extend_loop _]
    show wpAny _ A.in1 (pyNext (.ref z) >>= _) _ _ s
    have szT : (Ts.map Value.ref).toArray.size = i := by rw [List.size_toArray, List.length_map, Z.len]
    have turn : ∀ h' : Heap, ((∃ T f oT, IsZipHeld h' z TI TO T f ∧ h'.get? T = some oT ∧ B ≤ T)) → h'.IsListIter i1 l1 (i + 1) → h'.IsListIter i2 l2 (i + 1) → IsPair h' s.heap.objs.size xs[i] ys[i] → h'.objs.size = s.heap.objs.size + 1 →
        (∀ b o, b ≠ z → b ≠ TO → b ≠ i1 → b ≠ i2 → s.heap.get? b = some o → h'.get? b = some o) →
        wpAny (model P w) A.in1 (updateSeq S (·.push (.ref s.heap.objs.size)) >>= fun _ => again (.builtin "list.extend.loop" ⟨[.ref S, .ref z, res], []⟩))
          (fun fin s' => match fin with | .done f => R (.ok f) s' | .again c' => c'.quiet = true ∧ codeAny (model P w) A c' R s') (fun e s' => R (.error e) s') { s with heap := h' } := by
      intro h' hz hw1 hw2 hp hsz k
      have hS1 := k _ _ oz oTO oi1 oi2 hS
      have lim : i + 1 ≤ sizeLine := by omega
      refine wpAny_bind (wpAny_updateSeq hS1 rfl ?_ (by rw [szT]; exact Nat.le_trans (Nat.le_of_lt (by omega : i < xs.size)) few) (by show ((Ts.map Value.ref).toArray.push _).size ≤ sizeLine + 1; rw [Array.size_push, szT]; omega))
      refine wpAny_pure ⟨plainId_quiet PySem.F.plain_extend_loop _, ?_⟩
      have other : ∀ b o, b ≠ S → h'.get? b = some o → (h'.update S (Obj.mapSeq (·.push (Value.ref s.heap.objs.size)))).get? b = some o := fun b o nb e => (Heap.get?_update_other _ _ (Ne.symm nb)).trans e
      have nS : ∀ {b : Addr}, B ≤ b → b ≠ S := fun q => Nat.ne_of_gt (Nat.lt_of_lt_of_le ltS q)
      refine ih (i + 1) _ (Ts ++ [s.heap.objs.size]) (by omega) (by show B ≤ (h'.update S _).objs.size; rw [Heap.size_update, hsz]; exact Nat.le_trans hB (Nat.le_succ _)) ?_ ?_ fun h2 tk Us c2 u1 u0 u2 u3 u4 => ?_
      · obtain ⟨T, f, oT, z1, z2, z3⟩ := hz
        exact { pr := pairKeep Z.pr fun o e => other _ o (Ne.symm oTI) (k _ o D.TIz D.TITO D.TIi1 D.TIi2 e), w1 := hw1.at fun o e => other _ o (Ne.symm oi1) e, w2 := hw2.at fun o e => other _ o (Ne.symm oi2) e
                a1 := Z.a1.at fun o e => other _ o (Ne.symm ol1) (k _ o D.l1z D.l1TO D.l1i1 D.l1i2 e), a2 := Z.a2.at fun o e => other _ o (Ne.symm ol2) (k _ o D.l2z D.l2TO D.l2i1 D.l2i2 e)
                zp := Or.inr ⟨T, f, oT, other _ _ (Ne.symm oz) z1, other _ _ (nS z3) z2, z3⟩
                len := by rw [List.length_append, Z.len]; rfl
                nd := List.nodup_append.mpr ⟨Z.nd, List.nodup_cons.mpr ⟨List.not_mem_nil, List.nodup_nil⟩, fun T hT U hU e => by
                  obtain ⟨j, hj⟩ := List.mem_iff_getElem?.mp hT
                  obtain ⟨_, x, y, _, _, q4⟩ := Z.out j T hj
                  rw [List.mem_singleton] at hU
                  have l := Heap.lt_size q4
                  rw [e, hU] at l
                  exact Nat.lt_irrefl _ l⟩
                out := fun j T hj => by
                  by_cases c : j < Ts.length
                  · rw [List.getElem?_append_left c] at hj
                    obtain ⟨q1, x, y, q2, q3, q4⟩ := Z.out j T hj
                    exact ⟨q1, x, y, q2, q3, pairKeep q4 fun o e => other T o (nS q1) (k T o (Nat.ne_of_gt (Nat.lt_of_lt_of_le lz q1)) (Nat.ne_of_gt (Nat.lt_of_lt_of_le lTO q1)) (Nat.ne_of_gt (Nat.lt_of_lt_of_le li1 q1)) (Nat.ne_of_gt (Nat.lt_of_lt_of_le li2 q1)) e)⟩
                  · have len := Z.len
                    rw [List.getElem?_append_right (by omega)] at hj
                    have hj2 := (List.getElem?_eq_some_iff.mp hj).1
                    rw [List.length_singleton] at hj2
                    have ej : j = i := by omega
                    subst ej
                    rw [show j - Ts.length = 0 by omega] at hj
                    injection hj with hj
                    subst hj
                    exact ⟨hB, _, _, ex, ey, pairKeep hp fun o e => other _ o (nS hB) e⟩ }
      · have q := Heap.get?_update_self (Obj.mapSeq (·.push (Value.ref s.heap.objs.size))) hS1 rfl
        refine ⟨_, q.trans (congrArg (fun l : Array Value => some (seqObj "list" l _)) ?_)⟩
        show (Ts.map Value.ref).toArray.push (Value.ref s.heap.objs.size) = ((Ts ++ [s.heap.objs.size]).map Value.ref).toArray
        rw [List.push_toArray, List.map_append]
        rfl
      · exact hR h2 tk Us c2 u1 u0 u2 u3 fun b o b0 b1 b2 b3 b4 e => u4 b o b0 b1 b2 b3 b4 (other b o b0 (k b o b1 b2 b3 b4 e))
    rcases Z.zp with ⟨z1, a, b, z2⟩ | ⟨T, f, oT, z1, z2, z3⟩
    · refine wpAny_bind (wpAny_pyNext_zip_item D z1 Z.pr z2 Z.w1 Z.w2 Z.a1 Z.a2 ex ey fun h' b1 b2 b3 b4 b5 b6 k => ?_)
      exact turn h' ⟨_, false, _, b1, b5, hB⟩ b3 b4 b5 b6 fun b o n1 n2 n3 n4 e => k b o n1 n2 n3 n4 e
    · refine wpAny_bind (wpAny_pyNext_zip_item_held D z1 z2 Z.pr Z.w1 Z.w2 Z.a1 Z.a2 ex ey fun h' b1 b3 b4 b5 b6 k => ?_)
      have n1 : T ≠ z := Nat.ne_of_gt (Nat.lt_of_lt_of_le lz z3)
      have n3 : T ≠ i1 := Nat.ne_of_gt (Nat.lt_of_lt_of_le li1 z3)
      have n4 : T ≠ i2 := Nat.ne_of_gt (Nat.lt_of_lt_of_le li2 z3)
      exact turn h' ⟨T, true, oT, b1, k _ _ n1 n3 n4 z2, z3⟩ b3 b4 b5 b6 fun b o n1 _ n3 n4 e => k b o n1 n3 n4 e
theorem zip_no_len : typeLookup (.type "zip") "__len__" = pure none := am_miss_of_fast (by decide +kernel)
theorem zip_no_hint : typeLookup (.type "zip") "__length_hint__" = pure none := am_miss_of_fast (by decide +kernel)
theorem listZip {E : Value → Shared → Prop} {s : Shared} {Q : Value → Shared → Prop} (hh : A.handled = none) (D : ZipApart z TI TO i1 i2 l1 l2) (same : xs.size ≤ ys.size) (few : xs.size ≤ sizeLine) (hz : IsZip s.heap z TI TO .none) (hTI : IsPair s.heap TI (.ref i1) (.ref i2)) (hTO : IsPair s.heap TO .none .none)
    (h1 : s.heap.IsListIter i1 l1 0) (h2 : s.heap.IsListIter i2 l2 0) (g1 : s.heap.IsList l1 xs) (g2 : s.heap.IsList l2 ys)
    (hQ : ∀ (h' : Heap) (tk : Nat) (Us : List Addr) (c' : Nat), Us.length = xs.size → Us.Nodup → (∀ (j : Nat) (T : Addr), Us[j]? = some T → s.heap.objs.size < T ∧ ∃ x y, xs[j]? = some x ∧ ys[j]? = some y ∧ IsPair h' T x y) → h'.get? s.heap.objs.size = some (seqObj "list" (Us.map Value.ref).toArray c') →
      (∀ b o, b ≠ z → b ≠ TO → b ≠ i1 → b ≠ i2 → s.heap.get? b = some o → h'.get? b = some o) → Q (.ref s.heap.objs.size) { s with heap := h', toks := tk }) :
    wpAny (model P w) A (call (.type "list") [.ref z]) Q E s := by
  have none1 : A.in1.in1.handled = none := by simp [hh]
  obtain ⟨oh1, e1, _⟩ := id h1
  obtain ⟨oh2, e2, _⟩ := id h2
  obtain ⟨og1, f1, _⟩ := id g1
  obtain ⟨og2, f2, _⟩ := id g2
  refine callType_codes (Q₁ := fun obj s1 => obj = .ref s.heap.objs.size ∧ s1 = { s with heap := s.heap.push { cls := .type "list", data := .seq #[] } }) PySem.F.called_list (PySem.F.typeCall_list_1 _) PySem.F.entry_list_init (code_list_new _ ⟨rfl, rfl⟩) fun obj s1 hs1 => ?_
  obtain ⟨rfl, rfl⟩ := hs1
  have at0 : (s.heap.push { cls := .type "list", data := .seq #[] }).get? s.heap.objs.size = some { cls := .type "list", data := .seq #[] } := Heap.get?_push_size _ rfl
  have old : ∀ b o, s.heap.get? b = some o → (s.heap.push { cls := .type "list", data := .seq #[] }).get? b = some o := fun b o e => Heap.get?_push_of_some _ e
  refine ⟨⟨_, at0, rfl⟩, PySem.F.args_list_init_2 _ _, ?_⟩
  show wpAny _ _ (do let old ← Builtin.List.listItems (.ref s.heap.objs.size); Builtin.List.listUpdate (.ref s.heap.objs.size) (fun _ => #[]); letGo old.toList.reverse; Builtin.List.listExtendWith (.ref s.heap.objs.size) (.ref z) .none) _ _ _
  refine wpAny_bind ?_
  unfold Builtin.List.listItems
  refine wpAny_bind (wpAny_seqItems at0 rfl (wpAny_pure ?_))
  show wpAny _ _ (updateSeq s.heap.objs.size (fun _ => #[]) >>= fun _ => letGo (#[] : Array Value).toList.reverse >>= fun _ => Builtin.List.listExtendWith (.ref s.heap.objs.size) (.ref z) .none) _ _ _
  refine wpAny_bind (wpAny_updateSeq at0 rfl (wpAny_bind (wpAny_letGo ?_)))
  have at1 := Heap.get?_update_self (Obj.mapSeq (fun _ => (#[] : Array Value))) at0 rfl
  have ne : ∀ {b : Addr} {o : Obj}, s.heap.get? b = some o → s.heap.objs.size ≠ b := fun e => Nat.ne_of_gt (Heap.lt_size e)
  have old1 : ∀ b o, s.heap.get? b = some o → ((s.heap.push { cls := .type "list", data := .seq #[] }).update s.heap.objs.size (Obj.mapSeq (fun _ => (#[] : Array Value)))).get? b = some o := fun b o e => (Heap.get?_update_other _ _ (ne e)).trans (old b o e)
  generalize hh1 : ((s.heap.push { cls := .type "list", data := .seq #[] }).update s.heap.objs.size (Obj.mapSeq (fun _ => (#[] : Array Value)))) = hp1 at at1 old1
  have sz1 : hp1.objs.size = s.heap.objs.size + 1 := by rw [← hh1, Heap.size_update, Heap.size_push]
  unfold Builtin.List.listExtendWith
  have tz : Shared.TypeIs { s with heap := hp1 } (.ref z) "zip" := ⟨_, old1 _ _ hz, rfl⟩
  refine wpAny_bind (wpAny_typeOf tz ?_)
  have k1 : Builtin.List.listSameRef (.ref s.heap.objs.size) (.ref z) = false := by simp [Builtin.List.listSameRef, ne hz]
  have k2 : (Value.type "zip" == Value.type "list") = false := by decide
  have k3 : (Value.type "zip" == Value.type "tuple") = false := by decide
  simp only [k1, k2, k3, Bool.or_false, Bool.false_eq_true, if_false]
  refine wpAny_bind (wpAny_pyIter_zip (old1 _ _ hz) (wpAny_bind (wpAny_holding ?_)))
  unfold Builtin.List.listLengthHint
  refine wpAny_bind (wpAny_specialOf tz zip_no_len ?_)
  show wpAny _ _ (specialOf (Value.ref z) (Str.ofString "__length_hint__") >>= _) _ _ _
  refine wpAny_bind (wpAny_specialOf tz zip_no_hint (wpAny_pure ?_))
  show wpAny _ _ (rule "list.extend.makes-room" >>= fun _ => Builtin.List.listTouch (.ref s.heap.objs.size) >>= fun _ => again (.builtin "list.extend.loop" ⟨[.ref s.heap.objs.size, .ref z, .none], []⟩)) _ _ _
  refine wpAny_bind (wpAny_rule (wpAny_bind ?_))
  show wpAny _ _ (updateSeq s.heap.objs.size (·.push .none) >>= fun _ => updateSeq s.heap.objs.size (·.pop)) _ _ _
  refine wpAny_bind (wpAny_updateSeq at1 rfl ?_)
  have at2 := Heap.get?_update_self (Obj.mapSeq (·.push Value.none)) at1 rfl
  refine wpAny_updateSeq (hz := by seq_fits) at2 rfl ?_
  have at3 := Heap.get?_update_self (Obj.mapSeq (·.pop)) at2 rfl
  have old3 : ∀ b o, s.heap.get? b = some o → ((hp1.update s.heap.objs.size (Obj.mapSeq (·.push Value.none))).update s.heap.objs.size (Obj.mapSeq (·.pop))).get? b = some o := fun b o e => (Heap.get?_update_other _ _ (ne e)).trans ((Heap.get?_update_other _ _ (ne e)).trans (old1 b o e))
  have sz3 : ((hp1.update s.heap.objs.size (Obj.mapSeq (·.push Value.none))).update s.heap.objs.size (Obj.mapSeq (·.pop))).objs.size = s.heap.objs.size + 1 := by rw [Heap.size_update, Heap.size_update, sz1]
  generalize (hp1.update s.heap.objs.size (Obj.mapSeq (·.push Value.none))).update s.heap.objs.size (Obj.mapSeq (·.pop)) = hp3 at at3 old3 sz3
  refine wpAny_pure ⟨plainId_quiet PySem.F.plain_extend_loop _, ?_⟩
  refine zipLoop none1 D same few (B := s.heap.objs.size + 1) (fun b hb => ?_) (Nat.lt_succ_self _) ⟨ne hz, ne hTI, ne hTO, ne e1, ne e2, ne f1, ne f2⟩ xs.size 0 _ [] (Nat.zero_add _) (Nat.le_of_eq sz3.symm) ?_ ⟨_, at3⟩ fun h' tk Us c' u1 u0 u2 u3 u4 => ?_
  · have up : ∀ {b : Addr} {o : Obj}, s.heap.get? b = some o → b < s.heap.objs.size + 1 := fun e => Nat.lt_succ_of_lt (Heap.lt_size e)
    rcases hb with rfl | rfl | rfl | rfl | rfl | rfl | rfl
    · exact up hz
    · exact up hTI
    · exact up hTO
    · exact up e1
    · exact up e2
    · exact up f1
    · exact up f2
  · exact { pr := old3 _ _ hTI, w1 := h1.at fun o e => old3 _ o e, w2 := h2.at fun o e => old3 _ o e, a1 := g1.at fun o e => old3 _ o e, a2 := g2.at fun o e => old3 _ o e, zp := Or.inl ⟨old3 _ _ hz, _, _, old3 _ _ hTO⟩, len := rfl, nd := List.nodup_nil, out := fun j T hj => by simp at hj }
  · exact ⟨rfl, hQ h' tk Us c' u1 u0 u2 u3 fun b o b1 b2 b3 b4 e => u4 b o (Ne.symm (ne e)) b1 b2 b3 b4 (old3 b o e)⟩
end
section
variable {X : Cx} {K : PySem.W.Frag}
def tListZip (K : PySem.W.Frag) (ta : TA) : TE := fun σ H Q => ta σ H fun vs H1 => ∃ (a b : Addr) (xs ys : List V), vs = [.ref a, .ref b] ∧ SqL K H1 a xs ∧ SqL K H1 b ys ∧ xs.length ≤ ys.length ∧
  ∀ (L : Addr) (H2 : Hp) (Ts : List Addr), H1 L = none → Same H1 H2 → H2 L = some (.lst (Ts.map V.ref)) → Ts.length = xs.length → (∀ (j : Nat) (x y : V), xs[j]? = some x → ys[j]? = some y → ∃ T, Ts[j]? = some T ∧ H2 T = some (.tup [x, y])) → Q (.ref L) H2
theorem rd_lz {ta : TA} {σ : L2.St} {H : Hp} {Q : VK} (q : ta σ H fun vs H1 => ∃ (a b : Addr) (xs ys : List V), vs = [.ref a, .ref b] ∧ SqL K H1 a xs ∧ SqL K H1 b ys ∧ xs.length ≤ ys.length ∧
  ∀ (L : Addr) (H2 : Hp) (Ts : List Addr), H1 L = none → Same H1 H2 → H2 L = some (.lst (Ts.map V.ref)) → Ts.length = xs.length → (∀ (j : Nat) (x y : V), xs[j]? = some x → ys[j]? = some y → ∃ T, Ts[j]? = some T ∧ H2 T = some (.tup [x, y])) → Q (.ref L) H2) : tListZip K ta σ H Q := q
theorem vals_get {xs : List V} {us : List Value} (h : Vals xs us) : ∀ {j : Nat} {u : Value}, us[j]? = some u → ∃ x, xs[j]? = some x ∧ RelV x u := by
  induction h with
  | nil => intro j u e; simp at e
  | cons r _ ih =>
    intro j u e
    cases j with
    | zero => simp at e; subst e; exact ⟨_, rfl, r⟩
    | succ j => simpa using ih (by simpa using e)
def pick2 : List Addr → List V → List V → Addr → List V
  | T :: Ts, x :: xs, y :: ys, c => if c = T then [x, y] else pick2 Ts xs ys c
  | _, _, _, _ => []
theorem pick2_at : ∀ {Ts : List Addr} {xs ys : List V} {j : Nat} {T : Addr} {x y : V}, Ts.Nodup → Ts[j]? = some T → xs[j]? = some x → ys[j]? = some y → pick2 Ts xs ys T = [x, y]
  | [], _, _, j, T, x, y, _, h, _, _ => by simp at h
  | _ :: _, [], _, j, T, x, y, _, _, h, _ => by simp at h
  | _ :: _, _ :: _, [], j, T, x, y, _, _, _, h => by simp at h
  | T0 :: Ts, x0 :: xs, y0 :: ys, 0, T, x, y, _, h1, h2, h3 => by
    simp at h1 h2 h3
    rw [h1, h2, h3]
    exact if_pos rfl
  | T0 :: Ts, x0 :: xs, y0 :: ys, j + 1, T, x, y, nd, h1, h2, h3 => by
    simp at h1 h2 h3
    obtain ⟨n1, n2⟩ := List.nodup_cons.mp nd
    have ne : T ≠ T0 := fun z => n1 (by rw [← z]; exact List.mem_of_getElem? h1)
    exact (if_neg ne).trans (pick2_at n2 h1 h2 h3)
theorem vals_refs : ∀ Us : List Addr, Vals (Us.map V.ref) (Us.map Value.ref)
  | [] => .nil
  | _ :: Us => .cons rfl (vals_refs Us)
theorem pe_listZip {e e2 : Expr} {ta : TA} {p p2 pos q : Pos} (hc : X.calm = true) (hg : Gl X "list") (hm : X.mg "list" = none) (hg2 : Gl X "zip") (hm2 : X.mg "zip" = none) (ha : PA X [e, e2] ta)
    (hs : starEach [e, e2] X.env = (false, eval e X.env) :: starEach [e2] X.env := by rfl) (hpl : (backTo q (starEach [e2] X.env)).any (·.1) = false := by rfl) (h : X.K = K := by rfl) :
    PE X (.Call (.Name "list" p) [.Call (.Name "zip" p2) [e, e2] [] q] [] pos) (tListZip K ta) := by
  subst h
  refine ⟨fun pins s σ H Q I want => ?_⟩
  refine Call_ (ld_blt (u := .type "list") I hg hm (by decide +kernel) (PyProof.Rows.callWith_type1 (PyProof.Rows.args_cons ?_ rfl) rfl rfl))
  refine Call_ (ld_blt I hg2 hm2 PyProof.Rows.boot_zip (PyProof.Rows.callWith_type1 (thn (ha.run q pins s σ H _ I want) fun us s1 ⟨vs, H1, I1, r1, q1⟩ => ?_) hs hpl))
  obtain ⟨a, b, xs, ys, ex, hx, hy, len, qq⟩ := q1
  subst ex
  obtain ⟨u1, u2, rfl, ra, rb⟩ : ∃ u1 u2, us = [u1, u2] ∧ RelV (.ref a) u1 ∧ RelV (.ref b) u2 := by
    cases r1 with
    | cons r rr =>
      cases rr with
      | cons r' rr =>
        cases rr
        exact ⟨_, _, rfl, r, r'⟩
  cases ra
  cases rb
  obtain ⟨its, rv, p1, z1⟩ := I1.list hx
  obtain ⟨its2, rv2, p2', z2⟩ := I1.list hy
  have l1 := rv.length
  have l2 := rv2.length
  have la : a < s1.heap.objs.size := p1.lt
  have lb : b < s1.heap.objs.size := p2'.lt
  refine call_zip_2 p1.isList p2'.isList fun h' hz hTI hTO w1 w2 hsz hk => ?_
  refine PyProof.Rows.args_nil ?_
  have D : ZipApart (s1.heap.objs.size + 4) (s1.heap.objs.size + 2) (s1.heap.objs.size + 3) s1.heap.objs.size (s1.heap.objs.size + 1) a b := PySem.W.ktu_apart s1.heap.objs.size a b la lb
  have keepL : ∀ {l : Addr} {items : Array Value}, s1.heap.IsList l items → h'.IsList l items := fun g => g.at fun o e => hk _ o e
  refine listZip (s := { s1 with heap := h' }) (I1.ok.hd hc) D (xs := its.toArray) (ys := its2.toArray) (by rw [List.size_toArray, List.size_toArray]; omega) (by rw [List.size_toArray]; omega) hz hTI hTO w1 w2 (keepL p1.isList) (keepL p2'.isList) fun h2 tk Us c' n1 n0 n2 n3 n4 => ?_
  rw [List.size_toArray] at n1
  have above : ∀ {c : Addr} {o : Obj}, s1.heap.get? c = some o → h2.get? c = some o := fun {c o} e => by
    have lt := Heap.lt_size e
    exact n4 c o (Nat.ne_of_lt (Nat.lt_add_right 4 lt)) (Nat.ne_of_lt (Nat.lt_add_right 3 lt)) (Nat.ne_of_lt lt) (Nat.ne_of_lt (Nat.lt_add_right 1 lt)) (hk c o e)
  have hsz' : h'.objs.size = s1.heap.objs.size + 5 := hsz
  -- what is tracked from here on
  have bigT : ∀ (j : Nat) (T : Addr), Us[j]? = some T → h'.objs.size < T := fun j T hj => (n2 j T hj).1
  have newT : ∀ T ∈ Us, H1 T = none ∧ T ≠ h'.objs.size := fun T hT => by
    obtain ⟨j, hj⟩ := List.mem_iff_getElem?.mp hT
    have := bigT j T hj
    exact ⟨I1.hok.fresh (Nat.le_of_lt (Nat.lt_of_le_of_lt (by rw [hsz']; exact Nat.le_add_right _ _) this)), Nat.ne_of_gt this⟩
  have newL : H1 h'.objs.size = none := I1.hok.fresh (by rw [hsz']; exact Nat.le_add_right _ _)
  have at_ : ∀ (j : Nat) (T : Addr), Us[j]? = some T → ∃ x y u v, xs[j]? = some x ∧ ys[j]? = some y ∧ RelV x u ∧ RelV y v ∧ IsPair h2 T u v := fun j T hj => by
    obtain ⟨_, u, v, e1, e2, pr⟩ := n2 j T hj
    obtain ⟨x, ex, rx⟩ := vals_get rv (j := j) (u := u) (by simpa using e1)
    obtain ⟨y, ey, ry⟩ := vals_get rv2 (j := j) (u := v) (by simpa using e2)
    exact ⟨x, y, u, v, ex, ey, rx, ry, pr⟩
  let H2 : Hp := fun c => if c = h'.objs.size then some (.lst (Us.map V.ref)) else if c ∈ Us then some (.tup (pick2 Us xs ys c)) else H1 c
  have gL : H2 h'.objs.size = some (.lst (Us.map V.ref)) := if_pos rfl
  have gT : ∀ (j : Nat) (T : Addr) (x y : V), Us[j]? = some T → xs[j]? = some x → ys[j]? = some y → H2 T = some (.tup [x, y]) := fun j T x y hj hx hy => by
    have hT := List.mem_of_getElem? hj
    show (if T = h'.objs.size then _ else if T ∈ Us then _ else _) = _
    rw [if_neg (newT T hT).2, if_pos hT, pick2_at n0 hj hx hy]
  have same2 : Same H1 H2 := fun c o e => by
    have m1 : c ≠ h'.objs.size := fun z => by
      rw [z, newL] at e
      cases e
    have m2 : c ∉ Us := fun z => by
      rw [(newT c z).1] at e
      cases e
    show (if c = h'.objs.size then _ else if c ∈ Us then _ else _) = _
    rw [if_neg m1, if_neg m2]
    exact e
  have szU : (Us.map V.ref).length ≤ sizeLine := by rw [List.length_map, n1]; omega
  have un : Un (frs X.stack) [] H1 H2 s1.heap h2 := Un.more (fun c o e => above e) same2 fun c e lt => by
    show (if c = h'.objs.size then _ else if c ∈ Us then _ else _) = _
    rw [if_neg fun z => by rw [z, hsz'] at lt; exact Nat.not_lt_of_le (Nat.le_add_right _ 5) lt, if_neg fun z => ?_]
    · exact e
    · obtain ⟨j, hj⟩ := List.mem_iff_getElem?.mp z
      have q := bigT j c hj
      rw [hsz'] at q
      exact Nat.lt_irrefl _ (Nat.lt_of_lt_of_le (Nat.lt_of_lt_of_le lt (Nat.le_add_right _ 5)) (Nat.le_of_lt q))
  have hok : HOk X.prog X.w H2 h2 := HOk.more I1.hok (fun c o e => above e) same2 fun c o e0 e => by
    have e' : (if c = h'.objs.size then some (.lst (Us.map V.ref)) else if c ∈ Us then some (.tup (pick2 Us xs ys c)) else H1 c) = some o := e
    by_cases c1 : c = h'.objs.size
    · rw [if_pos c1] at e'
      cases e'
      subst c1
      exact ⟨szU, Us.map Value.ref, c', vals_refs Us, n3⟩
    · rw [if_neg c1] at e'
      by_cases c2 : c ∈ Us
      · obtain ⟨j, hj⟩ := List.mem_iff_getElem?.mp c2
        obtain ⟨x, y, u, v, ex, ey, rx, ry, pr⟩ := at_ j c hj
        have g := gT j c x y hj ex ey
        rw [e] at g
        cases g
        refine ⟨by show 2 ≤ sizeLine; decide, [u, v], .cons rx (.cons ry .nil), _, pr, rfl, 0, rfl⟩
      · rw [if_neg c2, e0] at e'
        cases e'
  exact ⟨.ref h'.objs.size, H2, I1.call' (ch := []) rfl un hok I1.bare (fun _ z => nomatch z), rfl, qq h'.objs.size H2 Us newL same2 gL (by rw [n1, l1]) fun j x y hx hy => by
    have lt : j < Us.length := by
      have := (List.getElem?_eq_some_iff.mp hx).1
      omega
    exact ⟨Us[j], List.getElem?_eq_getElem lt, gT j _ x y (List.getElem?_eq_getElem lt) hx hy⟩⟩
end
/-! ### list(s), list(x) and len(x) of a text or a list -/
section
variable {X : Cx} {K : PySem.W.Frag}
theorem vals_strs_of : ∀ (cs : List Nat) (us : List Value), us.length = cs.length → (∀ (j : Nat) (u : Value), us[j]? = some u → ∃ c t, cs[j]? = some c ∧ u = Value.str ⟨#[c]⟩ t) → Vals (cs.map fun c => V.str ⟨#[c]⟩) us
  | [], [], _, _ => .nil
  | [], _ :: _, h, _ => by simp at h
  | _ :: _, [], h, _ => by simp at h
  | c :: cs, u :: us, h, k => by
    obtain ⟨d, t, h1, h2⟩ := k 0 u rfl
    simp at h1
    subst h1
    exact .cons ⟨t, h2⟩ (vals_strs_of cs us (by simpa using h) fun j v hv => by
      obtain ⟨d, t, q1, q2⟩ := k (j + 1) v (by simpa using hv)
      exact ⟨d, t, by simpa using q1, q2⟩)
def rListS : List V → Hp → VK → Prop := fun xs H Q => ∃ z : Str, xs = [.str z] ∧ z.cps.size ≤ 4000 ∧ ∀ l, H l = none → Q (.ref l) (upd H l (.lst (z.cps.toList.map fun c => V.str ⟨#[c]⟩)))
theorem klistS (hc : X.calm = true) : CallR X (.type "list") rListS := by
  intro pins s σ H xs us Q I r h
  obtain ⟨z, rfl, few, q⟩ := h
  obtain ⟨u, rfl, t, rfl⟩ := vals1 r
  have lim : z.cps.size ≤ sizeLine := by rw [sizeLine_eq]; omega
  refine PySem.call_list_str (hn := lim) (I.ok.hd hc) z t fun h' tk acc c' keep at_ it => ?_
  have sz : (z.cps.toList.map fun c => V.str ⟨#[c]⟩).length ≤ sizeLine := by rw [List.length_map, Array.length_toList]; exact lim
  refine ⟨.ref s.heap.objs.size, _, I.laid (o := .lst (z.cps.toList.map fun c => V.str ⟨#[c]⟩)) keep (Nat.le_refl _) ⟨sz, acc.toList, c', ?_, at_⟩, rfl, q _ (I.hok.fresh (Nat.le_refl _))⟩
  refine vals_strs_of _ _ (by rw [Array.length_toList, Array.length_toList]; exact it.1) fun j u hu => ?_
  obtain ⟨c, t', e1, e2⟩ := it.2 j u (by simpa using hu)
  exact ⟨c, t', by simpa using e1, e2⟩
def qListA (K : PySem.W.Frag) : List V → Hp → VK → Prop := fun xs H Q => qList K xs H Q ∨ rListS xs H Q
theorem klistA (hc : X.calm = true) (h : X.K = K := by rfl) : CallR X (.type "list") (qListA K) := CallR.or (klist h) (klistS hc)
def qLenA (K : PySem.W.Frag) : List V → Hp → VK → Prop := fun xs H Q => qLen K xs H Q ∨ ∃ z, xs = [.str z] ∧ z.length ≤ sizeLine ∧ Q (.int z.length) H
theorem klenA (h : X.K = K := by rfl) : CallR X (.builtin "len") (qLenA K) := CallR.or (klen h) call_len_str
end
/-! ### s * n -/
def repS (z : Str) (n : Nat) : Str := ⟨(List.replicate n z.cps).foldl (· ++ ·) #[]⟩
theorem fold_size (z : Array Nat) : ∀ (n : Nat) (acc : Array Nat), ((List.replicate n z).foldl (· ++ ·) acc).size = acc.size + n * z.size
  | 0, acc => by simp
  | n + 1, acc => by
    rw [List.replicate_succ, List.foldl_cons, fold_size z n, Array.size_append, Nat.succ_mul]
    omega
theorem repS_len (z : Str) (n : Nat) : (repS z n).length = n * z.length := by
  have := fold_size z.cps n #[]
  simpa [repS, Str.length] using this
theorem repS_one (z : Str) : repS z 1 = z := by
  cases z with
  | mk c =>
    show (⟨#[] ++ c⟩ : Str) = ⟨c⟩
    rw [Array.empty_append]
theorem repS_nil (z : Str) (n : Nat) (h : z.length = 0) : repS z n = z := by
  have e := repS_len z n
  rw [h, Nat.mul_zero] at e
  cases z with
  | mk c =>
    have h1 : c = #[] := Array.eq_empty_of_size_eq_zero h
    have h2 : (repS ⟨c⟩ n).cps = #[] := Array.eq_empty_of_size_eq_zero e
    subst h1
    cases q : repS ⟨#[]⟩ n with
    | mk d =>
      rw [q] at h2
      rw [show d = #[] from h2]
def rRepS : R2 := fun x y H Q => ∃ (z : Str) (n : Nat), x = .str z ∧ y = .int (n : Int) ∧ n ≤ 1000 ∧ z.length ≤ 1000 ∧ Q (.str (repS z n)) H
theorem op_repS {X : Cx} : OpR X (binaryOp .Mult) rRepS := by
  intro pins s σ H x y v u Q I rx ry h
  obtain ⟨z, n, rfl, rfl, hn, hz, q⟩ := h
  obtain ⟨t, rfl⟩ := rx
  obtain ⟨t', rfl⟩ := ry
  have prod : z.length * n ≤ 1000 * 1000 := Nat.mul_le_mul hz hn
  have fits : Builtin.Str.tooLong (z.length * ((n : Nat) : Int).toNat) = false := by
    rw [Int.toNat_natCast]
    refine decide_eq_false ?_
    rw [sizeLine_eq]
    omega
  refine PySem.P.mul_str (by rw [decide_eq_false (by omega), decide_eq_false (by omega)]; rfl) (fun h1 _ => ?_) (fun _ _ => fits) ?_
  · have b : (1 : Int) ≤ n := by omega
    have d := Int.ediv_le_ediv (a := (2 ^ 63 - 1) / 1000 * n) (b := 2 ^ 63 - 1) (c := n) (by omega) (by omega)
    rw [Int.mul_ediv_cancel _ (by omega)] at d
    omega
  by_cases h0 : (n : Int) < 1
  · have e : n = 0 := by omega
    subst e
    rw [if_pos h0]
    exact ⟨by decide, ⟨.str (repS z 0), H, I.tok _, ⟨_, rfl⟩, q⟩⟩
  · rw [if_neg h0]
    by_cases h1 : ((n : Int) == 1 || z.length == 0) = true
    · rw [if_pos h1]
      have e : repS z n = z := by
        rcases Bool.or_eq_true_iff.mp h1 with k | k
        · have : n = 1 := by
            have := eq_of_beq k
            omega
          rw [this, repS_one]
        · exact repS_nil z n (eq_of_beq k)
      rw [e] at q
      exact ⟨.str z, H, I, ⟨_, rfl⟩, q⟩
    · rw [if_neg h1, Int.toNat_natCast]
      refine ⟨?_, ⟨.str (repS z n), H, I.tok _, ⟨_, rfl⟩, q⟩⟩
      have e := repS_len z n
      rw [Nat.mul_comm] at e
      show (repS z n).length ≤ sizeLine
      rw [sizeLine_eq]
      omega
/-! ### xs + ys of any two lists that are read -/
theorem meets_cat (l b : Addr) (xs ys : Array Value) (n m : Nat) (d1 d2 : Option Addr) (s1 s2 : Array (Option Value)) (few : xs.size + ys.size ≤ sizeLine) :
    Meets (Builtin.«list.__add__» ⟨[.ref l, .ref b], []⟩) (fun _ R s => s.heap.get? l = some { cls := .type "list", dict := d1, data := .seq xs n, slots := s1 } ∧ s.heap.get? b = some { cls := .type "list", dict := d2, data := .seq ys m, slots := s2 } ∧
      R (.ok (.ret (Value.ref s.heap.objs.size))) { s with heap := s.heap.push { cls := Value.type "list", data := Data.seq (xs ++ ys) }, toks := s.toks }) :=
  .of_wp fun prog w A R s h => by
    obtain ⟨hp, gs, dr, tk, os⟩ := s
    obtain ⟨h1, h2, fin⟩ := h
    have j1 := PySem.AutoSeq1.idx_int
    have j2 := PySem.AutoSeq1.sub_tuple_tuple
    have j3 := PySem.AutoSeq1.sub_list_list
    have j4 := PySem.AutoSeq1.sub_tuple_list
    have j5 := PySem.AutoSeq1.sub_list_tuple
    wp_walk using PySem.AutoSeq1.wpAny_loadPart' h1, PySem.AutoSeq1.wpAny_loadPart' h2
    exact ⟨_, rfl, fin⟩
section
variable {X : Cx} {K : PySem.W.Frag}
def rCatL (K : PySem.W.Frag) : R2 := fun x y H Q => ∃ a b xs ys, x = .ref a ∧ y = .ref b ∧ SqL K H a xs ∧ SqL K H b ys ∧ xs.length + ys.length ≤ sizeLine ∧ ∀ p, H p = none → Q (.ref p) (upd H p (.lst (xs ++ ys)))
theorem op_catL (h : X.K = K := by rfl) : OpR X (binaryOp .Add) (rCatL K) := by
  subst h
  intro pins s σ H x y v u Q I rx ry want
  obtain ⟨a, b, xs, ys, rfl, rfl, ha, hb, few, q⟩ := want
  cases rx
  cases ry
  obtain ⟨its, r1, ⟨⟨c1, d1, e1, s1⟩, n1, g1, hc1, hd1, he1⟩, _⟩ := I.list ha
  obtain ⟨its2, r2, ⟨⟨c2, d2, e2, s2⟩, n2, g2, hc2, hd2, he2⟩, _⟩ := I.list hb
  simp only at hc1 hc2 he1 he2
  subst hc1 hc2 he1 he2
  have z1 := r1.length
  have z2 := r2.length
  refine PySem.concat_meets ⟨_, g1, rfl⟩ ⟨_, g2, rfl⟩ PySem.noFill_list_add PySem.seq_list_add PySem.F.slot_list_add PySem.F.entry_list_add (PySem.F.args_list_add_2 _ _) (meets_cat a b its.toArray its2.toArray n1 n2 d1 d2 s1 s2 (by rw [List.size_toArray, List.size_toArray]; omega)) ⟨g1, g2, ?_⟩
  have e : its.toArray ++ its2.toArray = (its ++ its2).toArray := by simp
  rw [e]
  exact ⟨.ref _, _, I.lnew (t' := s.toks) (r1.append r2) (by rw [List.length_append]; omega), rfl, q _ I.fresh⟩
end
end LX


/-! ### sets of one kind of keys: made from lists and texts, counted, sorted -/
namespace LX
open PySem PySem.Spec PyProof.Rows L2
/-- what a kind of keys must tell -/
structure KyOk {P : Program} {w : World} {κ : Type} [DecidableEq κ] (knd : PySem.KeyKind P w κ) (val : κ → Tok → Value) (key : Value → κ) : Prop where
  back : ∀ k t, key (val k t) = k
  isv : ∀ k k' t, knd.is k (val k' t) = true ↔ k' = k
  scan : ∀ k t, (val k t).scannable = true
section
variable {P : Program} {w : World} {κ : Type} [DecidableEq κ] {knd : PySem.KeyKind P w κ} {val : κ → Tok → Value} {key : Value → κ}
def entK (knd : PySem.KeyKind P w κ) (val : κ → Tok → Value) (e : Int × Value) : Prop := ∃ k t, e = (knd.hash k, val k t)
abbrev keysOf (key : Value → κ) (es : Array (Int × Value)) : List κ := es.toList.map fun e => key e.2
/-- the set at a: S its members, n of them -/
structure StK (knd : PySem.KeyKind P w κ) (val : κ → Tok → Value) (key : Value → κ) (h : Heap) (a : Addr) (S : κ → Bool) (n : Nat) (o : Obj) (es : Array (Int × Value)) (ep : Nat) (t : SetTable) : Prop where
  here : h.get? a = some o
  exact_ : o.ExactSet
  data : o.data = .set es ep t
  ent : ∀ e ∈ es.toList, entK knd val e
  nodup : (keysOf key es).Nodup
  mem : ∀ k, S k = true ↔ k ∈ keysOf key es
  room : es.size < scanBound
  fits : t.fits es.size = true
  num : es.size = n
  ris : Ris t.place.toList
  led : w.params.followText "set-order" = true ∨ t.led = true
def SetK1 (knd : PySem.KeyKind P w κ) (val : κ → Tok → Value) (key : Value → κ) (h : Heap) (a : Addr) (S : κ → Bool) (n : Nat) : Prop := ∃ o es ep t, StK knd val key h a S n o es ep t
theorem SetK1.keep {h h' : Heap} {a : Addr} {S : κ → Bool} {n : Nat} (R : SetK1 knd val key h a S n) (k : ∀ o, h.get? a = some o → h'.get? a = some o) : SetK1 knd val key h' a S n :=
  let ⟨o, es, ep, t, T⟩ := R
  ⟨o, es, ep, t, { T with here := k o T.here }⟩
theorem SetK1.congr {h : Heap} {a : Addr} {S S' : κ → Bool} {n n' : Nat} (R : SetK1 knd val key h a S n) (e : ∀ k, S' k = S k) (e2 : n' = n) : SetK1 knd val key h a S' n' := by
  rw [e2, show S' = S from funext e]
  exact R
variable (ok : KyOk knd val key)
include ok
theorem ents_elems {l : List (Int × Value)} (g : ∀ e ∈ l, entK knd val e) : ElemsOf knd l := fun e he => by
  obtain ⟨k, t, rfl⟩ := g e he
  exact ⟨⟨k, (ok.isv k k t).mpr rfl, rfl⟩, ok.scan k t⟩
theorem ents_is {e : Int × Value} (g : entK knd val e) (k : κ) : knd.is k e.2 = true ↔ key e.2 = k := by
  obtain ⟨k0, t, rfl⟩ := g
  show knd.is k (val k0 t) = true ↔ key (val k0 t) = k
  rw [ok.isv, ok.back]
theorem SetK1.setOf {h : Heap} {a : Addr} {S : κ → Bool} {n : Nat} (R : SetK1 knd val key h a S n) : h.SetOf knd a S n := by
  obtain ⟨o, es, ep, t, T⟩ := R
  refine ⟨o, es, ep, t, T.here, T.exact_, T.data, ents_elems ok T.ent, fun k => (T.mem k).trans ?_, T.room, T.fits, T.num⟩
  rw [List.mem_map]
  exact ⟨fun ⟨e, he, q⟩ => ⟨e, he, (ents_is ok (T.ent e he) k).mpr q⟩, fun ⟨e, he, q⟩ => ⟨e, he, (ents_is ok (T.ent e he) k).mp q⟩⟩
/-! ### one more member -/
omit ok in
theorem putK {A : Around} {E : Value → Shared → Prop} {s : Shared} {a : Addr} {o : Obj} {es es1 : Array (Int × Value)} {ep n' : Nat} {t t1 : SetTable} {S' : κ → Bool} {gv : Bool → Sem Unit} {old : Bool} {R : Option Bool → Shared → Prop}
    (ho : s.heap.get? a = some o) (hx : o.ExactSet) (hd : o.data = .set es ep t) (hgv : ∀ (b : Bool) (s1 : Shared) (R' : Unit → Shared → Prop), R' () s1 → wpAny (model P w) A (gv b) R' E s1)
    (c1 : ∀ e ∈ es1.toList, entK knd val e) (c2 : (keysOf key es1).Nodup) (c3 : ∀ k, S' k = true ↔ k ∈ keysOf key es1) (c4 : es1.size < scanBound) (c5 : t1.fits es1.size = true) (c6 : es1.size = n')
    (c7 : Ris t1.place.toList) (c8 : w.params.followText "set-order" = true ∨ t1.led = true)
    (hR : ∀ h', Heap.SameBut a s.heap h' → SetK1 knd val key h' a S' n' → R (some true) { s with heap := h' }) :
    wpAny (model P w) A (do
        storeSet a es1 t1
        if (!old && t1.tooFull) = true then do
            gv (relayAll t1 es1 (SetTable.grown es1.size)).2.2
            storeSet a (relayAll t1 es1 (SetTable.grown es1.size)).1 (relayAll t1 es1 (SetTable.grown es1.size)).2.1
            pure (some true)
          else pure (some true)) R E s := by
  have s1 := Heap.SameBut.update s.heap a (Obj.putSet es1 t1)
  have o1 := store_at (es' := es1) (t' := t1) ho hd
  refine wpAny_bind (wpAny_storeSet_of ho hd ?_ (fits_of_scanBound c4))
  by_cases full : (!old && t1.tooFull) = true
  · rw [if_pos full]
    have d1 := relayAll_perm t1 es1 (SetTable.grown es1.size)
    have d2 := relayAll_fits t1 es1 (SetTable.grown es1.size)
    have d3 := relayAll_ris t1 es1 (SetTable.grown es1.size)
    have d4 := relayAll_led t1 es1 (SetTable.grown es1.size)
    generalize relayAll t1 es1 (SetTable.grown es1.size) = big at d1 d2 d3 d4 ⊢
    obtain ⟨es2, t2, gave⟩ := big
    dsimp only at d1 d2 d3 d4 ⊢
    have z2 : es2.size = es1.size := by
      have q := d1.length_eq
      rwa [Array.length_toList, Array.length_toList] at q
    have o2 := store_at (es' := es2) (t' := t2) o1 rfl
    have all2 := fun e (he : e ∈ es2.toList) => c1 e (d1.mem_iff.mp he)
    have n2 : (keysOf key es2).Nodup := (d1.map _).nodup_iff.mpr c2
    have m2 : ∀ k, S' k = true ↔ k ∈ keysOf key es2 := fun k => (c3 k).trans (d1.map _).mem_iff.symm
    refine wpAny_bind (hgv _ _ _ (wpAny_bind (wpAny_storeSet_of o1 rfl ?_ (fits_of_scanBound (by rw [z2]; exact c4)))))
    exact wpAny_pure (hR _ (s1.trans (Heap.SameBut.update _ a _)) ⟨_, es2, _, t2, { here := o2, exact_ := hx, data := rfl, ent := all2, nodup := n2, mem := m2, room := by rw [z2]; exact c4, fits := d2, num := z2.trans c6, ris := d3, led := c8.imp id fun z => d4.trans z }⟩)
  · rw [if_neg full]
    exact wpAny_pure (hR _ s1 ⟨_, es1, _, t1, { here := o1, exact_ := hx, data := rfl, ent := c1, nodup := c2, mem := c3, room := c4, fits := c5, num := c6, ris := c7, led := c8 }⟩)
theorem addK {A : Around} {E : Value → Shared → Prop} {s : Shared} {a : Addr} {S : κ → Bool} {n : Nat} {k : κ} {tk : Tok} {Q : Bool → Shared → Prop} (R : SetK1 knd val key s.heap a S n) (few : n + 1 < scanBound)
    (hQ : ∀ h', Heap.SameBut a s.heap h' → SetK1 knd val key h' a (fun j => S j || decide (j = k)) (if S k = true then n else n + 1) → Q (!S k) { s with heap := h' }) :
    wpAny (model P w) A (setAddHashed a (val k tk) (knd.hash k)) Q E s := by
  obtain ⟨o, es, ep, t, T⟩ := R
  have el := ents_elems ok T.ent
  have kk : knd.is k (val k tk) = true := (ok.isv k k tk).mpr rfl
  unfold setAddHashed setAddHashedIn
  refine wpAny_holding (wpAny_bind (wpAny_setState_of T.here T.data T.fits ?_))
  dsimp only
  rw [byScan_of (ok.scan k tk) T.room el, if_pos rfl]
  unfold setAddByScan
  refine wpAny_bind (wpAny_bind (wpAny_rule (wpAny_bind (wpAny_setScan_of kk T.here T.data T.fits el ?_))))
  cases place : es.toList.findIdx? (fun e => knd.is k e.2) with
  | some j =>
    obtain ⟨lt, at_, _⟩ := List.findIdx?_eq_some_iff_getElem.mp place
    have inS : S k = true := (T.mem k).mpr (List.mem_map.mpr ⟨es.toList[j], List.getElem_mem lt, (ents_is ok (T.ent _ (List.getElem_mem lt)) k).mp at_⟩)
    have same : ∀ i, (S i || decide (i = k)) = S i := fun i => by
      by_cases c : i = k
      · rw [c, inS]
        rfl
      · rw [decide_eq_false c, Bool.or_false]
    have fin := hQ s.heap (Heap.SameBut.refl a s.heap) (SetK1.congr ⟨o, es, ep, t, T⟩ same (if_pos inS))
    rw [inS] at fin
    exact wpAny_pure (wpAny_pure fin)
  | none =>
    have notIn : k ∉ keysOf key es := fun z => by
      obtain ⟨e, he, q⟩ := List.mem_map.mp z
      have c := List.findIdx?_eq_none_iff.mp place e he
      rw [(ents_is ok (T.ent e he) k).mpr q] at c
      cases c
    have outS : S k = false := Bool.eq_false_iff.mpr fun z => notIn ((T.mem k).mp z)
    have gone : ∀ (b : Bool) {s1 : Shared} {R' : Unit → Shared → Prop}, R' () s1 → wpAny (model P w) A (match b with | true => rule "set.scan.the-table-gave-way" | false => pure ()) R' E s1 := fun b s1 R' q => by
      cases b
      · exact wpAny_pure q
      · exact wpAny_rule q
    have d1 := layNew_perm t es (knd.hash k) (val k tk)
    have d2 := layNew_fits t es (knd.hash k) (val k tk)
    have d3 := layNew_ris t es (knd.hash k) (val k tk) T.ris
    have d4 := layNew_led t es (knd.hash k) (val k tk)
    dsimp only
    generalize layNew t es (knd.hash k) (val k tk) = made at d1 d2 d3 d4 ⊢
    obtain ⟨es1, t1, old, gave⟩ := made
    dsimp only at d1 d2 d3 d4 ⊢
    rw [Array.toList_push] at d1
    have pe : es1.toList.Perm ((knd.hash k, val k tk) :: es.toList) := d1.trans (List.perm_append_singleton _ _)
    have pk : (keysOf key es1).Perm (k :: keysOf key es) := by
      have q := pe.map fun e : Int × Value => key e.2
      rw [List.map_cons] at q
      rw [show key (knd.hash k, val k tk).2 = k from ok.back k tk] at q
      exact q
    have z1 : es1.size = n + 1 := by
      have q := pe.length_eq
      rw [List.length_cons, Array.length_toList, Array.length_toList, T.num] at q
      exact q
    have e1 : ∀ e ∈ es1.toList, entK knd val e := fun e he => by
      rcases List.mem_cons.mp (pe.mem_iff.mp he) with z | z
      · exact ⟨k, tk, z⟩
      · exact T.ent e z
    have m1 : ∀ i, (S i || decide (i = k)) = true ↔ i ∈ keysOf key es1 := fun i => by
      rw [pk.mem_iff, List.mem_cons, Bool.or_eq_true, decide_eq_true_eq, T.mem i, or_comm]
    have n1 : (keysOf key es1).Nodup := pk.nodup_iff.mpr (List.nodup_cons.mpr ⟨notIn, T.nodup⟩)
    have fin : ∀ h', Heap.SameBut a s.heap h' → SetK1 knd val key h' a (fun j => S j || decide (j = k)) (n + 1) → Q true { s with heap := h' } := fun h' sb r => by
      have q := hQ h' sb
      rw [outS] at q
      exact q r
    have rm : es1.size < scanBound := by rw [z1]; exact few
    have ld : w.params.followText "set-order" = true ∨ t1.led = true := T.led.imp id fun z => d4.trans z
    refine wpAny_bind (gone _ ?_)
    split
    · refine wpAny_bind ?_
      rw [hashByValue_scannable 8 (ok.scan k tk)]
      refine wpAny_pure ?_
      refine putK (knd := knd) (val := val) (key := key) T.here T.exact_ T.data (fun b s1 R' q => ?_) e1 n1 m1 rm ?_ z1 ?_ ?_ fun h' sb r => ?_
      · cases b <;> first | exact wpAny_pure q | exact wpAny_rule q
      · first | exact d2 | (split <;> first | exact d2 | exact SetTable.fits_plain_off d2)
      · first | exact d3 | (split <;> exact d3)
      · first | exact ld | (split <;> exact ld)
      · dsimp only
        exact wpAny_pure (fin h' sb r)
    · refine wpAny_bind (wpAny_pure ?_)
      rw [if_pos rfl]
      refine putK (knd := knd) (val := val) (key := key) T.here T.exact_ T.data (fun b s1 R' q => ?_) e1 n1 m1 rm d2 z1 d3 ld fun h' sb r => ?_
      · cases b <;> first | exact wpAny_pure q | exact wpAny_rule q
      · dsimp only
        exact wpAny_pure (fin h' sb r)
/-! ### all of a walk, one after the other -/
omit ok in
/-- each once, as met first -/
def dd (xs : List κ) : List κ := xs.foldl (fun acc x => if x ∈ acc then acc else acc ++ [x]) []
omit ok in
theorem dd_snoc (xs : List κ) (x : κ) : dd (xs ++ [x]) = if x ∈ dd xs then dd xs else dd xs ++ [x] := by
  unfold dd
  rw [List.foldl_append]
  rfl
omit ok in
theorem dd_mem : ∀ (xs : List κ) (acc : List κ) (x : κ), x ∈ xs.foldl (fun acc x => if x ∈ acc then acc else acc ++ [x]) acc ↔ x ∈ acc ∨ x ∈ xs
  | [], acc, x => by simp
  | y :: ys, acc, x => by
    rw [List.foldl_cons, dd_mem ys, List.mem_cons]
    by_cases c : y ∈ acc
    · rw [if_pos c]
      constructor
      · rintro (h | h)
        · exact Or.inl h
        · exact Or.inr (Or.inr h)
      · rintro (h | rfl | h)
        · exact Or.inl h
        · exact Or.inl c
        · exact Or.inr h
    · rw [if_neg c, List.mem_append, List.mem_singleton, or_assoc]
omit ok in
theorem mem_dd {xs : List κ} {x : κ} : x ∈ dd xs ↔ x ∈ xs := by
  have := dd_mem xs [] x
  simpa [dd] using this
omit ok in
theorem dd_nodup (xs : List κ) : (dd xs).Nodup := by
  have go : ∀ (ys acc : List κ), acc.Nodup → (ys.foldl (fun acc x => if x ∈ acc then acc else acc ++ [x]) acc).Nodup := by
    intro ys
    induction ys with
    | nil => exact fun acc h => h
    | cons y ys ih =>
      intro acc h
      rw [List.foldl_cons]
      by_cases c : y ∈ acc
      · rw [if_pos c]
        exact ih acc h
      · rw [if_neg c]
        refine ih _ (List.nodup_append.mpr ⟨h, List.nodup_cons.mpr ⟨by simp, List.nodup_nil⟩, fun u hu v hv e => ?_⟩)
        rw [List.mem_singleton] at hv
        exact c (by rw [← hv, ← e]; exact hu)
  exact go xs [] List.nodup_nil
omit ok in
theorem dd_le (xs : List κ) : (dd xs).length ≤ xs.length := by
  have go : ∀ (ys acc : List κ), (ys.foldl (fun acc x => if x ∈ acc then acc else acc ++ [x]) acc).length ≤ acc.length + ys.length := by
    intro ys
    induction ys with
    | nil => exact fun acc => Nat.le_refl _
    | cons y ys ih =>
      intro acc
      rw [List.foldl_cons, List.length_cons]
      refine Nat.le_trans (ih _) ?_
      by_cases c : y ∈ acc
      · rw [if_pos c]
        omega
      · rw [if_neg c, List.length_append, List.length_singleton]
        omega
  have := go xs []
  simpa [dd] using this
theorem walkK {A : Around} {R : Result → Shared → Prop} {I D : Addr} {fp wr : List Addr} {G : Array GenState → Array GenState → Prop} {Pv : Nat → Value → Prop} {St : Nat → Shared → Prop} {xs : List κ} (W : WalksS P w A.in1 I fp wr G xs.length Pv St) (nD : D ∉ fp)
    (few : xs.length + 1 < scanBound) (hval : ∀ i v, Pv i v → ∃ k t, xs[i]? = some k ∧ v = val k t) :
    ∀ (m i : Nat) (s : Shared), i + m = xs.length → St i s → SetK1 knd val key s.heap D (fun k => decide (k ∈ xs.take i)) (dd (xs.take i)).length →
      (∀ s', Moved (D :: wr) G s s' → SetK1 knd val key s'.heap D (fun k => decide (k ∈ xs)) (dd xs).length → R (.ok (.ret .none)) s') →
      codeAny (model P w) A (.builtin "set.update.loop" ⟨[.ref D, .ref I], []⟩) R s := by
  have nDw : D ∉ wr := fun z => nD (W.sub _ z)
  have more : ∀ b ∈ wr, b ∈ D :: wr := fun b z => List.mem_cons_of_mem _ z
  intro m
  induction m with
  | zero =>
    intro i s hi st hS hR
    have e : i = xs.length := by omega
    subst e
    rw [List.take_length] at hS
    refine codeAny_builtin PyProof.Rows.F.entry_set_update_loop ?_
    rw [Around.under_plainId PyProof.Rows.F.plain_set_update_loop _]
    show wpAny _ A.in1 (pyNext (.ref I) >>= _) _ _ s
    refine wpAny_bind (W.done s _ _ st fun s1 mv => ?_)
    exact wpAny_pure (hR s1 (mv.mono more) (hS.keep fun o e => mv.heap D o nDw e))
  | succ m ih =>
    intro i s hi st hS hR
    have lt : i < xs.length := by omega
    refine codeAny_builtin PyProof.Rows.F.entry_set_update_loop ?_
    rw [Around.under_plainId PyProof.Rows.F.plain_set_update_loop _]
    show wpAny _ A.in1 (pyNext (.ref I) >>= _) _ _ s
    refine wpAny_bind (W.item i s _ _ lt st fun v s1 hP st1 mv => ?_)
    obtain ⟨k, tk, hk, rfl⟩ := hval i v hP
    have S1 := hS.keep (h' := s1.heap) fun o e => mv.heap D o nDw e
    have tk1 : xs.take (i + 1) = xs.take i ++ [k] := by rw [List.take_add_one, hk]; rfl
    have hl : (dd (xs.take i)).length ≤ i := Nat.le_trans (dd_le _) (by rw [List.length_take]; omega)
    show wpAny _ A.in1 (holding [val k tk] (setAdd D (val k tk)) >>= _) _ _ s1
    refine wpAny_bind (wpAny_holding ?_)
    unfold setAdd
    refine wpAny_holding (wpAny_bind (knd.pyHash (k := k) ((ok.isv k k tk).mpr rfl) ?_))
    refine addK ok (s := { s1 with toks := s1.toks + 1 }) S1 (by omega) fun h' sb S2 => ?_
    have S3 : SetK1 knd val key h' D (fun k => decide (k ∈ xs.take (i + 1))) (dd (xs.take (i + 1))).length := by
      refine S2.congr (fun j => ?_) ?_
      · rw [tk1]
        simp [List.mem_append]
      · rw [tk1, dd_snoc]
        by_cases c : k ∈ xs.take i
        · rw [if_pos (mem_dd.mpr c), if_pos (decide_eq_true c)]
        · rw [if_neg fun z => c (mem_dd.mp z), if_neg (by simpa using c), List.length_append]
          rfl
    refine wpAny_pure ⟨plainId_quiet PyProof.Rows.F.plain_set_update_loop _, ih (i + 1) _ (by omega) (W.frame _ s1 _ _ st1 (Nat.le_succ _) fun b hb o e => ?_) S3 fun s2 mv2 S4 => ?_⟩
    · exact (sb.2 b fun z => nD (z ▸ hb)).trans e
    · refine hR s2 (Moved.trans W.gtrans ((mv.mono more).then_heap (Nat.le_succ _) fun b o hb e => ?_) mv2) S4
      exact (sb.2 b fun z => hb (by rw [z]; exact List.mem_cons_self)).trans e
omit ok in
theorem freshK {h : Heap} : SetK1 knd val key (h.push { cls := .type "set", dict := none, data := .set #[] 0 (.fresh 0 0 (!w.params.followText "set-order")) }) h.objs.size (fun _ => false) 0 := by
  refine ⟨_, #[], 0, _, { here := Heap.get?_push_size _ rfl, exact_ := ⟨rfl, rfl, rfl⟩, data := rfl, ent := fun e he => by simp at he, nodup := List.nodup_nil, mem := fun k => ⟨fun z => Bool.noConfusion z, fun z => by simp at z⟩, room := by decide, fits := by rfl, num := rfl, ris := List.Pairwise.nil, led := ?_ }⟩
  cases w.params.followText "set-order"
  · exact Or.inr rfl
  · exact Or.inl rfl
end
section
variable {P : Program} {w : World} {A : Around} {E : Value → Shared → Prop} {s : Shared}
/-- set.__new__ of one argument: which set it is, to the letter -/
theorem new_led1 (v : Value) {Q1 : Value → Shared → Prop}
    (h : Q1 (.ref s.heap.objs.size) { s with heap := s.heap.push { cls := .type "set", dict := none, data := .set #[] 0 (.fresh 0 0 (!w.params.followText "set-order")) } }) :
    codeAny (model P w) A (.call (.builtin "set.__new__") ⟨[.type "set", v], []⟩) (wants Q1 E) s := by
  refine codeAny_of_tree (show wpAny _ A.in1 (do checkBuiltinCall "set.__new__" ⟨[.type "set", v], []⟩; again (.builtin "set.__new__" ⟨[.type "set", v], []⟩)) _ _ s from ?_)
  refine wpAny_bind (wpAny_of_eq (PySem.F.newCall_set_1 v) (wpAny_pure ⟨plainId_quiet PySem.F.plain_set_new _, codeAny_builtin PySem.F.entry_set_new ?_⟩))
  rw [Around.under_plainId PySem.F.plain_set_new _]
  have isSet := PySem.sub_set_self
  obtain ⟨hp, gs, dr, tk, os⟩ := s
  unfold Builtin.«set.__new__» Builtin.Frozenset.newClass
  dsimp only
  wp_walk
  refine wpAny_askSetting (wpAny_pure ?_)
  dsimp only [newObj]
  exact wpAny_bind (wpAny_alloc (wpAny_pure (wpAny_pure h)))
/-- what an iteration of v gives -/
def Iters (P : Program) (w : World) (s : Shared) (v : Value) (Pv : Nat → Value → Prop) (n : Nat) : Prop := ∀ (s1 : Shared) (A1 : Around) (E1 : Value → Shared → Prop) (Q1 : Value → Shared → Prop), (∀ b o, s.heap.get? b = some o → s1.heap.get? b = some o) → A1.handled = none →
  (∀ (h2 : Heap) (tk : Nat) (I : Addr) (fp : List Addr) (St : Nat → Heap → Prop), (∀ b o, s1.heap.get? b = some o → h2.get? b = some o) → s1.heap.objs.size ≤ I → (∀ b ∈ fp, b < s.heap.objs.size ∨ s1.heap.objs.size ≤ b) →
    (∀ A' : Around, A'.handled = none → Walks P w A' I fp [I] n Pv St) → St 0 h2 → Q1 (.ref I) { s1 with heap := h2, toks := tk }) → wpAny (model P w) A1 (pyIter v) Q1 E1 s1
variable {κ : Type} [DecidableEq κ] {knd : PySem.KeyKind P w κ} {val : κ → Tok → Value} {key : Value → κ}
theorem setOfK (ok : KyOk knd val key) {v : Value} {T : String} {xs : List κ} {Pv : Nat → Value → Prop} {Q : Value → Shared → Prop} (hh : A.handled = none) (hT : ∀ s1 : Shared, (∀ b o, s.heap.get? b = some o → s1.heap.get? b = some o) → s1.TypeIs v T)
    (t1 : isSubtype (.type T) (.type "set") = pure false) (t2 : isSubtype (.type T) (.type "frozenset") = pure false) (t3 : (Value.type T == Value.type "dict") = false) (few : xs.length + 1 < scanBound)
    (it : Iters P w s v Pv xs.length) (hval : ∀ i u, Pv i u → ∃ k t, xs[i]? = some k ∧ u = val k t)
    (hQ : ∀ (h' : Heap) (tk : Nat), SetK1 knd val key h' s.heap.objs.size (fun k => decide (k ∈ xs)) (dd xs).length → (∀ b o, s.heap.get? b = some o → h'.get? b = some o) → Q (.ref s.heap.objs.size) { s with heap := h', toks := tk }) :
    wpAny (model P w) A (call (.type "set") [v]) Q E s := by
  obtain ⟨c, tl, hmro⟩ := PySem.F.called_set.mro
  have hmade := PySem.F.called_set.made
  have hsub := PySem.F.called_set.sub
  have h1 := PySem.F.called_set.notType
  have h2 := PySem.F.called_set.canCreate
  have hct := PySem.F.typeCall_set_1 v
  refine wpAny_call (codeAny_of_tree (show wpAny _ _ (callAny (.type "set") _) _ _ _ from ?_))
  refine wpAny_pure ⟨Code.quiet_builtin _ (by decide +kernel), codeAny_builtin PySem.F.entry_type_call ?_⟩
  rw [Around.under_plain (weight_type_call_type "set" [v] []) rfl]
  repeat (any_goals (first | assumption | wp_step))
  generalize hB : ({ cls := .type "set", dict := none, data := .set #[] 0 (.fresh 0 0 (!w.params.followText "set-order")) } : Obj) = B
  refine codeAny_mono (new_led1 v (E := E) (Q1 := fun obj s1 => obj = .ref s.heap.objs.size ∧ s1 = { s with heap := s.heap.push B }) (by rw [← hB]; exact ⟨rfl, rfl⟩)) fun r s1 hr => ?_
  match r, hr with
  | .error e, hr => exact hr
  | .ok .next, hr => exact hr.elim
  | .ok .brk, hr => exact hr.elim
  | .ok .cont, hr => exact hr.elim
  | .ok (.ret obj), hr =>
    obtain ⟨rfl, rfl⟩ := hr
    have live : B.isFreed = false := by rw [← hB]; rfl
    have at0 : (s.heap.push B).get? s.heap.objs.size = some B := Heap.get?_push_size _ live
    have old : ∀ b o, s.heap.get? b = some o → (s.heap.push B).get? b = some o := fun b o e => Heap.get?_push_of_some _ e
    have ty : Shared.TypeIs { s with heap := s.heap.push B } (.ref s.heap.objs.size) "set" := ⟨_, at0, by rw [← hB]⟩
    have tv := hT { s with heap := s.heap.push B } old
    have hli := PySem.F.called_set.init.lookup
    have hbi := PySem.F.called_set.init.bind (.ref s.heap.objs.size)
    repeat (any_goals (first | assumption | wp_step))
    refine codeAny_mono (codeAny_call_builtin (R := wants (fun r s2 => r = .none ∧ ∃ h' tk, s2 = { s with heap := h', toks := tk } ∧ SetK1 knd val key h' s.heap.objs.size (fun k => decide (k ∈ xs)) (dd xs).length ∧ ∀ b o, s.heap.get? b = some o → h'.get? b = some o) E)
      PySem.F.called_set.init.plain PySem.F.entry_set_init (PySem.check_set_init_1 ty ?_)) fun r2 s2 hr2 => ?_
    · have at0' : (s.heap.push { cls := .type "set", dict := none, data := .set #[] 0 (.fresh 0 0 (!w.params.followText "set-order")) }).get? s.heap.objs.size = some { cls := .type "set", dict := none, data := .set #[] 0 (.fresh 0 0 (!w.params.followText "set-order")) } := by
        rw [hB]
        exact at0
      unfold Builtin.«set.__init__» noKeywords Builtin.Frozenset.updateFrom
      generalize hPI : pyIter = PI
      subst hB
      wp_walk
      subst hPI
      refine it _ _ _ _ old (by simp [hh]) fun h2 tk I fp St k2 hI hfp W st => ?_
      rw [Heap.size_push] at hI hfp
      refine wpAny_bind (wpAny_runValue ?_)
      have off : s.heap.objs.size ∉ fp := fun z => by
        rcases hfp _ z with q | q
        · exact Nat.lt_irrefl _ q
        · exact Nat.not_succ_le_self _ q
      have none_ : A.in1.in1.in1.handled = none := by simp [hh]
      refine walkK ok (Walks.toS (W _ none_)) off few hval xs.length 0 _ (Nat.zero_add _) st ?_ fun s3 mv S3 => ?_
      · refine (freshK.keep (h' := h2) fun o e => k2 _ o e).congr (fun k => ?_) rfl
        simp
      · have e3 := mv.eq_with
        refine wpAny_pure (wpAny_pure ⟨rfl, s3.heap, s3.toks, by rw [e3], S3, fun b o e => mv.heap b o (fun z => ?_) (k2 _ _ (old b o e))⟩)
        have lt := Heap.lt_size e
        rcases List.mem_cons.mp z with z | z
        · exact Nat.lt_irrefl _ (z ▸ lt)
        · rw [List.mem_singleton.mp z] at lt
          exact Nat.lt_irrefl _ (Nat.lt_trans lt hI)
    · match r2, hr2 with
      | .error e, hr2 => exact hr2
      | .ok .next, hr2 => exact hr2.elim
      | .ok .brk, hr2 => exact hr2.elim
      | .ok .cont, hr2 => exact hr2.elim
      | .ok (.ret u), hr2 =>
        obtain ⟨rfl, h', tk, rfl, S', keep⟩ := hr2
        repeat (any_goals (first | assumption | wp_step))
        exact hQ h' tk S' keep
end
end LX
/-! ### sets of texts and of ints, as tracked objects -/
namespace LX
open PySem PySem.Spec PyProof.Rows L2
theorem okS (P : Program) (w : World) : KyOk (PySem.strKind P w) (fun k t => Value.str k t) strOf where
  back := fun _ _ => rfl
  isv := fun k k' t => by
    show Value.isStrOf k (.str k' t) = true ↔ k' = k
    exact beq_iff_eq
  scan := fun _ _ => rfl
theorem okI (P : Program) (w : World) : KyOk (intKind P w) (fun k t => Value.int k t) Builtin.Re.reRawOf where
  back := fun _ _ => rfl
  isv := fun k k' t => by
    show (k' == k) = true ↔ k' = k
    exact beq_iff_eq
  scan := fun _ _ => rfl
def TxtSet (P : Program) (w : World) (a : Addr) (S : Str → Bool) (n : Nat) : HO := .ext fun h => SetK1 (PySem.strKind P w) (fun k t => Value.str k t) strOf h a S n
def IntSet (P : Program) (w : World) (a : Addr) (S : Int → Bool) (n : Nat) : HO := .ext fun h => SetK1 (intKind P w) (fun k t => Value.int k t) Builtin.Re.reRawOf h a S n
theorem SetK1.lives {P : Program} {w : World} {κ : Type} [DecidableEq κ] {knd : PySem.KeyKind P w κ} {val : κ → Tok → Value} {key : Value → κ} {h : Heap} {a : Addr} {S : κ → Bool} {n : Nat} (R : SetK1 knd val key h a S n) : ∃ o, h.get? a = some o :=
  let ⟨o, _, _, _, T⟩ := R
  ⟨o, T.here⟩
theorem txtNew {P : Program} {w : World} {H : Hp} {h : Heap} {a : Addr} {S : Str → Bool} {n : Nat} (R : SetK1 (PySem.strKind P w) (fun k t => Value.str k t) strOf h a S n) : ObjOk P w H h a (TxtSet P w a S n) :=
  ⟨R, R.lives, fun h1 h2 p k => p.keep k⟩
theorem intNew {P : Program} {w : World} {H : Hp} {h : Heap} {a : Addr} {S : Int → Bool} {n : Nat} (R : SetK1 (intKind P w) (fun k t => Value.int k t) Builtin.Re.reRawOf h a S n) : ObjOk P w H h a (IntSet P w a S n) :=
  ⟨R, R.lives, fun h1 h2 p k => p.keep k⟩
section
variable {P : Program} {w : World} {s : Shared}
theorem itersList {l : Addr} {items : Array Value} (hl : s.heap.IsList l items) : Iters P w s (.ref l) (fun i v => items[i]? = some v) items.size := by
  intro s1 A1 E1 Q1 old hA k
  obtain ⟨o, ho, hc, n, hd⟩ := hl
  have hl1 : s1.heap.IsList l items := ⟨o, old _ _ ho, hc, n, hd⟩
  have lt : l < s.heap.objs.size := Heap.lt_size ho
  have lt1 : l < s1.heap.objs.size := Heap.lt_size (old _ _ ho)
  refine wpAny_pyIter_list hl1 ?_
  exact k _ s1.toks s1.heap.objs.size [s1.heap.objs.size, l] _ (fun b o e => Heap.get?_push_of_some _ e) (Nat.le_refl _) (fun b hb => by
      rcases List.mem_cons.mp hb with z | z
      · exact Or.inr (Nat.le_of_eq z.symm)
      · exact Or.inl (by rw [List.mem_singleton.mp z]; exact lt))
    (fun A' hA' => Walks.list hA' s1.heap.objs.size l (Nat.ne_of_lt lt1) items) ⟨⟨_, Heap.get?_push_size _ rfl, rfl, rfl⟩, hl1.push _⟩
theorem itersStr {z : Str} {t : Tok} : Iters P w s (.str z t) (SignAt z) z.cps.size := by
  intro s1 A1 E1 Q1 old hA k
  refine wpAny_pyIter_str fun o St W st => ?_
  exact k _ s1.toks s1.heap.objs.size [s1.heap.objs.size] St (fun b o e => Heap.get?_push_of_some _ e) (Nat.le_refl _) (fun b hb => Or.inr (Nat.le_of_eq (List.mem_singleton.mp hb).symm)) W st
end
abbrev one1 (c : Nat) : Str := ⟨#[c]⟩
def signs (z : Str) : List Str := z.cps.toList.map one1
theorem valsI_at : ∀ {ns : List Int} {us : List Value}, Vals (ns.map V.int) us → ∀ (i : Nat) (u : Value), us[i]? = some u → ∃ k t, ns[i]? = some k ∧ u = Value.int k t
  | [], _, .nil, i, u, h => by simp at h
  | n :: ns, _, .cons r rs, 0, u, h => by
    obtain ⟨t, rfl⟩ := r
    simp at h
    exact ⟨n, t, rfl, h.symm⟩
  | n :: ns, _, .cons r rs, i + 1, u, h => by
    obtain ⟨k, t, h1, h2⟩ := valsI_at rs i u (by simpa using h)
    exact ⟨k, t, by simpa using h1, h2⟩
theorem valsS_at : ∀ {ns : List Str} {us : List Value}, Vals (ns.map V.str) us → ∀ (i : Nat) (u : Value), us[i]? = some u → ∃ k t, ns[i]? = some k ∧ u = Value.str k t
  | [], _, .nil, i, u, h => by simp at h
  | n :: ns, _, .cons r rs, 0, u, h => by
    obtain ⟨t, rfl⟩ := r
    simp at h
    exact ⟨n, t, rfl, h.symm⟩
  | n :: ns, _, .cons r rs, i + 1, u, h => by
    obtain ⟨k, t, h1, h2⟩ := valsS_at rs i u (by simpa using h)
    exact ⟨k, t, by simpa using h1, h2⟩
section
variable {X : Cx}
/-- set(xs): a list of texts, or the signs of a text -/
def rSetS (K : PySem.W.Frag) (P : Program) (w : World) : List V → Hp → VK → Prop := fun xs H Q => ∃ ks : List Str, ((∃ l, xs = [.ref l] ∧ SqL K H l (ks.map V.str)) ∨ ∃ z, xs = [.str z] ∧ ks = signs z) ∧ ks.length + 1 < 4096 ∧
  ∀ p, H p = none → Q (.ref p) (upd H p (TxtSet P w p (fun k => decide (k ∈ ks)) (dd ks).length))
theorem cr_setS (hc : X.calm = true) : CallR X (.type "set") (rSetS X.K X.prog X.w) := by
  intro pins s σ H xs us Q I r h
  obtain ⟨ks, how, few, q⟩ := h
  have done_ : ∀ (h' : Heap) (tk : Nat), SetK1 (PySem.strKind X.prog X.w) (fun k t => Value.str k t) strOf h' s.heap.objs.size (fun k => decide (k ∈ ks)) (dd ks).length → (∀ b o, s.heap.get? b = some o → h'.get? b = some o) →
      EP X pins σ Q (.ref s.heap.objs.size) { s with heap := h', toks := tk } := fun h' tk S' keep =>
    ⟨.ref s.heap.objs.size, _, I.laid keep (Nat.le_refl _) (txtNew S'), rfl, q _ (I.hok.fresh (Nat.le_refl _))⟩
  rcases how with ⟨l, rfl, hs⟩ | ⟨z, rfl, rfl⟩
  · obtain ⟨its, rv, pl, _⟩ := I.list hs
    rw [Vals.ref1 r]
    have len : its.toArray.size = ks.length := by
      rw [List.size_toArray, ← rv.length, List.length_map]
    have il := pl.isList
    obtain ⟨o, ho, hcl, n, hd⟩ := id il
    refine setOfK (okS X.prog X.w) (T := "list") (Pv := fun i u => its.toArray[i]? = some u) (xs := ks) (I.ok.hd hc) (fun s1 old => ⟨o, old _ _ ho, hcl⟩) PySem.F.sub_list_set PySem.F.sub_list_frozenset (by decide) few ?_ (fun i u hu => valsS_at rv i u (by simpa using hu)) done_
    rw [← len]
    exact itersList il
  · obtain ⟨u, rfl, t, rfl⟩ := vals1 r
    have len : z.cps.size = (signs z).length := by unfold signs; rw [List.length_map, Array.length_toList]
    refine setOfK (okS X.prog X.w) (T := "str") (Pv := SignAt z) (xs := signs z) (I.ok.hd hc) (fun s1 old => rfl) PySem.F.sub_str_set PySem.F.sub_str_frozenset (by decide) few ?_ (fun i u hu => ?_) done_
    · rw [← len]
      exact itersStr
    · obtain ⟨c, t', hc', rfl⟩ := hu
      refine ⟨⟨#[c]⟩, t', ?_, rfl⟩
      unfold signs
      rw [List.getElem?_map, Array.getElem?_toList, hc']
      rfl
/-- set(xs), a list of ints -/
def rSetI (K : PySem.W.Frag) (P : Program) (w : World) : List V → Hp → VK → Prop := fun xs H Q => ∃ (ks : List Int) (l : Addr), xs = [.ref l] ∧ SqL K H l (ks.map V.int) ∧ ks.length + 1 < 4096 ∧
  ∀ p, H p = none → Q (.ref p) (upd H p (IntSet P w p (fun k => decide (k ∈ ks)) (dd ks).length))
theorem cr_setI (hc : X.calm = true) : CallR X (.type "set") (rSetI X.K X.prog X.w) := by
  intro pins s σ H xs us Q I r h
  obtain ⟨ks, l, rfl, hs, few, q⟩ := h
  obtain ⟨its, rv, pl, _⟩ := I.list hs
  rw [Vals.ref1 r]
  have len : its.toArray.size = ks.length := by
    rw [List.size_toArray, ← rv.length, List.length_map]
  have il := pl.isList
  obtain ⟨o, ho, hcl, n, hd⟩ := id il
  refine setOfK (okI X.prog X.w) (T := "list") (Pv := fun i u => its.toArray[i]? = some u) (xs := ks) (I.ok.hd hc) (fun s1 old => ⟨o, old _ _ ho, hcl⟩) PySem.F.sub_list_set PySem.F.sub_list_frozenset (by decide) few ?_ (fun i u hu => valsI_at rv i u (by simpa using hu)) fun h' tk S' keep => ?_
  · rw [← len]
    exact itersList il
  · exact ⟨.ref s.heap.objs.size, _, I.laid keep (Nat.le_refl _) (intNew S'), rfl, q _ (I.hok.fresh (Nat.le_refl _))⟩
/-- len of such a set -/
def rLenSet (P : Program) (w : World) : List V → Hp → VK → Prop := fun xs H Q => ∃ (a : Addr) (n : Nat), xs = [.ref a] ∧ ((∃ S, H a = some (TxtSet P w a S n)) ∨ ∃ S, H a = some (IntSet P w a S n)) ∧ Q (.int n) H
theorem cr_lenSet : CallR X (.builtin "len") (rLenSet X.prog X.w) := by
  intro pins s σ H xs us Q I r h
  obtain ⟨a, n, rfl, how, q⟩ := h
  rw [Vals.ref1 r]
  have fin : ∀ {κ : Type} [DecidableEq κ] {knd : PySem.KeyKind X.prog X.w κ} {val : κ → Tok → Value} {key : Value → κ} {S : κ → Bool}, SetK1 knd val key s.heap a S n → wpAny (model X.prog X.w) X.A (call (.builtin "len") [.ref a]) (EP X pins σ Q) X.xe s := by
    intro κ _ knd val key S R
    obtain ⟨o, es, ep, t, T⟩ := R
    have room := T.room
    have e := T.num
    unfold scanBound at room
    exact call_len_set T.here T.exact_ T.data T.fits (by omega) ⟨.int n, H, I.tok _, ⟨_, by rw [e]⟩, q⟩
  rcases how with ⟨S, hS⟩ | ⟨S, hS⟩
  · exact fin (I.hok a _ hS).1
  · exact fin (I.hok a _ hS).1
end
/-! ### sorted -/
theorem strs_are : ∀ (l : List Value), (∀ v ∈ l, ∃ k t, v = Value.str k t) → StrsAre l (l.map strOf)
  | [], _ => .nil
  | v :: l, h => by
    obtain ⟨k, t, rfl⟩ := h v List.mem_cons_self
    exact .cons k t (strs_are l fun u hu => h u (List.mem_cons_of_mem _ hu))
section
variable {P : Program} {w : World} {A : Around} {E : Value → Shared → Prop} {s : Shared}
theorem sortTxt {a : Addr} {S : Str → Bool} {n : Nat} {Q : Value → Shared → Prop} (R : SetK1 (PySem.strKind P w) (fun k t => Value.str k t) strOf s.heap a S n) (hh : A.handled = none)
    (hQ : ∀ (s2 : Shared) (p : Addr) (out : Array Value) (c : Nat) (ys : List Str), (∀ b o, s.heap.get? b = some o → s2.heap.get? b = some o) → s2.gens = s.gens → s2.os = s.os → s.heap.objs.size ≤ p → s2.heap.get? p = some (seqObj "list" out c) → StrsAre out.toList ys →
      sortedS ys = true → ys.Nodup → (∀ k, k ∈ ys ↔ S k = true) → ys.length = n → Q (.ref p) s2) :
    wpAny (model P w) A (call (.builtin "sorted") [.ref a]) Q E s := by
  obtain ⟨o, es, ep, t, T⟩ := R
  have small := T.room
  unfold scanBound at small
  refine Calls.call_function_entry kind_sorted plain_sorted entry_sorted (args_sorted1 _) ?_
  unfold Builtin.«sorted»
  refine wpAny_bind (m := checkCount "sorted" 1 1 _) (wpAny_pure (wpAny_bind (collect_set (A := A.in1) hh ⟨o, T.here, T.exact_.1, T.data⟩ T.fits T.room T.ris T.led fun s1 vs k1 z1 g1 o1 pm => ?_)))
  have len : vs.length = n := by rw [pm.length_eq, List.length_map, Array.length_toList, T.num]
  have few : vs.length ≤ sizeLine := by
    rw [len, sizeLine_eq]
    have := T.num
    omega
  have txt : StrsAre vs (vs.map strOf) := strs_are vs fun v hv => by
    obtain ⟨e, he, q⟩ := List.mem_map.mp (pm.mem_iff.mp hv)
    obtain ⟨k, tk, rfl⟩ := T.ent e he
    exact ⟨k, tk, q.symm⟩
  have pk : (vs.map strOf).Perm (keysOf strOf es) := by
    have q := pm.map strOf
    rw [List.map_map] at q
    exact q
  have at0 : (s1.heap.push (seqObj "list" vs.toArray 0)).get? s1.heap.objs.size = some (seqObj "list" vs.toArray 0) := Heap.get?_push_size _ rfl
  refine wpAny_bind (wpAny_newList (wpAny_bind (wpAny_holding (wpAny_call_entry slot_list_sort ⟨_, at0, rfl⟩ entry_list_sort
    (list_sort_treeKAny PyProof.Rows.strKind_oneLt at0 txt.keysOf (fun v1 v2 rest e => keyKind_strs (by rw [← e]; exact txt)) few fun st p1 p2 => ⟨_, rfl, ?_⟩) (args_list_sort _)))) few)
  obtain ⟨ys, y1, y2, y3⟩ := sorted_out_str txt p1 p2
  obtain ⟨c, hc⟩ := sortedHeap_at (vs := vs) (out := (arrOf st).map (·.2)) at0
  have py : ys.Perm (keysOf strOf es) := y2.trans pk
  refine wpAny_pure ⟨_, rfl, hQ _ s1.heap.objs.size _ c ys (fun b u e => ?_) g1 o1 z1 hc y1 y3 (py.nodup_iff.mpr T.nodup) (fun k => by rw [py.mem_iff, ← T.mem k]) (by rw [y2.length_eq, List.length_map, len])⟩
  have q := k1 b u e
  have lt := Heap.lt_size q
  exact (sortedHeap_old (Nat.ne_of_lt lt) (by rw [size_push']; exact Nat.lt_succ_of_lt lt)).trans (Heap.get?_push_of_some _ q)
end
section
variable {X : Cx}
def rSortTxt (P : Program) (w : World) : List V → Hp → VK → Prop := fun xs H Q => ∃ (a : Addr) (S : Str → Bool) (n : Nat), xs = [.ref a] ∧ H a = some (TxtSet P w a S n) ∧
  ∀ p ys, H p = none → sortedS ys = true → ys.Nodup → (∀ k, k ∈ ys ↔ S k = true) → ys.length = n → Q (.ref p) (upd H p (.lst (ys.map V.str)))
theorem cr_sortTxt (hc : X.calm = true) : CallR X (.builtin "sorted") (rSortTxt X.prog X.w) := by
  intro pins s σ H xs us Q I r h
  obtain ⟨a, S, n, rfl, hS, q⟩ := h
  rw [Vals.ref1 r]
  have R : SetK1 (PySem.strKind X.prog X.w) (fun k t => Value.str k t) strOf s.heap a S n := (I.hok a _ hS).1
  have room : n < 4096 := by
    obtain ⟨o, es, ep, t, T⟩ := R
    have := T.room
    rw [T.num] at this
    exact this
  refine sortTxt R (I.ok.hd hc) fun s2 p out c ys k2 g2 o2 hp at2 y1 y3 nd mem len => ?_
  have sz : (ys.map V.str).length ≤ sizeLine := by
    rw [List.length_map, len, sizeLine_eq]
    omega
  exact ⟨.ref p, _, I.call' (ch := []) o2 (Un.laid k2 hp (I.hok.fresh hp)) (I.hok.laid (o := .lst (ys.map V.str)) k2 hp ⟨sz, out.toList, c, vals_of_strs y1, at2⟩) (by rw [g2]; exact I.bare) (fun _ z => nomatch z), rfl, q p ys (I.hok.fresh hp) y3 nd mem len⟩
end
section
variable {P : Program} {w : World} {A : Around} {E : Value → Shared → Prop} {s : Shared}
theorem sortInt {a : Addr} {S : Int → Bool} {n : Nat} {Q : Value → Shared → Prop} (R : SetK1 (intKind P w) (fun k t => Value.int k t) Builtin.Re.reRawOf s.heap a S n) (hh : A.handled = none)
    (hQ : ∀ (s2 : Shared) (p : Addr) (out : Array Value) (c : Nat) (ys : List Int), (∀ b o, s.heap.get? b = some o → s2.heap.get? b = some o) → s2.gens = s.gens → s2.os = s.os → s.heap.objs.size ≤ p → s2.heap.get? p = some (seqObj "list" out c) → IntsAre out.toList ys →
      ys.Pairwise (· < ·) → (∀ k, k ∈ ys ↔ S k = true) → ys.length = n → Q (.ref p) s2) :
    wpAny (model P w) A (call (.builtin "sorted") [.ref a]) Q E s := by
  obtain ⟨o, es, ep, t, T⟩ := R
  have small := T.room
  unfold scanBound at small
  refine Calls.call_function_entry kind_sorted plain_sorted entry_sorted (args_sorted1 _) ?_
  unfold Builtin.«sorted»
  refine wpAny_bind (m := checkCount "sorted" 1 1 _) (wpAny_pure (wpAny_bind (collect_set (A := A.in1) hh ⟨o, T.here, T.exact_.1, T.data⟩ T.fits T.room T.ris T.led fun s1 vs k1 z1 g1 o1 pm => ?_)))
  have len : vs.length = n := by rw [pm.length_eq, List.length_map, Array.length_toList, T.num]
  have few : vs.length ≤ sizeLine := by
    rw [len, sizeLine_eq]
    have := T.num
    omega
  have num : IntsAre vs (vs.map Builtin.Re.reRawOf) := ints_of vs fun v hv => by
    obtain ⟨e, he, q⟩ := List.mem_map.mp (pm.mem_iff.mp hv)
    obtain ⟨k, tk, rfl⟩ := T.ent e he
    exact ⟨k, tk, q.symm⟩
  have pk : (vs.map Builtin.Re.reRawOf).Perm (keysOf Builtin.Re.reRawOf es) := by
    have q := pm.map Builtin.Re.reRawOf
    rw [List.map_map] at q
    exact q
  have at0 : (s1.heap.push (seqObj "list" vs.toArray 0)).get? s1.heap.objs.size = some (seqObj "list" vs.toArray 0) := Heap.get?_push_size _ rfl
  refine wpAny_bind (wpAny_newList (wpAny_bind (wpAny_holding (wpAny_call_entry slot_list_sort ⟨_, at0, rfl⟩ entry_list_sort (list_sort_treeAny at0 num few fun out ys y1 y2 y3 => ⟨_, rfl, ?_⟩) (args_list_sort _)))) few)
  obtain ⟨c, hc⟩ := sortedHeap_at (vs := vs) (out := out) at0
  have py : ys.Perm (keysOf Builtin.Re.reRawOf es) := y2.trans pk
  refine wpAny_pure ⟨_, rfl, hQ _ s1.heap.objs.size _ c ys (fun b u e => ?_) g1 o1 z1 hc y1 (lt_of_le_nodup ys y3 (py.nodup_iff.mpr T.nodup)) (fun k => by rw [py.mem_iff, ← T.mem k]) (by rw [y2.length_eq, List.length_map, len])⟩
  have q := k1 b u e
  have lt := Heap.lt_size q
  exact (sortedHeap_old (Nat.ne_of_lt lt) (by rw [size_push']; exact Nat.lt_succ_of_lt lt)).trans (Heap.get?_push_of_some _ q)
end
section
variable {X : Cx}
def rSortInt (P : Program) (w : World) : List V → Hp → VK → Prop := fun xs H Q => ∃ (a : Addr) (S : Int → Bool) (n : Nat), xs = [.ref a] ∧ H a = some (IntSet P w a S n) ∧
  ∀ (p : Addr) (ys : List Int), H p = none → ys.Pairwise (· < ·) → (∀ k, k ∈ ys ↔ S k = true) → ys.length = n → Q (.ref p) (upd H p (.lst (ys.map V.int)))
theorem cr_sortInt (hc : X.calm = true) : CallR X (.builtin "sorted") (rSortInt X.prog X.w) := by
  intro pins s σ H xs us Q I r h
  obtain ⟨a, S, n, rfl, hS, q⟩ := h
  rw [Vals.ref1 r]
  have R : SetK1 (intKind X.prog X.w) (fun k t => Value.int k t) Builtin.Re.reRawOf s.heap a S n := (I.hok a _ hS).1
  have room : n < 4096 := by
    obtain ⟨o, es, ep, t, T⟩ := R
    have := T.room
    rw [T.num] at this
    exact this
  refine sortInt R (I.ok.hd hc) fun s2 p out c ys k2 g2 o2 hp at2 y1 asc mem len => ?_
  have sz : (ys.map V.int).length ≤ sizeLine := by
    rw [List.length_map, len, sizeLine_eq]
    omega
  exact ⟨.ref p, _, I.call' (ch := []) o2 (Un.laid k2 hp (I.hok.fresh hp)) (I.hok.laid (o := .lst (ys.map V.int)) k2 hp ⟨sz, out.toList, c, vals_of_ints y1, at2⟩) (by rw [g2]; exact I.bare) (fun _ z => nomatch z), rfl, q p ys (I.hok.fresh hp) asc mem len⟩
end
/-! ### numbers below a bound, each once, ascending -/
def asc (m : Nat) (cs : List Nat) : List Nat := (List.range m).filter fun c => decide (c ∈ cs)
theorem asc_up (m : Nat) (cs : List Nat) : (asc m cs).Pairwise (· < ·) := List.Pairwise.filter _ List.pairwise_lt_range
theorem mem_asc {m : Nat} {cs : List Nat} (h : ∀ c ∈ cs, c < m) {c : Nat} : c ∈ asc m cs ↔ c ∈ cs := by
  unfold asc
  rw [List.mem_filter, List.mem_range, decide_eq_true_eq]
  exact ⟨fun z => z.2, fun z => ⟨h c z, z⟩⟩
theorem up_same : ∀ {xs ys : List Nat}, xs.Pairwise (· < ·) → ys.Pairwise (· < ·) → (∀ c, c ∈ xs ↔ c ∈ ys) → xs = ys
  | [], [], _, _, _ => rfl
  | [], y :: ys, _, _, h => absurd ((h y).mpr List.mem_cons_self) (by simp)
  | x :: xs, [], _, _, h => absurd ((h x).mp List.mem_cons_self) (by simp)
  | x :: xs, y :: ys, hx, hy, h => by
    obtain ⟨x1, x2⟩ := List.pairwise_cons.mp hx
    obtain ⟨y1, y2⟩ := List.pairwise_cons.mp hy
    have e : x = y := by
      rcases List.mem_cons.mp ((h x).mp List.mem_cons_self) with a | a
      · exact a
      · rcases List.mem_cons.mp ((h y).mpr List.mem_cons_self) with b | b
        · exact b.symm
        · have := y1 x a
          have := x1 y b
          omega
    subst e
    congr 1
    refine up_same x2 y2 fun c => ?_
    constructor
    · intro z
      rcases List.mem_cons.mp ((h c).mp (List.mem_cons_of_mem _ z)) with q | q
      · have := x1 c z
        omega
      · exact q
    · intro z
      rcases List.mem_cons.mp ((h c).mpr (List.mem_cons_of_mem _ z)) with q | q
      · have := y1 c z
        omega
      · exact q
theorem asc_is {m : Nat} {cs xs : List Nat} (hx : xs.Pairwise (· < ·)) (hc : ∀ c ∈ cs, c < m) (h : ∀ c, c ∈ xs ↔ c ∈ cs) : xs = asc m cs := up_same hx (asc_up m cs) fun c => by rw [h, mem_asc hc]
theorem one1_inj {c d : Nat} (h : one1 c = one1 d) : c = d := by
  injection h with h
  injection h with h
  injection h with h
theorem one1_ge {p d : Nat} (h : ltCps (one1 d).cps.toList (one1 p).cps.toList = false) : p ≤ d := by
  rw [ltCps_eq] at h
  have nl : ¬ ([d] : List Nat) < [p] := by simpa using h
  have : ¬ d < p := fun z => nl (List.cons_lt_cons_iff.mpr (Or.inl z))
  omega
theorem rise1 : ∀ {ds : List Nat} {p : Nat}, risingS (one1 p) (ds.map one1) = true → True ∧ (p :: ds).Pairwise (· ≤ ·)
  | [], p, _ => ⟨trivial, List.pairwise_singleton _ _⟩
  | d :: ds, p, h => by
    have h2 : (!ltCps (one1 d).cps.toList (one1 p).cps.toList && risingS (one1 d) (ds.map one1)) = true := h
    rw [Bool.and_eq_true, Bool.not_eq_true'] at h2
    have g := one1_ge h2.1
    obtain ⟨_, ih⟩ := rise1 h2.2
    refine ⟨trivial, List.pairwise_cons.mpr ⟨fun e he => ?_, ih⟩⟩
    rcases List.mem_cons.mp he with z | z
    · rw [z]
      exact g
    · exact Nat.le_trans g ((List.pairwise_cons.mp ih).1 e z)
/-- texts of one sign, sorted: their codes ascend -/
theorem codes_up {ds : List Nat} (h : sortedS (ds.map one1) = true) (nd : (ds.map one1).Nodup) : ds.Pairwise (· < ·) := by
  have le : ds.Pairwise (· ≤ ·) := by
    cases ds with
    | nil => exact List.Pairwise.nil
    | cons d ds => exact (rise1 h).2
  have ne : ds.Pairwise (· ≠ ·) := List.Pairwise.of_map one1 (fun a b hne e => hne (congrArg one1 e)) nd
  exact (le.and ne).imp fun ⟨a, b⟩ => Nat.lt_of_le_of_ne a b
theorem txt_asc {m : Nat} {cs : List Nat} (hc : ∀ c ∈ cs, c < m) {ys : List Str} (h1 : sortedS ys = true) (h2 : ys.Nodup) (h3 : ∀ k, k ∈ ys ↔ k ∈ cs.map one1) : ys = (asc m cs).map one1 := by
  have all1 : ∀ k ∈ ys, ∃ c, k = one1 c := fun k hk => by
    obtain ⟨c, _, rfl⟩ := List.mem_map.mp ((h3 k).mp hk)
    exact ⟨c, rfl⟩
  obtain ⟨ds, rfl⟩ : ∃ ds : List Nat, ys = ds.map one1 := by
    clear h1 h2 h3
    induction ys with
    | nil => exact ⟨[], rfl⟩
    | cons y ys ih =>
      obtain ⟨c, rfl⟩ := all1 y List.mem_cons_self
      obtain ⟨ds, rfl⟩ := ih fun k hk => all1 k (List.mem_cons_of_mem _ hk)
      exact ⟨c :: ds, rfl⟩
  rw [asc_is (codes_up h1 h2) hc fun c => ?_]
  have q := h3 (one1 c)
  constructor
  · intro z
    obtain ⟨d, hd, e⟩ := List.mem_map.mp (q.mp (List.mem_map_of_mem (f := one1) z))
    rw [← one1_inj e]
    exact hd
  · intro z
    obtain ⟨d, hd, e⟩ := List.mem_map.mp (q.mpr (List.mem_map_of_mem (f := one1) z))
    rw [← one1_inj e]
    exact hd
section
variable {X : Cx} {K : PySem.W.Frag} {P : Program} {w : World}
theorem ksetS (hc : X.calm = true) (h : X.K = K := by rfl) (h2 : X.prog = P := by rfl) (h3 : X.w = w := by rfl) : CallR X (.type "set") (rSetS K P w) := by
  subst h h2 h3
  exact cr_setS hc
theorem ksetI (hc : X.calm = true) (h : X.K = K := by rfl) (h2 : X.prog = P := by rfl) (h3 : X.w = w := by rfl) : CallR X (.type "set") (rSetI K P w) := by
  subst h h2 h3
  exact cr_setI hc
theorem klenSet (h2 : X.prog = P := by rfl) (h3 : X.w = w := by rfl) : CallR X (.builtin "len") (rLenSet P w) := by
  subst h2 h3
  exact cr_lenSet
theorem ksortTxt (hc : X.calm = true) (h2 : X.prog = P := by rfl) (h3 : X.w = w := by rfl) : CallR X (.builtin "sorted") (rSortTxt P w) := by
  subst h2 h3
  exact cr_sortTxt hc
theorem ksortInt (hc : X.calm = true) (h2 : X.prog = P := by rfl) (h3 : X.w = w := by rfl) : CallR X (.builtin "sorted") (rSortInt P w) := by
  subst h2 h3
  exact cr_sortInt hc
end
end LX

/-! ### {elt for target in iter if ..}, elt a text: a new set of texts -/
namespace LX
open PySem PySem.Spec PyProof.Rows L2 PpSet
section
variable {X : Cx}
/-- one more text into the set at D -/
theorem addT {ps : List (Addr × Obj)} {σ : L2.St} {G : Hp} {z : Shared} {E : Value → Shared → Prop} {D : Addr} {S : Str → Bool} {n : Nat} {y : Str} {tk : Tok} {Q : Value → Shared → Prop} (V : Inv X ps σ G z) (gD : G D = some (TxtSet X.prog X.w D S n)) (few : n + 1 < scanBound)
    (q : ∀ z', Inv X ps σ (upd G D (TxtSet X.prog X.w D (fun k => S k || decide (k = y)) (if S y = true then n else n + 1))) z' → Q .none z') : wpAny (model X.prog X.w) X.A (call (.builtin "set.add") [.ref D, .str y tk]) Q E z := by
  have R : SetK1 (PySem.strKind X.prog X.w) (fun k t => Value.str k t) strOf z.heap D S n := (V.hok D _ gD).1
  refine wpAny_call_entry PySem.F.slot_set_add (SetK1.setOf (okS X.prog X.w) R).typeIs PySem.F.entry_set_add ?_ (PySem.F.args_set_add_2 _ _)
  unfold Builtin.«set.add» Builtin.Frozenset.oneOther Builtin.Frozenset.addrOf setAdd
  simp only [List.isEmpty_nil, bind_assoc]
  refine wpAny_bind (wpAny_pure ?_)
  try dsimp only
  refine wpAny_bind (wpAny_pure ?_)
  try dsimp only
  refine wpAny_bind (wpAny_holding (wpAny_bind ((PySem.strKind X.prog X.w).pyHash ((okS X.prog X.w).isv y y tk |>.mpr rfl) ?_)))
  refine addK (okS X.prog X.w) (s := { z with toks := z.toks + 1 }) R few fun h' sb new => ?_
  show wpAny _ _ (ret Value.none) _ _ _
  exact wpAny_pure ⟨_, rfl, q _ (V.write (e := D) (t' := z.toks + 1) (by rw [gD]; trivial) (.inl rfl) (fun b u hb hu => (sb.2 b hb).trans hu) new.lives (txtNew new))⟩
def tScT (P : Program) (w : World) (wi : TI) (g : TG) (tt : TT) (te : TE) (vs : List Nat) : TE := fun σ G Q => wi σ G fun J G1 => ∀ D, G1 D = none → ∃ W : Nat → Nat → Hp → Prop, (∃ m, W 0 m (upd G1 D (TxtSet P w D (fun _ => false) 0))) ∧ ∀ j m G, W j m G →
  (J.stop j G ∧ Q (.ref D) G) ∨ (J.go j G ∧ ∃ Z : Hp → Prop, (∀ G', Z G' → ∃ m', m' < m ∧ W (j + 1) m' G') ∧ ∀ x G', J.yld j G x G' → g x (wipe σ vs) G' fun τ G2 => wipe τ vs = wipe σ vs ∧ tt τ G2 fun b G3 =>
    if b = true then te τ G3 fun y G4 => ∃ (c : Str) (S : Str → Bool) (n : Nat), y = .str c ∧ G4 D = some (TxtSet P w D S n) ∧ n + 1 < scanBound ∧ Z (upd G4 D (TxtSet P w D (fun k => S k || decide (k = c)) (if S c = true then n else n + 1))) else Z G3)
theorem scT_core {ps : List (Addr × Obj)} {z : Shared} {σ : L2.St} {G : Hp} {Q : VK} {el tg it : Expr} {fs : List Expr} {sc : Scope} {ow : List (PySem.Str × Nat)} {p1 p2 : Pos} {wi : TI} {g : TG} {tt : TT} {te : TE} {use : Option (Value → Sem Unit)} {Qf : Value → Shared → Prop}
    (calm : X.calm = true) (nd : X.N.Nodup) (V : Inv X ps σ G z) (pi : PI X tg it wi) (ok : BlkOk X.N X.env.scope sc ow)
    (hg : ∀ (z : Shared) (G : Hp) (C : Addr) (cl : List (PySem.Str × Addr)) (fp : List Addr), PG (X.blk z G sc (compEnvC sc cl C X.env) fp) tg g)
    (ht : ∀ (z : Shared) (G : Hp) (C : Addr) (cl : List (PySem.Str × Addr)) (fp : List Addr), PTs (X.blk z G sc (compEnvC sc cl C X.env) fp) fs tt)
    (he : ∀ (z : Shared) (G : Hp) (C : Addr) (cl : List (PySem.Str × Addr)) (fp : List Addr), PE (X.blk z G sc (compEnvC sc cl C X.env) fp) el te)
    (fold : ∀ x, foldedSetIterable it X.env x = pure x) (q : tScT X.prog X.w wi g tt te (ow.map (·.2)) σ G Q)
    (last : ∀ D C z' m G', Inv X ps σ G' z' → Q (.ref D) G' → z'.heap.Ns C m → FpOk X ps G' C → compPost (model X.prog X.w) X.A X.xe use Qf (.ref D) C (.ok .next) z') :
    wpAny (model X.prog X.w) X.A (comprehension (.SetComp el [⟨tg, it, fs, 0⟩] sc p1) sc X.env p2 (newSet (.type "set")) false (eval it X.env) use) Qf X.xe z := by
  have frees : ∀ y ∈ sc.names, y.2 = .free → ∃ c, X.env.cells.lookup y.1 = some c := by
    intro y hy e
    have := ok.free y hy e
    exact V.ok.has _ this
  refine wpAny_comprehension_free (use := use) rfl fold (closure_ok frees) ok.kind (by intro y hy e; rw [ok.uniq y hy, e]) (thn (pi.run ps z σ G _ V q) ?_)
  intro xv z1 h1
  refine thn h1 ?_
  rintro itv z2 ⟨ia, fp, tn, J, G2, rfl, V2, T, st2, f2, h2⟩
  refine newSet_ok (newEnv_comp ?_)
  -- the new set stands at the end of the heap
  obtain ⟨D, eD⟩ : ∃ D, D = z2.heap.objs.size := ⟨_, rfl⟩
  rw [← eD]
  obtain ⟨W, ⟨m0, w0⟩, turn⟩ := h2 D (V2.hok.fresh (Nat.le_of_eq eD.symm))
  obtain ⟨z3, e3⟩ : ∃ z3 : Shared, z3 = { z2 with heap := z2.heap.push { cls := .type "set", dict := none, data := .set #[] 0 (.fresh 0 0 (!X.w.params.followText "set-order")) } } := ⟨_, rfl⟩
  have V3 : Inv X ps σ (upd G2 D (TxtSet X.prog X.w D (fun _ => false) 0)) z3 := by
    rw [e3, eD]
    exact V2.laid (t' := z2.toks) (fun b o e => Heap.get?_push_of_some _ e) (Nat.le_refl _) (txtNew freshK)
  have hz3 : z3.heap.objs.size = z2.heap.objs.size + 1 := by rw [e3]; exact Heap.size_push _ _
  have old3 : ∀ b o, z2.heap.get? b = some o → z3.heap.get? b = some o := by
    rw [e3]
    exact fun b o e => Heap.get?_push_of_some _ e
  rw [← e3]
  clear e3
  generalize eG : upd G2 D (TxtSet X.prog X.w D (fun _ => false) 0) = G3 at V3 w0
  have f3 : ∀ b ∈ fp, FpOk X ps G3 b ∧ b < z3.heap.objs.size := by
    intro b hb
    obtain ⟨o, live, _⟩ := T.obj _ _ st2 b hb
    have lt := Heap.lt_size live
    have ne : b ≠ D := fun c => Nat.ne_of_lt lt (c.trans eD)
    obtain ⟨k1, k2⟩ := f2 b hb
    exact ⟨⟨by rw [← eG, upd_ne ne]; exact k1, k2⟩, by rw [hz3]; exact Nat.lt_succ_of_lt lt⟩
  have st3 : tn 0 z3.heap := T.keep _ _ _ st2 fun b _ => old3 b
  have V4 := block_start V3 ok nd f3
  -- inside the block
  have Pg := hg z3 G3 z3.heap.objs.size (cellsFrom (z3.heap.objs.size + 1) sc.names (cloFrom X.env.cells sc.names [])) fp
  have Pt := ht z3 G3 z3.heap.objs.size (cellsFrom (z3.heap.objs.size + 1) sc.names (cloFrom X.env.cells sc.names [])) fp
  have Pe := he z3 G3 z3.heap.objs.size (cellsFrom (z3.heap.objs.size + 1) sc.names (cloFrom X.env.cells sc.names [])) fp
  have keeps : ∀ b o, z3.heap.get? b = some o → (pushCells (z3.heap.push { cls := .type "dict", data := .dict #[] }) sc.names).get? b = some o := fun b o e => pushCells_keeps _ _ _ _ (Heap.get?_push_of_some _ e)
  have st4 : tn 0 (pushCells (z3.heap.push { cls := .type "dict", data := .dict #[] }) sc.names) := T.keep _ _ _ st3 fun b _ => keeps b
  have eB : (compEnvC sc (cellsFrom (z3.heap.objs.size + 1) sc.names (cloFrom X.env.cells sc.names [])) z3.heap.objs.size X.env).locals = z3.heap.objs.size := rfl
  show codeAny _ _ (.compStart (.SetComp el [⟨tg, it, fs, 0⟩] sc p1) 0 (.ref ia) (.ref D) (compEnvC sc (cellsFrom (z3.heap.objs.size + 1) sc.names (cloFrom X.env.cells sc.names [])) z3.heap.objs.size X.env)) (compPost (model X.prog X.w) X.A X.xe use Qf (.ref D) z3.heap.objs.size) { z3 with heap := pushCells (z3.heap.push { cls := .type "dict", data := .dict #[] }) sc.names }
  generalize compEnvC sc (cellsFrom (z3.heap.objs.size + 1) sc.names (cloFrom X.env.cells sc.names [])) z3.heap.objs.size X.env = B at V4 Pg Pt Pe eB ⊢
  generalize e4 : ({ z3 with heap := pushCells (z3.heap.push { cls := .type "dict", data := .dict #[] }) sc.names } : Shared) = z4 at V4 ⊢
  have st4 : tn 0 z4.heap := by rw [← e4]; exact st4
  let Y : Cx := X.blk z3 G3 sc B fp
  have safe : ∀ {τ : L2.St} {G' : Hp} {z' : Shared}, Inv Y [] τ G' z' → (∀ b ∈ fp, G' b = none) → ∀ b ∈ fp, FpOk Y [] G' b := by
    intro τ G' z' U off b hb
    exact ⟨off b hb, (U.ok.exf b hb).1, U.ok.exfs b hb, Or.inl hb, (fun x c e => (U.ok.exf b hb).2 x c e), fun r hr => nomatch (show r ∈ ([] : List (Addr × Obj)) from hr)⟩
  have loop : codeAny (model X.prog X.w) X.A (.compLoop (.SetComp el [⟨tg, it, fs, 0⟩] sc p1) 0 (.ref ia) (.ref D) B) (compPost (model X.prog X.w) X.A X.xe use Qf (.ref D) z3.heap.objs.size) z4 := by
    refine compLoopS_any (fun n z' => ∃ j G', Inv Y [] (wipe σ (ow.map (·.2))) G' z' ∧ tn j z'.heap ∧ (∀ b ∈ fp, G' b = none) ∧ W j n G') ?_ m0 ⟨0, G3, V4, st4, fun b hb => (f3 b hb).1.1, w0⟩
    rintro n z5 ⟨j, G5, V5, st5, off5, w5⟩
    rcases turn j n G5 w5 with ⟨stop, fin⟩ | ⟨go, Z, hZ, step⟩
    · refine thnF (T.done Y rfl rfl rfl calm j [] z5 _ G5 (fun _ _ => False) V5 (safe V5 off5) st5 stop) ?_
      rintro r z6 ⟨rfl, V6⟩
      obtain ⟨m, hm, _⟩ := V6.loc
      have hm : z6.heap.Ns B.locals m := hm
      have free6 : G5 B.locals = none := V6.free
      rw [eB] at hm free6
      have V7 : Inv X ps σ G5 z6 := V3.call' (ch := fp) V6.os V6.base V6.hok V6.bare fun b hb => by
        obtain ⟨⟨k1, k2, k3, k4, k5, k6⟩, _⟩ := f3 b hb
        exact ⟨k4, k2, k5, k6⟩
      exact last D _ z6 m G5 V7 fin hm (V3.fpOk (Nat.le_refl _) free6)
    · refine thnF (T.item Y rfl rfl rfl calm j [] z5 _ G5 (fun _ _ => False) V5 (safe V5 off5) st5 go) ?_
      rintro r z6 ⟨u, rfl, h6⟩
      refine thnF h6 ?_
      rintro _ z7 ⟨x, G7, V7, r7, y7, st7, off7⟩
      refine thnF (Pg.run _ z7 _ G7 x u _ (V7.pinned (safe V7 off7) (T.obj _ _ st7)) r7 (step x G7 y7)) ?_
      rintro _ z8 ⟨τ, G8, V8, eτ, h8⟩
      refine thnF (Pt.run _ z8 τ G8 _ V8 h8) ?_
      rintro b z9 ⟨G9, V9, h9⟩
      have next : ∀ {z' : Shared} {G' : Hp}, Inv Y ([] ++ pinsAt fp z7.heap) τ G' z' → Z G' → ∃ m, m < n ∧ ∃ j G', Inv Y [] (wipe σ (ow.map (·.2))) G' z' ∧ tn j z'.heap ∧ (∀ b ∈ fp, G' b = none) ∧ W j m G' := by
        intro z' G' U hG
        obtain ⟨m', lt, w'⟩ := hZ G' hG
        have pinned : ∀ b ∈ fp, ∀ o, z7.heap.get? b = some o → z'.heap.get? b = some o ∧ G' b = none := by
          intro b hb o e
          have k := U.pin (b, o) (List.mem_append_right _ (List.mem_append_right _ (mem_pinsAt hb e)))
          exact ⟨k.1, k.2.1⟩
        refine ⟨m', lt, j + 1, G', (U.unpinned (pins := [])).weak (by rw [← eτ, wipe_length]) ?_, T.keep _ _ _ st7 ?_, ?_, w'⟩
        · intro i v e
          rw [← eτ] at e
          exact (wipe_some e).1
        · exact fun b hb o e => (pinned b hb o e).1
        · intro b hb
          obtain ⟨o, e, _⟩ := T.obj _ _ st7 b hb
          exact (pinned b hb o e).2
      cases b with
      | false =>
        rw [if_neg Bool.false_ne_true] at h9 ⊢
        exact next V9 h9
      | true =>
        rw [if_pos rfl] at h9 ⊢
        refine thnF (Pe.run _ z9 τ G9 _ V9 h9) ?_
        rintro v z10 ⟨_, G10, V10, r10, c, S, k, rfl, gD, few, hG⟩
        obtain ⟨tk, rfl⟩ : ∃ tk, v = Value.str c tk := r10
        exact addT (X := Y) V10 gD few fun z11 V11 => next V11 hG
  exact codeAny_compStart_set loop (T.self X.A 0 _ _ _ st4 loop)
theorem pe_scT {el tg it : Expr} {fs : List Expr} {sc : Scope} {own : List (PySem.Str × Nat)} {p1 : Pos} {P : Program} {w : World} {wi : TI} {g : TG} {tt : TT} {te : TE} (calm : X.calm = true) (nd : X.N.Nodup) (pi : PI X tg it wi) (ok : BlkOk X.N X.env.scope sc own)
    (hg : ∀ (z : Shared) (G : Hp) (C : Addr) (cl : List (PySem.Str × Addr)) (fp : List Addr), PG (X.blk z G sc (compEnvC sc cl C X.env) fp) tg g)
    (ht : ∀ (z : Shared) (G : Hp) (C : Addr) (cl : List (PySem.Str × Addr)) (fp : List Addr), PTs (X.blk z G sc (compEnvC sc cl C X.env) fp) fs tt)
    (he : ∀ (z : Shared) (G : Hp) (C : Addr) (cl : List (PySem.Str × Addr)) (fp : List Addr), PE (X.blk z G sc (compEnvC sc cl C X.env) fp) el te)
    (fold : ∀ x, foldedSetIterable it X.env x = pure x := by intro _; rfl) (hP : X.prog = P := by rfl) (hw : X.w = w := by rfl) :
    PE X (.SetComp el [⟨tg, it, fs, 0⟩] sc p1) (tScT P w wi g tt te (own.map (·.2))) := by
  subst hP
  subst hw
  refine ⟨fun ps z σ G Q V q => ?_⟩
  rw [eval_SetComp]
  refine scT_core calm nd V pi ok hg ht he fold q ?_
  rintro D C z' m G' V' fin hm ⟨f0, f1, f2, f3, f4, f5⟩
  exact ⟨m, hm, fun h'' sb => ⟨.ref D, G', V'.turned (t' := z'.toks) (fun b o hb e => (sb.2 b hb).trans e) f0 f1 f3 f4 f5, rfl, fin⟩⟩
end
end LX
namespace LX
open PySem PySem.Spec PyProof.Rows L2
section
variable {P : Program} {w : World} {K : PySem.W.Frag} {a D : Addr} {g : TG} {tt : TT} {te : TE} {vs : List Nat} {σ : L2.St} {H1 : Hp} {Qd : Hp → Prop}
theorem rd_scT {wi : TI} {H : Hp} {Q : VK} (q : wi σ H fun J G1 => ∀ D, G1 D = none → ∃ W : Nat → Nat → Hp → Prop, (∃ m, W 0 m (upd G1 D (TxtSet P w D (fun _ => false) 0))) ∧ ∀ j m G, W j m G →
  (J.stop j G ∧ Q (.ref D) G) ∨ (J.go j G ∧ ∃ Z : Hp → Prop, (∀ G', Z G' → ∃ m', m' < m ∧ W (j + 1) m' G') ∧ ∀ x G', J.yld j G x G' → g x (wipe σ vs) G' fun τ G2 => wipe τ vs = wipe σ vs ∧ tt τ G2 fun b G3 =>
    if b = true then te τ G3 fun y G4 => ∃ (c : Str) (S : Str → Bool) (n : Nat), y = .str c ∧ G4 D = some (TxtSet P w D S n) ∧ n + 1 < scanBound ∧ Z (upd G4 D (TxtSet P w D (fun k => S k || decide (k = c)) (if S c = true then n else n + 1))) else Z G3)) : tScT P w wi g tt te vs σ H Q := q
/-- over a row: the letters of some of its people -/
theorem sc_row {ts : List Addr} {r : Row} (f : Nat × Nat → Option Nat) (hD : H1 D = none) (ha : H1 a = some (.lst (ts.map V.ref))) (ht : TupsAt H1 ts r) (hz : r.length ≤ 1000)
    (hs : ∀ t e, e ∈ r → t ∈ ts → ∀ H, Same H1 H → H t = some (.tup (pr e)) → ∀ (T : V → Hp → Prop) (F : Hp → Prop), (∀ c H', f e = some c → Same H H' → T (sg c) H') → (∀ H', f e = none → Same H H' → F H') →
      g (.ref t) (wipe σ vs) H fun σ2 H2 => wipe σ2 vs = wipe σ vs ∧ tt σ2 H2 fun b H3 => if b = true then te σ2 H3 T else F H3)
    (hd : ∀ H' n, Same H1 H' → H' D = some (TxtSet P w D (fun k => decide (k ∈ (r.filterMap f).map one1)) n) → Qd H') :
    ∃ W : Nat → Nat → Hp → Prop, (∃ m, W 0 m (upd H1 D (TxtSet P w D (fun _ => false) 0))) ∧ ∀ j m G, W j m G →
      ((Itl K a).stop j G ∧ Qd G) ∨ ((Itl K a).go j G ∧ ∃ Z : Hp → Prop, (∀ G', Z G' → ∃ m', m' < m ∧ W (j + 1) m' G') ∧ ∀ x G', (Itl K a).yld j G x G' → g x (wipe σ vs) G' fun τ G2 => wipe τ vs = wipe σ vs ∧ tt τ G2 fun b G3 =>
        if b = true then te τ G3 fun y G4 => ∃ (c : Str) (S : Str → Bool) (n : Nat), y = .str c ∧ G4 D = some (TxtSet P w D S n) ∧ n + 1 < scanBound ∧ Z (upd G4 D (TxtSet P w D (fun k => S k || decide (k = c)) (if S c = true then n else n + 1))) else Z G3) := by
  have hl := ht.len
  have step : ∀ (i : Nat) (e : Nat × Nat), r[i]? = some e → ∀ k : Str, decide (k ∈ ((r.take (i + 1)).filterMap f).map one1) = (decide (k ∈ ((r.take i).filterMap f).map one1) || decide (f e = some (k.cps.getD 0 0) ∧ k = one1 (k.cps.getD 0 0))) := by
    intro i e he k
    rw [take_of he, List.filterMap_append, List.map_append, Bool.eq_iff_iff, Bool.or_eq_true, decide_eq_true_iff, decide_eq_true_iff, decide_eq_true_iff, List.mem_append]
    refine or_congr Iff.rfl ?_
    cases q : f e with
    | none =>
      rw [List.filterMap_cons_none q]
      constructor
      · exact fun z => nomatch z
      · exact fun z => nomatch z.1
    | some c =>
      rw [List.filterMap_cons_some q]
      show k ∈ [one1 c] ↔ _
      rw [List.mem_singleton]
      constructor
      · rintro rfl
        exact ⟨rfl, rfl⟩
      · rintro ⟨h1, h2⟩
        rw [h2]
        injection h1 with h1
        rw [← h1]
  have W : Walk (Itl K a) (ts.map V.ref).length (fun H => Same H1 H) (YAt (ts.map V.ref)) := walk_list.mono (fun _ s => SqL.of (s _ _ ha)) fun _ _ _ _ _ _ y => y
  refine ⟨fun j m H => m = r.length - j ∧ j ≤ r.length ∧ Same H1 H ∧ ∃ n, n ≤ j ∧ H D = some (TxtSet P w D (fun k => decide (k ∈ ((r.take j).filterMap f).map one1)) n), ⟨r.length, by simp, Nat.zero_le _, sNew hD, 0, Nat.le_refl _, ?_⟩, ?_⟩
  · rw [upd_same]
    have : (fun k : Str => decide (k ∈ ((r.take 0).filterMap f).map one1)) = fun _ => false := by
      funext k
      rfl
    rw [this]
  · rintro j m H ⟨rfl, hj, s, n, hn, e⟩
    rw [List.length_map, hl] at W
    by_cases lt : j < r.length
    · refine Or.inr ⟨W.goes j H lt s, fun G' => Same H1 G' ∧ ∃ n, n ≤ j + 1 ∧ G' D = some (TxtSet P w D (fun k => decide (k ∈ ((r.take (j + 1)).filterMap f).map one1)) n), fun G' ⟨h1, h2⟩ => ⟨r.length - (j + 1), by omega, rfl, lt, h1, h2⟩, fun x G' y => ?_⟩
      obtain ⟨rfl, hx⟩ := W.yields j H x G' lt s y
      rw [List.getElem?_map] at hx
      obtain ⟨t, h1, rfl⟩ := Option.map_eq_some_iff.mp hx
      obtain ⟨en, h2, h3⟩ := ht.get h1
      have st := step j en h2
      refine hs t en (List.mem_of_getElem? h2) (List.mem_of_getElem? h1) G' s (s _ _ h3) _ _ (fun c G4 hc s4 => ⟨one1 c, _, n, rfl, s4 _ _ e, by unfold scanBound; omega, sUpd (s.trans s4) hD, (if decide (one1 c ∈ ((r.take j).filterMap f).map one1) = true then n else n + 1), ?_, ?_⟩) fun G4 hc s4 => ⟨s.trans s4, n, by omega, ?_⟩
      · split <;> omega
      · rw [upd_same]
        congr 2
        funext k
        rw [st k, hc]
        congr 1
        rw [Bool.eq_iff_iff, decide_eq_true_iff, decide_eq_true_iff]
        constructor
        · rintro rfl
          exact ⟨rfl, rfl⟩
        · rintro ⟨h1, h2⟩
          rw [h2]
          injection h1 with h1
          rw [← h1]
      · rw [s4 _ _ e]
        congr 2
        funext k
        rw [st k, hc]
        have : decide (none = some (k.cps.getD 0 0) ∧ k = one1 (k.cps.getD 0 0)) = false := by
          rw [decide_eq_false_iff_not]
          exact fun z => nomatch z.1
        rw [this, Bool.or_false]
    · have ej : j = r.length := by omega
      subst ej
      rw [List.take_length] at e
      exact Or.inl ⟨W.stops H s, hd H n s e⟩
end
end LX


/-! ### lists of tuples of any make; runs of equal items -/
namespace LX
open PySem L2
section
variable {α : Type} {f : α → List V}
def TsAt (f : α → List V) (H : Hp) : List Addr → List α → Prop
  | [], [] => True
  | t :: ts, e :: r => H t = some (.tup (f e)) ∧ TsAt f H ts r
  | _, _ => False
theorem TsAt.len {H : Hp} : ∀ {ts : List Addr} {r : List α}, TsAt f H ts r → ts.length = r.length
  | [], [], _ => rfl
  | _ :: ts, _ :: r, h => congrArg (· + 1) (TsAt.len (ts := ts) (r := r) h.2)
  | [], _ :: _, h => h.elim
  | _ :: _, [], h => h.elim
theorem TsAt.mono {H H' : Hp} : ∀ {ts : List Addr} {r : List α}, TsAt f H ts r → (∀ b xs, H b = some (.tup xs) → H' b = some (.tup xs)) → TsAt f H' ts r
  | [], [], _, _ => True.intro
  | _ :: ts, _ :: r, h, k => ⟨k _ _ h.1, TsAt.mono (ts := ts) (r := r) h.2 k⟩
  | [], _ :: _, h, _ => h.elim
  | _ :: _, [], h, _ => h.elim
theorem TsAt.get {H : Hp} : ∀ {ts : List Addr} {r : List α} {i : Nat} {t : Addr}, TsAt f H ts r → ts[i]? = some t → ∃ e, r[i]? = some e ∧ H t = some (.tup (f e))
  | [], [], i, t, _, h => by simp at h
  | _ :: ts, e :: r, 0, t, h, q => by
    simp at q
    subst q
    exact ⟨e, rfl, h.1⟩
  | _ :: ts, _ :: r, i + 1, t, h, q => by
    simp at q
    obtain ⟨e, h1, h2⟩ := TsAt.get (ts := ts) (r := r) h.2 q
    exact ⟨e, by simpa using h1, h2⟩
  | [], _ :: _, _, _, h, _ => h.elim
  | _ :: _, [], _, _, h, _ => h.elim
theorem TsAt.snoc {H : Hp} {t : Addr} {e : α} (ht : H t = some (.tup (f e))) : ∀ {ts : List Addr} {r : List α}, TsAt f H ts r → TsAt f H (ts ++ [t]) (r ++ [e])
  | [], [], _ => ⟨ht, True.intro⟩
  | _ :: ts, _ :: r, h => ⟨h.1, TsAt.snoc ht (ts := ts) (r := r) h.2⟩
  | [], _ :: _, h => h.elim
  | _ :: _, [], h => h.elim
theorem TsAt.app {H : Hp} : ∀ {ts us : List Addr} {r q : List α}, TsAt f H ts r → TsAt f H us q → TsAt f H (ts ++ us) (r ++ q)
  | [], _, [], _, _, h => h
  | _ :: ts, us, _ :: r, q, h, k => ⟨h.1, TsAt.app (ts := ts) (r := r) h.2 k⟩
  | [], _, _ :: _, _, h, _ => h.elim
  | _ :: _, _, [], _, h, _ => h.elim
theorem TsAt.set {H : Hp} {t : Addr} {e : α} (ht : H t = some (.tup (f e))) : ∀ {ts : List Addr} {r : List α} (j : Nat), TsAt f H ts r → TsAt f H (ts.set j t) (r.set j e)
  | [], [], _, _ => True.intro
  | _ :: ts, _ :: r, 0, h => ⟨ht, h.2⟩
  | _ :: ts, _ :: r, j + 1, h => ⟨h.1, TsAt.set ht (ts := ts) (r := r) j h.2⟩
  | [], _ :: _, _, h => h.elim
  | _ :: _, [], _, h => h.elim
theorem TsAt.last {H : Hp} {ts : List Addr} {r : List α} (h : TsAt f H ts r) {e : α} (he : r.getLast? = some e) : ∃ t, ts[ts.length - 1]? = some t ∧ H t = some (.tup (f e)) := by
  have hl := h.len
  rw [List.getLast?_eq_getElem?] at he
  have h1 : r.length - 1 < r.length := (List.getElem?_eq_some_iff.mp he).1
  have h2 : ts.length - 1 < ts.length := by omega
  have h3 := List.getElem?_eq_getElem h2
  obtain ⟨e', h4, h5⟩ := h.get h3
  rw [show ts.length - 1 = r.length - 1 by omega, he] at h4
  cases h4
  exact ⟨_, h3, h5⟩
theorem TsAt.off {H : Hp} {l : Addr} {xs : List V} {o : HO} {ts : List Addr} {r : List α} (h : TsAt f H ts r) (hl : H l = some (.lst xs)) : TsAt f (upd H l o) ts r := h.mono fun b ys e => by
  rw [upd_ne fun z => by rw [z, hl] at e; cases e]
  exact e
theorem TsAt.dp {K : PySem.W.Frag} {H : Hp} {d : α → List PyData} (hd : ∀ e, DpAll K H (f e) (d e)) : ∀ {ts : List Addr} {r : List α}, TsAt f H ts r → DpAll K H (ts.map V.ref) (r.map fun e => PyData.tuple (d e))
  | [], [], _ => .nil
  | _ :: ts, e :: r, h => .cons (.tup (SqT.of h.1) (hd e)) (TsAt.dp hd (ts := ts) (r := r) h.2)
  | [], _ :: _, h => h.elim
  | _ :: _, [], h => h.elim
end
section
variable {α : Type} [DecidableEq α]
def rsn (acc : List (α × Nat)) (x : α) : List (α × Nat) :=
  match acc.getLast? with
  | some (y, k) => if y = x then acc.set (acc.length - 1) (x, k + 1) else acc ++ [(x, 1)]
  | none => acc ++ [(x, 1)]
def runs (cs : List α) : List (α × Nat) := cs.foldl rsn []
theorem runs_snoc (cs : List α) (x : α) : runs (cs ++ [x]) = rsn (runs cs) x := by
  unfold runs
  rw [List.foldl_append]
  rfl
theorem rsn_len (acc : List (α × Nat)) (x : α) : (rsn acc x).length ≤ acc.length + 1 := by
  unfold rsn
  split
  · split
    · rw [List.length_set]
      omega
    · rw [List.length_append]
      simp
  · rw [List.length_append]
    simp
theorem runs_len (cs : List α) : (runs cs).length ≤ cs.length := by
  have go : ∀ (cs : List α) (acc : List (α × Nat)), (cs.foldl rsn acc).length ≤ acc.length + cs.length := by
    intro cs
    induction cs with
    | nil => exact fun acc => Nat.le_refl _
    | cons x cs ih =>
      intro acc
      have h1 := ih (rsn acc x)
      have h2 := rsn_len acc x
      show (cs.foldl rsn (rsn acc x)).length ≤ acc.length + (cs.length + 1)
      omega
  have := go cs []
  simpa [runs] using this
theorem rsn_grow {acc : List (α × Nat)} {x : α} {k : Nat} (h : acc.getLast? = some (x, k)) : rsn acc x = acc.set (acc.length - 1) (x, k + 1) := by
  unfold rsn
  rw [h]
  exact if_pos rfl
theorem rsn_new {acc : List (α × Nat)} {x y : α} {k : Nat} (h : acc.getLast? = some (y, k)) (n : y ≠ x) : rsn acc x = acc ++ [(x, 1)] := by
  unfold rsn
  rw [h]
  exact if_neg n
theorem rsn_nil (x : α) : rsn [] x = [(x, 1)] := rfl
theorem last_ne {β : Type} {acc : List β} (h : acc ≠ []) : ∃ e, acc.getLast? = some e := ⟨_, List.getLast?_eq_some_getLast h⟩
end
/-- a run of a color -/
abbrev prC (e : Nat × Nat) : List V := [sg e.1, .int (e.2 : Int)]
abbrev dPC (e : Nat × Nat) : List PyData := [.str ⟨#[e.1]⟩, .int (e.2 : Int)]
/-- each color once, in the order met -/
abbrev firstsOf (cs : List Nat) : List Nat := cs.foldl (fun acc x => if x ∈ acc then acc else acc ++ [x]) []
theorem firsts_snoc (cs : List Nat) (x : Nat) : firstsOf (cs ++ [x]) = if x ∈ firstsOf cs then firstsOf cs else firstsOf cs ++ [x] := by
  unfold firstsOf
  rw [List.foldl_append]
  rfl
/-- a text of codes -/
abbrev txt (cs : List Nat) : Str := ⟨cs.toArray⟩
section
variable {X : Cx}
def rInT (neg : Bool) : R2 := fun x y H Q => ∃ (c : Nat) (z : Str), x = sg c ∧ y = .str z ∧ Q (.bl (if neg = true then !decide (c ∈ z.cps.toList) else decide (c ∈ z.cps.toList))) H
theorem kinT : OpR X (compareOp .In) (rInT false) := by
  intro pins s σ H x y v u Q I rx ry h
  obtain ⟨c, z, rfl, rfl, q⟩ := h
  refine op_in_str pins s σ H _ _ v u Q I rx ry ⟨⟨#[c]⟩, z, rfl, rfl, ?_⟩
  rw [PySem.StrLaws.found_one]
  exact q
theorem knotInT : OpR X (compareOp .NotIn) (rInT true) := by
  intro pins s σ H x y v u Q I rx ry h
  obtain ⟨c, z, rfl, rfl, q⟩ := h
  refine op_notIn_str pins s σ H _ _ v u Q I rx ry ⟨⟨#[c]⟩, z, rfl, rfl, ?_⟩
  rw [PySem.StrLaws.found_one]
  exact q
end
theorem txt_app (cs : List Nat) (c : Nat) : txt cs ++ (⟨#[c]⟩ : Str) = txt (cs ++ [c]) := by
  show (⟨cs.toArray ++ #[c]⟩ : Str) = ⟨(cs ++ [c]).toArray⟩
  congr 1
  simp
theorem txt_len (cs : List Nat) : (txt cs).length = cs.length := List.size_toArray
theorem mem_firsts {cs : List Nat} {x : Nat} : x ∈ firstsOf cs ↔ x ∈ cs := by
  have go : ∀ (cs acc : List Nat), x ∈ cs.foldl (fun acc x => if x ∈ acc then acc else acc ++ [x]) acc ↔ x ∈ acc ∨ x ∈ cs := by
    intro cs
    induction cs with
    | nil => intro acc; simp
    | cons y ys ih =>
      intro acc
      rw [List.foldl_cons, ih, List.mem_cons]
      by_cases c : y ∈ acc
      · rw [if_pos c]
        constructor
        · rintro (h | h)
          · exact Or.inl h
          · exact Or.inr (Or.inr h)
        · rintro (h | rfl | h)
          · exact Or.inl h
          · exact Or.inl c
          · exact Or.inr h
      · rw [if_neg c, List.mem_append, List.mem_singleton, or_assoc]
  have := go cs []
  simpa using this
theorem firsts_len (cs : List Nat) : (firstsOf cs).length ≤ cs.length := by
  have go : ∀ (cs acc : List Nat), (cs.foldl (fun acc x => if x ∈ acc then acc else acc ++ [x]) acc).length ≤ acc.length + cs.length := by
    intro cs
    induction cs with
    | nil => exact fun acc => Nat.le_refl _
    | cons y ys ih =>
      intro acc
      rw [List.foldl_cons, List.length_cons]
      refine Nat.le_trans (ih _) ?_
      by_cases c : y ∈ acc
      · rw [if_pos c]
        omega
      · rw [if_neg c, List.length_append, List.length_singleton]
        omega
  have := go cs []
  simpa using this
theorem txt_cat (a b : List Nat) : txt a ++ txt b = txt (a ++ b) := by
  show (⟨a.toArray ++ b.toArray⟩ : Str) = ⟨(a ++ b).toArray⟩
  congr 1
  simp
theorem fold_ones : ∀ (cs : List Nat) (acc : Array Nat), (cs.map fun c => (⟨#[c]⟩ : Str)).foldl (fun acc p => acc ++ (Str.ofString "").cps ++ p.cps) acc = acc ++ cs.toArray
  | [], acc => by simp
  | c :: cs, acc => by
    rw [List.map_cons, List.foldl_cons, fold_ones cs]
    show acc ++ #[] ++ #[c] ++ cs.toArray = _
    simp
theorem join_ones (cs : List Nat) : Txt.join (Str.ofString "") (cs.map fun c => (⟨#[c]⟩ : Str)) = txt cs := by
  cases cs with
  | nil => rfl
  | cons c cs =>
    show (⟨(cs.map fun c => (⟨#[c]⟩ : Str)).foldl (fun acc p => acc ++ (Str.ofString "").cps ++ p.cps) #[c]⟩ : Str) = _
    rw [fold_ones]
    show (⟨#[c] ++ cs.toArray⟩ : Str) = ⟨(c :: cs).toArray⟩
    congr 1
    simp
theorem len_ones (cs : List Nat) : ((cs.map fun c => (⟨#[c]⟩ : Str)).map (·.length)).sum = cs.length := by
  induction cs with
  | nil => rfl
  | cons c cs ih =>
    rw [List.map_cons, List.map_cons, List.sum_cons, ih, List.length_cons]
    show 1 + cs.length = _
    omega
/-- the last run's item is the last item -/
theorem runs_last (cs : List Nat) (x : Nat) : ∃ k, (runs (cs ++ [x])).getLast? = some (x, k) := by
  rw [runs_snoc]
  unfold rsn
  cases q : (runs cs).getLast? with
  | none =>
    dsimp only
    exact ⟨1, by rw [List.getLast?_append]; rfl⟩
  | some e =>
    obtain ⟨y, k⟩ := e
    dsimp only
    by_cases c : y = x
    · rw [if_pos c]
      have ne : 0 < (runs cs).length := by
        cases h : runs cs with
        | nil => rw [h] at q; cases q
        | cons a l => exact Nat.zero_lt_succ _
      refine ⟨k + 1, ?_⟩
      rw [List.getLast?_eq_getElem?, List.length_set, List.getElem?_set_self (by omega)]
    · rw [if_neg c]
      exact ⟨1, by rw [List.getLast?_append]; rfl⟩
theorem firsts_fm (cs : List Nat) : (List.range cs.length).filterMap (fun k => if decide (cs.getD k 0 ∈ cs.take k) = true then none else some (cs.getD k 0)) = firstsOf cs := by
  have go : ∀ k, k ≤ cs.length → (List.range k).filterMap (fun k => if decide (cs.getD k 0 ∈ cs.take k) = true then none else some (cs.getD k 0)) = firstsOf (cs.take k) := by
    intro k
    induction k with
    | zero => intro _; rfl
    | succ k ih =>
      intro hk
      have hx : cs[k]? = some (cs.getD k 0) := by rw [List.getD_eq_getElem?_getD, List.getElem?_eq_getElem (by omega)]; rfl
      rw [List.range_succ, List.filterMap_append, ih (by omega), take_of hx, firsts_snoc]
      by_cases c : cs.getD k 0 ∈ cs.take k
      · rw [if_pos (mem_firsts.mpr c), List.filterMap_cons_none (by rw [if_pos (decide_eq_true c)])]
        exact List.append_nil _
      · rw [if_neg fun z => c (mem_firsts.mp z), List.filterMap_cons_some (b := cs.getD k 0) (by rw [if_neg (by simpa using c)])]
        rfl
  have := go cs.length (Nat.le_refl _)
  rw [List.take_length] at this
  exact this
theorem fo_head (r : Row) (c : Nat) : ((r.map (·.2)).filter fun d => d != c).head? = fo r c := by
  unfold fo
  rw [List.head?_filter, List.find?_map]
  rfl
end LX
/-! ### letters counted and found in a list; for over a text -/
namespace LX
open PySem PySem.Spec PyProof.Rows L2
def eqS (k : Str) (v : Value) : Bool := match v with
  | .str n _ => n == k
  | _ => false
theorem eqS_at {A : Around} {s : Shared} {k : Str} {t : Tok} : ∀ {us : List Value} {ys : List Str}, StrsAre us ys → ∀ y ∈ us, SeqAt.EqAt A s y (.str k t) (eqS k y)
  | _, _, .nil => fun y hy => by cases hy
  | _, _, .cons n t' h => fun y hy => by
    rcases List.mem_cons.mp hy with e | e
    · rw [e]
      exact SeqAt.EqAt.str_str n t' k t
    · exact eqS_at h y e
theorem eqS_count {k : Str} : ∀ {us : List Value} {ys : List Str}, StrsAre us ys → us.countP (eqS k) = ys.countP (· == k)
  | _, _, .nil => rfl
  | _, _, .cons n t h => by
    have ih := eqS_count (k := k) h
    rw [List.countP_cons, List.countP_cons, ih] <;> rfl
theorem one_beq (a b : Nat) : ((⟨#[a]⟩ : Str) == ⟨#[b]⟩) = (a == b) := by
  rw [Bool.eq_iff_iff, beq_iff_eq, beq_iff_eq]
  exact ⟨fun h => by injection h with h; simpa using h, fun h => by rw [h]⟩
theorem ones_count (c : Nat) : ∀ cs : List Nat, (cs.map fun c => (⟨#[c]⟩ : Str)).countP (· == ⟨#[c]⟩) = cs.count c
  | [] => rfl
  | x :: cs => by
    rw [List.map_cons, List.countP_cons, ones_count c cs, List.count_cons, one_beq]
theorem ones_V (cs : List Nat) : cs.map sg = (cs.map fun c => (⟨#[c]⟩ : Str)).map V.str := by
  rw [List.map_map]
  rfl
theorem eqV_sg (a b : Nat) : eqV (sg a) (sg b) = (a == b) := one_beq a b
theorem flat_sg (cs : List Nat) : (cs.map sg).all flatV = true := by
  rw [List.all_eq_true]
  intro x hx
  obtain ⟨c, _, rfl⟩ := List.mem_map.mp hx
  rfl
theorem any_sg (c : Nat) (cs : List Nat) : inV (sg c) (cs.map sg) = decide (c ∈ cs) := by
  unfold inV
  rw [Bool.eq_iff_iff, List.any_eq_true, decide_eq_true_iff]
  constructor
  · rintro ⟨x, hx, e⟩
    obtain ⟨d, hd, rfl⟩ := List.mem_map.mp hx
    rw [eqV_sg] at e
    rw [← eq_of_beq e]
    exact hd
  · intro h
    exact ⟨sg c, List.mem_map.mpr ⟨c, h, rfl⟩, by rw [eqV_sg]; exact beq_self_eq_true c⟩
section
variable {X : Cx}
def rCntS (K : PySem.W.Frag) : V → List V → Hp → VK → Prop := fun x xs H Q => ∃ (p : Addr) (cs : List Nat) (c : Nat), x = .ref p ∧ xs = [sg c] ∧ SqL K H p (cs.map sg) ∧ Q (.int (cs.count c : Nat)) H
theorem mt_lcountS {K : PySem.W.Frag} (hK : X.K = K := by rfl) : MtR X "list.count" (rCntS K) := by
  subst hK
  intro pins s σ H x xs v us Q I rx rxs h
  obtain ⟨p, cs, c, rfl, rfl, hs, q⟩ := h
  cases rx
  obtain ⟨u, rfl, ru⟩ := rxs.one
  obtain ⟨t, rfl⟩ := ru
  obtain ⟨its, rv, ⟨⟨cls, dd, data, sl⟩, n, ho, hc, hdn, hd⟩, hlen⟩ := I.list hs
  simp only at hc hd
  subst hc hd
  rw [ones_V] at rv
  have hi := strs_of_vals rv
  refine call_meets PySem.F.slot_list_count ⟨_, ho, rfl⟩ PySem.F.entry_list_count (PySem.F.args_list_count_2 _ _)
    (SeqAt.list_countAt p its.toArray n dd sl (.str ⟨#[c]⟩ t) (eqS ⟨#[c]⟩)) ⟨ho, fun y hy => eqS_at hi y (by simpa using hy), ?_⟩
  have ec : its.toArray.toList.countP (eqS ⟨#[c]⟩) = cs.count c := (eqS_count hi).trans (ones_count c cs)
  refine ⟨.int (cs.count c : Nat), H, I.tok _, ⟨s.toks, ?_⟩, q⟩
  show Value.int ((its.toArray.toList.countP (eqS ⟨#[c]⟩) : Nat) : Int) s.toks = Value.int ((cs.count c : Nat) : Int) s.toks
  rw [ec]
def rIdxS (K : PySem.W.Frag) : V → List V → Hp → VK → Prop := fun x xs H Q => ∃ (p : Addr) (cs : List Nat) (c j : Nat), x = .ref p ∧ xs = [sg c] ∧ SqL K H p (cs.map sg) ∧ cs.findIdx? (· == c) = some j ∧ Q (.int (j : Nat)) H
theorem mt_indexS {K : PySem.W.Frag} (hK : X.K = K := by rfl) : MtR X "list.index" (rIdxS K) := by
  subst hK
  intro pins s σ H x xs v us Q I rx rxs h
  obtain ⟨p, cs, c, j, rfl, rfl, hs, hj, q⟩ := h
  obtain ⟨h1, h2, h3⟩ := List.findIdx?_eq_some_iff_getElem.mp hj
  refine mt_index pins s σ H _ _ v us Q I rx rxs ⟨p, cs.map sg, sg c, j, sg cs[j], rfl, rfl, hs, rfl, flat_sg cs, by rw [List.getElem?_map, List.getElem?_eq_getElem h1]; rfl, by rw [eqV_sg]; exact h2, fun m z' hm hz => ?_, q⟩
  rw [List.getElem?_map, List.getElem?_eq_getElem (by omega)] at hz
  cases hz
  rw [eqV_sg]
  simpa using h3 m hm
end
section
variable {K : PySem.W.Frag} {H : Hp} {Q : VK}
theorem rd_inC {p : Addr} {cs : List Nat} {c : Nat} (h : H p = some (.lst (cs.map sg))) (q : Q (.bl (decide (c ∈ cs))) H) : rIn K false (sg c) (.ref p) H Q :=
  ⟨p, _, rfl, Or.inl (SqL.of h), rfl, flat_sg cs, by
    rw [any_sg, if_neg Bool.false_ne_true]
    exact q⟩
/-- for c in a text -/
theorem for_txt {z : Str} {g : TG} {tb : TS} {D : Ends} {σ : L2.St} {H : Hp} (Pv : Nat → L2.St → Hp → Prop) (h0 : Pv 0 σ H)
    (hs : ∀ i c σ H, z.cps[i]? = some c → Pv i σ H → g (sg c) σ H fun σ2 H2 => tb { D with nx := Pv (i + 1), ct := Pv (i + 1), bk := D.nx } σ2 H2) (hd : ∀ σ H, Pv z.cps.size σ H → D.nx σ H) :
    ∃ W : Nat → Nat → L2.St → Hp → Prop, (∃ m, W 0 m σ H) ∧ ∀ i m σ H, W i m σ H →
      ((Its z).stop i H ∧ D.nx σ H) ∨ ((Its z).go i H ∧ ∃ N : L2.St → Hp → Prop, (∀ σ' H', N σ' H' → ∃ m', m' < m ∧ W (i + 1) m' σ' H') ∧ ∀ x H', (Its z).yld i H x H' → g x σ H' fun σ2 H2 => tb { D with nx := N, ct := N, bk := D.nx } σ2 H2) :=
  for_it walk_str Pv h0 (fun _ _ _ _ _ => True.intro) (fun i x σ H H' _ p y => by
    obtain ⟨rfl, c, hc, rfl⟩ := y
    exact hs i c σ H' hc p) hd
end
end LX

namespace LX
open PySem L2
def oI : Option Nat → V
  | none => .non
  | some j => .int (j : Nat)
theorem fi_some {cs : List Nat} {c i : Nat} (h : cs[i]? = some c) (n : ∀ m, m < i → cs[m]? ≠ some c) : cs.findIdx? (· == c) = some i := by
  obtain ⟨h1, h2⟩ := List.getElem?_eq_some_iff.mp h
  refine List.findIdx?_eq_some_iff_getElem.mpr ⟨h1, by rw [h2]; exact beq_self_eq_true c, fun m hm => ?_⟩
  have := n m hm
  rw [List.getElem?_eq_getElem (by omega)] at this
  simpa using this
theorem fi_none {cs : List Nat} {c : Nat} (n : ∀ m, m < cs.length → cs[m]? ≠ some c) : cs.findIdx? (· == c) = none := by
  rw [List.findIdx?_eq_none_iff]
  intro x hx
  obtain ⟨m, hm, rfl⟩ := List.mem_iff_getElem.mp hx
  have := n m hm
  rw [List.getElem?_eq_getElem hm] at this
  simpa using this
theorem fi_mem {cs : List Nat} {c : Nat} (h : c ∈ cs) : ∃ j, cs.findIdx? (· == c) = some j ∧ j < cs.length := by
  cases e : cs.findIdx? (· == c) with
  | none =>
    rw [List.findIdx?_eq_none_iff] at e
    have := e c h
    simp at this
  | some j => exact ⟨j, rfl, (List.findIdx?_eq_some_iff_getElem.mp e).1⟩
theorem fi_not {cs : List Nat} {c : Nat} (h : c ∉ cs) : cs.findIdx? (· == c) = none := by
  rw [List.findIdx?_eq_none_iff]
  intro x hx
  simp
  intro e
  exact h (e ▸ hx)
/-- the letters below x -/
def below (cs : List Nat) (x : Nat) : Nat := cs.countP (fun c => decide (c < x))
theorem below_succ (cs : List Nat) (x : Nat) : below cs (x + 1) = below cs x + cs.count x := by
  unfold below
  induction cs with
  | nil => rfl
  | cons c cs ih =>
    rw [List.countP_cons, List.countP_cons, List.count_cons, ih]
    by_cases h : c = x
    · subst h
      simp
      omega
    · have e : (c == x) = false := by simpa using h
      rw [e]
      by_cases h2 : c < x
      · rw [if_pos (by simp; omega), if_pos (by simpa using h2)]
        simp
        omega
      · rw [if_neg (by simp; omega), if_neg (by simpa using h2)]
        simp
theorem below_all {cs : List Nat} {x : Nat} (h : ∀ c ∈ cs, c < x) : below cs x = cs.length := by
  unfold below
  rw [List.countP_eq_length]
  intro c hc
  simpa using h c hc
theorem below_none {cs : List Nat} {x : Nat} (h : ∀ c ∈ cs, x ≤ c) : below cs x = 0 := by
  unfold below
  rw [List.countP_eq_zero]
  intro c hc
  have := h c hc
  simp
  omega
theorem rd_forEn {K : PySem.W.Frag} {σ : L2.St} {H : Hp} {ta : TA} {g : TG} {tb : TS} {D : Ends} (M : Addr → List V → Hp → Prop) (h1 : ∀ R : List V → Hp → Prop, (∀ b xs H1, M b xs H1 → R [.ref b] H1) → ta σ H R)
    (h2 : ∀ b xs H1, M b xs H1 → SqL K H1 b xs ∧ ∃ W : Nat → Nat → L2.St → Hp → Prop, (∃ m, W 0 m σ H1) ∧ ∀ i m σ H, W i m σ H →
      ((Ite K b).stop i H ∧ D.nx σ H) ∨ ((Ite K b).go i H ∧ ∃ N : L2.St → Hp → Prop, (∀ σ' H', N σ' H' → ∃ m', m' < m ∧ W (i + 1) m' σ' H') ∧ ∀ x H', (Ite K b).yld i H x H' → g x σ H' fun σ2 H2 => tb { D with nx := N, ct := N, bk := D.nx } σ2 H2)) :
    tFor (iEnum K ta) g tb D σ H := h1 _ fun b xs H1 m => ⟨b, xs, rfl, (h2 b xs H1 m).1, (h2 b xs H1 m).2⟩
theorem rd_teM2 {te : TE} {σ : L2.St} {H : Hp} {Q : VK} (M : VK) (h1 : ∀ R : VK, (∀ x H1, M x H1 → R x H1) → te σ H R) (h2 : ∀ x H1, M x H1 → Q x H1) : te σ H Q := h1 _ h2
end LX
/-! ### data and its shape; comprehensions that make tuples; a dict of letters -/
namespace LX
open PySem L2
theorem u1_of {n m : Nat} (h : n + 64 < m) : n + 1 < m := by omega
def qDictP (K : PySem.W.Frag) : List V → Hp → VK → Prop := fun xs H Q => ∃ (a : Addr) (ps : List Addr) (kvs : List (Key × V)), xs = [.ref a] ∧ SqL K H a (ps.map V.ref) ∧ Paired (fun p kv => SqT K H p [kV kv.1, kv.2]) ps kvs ∧
    ∀ p, H p = none → Q (.ref p) (upd H p (.dK (mergeK [] kvs)))
theorem kdictP {X : Cx} {K : PySem.W.Frag} (hc : X.calm = true) (h : X.K = K := by rfl) : CallR X (.type "dict") (qDictP K) := by
  subst h
  exact call_dictP hc
structure Sd (n : Nat) (d : PyData) : Prop where
  lay : d.canLay0 = true
  dep : d.depth ≤ n
theorem sd_all {n : Nat} : ∀ {xs : List PyData}, (∀ x ∈ xs, Sd n x) → PyData.canLayAll0 xs = true ∧ PyData.depthAll xs ≤ n
  | [], _ => by
    simp only [PyData.canLayAll0, PyData.depthAll]
    exact ⟨trivial, Nat.zero_le _⟩
  | x :: xs, h => by
    obtain ⟨a1, a2⟩ := h x List.mem_cons_self
    obtain ⟨b1, b2⟩ := sd_all fun y hy => h y (List.mem_cons_of_mem _ hy)
    simp only [PyData.canLayAll0, PyData.depthAll, a1, b1, Bool.and_self]
    exact ⟨trivial, by omega⟩
theorem Sd.list {n : Nat} {xs : List PyData} (h : ∀ x ∈ xs, Sd n x) : Sd (n + 1) (.list xs) := by
  obtain ⟨h1, h2⟩ := sd_all h
  exact ⟨by simp only [PyData.canLay0]; exact h1, by simp only [PyData.depth]; omega⟩
theorem Sd.tuple {n : Nat} {xs : List PyData} (h : ∀ x ∈ xs, Sd n x) : Sd (n + 1) (.tuple xs) := by
  obtain ⟨h1, h2⟩ := sd_all h
  exact ⟨by simp only [PyData.canLay0]; exact h1, by simp only [PyData.depth]; omega⟩
theorem Sd.mono {n m : Nat} {d : PyData} (h : Sd n d) (k : n ≤ m) : Sd m d := ⟨h.lay, Nat.le_trans h.dep k⟩
theorem Sd.none {n : Nat} : Sd n .none := ⟨by simp only [PyData.canLay0], by simp only [PyData.depth]; omega⟩
theorem Sd.int {n : Nat} {i : Int} : Sd n (.int i) := ⟨by simp only [PyData.canLay0], by simp only [PyData.depth]; omega⟩
theorem Sd.str {n : Nat} {cs : List Nat} (h : ∀ c ∈ cs, c ≤ 122) : Sd n (.str (txt cs)) := by
  refine ⟨?_, by simp only [PyData.depth]; omega⟩
  simp only [PyData.canLay0]
  show (cs.toArray).all (· < 0x110000) = true
  rw [List.all_toArray, List.all_eq_true]
  intro c hc
  have := h c hc
  simp
  omega
theorem Sd.shaped {n : Nat} {d : PyData} (h : Sd n d) (k : n ≤ 64) : SeqAt.shaped d = true := Bool.and_eq_true_iff.mpr ⟨h.lay, decide_eq_true (Nat.le_trans h.dep k)⟩
section
variable {K : PySem.W.Frag} {a D : Addr} {g : TG} {te : TE} {vs : List Nat} {σ : L2.St} {H1 : Hp} {Qd : Hp → Prop} {α : Type} {J : It} {n : Nat} {Y : Nat → Hp → V → Hp → Prop}
/-- a comprehension whose items are new tuples -/
theorem lc_mk {m : α → List V} {zs : List α} (w : Walk J n (fun H => Same H1 H) Y) (hn : zs.length = n) (hz : n ≤ 1000) (hD : H1 D = none)
    (hs : ∀ i e x H H', zs[i]? = some e → Same H1 H → Y i H x H' → ∀ (R : V → Hp → Prop), (∀ t H4, Same H H4 → H4 t = some (.tup (m e)) → R (.ref t) H4) → g x (wipe σ vs) H' fun σ2 H2 => wipe σ2 vs = wipe σ vs ∧ te σ2 H2 R)
    (hd : ∀ H' us, Same H1 H' → H' D = some (.lst (us.map V.ref)) → TsAt m H' us zs → Qd H') :
    ∃ W : Nat → Nat → Hp → Prop, (∃ m, W 0 m (upd H1 D (.lst []))) ∧ ∀ i m H, W i m H →
      (J.stop i H ∧ Qd H) ∨ (J.go i H ∧ ∃ Nx : Hp → Prop, (∀ H', Nx H' → ∃ m', m' < m ∧ W (i + 1) m' H') ∧ ∀ x H', J.yld i H x H' → g x (wipe σ vs) H' fun σ2 H2 => wipe σ2 vs = wipe σ vs ∧ tYes σ2 H2 fun b H3 =>
        if b = true then te σ2 H3 fun y H4 => ∃ acc, H4 D = some (.lst acc) ∧ acc.length < sizeLine ∧ Nx (upd H4 D (.lst (acc ++ [y]))) else Nx H3) := by
  refine lc_it (tt := tYes) w (fun i H => Same H1 H ∧ ∃ us : List Addr, H D = some (.lst (us.map V.ref)) ∧ TsAt m H us (zs.take i)) ⟨sNew hD, [], upd_same, True.intro⟩ (fun _ _ _ h => h.1) ?_ ?_
  · rintro i x H H' hi ⟨s, us, e, t⟩ y
    have hx : zs[i]? = some (zs[i]'(by omega)) := List.getElem?_eq_getElem _
    have ul := t.len
    rw [List.length_take] at ul
    refine hs i _ x H H' hx s y _ fun t4 H4 s4 ht4 => ⟨_, s4 _ _ e, small1000 (by rw [List.length_map]; omega), sUpd (s.trans s4) hD, us ++ [t4], by rw [upd_same, List.map_append]; rfl, ?_⟩
    have tD : t4 ≠ D := fun z => by
      rw [z, s4 _ _ e] at ht4
      cases ht4
    rw [take_of hx]
    exact ((t.mono (sTups s4)).off (s4 _ _ e)).snoc (by rw [upd_ne tD]; exact ht4)
  · rintro H ⟨s, us, e, t⟩
    rw [← hn, List.take_length] at t
    exact hd H us s e t
/-- a comprehension whose items are known values -/
theorem lc_mv {v : α → V} {zs : List α} (w : Walk J n (fun H => Same H1 H) Y) (hn : zs.length = n) (hz : n ≤ 1000) (hD : H1 D = none)
    (hs : ∀ i e x H H', zs[i]? = some e → Same H1 H → Y i H x H' → ∀ (R : V → Hp → Prop), (∀ H4, Same H H4 → R (v e) H4) → g x (wipe σ vs) H' fun σ2 H2 => wipe σ2 vs = wipe σ vs ∧ te σ2 H2 R)
    (hd : ∀ H', Same H1 H' → H' D = some (.lst (zs.map v)) → Qd H') :
    ∃ W : Nat → Nat → Hp → Prop, (∃ m, W 0 m (upd H1 D (.lst []))) ∧ ∀ i m H, W i m H →
      (J.stop i H ∧ Qd H) ∨ (J.go i H ∧ ∃ Nx : Hp → Prop, (∀ H', Nx H' → ∃ m', m' < m ∧ W (i + 1) m' H') ∧ ∀ x H', J.yld i H x H' → g x (wipe σ vs) H' fun σ2 H2 => wipe σ2 vs = wipe σ vs ∧ tYes σ2 H2 fun b H3 =>
        if b = true then te σ2 H3 fun y H4 => ∃ acc, H4 D = some (.lst acc) ∧ acc.length < sizeLine ∧ Nx (upd H4 D (.lst (acc ++ [y]))) else Nx H3) := by
  refine lc_it (tt := tYes) w (fun i H => Same H1 H ∧ H D = some (.lst ((zs.take i).map v))) ⟨sNew hD, upd_same⟩ (fun _ _ _ h => h.1) ?_ ?_
  · rintro i x H H' hi ⟨s, e⟩ y
    have hx : zs[i]? = some (zs[i]'(by omega)) := List.getElem?_eq_getElem _
    refine hs i _ x H H' hx s y _ fun H4 s4 => ⟨_, s4 _ _ e, small1000 (by rw [List.length_map, List.length_take]; omega), sUpd (s.trans s4) hD, ?_⟩
    rw [upd_same, take_of hx, List.map_append]
    rfl
  · rintro H ⟨s, e⟩
    rw [← hn, List.take_length] at e
    exact hd H s e
theorem wk_txt {z : Str} : Walk (Its z) z.cps.size (fun H => Same H1 H) (fun i H v H' => H' = H ∧ ∃ c, z.cps[i]? = some c ∧ v = .str ⟨#[c]⟩) := walk_str.mono (fun _ _ => True.intro) fun _ _ _ _ _ _ y => y
theorem wk_list {xs : List V} (ha : H1 a = some (.lst xs)) : Walk (Itl K a) xs.length (fun H => Same H1 H) (YAt xs) := walk_list.mono (fun _ s => SqL.of (s _ _ ha)) fun _ _ _ _ _ _ y => y
end
/-- a dict from letters to letters -/
def NmAt (H : Hp) (N : Addr) (f : Nat → Nat) : Prop := ∃ kvs : List (Key × V), H N = some (.dK kvs) ∧ ∀ c, 97 ≤ c → c ≤ 122 → valV kvs (.inr ⟨#[c]⟩) = some (sg (f c))
theorem NmAt.same {H H' : Hp} {N : Addr} {f : Nat → Nat} (h : NmAt H N f) (s : Same H H') : NmAt H' N f :=
  let ⟨k, h1, h2⟩ := h
  ⟨k, s _ _ h1, h2⟩
theorem NmAt.get {H : Hp} {N : Addr} {f : Nat → Nat} (h : NmAt H N f) {c : Nat} (c0 : 97 ≤ c) (c1 : c ≤ 122) : DGet H N (sg c) (some (sg (f c))) := by
  obtain ⟨k, h1, h2⟩ := h
  rw [← h2 c c0 c1]
  exact DGet.k (k := .inr ⟨#[c]⟩) h1
theorem rd_nm {td ty : TE} {σ : L2.St} {H : Hp} {Q : VK} (q : td σ H fun x H1 => ty σ H1 fun y H2 => ∃ a v, x = .ref a ∧ DGet H2 a y (some v) ∧ Q v H2) : tDGet td ty σ H Q := q
theorem merge_other {k : Key} : ∀ {l : List (Key × V)} {acc : List (Key × V)}, (∀ e ∈ l, e.1 ≠ k) → valV (mergeK acc l) k = valV acc k
  | [], _, _ => rfl
  | e :: l, acc, h => by
    show valV (mergeK (L2.putK acc e.1 e.2) l) k = _
    rw [merge_other fun e he => h e (List.mem_cons_of_mem _ he), valV_put, if_neg fun z => h e List.mem_cons_self z.symm]
theorem merge_at : ∀ {l : List (Key × V)} {acc : List (Key × V)} {i : Nat} {e : Key × V}, (l.map (·.1)).Nodup → l[i]? = some e → valV (mergeK acc l) e.1 = some e.2
  | [], _, i, e, _, h => by simp at h
  | d :: l, acc, 0, e, nd, h => by
    have e1 : d = e := by simpa using h
    subst e1
    show valV (mergeK (L2.putK acc d.1 d.2) l) d.1 = _
    rw [List.map_cons, List.nodup_cons] at nd
    refine (merge_other (k := d.1) fun x hx z => nd.1 ?_).trans ?_
    · rw [← z]
      exact List.mem_map_of_mem (f := fun x : Key × V => x.1) hx
    · rw [valV_put, if_pos rfl]
  | d :: l, acc, i + 1, e, nd, h => by
    rw [List.map_cons, List.nodup_cons] at nd
    exact merge_at (l := l) nd.2 (by simpa using h)
theorem rd_iS {te : TE} {σ : L2.St} {H : Hp} {R : It → Hp → Prop} (q : te σ H fun v H1 => ∃ x, v = .str x ∧ R (Its x) H1) : iStr te σ H R := q
abbrev abcZ : Str := Str.ofString "abcdefghijklmnopqrstuvwxyz"
abbrev abcN : List Nat := (List.range 26).map (97 + ·)
theorem abcZ_eq : abcZ.cps.toList = abcN := by decide
theorem abcN_at {i c : Nat} (h : abcN[i]? = some c) : c = 97 + i ∧ i < 26 := by
  rw [List.getElem?_map] at h
  obtain ⟨n, h1, h2⟩ := Option.map_eq_some_iff.mp h
  have hi : i < 26 := by
    have := (List.getElem?_eq_some_iff.mp h1).1
    rwa [List.length_range] at this
  rw [List.getElem?_range hi] at h1
  cases h1
  exact ⟨h2.symm, hi⟩
theorem abcZ_at {i c : Nat} (h : abcZ.cps[i]? = some c) : c = 97 + i ∧ i < 26 := by
  refine abcN_at ?_
  rw [← abcZ_eq]
  simpa using h
theorem mem_abcN {c : Nat} : c ∈ abcN ↔ 97 ≤ c ∧ c ≤ 122 := by
  rw [List.mem_map]
  constructor
  · rintro ⟨n, hn, rfl⟩
    rw [List.mem_range] at hn
    omega
  · intro h
    exact ⟨c - 97, by rw [List.mem_range]; omega, by omega⟩
theorem dp_app {K : PySem.W.Frag} {H : Hp} : ∀ {xs ys : List V} {ds es : List PyData}, DpAll K H xs ds → DpAll K H ys es → DpAll K H (xs ++ ys) (ds ++ es)
  | [], _, [], _, _, h => h
  | _ :: _, _, _ :: _, _, .cons h k, h2 => .cons h (dp_app k h2)
  | [], _, _ :: _, _, h, _ => by cases h
  | _ :: _, _, [], _, h, _ => by cases h
def dOI : Option Nat → PyData
  | none => .none
  | some j => .int (j : Nat)
theorem dp_oI {K : PySem.W.Frag} {H : Hp} (o : Option Nat) : Dp K H (oI o) (dOI o) := by
  cases o with
  | none => exact .non
  | some j => exact .int _
theorem Sd.oI {n : Nat} (o : Option Nat) : Sd n (dOI o) := by
  cases o with
  | none => exact Sd.none
  | some j => exact Sd.int
theorem Sd.opt {n : Nat} {o : Option Nat} (h : ∀ c, o = some c → c ≤ 122) : Sd n (dO o) := by
  cases o with
  | none => exact Sd.none
  | some c =>
    exact Sd.str (cs := [c]) fun d hd => by
      rw [List.mem_singleton] at hd
      rw [hd]
      exact h c rfl
abbrev dRuns (rs : List (Nat × Nat)) : PyData := .list (rs.map fun e => .tuple (dPC e))
theorem Sd.runs {rs : List (Nat × Nat)} (h : ∀ e ∈ rs, e.1 ≤ 122) : Sd 2 (dRuns rs) := by
  refine Sd.list fun x hx => ?_
  obtain ⟨e, he, rfl⟩ := List.mem_map.mp hx
  refine Sd.tuple fun y hy => ?_
  rcases List.mem_cons.mp hy with c | c
  · rw [c]
    exact Sd.str (cs := [e.1]) fun d hd => by
      rw [List.mem_singleton] at hd
      rw [hd]
      exact h e he
  · rw [List.mem_singleton.mp c]
    exact Sd.int
theorem runs_fst (cs : List Nat) : ∀ e ∈ runs cs, e.1 ∈ cs := by
  have go : ∀ k, k ≤ cs.length → ∀ e ∈ runs (cs.take k), e.1 ∈ cs := by
    intro k
    induction k with
    | zero => intro _ e he; cases he
    | succ k ih =>
      intro hk e he
      have hx : cs[k]? = some cs[k] := List.getElem?_eq_getElem (by omega)
      rw [take_of hx, runs_snoc] at he
      have mem : cs[k] ∈ cs := List.getElem_mem _
      have ih := ih (by omega)
      unfold rsn at he
      cases q : (LX.runs (cs.take k)).getLast? with
      | none =>
        rw [q] at he
        rcases List.mem_append.mp he with h | h
        · exact ih e h
        · rw [List.mem_singleton.mp h]
          exact mem
      | some y =>
        obtain ⟨y, m⟩ := y
        rw [q] at he
        dsimp only at he
        by_cases c : y = cs[k]
        · rw [if_pos c] at he
          rcases List.mem_or_eq_of_mem_set he with h | h
          · exact ih e h
          · rw [h]
            exact mem
        · rw [if_neg c] at he
          rcases List.mem_append.mp he with h | h
          · exact ih e h
          · rw [List.mem_singleton.mp h]
            exact mem
  have := go cs.length (Nat.le_refl _)
  rw [List.take_length] at this
  exact this
/-- all that is asked of a lineup, by its colors -/
abbrev dRes (cs : List Nat) : PyData := .list ([.str (txt [cs.headD 0]), dO ((cs.filter fun d => d != cs.headD 0).head?), dRuns (runs cs), .str (txt (firstsOf cs))] ++ abcN.map fun c => .tuple [.int (cs.count c : Nat), dOI (cs.findIdx? (· == c))])
theorem sd_res {cs : List Nat} (h : ∀ c ∈ cs, c ≤ 122) (ne : cs ≠ []) : Sd 3 (dRes cs) := by
  have h0 : cs.headD 0 ≤ 122 := by
    cases cs with
    | nil => exact absurd rfl ne
    | cons c cs => exact h c List.mem_cons_self
  refine Sd.list fun x hx => ?_
  rcases List.mem_append.mp hx with hx | hx
  · rcases List.mem_cons.mp hx with rfl | hx
    · exact Sd.str fun d hd => by
        rw [List.mem_singleton] at hd
        rw [hd]
        exact h0
    rcases List.mem_cons.mp hx with rfl | hx
    · exact Sd.opt fun c e => h c (List.mem_filter.mp (List.mem_of_head? e)).1
    rcases List.mem_cons.mp hx with rfl | hx
    · exact Sd.runs fun e he => h _ (runs_fst cs e he)
    rw [List.mem_singleton.mp hx]
    exact Sd.str fun d hd => h d (mem_firsts.mp hd)
  · obtain ⟨c, _, rfl⟩ := List.mem_map.mp hx
    refine (Sd.tuple (n := 0) fun y hy => ?_).mono (by decide)
    rcases List.mem_cons.mp hy with c | c
    · rw [c]
      exact Sd.int
    · rw [List.mem_singleton.mp c]
      exact Sd.oI _
theorem paired_at {α β : Type} {R : α → β → Prop} : ∀ {xs : List α} {ys : List β}, xs.length = ys.length → (∀ (j : Nat) (x : α) (y : β), xs[j]? = some x → ys[j]? = some y → R x y) → Paired R xs ys
  | [], [], _, _ => .nil
  | x :: xs, y :: ys, h, k => .cons (k 0 x y rfl rfl) (paired_at (by simpa using h) fun j a b ha hb => k (j + 1) a b (by simpa using ha) (by simpa using hb))
  | [], _ :: _, h, _ => by simp at h
  | _ :: _, [], h, _ => by simp at h
theorem merge_some (k : Key) : ∀ (l acc : List (Key × V)), (valV (mergeK acc l) k).isSome = ((valV acc k).isSome || l.any fun e => decide (e.1 = k))
  | [], acc => by simp [mergeK]
  | e :: l, acc => by
    show (valV (mergeK (L2.putK acc e.1 e.2) l) k).isSome = _
    rw [merge_some k l, valV_put, List.any_cons]
    by_cases c : k = e.1
    · rw [if_pos c, decide_eq_true c.symm]
      simp
    · rw [if_neg c, decide_eq_false fun z => c z.symm]
      simp
theorem rd_din {ty td : TE} {σ : L2.St} {H : Hp} {Q : VK} (q : ty σ H fun y H1 => td σ H1 fun x H2 => ∃ a o, x = .ref a ∧ DGet H2 a y o ∧ Q (.bl o.isSome) H2) : tDIn ty td σ H Q := q
end LX

namespace LX
open PySem L2
section
variable {K : PySem.W.Frag} {a D : Addr} {g : TG} {tt : TT} {te : TE} {vs : List Nat} {σ : L2.St} {H1 : Hp} {Qd : Hp → Prop} {J : It} {n : Nat} {Y : Nat → Hp → V → Hp → Prop}
/-- a comprehension with a test, its items known by their numbers -/
theorem lc_f (w : Walk J n (fun H => Same H1 H) Y) (f : Nat → Option V) (hD : H1 D = none) (hz : n ≤ 1000)
    (hs : ∀ i x H H', i < n → Same H1 H → Y i H x H' → ∀ (T : V → Hp → Prop) (F : Hp → Prop), (∀ y H4, f i = some y → Same H H4 → T y H4) → (∀ H4, f i = none → Same H H4 → F H4) →
      g x (wipe σ vs) H' fun σ2 H2 => wipe σ2 vs = wipe σ vs ∧ tt σ2 H2 fun b H3 => if b = true then te σ2 H3 T else F H3)
    (hd : ∀ H', Same H1 H' → H' D = some (.lst ((List.range n).filterMap f)) → Qd H') :
    ∃ W : Nat → Nat → Hp → Prop, (∃ m, W 0 m (upd H1 D (.lst []))) ∧ ∀ i m H, W i m H →
      (J.stop i H ∧ Qd H) ∨ (J.go i H ∧ ∃ Nx : Hp → Prop, (∀ H', Nx H' → ∃ m', m' < m ∧ W (i + 1) m' H') ∧ ∀ x H', J.yld i H x H' → g x (wipe σ vs) H' fun σ2 H2 => wipe σ2 vs = wipe σ vs ∧ tt σ2 H2 fun b H3 =>
        if b = true then te σ2 H3 fun y H4 => ∃ acc, H4 D = some (.lst acc) ∧ acc.length < sizeLine ∧ Nx (upd H4 D (.lst (acc ++ [y]))) else Nx H3) := by
  refine lc_it w (fun i H => Same H1 H ∧ H D = some (.lst ((List.range i).filterMap f))) ⟨sNew hD, upd_same⟩ (fun _ _ _ h => h.1) ?_ ?_
  · rintro i x H H' hi ⟨s, e⟩ y
    have ln : ((List.range i).filterMap f).length ≤ i := by
      have := List.length_filterMap_le f (List.range i)
      rw [List.length_range] at this
      exact this
    refine hs i x H H' hi s y _ _ (fun v H4 hv s4 => ⟨_, s4 _ _ e, small1000 (by omega), sUpd (s.trans s4) hD, ?_⟩) fun H4 hv s4 => ⟨s.trans s4, ?_⟩
    · rw [upd_same, List.range_succ, List.filterMap_append, List.filterMap_cons_some hv]
      rfl
    · rw [s4 _ _ e, List.range_succ, List.filterMap_append, List.filterMap_cons_none hv]
      show _ = some (HO.lst (_ ++ []))
      rw [List.append_nil]
  · rintro H ⟨s, e⟩
    exact hd H s e
theorem wk_enum {xs : List V} (ha : H1 a = some (.lst xs)) : Walk (Ite K a) xs.length (fun H => Same H1 H) (YPair (fun i => some (.int (i : Nat))) (fun i => xs[i]?)) := walk_enum.mono (fun _ s => SqL.of (s _ _ ha)) fun _ _ _ _ _ _ y => y
theorem wk_range {lo : Int} {n : Nat} : Walk (Itr lo n) n (fun H => Same H1 H) (YFn fun i => .int (lo + i)) := walk_range.mono (fun _ _ => True.intro) fun _ _ _ _ _ _ y => y
theorem rd_iEn {ta : TA} {H : Hp} {R : It → Hp → Prop} (q : ta σ H fun vs H1 => ∃ a xs, vs = [.ref a] ∧ SqL K H1 a xs ∧ R (Ite K a) H1) : iEnum K ta σ H R := q
end
theorem rd_inTx {H : Hp} {Q : VK} {c : Nat} {cs : List Nat} (q : Q (.bl (decide (c ∈ cs))) H) : rInT false (sg c) (.str (txt cs)) H Q :=
  ⟨c, _, rfl, rfl, q⟩
theorem rd_notInTx {H : Hp} {Q : VK} {c : Nat} {cs : List Nat} (q : Q (.bl (!decide (c ∈ cs))) H) : rInT true (sg c) (.str (txt cs)) H Q :=
  ⟨c, _, rfl, rfl, q⟩
theorem len_txt (cs : List Nat) : (txt cs).length = cs.length := rfl
end LX
namespace LX
open PySem L2
theorem rd_forR2 {σ : L2.St} {H : Hp} {ta : TA} {g : TG} {tb : TS} {D : Ends} (lo hi : Int) (b1 : -(2 ^ 62) ≤ lo) (b2 : lo < 2 ^ 62) (b3 : -(2 ^ 62) ≤ hi) (b4 : hi < 2 ^ 62) (M : Hp → Prop) (h1 : ∀ R : List V → Hp → Prop, (∀ H1, M H1 → R [.int lo, .int hi] H1) → ta σ H R)
    (h2 : ∀ H1, M H1 → ∃ W : Nat → Nat → L2.St → Hp → Prop, (∃ m, W 0 m σ H1) ∧ ∀ i m σ H, W i m σ H →
      ((Itr lo (hi - lo).toNat).stop i H ∧ D.nx σ H) ∨ ((Itr lo (hi - lo).toNat).go i H ∧ ∃ N : L2.St → Hp → Prop, (∀ σ' H', N σ' H' → ∃ m', m' < m ∧ W (i + 1) m' σ' H') ∧ ∀ x H', (Itr lo (hi - lo).toNat).yld i H x H' → g x σ H' fun σ2 H2 => tb { D with nx := N, ct := N, bk := D.nx } σ2 H2)) :
    tFor (iRng2 ta) g tb D σ H := h1 _ fun H1 m => ⟨lo, hi, rfl, ⟨b1, b2, b3, b4⟩, h2 H1 m⟩
end LX
namespace LX
open PySem L2
section
variable {K : PySem.W.Frag} {a D : Addr} {g : TG} {tt : TT} {te : TE} {vs : List Nat} {σ : L2.St} {H1 : Hp} {Qd : Hp → Prop}
/-- a comprehension over any walk whose items are new tuples (made from some of zs) -/
theorem lc_mkf {J : It} {n : Nat} {Y : Nat → Hp → V → Hp → Prop} {α β : Type} {m : β → List V} {zs : List α} (w : Walk J n (fun H => Same H1 H) Y) (f : α → Option β) (hn : zs.length = n) (hz : n ≤ 1000) (hD : H1 D = none)
    (hs : ∀ i e x H H', zs[i]? = some e → Same H1 H → Y i H x H' → ∀ (T : V → Hp → Prop) (F : Hp → Prop), (∀ t b H4, f e = some b → Same H H4 → H4 t = some (.tup (m b)) → T (.ref t) H4) → (∀ H4, f e = none → Same H H4 → F H4) →
      g x (wipe σ vs) H' fun σ2 H2 => wipe σ2 vs = wipe σ vs ∧ tt σ2 H2 fun b H3 => if b = true then te σ2 H3 T else F H3)
    (hd : ∀ H' us, Same H1 H' → H' D = some (.lst (us.map V.ref)) → TsAt m H' us (zs.filterMap f) → Qd H') :
    ∃ W : Nat → Nat → Hp → Prop, (∃ m, W 0 m (upd H1 D (.lst []))) ∧ ∀ i m H, W i m H →
      (J.stop i H ∧ Qd H) ∨ (J.go i H ∧ ∃ Nx : Hp → Prop, (∀ H', Nx H' → ∃ m', m' < m ∧ W (i + 1) m' H') ∧ ∀ x H', J.yld i H x H' → g x (wipe σ vs) H' fun σ2 H2 => wipe σ2 vs = wipe σ vs ∧ tt σ2 H2 fun b H3 =>
        if b = true then te σ2 H3 fun y H4 => ∃ acc, H4 D = some (.lst acc) ∧ acc.length < sizeLine ∧ Nx (upd H4 D (.lst (acc ++ [y]))) else Nx H3) := by
  refine lc_it w (fun i H => Same H1 H ∧ ∃ us : List Addr, H D = some (.lst (us.map V.ref)) ∧ TsAt m H us ((zs.take i).filterMap f)) ⟨sNew hD, [], upd_same, True.intro⟩ (fun _ _ _ h => h.1) ?_ ?_
  · rintro i x H H' hi ⟨s, us, e, t⟩ y
    have hx : zs[i]? = some (zs[i]'(by omega)) := List.getElem?_eq_getElem _
    have ul := t.len
    have fl := List.length_filterMap_le f (zs.take i)
    rw [List.length_take] at fl
    refine hs i _ x H H' hx s y _ _ (fun t4 b H4 hb s4 ht4 => ⟨_, s4 _ _ e, small1000 (by rw [List.length_map]; omega), sUpd (s.trans s4) hD, us ++ [t4], by rw [upd_same, List.map_append]; rfl, ?_⟩) fun H4 hb s4 => ⟨s.trans s4, us, s4 _ _ e, ?_⟩
    · have tD : t4 ≠ D := fun z => by
        rw [z, s4 _ _ e] at ht4
        cases ht4
      rw [take_of hx, List.filterMap_append, List.filterMap_cons_some hb]
      exact ((t.mono (sTups s4)).off (s4 _ _ e)).snoc (by rw [upd_ne tD]; exact ht4)
    · rw [take_of hx, List.filterMap_append, List.filterMap_cons_none hb]
      show TsAt m H4 us (_ ++ [])
      rw [List.append_nil]
      exact t.mono (sTups s4)
  · rintro H ⟨s, us, e, t⟩
    rw [← hn, List.take_length] at t
    exact hd H us s e t
end
theorem fm_filt {α : Type} (p : α → Bool) : ∀ l : List α, l.filterMap (fun e => if p e = true then some e else none) = l.filter p
  | [] => rfl
  | x :: l => by
    have ih := fm_filt p l
    cases q : p x with
    | true =>
      rw [List.filter_cons_of_pos q, ← ih]
      exact List.filterMap_cons_some (by rw [if_pos q])
    | false =>
      rw [List.filter_cons_of_neg (by rw [q]; exact Bool.false_ne_true), ← ih]
      exact List.filterMap_cons_none (by rw [if_neg (by rw [q]; exact Bool.false_ne_true)])
end LX

namespace LX
open PySem L2
theorem Vr.by_perm {r r' : Row} (V0 : Vr r) (p : r'.Perm r) : Vr r' := by
  have l := p.length_eq
  exact ⟨by rw [l]; exact V0.n1, by rw [l]; exact V0.n2, fun e he => V0.col e (p.mem_iff.mp he), by rw [l]; exact (p.map _).trans V0.perm⟩
theorem TupsAt.rev' {H : Hp} : ∀ {ts : List Addr} {r : Row}, TupsAt H ts r → TupsAt H ts.reverse r.reverse
  | [], [], h => h
  | t :: ts, e :: r, h => by
    rw [List.reverse_cons, List.reverse_cons]
    exact (TupsAt.rev' (ts := ts) (r := r) h.2).app (TupsAt.one h.1)
  | [], _ :: _, h => h.elim
  | _ :: _, [], h => h.elim
/-- the bag, the lineup and the calls, three objects -/
structure Ew (H : Hp) (p l c : Addr) (r : Row) (cs : List Nat) (b : Nat) : Prop where
  S : SrcN H p b
  R : RowAt H l r
  V : Vr r
  gc : H c = some (.lst (cs.map vN))
  hcs : ∀ q ∈ cs, q < r.length
  ncp : c ≠ p
  nlc : l ≠ c
/-- all but these three stay -/
def Off3 (p l c : Addr) (H H' : Hp) : Prop := ∀ b o, H b = some o → b ≠ p → b ≠ l → b ≠ c → H' b = some o
theorem Off3.refl {p l c : Addr} {H : Hp} : Off3 p l c H H := fun _ _ e _ _ _ => e
theorem Off3.same {p l c : Addr} {H H1 H2 : Hp} (a : Off3 p l c H H1) (s : Same H1 H2) : Off3 p l c H H2 := fun x o e n1 n2 n3 => s _ _ (a x o e n1 n2 n3)
theorem Off3.draw {p l c : Addr} {H H1 H2 : Hp} (a : Off3 p l c H H1) (f : ∀ x, x ≠ p → H2 x = H1 x) : Off3 p l c H H2 := fun x o e n1 n2 n3 => by
  rw [f x n1]
  exact a x o e n1 n2 n3
theorem Off3.setc {p l c : Addr} {H H1 : Hp} {o : HO} (a : Off3 p l c H H1) : Off3 p l c H (upd H1 c o) := fun x o e n1 n2 n3 => by
  rw [upd_ne n3]
  exact a x o e n1 n2 n3
theorem Off3.setl {p l c : Addr} {H H1 : Hp} {o : HO} (a : Off3 p l c H H1) : Off3 p l c H (upd H1 l o) := fun x o e n1 n2 n3 => by
  rw [upd_ne n2]
  exact a x o e n1 n2 n3
section
variable {H H' : Hp} {p l c : Addr} {r : Row} {cs : List Nat} {b b' : Nat}
theorem srcLst (S : SrcN H p b) : ∃ xs, H p = some (.lst xs) ∧ xs.length = 3 ∧ ∀ x ∈ xs, ∃ i, x = V.int i := by
  obtain ⟨s0, s1, s2, e, _⟩ := S.ex
  refine ⟨_, e, rfl, fun x hx => ?_⟩
  rcases List.mem_cons.mp hx with z | hx
  · exact ⟨_, z⟩
  rcases List.mem_cons.mp hx with z | hx
  · exact ⟨_, z⟩
  · exact ⟨_, List.mem_singleton.mp hx⟩
theorem row_ne_src (S : SrcN H p b) (h : RowAt H l r) : l ≠ p := fun z => by
  obtain ⟨s0, s1, s2, e, _⟩ := S.ex
  obtain ⟨ts, h1, _⟩ := h
  rw [z, e] at h1
  injection h1 with h1
  injection h1 with h1
  cases ts with
  | nil => cases h1
  | cons t ts => cases h1
theorem RowAt.off' {xs : List V} {o : HO} {q : Addr} (h : RowAt H l r) (hq : H q = some (.lst xs)) (n : l ≠ q) : RowAt (upd H q o) l r := by
  obtain ⟨ts, h1, h2⟩ := h
  refine ⟨ts, by rw [upd_ne n]; exact h1, h2.mono fun x ys e => ?_⟩
  rw [upd_ne fun z => by rw [z, hq] at e; cases e]
  exact e
theorem Ew.nlp (E : Ew H p l c r cs b) : l ≠ p := row_ne_src E.S E.R
theorem Ew.same (E : Ew H p l c r cs b) (s : Same H H') : Ew H' p l c r cs b := ⟨E.S.same s, E.R.same s, E.V, s _ _ E.gc, E.hcs, E.ncp, E.nlc⟩
theorem Ew.draw (E : Ew H p l c r cs b) (S : SrcN H' p b') (f : ∀ x, x ≠ p → H' x = H x) : Ew H' p l c r cs b' := by
  obtain ⟨xs, hp, _⟩ := srcLst E.S
  have nlp := E.nlp
  refine ⟨S, ?_, E.V, by rw [f c E.ncp]; exact E.gc, E.hcs, E.ncp, E.nlc⟩
  obtain ⟨ts, h1, h2⟩ := E.R
  refine ⟨ts, by rw [f l nlp]; exact h1, h2.mono fun x ys e => ?_⟩
  rw [f x fun z => by rw [z, hp] at e; cases e]
  exact e
theorem Ew.setc (E : Ew H p l c r cs b) {cs' : List Nat} (h : ∀ q ∈ cs', q < r.length) {xs : List L2.V} (hx : xs = cs'.map vN) : Ew (upd H c (.lst xs)) p l c r cs' b := by
  subst hx
  obtain ⟨s0, s1, s2, e, h1, h2⟩ := E.S.ex
  exact ⟨⟨s0, s1, s2, by rw [upd_ne (Ne.symm E.ncp)]; exact e, h1, h2⟩, E.R.off' E.gc E.nlc, E.V, upd_same, h, E.ncp, E.nlc⟩
theorem Ew.setl (E : Ew H p l c r cs b) {r' : Row} {ts' : List Addr} (ht : TupsAt H ts' r') (hp : r'.Perm r) {xs : List L2.V} (hx : xs = ts'.map V.ref) : Ew (upd H l (.lst xs)) p l c r' cs b := by
  subst hx
  obtain ⟨ts, h1, h2⟩ := E.R
  obtain ⟨s0, s1, s2, e, h3, h4⟩ := E.S.ex
  have nlp := E.nlp
  refine ⟨⟨s0, s1, s2, by rw [upd_ne nlp.symm]; exact e, h3, h4⟩, ⟨ts', upd_same, ht.mono fun x ys e => ?_⟩, E.V.by_perm hp, by rw [upd_ne E.nlc.symm]; exact E.gc, by rw [hp.length_eq]; exact E.hcs, E.ncp, E.nlc⟩
  rw [upd_ne fun z => by rw [z, h1] at e; cases e]
  exact e
end
abbrev dC (cs : List Nat) : PyData := dI (cs.map fun c : Nat => (c : Int))
section
variable {K : PySem.W.Frag}
theorem dp_cs {H : Hp} {c : Addr} {cs : List Nat} (h : H c = some (.lst (cs.map vN))) : Dp K H (.ref c) (dC cs) := .lst (SqL.of h) (by
  have := dp_ints (K := K) (H := H) (cs.map fun c : Nat => (c : Int))
  rw [List.map_map] at this
  exact this)
abbrev d0 (r : Row) (cs : List Nat) : PyData := .list [dR r, dC cs]
theorem sh_dC {n : Nat} {cs : List Nat} (hn : n ≤ 60) (hcs : ∀ p ∈ cs, p < n) (hz : cs.length ≤ 240) : Sh 13 1 10000 (dC cs) := by
  have h := Sh.list (B := 13) (n := 0) (m := 40) (xs := (cs.map fun c : Nat => (c : Int)).map PyData.int) fun x hx => by
    obtain ⟨i, hi, rfl⟩ := List.mem_map.mp hx
    obtain ⟨q, hq, rfl⟩ := List.mem_map.mp hi
    refine Sh.int ?_
    have := hcs q hq
    have e : (10 : Nat) ^ 12 = 1000000000000 := by decide
    omega
  refine h.mono (by decide) ?_
  rw [List.length_map, List.length_map]
  omega
theorem sh_d0 {r : Row} {cs : List Nat} (V0 : Vr r) (hcs : ∀ p ∈ cs, p < r.length) (hz : cs.length ≤ 240) : Sh 13 3 30000 (d0 r cs) := by
  refine (Sh.list (n := 2) (m := 10000) fun x hx => ?_).mono (Nat.le_refl _) (show 2 * 10001 ≤ 30000 by decide)
  rcases List.mem_cons.mp hx with z | z
  · rw [z]
    exact (sh_row V0).mono (by decide) (by decide)
  · rw [List.mem_singleton.mp z]
    exact (sh_dC V0.n2 hcs hz).mono (by decide) (Nat.le_refl _)
theorem dp_d0 {H : Hp} {N l c : Addr} {r : Row} {cs : List Nat} (h : H N = some (.lst [.ref l, .ref c])) (h1 : RowAt H l r) (h2 : H c = some (.lst (cs.map vN))) : Dp K H (.ref N) (d0 r cs) :=
  .lst (SqL.of h) (.cons h1.dp (.cons (dp_cs h2) .nil))
/-- repr([lineup, calls]) -/
theorem rd_reprE {H : Hp} {Q : VK} {N p l c : Addr} {r : Row} {cs : List Nat} {b : Nat} (E : Ew H p l c r cs b) (hz : cs.length ≤ 240) (h : H N = some (.lst [.ref l, .ref c])) (q : Q (.str (d0 r cs).shown) H) : qRepr K [.ref N] H Q :=
  rd_repr (dp_d0 h E.R E.gc) (sh_d0 E.V E.hcs hz) (by decide) (by decide) q
end
end LX
namespace LX
open PySem L2
theorem _root_.L2.Same.draw {H0 H1 H2 : Hp} {p : Addr} (s : Same H0 H1) (hp : H0 p = none) (f : ∀ x, x ≠ p → H2 x = H1 x) : Same H0 H2 := fun x o e => by
  rw [f x (ne_of_none e hp)]
  exact s _ _ e
theorem _root_.L2.Same.off' {H0 H1 H2 : Hp} {p : Addr} (s : Same H0 H1) (hp : H0 p = none) (f : Same' p H1 H2) : Same H0 H2 := fun x o e => f _ _ (s _ _ e) (ne_of_none e hp)
theorem Ew.off {H : Hp} {p l c q : Addr} {r : Row} {cs : List Nat} {b : Nat} {xs : List L2.V} {o : HO} (E : Ew H p l c r cs b) (hq : H q = some (.lst xs)) (n1 : q ≠ p) (n2 : l ≠ q) (n3 : c ≠ q) : Ew (upd H q o) p l c r cs b := by
  obtain ⟨s0, s1, s2, e, h3, h4⟩ := E.S.ex
  exact ⟨⟨s0, s1, s2, by rw [upd_ne n1.symm]; exact e, h3, h4⟩, E.R.off' hq n2, E.V, by rw [upd_ne n3]; exact E.gc, E.hcs, E.ncp, E.nlc⟩
theorem Ew.le {H : Hp} {p l c : Addr} {r : Row} {cs : List Nat} {b b' : Nat} (E : Ew H p l c r cs b) (h : b ≤ b') : Ew H p l c r cs b' := ⟨E.S.mono h, E.R, E.V, E.gc, E.hcs, E.ncp, E.nlc⟩
end LX

namespace LX
open PySem L2
theorem pickI3 (a b c : Int) {j : Int} (h0 : 0 ≤ j) (h1 : j < 3) : ∃ x : Int, atI [V.int a, V.int b, V.int c] j = some (.int x) ∧ (x = a ∨ x = b ∨ x = c) := by
  have : j = 0 ∨ j = 1 ∨ j = 2 := by omega
  rcases this with e | e | e
  · subst e
    exact ⟨a, rfl, Or.inl rfl⟩
  · subst e
    exact ⟨b, rfl, Or.inr (Or.inl rfl)⟩
  · subst e
    exact ⟨c, rfl, Or.inr (Or.inr rfl)⟩
theorem rd_slI {K : PySem.W.Frag} {H : Hp} {Q : VK} {l : Addr} {ns : List Int} {lo hi : Option Int} (hS : Scr K H l ns) (q : ∀ b (ms : List Int), H b = none → ms.length ≤ ns.length → Q (.ref b) (upd H b (.lst (ms.map V.int)))) : rSlL K (.ref l) lo hi H Q := by
  obtain ⟨ms, e1, e2⟩ := cut_ints ns lo hi
  exact ⟨l, _, rfl, hS.seq, fun b hb => by rw [e1]; exact q b ms hb e2⟩
end LX

namespace K37
open PySem L2 LX
def top (i : Nat) : Stmt := PySem.Challenge.pw_lastother_k37_fewest_calls_to_one_color.main.body.getD i (.Pass ⟨0, 0, 0, 0⟩)
abbrev s__law_cells : Stmt := top 34
abbrev s__law_draw : Stmt := top 22
abbrev s__law_shuffled : Stmt := top 23
abbrev s__law_people : Stmt := top 24
abbrev s__law_some_people : Stmt := top 25
abbrev s_is_integer : Stmt := top 4
abbrev s_is_color : Stmt := top 5
abbrev s_is_colored_integer : Stmt := top 17
abbrev s_is_lineup : Stmt := top 15
abbrev s_check_lineup : Stmt := top 16
abbrev s_first_places : Stmt := top 9
abbrev s_people_in_the_way : Stmt := top 10
abbrev s_most_allowed : Stmt := top 11
abbrev s_greatest_values : Stmt := top 12
abbrev s_people_outside : Stmt := top 7
abbrev s_fewest_calls_to_one_color : Stmt := top 19
abbrev s__law_same : Stmt := top 33
abbrev s__law_outside : Stmt := top 29
abbrev s__law_after : Stmt := top 30
abbrev s__law_search : Stmt := top 31
abbrev s__law_letters : Stmt := top 26
abbrev s__law_first : Stmt := top 27
abbrev s__law_others : Stmt := top 28
abbrev s__law_reach : Stmt := top 32
abbrev s__law_right : Stmt := top 35
abbrev s__law_bag : Stmt := top 21
abbrev s_law : Stmt := top 36
structure Ad where
  f__law_cells : Addr
  d__law_cells : FuncData
  f__law_draw : Addr
  d__law_draw : FuncData
  f__law_shuffled : Addr
  d__law_shuffled : FuncData
  f__law_people : Addr
  d__law_people : FuncData
  f__law_some_people : Addr
  d__law_some_people : FuncData
  f_is_integer : Addr
  d_is_integer : FuncData
  f_is_color : Addr
  d_is_color : FuncData
  f_is_colored_integer : Addr
  d_is_colored_integer : FuncData
  f_is_lineup : Addr
  d_is_lineup : FuncData
  f_check_lineup : Addr
  d_check_lineup : FuncData
  f_first_places : Addr
  d_first_places : FuncData
  f_people_in_the_way : Addr
  d_people_in_the_way : FuncData
  f_most_allowed : Addr
  d_most_allowed : FuncData
  f_greatest_values : Addr
  d_greatest_values : FuncData
  f_people_outside : Addr
  d_people_outside : FuncData
  f_fewest_calls_to_one_color : Addr
  d_fewest_calls_to_one_color : FuncData
  f__law_same : Addr
  d__law_same : FuncData
  f__law_outside : Addr
  d__law_outside : FuncData
  f__law_after : Addr
  d__law_after : FuncData
  f__law_search : Addr
  d__law_search : FuncData
  f__law_letters : Addr
  d__law_letters : FuncData
  f__law_first : Addr
  d__law_first : FuncData
  f__law_others : Addr
  d__law_others : FuncData
  f__law_reach : Addr
  d__law_reach : FuncData
  f__law_right : Addr
  d__law_right : FuncData
  f__law_bag : Addr
  d__law_bag : FuncData
  f_law : Addr
  d_law : FuncData
  t_MOST_PEOPLE : Tok
structure Txt (K : PySem.W.Frag) (mg : Str → Option Value) (a : Ad) : Prop where
  b_all : mg "all" = none
  b_bool : mg "bool" = none
  b_enumerate : mg "enumerate" = none
  b_int : mg "int" = none
  b_isinstance : mg "isinstance" = none
  b_len : mg "len" = none
  b_list : mg "list" = none
  b_max : mg "max" = none
  b_min : mg "min" = none
  b_range : mg "range" = none
  b_repr : mg "repr" = none
  b_sorted : mg "sorted" = none
  b_str : mg "str" = none
  b_tuple : mg "tuple" = none
  b_type : mg "type" = none
  c_MOST_PEOPLE : mg "MOST_PEOPLE" = some (.int 60 a.t_MOST_PEOPLE)
  F__law_cells : Fun K "_law_cells" "_law_cells" s__law_cells a.f__law_cells a.d__law_cells
  n__law_cells : Binds K a.d__law_cells ["script"] []
  g__law_cells : mg "_law_cells" = some (.ref a.f__law_cells)
  k__law_cells : PySem.W.keepIn K (.ref a.f__law_cells) = true
  F__law_draw : Fun K "_law_draw" "_law_draw" s__law_draw a.f__law_draw a.d__law_draw
  n__law_draw : Binds K a.d__law_draw ["bag", "many"] []
  g__law_draw : mg "_law_draw" = some (.ref a.f__law_draw)
  k__law_draw : PySem.W.keepIn K (.ref a.f__law_draw) = true
  F__law_shuffled : Fun K "_law_shuffled" "_law_shuffled" s__law_shuffled a.f__law_shuffled a.d__law_shuffled
  n__law_shuffled : Binds K a.d__law_shuffled ["bag", "things"] []
  g__law_shuffled : mg "_law_shuffled" = some (.ref a.f__law_shuffled)
  k__law_shuffled : PySem.W.keepIn K (.ref a.f__law_shuffled) = true
  F__law_people : Fun K "_law_people" "_law_people" s__law_people a.f__law_people a.d__law_people
  n__law_people : Binds K a.d__law_people ["bag", "size", "limit"] []
  g__law_people : mg "_law_people" = some (.ref a.f__law_people)
  k__law_people : PySem.W.keepIn K (.ref a.f__law_people) = true
  F__law_some_people : Fun K "_law_some_people" "_law_some_people" s__law_some_people a.f__law_some_people a.d__law_some_people
  n__law_some_people : Binds K a.d__law_some_people ["script", "bag", "most", "limit"] []
  g__law_some_people : mg "_law_some_people" = some (.ref a.f__law_some_people)
  k__law_some_people : PySem.W.keepIn K (.ref a.f__law_some_people) = true
  F_is_integer : Fun K "is_integer" "is_integer" s_is_integer a.f_is_integer a.d_is_integer
  n_is_integer : Binds K a.d_is_integer ["value"] []
  g_is_integer : mg "is_integer" = some (.ref a.f_is_integer)
  k_is_integer : PySem.W.keepIn K (.ref a.f_is_integer) = true
  F_is_color : Fun K "is_color" "is_color" s_is_color a.f_is_color a.d_is_color
  n_is_color : Binds K a.d_is_color ["value"] []
  g_is_color : mg "is_color" = some (.ref a.f_is_color)
  k_is_color : PySem.W.keepIn K (.ref a.f_is_color) = true
  F_is_colored_integer : Fun K "is_colored_integer" "is_colored_integer" s_is_colored_integer a.f_is_colored_integer a.d_is_colored_integer
  n_is_colored_integer : Binds K a.d_is_colored_integer ["value"] []
  g_is_colored_integer : mg "is_colored_integer" = some (.ref a.f_is_colored_integer)
  k_is_colored_integer : PySem.W.keepIn K (.ref a.f_is_colored_integer) = true
  F_is_lineup : Fun K "is_lineup" "is_lineup" s_is_lineup a.f_is_lineup a.d_is_lineup
  n_is_lineup : Binds K a.d_is_lineup ["value"] []
  g_is_lineup : mg "is_lineup" = some (.ref a.f_is_lineup)
  k_is_lineup : PySem.W.keepIn K (.ref a.f_is_lineup) = true
  F_check_lineup : Fun K "check_lineup" "check_lineup" s_check_lineup a.f_check_lineup a.d_check_lineup
  n_check_lineup : Binds K a.d_check_lineup ["value"] []
  g_check_lineup : mg "check_lineup" = some (.ref a.f_check_lineup)
  k_check_lineup : PySem.W.keepIn K (.ref a.f_check_lineup) = true
  F_first_places : Fun K "first_places" "first_places" s_first_places a.f_first_places a.d_first_places
  n_first_places : Binds K a.d_first_places ["lineup"] []
  g_first_places : mg "first_places" = some (.ref a.f_first_places)
  k_first_places : PySem.W.keepIn K (.ref a.f_first_places) = true
  F_people_in_the_way : Fun K "people_in_the_way" "people_in_the_way" s_people_in_the_way a.f_people_in_the_way a.d_people_in_the_way
  n_people_in_the_way : Binds K a.d_people_in_the_way ["lineup", "color", "following"] []
  g_people_in_the_way : mg "people_in_the_way" = some (.ref a.f_people_in_the_way)
  k_people_in_the_way : PySem.W.keepIn K (.ref a.f_people_in_the_way) = true
  F_most_allowed : Fun K "most_allowed" "most_allowed" s_most_allowed a.f_most_allowed a.d_most_allowed
  n_most_allowed : Binds K a.d_most_allowed ["lineup", "values", "color"] []
  g_most_allowed : mg "most_allowed" = some (.ref a.f_most_allowed)
  k_most_allowed : PySem.W.keepIn K (.ref a.f_most_allowed) = true
  F_greatest_values : Fun K "greatest_values" "greatest_values" s_greatest_values a.f_greatest_values a.d_greatest_values
  n_greatest_values : Binds K a.d_greatest_values ["lineup"] []
  g_greatest_values : mg "greatest_values" = some (.ref a.f_greatest_values)
  k_greatest_values : PySem.W.keepIn K (.ref a.f_greatest_values) = true
  F_people_outside : Fun K "people_outside" "people_outside" s_people_outside a.f_people_outside a.d_people_outside
  n_people_outside : Binds K a.d_people_outside ["lineup", "colors"] []
  g_people_outside : mg "people_outside" = some (.ref a.f_people_outside)
  k_people_outside : PySem.W.keepIn K (.ref a.f_people_outside) = true
  F_fewest_calls_to_one_color : Fun K "fewest_calls_to_one_color" "fewest_calls_to_one_color" s_fewest_calls_to_one_color a.f_fewest_calls_to_one_color a.d_fewest_calls_to_one_color
  n_fewest_calls_to_one_color : Binds K a.d_fewest_calls_to_one_color ["lineup"] []
  g_fewest_calls_to_one_color : mg "fewest_calls_to_one_color" = some (.ref a.f_fewest_calls_to_one_color)
  k_fewest_calls_to_one_color : PySem.W.keepIn K (.ref a.f_fewest_calls_to_one_color) = true
  F__law_same : Fun K "_law_same" "_law_same" s__law_same a.f__law_same a.d__law_same
  n__law_same : Binds K a.d__law_same ["found", "due"] []
  g__law_same : mg "_law_same" = some (.ref a.f__law_same)
  k__law_same : PySem.W.keepIn K (.ref a.f__law_same) = true
  F__law_outside : Fun K "_law_outside" "_law_outside" s__law_outside a.f__law_outside a.d__law_outside
  n__law_outside : Binds K a.d__law_outside ["line", "wanted"] []
  g__law_outside : mg "_law_outside" = some (.ref a.f__law_outside)
  k__law_outside : PySem.W.keepIn K (.ref a.f__law_outside) = true
  F__law_after : Fun K "_law_after" "_law_after" s__law_after a.f__law_after a.d__law_after
  n__law_after : Binds K a.d__law_after ["line", "person"] []
  g__law_after : mg "_law_after" = some (.ref a.f__law_after)
  k__law_after : PySem.W.keepIn K (.ref a.f__law_after) = true
  F__law_search : Fun K "_law_search" "_law_search" s__law_search a.f__law_search a.d__law_search
  n__law_search : Binds K a.d__law_search ["line", "wanted"] []
  g__law_search : mg "_law_search" = some (.ref a.f__law_search)
  k__law_search : PySem.W.keepIn K (.ref a.f__law_search) = true
  F__law_letters : Fun K "_law_letters" "_law_letters" s__law_letters a.f__law_letters a.d__law_letters
  n__law_letters : Binds K a.d__law_letters ["line"] []
  g__law_letters : mg "_law_letters" = some (.ref a.f__law_letters)
  k__law_letters : PySem.W.keepIn K (.ref a.f__law_letters) = true
  F__law_first : Fun K "_law_first" "_law_first" s__law_first a.f__law_first a.d__law_first
  n__law_first : Binds K a.d__law_first ["line", "letter"] []
  g__law_first : mg "_law_first" = some (.ref a.f__law_first)
  k__law_first : PySem.W.keepIn K (.ref a.f__law_first) = true
  F__law_others : Fun K "_law_others" "_law_others" s__law_others a.f__law_others a.d__law_others
  n__law_others : Binds K a.d__law_others ["line", "position", "letter"] []
  g__law_others : mg "_law_others" = some (.ref a.f__law_others)
  k__law_others : PySem.W.keepIn K (.ref a.f__law_others) = true
  F__law_reach : Fun K "_law_reach" "_law_reach" s__law_reach a.f__law_reach a.d__law_reach
  n__law_reach : Binds K a.d__law_reach ["line"] []
  g__law_reach : mg "_law_reach" = some (.ref a.f__law_reach)
  k__law_reach : PySem.W.keepIn K (.ref a.f__law_reach) = true
  F__law_right : Fun K "_law_right" "_law_right" s__law_right a.f__law_right a.d__law_right
  n__law_right : Binds K a.d__law_right ["script", "bag"] []
  g__law_right : mg "_law_right" = some (.ref a.f__law_right)
  k__law_right : PySem.W.keepIn K (.ref a.f__law_right) = true
  F__law_bag : Fun K "_law_bag" "_law_bag" s__law_bag a.f__law_bag a.d__law_bag
  n__law_bag : Binds K a.d__law_bag ["cell", "turn"] []
  g__law_bag : mg "_law_bag" = some (.ref a.f__law_bag)
  k__law_bag : PySem.W.keepIn K (.ref a.f__law_bag) = true
  F_law : Fun K "law" "law" s_law a.f_law a.d_law
  n_law : Binds K a.d_law ["script"] []
  g_law : mg "law" = some (.ref a.f_law)
  k_law : PySem.W.keepIn K (.ref a.f_law) = true
  kb_fewest_calls_to_one_color_0_lineup : KBn K a.d_fewest_calls_to_one_color ["lineup"] 0 ["lineup"] (fun us ws => pick [0] (us ++ ws)) (fun vs zs => pick [0] (vs ++ zs))
theorem sc__law_cells : FnScope ["script"] ["script"] (defScope s__law_cells) := ⟨rfl, rfl, rfl, by decide +kernel, rfl, by decide +kernel, by decide +kernel⟩
theorem sc__law_draw : FnScope ["bag", "many", "found", "mixed"] ["bag", "many"] (defScope s__law_draw) := ⟨rfl, rfl, rfl, by decide +kernel, rfl, by decide +kernel, by decide +kernel⟩
theorem sc__law_shuffled : FnScope ["bag", "things", "left", "turn"] ["bag", "things"] (defScope s__law_shuffled) := ⟨rfl, rfl, rfl, by decide +kernel, rfl, by decide +kernel, by decide +kernel⟩
theorem sc__law_people : FnScope ["bag", "size", "limit", "stock", "kind", "found", "spot", "person", "wide", "letter"] ["bag", "size", "limit"] (defScope s__law_people) := ⟨rfl, rfl, rfl, by decide +kernel, rfl, by decide +kernel, by decide +kernel⟩
theorem sc__law_some_people : FnScope ["script", "bag", "most", "limit", "size"] ["script", "bag", "most", "limit"] (defScope s__law_some_people) := ⟨rfl, rfl, rfl, by decide +kernel, rfl, by decide +kernel, by decide +kernel⟩
theorem sc_is_integer : FnScope ["value"] ["value"] (defScope s_is_integer) := ⟨rfl, rfl, rfl, by decide +kernel, rfl, by decide +kernel, by decide +kernel⟩
theorem sc_is_color : FnScope ["value"] ["value"] (defScope s_is_color) := ⟨rfl, rfl, rfl, by decide +kernel, rfl, by decide +kernel, by decide +kernel⟩
theorem sc_is_colored_integer : FnScope ["value"] ["value"] (defScope s_is_colored_integer) := ⟨rfl, rfl, rfl, by decide +kernel, rfl, by decide +kernel, by decide +kernel⟩
theorem sc_is_lineup : FnScope ["value", "item", "person", "_"] ["value"] (defScope s_is_lineup) := ⟨rfl, rfl, rfl, by decide +kernel, rfl, by decide +kernel, by decide +kernel⟩
theorem sc_check_lineup : FnScope ["value"] ["value"] (defScope s_check_lineup) := ⟨rfl, rfl, rfl, by decide +kernel, rfl, by decide +kernel, by decide +kernel⟩
theorem sc_first_places : FnScope ["lineup", "places", "place", "_", "worn"] ["lineup"] (defScope s_first_places) := ⟨rfl, rfl, rfl, by decide +kernel, rfl, by decide +kernel, by decide +kernel⟩
theorem sc_people_in_the_way : FnScope ["lineup", "color", "following", "people", "person", "worn"] ["lineup", "color", "following"] (defScope s_people_in_the_way) := ⟨rfl, rfl, rfl, by decide +kernel, rfl, by decide +kernel, by decide +kernel⟩
theorem sc_most_allowed : FnScope ["lineup", "values", "color", "limits", "other"] ["lineup", "values", "color"] (defScope s_most_allowed) := ⟨rfl, rfl, rfl, by decide +kernel, rfl, by decide +kernel, by decide +kernel⟩
theorem sc_greatest_values : FnScope ["lineup", "values", "color"] ["lineup"] (defScope s_greatest_values) := ⟨rfl, rfl, rfl, by decide +kernel, rfl, by decide +kernel, by decide +kernel⟩
theorem sc_people_outside : FnScope ["lineup", "colors", "person", "worn"] ["lineup", "colors"] (defScope s_people_outside) := ⟨rfl, rfl, rfl, by decide +kernel, rfl, by decide +kernel, by decide +kernel⟩
theorem sc_fewest_calls_to_one_color : FnScope ["lineup", "values", "color"] ["lineup"] (defScope s_fewest_calls_to_one_color) := ⟨rfl, rfl, rfl, by decide +kernel, rfl, by decide +kernel, by decide +kernel⟩
theorem sc__law_same : FnScope ["found", "due", "k"] ["found", "due"] (defScope s__law_same) := ⟨rfl, rfl, rfl, by decide +kernel, rfl, by decide +kernel, by decide +kernel⟩
theorem sc__law_outside : FnScope ["line", "wanted", "person", "one"] ["line", "wanted"] (defScope s__law_outside) := ⟨rfl, rfl, rfl, by decide +kernel, rfl, by decide +kernel, by decide +kernel⟩
theorem sc__law_after : FnScope ["line", "person", "own", "some", "one", "letter", "pair"] ["line", "person"] (defScope s__law_after) := ⟨rfl, rfl, rfl, by decide +kernel, rfl, by decide +kernel, by decide +kernel⟩
theorem sc__law_search : FnScope ["line", "wanted", "seen", "layer", "many", "here", "there", "later", "person", "after", "letter", "one"] ["line", "wanted"] (defScope s__law_search) := ⟨rfl, rfl, rfl, by decide +kernel, rfl, by decide +kernel, by decide +kernel⟩
theorem sc__law_letters : FnScope ["line", "found", "person", "letter"] ["line"] (defScope s__law_letters) := ⟨rfl, rfl, rfl, by decide +kernel, rfl, by decide +kernel, by decide +kernel⟩
theorem sc__law_first : FnScope ["line", "letter", "person", "one"] ["line", "letter"] (defScope s__law_first) := ⟨rfl, rfl, rfl, by decide +kernel, rfl, by decide +kernel, by decide +kernel⟩
theorem sc__law_others : FnScope ["line", "position", "letter", "person", "one"] ["line", "position", "letter"] (defScope s__law_others) := ⟨rfl, rfl, rfl, by decide +kernel, rfl, by decide +kernel, by decide +kernel⟩
theorem sc__law_reach : FnScope ["line", "found", "letter", "position", "costs", "one"] ["line"] (defScope s__law_reach) := ⟨rfl, rfl, rfl, by decide +kernel, rfl, by decide +kernel, by decide +kernel⟩
theorem sc__law_right : FnScope ["script", "bag", "small", "line", "kept", "due", "found", "single", "person", "letter", "cost"] ["script", "bag"] (defScope s__law_right) := ⟨rfl, rfl, rfl, by decide +kernel, rfl, by decide +kernel, by decide +kernel⟩
theorem sc__law_bag : FnScope ["cell", "turn", "size"] ["cell", "turn"] (defScope s__law_bag) := ⟨rfl, rfl, rfl, by decide +kernel, rfl, by decide +kernel, by decide +kernel⟩
theorem sc_law : FnScope ["script", "k", "cell"] ["script"] (defScope s_law) := ⟨rfl, rfl, rfl, by decide +kernel, rfl, by decide +kernel, by decide +kernel⟩
end K37

/-! ### sorted of a list of tuples that are data -/
namespace LX
open PySem PySem.Spec PyProof.Rows L2
section
variable {α : Type}
/-- the order by data -/
abbrev leD (enc : α → List PyData) : α → α → Bool := PySem.W.dataLe false fun e => PyData.tuple (enc e)
/-- what must be told of the items -/
structure Srt1 (enc : α → List PyData) : Prop where
  alike : ∀ x y, PySem.W.alike (.tuple (enc x)) (.tuple (enc y)) = true
  first : ∀ x, ∃ d ds, enc x = d :: ds
  flat : ∀ x, (PyData.tuple (enc x)).depth ≤ 1
variable {X : Cx}
def rSortT (m : α → List V) (enc : α → List PyData) (K : PySem.W.Frag) : List V → Hp → VK → Prop := fun xs H Q => ∃ (a : Addr) (ts : List Addr) (zs : List α), xs = [.ref a] ∧ SqL K H a (ts.map V.ref) ∧ TsAt m H ts zs ∧ (∀ e, DpAll K H (m e) (enc e)) ∧ zs.length ≤ 1000 ∧
  ∀ (p : Addr) (us : List Addr) (ys : List α), H p = none → ys.Perm zs → ys.Pairwise (fun x y => leD enc x y = true) → TsAt m H us ys → Q (.ref p) (upd H p (.lst (us.map V.ref)))
theorem ts_zip {m : α → List V} {H : Hp} : ∀ {ts : List Addr} {zs : List α}, TsAt m H ts zs → ∀ b ∈ ts.zip zs, H b.1 = some (.tup (m b.2))
  | [], [], _, b, hb => by cases hb
  | t :: ts, z :: zs, h, b, hb => by
    rcases List.mem_cons.mp hb with e | e
    · rw [e]
      exact h.1
    · exact ts_zip (ts := ts) (zs := zs) h.2 b e
  | [], _ :: _, h, _, _ => h.elim
  | _ :: _, [], h, _, _ => h.elim
theorem zip_ts {m : α → List V} {H : Hp} : ∀ {bs : List (Addr × α)}, (∀ b ∈ bs, H b.1 = some (.tup (m b.2))) → TsAt m H (bs.map (·.1)) (bs.map (·.2))
  | [], _ => True.intro
  | b :: bs, h => ⟨h b List.mem_cons_self, zip_ts (bs := bs) fun c hc => h c (List.mem_cons_of_mem _ hc)⟩
theorem vals_refs1 : ∀ {ts : List Addr} {us : List Value}, Vals (ts.map V.ref) us → us = ts.map Value.ref
  | [], _, .nil => rfl
  | t :: ts, _, .cons r rs => by
    rw [List.map_cons, ← vals_refs1 rs]
    exact congrArg (· :: _) r
theorem each_zip {R : Value → Addr × α → Prop} : ∀ {ts : List Addr} {zs : List α}, ts.length = zs.length → (∀ b ∈ ts.zip zs, R (.ref b.1) b) → PySem.W.EachIs R (ts.map Value.ref) (ts.zip zs)
  | [], [], _, _ => .nil
  | t :: ts, z :: zs, h, k => .cons (k _ List.mem_cons_self) (each_zip (by simpa using h) fun b hb => k b (List.mem_cons_of_mem _ hb))
  | [], _ :: _, h, _ => by cases h
  | _ :: _, [], h, _ => by cases h
theorem each_refs {bs : List (Addr × α)} {out : List Value} (h : PySem.W.EachIs (fun v (b : Addr × α) => v = Value.ref b.1) out bs) : out = (bs.map (·.1)).map Value.ref := by
  induction h with
  | nil => rfl
  | cons h1 _ ih => rw [h1, ih]; rfl
theorem cr_sortT {m : α → List V} {enc : α → List PyData} (o : Srt1 enc) (hu : X.A.units + 64 < cLine) : CallR X (.builtin "sorted") (rSortT m enc X.K) := by
  intro pins s σ H xs us Q I r h
  obtain ⟨a, ts, zs, rfl, hs, ht, hd, hz, q⟩ := h
  obtain ⟨its, rv, pl, _⟩ := I.list hs
  rw [Vals.ref1 r]
  obtain rfl := vals_refs1 rv
  have tl := ht.len
  have reads : ∀ b ∈ ts.zip zs, ∃ as, Reads s.heap (.ref b.1) (.tuple (enc b.2)) as := fun b hb => Dp.reads I (.tuple (enc b.2)) (.ref b.1) (.ref b.1) (.tup (SqT.of (ts_zip ht b hb)) (hd b.2)) rfl
  have wide : ∀ b : Addr × α, X.A.units + 2 + (PyData.tuple (enc b.2)).depth < cLine := fun b => by
    have := o.flat b.2
    omega
  refine PySem.W.sorted_data (β := Addr × α) (enc := fun b => .tuple (enc b.2)) (R := fun v b => v = Value.ref b.1) (bs := ts.zip zs) pl.isList (each_zip tl fun b _ => rfl) (each_zip tl reads)
    (PySem.W.AllAlike.of fun b b' => o.alike b.2 b'.2) (PySem.W.Sortable.tuples fun b => ?_) (Nat.le_of_lt (small1000 ?_)) (fun b _ => wide b) fun out lo eo => ?_
  · obtain ⟨d, ds, e⟩ := o.first b.2
    exact ⟨d, ds, by rw [e]⟩
  · rw [List.length_zip]
    omega
  · obtain rfl := each_refs eo
    have pm := List.mergeSort_perm (ts.zip zs) (PySem.W.dataLe false fun b => PyData.tuple (enc b.2))
    have pw := PySem.W.sort_pairwise (PySem.W.sortLe_total (PyProof.Rows.listOrd PyProof.Rows.itemOrd) false fun b : Addr × α => PySem.W.keyToks (PyData.tuple (enc b.2))) (ts.zip zs)
    change List.Pairwise (fun x y : Addr × α => leD enc x.2 y.2 = true) ((ts.zip zs).mergeSort (PySem.W.dataLe false fun b => PyData.tuple (enc b.2))) at pw
    generalize (ts.zip zs).mergeSort (PySem.W.dataLe false fun b => PyData.tuple (enc b.2)) = bs at pm pw lo eo
    have back : (ts.zip zs).map (·.2) = zs := by
      rw [List.map_snd_zip (by omega)]
    have sz : ((bs.map (·.1)).map V.ref).length ≤ sizeLine := by
      refine Nat.le_of_lt (small1000 ?_)
      rw [List.length_map, List.length_map, pm.length_eq, List.length_zip]
      omega
    obtain ⟨c, at_⟩ := sortedAll_at s.heap (ts.map Value.ref) (((bs.map (·.1)).map Value.ref).toArray)
    have keep : ∀ b o, s.heap.get? b = some o → (sortedAll s.heap (ts.map Value.ref) (((bs.map (·.1)).map Value.ref).toArray)).get? b = some o := fun b o e => sortedAll_old e
    refine ⟨.ref (s.heap.objs.size + 1), upd H (s.heap.objs.size + 1) (.lst ((bs.map (·.1)).map V.ref)), I.laid (t' := s.toks) keep (Nat.le_succ _) ⟨sz, _, c, vals_refs _, by simpa using at_⟩, rfl, ?_⟩
    refine q _ _ (bs.map (·.2)) (I.hok.fresh (Nat.le_succ _)) ?_ (List.pairwise_map.mpr pw) (zip_ts fun b hb => ts_zip ht b (pm.mem_iff.mp hb))
    rw [← back]
    exact pm.map _
end
/-- tuples of a person and a letter -/
abbrev encP (e : Nat × Nat) : List PyData := [.int (e.1 : Int), .str ⟨#[e.2]⟩]
theorem leP {x y : Nat × Nat} (h : leD encP x y = true) : x.1 ≤ y.1 := by
  have h2 : (!PySem.W.dataLt (.tuple (encP y)) (.tuple (encP x))) = true := h
  have h3 : PySem.W.dataLt (.tuple (encP y)) (.tuple (encP x)) = false := by
    cases e : PySem.W.dataLt (.tuple (encP y)) (.tuple (encP x)) with
    | false => rfl
    | true =>
      rw [e] at h2
      cases h2
  by_cases c : x.1 ≤ y.1
  · exact c
  · rw [PySem.W.dataLt_pair (by simp [PySem.W.alike]) (by simp [PySem.W.alike]), PySem.W.dataLt_int] at h3
    have : ¬ ((y.1 : Int) = (x.1 : Int)) := by omega
    simp only [PyData.eqv, beq_iff_eq, this, if_false, decide_eq_false_iff_not] at h3
    omega
theorem srtP : Srt1 encP where
  alike := fun x y => by simp [PySem.W.alike, PySem.W.alikeAll]
  first := fun x => ⟨_, _, rfl⟩
  flat := fun x => by simp [PyData.depth, PyData.depthAll]
theorem ksortT {X : Cx} {α : Type} {K : PySem.W.Frag} {m : α → List V} {enc : α → List PyData} (o : Srt1 enc) (hu : X.A.units + 64 < cLine) (h : X.K = K := by rfl) : CallR X (.builtin "sorted") (rSortT m enc K) := by
  subst h
  exact cr_sortT o hu
/-- the people by their numbers -/
def bp (r : Row) : Row := (List.range r.length).map fun p => (p, colOf r p)
theorem bp_len (r : Row) : (bp r).length = r.length := by
  unfold bp
  rw [List.length_map, List.length_range]
theorem up_range : ∀ {l : List Nat} {n : Nat}, l.Perm (List.range n) → l.Pairwise (· ≤ ·) → l = List.range n := by
  intro l n p w
  exact p.eq_of_pairwise (le := (· ≤ ·)) (fun a b _ _ h1 h2 => Nat.le_antisymm h1 h2) w (List.pairwise_lt_range.imp fun h => Nat.le_of_lt h)
theorem bp_is {r ys : Row} (V0 : Vr r) (p : ys.Perm r) (w : ys.Pairwise (fun x y => leD encP x y = true)) : ys = bp r := by
  have e : ys.map (·.1) = List.range r.length := up_range ((p.map _).trans V0.perm) (List.pairwise_map.mpr (w.imp fun h => leP h))
  have l := p.length_eq
  apply List.ext_getElem?
  intro i
  unfold bp
  rw [List.getElem?_map]
  have ei : (ys.map (·.1))[i]? = (List.range r.length)[i]? := by rw [e]
  rw [List.getElem?_map] at ei
  cases q : ys[i]? with
  | none =>
    rw [q] at ei
    rw [← ei]
    rfl
  | some x =>
    rw [q] at ei
    rw [← ei]
    show some x = some (x.1, colOf r x.1)
    rw [colOf_is V0.nodup (p.mem_iff.mp (List.mem_of_getElem? q))]
theorem ts_row {H : Hp} : ∀ {ts : List Addr} {r : Row}, TupsAt H ts r → TsAt (fun e : Nat × Nat => pr e) H ts r
  | [], [], _ => True.intro
  | _ :: ts, _ :: r, h => ⟨h.1, ts_row (ts := ts) (r := r) h.2⟩
  | [], _ :: _, h => h.elim
  | _ :: _, [], h => h.elim
theorem row_ts {H : Hp} : ∀ {ts : List Addr} {r : Row}, TsAt (fun e : Nat × Nat => pr e) H ts r → TupsAt H ts r
  | [], [], _ => True.intro
  | _ :: ts, _ :: r, h => ⟨h.1, row_ts (ts := ts) (r := r) h.2⟩
  | [], _ :: _, h => h.elim
  | _ :: _, [], h => h.elim
theorem bp_vr {r : Row} (V0 : Vr r) : (bp r).Perm r := by
  have h := List.mergeSort_perm r (leD encP)
  have w := PySem.W.sort_pairwise (PySem.W.sortLe_total (PyProof.Rows.listOrd PyProof.Rows.itemOrd) false fun b : Nat × Nat => PySem.W.keyToks (PyData.tuple (encP b))) r
  change List.Pairwise (fun x y : Nat × Nat => leD encP x y = true) (r.mergeSort (leD encP)) at w
  rw [bp_is V0 h w] at h
  exact h
theorem rd_sortRow {K : PySem.W.Frag} {H : Hp} {Q : VK} {a : Addr} {r : Row} (hR : RowAt H a r) (V0 : Vr r) (q : ∀ p H', H p = none → Same H H' → RowAt H' p (bp r) → Q (.ref p) H') : rSortT (fun e : Nat × Nat => pr e) encP K [.ref a] H Q := by
  obtain ⟨ts, hl, ht⟩ := hR
  have n2 := V0.n2
  refine ⟨a, ts, r, rfl, SqL.of hl, ts_row ht, fun e => .cons (.int _) (.cons (.str _) .nil), by omega, fun p us ys hp pm pw hU => ?_⟩
  obtain rfl := bp_is V0 pm pw
  have s := sNew (o := .lst (us.map V.ref)) hp
  exact q p _ hp s ⟨us, upd_same, (row_ts hU).mono (sTups s)⟩
end LX

/-! Values by what they hold (Fr), objects that a def owns (Sep), what a call leaves (Ret). -/
namespace LQ
open PySem L2 LX
def dKey : Key → PyData
  | .inl i => .int i
  | .inr s => .str s
mutual
/-- v holds d; lists and dicts reached are none of H0's -/
inductive Fr (H0 H : Hp) : V → PyData → Prop
  | non : Fr H0 H .non .none
  | bl (b : Bool) : Fr H0 H (.bl b) (.bool b)
  | int (i : Int) : Fr H0 H (.int i) (.int i)
  | str (x : Str) : Fr H0 H (.str x) (.str x)
  | lst {a : Addr} {xs : List V} {ds : List PyData} : H a = some (.lst xs) → H0 a = none → FrL H0 H xs ds → Fr H0 H (.ref a) (.list ds)
  | tup {a : Addr} {xs : List V} {ds : List PyData} : H a = some (.tup xs) → FrL H0 H xs ds → Fr H0 H (.ref a) (.tuple ds)
  | dic {a : Addr} {kvs : List (Key × V)} {ds : List (PyData × PyData)} : Rd H a (.dK kvs) → H0 a = none → FrK H0 H kvs ds → Fr H0 H (.ref a) (.dict ds)
inductive FrL (H0 H : Hp) : List V → List PyData → Prop
  | nil : FrL H0 H [] []
  | cons {v : V} {vs : List V} {d : PyData} {ds : List PyData} : Fr H0 H v d → FrL H0 H vs ds → FrL H0 H (v :: vs) (d :: ds)
inductive FrK (H0 H : Hp) : List (Key × V) → List (PyData × PyData) → Prop
  | nil : FrK H0 H [] []
  | cons {k : Key} {v : V} {vs : List (Key × V)} {d : PyData} {ds : List (PyData × PyData)} : Fr H0 H v d → FrK H0 H vs ds → FrK H0 H ((k, v) :: vs) ((dKey k, d) :: ds)
end
theorem nodup_ix {α : Type} : ∀ {l : List α} {i j : Nat} {a : α}, l.Nodup → l[i]? = some a → l[j]? = some a → i = j
  | [], i, _, _, _, h, _ => by simp at h
  | x :: l, 0, 0, _, _, _, _ => rfl
  | x :: l, 0, j + 1, a, nd, h, k => by
    have e : x = a := by simpa using h
    exact absurd (e ▸ List.mem_of_getElem? (by simpa using k)) (List.nodup_cons.mp nd).1
  | x :: l, i + 1, 0, a, nd, h, k => by
    have e : x = a := by simpa using k
    exact absurd (e ▸ List.mem_of_getElem? (by simpa using h)) (List.nodup_cons.mp nd).1
  | x :: l, i + 1, j + 1, a, nd, h, k => congrArg (· + 1) (nodup_ix (List.nodup_cons.mp nd).2 (by simpa using h) (by simpa using k))
/-- the heap that holds nothing -/
def E0h : Hp := fun _ => none
mutual
/-- what the cells of the value need: each list, dict or tuple cell that is read in H and allowed by H0 is so in H', H0' -/
theorem Fr.move {H0 H H0' H' : Hp} (kl : ∀ a xs, H a = some (.lst xs) → H0 a = none → H' a = some (.lst xs) ∧ H0' a = none) (kt : ∀ a xs, H a = some (.tup xs) → H' a = some (.tup xs))
    (kd : ∀ a xs, Rd H a (.dK xs) → H0 a = none → Rd H' a (.dK xs) ∧ H0' a = none) : ∀ {v : V} {d : PyData}, Fr H0 H v d → Fr H0' H' v d
  | _, _, .non => .non
  | _, _, .bl b => .bl b
  | _, _, .int i => .int i
  | _, _, .str x => .str x
  | _, _, .lst h n hs => .lst (kl _ _ h n).1 (kl _ _ h n).2 (FrL.move kl kt kd hs)
  | _, _, .tup h hs => .tup (kt _ _ h) (FrL.move kl kt kd hs)
  | _, _, .dic h n hs => .dic (kd _ _ h n).1 (kd _ _ h n).2 (FrK.move kl kt kd hs)
theorem FrL.move {H0 H H0' H' : Hp} (kl : ∀ a xs, H a = some (.lst xs) → H0 a = none → H' a = some (.lst xs) ∧ H0' a = none) (kt : ∀ a xs, H a = some (.tup xs) → H' a = some (.tup xs))
    (kd : ∀ a xs, Rd H a (.dK xs) → H0 a = none → Rd H' a (.dK xs) ∧ H0' a = none) : ∀ {v : List V} {d : List PyData}, FrL H0 H v d → FrL H0' H' v d
  | _, _, .nil => .nil
  | _, _, .cons h hs => .cons (Fr.move kl kt kd h) (FrL.move kl kt kd hs)
theorem FrK.move {H0 H H0' H' : Hp} (kl : ∀ a xs, H a = some (.lst xs) → H0 a = none → H' a = some (.lst xs) ∧ H0' a = none) (kt : ∀ a xs, H a = some (.tup xs) → H' a = some (.tup xs))
    (kd : ∀ a xs, Rd H a (.dK xs) → H0 a = none → Rd H' a (.dK xs) ∧ H0' a = none) : ∀ {v : List (Key × V)} {d : List (PyData × PyData)}, FrK H0 H v d → FrK H0' H' v d
  | _, _, .nil => .nil
  | _, _, .cons h hs => .cons (Fr.move kl kt kd h) (FrK.move kl kt kd hs)
end
section
variable {H0 H H' G : Hp} {v : V} {d : PyData} {vs : List V} {ds : List PyData} {K : PySem.W.Frag}
theorem rd_same {a : Addr} {u : HO} (h : Rd H a u) (s : Same H H') : Rd H' a u := h.imp (fun e => s _ _ e) fun ⟨o, e⟩ => ⟨o, s _ _ e⟩
theorem Fr.same (h : Fr H0 H v d) (s : Same H H') : Fr H0 H' v d := h.move (fun _ _ e n => ⟨s _ _ e, n⟩) (fun _ _ e => s _ _ e) fun _ _ e n => ⟨rd_same e s, n⟩
theorem FrL.same (h : FrL H0 H vs ds) (s : Same H H') : FrL H0 H' vs ds := h.move (fun _ _ e n => ⟨s _ _ e, n⟩) (fun _ _ e => s _ _ e) fun _ _ e n => ⟨rd_same e s, n⟩
theorem Fr.rp (h : Fr H0 H v d) : Fr E0h H v d := h.move (fun _ _ e _ => ⟨e, rfl⟩) (fun _ _ e => e) fun _ _ e _ => ⟨e, rfl⟩
theorem FrL.rp (h : FrL H0 H vs ds) : FrL E0h H vs ds := h.move (fun _ _ e _ => ⟨e, rfl⟩) (fun _ _ e => e) fun _ _ e _ => ⟨e, rfl⟩
theorem FrL.len : ∀ {vs : List V} {ds : List PyData}, FrL H0 H vs ds → vs.length = ds.length
  | _, _, .nil => rfl
  | _, _, .cons _ hs => congrArg (· + 1) (FrL.len hs)
theorem FrL.app : ∀ {vs us : List V} {ds es : List PyData}, FrL H0 H vs ds → FrL H0 H us es → FrL H0 H (vs ++ us) (ds ++ es)
  | _, _, _, _, .nil, k => k
  | _, _, _, _, .cons h hs, k => .cons h (FrL.app hs k)
theorem FrL.get : ∀ {vs : List V} {ds : List PyData} {i : Nat} {d : PyData}, FrL H0 H vs ds → ds[i]? = some d → ∃ v, vs[i]? = some v ∧ Fr H0 H v d
  | _, _, i, _, .nil, e => by simp at e
  | _, _, 0, _, .cons h _, e => by
    simp at e
    subst e
    exact ⟨_, rfl, h⟩
  | _, _, i + 1, d, .cons _ hs, e => by
    obtain ⟨v, h1, h2⟩ := FrL.get (i := i) hs (by simpa using e)
    exact ⟨v, by simpa using h1, h2⟩
theorem FrL.get' : ∀ {vs : List V} {ds : List PyData} {i : Nat} {v : V}, FrL H0 H vs ds → vs[i]? = some v → ∃ d, ds[i]? = some d ∧ Fr H0 H v d
  | _, _, i, _, .nil, e => by simp at e
  | _, _, 0, _, .cons h _, e => by
    simp at e
    subst e
    exact ⟨_, rfl, h⟩
  | _, _, i + 1, v, .cons _ hs, e => by
    obtain ⟨d, h1, h2⟩ := FrL.get' (i := i) hs (by simpa using e)
    exact ⟨d, by simpa using h1, h2⟩
theorem FrL.set : ∀ {vs : List V} {ds : List PyData} {v : V} {d : PyData} (i : Nat), FrL H0 H vs ds → Fr H0 H v d → FrL H0 H (vs.set i v) (ds.set i d)
  | _, _, _, _, _, .nil, _ => .nil
  | _, _, _, _, 0, .cons _ hs, k => .cons k hs
  | _, _, _, _, i + 1, .cons h hs, k => .cons h (FrL.set i hs k)
theorem FrL.take : ∀ {vs : List V} {ds : List PyData} (n : Nat), FrL H0 H vs ds → FrL H0 H (vs.take n) (ds.take n)
  | _, _, 0, _ => .nil
  | _, _, _ + 1, .nil => .nil
  | _, _, n + 1, .cons h hs => .cons h (FrL.take n hs)
theorem FrL.drop : ∀ {vs : List V} {ds : List PyData} (n : Nat), FrL H0 H vs ds → FrL H0 H (vs.drop n) (ds.drop n)
  | _, _, 0, h => h
  | _, _, _ + 1, .nil => .nil
  | _, _, n + 1, .cons _ hs => FrL.drop n hs
theorem FrL.erase : ∀ {vs : List V} {ds : List PyData} (n : Nat), FrL H0 H vs ds → FrL H0 H (vs.eraseIdx n) (ds.eraseIdx n)
  | _, _, _, .nil => .nil
  | _, _, 0, .cons _ hs => hs
  | _, _, n + 1, .cons h hs => .cons h (FrL.erase n hs)
theorem FrL.rev : ∀ {vs : List V} {ds : List PyData}, FrL H0 H vs ds → FrL H0 H vs.reverse ds.reverse
  | _, _, .nil => .nil
  | _, _, .cons h hs => by
    rw [List.reverse_cons, List.reverse_cons]
    exact (FrL.rev hs).app (.cons h .nil)
theorem FrL.insert : ∀ {vs : List V} {ds : List PyData} {v : V} {d : PyData} (i : Nat), FrL H0 H vs ds → Fr H0 H v d → FrL H0 H (vs.insertIdx i v) (ds.insertIdx i d)
  | _, _, _, _, 0, hs, k => .cons k hs
  | _, _, _, _, _ + 1, .nil, _ => .nil
  | _, _, _, _, i + 1, .cons h hs, k => .cons h (FrL.insert i hs k)
theorem FrL.rep (h : Fr H0 H v d) : ∀ n : Nat, FrL H0 H (List.replicate n v) (List.replicate n d)
  | 0 => .nil
  | n + 1 => .cons h (FrL.rep h n)
mutual
theorem Fr.dp : ∀ {v : V} {d : PyData}, Fr H0 H v d → d.hasDict = false → Dp K H v d
  | _, _, .non, _ => .non
  | _, _, .bl b, _ => .bl b
  | _, _, .int i, _ => .int i
  | _, _, .str x, _ => .str x
  | _, _, .lst h _ hs, e => .lst (SqL.of h) (FrL.dp hs (by simpa only [PyData.hasDict] using e))
  | _, _, .tup h hs, e => .tup (SqT.of h) (FrL.dp hs (by simpa only [PyData.hasDict] using e))
  | _, _, .dic _ _ _, e => by simp [PyData.hasDict] at e
theorem FrL.dp : ∀ {v : List V} {d : List PyData}, FrL H0 H v d → PyData.hasDictAll d = false → DpAll K H v d
  | _, _, .nil, _ => .nil
  | _, _, .cons h hs, e => by
    simp only [PyData.hasDictAll, Bool.or_eq_false_iff] at e
    exact .cons (Fr.dp h e.1) (FrL.dp hs e.2)
end
end
/-- G: what stands and is never written; cs: the objects that are written, with what they hold; ms: those of them that the caller has handed over -/
structure Sep (ms : List Addr) (H0 G H : Hp) (cs : List (Addr × HO)) : Prop where
  sub : ∀ b o, G b = some o → H b = some o
  cel : ∀ c ∈ cs, H c.1 = some c.2 ∧ G c.1 = none ∧ ∀ xs, c.2 ≠ .tup xs
  nd : (cs.map (·.1)).Nodup
  msc : ∀ p ∈ ms, p ∈ cs.map (·.1)
  hms : ∀ p ∈ ms, H0 p ≠ none
  old : ∀ b, H b = none → H0 b = none
  base : ∀ b o, H0 b = some o → b ∉ ms → G b = some o
  tups : ∀ b xs, H b = some (.tup xs) → G b = some (.tup xs)
/-- what a call leaves: G holds what its value needs, and all of H but ms -/
structure Ret (ms : List Addr) (H G H' : Hp) : Prop where
  sub : ∀ b o, G b = some o → H' b = some o
  non : ∀ p ∈ ms, G p = none
  base : ∀ b o, H b = some o → b ∉ ms → G b = some o
  old : ∀ b, H' b = none → H b = none
  tups : ∀ b xs, H' b = some (.tup xs) → G b = some (.tup xs)
section
variable {ms ns : List Addr} {H0 G H H' G1 : Hp} {cs : List (Addr × HO)} {p : Addr} {o o' : HO} {v : V} {d : PyData} {vs : List V} {ds : List PyData}
theorem Sep.start (H : Hp) : Sep [] H H H [] := ⟨fun _ _ e => e, fun _ h => absurd h List.not_mem_nil, List.nodup_nil, fun _ h => absurd h List.not_mem_nil, fun _ h => absurd h List.not_mem_nil, fun _ e => e, fun _ _ e _ => e, fun _ _ e => e⟩
/-- a def's start: the objects that it may write, the rest -/
def hid (H : Hp) (ps : List Addr) : Hp := fun b => if b ∈ ps then none else H b
theorem hid_some {ps : List Addr} {b : Addr} (h : hid H ps b = some o) : b ∉ ps ∧ H b = some o := by
  unfold hid at h
  by_cases c : b ∈ ps
  · rw [if_pos c] at h
    cases h
  · rw [if_neg c] at h
    exact ⟨c, h⟩
theorem hid_in {ps : List Addr} {b : Addr} (h : b ∈ ps) : hid H ps b = none := if_pos h
theorem hid_out {ps : List Addr} {b : Addr} (h : b ∉ ps) : hid H ps b = H b := if_neg h
theorem Sep.startM (H : Hp) (cs : List (Addr × HO)) (h : ∀ c ∈ cs, H c.1 = some c.2 ∧ ∀ xs, c.2 ≠ .tup xs) (nd : (cs.map (·.1)).Nodup) : Sep (cs.map (·.1)) H (hid H (cs.map (·.1))) H cs :=
  { sub := fun _ _ e => (hid_some e).2
    cel := fun c hc => ⟨(h c hc).1, hid_in (List.mem_map_of_mem hc), (h c hc).2⟩
    nd := nd
    msc := fun _ h => h
    hms := fun p hp => by
      obtain ⟨c, hc, rfl⟩ := List.mem_map.mp hp
      rw [(h c hc).1]
      exact fun z => by cases z
    old := fun _ e => e
    base := fun _ _ e n => by rw [hid_out n]; exact e
    tups := fun b xs e => by
      rw [hid_out]
      · exact e
      · intro z
        obtain ⟨c, hc, rfl⟩ := List.mem_map.mp z
        have k := h c hc
        rw [e] at k
        exact k.2 xs (Option.some.inj k.1).symm }
theorem Sep.get (S : Sep ms H0 G H cs) (i : Nat) (h : cs[i]? = some (p, o)) : H p = some o := (S.cel _ (List.mem_of_getElem? h)).1
theorem Sep.gnone (S : Sep ms H0 G H cs) (i : Nat) (h : cs[i]? = some (p, o)) : G p = none := (S.cel _ (List.mem_of_getElem? h)).2.1
theorem Sep.gfree (S : Sep ms H0 G H cs) (h : H p = none) : G p = none := by
  cases e : G p with
  | none => rfl
  | some u =>
    rw [S.sub _ _ e] at h
    cases h
theorem Sep.cne (S : Sep ms H0 G H cs) (h : H p = none) : p ∉ cs.map (·.1) := fun z => by
  obtain ⟨c, hc, rfl⟩ := List.mem_map.mp z
  rw [(S.cel c hc).1] at h
  cases h
theorem Sep.same (S : Sep ms H0 G H cs) : Same G H := S.sub
/-- a new object, never written -/
theorem Sep.sh (S : Sep ms H0 G H cs) (h : H p = none) : Sep ms H0 (upd G p o) (upd H p o) cs where
  sub := fun b u e => by
    by_cases c : b = p
    · subst c
      rw [upd_same] at e ⊢
      exact e
    · rw [upd_ne c] at e ⊢
      exact S.sub b u e
  cel := fun c hc => by
    have n : c.1 ≠ p := fun z => S.cne h (List.mem_map.mpr ⟨c, hc, z⟩)
    rw [upd_ne n, upd_ne n]
    exact S.cel c hc
  nd := S.nd
  msc := S.msc
  hms := S.hms
  old := fun b e => by
    by_cases c : b = p
    · subst c
      exact S.old b h
    · rw [upd_ne c] at e
      exact S.old b e
  base := fun b u e n => by
    have c : b ≠ p := fun z => by
      subst z
      rw [S.old b h] at e
      cases e
    rw [upd_ne c]
    exact S.base b u e n
  tups := fun b xs e => by
    by_cases c : b = p
    · subst c
      rw [upd_same] at e ⊢
      exact e
    · rw [upd_ne c] at e ⊢
      exact S.tups b xs e
/-- a new object that will be written -/
theorem Sep.own (S : Sep ms H0 G H cs) (h : H p = none) (k : ∀ xs, o ≠ .tup xs) : Sep ms H0 G (upd H p o) ((p, o) :: cs) where
  sub := fun b u e => by
    rw [upd_ne (ne_of_none (S.sub b u e) h)]
    exact S.sub b u e
  cel := fun c hc => by
    rcases List.mem_cons.mp hc with rfl | hc
    · exact ⟨upd_same, S.gfree h, k⟩
    · have n : c.1 ≠ p := fun z => S.cne h (List.mem_map.mpr ⟨c, hc, z⟩)
      rw [upd_ne n]
      exact S.cel c hc
  nd := List.nodup_cons.mpr ⟨S.cne h, S.nd⟩
  msc := fun q hq => List.mem_cons_of_mem _ (S.msc q hq)
  hms := S.hms
  old := fun b e => by
    by_cases c : b = p
    · subst c
      exact S.old b h
    · rw [upd_ne c] at e
      exact S.old b e
  base := S.base
  tups := fun b xs e => by
    by_cases c : b = p
    · subst c
      rw [upd_same] at e
      exact absurd (Option.some.inj e) (k xs)
    · rw [upd_ne c] at e
      exact S.tups b xs e
/-- an owned object is written -/
theorem Sep.put (S : Sep ms H0 G H cs) (i : Nat) (h : cs[i]? = some (p, o)) (k : ∀ xs, o' ≠ .tup xs) : Sep ms H0 G (upd H p o') (cs.set i (p, o')) := by
  have il := (List.getElem?_eq_some_iff.mp h).1
  have ie := (List.getElem?_eq_some_iff.mp h).2
  have em : (cs.set i (p, o')).map (·.1) = cs.map (·.1) := by
    rw [List.map_set]
    apply List.ext_getElem?
    intro j
    by_cases c : i = j
    · subst c
      rw [List.getElem?_set_self (by rw [List.length_map]; exact il), List.getElem?_map, h]
      rfl
    · rw [List.getElem?_set_ne c]
  refine ⟨fun b u e => ?_, fun c hc => ?_, by rw [em]; exact S.nd, by rw [em]; exact S.msc, S.hms, fun b e => ?_, S.base, fun b xs e => ?_⟩
  · have n : b ≠ p := fun z => by
      subst z
      rw [S.gnone i h] at e
      cases e
    rw [upd_ne n]
    exact S.sub b u e
  · obtain ⟨j, hj⟩ := List.getElem?_of_mem hc
    by_cases c2 : i = j
    · subst c2
      rw [List.getElem?_set_self il] at hj
      cases hj
      exact ⟨upd_same, S.gnone i h, k⟩
    · rw [List.getElem?_set_ne c2] at hj
      have n : c.1 ≠ p := fun z => by
        have h1 : (cs.map (·.1))[j]? = some p := by rw [List.getElem?_map, hj, ← z]; rfl
        have h2 : (cs.map (·.1))[i]? = some p := by rw [List.getElem?_map, h]; rfl
        exact c2 (nodup_ix S.nd h2 h1)
      rw [upd_ne n]
      exact S.cel c (List.mem_of_getElem? hj)
  · have n : b ≠ p := fun z => by
      subst z
      rw [upd_same] at e
      cases e
    rw [upd_ne n] at e
    exact S.old b e
  · by_cases c : b = p
    · subst c
      rw [upd_same] at e
      exact absurd (Option.some.inj e) (k xs)
    · rw [upd_ne c] at e
      exact S.tups b xs e
/-- an owned object is written no more -/
theorem Sep.fix (S : Sep ms H0 G H cs) (i : Nat) (h : cs[i]? = some (p, o)) (hm : p ∉ ms) : Sep ms H0 (upd G p o) H (cs.eraseIdx i) := by
  have il := (List.getElem?_eq_some_iff.mp h).1
  have hp : p ∉ (cs.eraseIdx i).map (·.1) := by
    have nd := S.nd
    have pm : (cs.map (·.1)).Perm (p :: (cs.eraseIdx i).map (·.1)) := by
      have := (erase_perm h).symm.map (·.1)
      exact this
    exact (List.nodup_cons.mp (pm.nodup_iff.mp nd)).1
  refine ⟨fun b u e => ?_, fun c hc => ?_, ?_, fun q hq => ?_, S.hms, S.old, fun b u e n => ?_, fun b xs e => ?_⟩
  · by_cases c : b = p
    · subst c
      rw [upd_same] at e
      cases e
      exact S.get i h
    · rw [upd_ne c] at e
      exact S.sub b u e
  · have n : c.1 ≠ p := fun z => hp (List.mem_map.mpr ⟨c, hc, z⟩)
    rw [upd_ne n]
    exact S.cel c (List.mem_of_mem_eraseIdx hc)
  · exact S.nd.sublist ((List.eraseIdx_sublist cs i).map _)
  · have n : q ≠ p := fun z => hm (z ▸ hq)
    obtain ⟨c, hc, rfl⟩ := List.mem_map.mp (S.msc q hq)
    have pm := erase_perm h
    rcases List.mem_cons.mp (pm.mem_iff.mpr hc) with z | z
    · exact absurd (by rw [z]) n
    · exact List.mem_map_of_mem z
  · have n2 : b ≠ p := fun z => by
      subst z
      have q := S.gnone i h
      rw [S.base b u e n] at q
      cases q
    rw [upd_ne n2]
    exact S.base b u e n
  · have g := S.tups b xs e
    have n2 : b ≠ p := fun z => by
      subst z
      rw [S.gnone i h] at g
      cases g
    rw [upd_ne n2]
    exact g
theorem Sep.notms (S : Sep ms H0 G H cs) (n : H0 p = none) : p ∉ ms := fun z => S.hms p z n
/-- an owned object is forgotten -/
theorem Sep.drop (S : Sep ms H0 G H cs) (i : Nat) (h : cs[i]? = some (p, o)) (n : H0 p = none) : Sep ms H0 G H (cs.eraseIdx i) where
  sub := S.sub
  cel := fun c hc => S.cel c (List.mem_of_mem_eraseIdx hc)
  nd := S.nd.sublist ((List.eraseIdx_sublist cs i).map _)
  msc := fun q hq => by
    have k : q ≠ p := fun z => S.hms q hq (z ▸ n)
    obtain ⟨c, hc, rfl⟩ := List.mem_map.mp (S.msc q hq)
    rcases List.mem_cons.mp ((erase_perm h).mem_iff.mpr hc) with z | z
    · exact absurd (by rw [z]) k
    · exact List.mem_map_of_mem z
  hms := S.hms
  old := S.old
  base := S.base
  tups := S.tups
theorem same_upd (h : G p = none) : Same G (upd G p o) := sNew h
end
end LQ

/-! What defs compute, as functions that may be undefined (Option): the parts they are made of. -/
namespace LQ
open PySem L2
abbrev LIM : Nat := 100000
theorem lim_le {n : Nat} (h : n ≤ LIM) : n ≤ sizeLine := Nat.le_trans h (by decide)
theorem lim_lt {n : Nat} (h : n < LIM) : n < sizeLine := Nat.lt_of_lt_of_le h (by decide)
theorem bnd {α β : Type} {o : Option α} {f : α → Option β} {r : β} (h : o.bind f = some r) : ∃ x, o = some x ∧ f x = some r := by
  cases o with
  | none => cases h
  | some x => exact ⟨x, rfl, h⟩
theorem cnd {α : Type} {c : Bool} {a b : Option α} {r : α} (h : cond c a b = some r) : (c = true ∧ a = some r) ∨ (c = false ∧ b = some r) := by
  cases c with
  | true => exact Or.inl ⟨rfl, h⟩
  | false => exact Or.inr ⟨rfl, h⟩
theorem grd {α : Type} {c : Bool} {a : Option α} {r : α} (h : cond c a none = some r) : c = true ∧ a = some r := by
  cases c with
  | true => exact ⟨rfl, h⟩
  | false => cases h
theorem som {α : Type} {x y : α} (h : some x = some y) : x = y := Option.some.inj h
/-- how a block ends: it gives r back, goes on, breaks off -/
inductive Ctl (R S : Type) where
  | ret (r : R) | nx (s : S) | bk (s : S)
def loopF {α S : Type} (step : α → S → Option S) : List α → S → Option S
  | [], s => some s
  | x :: xs, s => (step x s).bind (loopF step xs)
def loopC {α R S : Type} (step : α → S → Option (Ctl R S)) : List α → S → Option (Ctl R S)
  | [], s => some (.nx s)
  | x :: xs, s => (step x s).bind fun c => match c with
    | .ret r => some (.ret r)
    | .nx s' => loopC step xs s'
    | .bk s' => some (.nx s')
def whileF {S : Type} (c : S → Option Bool) (b : S → Option S) : Nat → S → Option S
  | 0, _ => none
  | n + 1, s => (c s).bind fun t => cond t ((b s).bind (whileF c b n)) (some s)
def whileC {R S : Type} (c : S → Option Bool) (b : S → Option (Ctl R S)) : Nat → S → Option (Ctl R S)
  | 0, _ => none
  | n + 1, s => (c s).bind fun t => cond t ((b s).bind fun k => match k with
    | .ret r => some (.ret r)
    | .nx s' => whileC c b n s'
    | .bk s' => some (.nx s')) (some (.nx s))
/-- a comprehension, with the state that its parts change -/
def compS {α β S : Type} (f : α → S → Option (Option β × S)) : List α → S → Option (List β × S)
  | [], s => some ([], s)
  | x :: xs, s => (f x s).bind fun p => (compS f xs p.2).bind fun q => some ((match p.1 with | none => q.1 | some y => y :: q.1), q.2)
def compF {α β : Type} (f : α → Option (Option β)) : List α → Option (List β)
  | [] => some []
  | x :: xs => (f x).bind fun p => (compF f xs).bind fun q => some (match p with | none => q | some y => y :: q)
/-! ### numbers -/
def mulF (a b : Int) : Option Int := cond (decide (a.natAbs < 2 ^ 100000) && decide (b.natAbs < 2 ^ 100000)) (some (a * b)) none
def modF (a b : Int) : Option Int := cond (decide (0 < b)) (some (a % b)) none
def divF (a b : Int) : Option Int := cond (decide (0 < b) && decide (b.natAbs < 2 ^ 1000)) (some (a / b)) none
def powF (a b : Int) : Option Int := cond (decide (0 ≤ b) && decide (b ≤ 1000) && decide (a.natAbs < 2 ^ 1000)) (some (a ^ b.toNat)) none
def maxI (a b : Int) : Int := if b > a then b else a
def minI (a b : Int) : Int := if b < a then b else a
def b2I (b : Bool) : Int := if b then 1 else 0
/-! ### lists -/
def ix {α : Type} (l : List α) (i : Int) : Option α := atI l i
def lenI {α : Type} (l : List α) : Int := (l.length : Int)
def appF {α : Type} (l : List α) (x : α) : Option (List α) := cond (decide (l.length < LIM)) (some (l ++ [x])) none
def catF {α : Type} (l m : List α) : Option (List α) := cond (decide (l.length + m.length ≤ LIM)) (some (l ++ m)) none
def repF {α : Type} (l : List α) (k : Int) : Option (List α) := cond (decide (-(2 ^ 63) ≤ k) && decide (k < 2 ^ 63) && decide (l.length * k.toNat ≤ LIM)) (some (List.replicate k.toNat l).flatten) none
def setF {α : Type} (l : List α) (i : Int) (x : α) : Option (List α) := (ixN l.length i).bind fun j => some (l.set j x)
def popF {α : Type} (l : List α) : Option (α × List α) := (l[l.length - 1]?).bind fun x => some (x, l.dropLast)
def popAtF {α : Type} (l : List α) (i : Int) : Option (α × List α) := cond (decide (-(2 ^ 63) ≤ i) && decide (i < 2 ^ 63)) ((seqIndex? i l.length).bind fun k => (l[k]?).bind fun x => some (x, l.eraseIdx k)) none
def cutL {α : Type} (xs : List α) (lo hi : Option Int) : List α := (xs.drop (HT.sIx xs.length 0 lo)).take (HT.sIx xs.length xs.length hi - HT.sIx xs.length 0 lo)
theorem cutL_map {α : Type} (f : α → V) (xs : List α) (lo hi : Option Int) : cutV (xs.map f) lo hi = (cutL xs lo hi).map f := by
  unfold cutV cutL
  rw [List.length_map, List.map_take, List.map_drop]
/-- the numbers from a to below b -/
def rgI (a b : Int) : List Int := (List.range (b - a).toNat).map fun i : Nat => a + (i : Int)
def rngF (a b : Int) : Option (List Int) := cond (decide (-(2 ^ 62) ≤ a) && decide (a < 2 ^ 62) && decide (-(2 ^ 62) ≤ b) && decide (b < 2 ^ 62)) (some (rgI a b)) none
def enumI {α : Type} (l : List α) : List (Int × α) := List.zipWith (fun (i : Nat) x => ((i : Int), x)) (List.range l.length) l
/-! ### texts -/
def lenS (z : Str) : Option Int := cond (decide (z.length ≤ LIM)) (some (z.length : Int)) none
def ixS (z : Str) (i : Int) : Option Str := cond (decide (z.length ≤ LIM)) ((atI z.cps.toList i).bind fun c => some ⟨#[c]⟩) none
def catS (a b : Str) : Option Str := cond (decide (a.length + b.length ≤ LIM)) (some (a ++ b)) none
def ltS (a b : Str) : Bool := decide (a.cps.toList < b.cps.toList)
/-! ### data -/
@[reducible] def eI (i : Int) : PyData := .int i
@[reducible] def eS (s : Str) : PyData := .str s
@[reducible] def eB (b : Bool) : PyData := .bool b
@[reducible] def eN (_ : Unit) : PyData := .none
@[reducible] def eL {α : Type} (f : α → PyData) (l : List α) : PyData := .list (l.map f)
@[reducible] def eT2 {α β : Type} (f : α → PyData) (g : β → PyData) (p : α × β) : PyData := .tuple [f p.1, g p.2]
@[reducible] def eT3 {α β γ : Type} (f : α → PyData) (g : β → PyData) (h : γ → PyData) (p : α × β × γ) : PyData := .tuple [f p.1, g p.2.1, h p.2.2]
@[reducible] def eT1 {α : Type} (f : α → PyData) (p : α) : PyData := .tuple [f p]
def eO {α : Type} (f : α → PyData) : Option α → PyData
  | none => .none
  | some x => f x
@[reducible] def eA (d : PyData) : PyData := d
def vO {α : Type} (f : α → V) : Option α → V
  | none => .non
  | some x => f x
mutual
def flatD : PyData → Bool
  | .list _ => false
  | .dict _ => false
  | .tuple xs => flatDs xs
  | _ => true
def flatDs : List PyData → Bool
  | [] => true
  | x :: xs => flatD x && flatDs xs
end
def isNoneD : PyData → Bool
  | .none => true
  | _ => false
def eqvF (d e : PyData) : Option Bool := cond (SeqAt.shaped d && SeqAt.shaped e && !d.hasDict && !e.hasDict) (some (PyData.eqv d e)) none
def reprF (d : PyData) : Option Str := cond (d.showable && !d.hasDict && decide (d.depth ≤ 20) && decide (d.shown.length ≤ sizeLine)) (some d.shown) none
end LQ

/-! Readings by what is held. -/
namespace LQ
open PySem L2 LX
section
variable {H0 F0 H G : Hp} {v w : V} {d e : PyData} {a : Addr} {vs : List V} {ds : List PyData}
theorem fr_int {i : Int} (f : Fr F0 G v (.int i)) : v = .int i := by cases f; rfl
theorem fr_str {i : Str} (f : Fr F0 G v (.str i)) : v = .str i := by cases f; rfl
theorem fr_bl {i : Bool} (f : Fr F0 G v (.bool i)) : v = .bl i := by cases f; rfl
theorem fr_non (f : Fr F0 G v .none) : v = .non := by cases f; rfl
theorem fr_lst (f : Fr F0 G v (.list ds)) : ∃ a, v = .ref a := by cases f; exact ⟨_, rfl⟩
theorem fr_tup (f : Fr F0 G v (.tuple ds)) : ∃ a, v = .ref a := by cases f; exact ⟨_, rfl⟩
theorem fr_dic {kvs : List (PyData × PyData)} (f : Fr F0 G v (.dict kvs)) : ∃ a, v = .ref a := by cases f; exact ⟨_, rfl⟩
theorem fr_oI {o : Option Int} (f : Fr F0 G v (eO eI o)) : v = vO V.int o := by
  cases o with
  | none => exact fr_non f
  | some x => exact fr_int f
theorem fr_oS {o : Option Str} (f : Fr F0 G v (eO eS o)) : v = vO V.str o := by
  cases o with
  | none => exact fr_non f
  | some x => exact fr_str f
theorem fr_oB {o : Option Bool} (f : Fr F0 G v (eO eB o)) : v = vO V.bl o := by
  cases o with
  | none => exact fr_non f
  | some x => exact fr_bl f
theorem oI_fr (o : Option Int) : Fr F0 G (vO V.int o) (eO eI o) := by
  cases o with
  | none => exact .non
  | some x => exact .int x
theorem oS_fr (o : Option Str) : Fr F0 G (vO V.str o) (eO eS o) := by
  cases o with
  | none => exact .non
  | some x => exact .str x
theorem oB_fr (o : Option Bool) : Fr F0 G (vO V.bl o) (eO eB o) := by
  cases o with
  | none => exact .non
  | some x => exact .bl x
theorem li (f : Fr F0 G (.ref a) (.list ds)) : ∃ vs, G a = some (.lst vs) ∧ FrL F0 G vs ds := by
  cases f with
  | lst h _ hs => exact ⟨_, h, hs⟩
theorem li0 (f : Fr F0 G (.ref a) (.list ds)) : F0 a = none := by
  cases f with
  | lst _ n _ => exact n
theorem tu (f : Fr F0 G (.ref a) (.tuple ds)) : ∃ vs, G a = some (.tup vs) ∧ FrL F0 G vs ds := by
  cases f with
  | tup h hs => exact ⟨_, h, hs⟩
theorem tu1 {d : PyData} (f : Fr F0 G (.ref a) (.tuple [d])) : ∃ v, G a = some (.tup [v]) ∧ Fr F0 G v d := by
  obtain ⟨vs, h, hs⟩ := tu f
  cases hs with
  | cons f1 hs => cases hs; exact ⟨_, h, f1⟩
theorem tu2 {d e : PyData} (f : Fr F0 G (.ref a) (.tuple [d, e])) : ∃ v w, G a = some (.tup [v, w]) ∧ Fr F0 G v d ∧ Fr F0 G w e := by
  obtain ⟨vs, h, hs⟩ := tu f
  cases hs with
  | cons f1 hs => cases hs with
    | cons f2 hs => cases hs; exact ⟨_, _, h, f1, f2⟩
theorem tu3 {d e c : PyData} (f : Fr F0 G (.ref a) (.tuple [d, e, c])) : ∃ v w x, G a = some (.tup [v, w, x]) ∧ Fr F0 G v d ∧ Fr F0 G w e ∧ Fr F0 G x c := by
  obtain ⟨vs, h, hs⟩ := tu f
  cases hs with
  | cons f1 hs => cases hs with
    | cons f2 hs => cases hs with
      | cons f3 hs => cases hs; exact ⟨_, _, _, h, f1, f2, f3⟩
theorem fl1 (f : Fr F0 G v d) : FrL F0 G [v] [d] := .cons f .nil
theorem fl2 {v2 : V} {d2 : PyData} (f : Fr F0 G v d) (f2 : Fr F0 G v2 d2) : FrL F0 G [v, v2] [d, d2] := .cons f (.cons f2 .nil)
theorem fl3 {v2 v3 : V} {d2 d3 : PyData} (f : Fr F0 G v d) (f2 : Fr F0 G v2 d2) (f3 : Fr F0 G v3 d3) : FrL F0 G [v, v2, v3] [d, d2, d3] := .cons f (.cons f2 (.cons f3 .nil))
mutual
theorem Fr.imm : ∀ {v : V} {d : PyData}, Fr F0 G v d → flatD d = true → Fr H0 G v d
  | _, _, .non, _ => .non
  | _, _, .bl b, _ => .bl b
  | _, _, .int i, _ => .int i
  | _, _, .str x, _ => .str x
  | _, _, .lst _ _ _, e => by simp [flatD] at e
  | _, _, .tup h hs, e => .tup h (FrL.imm hs (by simpa only [flatD] using e))
  | _, _, .dic _ _ _, e => by simp [flatD] at e
theorem FrL.imm : ∀ {v : List V} {d : List PyData}, FrL F0 G v d → flatDs d = true → FrL H0 G v d
  | _, _, .nil, _ => .nil
  | _, _, .cons h hs, e => by
    simp only [flatDs, Bool.and_eq_true] at e
    exact .cons (Fr.imm h e.1) (FrL.imm hs e.2)
end
theorem flat_map {α : Type} {f : α → PyData} (h : ∀ x, flatD (f x) = true) : ∀ l : List α, flatDs (l.map f) = true
  | [] => by simp only [List.map_nil, flatDs]
  | x :: l => by simp only [List.map_cons, flatDs, h x, flat_map h l, Bool.and_self]
theorem flI (i : Int) : flatD (eI i) = true := by simp only [flatD]
theorem flS (i : Str) : flatD (eS i) = true := by simp only [flatD]
theorem flB (i : Bool) : flatD (eB i) = true := by simp only [flatD]
theorem flN (i : Unit) : flatD (eN i) = true := by simp only [flatD]
theorem flO {α : Type} {f : α → PyData} (h : ∀ x, flatD (f x) = true) (o : Option α) : flatD (eO f o) = true := by
  cases o with
  | none => simp only [eO, flatD]
  | some x => exact h x
theorem flT1 {α : Type} {f : α → PyData} (h : ∀ x, flatD (f x) = true) (p : α) : flatD (eT1 f p) = true := by simp only [eT1, flatD, flatDs, h, Bool.and_self]
theorem flT2 {α β : Type} {f : α → PyData} {g : β → PyData} (h : ∀ x, flatD (f x) = true) (k : ∀ x, flatD (g x) = true) (p : α × β) : flatD (eT2 f g p) = true := by simp only [eT2, flatD, flatDs, h, k, Bool.and_self]
theorem flT3 {α β γ : Type} {f : α → PyData} {g : β → PyData} {c : γ → PyData} (h : ∀ x, flatD (f x) = true) (k : ∀ x, flatD (g x) = true) (l : ∀ x, flatD (c x) = true) (p : α × β × γ) : flatD (eT3 f g c p) = true := by simp only [eT3, flatD, flatDs, h, k, l, Bool.and_self]
theorem frl_ints {l : List Int} (h : FrL F0 G vs (l.map eI)) : vs = l.map V.int := by
  induction l generalizing vs with
  | nil => cases h; rfl
  | cons x l ih => cases h with
    | cons f hs => rw [List.map_cons, ih hs, fr_int f]
theorem frl_strs {l : List Str} (h : FrL F0 G vs (l.map eS)) : vs = l.map V.str := by
  induction l generalizing vs with
  | nil => cases h; rfl
  | cons x l ih => cases h with
    | cons f hs => rw [List.map_cons, ih hs, fr_str f]
theorem frl_bls {l : List Bool} (h : FrL F0 G vs (l.map eB)) : vs = l.map V.bl := by
  induction l generalizing vs with
  | nil => cases h; rfl
  | cons x l ih => cases h with
    | cons f hs => rw [List.map_cons, ih hs, fr_bl f]
theorem ints_frl (l : List Int) : FrL F0 G (l.map V.int) (l.map eI) := by
  induction l with
  | nil => exact .nil
  | cons x l ih => exact .cons (.int x) ih
theorem strs_frl (l : List Str) : FrL F0 G (l.map V.str) (l.map eS) := by
  induction l with
  | nil => exact .nil
  | cons x l ih => exact .cons (.str x) ih
theorem bls_frl (l : List Bool) : FrL F0 G (l.map V.bl) (l.map eB) := by
  induction l with
  | nil => exact .nil
  | cons x l ih => exact .cons (.bl x) ih
end
section
variable {ms ns : List Addr} {H0 F0 G H H' G1 : Hp} {cs : List (Addr × HO)} {p a b : Addr} {o o' : HO} {v x y : V} {d : PyData} {vs us xs : List V} {ds : List PyData} {K : PySem.W.Frag} {Q : VK} {α β : Type} {e : α → PyData} {l m : List α}
theorem Sep.toRet (S : Sep ms H0 G H cs) : Ret ms H0 G H := ⟨S.sub, fun p hp => by
  obtain ⟨c, hc, rfl⟩ := List.mem_map.mp (S.msc p hp)
  exact (S.cel c hc).2.1, S.base, S.old, S.tups⟩
theorem Sep.ret {cs' : List (Addr × HO)} (S : Sep ms H0 G H cs) (R : Ret ns H G1 H') (hn : ∀ p ∈ ns, p ∈ cs.map (·.1)) (hm : cs'.map (·.1) = cs.map (·.1)) (hc : ∀ c ∈ cs', H' c.1 = some c.2 ∧ ∀ xs, c.2 ≠ .tup xs) :
    ∃ G', Sep ms H0 G' H' cs' ∧ Same G G' ∧ (∀ v d, Fr H G1 v d → Fr H0 G' v d) ∧ ∀ v d, FrL H G1 v d → FrL H0 G' v d := by
  have sG : Same G (hid G1 (cs.map (·.1))) := fun b o e => by
    have n : b ∉ cs.map (·.1) := fun z => by
      obtain ⟨c, hc, rfl⟩ := List.mem_map.mp z
      rw [(S.cel c hc).2.1] at e
      cases e
    rw [hid_out n]
    exact R.base b o (S.sub b o e) fun z => n (hn b z)
  have k1 : ∀ a xs, G1 a = some (.lst xs) → H a = none → hid G1 (cs.map (·.1)) a = some (.lst xs) ∧ H0 a = none := fun a xs e n => ⟨by rw [hid_out (S.cne n)]; exact e, S.old a n⟩
  have k2 : ∀ a xs, G1 a = some (.tup xs) → hid G1 (cs.map (·.1)) a = some (.tup xs) := fun a xs e => by
    rw [hid_out ?_]
    · exact e
    · intro z
      rw [← hm] at z
      obtain ⟨c, hc', rfl⟩ := List.mem_map.mp z
      have := (hc c hc').1
      rw [R.sub _ _ e] at this
      exact (hc c hc').2 xs (Option.some.inj this).symm
  have k3 : ∀ a xs, Rd G1 a (.dK xs) → H a = none → Rd (hid G1 (cs.map (·.1))) a (.dK xs) ∧ H0 a = none := fun a xs e n => ⟨by unfold Rd; rw [hid_out (S.cne n)]; exact e, S.old a n⟩
  refine ⟨hid G1 (cs.map (·.1)), ⟨fun b o e => R.sub b o (hid_some e).2, fun c hc' => ⟨(hc c hc').1, hid_in (by rw [← hm]; exact List.mem_map_of_mem hc'), (hc c hc').2⟩, by rw [hm]; exact S.nd, by rw [hm]; exact S.msc, S.hms, fun b e => S.old b (R.old b e), fun b o e n => sG b o (S.base b o e n), fun b xs e => k2 b xs (R.tups b xs e)⟩, sG, fun v d f => f.move k1 k2 k3, fun v d f => f.move k1 k2 k3⟩
theorem Sep.ret0 (S : Sep ms H0 G H cs) (R : Ret [] H G1 H') : ∃ G', Sep ms H0 G' H' cs ∧ Same G G' ∧ (∀ v d, Fr H G1 v d → Fr H0 G' v d) ∧ ∀ v d, FrL H G1 v d → FrL H0 G' v d :=
  S.ret R (fun _ h => absurd h List.not_mem_nil) rfl fun c hc => ⟨R.sub _ _ (R.base _ _ (S.cel c hc).1 List.not_mem_nil), (S.cel c hc).2.2⟩
theorem map_fst_set {cs : List (Addr × HO)} {i : Nat} (h : cs[i]? = some (p, o)) : (cs.set i (p, o')).map (·.1) = cs.map (·.1) := by
  rw [List.map_set]
  apply List.ext_getElem?
  intro j
  by_cases c : i = j
  · subst c
    rw [List.getElem?_set_self (by rw [List.length_map]; exact (List.getElem?_eq_some_iff.mp h).1), List.getElem?_map, h]
    rfl
  · rw [List.getElem?_set_ne c]
theorem Sep.ret1 (S : Sep ms H0 G H cs) (i : Nat) (h : cs[i]? = some (p, o)) (R : Ret [p] H G1 H') (hp : H' p = some o') (k : ∀ xs, o' ≠ .tup xs) :
    ∃ G', Sep ms H0 G' H' (cs.set i (p, o')) ∧ Same G G' ∧ (∀ v d, Fr H G1 v d → Fr H0 G' v d) ∧ ∀ v d, FrL H G1 v d → FrL H0 G' v d := by
  refine S.ret R (fun q hq => ?_) (map_fst_set h) fun c hc => ?_
  · rw [List.mem_singleton.mp hq]
    exact List.mem_map.mpr ⟨_, List.mem_of_getElem? h, rfl⟩
  · by_cases z : c.1 = p
    · obtain ⟨j, hj⟩ := List.getElem?_of_mem hc
      have il := (List.getElem?_eq_some_iff.mp h).1
      have e : i = j := by
        have h1 : ((cs.set i (p, o')).map (·.1))[j]? = some p := by rw [List.getElem?_map, hj, ← z]; rfl
        rw [map_fst_set h] at h1
        exact nodup_ix S.nd (by rw [List.getElem?_map, h]; rfl) h1
      subst e
      rw [List.getElem?_set_self il] at hj
      cases hj
      exact ⟨hp, k⟩
    · have hc2 : c ∈ cs := by
        rcases List.mem_or_eq_of_mem_set hc with q | q
        · exact q
        · exact absurd (by rw [q]) z
      exact ⟨R.sub _ _ (R.base _ _ (S.cel c hc2).1 fun q => z (List.mem_singleton.mp q)), (S.cel c hc2).2.2⟩
/-- an owned list, read -/
theorem Sep.rd (S : Sep ms H0 G H cs) (i : Nat) (h : cs[i]? = some (p, .lst vs)) (f : FrL F0 G vs ds) : Fr E0h H (.ref p) (.list ds) := .lst (S.get i h) rfl ((f.rp).same S.sub)
theorem Sep.hidS (S : Sep ms H0 G H cs) (h : ∀ p ∈ ns, G p = none) : Same G (hid H ns) := fun b o e => by
  rw [hid_out]
  · exact S.sub b o e
  · intro z
    rw [h b z] at e
    cases e
theorem lst_tup {vs : List V} : ∀ xs, HO.lst vs ≠ .tup xs := fun _ z => by cases z
theorem dk_tup {vs : List (Key × V)} : ∀ xs, HO.dK vs ≠ .tup xs := fun _ z => by cases z
theorem Sep.ne (S : Sep ms H0 G H cs) {i j : Nat} (hi : cs[i]? = some (p, o)) (hj : cs[j]? = some (b, o')) (n : i ≠ j) : p ≠ b := fun z => by
  subst z
  exact n (nodup_ix S.nd (show (cs.map (·.1))[i]? = some p by rw [List.getElem?_map, hi]; rfl) (by rw [List.getElem?_map, hj]; rfl))
/-! ### new objects -/
def zTup (xs : List V) (H : Hp) (Q : VK) : Prop := xs.length ≤ sizeLine ∧ ∀ p, H p = none → Q (.ref p) (upd H p (.tup xs))
def zLst (xs : List V) (H : Hp) (Q : VK) : Prop := xs.length ≤ sizeLine ∧ ∀ p, H p = none → Q (.ref p) (upd H p (.lst xs))
def zNew (xs : List V) (H : Hp) (Q : VK) : Prop := ∀ p, H p = none → Q (.ref p) (upd H p (.lst xs))
theorem rd_tupZ {tr : TA} {σ : L2.St} (q : tr σ H fun xs H1 => zTup xs H1 Q) : tTup tr σ H Q := q
theorem rd_lstZ {tr : TA} {σ : L2.St} (q : tr σ H fun xs H1 => zLst xs H1 Q) : tLst tr σ H Q := q
theorem q_tup (S : Sep ms H0 G H cs) (z : xs.length ≤ LIM) (f : FrL F0 G xs ds) (q : ∀ p G' H', Sep ms H0 G' H' cs → Same G G' → Fr F0 G' (.ref p) (.tuple ds) → Q (.ref p) H') : zTup xs H Q :=
  ⟨lim_le z, fun p hp => q p _ _ (S.sh hp) (sNew (S.gfree hp)) (.tup upd_same (f.same (sNew (S.gfree hp))))⟩
theorem q_lst (S : Sep ms H0 G H cs) (z : xs.length ≤ LIM) (f : FrL F0 G xs ds) (hF : ∀ b, H b = none → F0 b = none) (q : ∀ p G' H', Sep ms H0 G' H' cs → Same G G' → Fr F0 G' (.ref p) (.list ds) → Q (.ref p) H') : zLst xs H Q :=
  ⟨lim_le z, fun p hp => q p _ _ (S.sh hp) (sNew (S.gfree hp)) (.lst upd_same (hF p hp) (f.same (sNew (S.gfree hp))))⟩
theorem q_lstO (S : Sep ms H0 G H cs) (z : xs.length ≤ LIM) (q : ∀ p H', Sep ms H0 G H' ((p, .lst xs) :: cs) → H0 p = none → Q (.ref p) H') : zLst xs H Q :=
  ⟨lim_le z, fun p hp => q p _ (S.own hp lst_tup) (S.old p hp)⟩
/-- what a rule leaves that makes a new list of what is held -/
theorem q_new (S : Sep ms H0 G H cs) (f : FrL F0 G xs ds) (hF : ∀ b, H b = none → F0 b = none) (q : ∀ p G' H', Sep ms H0 G' H' cs → Same G G' → Fr F0 G' (.ref p) (.list ds) → Q (.ref p) H') : zNew xs H Q :=
  fun p hp => q p _ _ (S.sh hp) (sNew (S.gfree hp)) (.lst upd_same (hF p hp) (f.same (sNew (S.gfree hp))))
theorem q_newO (S : Sep ms H0 G H cs) (q : ∀ p H', Sep ms H0 G H' ((p, .lst xs) :: cs) → H0 p = none → Q (.ref p) H') : zNew xs H Q :=
  fun p hp => q p _ (S.own hp lst_tup) (S.old p hp)
/-- an owned list becomes one that is only read -/
theorem Sep.fixL (S : Sep ms H0 G H cs) (i : Nat) (h : cs[i]? = some (p, .lst vs)) (hm : p ∉ ms) (f : FrL H0 G vs ds) (n : H0 p = none) : ∃ G', Sep ms H0 G' H (cs.eraseIdx i) ∧ Same G G' ∧ Fr H0 G' (.ref p) (.list ds) :=
  ⟨_, S.fix i h hm, sNew (S.gnone i h), .lst upd_same n (f.same (sNew (S.gnone i h)))⟩
/-! ### lists -/
theorem ix_get {l : List α} {i : Int} {x : α} (h : ix l i = some x) (f : FrL F0 G vs (l.map e)) : ∃ v, atI vs i = some v ∧ Fr F0 G v (e x) := by
  unfold ix atI at h
  obtain ⟨j, h1, h2⟩ := Option.bind_eq_some_iff.mp h
  obtain ⟨v, h3, h4⟩ := f.get (i := j) (d := e x) (by rw [List.getElem?_map, h2]; rfl)
  refine ⟨v, ?_, h4⟩
  unfold atI
  rw [f.len, List.length_map, h1]
  exact h3
theorem q_ixL {i : Int} {x : α} (ha : H a = some (.lst vs)) (f : FrL F0 G vs (l.map e)) (h : ix l i = some x) (q : ∀ v, Fr F0 G v (e x) → Q v H) : rIxL K (.ref a) (.int i) H Q := by
  obtain ⟨v, h1, h2⟩ := ix_get h f
  exact rd_ixL ha h1 (q v h2)
theorem frl_cut {lo hi : Option Int} (f : FrL F0 G vs (l.map e)) : FrL F0 G (cutV vs lo hi) ((cutL l lo hi).map e) := by
  unfold cutV cutL
  rw [f.len, List.length_map, List.map_take, List.map_drop]
  exact (f.drop _).take _
theorem q_slL {lo hi : Option Int} (S : Sep ms H0 G H cs) (ha : H a = some (.lst vs)) (f : FrL F0 G vs (l.map e)) (hF : ∀ b, H b = none → F0 b = none) (q : ∀ p G' H', Sep ms H0 G' H' cs → Same G G' → Fr F0 G' (.ref p) (eL e (cutL l lo hi)) → Q (.ref p) H') : rSlL K (.ref a) lo hi H Q :=
  rd_slL ha (q_new S (frl_cut f) hF q)
theorem q_slLO {lo hi : Option Int} (S : Sep ms H0 G H cs) (ha : H a = some (.lst vs)) (f : FrL F0 G vs (l.map e)) (q : ∀ p us H', Sep ms H0 G H' ((p, .lst us) :: cs) → H0 p = none → FrL F0 G us ((cutL l lo hi).map e) → Q (.ref p) H') : rSlL K (.ref a) lo hi H Q :=
  rd_slL ha (q_newO S fun p H' S' n => q p _ H' S' n (frl_cut f))
theorem q_len (ha : H a = some (.lst vs)) (f : FrL F0 G vs (l.map e)) (q : Q (.int (lenI l)) H) : qLen K [.ref a] H Q := by
  refine rd_len ha ?_
  rw [f.len, List.length_map]
  exact q
theorem q_list (S : Sep ms H0 G H cs) (ha : H a = some (.lst vs)) (f : FrL F0 G vs ds) (hF : ∀ b, H b = none → F0 b = none) (q : ∀ p G' H', Sep ms H0 G' H' cs → Same G G' → Fr F0 G' (.ref p) (.list ds) → Q (.ref p) H') : qList K [.ref a] H Q :=
  rd_listOf ha (q_new S f hF q)
theorem q_listO (S : Sep ms H0 G H cs) (ha : H a = some (.lst vs)) (q : ∀ p H', Sep ms H0 G H' ((p, .lst vs) :: cs) → H0 p = none → Q (.ref p) H') : qList K [.ref a] H Q :=
  rd_listOf ha (q_newO S q)
theorem cat_ok {l m r : List α} (h : catF l m = some r) : l.length + m.length ≤ LIM ∧ r = l ++ m := by
  unfold catF at h
  obtain ⟨h1, h2⟩ := grd h
  exact ⟨of_decide_eq_true h1, (som h2).symm⟩
theorem q_cat {r : List α} (S : Sep ms H0 G H cs) (ha : H a = some (.lst vs)) (f : FrL F0 G vs (l.map e)) (hb : H b = some (.lst us)) (f2 : FrL F0 G us (m.map e)) (h : catF l m = some r) (hF : ∀ b, H b = none → F0 b = none)
    (q : ∀ p G' H', Sep ms H0 G' H' cs → Same G G' → Fr F0 G' (.ref p) (eL e r) → Q (.ref p) H') : rCat (.ref a) (.ref b) H Q := by
  obtain ⟨h1, rfl⟩ := cat_ok h
  refine rd_cat ha hb (lim_le (by rw [f.len, f2.len, List.length_map, List.length_map]; exact h1)) (q_new S ?_ hF q)
  rw [List.map_append]
  exact f.app f2
theorem q_catO {r : List α} (S : Sep ms H0 G H cs) (ha : H a = some (.lst vs)) (f : FrL F0 G vs (l.map e)) (hb : H b = some (.lst us)) (f2 : FrL F0 G us (m.map e)) (h : catF l m = some r)
    (q : ∀ p ws H', Sep ms H0 G H' ((p, .lst ws) :: cs) → H0 p = none → FrL F0 G ws (r.map e) → Q (.ref p) H') : rCat (.ref a) (.ref b) H Q := by
  obtain ⟨h1, rfl⟩ := cat_ok h
  refine rd_cat ha hb (lim_le (by rw [f.len, f2.len, List.length_map, List.length_map]; exact h1)) (q_newO S fun p H' S' n => q p _ H' S' n ?_)
  rw [List.map_append]
  exact f.app f2
theorem frl_rep {k : Nat} (f : FrL F0 G vs (l.map e)) : FrL F0 G (List.replicate k vs).flatten ((List.replicate k l).flatten.map e) := by
  induction k with
  | zero => exact .nil
  | succ k ih =>
    rw [List.replicate_succ, List.replicate_succ, List.flatten_cons, List.flatten_cons, List.map_append]
    exact f.app ih
theorem q_repN {r : List α} {k : Int} (S : Sep ms H0 G H cs) (ha : H a = some (.lst vs)) (f : FrL F0 G vs (l.map e)) (h : repF l k = some r) (q : ∀ p, H p = none → FrL F0 G (List.replicate k.toNat vs).flatten (r.map e) → Q (.ref p) (upd H p (.lst (List.replicate k.toNat vs).flatten))) : rRep (.ref a) (.int k) H Q := by
  unfold repF at h
  obtain ⟨h1, h2⟩ := grd h
  rw [Bool.and_eq_true, Bool.and_eq_true, decide_eq_true_iff, decide_eq_true_iff, decide_eq_true_iff] at h1
  obtain ⟨⟨h3, h4⟩, h5⟩ := h1
  refine ⟨a, k, vs, rfl, rfl, ha, h3, h4, lim_le (by rw [f.len, List.length_map]; exact h5), fun p hp => q p hp ?_⟩
  rw [← som h2]
  exact frl_rep f
theorem q_rep {r : List α} {k : Int} (S : Sep ms H0 G H cs) (ha : H a = some (.lst vs)) (f : FrL F0 G vs (l.map e)) (h : repF l k = some r) (hF : ∀ b, H b = none → F0 b = none)
    (q : ∀ p G' H', Sep ms H0 G' H' cs → Same G G' → Fr F0 G' (.ref p) (eL e r) → Q (.ref p) H') : rRep (.ref a) (.int k) H Q :=
  q_repN S ha f h fun p hp f2 => q_new S f2 hF q p hp
theorem q_repO {r : List α} {k : Int} (S : Sep ms H0 G H cs) (ha : H a = some (.lst vs)) (f : FrL F0 G vs (l.map e)) (h : repF l k = some r)
    (q : ∀ p ws H', Sep ms H0 G H' ((p, .lst ws) :: cs) → H0 p = none → FrL F0 G ws (r.map e) → Q (.ref p) H') : rRep (.ref a) (.int k) H Q :=
  q_repN S ha f h fun p hp f2 => q_newO S (fun p H' S' n => q p _ H' S' n f2) p hp
/-! ### changes of owned lists -/
theorem q_app {r : List α} {x : α} (S : Sep ms H0 G H cs) (i : Nat) (hi : cs[i]? = some (a, .lst vs)) (f : FrL F0 G vs (l.map e)) (fy : Fr F0 G y (e x)) (h : appF l x = some r)
    (q : ∀ us H', Sep ms H0 G H' (cs.set i (a, .lst us)) → FrL F0 G us (r.map e) → Q .non H') : rAppend (.ref a) [y] H Q := by
  unfold appF at h
  obtain ⟨h1, h2⟩ := grd h
  refine ⟨a, vs, y, rfl, rfl, S.get i hi, lim_lt (by rw [f.len, List.length_map]; exact of_decide_eq_true h1), q _ _ (S.put i hi lst_tup) ?_⟩
  rw [← som h2, List.map_append]
  exact f.app (.cons fy .nil)
theorem q_pop {r : List α} {x : α} (S : Sep ms H0 G H cs) (i : Nat) (hi : cs[i]? = some (a, .lst vs)) (f : FrL F0 G vs (l.map e)) (h : popF l = some (x, r))
    (q : ∀ y us H', Sep ms H0 G H' (cs.set i (a, .lst us)) → FrL F0 G us (r.map e) → Fr F0 G y (e x) → Q y H') : rPop (.ref a) [] H Q := by
  unfold popF at h
  obtain ⟨z, h1, h2⟩ := bnd h
  cases h2
  obtain ⟨w, h3, h4⟩ := f.get (i := l.length - 1) (d := e x) (by rw [List.getElem?_map, h1]; rfl)
  refine ⟨a, vs, w, rfl, rfl, S.get i hi, by rw [f.len, List.length_map]; exact h3, q w _ _ (S.put i hi lst_tup) ?_ h4⟩
  rw [List.dropLast_eq_take, List.dropLast_eq_take, f.len, List.length_map, List.map_take]
  exact f.take _
theorem q_popAt {r : List α} {x : α} {j : Int} (S : Sep ms H0 G H cs) (i : Nat) (hi : cs[i]? = some (a, .lst vs)) (f : FrL F0 G vs (l.map e)) (h : popAtF l j = some (x, r))
    (q : ∀ y us H', Sep ms H0 G H' (cs.set i (a, .lst us)) → FrL F0 G us (r.map e) → Fr F0 G y (e x) → Q y H') : rPopAt (.ref a) [.int j] H Q := by
  unfold popAtF at h
  obtain ⟨h0, h⟩ := grd h
  rw [Bool.and_eq_true, decide_eq_true_iff, decide_eq_true_iff] at h0
  obtain ⟨k, h1, h⟩ := bnd h
  obtain ⟨z, h2, h3⟩ := bnd h
  cases h3
  obtain ⟨w, h4, h5⟩ := f.get (i := k) (d := e x) (by rw [List.getElem?_map, h2]; rfl)
  refine ⟨a, vs, j, k, w, rfl, rfl, S.get i hi, h0.1, h0.2, by rw [f.len, List.length_map]; exact h1, h4, q w _ _ (S.put i hi lst_tup) ?_ h5⟩
  rw [← erase_map]
  exact f.erase _
theorem q_setL {r : List α} {x : α} {j : Int} {R : Hp → Prop} (S : Sep ms H0 G H cs) (i : Nat) (hi : cs[i]? = some (a, .lst vs)) (f : FrL F0 G vs (l.map e)) (fy : Fr F0 G y (e x)) (h : setF l j x = some r)
    (q : ∀ us H', Sep ms H0 G H' (cs.set i (a, .lst us)) → FrL F0 G us (r.map e) → R H') : rSetL (.ref a) (.int j) y H R := by
  unfold setF at h
  obtain ⟨k, h1, h2⟩ := bnd h
  cases h2
  refine rd_setL (S.get i hi) (j := k) (by rw [f.len, List.length_map]; exact h1) (q _ _ (S.put i hi lst_tup) ?_)
  rw [List.map_set]
  exact f.set _ fy
theorem q_rev (S : Sep ms H0 G H cs) (i : Nat) (hi : cs[i]? = some (a, .lst vs)) (f : FrL F0 G vs (l.map e))
    (q : ∀ us H', Sep ms H0 G H' (cs.set i (a, .lst us)) → FrL F0 G us (l.reverse.map e) → Q .non H') : rReverse (.ref a) [] H Q := by
  refine ⟨a, vs, rfl, rfl, S.get i hi, q _ _ (S.put i hi lst_tup) ?_⟩
  rw [List.map_reverse]
  exact f.rev
theorem q_clear (S : Sep ms H0 G H cs) (i : Nat) (hi : cs[i]? = some (a, .lst vs))
    (q : ∀ H', Sep ms H0 G H' (cs.set i (a, .lst [])) → Q .non H') : rClear (.ref a) [] H Q :=
  ⟨a, vs, rfl, rfl, S.get i hi, q _ (S.put i hi lst_tup)⟩
theorem q_ext {r : List α} (S : Sep ms H0 G H cs) (i : Nat) (hi : cs[i]? = some (a, .lst vs)) (f : FrL F0 G vs (l.map e)) (hb : H b = some (.lst us)) (f2 : FrL F0 G us (m.map e)) (h : catF l m = some r)
    (q : ∀ ws H', Sep ms H0 G H' (cs.set i (a, .lst ws)) → FrL F0 G ws (r.map e) → Q .non H') : rExtend (.ref a) [.ref b] H Q := by
  obtain ⟨h1, rfl⟩ := cat_ok h
  refine ⟨a, b, vs, us, rfl, rfl, S.get i hi, hb, lim_le (by rw [f.len, f2.len, List.length_map, List.length_map]; exact h1), q _ _ (S.put i hi lst_tup) ?_⟩
  rw [List.map_append]
  exact f.app f2
/-! ### numbers -/
theorem q_mulW {i j k : Int} (h : mulF i j = some k) (q : Q (.int k) H) : rI CMulW (fun i j => .int (i * j)) (.int i) (.int j) H Q := by
  unfold mulF at h
  obtain ⟨h1, h2⟩ := grd h
  rw [Bool.and_eq_true, decide_eq_true_iff, decide_eq_true_iff] at h1
  cases som h2
  exact ⟨i, j, rfl, rfl, wide_mul h1.1 h1.2 (by decide) (by decide) (by decide), q⟩
theorem q_mod {i j k : Int} (h : modF i j = some k) (q : Q (.int k) H) : rI (fun _ j => 0 < j) (fun i j => .int (i % j)) (.int i) (.int j) H Q := by
  unfold modF at h
  obtain ⟨h1, h2⟩ := grd h
  cases som h2
  exact ⟨i, j, rfl, rfl, of_decide_eq_true h1, q⟩
theorem q_div {i j k : Int} (h : divF i j = some k) (q : Q (.int k) H) : rI CDivW (fun i j => .int (i / j)) (.int i) (.int j) H Q := by
  unfold divF at h
  obtain ⟨h1, h2⟩ := grd h
  rw [Bool.and_eq_true, decide_eq_true_iff, decide_eq_true_iff] at h1
  cases som h2
  exact ⟨i, j, rfl, rfl, wide_div h1.1 h1.2 (by decide) (by decide), q⟩
theorem q_pow {i j k : Int} (h : powF i j = some k) (q : Q (.int k) H) : rI CPowW (fun i j => .int (i ^ j.toNat)) (.int i) (.int j) H Q := by
  unfold powF at h
  obtain ⟨h1, h2⟩ := grd h
  rw [Bool.and_eq_true, Bool.and_eq_true, decide_eq_true_iff, decide_eq_true_iff, decide_eq_true_iff] at h1
  cases som h2
  exact ⟨i, j, rfl, rfl, ⟨h1.1.1, h1.1.2, h1.2⟩, q⟩
theorem q_eqI {i j : Int} (q : Q (.bl (decide (i = j))) H) : rEq (.int i) (.int j) H Q := by
  refine ⟨rfl, ?_⟩
  rw [dec_int]
  exact q
end
end LQ

/-! Loops and comprehensions by what they compute. -/
namespace LQ
open PySem L2 LX
section
variable {ms : List Addr} {H0 F0 G H H1 H' : Hp} {cs : List (Addr × HO)} {D : Ends} {σ : L2.St} {g : TG} {tb : TS} {J : It} {Gd : Hp → Prop} {Y : Nat → Hp → V → Hp → Prop} {α β S R : Type} {K : PySem.W.Frag}
/-- the reading of a for over J -/
abbrev ForG (J : It) (g : TG) (tb : TS) (D : Ends) (σ : L2.St) (H : Hp) : Prop := ∃ W : Nat → Nat → L2.St → Hp → Prop, (∃ m, W 0 m σ H) ∧ ∀ i m σ H, W i m σ H →
  (J.stop i H ∧ D.nx σ H) ∨ (J.go i H ∧ ∃ N : L2.St → Hp → Prop, (∀ σ' H', N σ' H' → ∃ m', m' < m ∧ W (i + 1) m' σ' H') ∧ ∀ x H', J.yld i H x H' → g x σ H' fun σ2 H2 => tb { D with nx := N, ct := N, bk := D.nx } σ2 H2)
theorem loopF_drop {step : α → S → Option S} {xs : List α} {i : Nat} {a : α} {s r : S} (hi : xs[i]? = some a) (h : loopF step (xs.drop i) s = some r) : ∃ s', step a s = some s' ∧ loopF step (xs.drop (i + 1)) s' = some r := by
  rw [drop_of hi] at h
  exact bnd h
theorem loopC_drop {step : α → S → Option (Ctl R S)} {xs : List α} {i : Nat} {a : α} {s : S} {r : Ctl R S} (hi : xs[i]? = some a) (h : loopC step (xs.drop i) s = some r) :
    ∃ c, step a s = some c ∧ (∀ q, c = .ret q → r = .ret q) ∧ (∀ s', c = .nx s' → loopC step (xs.drop (i + 1)) s' = some r) ∧ (∀ s', c = .bk s' → r = .nx s') := by
  rw [drop_of hi] at h
  obtain ⟨c, h1, h2⟩ := bnd h
  refine ⟨c, h1, fun q e => ?_, fun s' e => ?_, fun s' e => ?_⟩
  · subst e
    exact (som h2).symm
  · subst e
    exact h2
  · subst e
    exact (som h2).symm
/-- a for whose body neither gives back nor breaks off -/
theorem q_forF {step : α → S → Option S} {xs : List α} {s0 r : S} (hf : loopF step xs s0 = some r) (w : Walk J xs.length Gd Y) (Pv : S → L2.St → Hp → Prop) (h0 : Pv s0 σ H) (hG : ∀ s σ H, Pv s σ H → Gd H)
    (hs : ∀ i a s s' x σ H H', xs[i]? = some a → step a s = some s' → Pv s σ H → Y i H x H' → g x σ H' fun σ2 H2 => tb { D with nx := Pv s', ct := Pv s', bk := D.nx } σ2 H2) (hd : ∀ σ H, Pv r σ H → D.nx σ H) : ForG J g tb D σ H := by
  refine ⟨fun i m σ H => m = xs.length - i ∧ i ≤ xs.length ∧ ∃ s, loopF step (xs.drop i) s = some r ∧ Pv s σ H, ⟨_, rfl, Nat.zero_le _, s0, hf, h0⟩, ?_⟩
  rintro i m σ H ⟨rfl, hi, s, hl, p⟩
  have q := hG s σ H p
  by_cases hlt : i < xs.length
  · obtain ⟨s', h1, h2⟩ := loopF_drop (List.getElem?_eq_getElem hlt) hl
    refine .inr ⟨w.goes i H hlt q, Pv s', fun σ' H' p' => ⟨xs.length - (i + 1), by omega, rfl, hlt, s', h2, p'⟩, fun x H' y => hs i _ s s' x σ H H' (List.getElem?_eq_getElem hlt) h1 p (w.yields i H x H' hlt q y)⟩
  · have e : i = xs.length := by omega
    subst e
    rw [List.drop_length] at hl
    cases hl
    exact .inl ⟨w.stops H q, hd σ H p⟩
/-- a for whose body may give back or break off -/
theorem q_forC {step : α → S → Option (Ctl R S)} {xs : List α} {s0 : S} {out : Ctl R S} (hf : loopC step xs s0 = some out) (w : Walk J xs.length Gd Y) (Pv : S → L2.St → Hp → Prop) (h0 : Pv s0 σ H) (hG : ∀ s σ H, Pv s σ H → Gd H)
    (hs : ∀ i a s c x σ H H', xs[i]? = some a → step a s = some c → Pv s σ H → Y i H x H' → (∀ q, c = .ret q → out = .ret q) → (∀ s' σ H, c = .bk s' → Pv s' σ H → D.nx σ H) →
      g x σ H' fun σ2 H2 => tb { D with nx := fun σ H => ∃ s', c = .nx s' ∧ Pv s' σ H, ct := fun σ H => ∃ s', c = .nx s' ∧ Pv s' σ H, bk := D.nx } σ2 H2)
    (hd : ∀ s σ H, out = .nx s → Pv s σ H → D.nx σ H) : ForG J g tb D σ H := by
  refine ⟨fun i m σ H => m = xs.length - i ∧ i ≤ xs.length ∧ ∃ s, loopC step (xs.drop i) s = some out ∧ Pv s σ H, ⟨_, rfl, Nat.zero_le _, s0, hf, h0⟩, ?_⟩
  rintro i m σ H ⟨rfl, hi, s, hl, p⟩
  have q := hG s σ H p
  by_cases hlt : i < xs.length
  · obtain ⟨c, h1, h2, h3, h4⟩ := loopC_drop (List.getElem?_eq_getElem hlt) hl
    refine .inr ⟨w.goes i H hlt q, fun σ H => ∃ s', c = .nx s' ∧ Pv s' σ H, fun σ' H' ⟨s', e, p'⟩ => ⟨xs.length - (i + 1), by omega, rfl, hlt, s', h3 s' e, p'⟩, fun x H' y => ?_⟩
    exact hs i _ s c x σ H H' (List.getElem?_eq_getElem hlt) h1 p (w.yields i H x H' hlt q y) h2 fun s' σ H e p' => hd s' σ H (h4 s' e) p'
  · have e : i = xs.length := by omega
    subst e
    rw [List.drop_length] at hl
    cases hl
    exact .inl ⟨w.stops H q, hd s σ H rfl p⟩
/-- while, neither giving back nor breaking off -/
theorem q_whileF {c : S → Option Bool} {b : S → Option S} {n : Nat} {s0 r : S} {tc : TT} (hf : whileF c b n s0 = some r) (Pv : S → L2.St → Hp → Prop) (h0 : Pv s0 σ H)
    (hc : ∀ s t σ H, c s = some t → Pv s σ H → ∀ Q : Bool → Hp → Prop, (∀ H', Pv s σ H' → Q t H') → tc σ H Q)
    (hs : ∀ s s' σ H, b s = some s' → c s = some true → Pv s σ H → tb { D with nx := Pv s', ct := Pv s', bk := D.nx } σ H) (hd : ∀ σ H, Pv r σ H → D.nx σ H) : tWhile tc tb D σ H := by
  refine ⟨fun m σ H => ∃ s, whileF c b m s = some r ∧ Pv s σ H, ⟨n, s0, hf, h0⟩, ?_⟩
  rintro m σ H ⟨s, hl, p⟩
  cases m with
  | zero => cases hl
  | succ m =>
    obtain ⟨t, h1, h2⟩ := bnd hl
    refine hc s t σ H h1 p _ fun H' p' => ?_
    rcases cnd h2 with ⟨rfl, h3⟩ | ⟨rfl, h3⟩
    · obtain ⟨s', h4, h5⟩ := bnd h3
      exact iteT ⟨Pv s', fun σ' H' p2 => ⟨m, Nat.lt_succ_self m, s', h5, p2⟩, hs s s' σ H' h4 h1 p'⟩
    · cases h3
      exact iteF (hd σ H' p')
theorem q_whileC {c : S → Option Bool} {b : S → Option (Ctl R S)} {n : Nat} {s0 : S} {out : Ctl R S} {tc : TT} (hf : whileC c b n s0 = some out) (Pv : S → L2.St → Hp → Prop) (h0 : Pv s0 σ H)
    (hc : ∀ s t σ H, c s = some t → Pv s σ H → ∀ Q : Bool → Hp → Prop, (∀ H', Pv s σ H' → Q t H') → tc σ H Q)
    (hs : ∀ s k σ H, b s = some k → c s = some true → Pv s σ H → (∀ q, k = .ret q → out = .ret q) → (∀ s' σ H, k = .bk s' → Pv s' σ H → D.nx σ H) →
      tb { D with nx := fun σ H => ∃ s', k = .nx s' ∧ Pv s' σ H, ct := fun σ H => ∃ s', k = .nx s' ∧ Pv s' σ H, bk := D.nx } σ H) (hd : ∀ s σ H, out = .nx s → Pv s σ H → D.nx σ H) : tWhile tc tb D σ H := by
  refine ⟨fun m σ H => ∃ s, whileC c b m s = some out ∧ Pv s σ H, ⟨n, s0, hf, h0⟩, ?_⟩
  rintro m σ H ⟨s, hl, p⟩
  cases m with
  | zero => cases hl
  | succ m =>
    obtain ⟨t, h1, h2⟩ := bnd hl
    refine hc s t σ H h1 p _ fun H' p' => ?_
    rcases cnd h2 with ⟨rfl, h3⟩ | ⟨rfl, h3⟩
    · obtain ⟨k, h4, h5⟩ := bnd h3
      refine iteT ⟨fun σ H => ∃ s', k = .nx s' ∧ Pv s' σ H, fun σ' H' ⟨s', e, p2⟩ => ⟨m, Nat.lt_succ_self m, s', ?_, p2⟩, hs s k σ H' h4 h1 p' (fun q e => ?_) fun s' σ H e p2 => hd s' σ H ?_ p2⟩
      · subst e
        exact h5
      · subst e
        exact (som h5).symm
      · subst e
        exact (som h5).symm
    · cases h3
      exact iteF (hd s σ H' rfl p')
/-- the reading of a comprehension over J -/
abbrev LcG (J : It) (g : TG) (tt : TT) (te : TE) (vs : List Nat) (σ : L2.St) (H1 : Hp) (D : Addr) (Qd : Hp → Prop) : Prop := ∃ W : Nat → Nat → Hp → Prop, (∃ m, W 0 m (upd H1 D (.lst []))) ∧ ∀ i m H, W i m H →
  (J.stop i H ∧ Qd H) ∨ (J.go i H ∧ ∃ Nx : Hp → Prop, (∀ H', Nx H' → ∃ m', m' < m ∧ W (i + 1) m' H') ∧ ∀ x H', J.yld i H x H' → g x (wipe σ vs) H' fun σ2 H2 => wipe σ2 vs = wipe σ vs ∧ tt σ2 H2 fun b H3 =>
    if b = true then te σ2 H3 fun y H4 => ∃ acc, H4 D = some (.lst acc) ∧ acc.length < sizeLine ∧ Nx (upd H4 D (.lst (acc ++ [y]))) else Nx H3)
theorem compS_len {f : α → S → Option (Option β × S)} : ∀ {xs : List α} {s s' : S} {ys : List β}, compS f xs s = some (ys, s') → ys.length ≤ xs.length
  | [], s, s', ys, h => by
    cases h
    exact Nat.le_refl _
  | x :: xs, s, s', ys, h => by
    obtain ⟨p, h1, h2⟩ := bnd h
    obtain ⟨q, h3, h4⟩ := bnd h2
    have := compS_len (ys := q.1) (s' := q.2) h3
    cases h4
    cases p.1 with
    | none =>
      show q.1.length ≤ _
      rw [List.length_cons]
      omega
    | some y =>
      show (y :: q.1).length ≤ _
      rw [List.length_cons, List.length_cons]
      omega
theorem compS_drop {f : α → S → Option (Option β × S)} {xs : List α} {i : Nat} {a : α} {s s' : S} {ys : List β} (hi : xs[i]? = some a) (h : compS f (xs.drop i) s = some (ys, s')) :
    ∃ o s1 zs, f a s = some (o, s1) ∧ compS f (xs.drop (i + 1)) s1 = some (zs, s') ∧ ys = (match o with | none => zs | some y => y :: zs) := by
  rw [drop_of hi] at h
  obtain ⟨p, h1, h2⟩ := bnd h
  obtain ⟨q, h3, h4⟩ := bnd h2
  cases h4
  exact ⟨p.1, p.2, q.1, h1, h3, rfl⟩
/-- a comprehension, with the state that it changes -/
theorem q_lcS {f : α → S → Option (Option β × S)} {xs : List α} {ys : List β} {s0 s1 : S} {enc : β → PyData} {c : S → List (Addr × HO)} {A : Addr} {Qd : Hp → Prop} {tt : TT} {te : TE} {vs : List Nat}
    (hf : compS f xs s0 = some (ys, s1)) (hz : xs.length ≤ LIM) (w : Walk J xs.length Gd Y) (S0 : Sep ms H0 G H (c s0)) (hA : H A = none) (hF : ∀ b, H b = none → F0 b = none)
    (hg : ∀ s G' H' acc, Sep ms H0 G' H' ((A, .lst acc) :: c s) → Same G G' → Gd H')
    (hs : ∀ i x a s o s' G1 H1 H2 acc, xs[i]? = some a → f a s = some (o, s') → Sep ms H0 G1 H1 ((A, .lst acc) :: c s) → Same G G1 → Y i H1 x H2 →
      ∀ (T : V → Hp → Prop) (F : Hp → Prop), (∀ y b G' H', o = some b → Sep ms H0 G' H' ((A, .lst acc) :: c s') → Same G1 G' → Fr F0 G' y (enc b) → T y H') → (∀ G' H', o = none → Sep ms H0 G' H' ((A, .lst acc) :: c s') → Same G1 G' → F H') →
      g x (wipe σ vs) H2 fun σ2 H2 => wipe σ2 vs = wipe σ vs ∧ tt σ2 H2 fun b H3 => if b = true then te σ2 H3 T else F H3)
    (hd : ∀ G' H' us, Sep ms H0 G' H' ((A, .lst us) :: c s1) → Same G G' → FrL F0 G' us (ys.map enc) → H0 A = none → F0 A = none → Qd H') : LcG J g tt te vs σ H A Qd := by
  have yl := compS_len hf
  refine ⟨fun i m H' => m = xs.length - i ∧ i ≤ xs.length ∧ ∃ s zs acc ws G', compS f (xs.drop i) s = some (zs, s1) ∧ ys = ws ++ zs ∧ Sep ms H0 G' H' ((A, .lst acc) :: c s) ∧ Same G G' ∧ FrL F0 G' acc (ws.map enc),
    ⟨_, rfl, Nat.zero_le _, s0, ys, [], [], G, hf, rfl, S0.own hA lst_tup, Same.refl _, .nil⟩, ?_⟩
  rintro i m H1 ⟨rfl, hi, s, zs, acc, ws, G1, hl, rfl, S1, s1', fa⟩
  have q := hg s G1 H1 acc S1 s1'
  by_cases hlt : i < xs.length
  · obtain ⟨o, s2, zs2, h1, h2, h3⟩ := compS_drop (List.getElem?_eq_getElem hlt) hl
    refine .inr ⟨w.goes i H1 hlt q, fun H' => ∃ s zs acc ws' G', compS f (xs.drop (i + 1)) s = some (zs, s1) ∧ ws ++ (match o with | none => zs2 | some y => y :: zs2) = ws' ++ zs ∧ Sep ms H0 G' H' ((A, .lst acc) :: c s) ∧ Same G G' ∧ FrL F0 G' acc (ws'.map enc), ?_, ?_⟩
    · rintro H' ⟨s, zs3, acc', ws', G', k1, k2, k3, k4, k5⟩
      exact ⟨xs.length - (i + 1), by omega, rfl, hlt, s, zs3, acc', ws', G', k1, by rw [h3]; exact k2, k3, k4, k5⟩
    · intro x H2 y
      refine hs i x _ s o s2 G1 H1 H2 acc (List.getElem?_eq_getElem hlt) h1 S1 s1' (w.yields i H1 x H2 hlt q y) _ _ (fun y b G' H' e S' sG fy => ?_) fun G' H' e S' sG => ?_
      · subst e
        have la : acc.length < sizeLine := by
          rw [fa.len, List.length_map]
          refine lim_lt ?_
          rw [h3] at yl
          simp only [List.length_append, List.length_cons] at yl
          omega
        refine ⟨acc, S'.get 0 rfl, la, s2, zs2, acc ++ [y], ws ++ [b], G', h2, by rw [List.append_assoc]; rfl, S'.put 0 rfl lst_tup, s1'.trans sG, ?_⟩
        rw [List.map_append]
        exact (fa.same sG).app (.cons fy .nil)
      · subst e
        exact ⟨s2, zs2, acc, ws, G', h2, rfl, S', s1'.trans sG, fa.same sG⟩
  · have e : i = xs.length := by omega
    subst e
    rw [List.drop_length] at hl
    cases hl
    rw [List.append_nil] at hd
    exact .inl ⟨w.stops H1 q, hd G1 H1 acc S1 s1' fa (S0.old A hA) (hF A hA)⟩
theorem compF_S {f : α → Option (Option β)} : ∀ {xs : List α} {ys : List β}, compF f xs = some ys → compS (fun a (_ : Unit) => (f a).bind fun o => some (o, ())) xs () = some (ys, ())
  | [], ys, h => by
    cases h
    rfl
  | x :: xs, ys, h => by
    obtain ⟨p, h1, h2⟩ := bnd h
    obtain ⟨q, h3, h4⟩ := bnd h2
    cases h4
    show ((f x).bind fun o => some (o, ())).bind _ = _
    rw [h1]
    show (compS _ xs ()).bind _ = _
    rw [compF_S h3]
    rfl
theorem q_lc {f : α → Option (Option β)} {xs : List α} {ys : List β} {enc : β → PyData} {A : Addr} {Qd : Hp → Prop} {tt : TT} {te : TE} {vs : List Nat}
    (hf : compF f xs = some ys) (hz : xs.length ≤ LIM) (w : Walk J xs.length Gd Y) (S0 : Sep ms H0 G H cs) (hA : H A = none) (hF : ∀ b, H b = none → F0 b = none)
    (hg : ∀ G' H' acc, Sep ms H0 G' H' ((A, .lst acc) :: cs) → Same G G' → Gd H')
    (hs : ∀ i x a o G1 H1 H2 acc, xs[i]? = some a → f a = some o → Sep ms H0 G1 H1 ((A, .lst acc) :: cs) → Same G G1 → Y i H1 x H2 →
      ∀ (T : V → Hp → Prop) (F : Hp → Prop), (∀ y b G' H', o = some b → Sep ms H0 G' H' ((A, .lst acc) :: cs) → Same G1 G' → Fr F0 G' y (enc b) → T y H') → (∀ G' H', o = none → Sep ms H0 G' H' ((A, .lst acc) :: cs) → Same G1 G' → F H') →
      g x (wipe σ vs) H2 fun σ2 H2 => wipe σ2 vs = wipe σ vs ∧ tt σ2 H2 fun b H3 => if b = true then te σ2 H3 T else F H3)
    (hd : ∀ G' H' us, Sep ms H0 G' H' ((A, .lst us) :: cs) → Same G G' → FrL F0 G' us (ys.map enc) → H0 A = none → F0 A = none → Qd H') : LcG J g tt te vs σ H A Qd := by
  refine q_lcS (c := fun _ => cs) (compF_S hf) hz w S0 hA hF (fun _ => hg) (fun i x a s o s' G1 H1 H2 acc hi ho => ?_) hd
  obtain ⟨p, h1, h2⟩ := bnd ho
  cases h2
  exact hs i x a _ G1 H1 H2 acc hi h1
end
/-! ### what is walked -/
section
variable {F0 H0 G H : Hp} {a b : Addr} {vs us : List V} {α β : Type} {e : α → PyData} {e2 : β → PyData} {l : List α} {m : List β} {K : PySem.W.Frag} {ms : List Addr} {cs : List (Addr × HO)}
theorem rgI_len (a b : Int) : (rgI a b).length = (b - a).toNat := by
  unfold rgI
  rw [List.length_map, List.length_range]
theorem rgI_get {a b : Int} {i : Nat} {x : Int} (h : (rgI a b)[i]? = some x) : x = a + i := by
  unfold rgI at h
  rw [List.getElem?_map] at h
  obtain ⟨j, h1, h2⟩ := Option.map_eq_some_iff.mp h
  have := List.getElem?_eq_some_iff.mp h1
  obtain ⟨h3, h4⟩ := this
  rw [List.getElem_range] at h4
  rw [← h2, h4]
/-- a range by ones -/
theorem w_rng (lo hi : Int) : Walk (Itr lo (hi - lo).toNat) (rgI lo hi).length (fun _ => True) (YFn fun i => .int (lo + i)) := by
  rw [rgI_len]
  exact walk_range
theorem w_list (f : FrL F0 G vs (l.map e)) : Walk (Itl K a) l.length (fun H => H a = some (.lst vs)) (YAt vs) := by
  have h : l.length = vs.length := by rw [f.len, List.length_map]
  rw [h]
  exact walk_list.mono (fun _ h => SqL.of h) fun _ _ _ _ _ _ y => y
theorem w_tup (f : FrL F0 G vs (l.map e)) : Walk (Itt K a) l.length (fun H => H a = some (.tup vs)) (YAt vs) := by
  have h : l.length = vs.length := by rw [f.len, List.length_map]
  rw [h]
  exact walk_tup.mono (fun _ h => SqT.of h) fun _ _ _ _ _ _ y => y
theorem w_enum (f : FrL F0 G vs (l.map e)) : Walk (Ite K a) l.length (fun H => H a = some (.lst vs)) (YPair (fun i => some (.int (i : Nat))) (fun i => vs[i]?)) := by
  have h : l.length = vs.length := by rw [f.len, List.length_map]
  rw [h]
  exact walk_enum.mono (fun _ h => SqL.of h) fun _ _ _ _ _ _ y => y
theorem w_str (z : Str) : Walk (Its z) (z.cps.toList.map fun c => (⟨#[c]⟩ : Str)).length (fun _ => True) (fun i H v H' => H' = H ∧ ∃ c, z.cps[i]? = some c ∧ v = .str ⟨#[c]⟩) := by
  have h : (z.cps.toList.map fun c => (⟨#[c]⟩ : Str)).length = z.cps.size := by rw [List.length_map, Array.length_toList]
  rw [h]
  exact walk_str
theorem frl_at {i : Nat} {x : α} {v : V} (f : FrL F0 G vs (l.map e)) (hx : l[i]? = some x) (hv : vs[i]? = some v) : Fr F0 G v (e x) := by
  obtain ⟨w, h1, h2⟩ := f.get (i := i) (d := e x) (by rw [List.getElem?_map, hx]; rfl)
  rw [hv] at h1
  cases h1
  exact h2
theorem enumI_len (l : List α) : (enumI l).length = l.length := by
  unfold enumI
  rw [List.length_zipWith, List.length_range, Nat.min_self]
theorem enumI_get {i : Nat} {p : Int × α} (h : (enumI l)[i]? = some p) : p.1 = (i : Int) ∧ l[i]? = some p.2 := by
  unfold enumI at h
  rw [List.getElem?_zipWith] at h
  obtain ⟨hl, _⟩ : i < l.length ∧ True := by
    refine ⟨?_, trivial⟩
    by_cases c : i < l.length
    · exact c
    · rw [List.getElem?_eq_none (l := List.range l.length) (by rw [List.length_range]; omega)] at h
      simp at h
  rw [List.getElem?_range hl, List.getElem?_eq_getElem hl] at h
  simp only [Option.some.injEq] at h
  rw [← h]
  exact ⟨rfl, List.getElem?_eq_getElem hl⟩
end
end LQ

/-! What gen2 writes. -/
namespace LQ
open PySem L2 LX
def ctlK {R S β : Type} (k : Ctl R S) (fr : R → Option β) (fn : S → Option β) : Option β := match k with
  | .ret r => fr r
  | .nx s => fn s
  | .bk _ => none
def fuelW : Nat := 100000
/-- a comprehension over a list that is not too long -/
def compL {α β : Type} (f : α → Option (Option β)) (l : List α) : Option (List β) := cond (decide (l.length ≤ LIM)) (compF f l) none
def chars (z : Str) : List Str := z.cps.toList.map fun c => (⟨#[c]⟩ : Str)
def zipL {α β : Type} (l : List α) (m : List β) : List (α × β) := l.zip m
def repSF (z : Str) (n : Int) : Option Str := cond (decide (0 ≤ n) && decide (n ≤ 1000) && decide (z.length ≤ 1000)) (some (repS z n.toNat)) none
def sliceS (z : Str) (lo hi : Option Int) : Option Str := cond (decide (z.length ≤ LIM)) (some (cutS z lo hi)) none
/-- one sign in a text -/
def inSF (c z : Str) : Option Bool := match c.cps.toList with
  | [k] => some (decide (k ∈ z.cps.toList))
  | _ => none
def lrgF (a b : Int) : Option (List Int) := cond (decide (-(2 ^ 62) ≤ a) && decide (a < 2 ^ 62) && decide (-(2 ^ 62) ≤ b) && decide (b < 2 ^ 62) && decide ((b - a).toNat ≤ LIM)) (some (rgI a b)) none
def joinF (a : Str) (ys : List Str) : Option Str := cond (decide ((ys.map (·.length)).sum + ys.length * a.length ≤ 16777216)) (some (Txt.join a ys)) none
def insF {α : Type} (l : List α) (i : Int) (x : α) : Option (List α) := cond (decide (l.length < LIM) && decide (0 ≤ i) && decide (i < 2 ^ 63)) (some (l.take i.toNat ++ [x] ++ l.drop i.toNat)) none
def sortI (l : List Int) : List Int := l.mergeSort
section
variable {σ σ' : L2.St} {H H1 G G' : Hp} {Q : VK} {v w x y : V} {i : Nat} {t : TT} {te : TE} {D : Ends} {A B : Prop} {b b1 b2 : Bool}
theorem rd_varE (e : σ[i]? = some (some v)) (h : v = w) (q : Q w H) : tVar i σ H Q := ⟨v, e, h ▸ q⟩
theorem rd_nameS {R : L2.St → Hp → Prop} (e : σ.set i (some v) = σ') (q : R σ' H) : gName i v σ H R := by
  subst e
  exact q
theorem rd_setS {R : L2.St → Hp → Prop} {s : L2.St} (e : s = σ') (q : R σ' H) : R s H := by
  subst e
  exact q
theorem rd_twoS {v w : V} {i j : Nat} (e : (σ.set i (some v)).set j (some w) = σ') (q : D.nx σ' H) : ∃ a b, [v, w] = [a, b] ∧ D.nx ((σ.set i (some a)).set j (some b)) H := by
  subst e
  exact ⟨v, w, rfl, q⟩
theorem rd_mk {f ct bk : L2.St → Hp → Prop} {rt : VK} (q : f σ H) : (Ends.mk f rt bk ct).nx σ H := q
theorem rd_ttM {QB : Bool → Hp → Prop} (M : Bool → Hp → Prop) (h1 : ∀ R : Bool → Hp → Prop, (∀ x H1, M x H1 → R x H1) → t σ H R) (h2 : ∀ x H1, M x H1 → QB x H1) : t σ H QB := h1 _ h2
theorem ite_by (h1 : b = true → A) (h2 : b = false → B) : if b = true then A else B := by
  cases b with
  | true => exact L2.iteT (h1 rfl)
  | false => exact L2.iteF (h2 rfl)
theorem iteY (h : b = true) (q : A) : if b = true then A else B := by
  rw [if_pos h]
  exact q
theorem iteN (h : b = false) (q : B) : if b = true then A else B := by
  rw [if_neg (by rw [h]; decide)]
  exact q
theorem andT {x y : Bool} (h : b = true) (e : x = y) : x = (b && y) := by rw [h, e, Bool.true_and]
theorem andF {y : Bool} (h : b = false) : false = (b && y) := by rw [h, Bool.false_and]
theorem orT {y : Bool} (h : b = true) : true = (b || y) := by rw [h, Bool.true_or]
theorem orF {x y : Bool} (h : b = false) (e : x = y) : x = (b || y) := by rw [h, e, Bool.false_or]
def zIsN : R2 := fun x y H Q => y = V.non ∧ Q (.bl (decide (x = .non))) H
def zNotN : R2 := fun x y H Q => y = V.non ∧ Q (.bl (!decide (x = .non))) H
theorem kisN {X : Cx} : OpR X (compareOp .Is) zIsN := op_isN
theorem knotN {X : Cx} : OpR X (compareOp .IsNot) zNotN := op_notN
def zLenS : List V → Hp → VK → Prop := fun xs H Q => ∃ z, xs = [.str z] ∧ z.length ≤ sizeLine ∧ Q (.int z.length) H
theorem klenS {X : Cx} : CallR X (.builtin "len") zLenS := call_len_str
def zMax2 : List V → Hp → VK → Prop := fun xs H Q => ∃ i j, xs = [.int i, .int j] ∧ Q (.int (if j > i then j else i)) H
def zMin2 : List V → Hp → VK → Prop := fun xs H Q => ∃ i j, xs = [.int i, .int j] ∧ Q (.int (if j < i then j else i)) H
theorem kmax2 {X : Cx} (hc : X.calm = true) : CallR X (.builtin "max") zMax2 := call_max2 hc
theorem kmin2 {X : Cx} (hc : X.calm = true) : CallR X (.builtin "min") zMin2 := call_min2 hc
def zInt1 : List V → Hp → VK → Prop := fun xs H Q => (∃ i, xs = [.int i] ∧ Q (.int i) H) ∨ ∃ k, xs = [.bl k] ∧ Q (.int (if k then 1 else 0)) H
theorem kint1 {X : Cx} : CallR X (.type "int") zInt1 := call_int1
def zAddS : R2 := fun x y H Q => ∃ i j, x = .str i ∧ y = .str j ∧ i.length + j.length ≤ sizeLine ∧ Q (.str (i ++ j)) H
theorem kaddS {X : Cx} : OpR X (binaryOp .Add) zAddS := op_add_str
theorem kiaddS {X : Cx} : OpR X (inplaceOp .Add) zAddS := iop_add_str
theorem q_isN {t : Bool} (h : decide (x = V.non) = t) (q : Q (.bl t) H) : zIsN x .non H Q := ⟨rfl, by rw [h]; exact q⟩
theorem q_notN {t : Bool} (h : decide (x = V.non) = t) (q : Q (.bl (!t)) H) : zNotN x .non H Q := ⟨rfl, by rw [h]; exact q⟩
theorem isO {α : Type} {f : α → V} (hf : ∀ a, f a ≠ .non) (o : Option α) : decide (vO f o = V.non) = o.isNone := by
  cases o with
  | none => rfl
  | some a => exact decide_eq_false (hf a)
theorem q_isNI {o : Option Int} (q : Q (.bl o.isNone) H) : zIsN (vO V.int o) .non H Q := q_isN (isO (fun _ z => by cases z) o) q
theorem q_isNS {o : Option Str} (q : Q (.bl o.isNone) H) : zIsN (vO V.str o) .non H Q := q_isN (isO (fun _ z => by cases z) o) q
theorem q_isNB {o : Option Bool} (q : Q (.bl o.isNone) H) : zIsN (vO V.bl o) .non H Q := q_isN (isO (fun _ z => by cases z) o) q
theorem q_notNI {o : Option Int} (q : Q (.bl (!o.isNone)) H) : zNotN (vO V.int o) .non H Q := q_notN (isO (fun _ z => by cases z) o) q
theorem q_notNS {o : Option Str} (q : Q (.bl (!o.isNone)) H) : zNotN (vO V.str o) .non H Q := q_notN (isO (fun _ z => by cases z) o) q
theorem q_notNB {o : Option Bool} (q : Q (.bl (!o.isNone)) H) : zNotN (vO V.bl o) .non H Q := q_notN (isO (fun _ z => by cases z) o) q
theorem isNo {α : Type} {e : α → PyData} {o : Option α} {F0 : Hp} (f : Fr F0 G v (eO e o)) (he : ∀ a, isNoneD (e a) = false) : decide (v = V.non) = o.isNone := by
  cases o with
  | none =>
    rw [fr_non f]
    rfl
  | some a =>
    refine decide_eq_false fun z => ?_
    subst z
    have h := he a
    change Fr F0 G .non (e a) at f
    generalize e a = d at f h
    cases f
    cases h
theorem isAny {d : PyData} {F0 : Hp} (f : Fr F0 G v d) : decide (v = V.non) = isNoneD d := by
  cases f <;> first | rfl | exact decide_eq_false fun z => by cases z
theorem q_neI {i j : Int} (q : Q (.bl (!decide (i = j))) H) : rNe (.int i) (.int j) H Q := by
  refine ⟨rfl, ?_⟩
  rw [dec_int]
  exact q
theorem dec_strV {i j : Str} : decide (V.str i = V.str j) = decide (i = j) := by
  by_cases h : i = j
  · rw [decide_eq_true h, decide_eq_true (congrArg V.str h)]
  · rw [decide_eq_false h, decide_eq_false fun z => h (V.str.inj z)]
theorem dec_blV {i j : Bool} : decide (V.bl i = V.bl j) = decide (i = j) := by
  by_cases h : i = j
  · rw [decide_eq_true h, decide_eq_true (congrArg V.bl h)]
  · rw [decide_eq_false h, decide_eq_false fun z => h (V.bl.inj z)]
theorem q_eqS {i j : Str} (q : Q (.bl (decide (i = j))) H) : rEq (.str i) (.str j) H Q := ⟨rfl, by rw [dec_strV]; exact q⟩
theorem q_neS {i j : Str} (q : Q (.bl (!decide (i = j))) H) : rNe (.str i) (.str j) H Q := ⟨rfl, by rw [dec_strV]; exact q⟩
theorem q_eqB {i j : Bool} (q : Q (.bl (decide (i = j))) H) : rEq (.bl i) (.bl j) H Q := ⟨rfl, by rw [dec_blV]; exact q⟩
theorem q_neB {i j : Bool} (q : Q (.bl (!decide (i = j))) H) : rNe (.bl i) (.bl j) H Q := ⟨rfl, by rw [dec_blV]; exact q⟩
theorem dec_vO {α : Type} [DecidableEq α] {f : α → V} (hf : ∀ a, f a ≠ .non) (hi : ∀ a b, f a = f b → a = b) (o p : Option α) : decide (vO f o = vO f p) = decide (o = p) := by
  cases o with
  | none =>
    cases p with
    | none => rfl
    | some b =>
      show decide (V.non = f b) = _
      rw [decide_eq_false (fun z => hf b z.symm), decide_eq_false (fun z => by cases z)]
  | some a =>
    cases p with
    | none =>
      show decide (f a = V.non) = _
      rw [decide_eq_false (hf a), decide_eq_false (fun z => by cases z)]
    | some b =>
      by_cases h : a = b
      · subst h
        rw [decide_eq_true rfl, decide_eq_true rfl]
      · show decide (f a = f b) = _
        rw [decide_eq_false fun z => h (hi a b z), decide_eq_false fun z => h (Option.some.inj z)]
theorem scal_vOS (o p : Option Str) : scal (vO V.str o) (vO V.str p) = true := by cases o <;> cases p <;> rfl
theorem scal_vOI (o p : Option Int) : scal (vO V.int o) (vO V.int p) = true := by cases o <;> cases p <;> rfl
theorem q_eqOS {o p : Option Str} (q : Q (.bl (decide (o = p))) H) : rEq (vO V.str o) (vO V.str p) H Q := ⟨scal_vOS o p, by rw [dec_vO (fun _ z => by cases z) (fun _ _ z => V.str.inj z)]; exact q⟩
theorem q_neOS {o p : Option Str} (q : Q (.bl (!decide (o = p))) H) : rNe (vO V.str o) (vO V.str p) H Q := ⟨scal_vOS o p, by rw [dec_vO (fun _ z => by cases z) (fun _ _ z => V.str.inj z)]; exact q⟩
theorem q_eqOI {o p : Option Int} (q : Q (.bl (decide (o = p))) H) : rEq (vO V.int o) (vO V.int p) H Q := ⟨scal_vOI o p, by rw [dec_vO (fun _ z => by cases z) (fun _ _ z => V.int.inj z)]; exact q⟩
theorem q_neOI {o p : Option Int} (q : Q (.bl (!decide (o = p))) H) : rNe (vO V.int o) (vO V.int p) H Q := ⟨scal_vOI o p, by rw [dec_vO (fun _ z => by cases z) (fun _ _ z => V.int.inj z)]; exact q⟩
theorem eqv_ok {d e : PyData} {b : Bool} (h : eqvF d e = some b) : SeqAt.shaped d = true ∧ SeqAt.shaped e = true ∧ d.hasDict = false ∧ e.hasDict = false ∧ PyData.eqv d e = b := by
  unfold eqvF at h
  obtain ⟨h1, h2⟩ := grd h
  rw [Bool.and_eq_true, Bool.and_eq_true, Bool.and_eq_true, Bool.not_eq_true', Bool.not_eq_true'] at h1
  exact ⟨h1.1.1.1, h1.1.1.2, h1.1.2, h1.2, som h2⟩
theorem q_eqD {K : PySem.W.Frag} {F0 F1 : Hp} {d e : PyData} (f : Fr F0 H x d) (g : Fr F1 H y e) (h : eqvF d e = some b) (q : Q (.bl b) H) : rEqD K x y H Q := by
  obtain ⟨h1, h2, h3, h4, h5⟩ := eqv_ok h
  exact ⟨d, e, f.dp h3, g.dp h4, h1, h2, by rw [h5]; exact q⟩
theorem q_neD {K : PySem.W.Frag} {F0 F1 : Hp} {d e : PyData} (f : Fr F0 H x d) (g : Fr F1 H y e) (h : eqvF d e = some b) (q : Q (.bl (!b)) H) : rNeD K x y H Q := by
  obtain ⟨h1, h2, h3, h4, h5⟩ := eqv_ok h
  exact ⟨d, e, f.dp h3, g.dp h4, h1, h2, by rw [h5]; exact q⟩
theorem flat_ints (l : List Int) : (l.map V.int).all flatV = true := by
  rw [List.all_map]
  exact List.all_eq_true.mpr fun _ _ => rfl
theorem flat_strs (l : List Str) : (l.map V.str).all flatV = true := by
  rw [List.all_map]
  exact List.all_eq_true.mpr fun _ _ => rfl
theorem inV_ints (i : Int) (l : List Int) : inV (.int i) (l.map V.int) = decide (i ∈ l) := by
  unfold inV
  rw [List.any_map]
  by_cases h : i ∈ l
  · rw [decide_eq_true h]
    exact List.any_eq_true.mpr ⟨i, h, by simp [Function.comp, eqV]⟩
  · rw [decide_eq_false h]
    refine Bool.eq_false_iff.mpr fun z => h ?_
    obtain ⟨k, h1, h2⟩ := List.any_eq_true.mp z
    simp [Function.comp, eqV] at h2
    exact h2 ▸ h1
theorem inV_strs (i : Str) (l : List Str) : inV (.str i) (l.map V.str) = decide (i ∈ l) := by
  unfold inV
  rw [List.any_map]
  by_cases h : i ∈ l
  · rw [decide_eq_true h]
    exact List.any_eq_true.mpr ⟨i, h, by simp [Function.comp, eqV]⟩
  · rw [decide_eq_false h]
    refine Bool.eq_false_iff.mpr fun z => h ?_
    obtain ⟨k, h1, h2⟩ := List.any_eq_true.mp z
    simp [Function.comp, eqV] at h2
    exact h2 ▸ h1
section
variable {K : PySem.W.Frag} {F0 : Hp} {a : Addr} {vs : List V}
theorem q_inI {i : Int} {l : List Int} (h : H a = some (.lst vs)) (f : FrL F0 G vs (l.map eI)) (q : Q (.bl (decide (i ∈ l))) H) : rIn K false (.int i) (.ref a) H Q := by
  rw [frl_ints f] at h
  exact rd_isin h rfl (flat_ints l) (inV_ints i l) q
theorem q_niI {i : Int} {l : List Int} (h : H a = some (.lst vs)) (f : FrL F0 G vs (l.map eI)) (q : Q (.bl (!decide (i ∈ l))) H) : rIn K true (.int i) (.ref a) H Q := by
  rw [frl_ints f] at h
  exact rd_notin h rfl (flat_ints l) (inV_ints i l) q
theorem q_inS {i : Str} {l : List Str} (h : H a = some (.lst vs)) (f : FrL F0 G vs (l.map eS)) (q : Q (.bl (decide (i ∈ l))) H) : rIn K false (.str i) (.ref a) H Q := by
  rw [frl_strs f] at h
  exact rd_isin h rfl (flat_strs l) (inV_strs i l) q
theorem q_niS {i : Str} {l : List Str} (h : H a = some (.lst vs)) (f : FrL F0 G vs (l.map eS)) (q : Q (.bl (!decide (i ∈ l))) H) : rIn K true (.str i) (.ref a) H Q := by
  rw [frl_strs f] at h
  exact rd_notin h rfl (flat_strs l) (inV_strs i l) q
theorem inS_ok {c z : Str} (h : inSF c z = some b) : ∃ k, c = ⟨#[k]⟩ ∧ b = decide (k ∈ z.cps.toList) := by
  unfold inSF at h
  split at h
  · rename_i k hk
    refine ⟨k, ?_, (som h).symm⟩
    obtain ⟨a⟩ := c
    congr 1
    apply Array.toList_inj.mp
    exact hk
  · cases h
theorem q_inT {c z : Str} (h : inSF c z = some b) (q : Q (.bl b) H) : rInT false (.str c) (.str z) H Q := by
  obtain ⟨k, rfl, rfl⟩ := inS_ok h
  exact ⟨k, z, rfl, rfl, q⟩
theorem q_niT {c z : Str} (h : inSF c z = some b) (q : Q (.bl (!b)) H) : rInT true (.str c) (.str z) H Q := by
  obtain ⟨k, rfl, rfl⟩ := inS_ok h
  exact ⟨k, z, rfl, rfl, q⟩
theorem q_truL {α : Type} {e : α → PyData} {l : List α} {R : Bool → Prop} (h : H a = some (.lst vs)) (f : FrL F0 G vs (l.map e)) (q : R (!l.isEmpty)) : ∃ k, TruV K (.ref a) H k ∧ R k := by
  refine rd_truL h ?_
  have e1 : vs.isEmpty = l.isEmpty := by
    have := f.len
    rw [List.length_map] at this
    cases l <;> cases vs <;> simp_all
  rw [e1]
  exact q
end
/-! ### texts -/
theorem q_catS {i j k : Str} (h : catS i j = some k) (q : Q (.str k) H) : zAddS (.str i) (.str j) H Q := by
  unfold catS at h
  obtain ⟨h1, h2⟩ := grd h
  cases som h2
  exact ⟨i, j, rfl, rfl, lim_le (of_decide_eq_true h1), q⟩
theorem q_ixS {z c : Str} {i : Int} (h : ixS z i = some c) (q : Q (.str c) H) : rIxS (.str z) (.int i) H Q := by
  unfold ixS at h
  obtain ⟨h1, h2⟩ := grd h
  obtain ⟨k, h3, h4⟩ := bnd h2
  cases som h4
  exact ⟨z, i, k, rfl, rfl, lim_le (of_decide_eq_true h1), h3, q⟩
theorem q_slS {z c : Str} {lo hi : Option Int} (h : sliceS z lo hi = some c) (q : Q (.str c) H) : rSlS (.str z) lo hi H Q := by
  unfold sliceS at h
  obtain ⟨h1, h2⟩ := grd h
  cases som h2
  exact ⟨z, rfl, lim_le (of_decide_eq_true h1), q⟩
theorem q_repS {z r : Str} {n : Int} (h : repSF z n = some r) (q : Q (.str r) H) : rRepS (.str z) (.int n) H Q := by
  unfold repSF at h
  obtain ⟨h1, h2⟩ := grd h
  rw [Bool.and_eq_true, Bool.and_eq_true, decide_eq_true_iff, decide_eq_true_iff, decide_eq_true_iff] at h1
  cases som h2
  refine ⟨z, n.toNat, rfl, ?_, by omega, h1.2, q⟩
  rw [show ((n.toNat : Nat) : Int) = n by omega]
theorem q_lenS {z : Str} {n : Int} (h : lenS z = some n) (q : Q (.int n) H) : zLenS [.str z] H Q := by
  unfold lenS at h
  obtain ⟨h1, h2⟩ := grd h
  cases som h2
  exact ⟨z, rfl, lim_le (of_decide_eq_true h1), q⟩
/-! ### calls -/
theorem q_max2 {i j : Int} (q : Q (.int (maxI i j)) H) : zMax2 [.int i, .int j] H Q := ⟨i, j, rfl, q⟩
theorem q_min2 {i j : Int} (q : Q (.int (minI i j)) H) : zMin2 [.int i, .int j] H Q := ⟨i, j, rfl, q⟩
theorem q_int1 {b : Bool} (q : Q (.int (b2I b)) H) : zInt1 [.bl b] H Q := Or.inr ⟨b, rfl, q⟩
def zRg (a b : Int) (H : Hp) (Q : VK) : Prop := RgOk a b ∧ ∀ q, H q = none → Q (.ref q) (upd H q (.lst (rgV a b)))
theorem rd_lstRgZ {tr : L2.St → Hp → (Int → Int → Hp → Prop) → Prop} (q : tr σ H fun a b H1 => zRg a b H1 Q) : tLstRg tr σ H Q := q
theorem rd_rg2 {ta tb : TE} {R : Int → Int → Hp → Prop} (q : ta σ H fun x H1 => tb σ H1 fun y H2 => ∃ i j, x = .int i ∧ y = .int j ∧ R i j H2) : tRg2 ta tb σ H R := q
theorem q_lrg {a b : Int} {l : List Int} (h : lrgF a b = some l) (q : zNew (l.map V.int) H Q) : zRg a b H Q := by
  unfold lrgF at h
  obtain ⟨h1, h2⟩ := grd h
  rw [Bool.and_eq_true, Bool.and_eq_true, Bool.and_eq_true, Bool.and_eq_true, decide_eq_true_iff, decide_eq_true_iff, decide_eq_true_iff, decide_eq_true_iff, decide_eq_true_iff] at h1
  cases som h2
  refine ⟨⟨h1.1.1.1.1, h1.1.1.1.2, h1.1.1.2, h1.1.2, Nat.le_trans h1.2 (by decide)⟩, ?_⟩
  have e : rgV a b = (rgI a b).map V.int := by
    unfold rgV rgI
    rw [List.map_map]
    rfl
  intro p hp
  rw [e]
  exact q p hp
theorem rng_ok {a b : Int} {l : List Int} (h : rngF a b = some l) : -(2 ^ 62) ≤ a ∧ a < 2 ^ 62 ∧ -(2 ^ 62) ≤ b ∧ b < 2 ^ 62 ∧ l = rgI a b := by
  unfold rngF at h
  obtain ⟨h1, h2⟩ := grd h
  rw [Bool.and_eq_true, Bool.and_eq_true, Bool.and_eq_true, decide_eq_true_iff, decide_eq_true_iff, decide_eq_true_iff, decide_eq_true_iff] at h1
  exact ⟨h1.1.1.1, h1.1.1.2, h1.1.2, h1.2, (som h2).symm⟩
def zRng1 (vs : List V) (H : Hp) (R : It → Hp → Prop) : Prop := ∃ j : Int, vs = [.int j] ∧ -(2 ^ 62) ≤ j ∧ j < 2 ^ 62 ∧ R (Itr 0 j.toNat) H
def zRng2 (vs : List V) (H : Hp) (R : It → Hp → Prop) : Prop := ∃ i j : Int, vs = [.int i, .int j] ∧ (-(2 ^ 62) ≤ i ∧ i < 2 ^ 62 ∧ -(2 ^ 62) ≤ j ∧ j < 2 ^ 62) ∧ R (Itr i (j - i).toNat) H
theorem rd_iR1 {ta : TA} {R : It → Hp → Prop} (q : ta σ H fun vs H1 => zRng1 vs H1 R) : iRng1 ta σ H R := q
theorem rd_iR2 {ta : TA} {R : It → Hp → Prop} (q : ta σ H fun vs H1 => zRng2 vs H1 R) : iRng2 ta σ H R := q
theorem rd_iStr {R : It → Hp → Prop} (q : te σ H fun v H1 => ∃ x, v = .str x ∧ R (Its x) H1) : iStr te σ H R := q
theorem rd_iZip {K : PySem.W.Frag} {ta : TA} {R : It → Hp → Prop} (q : ta σ H fun vs H1 => ∃ a b xs ys, vs = [.ref a, .ref b] ∧ SqL K H1 a xs ∧ SqL K H1 b ys ∧ R (Itz K a b) H1) : iZip K ta σ H R := q
theorem q_rng1 {a : Int} {l : List Int} {R : It → Hp → Prop} (h : rngF 0 a = some l) (q : R (Itr 0 a.toNat) H) : zRng1 [.int a] H R := by
  obtain ⟨_, _, h3, h4, _⟩ := rng_ok h
  exact ⟨a, rfl, h3, h4, q⟩
theorem q_rng2 {a b : Int} {l : List Int} {R : It → Hp → Prop} (h : rngF a b = some l) (q : R (Itr a (b - a).toNat) H) : zRng2 [.int a, .int b] H R := by
  obtain ⟨h1, h2, h3, h4, _⟩ := rng_ok h
  exact ⟨a, b, rfl, ⟨h1, h2, h3, h4⟩, q⟩
end
/-! ### walks -/
section
variable {F0 H0 G H H' : Hp} {a b T : Addr} {vs us : List V} {v w : V} {α β : Type} {e : α → PyData} {e2 : β → PyData} {l : List α} {m : List β} {K : PySem.W.Frag} {ms : List Addr} {cs : List (Addr × HO)}
theorem w_rng2 {lo hi : Int} {l : List Int} (h : rngF lo hi = some l) : Walk (Itr lo (hi - lo).toNat) l.length (fun _ => True) (fun i H v H' => H' = H ∧ ∀ a, l[i]? = some a → v = .int a) := by
  obtain ⟨_, _, _, _, rfl⟩ := rng_ok h
  refine (w_rng lo hi).mono (fun _ h => h) fun i H x H' _ _ y => ⟨y.1, fun a ha => ?_⟩
  rw [y.2, rgI_get ha]
theorem w_rng1 {hi : Int} {l : List Int} (h : rngF 0 hi = some l) : Walk (Itr 0 hi.toNat) l.length (fun _ => True) (fun i H v H' => H' = H ∧ ∀ a, l[i]? = some a → v = .int a) := by
  have := w_rng2 h
  rw [Int.sub_zero] at this
  exact this
theorem w_li (f : FrL F0 G vs (l.map e)) : Walk (Itl K a) l.length (fun H => H a = some (.lst vs)) (fun i H v H' => H' = H ∧ ∀ x, l[i]? = some x → Fr F0 G v (e x)) :=
  (w_list f).mono (fun _ h => h) fun i H x H' _ _ y => ⟨y.1, fun z hz => frl_at f hz y.2⟩
theorem w_en (f : FrL F0 G vs (l.map e)) : Walk (Ite K a) (enumI l).length (fun H => H a = some (.lst vs)) (fun i H v H' => ∃ T v1 v2, v = .ref T ∧ H T = none ∧ H' = upd H T (.tup [v1, v2]) ∧ ∀ p, (enumI l)[i]? = some p → Fr F0 G v1 (eI p.1) ∧ Fr F0 G v2 (e p.2)) := by
  rw [enumI_len]
  refine (w_enum f).mono (fun _ h => h) fun i H x H' _ _ y => ?_
  obtain ⟨T, v1, v2, h1, h2, h3, h4, h5⟩ := y
  refine ⟨T, v1, v2, h1, h2, h3, fun p hp => ?_⟩
  obtain ⟨k1, k2⟩ := enumI_get hp
  cases som h4
  rw [k1]
  exact ⟨.int _, frl_at f k2 h5⟩
theorem w_zip2 (f : FrL F0 G vs (l.map e)) (g : FrL F0 G us (m.map e2)) : Walk (Itz K a b) (zipL l m).length (fun H => H a = some (.lst vs) ∧ H b = some (.lst us))
    (fun i H v H' => ∃ T v1 v2, v = .ref T ∧ H T = none ∧ H' = upd H T (.tup [v1, v2]) ∧ ∀ p, (zipL l m)[i]? = some p → Fr F0 G v1 (e p.1) ∧ Fr F0 G v2 (e2 p.2)) := by
  have hn : (zipL l m).length = min vs.length us.length := by
    unfold zipL
    rw [List.length_zip, f.len, g.len, List.length_map, List.length_map]
  refine (walk_zip hn).mono (fun _ h => ⟨SqL.of h.1, SqL.of h.2⟩) fun i H x H' _ _ y => ?_
  obtain ⟨T, v1, v2, h1, h2, h3, h4, h5⟩ := y
  refine ⟨T, v1, v2, h1, h2, h3, fun p hp => ?_⟩
  unfold zipL at hp
  rw [List.getElem?_zip_eq_some] at hp
  exact ⟨frl_at f hp.1 h4, frl_at g hp.2 h5⟩
theorem chars_len (z : Str) : (chars z).length = z.cps.size := by
  unfold chars
  rw [List.length_map, Array.length_toList]
theorem w_ch (z : Str) : Walk (Its z) (chars z).length (fun _ => True) (fun i H v H' => H' = H ∧ ∀ a, (chars z)[i]? = some a → v = .str a) := by
  rw [chars_len]
  refine walk_str.mono (fun _ h => h) fun i H x H' _ _ y => ⟨y.1, fun a ha => ?_⟩
  obtain ⟨c, h1, h2⟩ := y.2
  unfold chars at ha
  rw [List.getElem?_map] at ha
  obtain ⟨d, h3, h4⟩ := Option.map_eq_some_iff.mp ha
  rw [h2, ← h4]
  rw [Array.getElem?_toList, h1] at h3
  cases h3
  rfl
theorem Sep.pair (S : Sep ms H0 G H cs) {d d2 : PyData} (hT : H T = none) (eH : H' = upd H T (.tup [v, w])) (f : Fr F0 G v d) (g : Fr F0 G w d2) : ∃ G', Sep ms H0 G' H' cs ∧ Same G G' ∧ Fr F0 G' (.ref T) (.tuple [d, d2]) := by
  subst eH
  have sm := sNew (o := .tup [v, w]) (S.gfree hT)
  exact ⟨_, S.sh hT, sm, .tup upd_same (.cons (f.same sm) (.cons (g.same sm) .nil))⟩
theorem Sep.fixF {F0 : Hp} {ds : List PyData} (S : Sep ms H0 G H cs) (i : Nat) (h : cs[i]? = some (a, .lst vs)) (hm : a ∉ ms) (f : FrL F0 G vs ds) (n : F0 a = none) : ∃ G', Sep ms H0 G' H (cs.eraseIdx i) ∧ Same G G' ∧ Fr F0 G' (.ref a) (.list ds) :=
  ⟨_, S.fix i h hm, sNew (S.gnone i h), .lst upd_same n (f.same (sNew (S.gnone i h)))⟩
theorem q_lcL {J : It} {Gd : Hp → Prop} {Y : Nat → Hp → V → Hp → Prop} {g : TG} {σ : L2.St} {f : α → Option (Option β)} {xs : List α} {ys : List β} {enc : β → PyData} {A : Addr} {Qd : Hp → Prop} {tt : TT} {te : TE} {vs : List Nat}
    (hf : compL f xs = some ys) (w : Walk J xs.length Gd Y) (S0 : Sep ms H0 G H cs) (hA : H A = none) (hF : ∀ b, H b = none → F0 b = none)
    (hg : ∀ G' H' acc, Sep ms H0 G' H' ((A, .lst acc) :: cs) → Same G G' → Gd H')
    (hs : ∀ i x a o G1 H1 H2 acc, xs[i]? = some a → f a = some o → Sep ms H0 G1 H1 ((A, .lst acc) :: cs) → Same G G1 → Y i H1 x H2 →
      ∀ (T : V → Hp → Prop) (F : Hp → Prop), (∀ y b G' H', o = some b → Sep ms H0 G' H' ((A, .lst acc) :: cs) → Same G1 G' → Fr F0 G' y (enc b) → T y H') → (∀ G' H', o = none → Sep ms H0 G' H' ((A, .lst acc) :: cs) → Same G1 G' → F H') →
      g x (wipe σ vs) H2 fun σ2 H2 => wipe σ2 vs = wipe σ vs ∧ tt σ2 H2 fun b H3 => if b = true then te σ2 H3 T else F H3)
    (hd : ∀ G' H' us, Sep ms H0 G' H' ((A, .lst us) :: cs) → Same G G' → FrL F0 G' us (ys.map enc) → H0 A = none → F0 A = none → Qd H') : LcG J g tt te vs σ H A Qd := by
  unfold compL at hf
  obtain ⟨h1, h2⟩ := grd hf
  exact q_lc h2 (of_decide_eq_true h1) w S0 hA hF hg hs hd
end
end LQ

/-! sorted, sets, join, sums. -/
namespace LQ
open PySem PySem.Spec PyProof.Rows L2 LX
def leS (x y : Str) : Bool := decide (x.cps.toList ≤ y.cps.toList)
def sortU (ks : List Str) : List Str := (dd ks).mergeSort leS
def sortS (ks : List Str) : List Str := ks.mergeSort leS
def sortUI (ks : List Int) : List Int := (dd ks).mergeSort
/-- what a set may be made of -/
def setSF {α : Type} (ks : List α) : Option (List α) := cond (decide (ks.length ≤ 4000)) (some ks) none
def countD {α : Type} [DecidableEq α] (ks : List α) : Int := ((dd ks).length : Int)
theorem str_ext {x y : Str} (h : x.cps.toList = y.cps.toList) : x = y := by
  obtain ⟨a⟩ := x
  obtain ⟨b⟩ := y
  congr 1
  exact Array.toList_inj.mp h
theorem leS_trans (a b c : Str) (h : leS a b = true) (k : leS b c = true) : leS a c = true := by
  unfold leS at *
  rw [decide_eq_true_iff] at *
  exact List.le_trans h k
theorem leS_total (a b : Str) : (leS a b || leS b a) = true := by
  unfold leS
  rw [Bool.or_eq_true, decide_eq_true_iff, decide_eq_true_iff]
  exact List.le_total _ _
theorem leS_anti {a b : Str} (h : leS a b = true) (k : leS b a = true) : a = b := by
  unfold leS at *
  rw [decide_eq_true_iff] at *
  exact str_ext (List.le_antisymm h k)
theorem rising_pw : ∀ (l : List Str) (p : Str), risingS p l = true → (p :: l).Pairwise fun a b => leS a b = true
  | [], p, _ => List.pairwise_singleton _ _
  | x :: l, p, h => by
    have h1 : (!ltCps x.cps.toList p.cps.toList && risingS x l) = true := h
    rw [Bool.and_eq_true, Bool.not_eq_true'] at h1
    have ih := rising_pw l x h1.2
    have px : leS p x = true := by
      unfold leS
      rw [decide_eq_true_iff]
      refine List.not_lt.mp fun z => ?_
      have := h1.1
      rw [ltCps_eq, decide_eq_false_iff_not] at this
      exact this z
    refine List.pairwise_cons.mpr ⟨fun y hy => ?_, ih⟩
    rcases List.mem_cons.mp hy with rfl | hy
    · exact px
    · exact leS_trans _ _ _ px ((List.pairwise_cons.mp ih).1 y hy)
theorem sorted_pw {l : List Str} (h : sortedS l = true) : l.Pairwise fun a b => leS a b = true := by
  cases l with
  | nil => exact .nil
  | cons x l => exact rising_pw l x h
theorem sortU_is {ks ys : List Str} (h1 : ys.Pairwise fun a b => leS a b = true) (h2 : ys.Nodup) (h3 : ∀ k, k ∈ ys ↔ k ∈ ks) : ys = sortU ks := by
  refine List.Perm.eq_of_pairwise (le := fun a b => leS a b = true) (fun a b _ _ x y => leS_anti x y) h1 (List.pairwise_mergeSort leS_trans leS_total _) ?_
  refine ((List.perm_ext_iff_of_nodup h2 (dd_nodup ks)).mpr fun k => ?_).trans (List.mergeSort_perm _ _).symm
  rw [h3, mem_dd]
theorem sortUI_is {ks ys : List Int} (h1 : ys.Pairwise (· < ·)) (h3 : ∀ k, k ∈ ys ↔ k ∈ ks) : ys = sortUI ks := by
  have p := List.pairwise_mergeSort (le := fun a b : Int => decide (a ≤ b)) (fun a b c h k => by rw [decide_eq_true_iff] at *; omega) (fun a b => by rw [Bool.or_eq_true, decide_eq_true_iff, decide_eq_true_iff]; omega) (dd ks)
  refine List.Perm.eq_of_pairwise (le := fun a b : Int => decide (a ≤ b) = true) (fun a b _ _ x y => by rw [decide_eq_true_iff] at *; omega) (h1.imp fun h => by rw [decide_eq_true_iff]; omega) p ?_
  refine ((List.perm_ext_iff_of_nodup (h1.imp fun h => by omega) (dd_nodup ks)).mpr fun k => ?_).trans (List.mergeSort_perm _ _).symm
  rw [h3, mem_dd]
theorem sortI_is {ks ys : List Int} (h1 : ys.Pairwise (· ≤ ·)) (h3 : ys.Perm ks) : ys = sortI ks := by
  have p := List.pairwise_mergeSort (le := fun a b : Int => decide (a ≤ b)) (fun a b c h k => by rw [decide_eq_true_iff] at *; omega) (fun a b => by rw [Bool.or_eq_true, decide_eq_true_iff, decide_eq_true_iff]; omega) ks
  exact List.Perm.eq_of_pairwise (le := fun a b : Int => decide (a ≤ b) = true) (fun a b _ _ x y => by rw [decide_eq_true_iff] at *; omega) (h1.imp fun h => by rw [decide_eq_true_iff]; omega) p (h3.trans (List.mergeSort_perm _ _).symm)
section
variable {ms : List Addr} {F0 H0 G G' H H' : Hp} {cs : List (Addr × HO)} {a b : Addr} {vs : List V} {K : PySem.W.Frag} {P : Program} {w : World} {Q : VK} {d : PyData}
theorem q_sortI {l : List Int} (h : H a = some (.lst vs)) (f : FrL F0 G vs (l.map eI)) (q : zNew ((sortI l).map V.int) H Q) : rSortedI K [.ref a] H Q := by
  rw [frl_ints f] at h
  refine ⟨a, l, rfl, SqL.of h, fun ns' p pm pw np => ?_⟩
  rw [sortI_is pw pm]
  exact q p np
theorem repr_ok {s : Str} (h : reprF d = some s) : d.showable = true ∧ d.hasDict = false ∧ d.depth ≤ 20 ∧ d.shown.length ≤ sizeLine ∧ d.shown = s := by
  unfold reprF at h
  obtain ⟨h1, h2⟩ := grd h
  rw [Bool.and_eq_true, Bool.and_eq_true, Bool.and_eq_true, Bool.not_eq_true', decide_eq_true_iff, decide_eq_true_iff] at h1
  exact ⟨h1.1.1.1, h1.1.1.2, h1.1.2, h1.2, som h2⟩
theorem q_repr {s : Str} (f : Fr F0 H (.ref a) d) (h : reprF d = some s) (q : Q (.str s) H) : qRepr K [.ref a] H Q := by
  obtain ⟨h1, h2, h3, h4, h5⟩ := repr_ok h
  exact ⟨_, d, rfl, ⟨a, rfl⟩, f.dp h2, h1, h2, h3, h4, by rw [h5]; exact q⟩
def zJoin (K : PySem.W.Frag) : V → List V → Hp → VK → Prop := fun x xs H Q => ∃ a p, ∃ ys : List Str, x = .str a ∧ xs = [.ref p] ∧ (SqL K H p (ys.map V.str) ∨ SqT K H p (ys.map V.str)) ∧
  (ys.map (·.length)).sum + ys.length * a.length ≤ 16777216 ∧ Q (.str (Txt.join a ys)) H
theorem kjoin {X : Cx} (h : X.K = K := by rfl) : MtR X "str.join" (zJoin K) := h ▸ mt_join
theorem q_join {z r : Str} {l : List Str} (h : H a = some (.lst vs)) (f : FrL F0 G vs (l.map eS)) (k : joinF z l = some r) (q : Q (.str r) H) : zJoin K (.str z) [.ref a] H Q := by
  rw [frl_strs f] at h
  unfold joinF at k
  obtain ⟨h1, h2⟩ := grd k
  cases som h2
  exact ⟨z, a, l, rfl, rfl, Or.inl (SqL.of h), of_decide_eq_true h1, q⟩
theorem q_sum {l : List Int} (h : H a = some (.lst vs)) (f : FrL F0 G vs (l.map eI)) (q : Q (.int l.sum) H) : rSum K [.ref a] H Q := by
  rw [frl_ints f] at h
  exact ⟨a, l, rfl, SqL.of h, q⟩
theorem q_all {l : List Bool} (h : H a = some (.lst vs)) (f : FrL F0 G vs (l.map eB)) (q : Q (.bl (l.all id)) H) : rAll K [.ref a] H Q := by
  rw [frl_bls f] at h
  exact ⟨a, l, rfl, SqL.of h, q⟩
theorem q_any {l : List Bool} (h : H a = some (.lst vs)) (f : FrL F0 G vs (l.map eB)) (q : Q (.bl (l.any id)) H) : rAny K [.ref a] H Q := by
  rw [frl_bls f] at h
  exact ⟨a, l, rfl, SqL.of h, q⟩
/-- a set of texts, of ints -/
structure SetS (P : Program) (w : World) (G : Hp) (a : Addr) (ks : List Str) : Prop where
  at_ : G a = some (TxtSet P w a (fun k => decide (k ∈ ks)) (dd ks).length)
structure SetI (P : Program) (w : World) (G : Hp) (a : Addr) (ks : List Int) : Prop where
  at_ : G a = some (IntSet P w a (fun k => decide (k ∈ ks)) (dd ks).length)
theorem SetS.same {ks : List Str} (h : SetS P w G a ks) (s : Same G G') : SetS P w G' a ks := ⟨s _ _ h.at_⟩
theorem SetI.same {ks : List Int} (h : SetI P w G a ks) (s : Same G G') : SetI P w G' a ks := ⟨s _ _ h.at_⟩
theorem setS_ok {α : Type} {l ks : List α} (h : setSF l = some ks) : l.length + 1 < 4096 ∧ ks = l := by
  unfold setSF at h
  obtain ⟨h1, h2⟩ := grd h
  have := of_decide_eq_true h1
  exact ⟨by omega, (som h2).symm⟩
theorem q_setS {l ks : List Str} (S : Sep ms H0 G H cs) (h : H a = some (.lst vs)) (f : FrL F0 G vs (l.map eS)) (k : setSF l = some ks) (q : ∀ p G' H', Sep ms H0 G' H' cs → Same G G' → SetS P w G' p ks → Q (.ref p) H') : rSetS K P w [.ref a] H Q := by
  rw [frl_strs f] at h
  obtain ⟨h1, rfl⟩ := setS_ok k
  exact ⟨ks, Or.inl ⟨a, rfl, SqL.of h⟩, h1, fun p hp => q p _ _ (S.sh hp) (sNew (S.gfree hp)) ⟨upd_same⟩⟩
theorem q_setT {z : Str} {ks : List Str} (S : Sep ms H0 G H cs) (k : setSF (chars z) = some ks) (q : ∀ p G' H', Sep ms H0 G' H' cs → Same G G' → SetS P w G' p ks → Q (.ref p) H') : rSetS K P w [.str z] H Q := by
  obtain ⟨h1, rfl⟩ := setS_ok k
  exact ⟨_, Or.inr ⟨z, rfl, rfl⟩, h1, fun p hp => q p _ _ (S.sh hp) (sNew (S.gfree hp)) ⟨upd_same⟩⟩
theorem q_setI {l ks : List Int} (S : Sep ms H0 G H cs) (h : H a = some (.lst vs)) (f : FrL F0 G vs (l.map eI)) (k : setSF l = some ks) (q : ∀ p G' H', Sep ms H0 G' H' cs → Same G G' → SetI P w G' p ks → Q (.ref p) H') : rSetI K P w [.ref a] H Q := by
  rw [frl_ints f] at h
  obtain ⟨h1, rfl⟩ := setS_ok k
  exact ⟨ks, a, rfl, SqL.of h, h1, fun p hp => q p _ _ (S.sh hp) (sNew (S.gfree hp)) ⟨upd_same⟩⟩
theorem q_lenSetS {ks : List Str} (S : Sep ms H0 G H cs) (f : SetS P w G a ks) (q : Q (.int (countD ks)) H) : rLenSet P w [.ref a] H Q := ⟨a, _, rfl, Or.inl ⟨_, S.sub _ _ f.at_⟩, q⟩
theorem q_lenSetI {ks : List Int} (S : Sep ms H0 G H cs) (f : SetI P w G a ks) (q : Q (.int (countD ks)) H) : rLenSet P w [.ref a] H Q := ⟨a, _, rfl, Or.inr ⟨_, S.sub _ _ f.at_⟩, q⟩
theorem q_sortU {ks : List Str} (S : Sep ms H0 G H cs) (f : SetS P w G a ks) (q : zNew ((sortU ks).map V.str) H Q) : rSortTxt P w [.ref a] H Q := by
  refine ⟨a, _, _, rfl, S.sub _ _ f.at_, fun p ys np h1 h2 h3 _ => ?_⟩
  rw [sortU_is (sorted_pw h1) h2 fun k => (h3 k).trans decide_eq_true_iff]
  exact q p np
theorem q_sortUI {ks : List Int} (S : Sep ms H0 G H cs) (f : SetI P w G a ks) (q : zNew ((sortUI ks).map V.int) H Q) : rSortInt P w [.ref a] H Q := by
  refine ⟨a, _, _, rfl, S.sub _ _ f.at_, fun p ys np h1 h2 _ => ?_⟩
  rw [sortUI_is h1 fun k => (h2 k).trans decide_eq_true_iff]
  exact q p np
/-- a set comprehension of texts -/
abbrev ScG (P : Program) (w : World) (J : It) (g : TG) (tt : TT) (te : TE) (vs : List Nat) (σ : L2.St) (H1 : Hp) (D : Addr) (Qd : Hp → Prop) : Prop := ∃ W : Nat → Nat → Hp → Prop, (∃ m, W 0 m (upd H1 D (TxtSet P w D (fun _ => false) 0))) ∧ ∀ j m G, W j m G →
  (J.stop j G ∧ Qd G) ∨ (J.go j G ∧ ∃ Z : Hp → Prop, (∀ G', Z G' → ∃ m', m' < m ∧ W (j + 1) m' G') ∧ ∀ x G', J.yld j G x G' → g x (wipe σ vs) G' fun τ G2 => wipe τ vs = wipe σ vs ∧ tt τ G2 fun b G3 =>
    if b = true then te τ G3 fun y G4 => ∃ (c : Str) (S : Str → Bool) (n : Nat), y = .str c ∧ G4 D = some (TxtSet P w D S n) ∧ n + 1 < scanBound ∧ Z (upd G4 D (TxtSet P w D (fun k => S k || decide (k = c)) (if S c = true then n else n + 1))) else Z G3)
theorem txt_tup {p : Addr} {S : Str → Bool} {n : Nat} : ∀ xs, TxtSet P w p S n ≠ .tup xs := fun _ z => by cases z
theorem set_snoc (D : Addr) (ks : List Str) (c : Str) : TxtSet P w D (fun k => decide (k ∈ ks) || decide (k = c)) (if decide (c ∈ ks) = true then (dd ks).length else (dd ks).length + 1) = TxtSet P w D (fun k => decide (k ∈ ks ++ [c])) (dd (ks ++ [c])).length := by
  congr 1
  · funext k
    rw [Bool.eq_iff_iff, Bool.or_eq_true, decide_eq_true_iff, decide_eq_true_iff, decide_eq_true_iff, List.mem_append, List.mem_singleton]
  · rw [dd_snoc]
    by_cases h : c ∈ ks
    · rw [if_pos (decide_eq_true h), if_pos (mem_dd.mpr h)]
    · rw [if_neg (by rw [decide_eq_false h]; decide), if_neg (fun z => h (mem_dd.mp z)), List.length_append]
      rfl
def ocons {β : Type} : Option β → List β → List β
  | none, zs => zs
  | some y, zs => y :: zs
theorem compF_drop {α β : Type} {f : α → Option (Option β)} {xs : List α} {i : Nat} {a : α} {ys : List β} (hi : xs[i]? = some a) (h : compF f (xs.drop i) = some ys) :
    ∃ o zs, f a = some o ∧ compF f (xs.drop (i + 1)) = some zs ∧ ys = ocons o zs := by
  rw [drop_of hi] at h
  obtain ⟨p, h1, h2⟩ := bnd h
  obtain ⟨q, h3, h4⟩ := bnd h2
  cases h4
  refine ⟨p, q, h1, h3, ?_⟩
  cases p <;> rfl
def compT {α : Type} (f : α → Option (Option Str)) (l : List α) : Option (List Str) := cond (decide (l.length ≤ 4000)) (compF f l) none
theorem compF_len {α β : Type} {f : α → Option (Option β)} {xs : List α} {ys : List β} (h : compF f xs = some ys) : ys.length ≤ xs.length := compS_len (compF_S h)
theorem q_scT {α : Type} {J : It} {Gd : Hp → Prop} {Y : Nat → Hp → V → Hp → Prop} {g : TG} {σ : L2.St} {f : α → Option (Option Str)} {xs : List α} {ys : List Str} {A : Addr} {Qd : Hp → Prop} {tt : TT} {te : TE} {vs : List Nat}
    (hf : compT f xs = some ys) (w0 : Walk J xs.length Gd Y) (S0 : Sep ms H0 G H cs) (hA : H A = none)
    (hg : ∀ G' H' o, Sep ms H0 G' H' ((A, o) :: cs) → Same G G' → Gd H')
    (hs : ∀ i x a o G1 H1 H2 u, xs[i]? = some a → f a = some o → Sep ms H0 G1 H1 ((A, u) :: cs) → Same G G1 → Y i H1 x H2 →
      ∀ (T : V → Hp → Prop) (F : Hp → Prop), (∀ b G' H', o = some b → Sep ms H0 G' H' ((A, u) :: cs) → Same G1 G' → T (.str b) H') → (∀ G' H', o = none → Sep ms H0 G' H' ((A, u) :: cs) → Same G1 G' → F H') →
      g x (wipe σ vs) H2 fun σ2 H2 => wipe σ2 vs = wipe σ vs ∧ tt σ2 H2 fun b H3 => if b = true then te σ2 H3 T else F H3)
    (hd : ∀ G' H', Sep ms H0 G' H' cs → Same G G' → SetS P w G' A ys → Qd H') : ScG P w J g tt te vs σ H A Qd := by
  unfold compT at hf
  obtain ⟨hz, hf⟩ := grd hf
  have hz := of_decide_eq_true hz
  have yl := compF_len hf
  refine ⟨fun i m H' => m = xs.length - i ∧ i ≤ xs.length ∧ ∃ zs ws G', compF f (xs.drop i) = some zs ∧ ys = ws ++ zs ∧ Sep ms H0 G' H' ((A, TxtSet P w A (fun k => decide (k ∈ ws)) (dd ws).length) :: cs) ∧ Same G G',
    ⟨_, rfl, Nat.zero_le _, ys, [], G, hf, rfl, ?_, Same.refl _⟩, ?_⟩
  · have e : TxtSet P w A (fun _ => false) 0 = TxtSet P w A (fun k => decide (k ∈ ([] : List Str))) (dd ([] : List Str)).length := by
      congr 1
    rw [← e]
    exact S0.own hA txt_tup
  rintro i m H1 ⟨rfl, hi, zs, ws, G1, hl, rfl, S1, s1⟩
  have q := hg G1 H1 _ S1 s1
  by_cases hlt : i < xs.length
  · obtain ⟨o, zs2, h1, h2, h3⟩ := compF_drop (List.getElem?_eq_getElem hlt) hl
    refine .inr ⟨w0.goes i H1 hlt q, fun H' => ∃ zs ws' G', compF f (xs.drop (i + 1)) = some zs ∧ ws ++ ocons o zs2 = ws' ++ zs ∧ Sep ms H0 G' H' ((A, TxtSet P w A (fun k => decide (k ∈ ws')) (dd ws').length) :: cs) ∧ Same G G', ?_, ?_⟩
    · rintro H' ⟨zs3, ws', G', k1, k2, k3, k4⟩
      exact ⟨xs.length - (i + 1), by omega, rfl, hlt, zs3, ws', G', k1, by rw [h3]; exact k2, k3, k4⟩
    · intro x H2 y
      refine hs i x _ o G1 H1 H2 _ (List.getElem?_eq_getElem hlt) h1 S1 s1 (w0.yields i H1 x H2 hlt q y) _ _ (fun b G' H' e S' sG => ?_) fun G' H' e S' sG => ?_
      · subst e
        have lw : ws.length ≤ xs.length := by
          rw [h3, List.length_append] at yl
          omega
        have ld := dd_le ws
        refine ⟨b, _, _, rfl, S'.get 0 rfl, by unfold scanBound; omega, zs2, ws ++ [b], G', h2, by rw [List.append_assoc]; rfl, ?_, s1.trans sG⟩
        rw [set_snoc]
        exact S'.put 0 rfl txt_tup
      · subst e
        exact ⟨zs2, ws, G', h2, rfl, S', s1.trans sG⟩
  · have e : i = xs.length := by omega
    subst e
    rw [List.drop_length] at hl
    cases hl
    rw [List.append_nil] at hd
    have S2 := S1.fix 0 rfl
    by_cases hm : A ∈ ms
    · exact absurd (S0.old A hA) (S0.hms A hm)
    · exact .inl ⟨w0.stops H1 q, hd _ H1 (S2 hm) (s1.trans (sNew (S1.gnone 0 rfl))) ⟨upd_same⟩⟩
theorem rd_scT' {wi : TI} {g : TG} {tt : TT} {te : TE} {vs : List Nat} {σ : L2.St} (q : wi σ H fun J G1 => ∀ D, G1 D = none → ScG P w J g tt te vs σ G1 D fun G => Q (.ref D) G) : tScT P w wi g tt te vs σ H Q := q
end
end LQ

/-! More of what is owned: starts, arguments, results that are owned. -/
namespace LQ
open PySem L2 LX
theorem rd_lst_dk {G : Hp} {a : Addr} {xs : List V} {kvs : List (Key × V)} (h : G a = some (.lst xs)) : ¬ Rd G a (.dK kvs) := by
  rintro (k | ⟨o, k⟩) <;> (rw [h] at k; cases k)
theorem rd_tup_dk {G : Hp} {a : Addr} {xs : List V} {kvs : List (Key × V)} (h : G a = some (.tup xs)) : ¬ Rd G a (.dK kvs) := by
  rintro (k | ⟨o, k⟩) <;> (rw [h] at k; cases k)
theorem rd_dk {G : Hp} {a : Addr} {kvs kvs' : List (Key × V)} (h : Rd G a (.dK kvs)) (k : Rd G a (.dK kvs')) : kvs = kvs' := by
  rcases h with h | ⟨o, h⟩ <;> rcases k with k | ⟨o', k⟩ <;> (rw [h] at k; cases k) <;> rfl
mutual
theorem Fr.fn {F0 F1 G : Hp} : ∀ {v : V} {d e : PyData}, Fr F0 G v d → Fr F1 G v e → d = e
  | _, _, _, .non, .non => rfl
  | _, _, _, .bl b, .bl _ => rfl
  | _, _, _, .int i, .int _ => rfl
  | _, _, _, .str x, .str _ => rfl
  | _, _, _, .lst h _ hs, .lst k _ ks => by
    rw [h] at k
    cases k
    rw [FrL.fn hs ks]
  | _, _, _, .lst h _ _, .tup k _ => by
    rw [h] at k
    cases k
  | _, _, _, .lst h _ _, .dic k _ _ => absurd k (rd_lst_dk h)
  | _, _, _, .tup h _, .lst k _ _ => by
    rw [h] at k
    cases k
  | _, _, _, .tup h hs, .tup k ks => by
    rw [h] at k
    cases k
    rw [FrL.fn hs ks]
  | _, _, _, .tup h _, .dic k _ _ => absurd k (rd_tup_dk h)
  | _, _, _, .dic h _ _, .lst k _ _ => absurd h (rd_lst_dk k)
  | _, _, _, .dic h _ _, .tup k _ => absurd h (rd_tup_dk k)
  | _, _, _, .dic h _ hs, .dic k _ ks => by
    cases rd_dk h k
    rw [FrK.fn hs ks]
theorem FrL.fn {F0 F1 G : Hp} : ∀ {vs : List V} {d e : List PyData}, FrL F0 G vs d → FrL F1 G vs e → d = e
  | _, _, _, .nil, .nil => rfl
  | _, _, _, .cons h hs, .cons k ks => by rw [Fr.fn h k, FrL.fn hs ks]
theorem FrK.fn {F0 F1 G : Hp} : ∀ {vs : List (Key × V)} {d e : List (PyData × PyData)}, FrK F0 G vs d → FrK F1 G vs e → d = e
  | _, _, _, .nil, .nil => rfl
  | _, _, _, .cons h hs, .cons k ks => by rw [Fr.fn h k, FrK.fn hs ks]
end
mutual
theorem Fr.off {F0 F1 G : Hp} {a : Addr} {D : PyData} (A : Fr F1 G (.ref a) D) : ∀ {v : V} {d : PyData}, Fr F0 G v d → sizeOf d < sizeOf D → Fr F0 (hid G [a]) v d
  | _, _, .non, _ => .non
  | _, _, .bl b, _ => .bl b
  | _, _, .int i, _ => .int i
  | _, _, .str x, _ => .str x
  | _, _, .lst (a := b) (ds := ds) h n hs, z => by
    have ne : b ∉ [a] := fun q => by
      rw [List.mem_singleton.mp q] at h
      have : Fr F1 G (.ref a) D := A
      have e := Fr.fn (F0 := F1) (F1 := E0h) A (.lst h rfl hs.rp)
      rw [e] at z
      omega
    exact .lst (by rw [hid_out ne]; exact h) n (FrL.off A hs (by simp at z; omega))
  | _, _, .tup (a := b) (ds := ds) h hs, z => by
    have ne : b ∉ [a] := fun q => by
      rw [List.mem_singleton.mp q] at h
      have e := Fr.fn (F0 := F1) (F1 := E0h) A (.tup h hs.rp)
      rw [e] at z
      omega
    exact .tup (by rw [hid_out ne]; exact h) (FrL.off A hs (by simp at z; omega))
  | _, _, .dic (a := b) (ds := ds) h n hs, z => by
    have ne : b ∉ [a] := fun q => by
      rw [List.mem_singleton.mp q] at h
      have e := Fr.fn (F0 := F1) (F1 := F0) A (.dic h (List.mem_singleton.mp q ▸ n) hs)
      rw [e] at z
      omega
    exact .dic (by unfold Rd; rw [hid_out ne]; exact h) n (FrK.off A hs (by simp at z; omega))
theorem FrL.off {F0 F1 G : Hp} {a : Addr} {D : PyData} (A : Fr F1 G (.ref a) D) : ∀ {v : List V} {d : List PyData}, FrL F0 G v d → sizeOf d < sizeOf D → FrL F0 (hid G [a]) v d
  | _, _, .nil, _ => .nil
  | _, _, .cons h hs, z => .cons (Fr.off A h (by simp at z; omega)) (FrL.off A hs (by simp at z; omega))
theorem FrK.off {F0 F1 G : Hp} {a : Addr} {D : PyData} (A : Fr F1 G (.ref a) D) : ∀ {v : List (Key × V)} {d : List (PyData × PyData)}, FrK F0 G v d → sizeOf d < sizeOf D → FrK F0 (hid G [a]) v d
  | _, _, .nil, _ => .nil
  | _, _, .cons h hs, z => .cons (Fr.off A h (by simp at z; omega)) (FrK.off A hs (by simp at z; omega))
end
section
variable {ms : List Addr} {H0 F0 G G1 H H' : Hp} {cs : List (Addr × HO)} {p q a : Addr} {o o' : HO} {vs us : List V} {ds : List PyData}
theorem Sep.start1 (h : H p = some (.lst us)) : Sep [p] H (hid H [p]) H [(p, .lst us)] :=
  Sep.startM H [(p, .lst us)] (fun c hc => by
    rw [List.mem_singleton.mp hc]
    exact ⟨h, lst_tup⟩) (List.nodup_cons.mpr ⟨List.not_mem_nil, List.nodup_nil⟩)
theorem Sep.start2 (h : H p = some (.lst us)) (k : H q = some (.lst vs)) (n : p ≠ q) : Sep [p, q] H (hid H [p, q]) H [(p, .lst us), (q, .lst vs)] :=
  Sep.startM H [(p, .lst us), (q, .lst vs)] (fun c hc => by
    rcases List.mem_cons.mp hc with z | z
    · rw [z]
      exact ⟨h, lst_tup⟩
    · rw [List.mem_singleton.mp z]
      exact ⟨k, lst_tup⟩) (List.nodup_cons.mpr ⟨fun z => n (List.mem_singleton.mp z), List.nodup_cons.mpr ⟨List.not_mem_nil, List.nodup_nil⟩⟩)
theorem Sep.hid1 (S : Sep ms H0 G H cs) (i : Nat) (h : cs[i]? = some (p, o)) : Same G (hid H [p]) := S.hidS fun b hb => by
  rw [List.mem_singleton.mp hb]
  exact S.gnone i h
theorem Sep.rdh (S : Sep ms H0 G H cs) (j : Nat) (hj : cs[j]? = some (q, .lst vs)) (i : Nat) (hi : cs[i]? = some (p, o)) (n : j ≠ i) (f : FrL F0 G vs ds) : Fr E0h (hid H [p]) (.ref q) (.list ds) :=
  .lst (by rw [hid_out fun z => S.ne hj hi n (List.mem_singleton.mp z)]; exact S.get j hj) rfl ((f.rp).same (S.hid1 i hi))
theorem Sep.ret0O (S : Sep ms H0 G H cs) (R : Ret [] H G1 H') (f : Fr H G1 (.ref a) (.list ds)) : ∃ G' vs, Sep ms H0 G' H' ((a, .lst vs) :: cs) ∧ Same G G' ∧ H0 a = none ∧ FrL H0 G' vs ds := by
  obtain ⟨G2, S2, s2, t2, _⟩ := S.ret0 R
  have f2 := t2 _ _ f
  obtain ⟨vs, h1, h2⟩ := li f2
  have n0 := li0 f2
  have ga : G a = none := S.gfree (li0 f)
  have out : ∀ b, b ≠ a → hid G2 [a] b = G2 b := fun b hb => hid_out fun z => hb (List.mem_singleton.mp z)
  refine ⟨hid G2 [a], vs, ⟨fun b o e => S2.sub b o (hid_some e).2, fun c hc => ?_, List.nodup_cons.mpr ⟨fun z => ?_, S2.nd⟩, fun p hp => List.mem_cons_of_mem _ (S2.msc p hp), S2.hms, S2.old, fun b o e n => ?_, fun b xs e => ?_⟩, fun b o e => ?_, n0, FrL.off f2 h2 (by simp)⟩
  · rcases List.mem_cons.mp hc with z | z
    · rw [z]
      exact ⟨S2.sub _ _ h1, hid_in (List.mem_singleton.mpr rfl), lst_tup⟩
    · obtain ⟨k1, k2, k3⟩ := S2.cel c z
      refine ⟨k1, ?_, k3⟩
      by_cases e : c.1 = a
      · exact hid_in (List.mem_singleton.mpr e)
      · rw [out _ e]
        exact k2
  · obtain ⟨c, hc, e⟩ := List.mem_map.mp z
    have := (S2.cel c hc).2.1
    rw [e, h1] at this
    cases this
  · rw [out b fun z => by rw [z, n0] at e; cases e]
    exact S2.base b o e n
  · have g := S2.tups b xs e
    rw [out b fun z => by rw [z, h1] at g; cases g]
    exact g
  · rw [out b fun z => by rw [z, ga] at e; cases e]
    exact s2 b o e
end
end LQ

/-! The script; sorted rows; counts; things looked for in lists; dicts that are read. -/
namespace LQ
open PySem PySem.Spec PyProof.Rows L2 LX
section
variable {ms : List Addr} {F0 H0 G G' H H' : Hp} {cs : List (Addr × HO)} {a b : Addr} {vs us : List V} {K : PySem.W.Frag} {P : Program} {w : World} {Q : VK} {d : PyData} {v x y : V} {α β : Type} {e : α → PyData}
/-! ### the script -/
theorem q_slScr {lo hi : Option Int} {ns : List Int} (S : Sep ms H0 G H cs) (f : Scr K G a ns) (q : ∀ p G' H', Sep ms H0 G' H' cs → Same G G' → Fr H0 G' (.ref p) (eL eI (cutL ns lo hi)) → Q (.ref p) H') : rSlL K (.ref a) lo hi H Q := by
  refine ⟨a, _, rfl, (f.same S.sub).seq, ?_⟩
  rw [cutL_map]
  exact q_new S (ints_frl _) S.old q
theorem q_slScrO {lo hi : Option Int} {ns : List Int} (S : Sep ms H0 G H cs) (f : Scr K G a ns) (q : ∀ p us H', Sep ms H0 G H' ((p, .lst us) :: cs) → H0 p = none → FrL H0 G us ((cutL ns lo hi).map eI) → Q (.ref p) H') : rSlL K (.ref a) lo hi H Q := by
  refine ⟨a, _, rfl, (f.same S.sub).seq, ?_⟩
  rw [cutL_map]
  exact q_newO S fun p H' S' n => q p _ H' S' n (ints_frl _)
theorem q_lenScr {ns : List Int} (S : Sep ms H0 G H cs) (f : Scr K G a ns) (q : Q (.int (lenI ns)) H) : qLen K [.ref a] H Q :=
  ⟨a, _, rfl, Or.inl (f.same S.sub).seq, by rw [List.length_map]; exact q⟩
theorem q_catScr {ns ms' r : List Int} (S : Sep ms H0 G H cs) (f : Scr K G a ns) (hb : H b = some (.lst us)) (f2 : FrL F0 G us (ms'.map eI)) (h : catF ns ms' = some r) (q : ∀ p G' H', Sep ms H0 G' H' cs → Same G G' → Fr H0 G' (.ref p) (eL eI r) → Q (.ref p) H') : rCatL K (.ref a) (.ref b) H Q := by
  obtain ⟨h1, rfl⟩ := cat_ok h
  refine ⟨a, b, _, us, rfl, rfl, (f.same S.sub).seq, SqL.of hb, lim_le (by rw [List.length_map, f2.len, List.length_map]; exact h1), ?_⟩
  rw [frl_ints f2, ← List.map_append]
  exact q_new S (ints_frl _) S.old q
theorem q_catL {ns ms' r : List Int} {F1 : Hp} (S : Sep ms H0 G H cs) (ha : H a = some (.lst vs)) (f : FrL F1 G vs (ns.map eI)) (hb : H b = some (.lst us)) (f2 : FrL F0 G us (ms'.map eI)) (h : catF ns ms' = some r) (q : ∀ p G' H', Sep ms H0 G' H' cs → Same G G' → Fr H0 G' (.ref p) (eL eI r) → Q (.ref p) H') : rCatL K (.ref a) (.ref b) H Q := by
  obtain ⟨h1, rfl⟩ := cat_ok h
  refine ⟨a, b, vs, us, rfl, rfl, SqL.of ha, SqL.of hb, lim_le (by rw [f.len, f2.len, List.length_map, List.length_map]; exact h1), ?_⟩
  rw [frl_ints f, frl_ints f2, ← List.map_append]
  exact q_new S (ints_frl _) S.old q
theorem q_ixScr {ns : List Int} {i x : Int} (S : Sep ms H0 G H cs) (f : Scr K G a ns) (h : ix ns i = some x) (q : Q (.int x) H) : rIxL K (.ref a) (.int i) H Q := by
  refine ⟨a, _, i, _, rfl, rfl, (f.same S.sub).seq, ?_, q⟩
  unfold ix atI at h
  obtain ⟨j, h1, h2⟩ := Option.bind_eq_some_iff.mp h
  unfold atI
  rw [List.length_map, h1]
  show (ns.map V.int)[j]? = _
  rw [List.getElem?_map, h2]
  rfl
theorem q_eqScr {ns : List Int} {m : List Int} {c : Bool} (S : Sep ms H0 G H cs) (f : Scr K G a ns) (g : Fr F0 H y (eL eI m)) (h : eqvF (eL eI ns) (eL eI m) = some c) (q : Q (.bl c) H) : rEqD K (.ref a) y H Q := by
  obtain ⟨h1, h2, h3, h4, h5⟩ := eqv_ok h
  exact ⟨_, _, .lst (f.same S.sub).seq (dp_ints ns), g.dp h4, h1, h2, by rw [h5]; exact q⟩
theorem w_scr {ns : List Int} (f : Scr K G a ns) : Walk (Itl K a) ns.length (fun H => SqL K H a (ns.map V.int)) (fun i H v H' => H' = H ∧ ∀ x, ns[i]? = some x → v = .int x) := by
  have h : ns.length = (ns.map V.int).length := by rw [List.length_map]
  rw [h]
  refine walk_list.mono (fun _ h => h) fun i H x H' _ _ y => ⟨y.1, fun z hz => ?_⟩
  have := y.2
  rw [List.getElem?_map, hz] at this
  exact (Option.some.inj this).symm
/-! ### sorted rows -/
abbrev encIS (e : Int × Str) : List PyData := [.int e.1, .str e.2]
theorem srtIS : Srt1 encIS where
  alike := fun x y => by simp [PySem.W.alike, PySem.W.alikeAll]
  first := fun x => ⟨_, _, rfl⟩
  flat := fun x => by simp [PyData.depth, PyData.depthAll]
def leIS (x y : Int × Str) : Bool := leD encIS x y
theorem leIS_is (x y : Int × Str) : leIS x y = if y.1 = x.1 then (if y.2 = x.2 then true else !decide (y.2.cps.toList < x.2.cps.toList)) else !decide (y.1 < x.1) := by
  show (!PySem.W.dataLt (.tuple (encIS y)) (.tuple (encIS x))) = _
  rw [PySem.W.dataLt_pair (by simp [PySem.W.alike]) (by simp [PySem.W.alike]), PySem.W.dataLt_int, PySem.W.dataLt_str]
  simp only [PyData.eqv, beq_iff_eq]
  by_cases h : y.1 = x.1
  · rw [if_pos h, if_pos h]
    by_cases k : y.2 = x.2
    · rw [if_pos k, if_pos k]
      rfl
    · rw [if_neg k, if_neg k]
  · rw [if_neg h, if_neg h]
theorem leIS_anti {x y : Int × Str} (h : leIS x y = true) (k : leIS y x = true) : x = y := by
  rw [leIS_is] at h k
  by_cases c : x.1 = y.1
  · rw [if_pos c.symm] at h
    rw [if_pos c] at k
    by_cases c2 : x.2 = y.2
    · exact Prod.ext c c2
    · rw [if_neg (fun z => c2 z.symm), Bool.not_eq_true', decide_eq_false_iff_not] at h
      rw [if_neg c2, Bool.not_eq_true', decide_eq_false_iff_not] at k
      exact absurd (str_ext (List.le_antisymm (List.not_lt.mp h) (List.not_lt.mp k))) c2
  · rw [if_neg (fun z => c z.symm), Bool.not_eq_true', decide_eq_false_iff_not] at h
    rw [if_neg c, Bool.not_eq_true', decide_eq_false_iff_not] at k
    omega
def sortR (l : List (Int × Str)) : List (Int × Str) := l.mergeSort leIS
def sortRF (l : List (Int × Str)) : Option (List (Int × Str)) := cond (decide (l.length ≤ 900)) (some (sortR l)) none
theorem sortR_pw (l : List (Int × Str)) : (sortR l).Pairwise fun x y => leIS x y = true := by
  have := PySem.W.sort_pairwise (PySem.W.sortLe_total (PyProof.Rows.listOrd PyProof.Rows.itemOrd) false fun b : Int × Str => PySem.W.keyToks (PyData.tuple (encIS b))) l
  exact this
theorem sortR_is {l ys : List (Int × Str)} (p : ys.Perm l) (h : ys.Pairwise fun x y => leIS x y = true) : ys = sortR l :=
  List.Perm.eq_of_pairwise (fun a b _ _ x y => leIS_anti x y) h (sortR_pw l) (p.trans (List.mergeSort_perm _ _).symm)
theorem frl_ts {l : List (Int × Str)} (f : FrL F0 G vs (l.map (eT2 eI eS))) : ∃ ts : List Addr, vs = ts.map V.ref ∧ TsAt (fun e : Int × Str => [.int e.1, .str e.2]) G ts l := by
  induction l generalizing vs with
  | nil =>
    cases f
    exact ⟨[], rfl, True.intro⟩
  | cons x l ih =>
    cases f with
    | cons f1 hs =>
      obtain ⟨ts, rfl, h⟩ := ih hs
      obtain ⟨t, rfl⟩ := fr_tup f1
      obtain ⟨v1, v2, h1, g1, g2⟩ := tu2 f1
      cases fr_int g1
      cases fr_str g2
      exact ⟨t :: ts, rfl, h1, h⟩
theorem ts_frl : ∀ {ts : List Addr} {l : List (Int × Str)}, TsAt (fun e : Int × Str => [.int e.1, .str e.2]) G ts l → FrL F0 G (ts.map V.ref) (l.map (eT2 eI eS))
  | [], [], _ => .nil
  | _ :: ts, _ :: l, h => .cons (.tup h.1 (.cons (.int _) (.cons (.str _) .nil))) (ts_frl (ts := ts) (l := l) h.2)
  | [], _ :: _, h => h.elim
  | _ :: _, [], h => h.elim
theorem ts_sub {m : α → List V} : ∀ {ts : List Addr} {l : List α}, TsAt m G ts l → Same G G' → TsAt m G' ts l
  | [], [], _, _ => True.intro
  | _ :: ts, _ :: l, h, s => ⟨s _ _ h.1, ts_sub (ts := ts) (l := l) h.2 s⟩
  | [], _ :: _, h, _ => h.elim
  | _ :: _, [], h, _ => h.elim
theorem ts_back {m : α → List V} (S : Sep ms H0 G H cs) : ∀ {us : List Addr} {ys : List α}, TsAt m H us ys → TsAt m G us ys
  | [], [], _ => True.intro
  | u :: us, _ :: ys, h => ⟨S.tups _ _ h.1, ts_back S (us := us) (ys := ys) h.2⟩
  | [], _ :: _, h => h.elim
  | _ :: _, [], h => h.elim
theorem q_sortR {l r : List (Int × Str)} (S : Sep ms H0 G H cs) (h : H a = some (.lst vs)) (f : FrL F0 G vs (l.map (eT2 eI eS))) (k : sortRF l = some r) (q : ∀ p G' H', Sep ms H0 G' H' cs → Same G G' → Fr H0 G' (.ref p) (eL (eT2 eI eS) r) → Q (.ref p) H') :
    rSortT (fun e : Int × Str => [.int e.1, .str e.2]) encIS K [.ref a] H Q := by
  unfold sortRF at k
  obtain ⟨k1, k2⟩ := grd k
  have k1 := of_decide_eq_true k1
  cases som k2
  obtain ⟨ts, rfl, ht⟩ := frl_ts f
  refine ⟨a, ts, l, rfl, SqL.of h, ts_sub ht S.sub, fun e => .cons (.int _) (.cons (.str _) .nil), by omega, fun p us ys hp pm pw hU => ?_⟩
  have e := sortR_is pm pw
  subst e
  exact q p _ _ (S.sh hp) (sNew (S.gfree hp)) (.lst upd_same (S.old p hp) (ts_frl (ts_sub (ts_back S hU) (sNew (S.gfree hp)))))
end
end LQ

/-! Dicts by what they hold. -/
namespace LQ
open PySem PySem.Spec PyProof.Rows L2 LX
abbrev kI (i : Int) : Key := .inl i
abbrev kS (s : Str) : Key := .inr s
theorem kI_inj (a b : Int) (h : kI a = kI b) : a = b := Sum.inl.inj h
theorem kS_inj (a b : Str) (h : kS a = kS b) : a = b := Sum.inr.inj h
section
variable {κ α : Type} [DecidableEq κ]
def dget (l : List (κ × α)) (k : κ) : Option α := (l.find? fun p => decide (p.1 = k)).map (·.2)
def dput (l : List (κ × α)) (k : κ) (x : α) : List (κ × α) := if (l.any fun p => decide (p.1 = k)) = true then l.map (fun p => if p.1 = k then (p.1, x) else p) else l ++ [(k, x)]
def dputF (l : List (κ × α)) (k : κ) (x : α) : Option (List (κ × α)) := cond (decide (l.length < LIM)) (some (dput l k x)) none
def dhas (l : List (κ × α)) (k : κ) : Bool := (dget l k).isSome
/-- later pairs win -/
def dmerge (l m : List (κ × α)) : List (κ × α) := m.foldl (fun acc p => dput acc p.1 p.2) l
def dkeys (l : List (κ × α)) : List κ := l.map (·.1)
end
@[reducible] def eD {κ α : Type} (kk : κ → Key) (e : α → PyData) (l : List (κ × α)) : PyData := .dict (l.map fun p => (dKey (kk p.1), e p.2))
section
variable {κ α : Type} [DecidableEq κ] {kk : κ → Key} {e : α → PyData} {F0 H0 G G' H H' : Hp} {kvs : List (Key × V)} {l : List (κ × α)} {k : κ} {x : α} {v y : V} {a b : Addr} {ms : List Addr} {cs : List (Addr × HO)} {Q : VK} {K : PySem.W.Frag}
theorem dkey_inj {k k' : Key} (h : dKey k = dKey k') : k = k' := by
  cases k <;> cases k' <;> simp [dKey] at h <;> rw [h]
theorem di {ds : List (PyData × PyData)} (f : Fr F0 G (.ref a) (.dict ds)) : ∃ kvs, Rd G a (.dK kvs) ∧ FrK F0 G kvs ds := by
  cases f with
  | dic h _ hs => exact ⟨_, h, hs⟩
theorem di0 {ds : List (PyData × PyData)} (f : Fr F0 G (.ref a) (.dict ds)) : F0 a = none := by
  cases f with
  | dic _ n _ => exact n
theorem frk_cons {p : κ × α} (f : FrK F0 G kvs ((p :: l).map fun p => (dKey (kk p.1), e p.2))) : ∃ v r, kvs = (kk p.1, v) :: r ∧ Fr F0 G v (e p.2) ∧ FrK F0 G r (l.map fun p => (dKey (kk p.1), e p.2)) := by
  rw [List.map_cons] at f
  generalize hd : (dKey (kk p.1), e p.2) = d at f
  cases f with
  | cons f1 hs =>
    injection hd with h1 h2
    rw [dkey_inj h1]
    exact ⟨_, _, rfl, h2 ▸ f1, hs⟩
theorem frk_len : ∀ {l : List (κ × α)} {kvs : List (Key × V)}, FrK F0 G kvs (l.map fun p => (dKey (kk p.1), e p.2)) → kvs.length = l.length
  | [], _, .nil => rfl
  | p :: l, _, f => by
    obtain ⟨v, r, rfl, _, hs⟩ := frk_cons f
    exact congrArg (· + 1) (frk_len hs)
theorem frk_keys : ∀ {l : List (κ × α)} {kvs : List (Key × V)}, FrK F0 G kvs (l.map fun p => (dKey (kk p.1), e p.2)) → kvs.map (·.1) = l.map fun p => kk p.1
  | [], _, .nil => rfl
  | p :: l, _, f => by
    obtain ⟨v, r, rfl, _, hs⟩ := frk_cons f
    rw [List.map_cons, List.map_cons, frk_keys hs]
theorem frk_get (hk : ∀ a b, kk a = kk b → a = b) : ∀ {l : List (κ × α)} {kvs : List (Key × V)}, FrK F0 G kvs (l.map fun p => (dKey (kk p.1), e p.2)) → (∃ x v, dget l k = some x ∧ valV kvs (kk k) = some v ∧ Fr F0 G v (e x)) ∨ (dget l k = none ∧ valV kvs (kk k) = none)
  | [], _, .nil => Or.inr ⟨rfl, rfl⟩
  | p :: l, _, f => by
    obtain ⟨v, r, rfl, f1, hs⟩ := frk_cons f
    by_cases c : p.1 = k
    · refine Or.inl ⟨p.2, v, ?_, valV_pos (congrArg kk c), f1⟩
      unfold dget
      rw [List.find?_cons_of_pos (by simpa using c)]
      rfl
    · have h1 : dget (p :: l) k = dget l k := by
        unfold dget
        rw [List.find?_cons_of_neg (by simpa using c)]
      have h2 : valV ((kk p.1, v) :: r) (kk k) = valV r (kk k) := valV_neg fun z => c (hk _ _ z)
      rw [h1, h2]
      exact frk_get hk hs
theorem frk_any (hk : ∀ a b, kk a = kk b → a = b) : ∀ {l : List (κ × α)} {kvs : List (Key × V)}, FrK F0 G kvs (l.map fun p => (dKey (kk p.1), e p.2)) → (kvs.any fun kv => decide (kv.1 = kk k)) = l.any fun p => decide (p.1 = k)
  | [], _, .nil => rfl
  | p :: l, _, f => by
    obtain ⟨v, r, rfl, f1, hs⟩ := frk_cons f
    rw [List.any_cons, List.any_cons, frk_any hk hs]
    congr 1
    by_cases c : p.1 = k
    · rw [decide_eq_true (congrArg kk c), decide_eq_true c]
    · rw [decide_eq_false fun z => c (hk _ _ z), decide_eq_false c]
theorem frk_app : ∀ {l m : List (κ × α)} {kvs lvs : List (Key × V)}, FrK F0 G kvs (l.map fun p => (dKey (kk p.1), e p.2)) → FrK F0 G lvs (m.map fun p => (dKey (kk p.1), e p.2)) → FrK F0 G (kvs ++ lvs) ((l ++ m).map fun p => (dKey (kk p.1), e p.2))
  | [], _, _, _, .nil, g => g
  | p :: l, m, _, _, f, g => by
    obtain ⟨v, r, rfl, f1, hs⟩ := frk_cons f
    exact .cons f1 (frk_app hs g)
theorem frk_put (hk : ∀ a b, kk a = kk b → a = b) (f : FrK F0 G kvs (l.map fun p => (dKey (kk p.1), e p.2))) (g : Fr F0 G v (e x)) : FrK F0 G (putK kvs (kk k) v) ((dput l k x).map fun p => (dKey (kk p.1), e p.2)) := by
  unfold L2.putK dput
  rw [frk_any hk f]
  split
  · rename_i hany
    clear hany
    induction l generalizing kvs with
    | nil =>
      cases f
      exact .nil
    | cons p l ih =>
      obtain ⟨w, r, rfl, f1, hs⟩ := frk_cons f
      rw [List.map_cons, List.map_cons, List.map_cons]
      by_cases c : p.1 = k
      · rw [if_pos c, if_pos (show ((kk p.1, w) : Key × V).1 = kk k from congrArg kk c)]
        exact .cons g (ih hs)
      · rw [if_neg c, if_neg (fun z => c (hk _ _ z))]
        exact .cons f1 (ih hs)
  · exact frk_app f (.cons g .nil)
theorem frk_merge (hk : ∀ a b, kk a = kk b → a = b) : ∀ {m l : List (κ × α)} {lvs kvs : List (Key × V)}, FrK F0 G kvs (l.map fun p => (dKey (kk p.1), e p.2)) → FrK F0 G lvs (m.map fun p => (dKey (kk p.1), e p.2)) → FrK F0 G (mergeK kvs lvs) ((dmerge l m).map fun p => (dKey (kk p.1), e p.2))
  | [], _, _, _, f, .nil => f
  | p :: m, l, _, kvs, f, g => by
    obtain ⟨v, r, rfl, f1, hs⟩ := frk_cons g
    have h := frk_merge (m := m) (l := dput l p.1 p.2) (kvs := L2.putK kvs (kk p.1) v) hk (frk_put (k := p.1) (x := p.2) hk f f1) hs
    exact h
theorem FrK.same {vs : List (Key × V)} {ds : List (PyData × PyData)} (h : FrK H0 H vs ds) (s : Same H H') : FrK H0 H' vs ds := h.move (fun _ _ e n => ⟨s _ _ e, n⟩) (fun _ _ e => s _ _ e) fun _ _ e n => ⟨rd_same e s, n⟩
theorem FrK.rp {vs : List (Key × V)} {ds : List (PyData × PyData)} (h : FrK H0 H vs ds) : FrK E0h H vs ds := h.move (fun _ _ e _ => ⟨e, rfl⟩) (fun _ _ e => e) fun _ _ e _ => ⟨e, rfl⟩
/-! readings -/
def zDGet (x y : V) (H : Hp) (Q : VK) : Prop := ∃ a v, x = .ref a ∧ DGet H a y (some v) ∧ Q v H
theorem rd_dget {td ty : TE} {σ : L2.St} (q : td σ H fun x H1 => ty σ H1 fun y H2 => zDGet x y H2 Q) : tDGet td ty σ H Q := q
def zDIn (y x : V) (H : Hp) (Q : VK) : Prop := ∃ a o, x = .ref a ∧ DGet H a y o ∧ Q (.bl o.isSome) H
def zDNotIn (y x : V) (H : Hp) (Q : VK) : Prop := ∃ a o, x = .ref a ∧ DGet H a y o ∧ Q (.bl (!o.isSome)) H
theorem rd_dinZ {td ty : TE} {σ : L2.St} (q : ty σ H fun y H1 => td σ H1 fun x H2 => zDIn y x H2 Q) : tDIn ty td σ H Q := q
theorem rd_dniZ {td ty : TE} {σ : L2.St} (q : ty σ H fun y H1 => td σ H1 fun x H2 => zDNotIn y x H2 Q) : tDNotIn ty td σ H Q := q
def zDPut (v x y : V) (H : Hp) (R : Hp → Prop) : Prop := ∃ a H4, x = .ref a ∧ DPut H a y v H4 ∧ R H4
theorem rd_dputZ {td ty tv : TE} {σ : L2.St} {D : Ends} (q : tv σ H fun v H1 => td σ H1 fun x H2 => ty σ H2 fun y H3 => zDPut v x y H3 fun H4 => D.nx σ H4) : sDPut td ty tv D σ H := q
theorem kV_I (i : Int) : kV (kI i) = .int i := rfl
theorem kV_S (i : Str) : kV (kS i) = .str i := rfl
theorem q_dget (hk : ∀ a b, kk a = kk b → a = b) (h : Rd H a (.dK kvs)) (f : FrK F0 G kvs (l.map fun p => (dKey (kk p.1), e p.2))) (ey : y = kV (kk k)) (hx : dget l k = some x) (q : ∀ v, Fr F0 G v (e x) → Q v H) : zDGet (.ref a) y H Q := by
  rcases frk_get (k := k) hk f with ⟨x', v, h1, h2, h3⟩ | ⟨h1, _⟩
  · rw [hx] at h1
    cases h1
    exact ⟨a, v, rfl, Or.inl ⟨kvs, kk k, h, ey, h2.symm⟩, q v h3⟩
  · rw [hx] at h1
    cases h1
theorem dhas_val (hk : ∀ a b, kk a = kk b → a = b) (f : FrK F0 G kvs (l.map fun p => (dKey (kk p.1), e p.2))) : (valV kvs (kk k)).isSome = dhas l k := by
  unfold dhas
  rcases frk_get (k := k) hk f with ⟨x', v, h1, h2, h3⟩ | ⟨h1, h2⟩ <;> rw [h1, h2] <;> rfl
theorem q_din (hk : ∀ a b, kk a = kk b → a = b) (h : Rd H a (.dK kvs)) (f : FrK F0 G kvs (l.map fun p => (dKey (kk p.1), e p.2))) (ey : y = kV (kk k)) (q : Q (.bl (dhas l k)) H) : zDIn y (.ref a) H Q :=
  ⟨a, _, rfl, Or.inl ⟨kvs, kk k, h, ey, rfl⟩, by rw [dhas_val hk f]; exact q⟩
theorem q_dni (hk : ∀ a b, kk a = kk b → a = b) (h : Rd H a (.dK kvs)) (f : FrK F0 G kvs (l.map fun p => (dKey (kk p.1), e p.2))) (ey : y = kV (kk k)) (q : Q (.bl (!dhas l k)) H) : zDNotIn y (.ref a) H Q :=
  ⟨a, _, rfl, Or.inl ⟨kvs, kk k, h, ey, rfl⟩, by rw [dhas_val hk f]; exact q⟩
theorem q_dput {r : List (κ × α)} {R : Hp → Prop} (hk : ∀ a b, kk a = kk b → a = b) (S : Sep ms H0 G H cs) (i : Nat) (hi : cs[i]? = some (a, .dK kvs)) (f : FrK F0 G kvs (l.map fun p => (dKey (kk p.1), e p.2))) (ey : y = kV (kk k)) (fv : Fr F0 G v (e x)) (h : dputF l k x = some r)
    (q : ∀ us H', Sep ms H0 G H' (cs.set i (a, .dK us)) → FrK F0 G us (r.map fun p => (dKey (kk p.1), e p.2)) → R H') : zDPut v (.ref a) y H R := by
  unfold dputF at h
  obtain ⟨h1, h2⟩ := grd h
  cases som h2
  exact ⟨a, _, rfl, Or.inl ⟨kvs, kk k, S.get i hi, ey, lim_lt (by rw [frk_len f]; exact of_decide_eq_true h1), rfl⟩, q _ _ (S.put i hi dk_tup) (frk_put hk f fv)⟩
def zDNew (H : Hp) (Q : VK) : Prop := ∀ p, H p = none → Q (.ref p) (upd H p (.dK []))
theorem rd_dnewZ {σ : L2.St} (q : zDNew H Q) : tDNewK σ H Q := q
theorem q_dnewO (S : Sep ms H0 G H cs) (q : ∀ p H', Sep ms H0 G H' ((p, .dK []) :: cs) → H0 p = none → Q (.ref p) H') : zDNew H Q := fun p hp => q p _ (S.own hp dk_tup) (S.old p hp)
/-- an owned dict is only read from here on -/
theorem Sep.fixD {ds : List (PyData × PyData)} (S : Sep ms H0 G H cs) (i : Nat) (h : cs[i]? = some (a, .dK kvs)) (hm : a ∉ ms) (f : FrK F0 G kvs ds) (n : F0 a = none) : ∃ G', Sep ms H0 G' H (cs.eraseIdx i) ∧ Same G G' ∧ Fr F0 G' (.ref a) (.dict ds) :=
  ⟨_, S.fix i h hm, sNew (S.gnone i h), .dic (Or.inl upd_same) n (f.same (sNew (S.gnone i h)))⟩
/-- an owned dict, read -/
theorem Sep.rdD {ds : List (PyData × PyData)} (S : Sep ms H0 G H cs) (i : Nat) (h : cs[i]? = some (a, .dK kvs)) (f : FrK F0 G kvs ds) : Fr E0h H (.ref a) (.dict ds) := .dic (Or.inl (S.get i h)) rfl ((f.rp).same S.sub)
def zLenD : List V → Hp → VK → Prop := fun xs H Q => ∃ a kvs, xs = [.ref a] ∧ Rd H a (.dK kvs) ∧ Q (.int (kvs.length : Int)) H
/-! a dict that is walked: it is known to the object from there on -/
def zFrz (x : V) (H : Hp) (R : V → Hp → Prop) : Prop := (∃ d u, x = .ref d ∧ H d = some u ∧ Mut (some u) ∧ ∀ od, R (.ref d) (upd H d (.frz od u))) ∨ ∃ d od u, x = .ref d ∧ H d = some (.frz od u) ∧ R (.ref d) H
def tFrzE (td : TE) : TE := fun σ H Q => td σ H fun x H1 => zFrz x H1 Q
theorem pe_frz {X : Cx} {ex : Expr} {td : TE} (h : PE X ex td) : PE X ex (tFrzE td) := by
  refine ⟨fun pins s σ H Q I hw => ?_⟩
  refine thn (h.run pins s σ H _ I hw) fun v s1 ⟨x, H1, I1, r, q⟩ => ?_
  rcases q with ⟨d, u, rfl, hd, mu, q⟩ | ⟨d, od, u, rfl, hd, q⟩
  · obtain ⟨od, I2⟩ := I1.lock hd mu
    exact ⟨.ref d, _, I2, r, q od⟩
  · exact ⟨.ref d, H1, I1, r, q⟩
theorem rd_frz {td : TE} {σ : L2.St} (q : td σ H fun x H1 => zFrz x H1 Q) : tFrzE td σ H Q := q
def FrzG (G : Hp) (d : Addr) (G' : Hp) : Prop := ∃ od kvs, G d = some (.dK kvs) ∧ G' = upd G d (.frz od (.dK kvs))
theorem FrzG.rd {d : Addr} (h : FrzG G d G') {a : Addr} {us : List (Key × V)} (r : Rd G a (.dK us)) : Rd G' a (.dK us) := by
  obtain ⟨od, kvs, h1, rfl⟩ := h
  by_cases c : a = d
  · subst c
    rcases r with r | ⟨o, r⟩
    · rw [h1] at r
      cases r
      exact Or.inr ⟨od, upd_same⟩
    · rw [h1] at r
      cases r
  · unfold Rd
    rw [upd_ne c]
    exact r
theorem FrzG.oth {d : Addr} (h : FrzG G d G') {a : Addr} {o : HO} (e : G a = some o) (n : ∀ kvs, o ≠ .dK kvs) : G' a = some o := by
  obtain ⟨od, kvs, h1, rfl⟩ := h
  have c : a ≠ d := fun z => by
    subst z
    rw [h1] at e
    exact n kvs (Option.some.inj e).symm
  rw [upd_ne c]
  exact e
theorem Fr.frz {d : Addr} {v : V} {x : PyData} (f : Fr F0 G v x) (h : FrzG G d G') : Fr F0 G' v x := f.move (fun _ _ e n => ⟨h.oth e (fun _ z => by cases z), n⟩) (fun _ _ e => h.oth e fun _ z => by cases z) fun _ _ e n => ⟨h.rd e, n⟩
theorem FrL.frz {d : Addr} {v : List V} {x : List PyData} (f : FrL F0 G v x) (h : FrzG G d G') : FrL F0 G' v x := f.move (fun _ _ e n => ⟨h.oth e (fun _ z => by cases z), n⟩) (fun _ _ e => h.oth e fun _ z => by cases z) fun _ _ e n => ⟨h.rd e, n⟩
theorem FrK.frz {d : Addr} {v : List (Key × V)} {x : List (PyData × PyData)} (f : FrK F0 G v x) (h : FrzG G d G') : FrK F0 G' v x := f.move (fun _ _ e n => ⟨h.oth e (fun _ z => by cases z), n⟩) (fun _ _ e => h.oth e fun _ z => by cases z) fun _ _ e n => ⟨h.rd e, n⟩
theorem _root_.LX.Scr.frz {d : Addr} {ns : List Int} {l : Addr} (f : Scr K G l ns) (h : FrzG G d G') : Scr K G' l ns := by
  rcases f with ⟨o, f⟩ | f
  · exact Or.inl ⟨o, h.oth f fun _ z => by cases z⟩
  · exact Or.inr f
/-- the walk over a dict that is held -/
theorem q_frz {R : V → Hp → Prop} (S : Sep ms H0 G H cs) (n : H0 a = none) (h : Rd G a (.dK kvs)) (q : ∀ od G' H', Sep ms H0 G' H' cs → (G' = G ∨ FrzG G a G') → H' a = some (.frz od (.dK kvs)) → G' a = some (.frz od (.dK kvs)) → R (.ref a) H') : zFrz (.ref a) H R := by
  rcases h with h | ⟨od, h⟩
  · refine Or.inl ⟨a, _, rfl, S.sub _ _ h, True.intro, fun od => q od (upd G a (.frz od (.dK kvs))) _ ?_ (Or.inr ⟨od, kvs, h, rfl⟩) upd_same upd_same⟩
    have ac : ∀ c ∈ cs, c.1 ≠ a := fun c hc z => by
      have := (S.cel c hc).2.1
      rw [z, h] at this
      cases this
    refine ⟨fun b u e => ?_, fun c hc => ?_, S.nd, S.msc, S.hms, fun b e => ?_, fun b u e n' => ?_, fun b xs e => ?_⟩
    · by_cases c : b = a
      · subst c
        rw [upd_same] at e ⊢
        exact e
      · rw [upd_ne c] at e ⊢
        exact S.sub b u e
    · rw [upd_ne (ac c hc), upd_ne (ac c hc)]
      exact S.cel c hc
    · by_cases c : b = a
      · subst c
        rw [upd_same] at e
        cases e
      · rw [upd_ne c] at e
        exact S.old b e
    · have c : b ≠ a := fun z => by
        subst z
        rw [n] at e
        cases e
      rw [upd_ne c]
      exact S.base b u e n'
    · by_cases c : b = a
      · subst c
        rw [upd_same] at e
        cases e
      · rw [upd_ne c] at e ⊢
        exact S.tups b xs e
  · exact Or.inr ⟨a, od, _, rfl, S.sub _ _ h, q od G H S (Or.inl rfl) (S.sub _ _ h) h⟩
def zKeys (x : V) (H : Hp) (R : It → Hp → Prop) : Prop := ∃ d o, x = .ref d ∧ ((∃ kvs, H d = some (.frz o (.dK kvs)) ∧ R (Itk d o kvs) H) ∨ ∃ kvs, H d = some (.frz o (.dT kvs)) ∧ R (Itkt d o kvs) H)
theorem rd_iKeys {td : TE} {σ : L2.St} {R : It → Hp → Prop} (q : td σ H fun x H1 => zKeys x H1 R) : iKeys td σ H R := q
theorem q_keys {od : Obj} {R : It → Hp → Prop} (h : H a = some (.frz od (.dK kvs))) (q : R (Itk a od kvs) H) : zKeys (.ref a) H R := ⟨a, od, rfl, Or.inl ⟨kvs, h, q⟩⟩
theorem w_keys {od : Obj} {l : List (Str × α)} (f : FrK F0 G kvs (l.map fun p => (dKey (kS p.1), e p.2))) : Walk (Itk a od kvs) (dkeys l).length (fun H => H a = some (.frz od (.dK kvs))) (fun i H v H' => H' = H ∧ ∀ x, (dkeys l)[i]? = some x → v = .str x) := by
  have h : (dkeys l).length = kvs.length := by unfold dkeys; rw [List.length_map, frk_len f]
  rw [h]
  refine walk_keys.mono (fun _ h => h) fun i H x H' _ _ y => ⟨y.1, fun z hz => ?_⟩
  obtain ⟨k, v, h1, h2⟩ := y.2
  have h3 : (kvs.map (·.1))[i]? = some k := by rw [List.getElem?_map, h1]; rfl
  rw [frk_keys f, List.getElem?_map] at h3
  unfold dkeys at hz
  rw [List.getElem?_map] at hz
  obtain ⟨p, h4, h5⟩ := Option.map_eq_some_iff.mp hz
  rw [h4] at h3
  have h6 : kS p.1 = k := Option.some.inj h3
  rw [h2, ← h6, ← h5]
  rfl
end
end LQ
namespace LQ
open PySem PySem.Spec PyProof.Rows L2 LX
section
variable {X : Cx} {κ α : Type} [DecidableEq κ] {kk : κ → Key} {e : α → PyData} {F0 H0 G G' H H' : Hp} {kvs : List (Key × V)} {l : List (κ × α)} {k : κ} {x : α} {v y : V} {a b : Addr} {ms : List Addr} {cs : List (Addr × HO)} {Q : VK} {K : PySem.W.Frag} {vs : List V}
theorem klenD : CallR X (.builtin "len") zLenD := by
  intro pins s σ H xs us Q I r h
  obtain ⟨a, kvs, rfl, ha, q⟩ := h
  obtain ⟨u, rfl, ru⟩ := vals1 r
  cases ru
  exact d_len I ha fun t s' I' => ⟨.int kvs.length, H, I', ⟨t, rfl⟩, q⟩
theorem q_lenD (h : Rd H a (.dK kvs)) (f : FrK F0 G kvs (l.map fun p => (dKey (kk p.1), e p.2))) (q : Q (.int (lenI l)) H) : zLenD [.ref a] H Q := ⟨a, kvs, rfl, h, by rw [frk_len f]; exact q⟩
def zCntI (K : PySem.W.Frag) : V → List V → Hp → VK → Prop := rCntI K
theorem klcount {K : PySem.W.Frag} (h : X.K = K := by rfl) : MtR X "list.count" (rCntI K) := h ▸ L2.mt_lcount
theorem q_countI {l : List Int} {i : Int} (h : H a = some (.lst vs)) (f : FrL F0 G vs (l.map eI)) (q : Q (.int ((l.count i : Nat) : Int)) H) : rCntI K (.ref a) [.int i] H Q := by
  rw [frl_ints f] at h
  exact ⟨a, l, i, rfl, rfl, SqL.of h, q⟩
/-- dict(list of pairs of an int, a text and something) -/
theorem q_dictP {kd : κ → PyData} {g : α → PyData} (hkd : ∀ (k : κ) (F G : Hp) (v : V), Fr F G v (kd k) → v = kV (kk k)) (hk : ∀ a b, kk a = kk b → a = b) {m : List (κ × α)} (S : Sep ms H0 G H cs) (h : H a = some (.lst vs)) (f : FrL F0 G vs (m.map fun p => .tuple [kd p.1, g p.2])) (hF : ∀ b, H b = none → F0 b = none)
    (q : ∀ p G' H', Sep ms H0 G' H' cs → Same G G' → Fr F0 G' (.ref p) (eD kk g (dmerge [] m)) → Q (.ref p) H') : qDictP K [.ref a] H Q := by
  have key : ∀ {vs : List V} {m : List (κ × α)}, FrL F0 G vs (m.map fun p => .tuple [kd p.1, g p.2]) → ∃ (ps : List Addr) (kvs : List (Key × V)), vs = ps.map V.ref ∧ Paired (fun p kv => SqT K H p [kV kv.1, kv.2]) ps kvs ∧ FrK F0 G kvs (m.map fun p => (dKey (kk p.1), g p.2)) := by
    intro vs m f
    induction m generalizing vs with
    | nil =>
      cases f
      exact ⟨[], [], rfl, .nil, .nil⟩
    | cons p m ih =>
      cases f with
      | cons f1 hs =>
        obtain ⟨ps, kvs, rfl, h1, h2⟩ := ih hs
        obtain ⟨t, rfl⟩ := fr_tup f1
        obtain ⟨v1, v2, k1, g1, g2⟩ := tu2 f1
        have e1 := hkd _ _ _ _ g1
        subst e1
        exact ⟨t :: ps, (kk p.1, v2) :: kvs, rfl, .cons (SqT.of (S.sub _ _ k1)) h1, .cons g2 h2⟩
  obtain ⟨ps, kvs, rfl, h1, h2⟩ := key f
  refine ⟨a, ps, kvs, rfl, SqL.of h, h1, fun p hp => q p _ _ (S.sh hp) (sNew (S.gfree hp)) (.dic (Or.inl upd_same) (hF p hp) ?_)⟩
  have h3 := frk_merge (kk := kk) (e := g) hk (l := []) (kvs := []) (F0 := F0) (G := G) .nil h2
  exact h3.same (sNew (S.gfree hp))
theorem kdI (k : Int) (F G : Hp) (v : V) (f : Fr F G v (eI k)) : v = kV (kI k) := fr_int f
theorem kdS (k : Str) (F G : Hp) (v : V) (f : Fr F G v (eS k)) : v = kV (kS k) := fr_str f
end
end LQ
namespace LQ
open PySem L2 LX
theorem frz_or {G G' : Hp} {a : Addr} {A : Hp → Prop} (f : A G) (g : FrzG G a G' → A G') (d : G' = G ∨ FrzG G a G') : A G' := by
  rcases d with rfl | d
  · exact f
  · exact g d
theorem frz_same {G0 G G' : Hp} {a : Addr} (s : Same G0 G) (d : G' = G ∨ FrzG G a G') (n : G0 a = none) : Same G0 G' := by
  rcases d with rfl | ⟨od, kvs, _, rfl⟩
  · exact s
  · exact sUpd s n
end LQ
namespace LX
open PySem L2
theorem FnG.imp {P : Program} {w : World} {K : PySem.W.Frag} {mg : Str → Option Value} {base : Heap} {k : Nat} {f : Addr} {fd : FuncData} {ps : List Str} {sp sp' : Sp} (F : FnG P w K mg base k f fd ps sp) (h : ∀ vs H Q E, sp' vs H Q E → sp vs H Q E) : FnG P w K mg base k f fd ps sp' :=
  ⟨fun vs H Q E z => F.len vs H Q E (h vs H Q E z), fun A o s H ar us vs Q E r q e b v z => F.go A o s H ar us vs Q E r q e b v (h vs H Q E z)⟩
end LX

/-! list(zip), list of a text, slices by a step of 1 or -1, lists unpacked, owned results of calls that write. -/
namespace LQ
open PySem PySem.Spec PyProof.Rows L2 LX
def zipF {α β : Type} (l : List α) (m : List β) : Option (List (α × β)) := cond (decide (l.length ≤ m.length)) (some (l.zip m)) none
def zipSF {β : Type} (z : Str) (m : List β) : Option (List (Str × β)) := cond (decide (z.cps.size ≤ 4000) && decide (m.length = z.cps.size)) (some ((chars z).zip m)) none
def charsF (z : Str) : Option (List Str) := cond (decide (z.cps.size ≤ 4000)) (some (chars z)) none
/-- xs[::i], i 1 or -1 -/
def stepF {α : Type} (l : List α) (i : Int) : Option (List α) := cond (decide (i = 1)) (some l) (cond (decide (i = -1)) (some l.reverse) none)
section
variable {ms : List Addr} {F0 H0 G G' H H' H2 : Hp} {cs : List (Addr × HO)} {a b : Addr} {vs us : List V} {K : PySem.W.Frag} {Q : VK} {v x y : V} {α β : Type} {e : α → PyData} {e2 : β → PyData} {l : List α} {m : List β}
theorem Sep.grow (S : Sep ms H0 G H cs) (s : Same H H2) : ∃ G', Sep ms H0 G' H2 cs ∧ Same G G' ∧ (∀ b o, H b = none → H2 b = some o → G' b = some o) ∧ ∀ b xs, H2 b = some (.tup xs) → G' b = some (.tup xs) := by
  have ro : ∀ b, H2 b = none → H b = none := fun b e => by
    cases h : H b with
    | none => rfl
    | some o =>
      rw [s b o h] at e
      cases e
  have out : ∀ b, b ∉ cs.map (·.1) → hid H2 (cs.map (·.1)) b = H2 b := fun b h => hid_out h
  have sG : Same G (hid H2 (cs.map (·.1))) := fun b o e => by
    have n : b ∉ cs.map (·.1) := fun z => by
      obtain ⟨c, hc, rfl⟩ := List.mem_map.mp z
      rw [(S.cel c hc).2.1] at e
      cases e
    rw [out b n]
    exact s b o (S.sub b o e)
  have tp : ∀ b xs, H2 b = some (.tup xs) → hid H2 (cs.map (·.1)) b = some (.tup xs) := fun b xs e => by
    rw [out b]
    · exact e
    · intro z
      obtain ⟨c, hc, rfl⟩ := List.mem_map.mp z
      have := s _ _ (S.cel c hc).1
      rw [e] at this
      exact (S.cel c hc).2.2 xs (Option.some.inj this).symm
  exact ⟨hid H2 (cs.map (·.1)), ⟨fun b o e => (hid_some e).2, fun c hc => ⟨s _ _ (S.cel c hc).1, hid_in (List.mem_map_of_mem hc), (S.cel c hc).2.2⟩, S.nd, S.msc, S.hms, fun b e => S.old b (ro b e), fun b o e n => sG b o (S.base b o e n), tp⟩, sG,
    fun b o hn e => by rw [out b (S.cne hn)]; exact e, tp⟩
/-- a new list of pairs -/
theorem frl_pairs {Ts : List Addr} {l : List α} {m : List β} (hl : Ts.length = l.length) (hm : l.length ≤ m.length) (h : ∀ (j : Nat) (x : α) (y : β), l[j]? = some x → m[j]? = some y → ∃ T v w, Ts[j]? = some T ∧ G T = some (.tup [v, w]) ∧ Fr F0 G v (e x) ∧ Fr F0 G w (e2 y)) :
    FrL F0 G (Ts.map V.ref) ((l.zip m).map (eT2 e e2)) := by
  induction l generalizing m Ts with
  | nil =>
    have : Ts = [] := List.length_eq_zero_iff.mp hl
    subst this
    exact .nil
  | cons x l ih =>
    cases m with
    | nil => exact absurd hm (Nat.not_succ_le_zero _)
    | cons y m =>
      cases Ts with
      | nil => cases hl
      | cons T Ts =>
        obtain ⟨T', v, w, k1, k2, k3, k4⟩ := h 0 x y rfl rfl
        cases k1
        refine .cons (.tup k2 (.cons k3 (.cons k4 .nil))) (ih (by simpa using hl) (by simpa using hm) fun j x y hx hy => ?_)
        obtain ⟨T', v, w, k1, k2⟩ := h (j + 1) x y (by simpa using hx) (by simpa using hy)
        exact ⟨T', v, w, by simpa using k1, k2⟩
def zLz (K : PySem.W.Frag) (vs : List V) (H1 : Hp) (Q : VK) : Prop := ∃ (a b : Addr) (xs ys : List V), vs = [.ref a, .ref b] ∧ SqL K H1 a xs ∧ SqL K H1 b ys ∧ xs.length ≤ ys.length ∧
  ∀ (L : Addr) (H2 : Hp) (Ts : List Addr), H1 L = none → Same H1 H2 → H2 L = some (.lst (Ts.map V.ref)) → Ts.length = xs.length → (∀ (j : Nat) (x y : V), xs[j]? = some x → ys[j]? = some y → ∃ T, Ts[j]? = some T ∧ H2 T = some (.tup [x, y])) → Q (.ref L) H2
theorem rd_lzZ {ta : TA} {σ : L2.St} (q : ta σ H fun vs H1 => zLz K vs H1 Q) : tListZip K ta σ H Q := q
theorem q_lz {r : List (α × β)} (S : Sep ms H0 G H cs) (ha : H a = some (.lst vs)) (f : FrL F0 G vs (l.map e)) (hb : H b = some (.lst us)) (g : FrL F0 G us (m.map e2)) (h : zipF l m = some r) (hF : ∀ b, H b = none → F0 b = none)
    (q : ∀ p G' H', Sep ms H0 G' H' cs → Same G G' → Fr F0 G' (.ref p) (eL (eT2 e e2) r) → Q (.ref p) H') : zLz K [.ref a, .ref b] H Q := by
  unfold zipF at h
  obtain ⟨h1, h2⟩ := grd h
  have h1 := of_decide_eq_true h1
  cases som h2
  have lv := f.len
  have lu := g.len
  rw [List.length_map] at lv lu
  refine ⟨a, b, vs, us, rfl, SqL.of ha, SqL.of hb, by omega, fun L H2 Ts nL sm hL tl ht => ?_⟩
  obtain ⟨G2, S2, s2, kn, kt⟩ := S.grow sm
  refine q L G2 H2 S2 s2 (.lst (kn L _ nL hL) (hF L nL) (frl_pairs (by omega) (by omega) fun j x y hx hy => ?_))
  obtain ⟨v, e1, f1⟩ := f.get (i := j) (d := e x) (by rw [List.getElem?_map, hx]; rfl)
  obtain ⟨w, e3, f3⟩ := g.get (i := j) (d := e2 y) (by rw [List.getElem?_map, hy]; rfl)
  obtain ⟨T, k1, k2⟩ := ht j v w e1 e3
  exact ⟨T, v, w, k1, kt _ _ k2, f1.same s2, f3.same s2⟩
def zLzT (K : PySem.W.Frag) (vs : List V) (H1 : Hp) (Q : VK) : Prop := ∃ (x : Str) (b : Addr) (ys : List V), vs = [.str x, .ref b] ∧ x.cps.size ≤ 4000 ∧ SqL K H1 b ys ∧ ys.length = x.cps.size ∧
  ∀ (L : Addr) (H2 : Hp) (Ts : List Addr), H1 L = none → Same H1 H2 → H2 L = some (.lst (Ts.map V.ref)) → Ts.length = x.cps.size → (∀ (j c : Nat) (y : V), x.cps[j]? = some c → ys[j]? = some y → ∃ T, Ts[j]? = some T ∧ H2 T = some (.tup [sg c, y])) → Q (.ref L) H2
theorem q_lzT {z : Str} {r : List (Str × β)} (S : Sep ms H0 G H cs) (hb : H b = some (.lst us)) (g : FrL F0 G us (m.map e2)) (h : zipSF z m = some r) (hF : ∀ b, H b = none → F0 b = none)
    (q : ∀ p G' H', Sep ms H0 G' H' cs → Same G G' → Fr F0 G' (.ref p) (eL (eT2 eS e2) r) → Q (.ref p) H') : zLzT K [.str z, .ref b] H Q := by
  unfold zipSF at h
  obtain ⟨h1, h2⟩ := grd h
  rw [Bool.and_eq_true, decide_eq_true_iff, decide_eq_true_iff] at h1
  cases som h2
  have lu := g.len
  rw [List.length_map] at lu
  refine ⟨z, b, us, rfl, h1.1, SqL.of hb, by omega, fun L H2 Ts nL sm hL tl ht => ?_⟩
  obtain ⟨G2, S2, s2, kn, kt⟩ := S.grow sm
  refine q L G2 H2 S2 s2 (.lst (kn L _ nL hL) (hF L nL) (frl_pairs (by rw [chars_len]; omega) (by rw [chars_len]; omega) fun j x y hx hy => ?_))
  unfold chars at hx
  rw [List.getElem?_map] at hx
  obtain ⟨c, h3, h4⟩ := Option.map_eq_some_iff.mp hx
  rw [Array.getElem?_toList] at h3
  obtain ⟨w, e3, f3⟩ := g.get (i := j) (d := e2 y) (by rw [List.getElem?_map, hy]; rfl)
  obtain ⟨T, k1, k2⟩ := ht j c w h3 e3
  exact ⟨T, sg c, w, k1, kt _ _ k2, by rw [← h4]; exact .str _, f3.same s2⟩
theorem q_listS {z : Str} {l : List Str} (h : charsF z = some l) (q : zNew (l.map V.str) H Q) : rListS [.str z] H Q := by
  unfold charsF at h
  obtain ⟨h1, h2⟩ := grd h
  cases som h2
  refine ⟨z, rfl, of_decide_eq_true h1, fun p hp => ?_⟩
  have e : (z.cps.toList.map fun c => V.str ⟨#[c]⟩) = (chars z).map V.str := by
    unfold chars
    rw [List.map_map]
    rfl
  rw [e]
  exact q p hp
/-! ### xs[::i] -/
def zSt (K : PySem.W.Frag) (x : V) (i : V) (H : Hp) (Q : VK) : Prop := ∃ a xs k, x = .ref a ∧ i = .int k ∧ SqL K H a xs ∧ (k = 1 ∨ k = -1) ∧ ∀ p, H p = none → Q (.ref p) (upd H p (.lst (if k = 1 then xs else xs.reverse)))
def tSt (K : PySem.W.Frag) (te ti : TE) : TE := fun σ H Q => te σ H fun x H1 => ti σ H1 fun i H2 => zSt K x i H2 Q
theorem rd_st {te ti : TE} {σ : L2.St} (q : te σ H fun x H1 => ti σ H1 fun i H2 => zSt K x i H2 Q) : tSt K te ti σ H Q := q
theorem one_pick (items : Array Value) : slicePick items none none (some 1) = items := by
  have e : slicePick items none none (some 1) = slicePick items none none none := rfl
  rw [e]
  unfold slicePick
  have h : sliceBounds none none none items.size = (0, (items.size : Int), 1) := by
    first
    | rfl
    | simp [sliceBounds]
  rw [h]
  show ((sliceRange 0 (items.size : Int) 1).filterMap (items[·]?)).toArray = items
  have h2 : sliceRange 0 (items.size : Int) 1 = List.range items.size := by
    unfold sliceRange
    simp
    by_cases h0 : 0 < items.size
    · rw [if_pos h0]
      simp
    · rw [if_neg h0, show items.size = 0 by omega]
      rfl
  rw [h2, PySem.W.krv_all]
end
section
variable {X : Cx} {K : PySem.W.Frag}
theorem pe_st {e st : Expr} {te ti : TE} {p3 pos : Pos} (ops : Value → Nat → List Value) (he : PE X e te) (hi : PE X st ti) (hsub : ∀ (a : Value) (b : Nat), subscripted (.Slice none none (some st) p3) false a (.ref b) = operate (ops a b) (getItem a (.ref b)) := by intros; rfl) (h : X.K = K := by rfl) :
    PE X (.Subscript e (.Slice none none (some st) p3) pos) (tSt K te ti) := by
  subst h
  refine ⟨fun pins s σ H Q I h => ?_⟩
  refine Subscript_ (thn (he.run pins s σ H _ I h) fun v s1 ⟨x, H1, I1, r1, q1⟩ => ?_)
  have q2 : ti σ H1 fun i H2 => ∃ k, i = .int k ∧ zSt X.K x (.int k) H2 Q := by
    have e : (fun (i : V) (H2 : Hp) => ∃ k, i = .int k ∧ zSt X.K x (.int k) H2 Q) = fun i H2 => zSt X.K x i H2 Q := by
      funext i H2
      refine propext ⟨fun ⟨k, e, z⟩ => e ▸ z, fun z => ?_⟩
      obtain ⟨a, xs, k, e1, e2, z2⟩ := z
      exact ⟨k, e2, a, xs, k, e1, rfl, z2⟩
    rw [e]
    exact q1
  have hst : PO X (some st) (tPart ti) := po_some hi
  refine wpAny_Slice (thn (po_none.run pins s1 σ H1 (fun o H2 => o = none ∧ H2 = H1) I1 ⟨rfl, rfl⟩) fun vl s2 ⟨l, H2, I2, pl, el, e2⟩ => ?_)
  subst el e2
  refine thn (po_none.run pins s2 σ H2 (fun o H3 => o = none ∧ H3 = H2) I2 ⟨rfl, rfl⟩) fun vu s3 ⟨u, H3, I3, pu, eu, e3⟩ => ?_
  subst eu e3
  refine thn (hst.run pins s3 σ H3 (fun o H4 => ∃ k, o = some k ∧ zSt X.K x (.int k) H4 Q) I3 ?_) fun vs s4 ⟨o, H4, I4, ps, k, eo, z⟩ => ?_
  · have e : (fun (y : V) (H' : Hp) => ∃ i, y = .int i ∧ ∃ k, some i = some k ∧ zSt X.K x (.int k) H' Q) = fun i H2 => ∃ k, i = .int k ∧ zSt X.K x (.int k) H2 Q := by
      funext y H'
      refine propext ⟨fun ⟨i, e, k, e2, z⟩ => ⟨i, e, (Option.some.inj e2) ▸ z⟩, fun ⟨k, e, z⟩ => ⟨k, e, k, rfl, z⟩⟩
    show ti σ H3 (fun y H' => ∃ i, y = .int i ∧ ∃ k, some i = some k ∧ zSt X.K x (.int k) H' Q)
    rw [e]
    exact q2
  subst eo
  obtain ⟨a, xs, k', ex, ek, hx, h1, q⟩ := z
  cases ek
  subst ex
  cases r1
  have I5 : Inv X pins σ H4 { s4 with heap := s4.heap.push { cls := .type "slice", data := .fields #[vl, vu, vs] } } := I4.kept (t' := s4.toks) fun b ob q => Heap.get?_push_of_some _ q
  obtain ⟨its, r, ht, hz⟩ := I5.list hx
  have hlen := r.length
  show wpAny (model X.prog X.w) X.A (subscriptTail e (.Slice none none (some st) p3) (.ref a) (.ref s4.heap.objs.size)) (EP X pins σ Q) X.xe { s4 with heap := s4.heap.push { cls := .type "slice", data := .fields #[vl, vu, vs] } }
  refine tail_any (ops := ops (.ref a) s4.heap.objs.size) ht.isList.typeIs (PySem.slot_list_getitem.lookup) ?_ (hsub _ _)
  rcases h1 with rfl | rfl
  · refine wpAny_getItem_list_slice ht.isList (Heap.IsSliceOf.new _ vl vu vs) pl pu ps (by decide) ?_ (by rw [List.size_toArray]; omega)
    rw [one_pick]
    refine ⟨.ref _, _, I5.laid (t' := s4.toks) (o := .lst xs) (fun b ob q => Heap.get?_push_of_some _ q) (Nat.le_refl _) ?_, rfl, q _ (I5.hok.fresh (Nat.le_refl _))⟩
    exact ⟨hz, its, 0, r, Heap.get?_push_size _ rfl⟩
  · refine wpAny_getItem_list_slice ht.isList (Heap.IsSliceOf.new _ vl vu vs) pl pu ps (by decide) ?_ (by rw [List.size_toArray]; omega)
    rw [PySem.W.krv_pick]
    refine ⟨.ref _, _, I5.laid (t' := s4.toks) (o := .lst xs.reverse) (fun b ob q => Heap.get?_push_of_some _ q) (Nat.le_refl _) ?_, rfl, q _ (I5.hok.fresh (Nat.le_refl _))⟩
    exact ⟨by rw [List.length_reverse]; exact hz, _, 0, r.reverse, Heap.get?_push_size _ rfl⟩
theorem q_st {ms : List Addr} {F0 H0 G H : Hp} {cs : List (Addr × HO)} {a : Addr} {vs : List V} {Q : VK} {α : Type} {e : α → PyData} {l r : List α} {i : Int} (S : Sep ms H0 G H cs) (ha : H a = some (.lst vs)) (f : FrL F0 G vs (l.map e)) (h : stepF l i = some r) (hF : ∀ b, H b = none → F0 b = none)
    (q : ∀ p G' H', Sep ms H0 G' H' cs → Same G G' → Fr F0 G' (.ref p) (eL e r) → Q (.ref p) H') : zSt K (.ref a) (.int i) H Q := by
  unfold stepF at h
  rcases cnd h with ⟨c, h⟩ | ⟨c, h⟩
  · have c := of_decide_eq_true c
    subst c
    cases som h
    refine ⟨a, vs, 1, rfl, rfl, SqL.of ha, Or.inl rfl, ?_⟩
    rw [if_pos rfl]
    exact q_new S f hF q
  · rcases cnd h with ⟨c2, h⟩ | ⟨c2, h⟩
    · have c2 := of_decide_eq_true c2
      subst c2
      cases som h
      refine ⟨a, vs, -1, rfl, rfl, SqL.of ha, Or.inr rfl, ?_⟩
      rw [if_neg (by decide)]
      refine q_new S ?_ hF q
      rw [List.map_reverse]
      exact f.rev
    · cases h
theorem rd_revL {te : TE} {σ : L2.St} {H : Hp} {Q : VK} (q : te σ H fun x H1 => zSt K x (.int (-1)) H1 Q) : tRevL K te σ H Q := by
  have e : (fun (x : V) (H1 : Hp) => ∃ a xs, x = .ref a ∧ SqL K H1 a xs ∧ ∀ p, H1 p = none → Q (.ref p) (upd H1 p (.lst xs.reverse))) = fun x H1 => zSt K x (.int (-1)) H1 Q := by
    funext x H1
    refine propext ⟨fun ⟨a, xs, e, h, q⟩ => ⟨a, xs, -1, e, rfl, h, Or.inr rfl, by rw [if_neg (by decide)]; exact q⟩, fun ⟨a, xs, k, e, ek, h, _, q⟩ => ⟨a, xs, e, h, ?_⟩⟩
    cases ek
    rw [if_neg (by decide)] at q
    exact q
  show te σ H _
  rw [e]
  exact q
theorem krevL {e : Expr} {te : TE} {k : Nat} {p1 p2 p3 pos : Pos} (he : PE X e te) (h : X.K = K := by rfl) : PE X (.Subscript e (.Slice none none (some (.UnaryOp .USub (.Constant (.int 1) k p1) p2)) p3) pos) (tRevL K te) := h ▸ pe_revL he
theorem kpg_lst {es : List Expr} {k n : Nat} {u : TGs} {pos : Pos} (hc : X.calm = true) (hp : PGs X es u) (hn : (assignEach es X.env).length = n := by rfl) (hst : (assignEach es X.env).findIdx? (·.1) = none := by rfl) (h : X.K = K := by rfl) : PG X (.Tuple es k pos) (gLst K n u) := h ▸ pg_lst hc hp hn hst
theorem rd_glst {n : Nat} {s : TGs} {p : Addr} {xs : List V} {σ : L2.St} {H : Hp} {R : L2.St → Hp → Prop} (h : H p = some (.lst xs)) (z : xs.length = n) (q : s xs σ H R) : gLst K n s (.ref p) σ H R := ⟨p, xs, rfl, SqL.of h, z, q⟩
/-- the items of a list of known length -/
def only2 {α : Type} (l : List α) : Option (α × α) := match l with
  | [x, y] => some (x, y)
  | _ => none
def only1 {α : Type} (l : List α) : Option α := match l with
  | [x] => some x
  | _ => none
def only3 {α : Type} (l : List α) : Option (α × α × α) := match l with
  | [x, y, z] => some (x, y, z)
  | _ => none
theorem on2 {F0 G : Hp} {vs : List V} {α : Type} {e : α → PyData} {l : List α} {p : α × α} (h : only2 l = some p) (f : FrL F0 G vs (l.map e)) : ∃ v w, vs = [v, w] ∧ Fr F0 G v (e p.1) ∧ Fr F0 G w (e p.2) := by
  unfold only2 at h
  split at h
  · cases h
    cases f with
    | cons f1 hs => cases hs with
      | cons f2 hs => cases hs; exact ⟨_, _, rfl, f1, f2⟩
  · cases h
theorem on3 {F0 G : Hp} {vs : List V} {α : Type} {e : α → PyData} {l : List α} {p : α × α × α} (h : only3 l = some p) (f : FrL F0 G vs (l.map e)) : ∃ v w x, vs = [v, w, x] ∧ Fr F0 G v (e p.1) ∧ Fr F0 G w (e p.2.1) ∧ Fr F0 G x (e p.2.2) := by
  unfold only3 at h
  split at h
  · cases h
    cases f with
    | cons f1 hs => cases hs with
      | cons f2 hs => cases hs with
        | cons f3 hs => cases hs; exact ⟨_, _, _, rfl, f1, f2, f3⟩
  · cases h
theorem on1 {F0 G : Hp} {vs : List V} {α : Type} {e : α → PyData} {l : List α} {p : α} (h : only1 l = some p) (f : FrL F0 G vs (l.map e)) : ∃ v, vs = [v] ∧ Fr F0 G v (e p) := by
  unfold only1 at h
  split at h
  · cases h
    cases f with
    | cons f1 hs => cases hs; exact ⟨_, rfl, f1⟩
  · cases h
end
end LQ

/-! ### list(zip(a text, a list)): over any two iterators that are drawn from -/
namespace LX
open PySem PySem.Spec PyProof.Rows L2
section
variable {prog : Program} {w : World} {A : Around} {E : Value → Shared → Prop} {s : Shared} {z TI TO T i1 i2 : Addr} {f : Bool} {oT : Obj} {fp1 fp2 : List Addr} {n1 n2 i : Nat} {P1 P2 : Nat → Value → Prop} {St1 St2 : Nat → Heap → Prop}
/-- a turn of a zip whose last tuple is held elsewhere -/
theorem heldItem {Q : Value → Shared → Prop} (S : ZipSep2 z TI TO i1 i2 fp1 fp2) (D1 : Draws prog w A i1 fp1 n1 P1 St1) (D2 : Draws prog w A i2 fp2 n2 P2 St2)
    (hz : IsZipHeld s.heap z TI TO T f) (hT : s.heap.get? T = some oT) (hTI : IsPair s.heap TI (.ref i1) (.ref i2)) (st1 : St1 i s.heap) (st2 : St2 i s.heap) (lt1 : i < n1) (lt2 : i < n2)
    (hQ : ∀ x1 x2 h' tk, P1 i x1 → P2 i x2 → IsZipHeld h' z TI TO T true → St1 (i + 1) h' → St2 (i + 1) h' → IsPair h' s.heap.objs.size x1 x2 → h'.objs.size = s.heap.objs.size + 1 →
      (∀ c o, c ≠ z → c ≠ i1 → c ≠ i2 → s.heap.get? c = some o → h'.get? c = some o) → Q (.ref s.heap.objs.size) { s with heap := h', toks := tk }) :
    wpAny (model prog w) A (Builtin.«zip.__next__» ⟨[.ref z], []⟩) (fun fin s' => ∃ v, fin = .done (.ret v) ∧ Q v s') E s := by
  obtain ⟨hp, g, d, tk0, os⟩ := s
  show wpAny _ _ (field (.ref z) 2 >>= _) _ _ _
  refine wpAny_bind (wpAny_field hz rfl (x := .bool false) rfl ?_)
  show wpAny _ _ (field (.ref z) 3 >>= _) _ _ _
  refine wpAny_bind (wpAny_field hz rfl (x := .ref TI) rfl (wpAny_bind (wpAny_seqItems hTI rfl ?_)))
  show wpAny _ _ (Builtin.SmallTypes.ownedTupleIsFree (.ref z) >>= _) _ _ _
  refine wpAny_bind (wpAny_tupleHeld_zip hz hT fun g0 hz0 c0 => ?_)
  replace c0 : Heap.SameBut z hp g0 := c0
  simp only [Bool.false_eq_true, if_false]
  refine wpAny_bind ?_
  rw [← Array.forIn_toList]
  simp only [List.forIn_cons, List.forIn_nil]
  refine wpAny_bind (wpAny_bind (wpAny_holding ?_))
  show wpAny _ _ (Builtin.SmallTypes.nextOf (.ref i1) >>= _) _ _ ⟨g0, g, d, tk0, os⟩
  refine wpAny_bind (D1.item i _ _ _ lt1 (D1.over st1 c0 S.zf1) fun x1 g1 tk1 hx1 u1 c1 => wpAny_pure (wpAny_pure ?_))
  replace c1 : Heap.SameBut i1 g0 g1 := c1
  refine wpAny_bind (wpAny_bind (wpAny_holding ?_))
  show wpAny _ _ (Builtin.SmallTypes.nextOf (.ref i2) >>= _) _ _ ⟨g1, g, d, tk1, os⟩
  refine wpAny_bind (D2.item i _ _ _ lt2 (D2.over (D2.over st2 c0 S.zf2) c1 S.sep1_2) fun x2 g2 tk2 hx2 u2 c2 => wpAny_pure (wpAny_pure (wpAny_pure ?_)))
  replace c2 : Heap.SameBut i2 g1 g2 := c2
  show wpAny _ _ (newTuple [x1, x2] >>= _) _ _ ⟨g2, g, d, tk2, os⟩
  refine wpAny_bind (wpAny_newTuple ?_)
  have sz : g2.objs.size = hp.objs.size := by rw [c2.1, c1.1, c0.1]
  have hz2 : IsZipHeld g2 z TI TO T true := c2.extBut _ _ S.zi2 (c1.extBut _ _ S.zi1 hz0)
  have keep : ∀ c o, c ≠ z → c ≠ i1 → c ≠ i2 → hp.get? c = some o → g2.get? c = some o := fun c o a1 a2 a3 e => c2.extBut _ _ a3 (c1.extBut _ _ a2 (c0.extBut _ _ a1 e))
  refine wpAny_pure ⟨_, rfl, ?_⟩
  show Q (.ref g2.objs.size) ⟨g2.push { cls := .type "tuple", data := .seq #[x1, x2] }, g, d, tk2, os⟩
  have hp2 : IsPair (g2.push { cls := .type "tuple", data := .seq #[x1, x2] }) g2.objs.size x1 x2 := Heap.get?_push_size _ rfl
  have sz4 : (g2.push { cls := .type "tuple", data := .seq #[x1, x2] }).objs.size = g2.objs.size + 1 := Heap.size_push ..
  rw [sz] at hp2 sz4 ⊢
  exact hQ x1 x2 _ tk2 hx1 hx2 (Heap.get?_push_of_some _ hz2) (D1.frame _ _ _ (D1.over u1 c2 S.sep2_1) fun b _ o e => Heap.get?_push_of_some _ e) (D2.frame _ _ _ u2 fun b _ o e => Heap.get?_push_of_some _ e) hp2 sz4
    fun c o a1 a2 a3 e => Heap.get?_push_of_some _ (keep c o a1 a2 a3 e)
/-- its end, the first iterator's -/
theorem heldEnd {Q : Fin → Shared → Prop} (S : ZipSep2 z TI TO i1 i2 fp1 fp2) (D1 : Draws prog w A i1 fp1 n1 P1 St1)
    (hz : IsZipHeld s.heap z TI TO T f) (hT : s.heap.get? T = some oT) (hTI : IsPair s.heap TI (.ref i1) (.ref i2)) (st1 : St1 n1 s.heap)
    (hE : ∀ h' e, (∀ c o, c ≠ z → c ≠ i1 → s.heap.get? c = some o → h'.get? c = some o) → (∃ o, h'.get? e = some o ∧ o.cls = .type "StopIteration") → E (.ref e) { s with heap := h' }) :
    wpAny (model prog w) A (Builtin.«zip.__next__» ⟨[.ref z], []⟩) Q E s := by
  obtain ⟨hp, g, d, tk0, os⟩ := s
  show wpAny _ _ (field (.ref z) 2 >>= _) _ _ _
  refine wpAny_bind (wpAny_field hz rfl (x := .bool false) rfl ?_)
  show wpAny _ _ (field (.ref z) 3 >>= _) _ _ _
  refine wpAny_bind (wpAny_field hz rfl (x := .ref TI) rfl (wpAny_bind (wpAny_seqItems hTI rfl ?_)))
  show wpAny _ _ (Builtin.SmallTypes.ownedTupleIsFree (.ref z) >>= _) _ _ _
  refine wpAny_bind (wpAny_tupleHeld_zip hz hT fun g0 hz0 c0 => ?_)
  replace c0 : Heap.SameBut z hp g0 := c0
  simp only [Bool.false_eq_true, if_false]
  refine wpAny_bind ?_
  rw [← Array.forIn_toList]
  simp only [List.forIn_cons, List.forIn_nil]
  refine wpAny_bind (wpAny_bind (wpAny_holding ?_))
  show wpAny _ _ (Builtin.SmallTypes.nextOf (.ref i1) >>= _) _ _ ⟨g0, g, d, tk0, os⟩
  refine wpAny_bind (D1.done ⟨g0, g, d, tk0, os⟩ _ _ (D1.over st1 c0 S.zf1) fun q e hq he => ?_)
  exact hE q e (fun c o a1 a2 x => hq _ _ a2 (c0.extBut _ _ a1 x)) he
theorem nextHeldItem {Q : Option Value → Shared → Prop} (S : ZipSep2 z TI TO i1 i2 fp1 fp2) (D1 : Draws prog w A.in1 i1 fp1 n1 P1 St1) (D2 : Draws prog w A.in1 i2 fp2 n2 P2 St2)
    (hz : IsZipHeld s.heap z TI TO T f) (hT : s.heap.get? T = some oT) (hTI : IsPair s.heap TI (.ref i1) (.ref i2)) (st1 : St1 i s.heap) (st2 : St2 i s.heap) (lt1 : i < n1) (lt2 : i < n2)
    (hQ : ∀ x1 x2 h' tk, P1 i x1 → P2 i x2 → IsZipHeld h' z TI TO T true → St1 (i + 1) h' → St2 (i + 1) h' → IsPair h' s.heap.objs.size x1 x2 → h'.objs.size = s.heap.objs.size + 1 →
      (∀ c o, c ≠ z → c ≠ i1 → c ≠ i2 → s.heap.get? c = some o → h'.get? c = some o) → Q (some (.ref s.heap.objs.size)) { s with heap := h', toks := tk }) :
    wpAny (model prog w) A (pyNext (.ref z)) Q E s := by
  have ty : s.TypeIs (.ref z) "zip" := ⟨_, hz, rfl⟩
  unfold pyNext
  exact wpAny_bind (wpAny_attempt (wpAny_callSpecial?_slot (name := Str.ofString "__next__") ty PySem.F.slot_zip_next
    (wpAny_call_entry PySem.F.slot_zip_next ty PySem.F.entry_zip_next (heldItem S D1 D2 hz hT hTI st1 st2 lt1 lt2 fun x1 x2 h' tk a1 a2 a3 a4 a5 a6 a7 a8 => wpAny_pure (hQ x1 x2 h' tk a1 a2 a3 a4 a5 a6 a7 a8)) (PySem.F.args_zip_next_1 _))))
theorem nextHeldEnd {Q : Option Value → Shared → Prop} (S : ZipSep2 z TI TO i1 i2 fp1 fp2) (D1 : Draws prog w A.in1 i1 fp1 n1 P1 St1)
    (hz : IsZipHeld s.heap z TI TO T f) (hT : s.heap.get? T = some oT) (hTI : IsPair s.heap TI (.ref i1) (.ref i2)) (st1 : St1 n1 s.heap)
    (hQ : ∀ h', (∀ c o, c ≠ z → c ≠ i1 → s.heap.get? c = some o → h'.get? c = some o) → Q none { s with heap := h' }) : wpAny (model prog w) A (pyNext (.ref z)) Q E s := by
  have ty : s.TypeIs (.ref z) "zip" := ⟨_, hz, rfl⟩
  unfold pyNext
  refine wpAny_bind (wpAny_attempt (wpAny_callSpecial?_slot (name := Str.ofString "__next__") ty PySem.F.slot_zip_next
    (wpAny_call_entry PySem.F.slot_zip_next ty PySem.F.entry_zip_next (heldEnd S D1 hz hT hTI st1 fun h' e hk he => ?_) (PySem.F.args_zip_next_1 _))))
  obtain ⟨o, ho, hc⟩ := he
  exact wpAny_bind (wpAny_isInstance (T := "StopIteration") (b := true) ⟨o, ho, hc⟩ isSubtype_stop (wpAny_pure (hQ _ hk)))
end
/-- the zip z amid its walk: i pairs are out, all above B -/
structure ZGt (h : Heap) (z TI TO i1 i2 B : Addr) (P1 P2 : Nat → Value → Prop) (St1 St2 : Nat → Heap → Prop) (i : Nat) (Ts : List Addr) : Prop where
  pr : IsPair h TI (.ref i1) (.ref i2)
  s1 : St1 i h
  s2 : St2 i h
  zp : (IsZip h z TI TO .none ∧ ∃ a b, IsPair h TO a b) ∨ ∃ T f oT, IsZipHeld h z TI TO T f ∧ h.get? T = some oT ∧ B ≤ T
  len : Ts.length = i
  nd : Ts.Nodup
  out : ∀ (j : Nat) (T : Addr), Ts[j]? = some T → B ≤ T ∧ ∃ x y, P1 j x ∧ P2 j y ∧ IsPair h T x y
section
variable {P : Program} {w : World} {A : Around} {R : Result → Shared → Prop} {z TI TO i1 i2 S B : Addr} {fp1 fp2 : List Addr} {n : Nat} {P1 P2 : Nat → Value → Prop} {St1 St2 : Nat → Heap → Prop} {res : Value}
theorem zipLoopG (D : ZipSep2 z TI TO i1 i2 fp1 fp2) (D1 : Draws P w A.in1.in1 i1 fp1 n P1 St1) (D2 : Draws P w A.in1.in1 i2 fp2 n P2 St2) (few : n ≤ sizeLine)
    (lt : ∀ b, b = z ∨ b = TI ∨ b = TO ∨ b ∈ fp1 ∨ b ∈ fp2 → b < B) (ltS : S < B) (offS : S ≠ z ∧ S ≠ TI ∧ S ≠ TO ∧ S ∉ fp1 ∧ S ∉ fp2) :
    ∀ (m i : Nat) (s : Shared) (Ts : List Addr), i + m = n → B ≤ s.heap.objs.size → ZGt s.heap z TI TO i1 i2 B P1 P2 St1 St2 i Ts → (∃ c, s.heap.get? S = some (seqObj "list" (Ts.map Value.ref).toArray c)) →
      (∀ (h' : Heap) (tk : Nat) (Us : List Addr) (c' : Nat), Us.length = n → Us.Nodup → (∀ (j : Nat) (T : Addr), Us[j]? = some T → B ≤ T ∧ ∃ x y, P1 j x ∧ P2 j y ∧ IsPair h' T x y) → h'.get? S = some (seqObj "list" (Us.map Value.ref).toArray c') →
        (∀ b o, b ≠ S → b ≠ z → b ≠ TO → b ≠ i1 → b ≠ i2 → s.heap.get? b = some o → h'.get? b = some o) → R (.ok (.ret res)) { s with heap := h', toks := tk }) →
      codeAny (model P w) A (.builtin "list.extend.loop" ⟨[.ref S, .ref z, res], []⟩) R s := by
  have lz := lt z (by simp)
  have lTI := lt TI (by simp)
  have lTO := lt TO (by simp)
  have li1 := lt i1 (by simp [D.mem1])
  have li2 := lt i2 (by simp [D.mem2])
  obtain ⟨oz, oTI, oTO, of1, of2⟩ := offS
  have oi1 : S ≠ i1 := fun e => of1 (e ▸ D.mem1)
  have oi2 : S ≠ i2 := fun e => of2 (e ▸ D.mem2)
  intro m
  induction m with
  | zero =>
    intro i s Ts hi hB Z ⟨c, hS⟩ hR
    have e : i = n := by omega
    subst e
    refine codeAny_builtin PySem.F.entry_extend_loop ?_
    rw [Around.under_plainId PySem.F.plain_extend_loop _]
    show wpAny _ A.in1 (pyNext (.ref z) >>= _) _ _ s
    have fin : ∀ (h' : Heap) (tk : Nat), (∀ b o, b ≠ z → b ≠ TO → b ≠ i1 → b ≠ i2 → s.heap.get? b = some o → h'.get? b = some o) → R (.ok (.ret res)) { s with heap := h', toks := tk } := fun h' tk k => by
      refine hR h' tk Ts c Z.len Z.nd (fun j T hj => ?_) (k _ _ oz oTO oi1 oi2 hS) fun b o _ b1 b2 b3 b4 e => k b o b1 b2 b3 b4 e
      obtain ⟨q1, x, y, q2, q3, q4⟩ := Z.out j T hj
      exact ⟨q1, x, y, q2, q3, pairKeep q4 fun o e => k T o (Nat.ne_of_gt (Nat.lt_of_lt_of_le lz q1)) (Nat.ne_of_gt (Nat.lt_of_lt_of_le lTO q1)) (Nat.ne_of_gt (Nat.lt_of_lt_of_le li1 q1)) (Nat.ne_of_gt (Nat.lt_of_lt_of_le li2 q1)) e⟩
    rcases Z.zp with ⟨z1, a, b, z2⟩ | ⟨T, f, oT, z1, z2, z3⟩
    · exact wpAny_bind (PySem.wpAny_pyNext_zipD2_end D D1 D2 z1 Z.pr z2 Z.s1 Z.s2 (Nat.le_refl _) (Nat.le_refl _) (Or.inl rfl) fun h' tk k => wpAny_pure (fin h' tk fun b o b1 b2 b3 b4 e => k b o b1 b2 b3 b4 e))
    · exact wpAny_bind (nextHeldEnd D D1 z1 z2 Z.pr Z.s1 fun h' k => wpAny_pure (fin h' s.toks fun b o b1 _ b3 _ e => k b o b1 b3 e))
  | succ m ih =>
    intro i s Ts hi hB Z ⟨c, hS⟩ hR
    refine codeAny_builtin PySem.F.entry_extend_loop ?_
    rw [Around.under_plainId PySem.F.plain_extend_loop _]
    show wpAny _ A.in1 (pyNext (.ref z) >>= _) _ _ s
    have szT : (Ts.map Value.ref).toArray.size = i := by rw [List.size_toArray, List.length_map, Z.len]
    have turn : ∀ (h' : Heap) (tk : Nat) (x y : Value), P1 i x → P2 i y → ((∃ T f oT, IsZipHeld h' z TI TO T f ∧ h'.get? T = some oT ∧ B ≤ T)) → St1 (i + 1) h' → St2 (i + 1) h' → IsPair h' s.heap.objs.size x y → h'.objs.size = s.heap.objs.size + 1 →
        (∀ b o, b ≠ z → b ≠ TO → b ≠ i1 → b ≠ i2 → s.heap.get? b = some o → h'.get? b = some o) →
        wpAny (model P w) A.in1 (updateSeq S (·.push (.ref s.heap.objs.size)) >>= fun _ => again (.builtin "list.extend.loop" ⟨[.ref S, .ref z, res], []⟩))
          (fun fin s' => match fin with | .done f => R (.ok f) s' | .again c' => c'.quiet = true ∧ codeAny (model P w) A c' R s') (fun e s' => R (.error e) s') { s with heap := h', toks := tk } := by
      intro h' tk x y px py hz hw1 hw2 hp hsz k
      have hS1 := k _ _ oz oTO oi1 oi2 hS
      have lim : i + 1 ≤ sizeLine := by omega
      refine wpAny_bind (wpAny_updateSeq hS1 rfl ?_ (by rw [szT]; exact Nat.le_trans (Nat.le_of_lt (by omega : i < n)) few) (by show ((Ts.map Value.ref).toArray.push _).size ≤ sizeLine + 1; rw [Array.size_push, szT]; omega))
      refine wpAny_pure ⟨plainId_quiet PySem.F.plain_extend_loop _, ?_⟩
      have other : ∀ b o, b ≠ S → h'.get? b = some o → (h'.update S (Obj.mapSeq (·.push (Value.ref s.heap.objs.size)))).get? b = some o := fun b o nb e => (Heap.get?_update_other _ _ (Ne.symm nb)).trans e
      have nS : ∀ {b : Addr}, B ≤ b → b ≠ S := fun q => Nat.ne_of_gt (Nat.lt_of_lt_of_le ltS q)
      refine ih (i + 1) _ (Ts ++ [s.heap.objs.size]) (by omega) (by show B ≤ (h'.update S _).objs.size; rw [Heap.size_update, hsz]; exact Nat.le_trans hB (Nat.le_succ _)) ?_ ?_ fun h2 tk Us c2 u1 u0 u2 u3 u4 => ?_
      · obtain ⟨T, f, oT, z1, z2, z3⟩ := hz
        exact { pr := pairKeep Z.pr fun o e => other _ o (Ne.symm oTI) (k _ o D.TIz D.TITO D.TIi1 D.TIi2 e)
                s1 := D1.frame _ _ _ hw1 fun b hb o e => other b o (fun q => of1 (q ▸ hb)) e
                s2 := D2.frame _ _ _ hw2 fun b hb o e => other b o (fun q => of2 (q ▸ hb)) e
                zp := Or.inr ⟨T, f, oT, other _ _ (Ne.symm oz) z1, other _ _ (nS z3) z2, z3⟩
                len := by rw [List.length_append, Z.len]; rfl
                nd := List.nodup_append.mpr ⟨Z.nd, List.nodup_cons.mpr ⟨List.not_mem_nil, List.nodup_nil⟩, fun T hT U hU e => by
                  obtain ⟨j, hj⟩ := List.mem_iff_getElem?.mp hT
                  obtain ⟨_, x, y, _, _, q4⟩ := Z.out j T hj
                  rw [List.mem_singleton] at hU
                  have l := Heap.lt_size q4
                  rw [e, hU] at l
                  exact Nat.lt_irrefl _ l⟩
                out := fun j T hj => by
                  by_cases c : j < Ts.length
                  · rw [List.getElem?_append_left c] at hj
                    obtain ⟨q1, x, y, q2, q3, q4⟩ := Z.out j T hj
                    exact ⟨q1, x, y, q2, q3, pairKeep q4 fun o e => other T o (nS q1) (k T o (Nat.ne_of_gt (Nat.lt_of_lt_of_le lz q1)) (Nat.ne_of_gt (Nat.lt_of_lt_of_le lTO q1)) (Nat.ne_of_gt (Nat.lt_of_lt_of_le li1 q1)) (Nat.ne_of_gt (Nat.lt_of_lt_of_le li2 q1)) e)⟩
                  · have len := Z.len
                    rw [List.getElem?_append_right (by omega)] at hj
                    have hj2 := (List.getElem?_eq_some_iff.mp hj).1
                    rw [List.length_singleton] at hj2
                    have ej : j = i := by omega
                    subst ej
                    rw [show j - Ts.length = 0 by omega] at hj
                    injection hj with hj
                    subst hj
                    exact ⟨hB, x, y, px, py, pairKeep hp fun o e => other _ o (nS hB) e⟩ }
      · have q := Heap.get?_update_self (Obj.mapSeq (·.push (Value.ref s.heap.objs.size))) hS1 rfl
        refine ⟨_, q.trans (congrArg (fun l : Array Value => some (seqObj "list" l _)) ?_)⟩
        show (Ts.map Value.ref).toArray.push (Value.ref s.heap.objs.size) = ((Ts ++ [s.heap.objs.size]).map Value.ref).toArray
        rw [List.push_toArray, List.map_append]
        rfl
      · exact hR h2 tk Us c2 u1 u0 u2 u3 fun b o b0 b1 b2 b3 b4 e => u4 b o b0 b1 b2 b3 b4 (other b o b0 (k b o b1 b2 b3 b4 e))
    rcases Z.zp with ⟨z1, a, b, z2⟩ | ⟨T, f, oT, z1, z2, z3⟩
    · refine wpAny_bind (PySem.wpAny_pyNext_zipD2_item D D1 D2 z1 Z.pr z2 Z.s1 Z.s2 (by omega) (by omega) fun x y h' tk px py b1 b2 b3 b4 b5 b6 k => ?_)
      exact turn h' tk x y px py ⟨_, false, _, b1, b5, hB⟩ b3 b4 b5 b6 fun b o n1 n2 n3 n4 e => k b o n1 n2 n3 n4 e
    · refine wpAny_bind (nextHeldItem D D1 D2 z1 z2 Z.pr Z.s1 Z.s2 (by omega) (by omega) fun x y h' tk px py b1 b3 b4 b5 b6 k => ?_)
      have n1 : T ≠ z := Nat.ne_of_gt (Nat.lt_of_lt_of_le lz z3)
      have n3 : T ≠ i1 := Nat.ne_of_gt (Nat.lt_of_lt_of_le li1 z3)
      have n4 : T ≠ i2 := Nat.ne_of_gt (Nat.lt_of_lt_of_le li2 z3)
      exact turn h' tk x y px py ⟨T, true, oT, b1, k _ _ n1 n3 n4 z2, z3⟩ b3 b4 b5 b6 fun b o n1 _ n3 n4 e => k b o n1 n3 n4 e
theorem listZipG {E : Value → Shared → Prop} {s : Shared} {Q : Value → Shared → Prop} (D : ZipSep2 z TI TO i1 i2 fp1 fp2) (D1 : Draws P w A.in1.in1.in1 i1 fp1 n P1 St1) (D2 : Draws P w A.in1.in1.in1 i2 fp2 n P2 St2) (few : n ≤ sizeLine) (hz : IsZip s.heap z TI TO .none) (hTI : IsPair s.heap TI (.ref i1) (.ref i2)) (hTO : IsPair s.heap TO .none .none)
    (h1 : St1 0 s.heap) (h2 : St2 0 s.heap) (in1 : ∀ b ∈ fp1, b < s.heap.objs.size) (in2 : ∀ b ∈ fp2, b < s.heap.objs.size)
    (hQ : ∀ (h' : Heap) (tk : Nat) (Us : List Addr) (c' : Nat), Us.length = n → Us.Nodup → (∀ (j : Nat) (T : Addr), Us[j]? = some T → s.heap.objs.size < T ∧ ∃ x y, P1 j x ∧ P2 j y ∧ IsPair h' T x y) → h'.get? s.heap.objs.size = some (seqObj "list" (Us.map Value.ref).toArray c') →
      (∀ b o, b ≠ z → b ≠ TO → b ≠ i1 → b ≠ i2 → s.heap.get? b = some o → h'.get? b = some o) → Q (.ref s.heap.objs.size) { s with heap := h', toks := tk }) :
    wpAny (model P w) A (call (.type "list") [.ref z]) Q E s := by
  refine callType_codes (Q₁ := fun obj s1 => obj = .ref s.heap.objs.size ∧ s1 = { s with heap := s.heap.push { cls := .type "list", data := .seq #[] } }) PySem.F.called_list (PySem.F.typeCall_list_1 _) PySem.F.entry_list_init (code_list_new _ ⟨rfl, rfl⟩) fun obj s1 hs1 => ?_
  obtain ⟨rfl, rfl⟩ := hs1
  have at0 : (s.heap.push { cls := .type "list", data := .seq #[] }).get? s.heap.objs.size = some { cls := .type "list", data := .seq #[] } := Heap.get?_push_size _ rfl
  have old : ∀ b o, s.heap.get? b = some o → (s.heap.push { cls := .type "list", data := .seq #[] }).get? b = some o := fun b o e => Heap.get?_push_of_some _ e
  refine ⟨⟨_, at0, rfl⟩, PySem.F.args_list_init_2 _ _, ?_⟩
  show wpAny _ _ (do let old ← Builtin.List.listItems (.ref s.heap.objs.size); Builtin.List.listUpdate (.ref s.heap.objs.size) (fun _ => #[]); letGo old.toList.reverse; Builtin.List.listExtendWith (.ref s.heap.objs.size) (.ref z) .none) _ _ _
  refine wpAny_bind ?_
  unfold Builtin.List.listItems
  refine wpAny_bind (wpAny_seqItems at0 rfl (wpAny_pure ?_))
  show wpAny _ _ (updateSeq s.heap.objs.size (fun _ => #[]) >>= fun _ => letGo (#[] : Array Value).toList.reverse >>= fun _ => Builtin.List.listExtendWith (.ref s.heap.objs.size) (.ref z) .none) _ _ _
  refine wpAny_bind (wpAny_updateSeq at0 rfl (wpAny_bind (wpAny_letGo ?_)))
  have at1 := Heap.get?_update_self (Obj.mapSeq (fun _ => (#[] : Array Value))) at0 rfl
  have ne : ∀ {b : Addr} {o : Obj}, s.heap.get? b = some o → s.heap.objs.size ≠ b := fun e => Nat.ne_of_gt (Heap.lt_size e)
  have old1 : ∀ b o, s.heap.get? b = some o → ((s.heap.push { cls := .type "list", data := .seq #[] }).update s.heap.objs.size (Obj.mapSeq (fun _ => (#[] : Array Value)))).get? b = some o := fun b o e => (Heap.get?_update_other _ _ (ne e)).trans (old b o e)
  generalize hh1 : ((s.heap.push { cls := .type "list", data := .seq #[] }).update s.heap.objs.size (Obj.mapSeq (fun _ => (#[] : Array Value)))) = hp1 at at1 old1
  have sz1 : hp1.objs.size = s.heap.objs.size + 1 := by rw [← hh1, Heap.size_update, Heap.size_push]
  unfold Builtin.List.listExtendWith
  have tz : Shared.TypeIs { s with heap := hp1 } (.ref z) "zip" := ⟨_, old1 _ _ hz, rfl⟩
  refine wpAny_bind (wpAny_typeOf tz ?_)
  have k1 : Builtin.List.listSameRef (.ref s.heap.objs.size) (.ref z) = false := by simp [Builtin.List.listSameRef, ne hz]
  have k2 : (Value.type "zip" == Value.type "list") = false := by decide
  have k3 : (Value.type "zip" == Value.type "tuple") = false := by decide
  simp only [k1, k2, k3, Bool.or_false, Bool.false_eq_true, if_false]
  refine wpAny_bind (wpAny_pyIter_zip (old1 _ _ hz) (wpAny_bind (wpAny_holding ?_)))
  unfold Builtin.List.listLengthHint
  refine wpAny_bind (wpAny_specialOf tz zip_no_len ?_)
  show wpAny _ _ (specialOf (Value.ref z) (Str.ofString "__length_hint__") >>= _) _ _ _
  refine wpAny_bind (wpAny_specialOf tz zip_no_hint (wpAny_pure ?_))
  show wpAny _ _ (rule "list.extend.makes-room" >>= fun _ => Builtin.List.listTouch (.ref s.heap.objs.size) >>= fun _ => again (.builtin "list.extend.loop" ⟨[.ref s.heap.objs.size, .ref z, .none], []⟩)) _ _ _
  refine wpAny_bind (wpAny_rule (wpAny_bind ?_))
  show wpAny _ _ (updateSeq s.heap.objs.size (·.push .none) >>= fun _ => updateSeq s.heap.objs.size (·.pop)) _ _ _
  refine wpAny_bind (wpAny_updateSeq at1 rfl ?_)
  have at2 := Heap.get?_update_self (Obj.mapSeq (·.push Value.none)) at1 rfl
  refine wpAny_updateSeq (hz := by seq_fits) at2 rfl ?_
  have at3 := Heap.get?_update_self (Obj.mapSeq (·.pop)) at2 rfl
  have old3 : ∀ b o, s.heap.get? b = some o → ((hp1.update s.heap.objs.size (Obj.mapSeq (·.push Value.none))).update s.heap.objs.size (Obj.mapSeq (·.pop))).get? b = some o := fun b o e => (Heap.get?_update_other _ _ (ne e)).trans ((Heap.get?_update_other _ _ (ne e)).trans (old1 b o e))
  have sz3 : ((hp1.update s.heap.objs.size (Obj.mapSeq (·.push Value.none))).update s.heap.objs.size (Obj.mapSeq (·.pop))).objs.size = s.heap.objs.size + 1 := by rw [Heap.size_update, Heap.size_update, sz1]
  generalize (hp1.update s.heap.objs.size (Obj.mapSeq (·.push Value.none))).update s.heap.objs.size (Obj.mapSeq (·.pop)) = hp3 at at3 old3 sz3
  refine wpAny_pure ⟨plainId_quiet PySem.F.plain_extend_loop _, ?_⟩
  have nS1 : s.heap.objs.size ∉ fp1 := fun q => Nat.lt_irrefl _ (in1 _ q)
  have nS2 : s.heap.objs.size ∉ fp2 := fun q => Nat.lt_irrefl _ (in2 _ q)
  refine zipLoopG D D1 D2 few (B := s.heap.objs.size + 1) (fun b hb => ?_) (Nat.lt_succ_self _) ⟨ne hz, ne hTI, ne hTO, nS1, nS2⟩ n 0 _ [] (Nat.zero_add _) (Nat.le_of_eq sz3.symm) ?_ ⟨_, at3⟩ fun h' tk Us c' u1 u0 u2 u3 u4 => ?_
  · have up : ∀ {b : Addr} {o : Obj}, s.heap.get? b = some o → b < s.heap.objs.size + 1 := fun e => Nat.lt_succ_of_lt (Heap.lt_size e)
    rcases hb with rfl | rfl | rfl | q | q
    · exact up hz
    · exact up hTI
    · exact up hTO
    · exact Nat.lt_succ_of_lt (in1 _ q)
    · exact Nat.lt_succ_of_lt (in2 _ q)
  · exact { pr := old3 _ _ hTI, s1 := D1.frame _ _ _ h1 fun b _ o e => old3 _ o e, s2 := D2.frame _ _ _ h2 fun b _ o e => old3 _ o e, zp := Or.inl ⟨old3 _ _ hz, _, _, old3 _ _ hTO⟩, len := rfl, nd := List.nodup_nil, out := fun j T hj => by simp at hj }
  · exact ⟨rfl, hQ h' tk Us c' u1 u0 u2 u3 fun b o b1 b2 b3 b4 e => u4 b o (Ne.symm (ne e)) b1 b2 b3 b4 (old3 b o e)⟩
end
theorem ne_nat {a b : Nat} (h : a ≠ b) : (show Addr from a) ≠ (show Addr from b) := h
theorem off_one {a n : Nat} (h : a ≠ n) : (show Addr from a) ∉ [(show Addr from n)] := fun q => h (List.mem_singleton.mp q)
theorem off_two {a m b : Nat} (h : a ≠ m) (k : a ≠ b) : (show Addr from a) ∉ [(show Addr from m), (show Addr from b)] := fun q => by
  rcases List.mem_cons.mp q with q | q
  · exact h q
  · exact k (List.mem_singleton.mp q)
theorem sep_new (n b : Nat) (h : b < n) : ZipSep2 (n + 4) (n + 2) (n + 3) n (n + 1) [n] [n + 1, b] where
  TIz := ne_nat (a := n + 2) (b := n + 4) (by omega)
  TOz := ne_nat (a := n + 3) (b := n + 4) (by omega)
  TITO := ne_nat (a := n + 2) (b := n + 3) (by omega)
  TIi1 := ne_nat (a := n + 2) (b := n) (by omega)
  mem1 := List.mem_singleton.mpr rfl
  zf1 := off_one (a := n + 4) (n := n) (by omega)
  Tf1 := off_one (a := n + 3) (n := n) (by omega)
  TIi2 := ne_nat (a := n + 2) (b := n + 1) (by omega)
  mem2 := List.mem_cons_self
  zf2 := off_two (a := n + 4) (m := n + 1) (b := b) (by omega) (by omega)
  Tf2 := off_two (a := n + 3) (m := n + 1) (b := b) (by omega) (by omega)
  sep1_2 := off_two (a := n) (m := n + 1) (b := b) (by omega) (by omega)
  sep2_1 := off_one (a := n + 1) (n := n) (by omega)
section
variable {X : Cx} {K : PySem.W.Frag}
def tListZipT (K : PySem.W.Frag) (ta : TA) : TE := fun σ H Q => ta σ H fun vs H1 => ∃ (x : Str) (b : Addr) (ys : List V), vs = [.str x, .ref b] ∧ x.cps.size ≤ 4000 ∧ SqL K H1 b ys ∧ ys.length = x.cps.size ∧
  ∀ (L : Addr) (H2 : Hp) (Ts : List Addr), H1 L = none → Same H1 H2 → H2 L = some (.lst (Ts.map V.ref)) → Ts.length = x.cps.size → (∀ (j c : Nat) (y : V), x.cps[j]? = some c → ys[j]? = some y → ∃ T, Ts[j]? = some T ∧ H2 T = some (.tup [sg c, y])) → Q (.ref L) H2
theorem rd_lzT {ta : TA} {σ : L2.St} {H : Hp} {Q : VK} (q : ta σ H fun vs H1 => ∃ (x : Str) (b : Addr) (ys : List V), vs = [.str x, .ref b] ∧ x.cps.size ≤ 4000 ∧ SqL K H1 b ys ∧ ys.length = x.cps.size ∧
  ∀ (L : Addr) (H2 : Hp) (Ts : List Addr), H1 L = none → Same H1 H2 → H2 L = some (.lst (Ts.map V.ref)) → Ts.length = x.cps.size → (∀ (j c : Nat) (y : V), x.cps[j]? = some c → ys[j]? = some y → ∃ T, Ts[j]? = some T ∧ H2 T = some (.tup [sg c, y])) → Q (.ref L) H2) : tListZipT K ta σ H Q := q
theorem pe_listZipT {e e2 : Expr} {ta : TA} {p p2 pos q : Pos} (hc : X.calm = true) (hg : Gl X "list") (hm : X.mg "list" = none) (hg2 : Gl X "zip") (hm2 : X.mg "zip" = none) (ha : PA X [e, e2] ta)
    (hs : starEach [e, e2] X.env = (false, eval e X.env) :: starEach [e2] X.env := by rfl) (hpl : (backTo q (starEach [e2] X.env)).any (·.1) = false := by rfl) (h : X.K = K := by rfl) :
    PE X (.Call (.Name "list" p) [.Call (.Name "zip" p2) [e, e2] [] q] [] pos) (tListZipT K ta) := by
  subst h
  refine ⟨fun pins s σ H Q I want => ?_⟩
  refine Call_ (ld_blt (u := .type "list") I hg hm (by decide +kernel) (PyProof.Rows.callWith_type1 (PyProof.Rows.args_cons ?_ rfl) rfl rfl))
  refine Call_ (ld_blt I hg2 hm2 PyProof.Rows.boot_zip (PyProof.Rows.callWith_type1 (thn (ha.run q pins s σ H _ I want) fun us s1 ⟨vs, H1, I1, r1, q1⟩ => ?_) hs hpl))
  obtain ⟨x, b, ys, ex, few, hy, len, qq⟩ := q1
  subst ex
  obtain ⟨u1, u2, rfl, ra, rb⟩ : ∃ u1 u2, us = [u1, u2] ∧ RelV (.str x) u1 ∧ RelV (.ref b) u2 := by
    cases r1 with
    | cons r rr =>
      cases rr with
      | cons r' rr =>
        cases rr
        exact ⟨_, _, rfl, r, r'⟩
  obtain ⟨t, rfl⟩ := ra
  cases rb
  obtain ⟨its2, rv2, p2', z2⟩ := I1.list hy
  have l2 := rv2.length
  have lb : b < s1.heap.objs.size := p2'.lt
  have lim : x.cps.size ≤ sizeLine := by rw [sizeLine_eq]; omega
  refine zip_begins2 (begins_text x t) (begins_list b its2.toArray) trivial p2'.isList fun h' hz hTI hTO w1 w2 hsz hk => ?_
  refine PyProof.Rows.args_nil ?_
  have hd := I1.ok.hd hc
  have D := sep_new s1.heap.objs.size b lb
  have e2 : its2.toArray.size = x.cps.size := by rw [List.size_toArray]; omega
  have D2 := Draws.list (prog := X.prog) (w := X.w) (A := X.A.in1.in1.in1) (by simp [hd]) (s1.heap.objs.size + 1) b (by exact Nat.ne_of_lt (Nat.lt_succ_of_lt lb)) its2.toArray
  rw [e2] at D2
  refine listZipG (s := { s1 with heap := h' }) D (Draws.text (by simp [hd]) s1.heap.objs.size x t) D2 lim hz hTI hTO ⟨_, w1, rfl, rfl⟩ ⟨⟨_, w2, rfl, rfl⟩, p2'.isList.at fun o e => hk _ o e⟩ (fun c q => by
    have q := List.mem_singleton.mp q
    rw [q]
    show s1.heap.objs.size < h'.objs.size
    rw [hsz]
    exact Nat.lt_add_of_pos_right (by decide)) (fun c q => by
    show c < h'.objs.size
    rw [hsz]
    rcases List.mem_cons.mp q with q | q
    · rw [q]
      exact Nat.add_lt_add_left (by decide) _
    · rw [List.mem_singleton.mp q]
      exact Nat.lt_add_right 5 lb) fun h2 tk Us c' n1 n0 n2 n3 n4 => ?_
  have above : ∀ {c : Addr} {o : Obj}, s1.heap.get? c = some o → h2.get? c = some o := fun {c o} e => by
    have lt := Heap.lt_size e
    exact n4 c o (Nat.ne_of_lt (Nat.lt_add_right 4 lt)) (Nat.ne_of_lt (Nat.lt_add_right 3 lt)) (Nat.ne_of_lt lt) (Nat.ne_of_lt (Nat.lt_add_right 1 lt)) (hk c o e)
  have hsz' : h'.objs.size = s1.heap.objs.size + 5 := hsz
  -- what is tracked from here on
  have bigT : ∀ (j : Nat) (T : Addr), Us[j]? = some T → h'.objs.size < T := fun j T hj => (n2 j T hj).1
  have newT : ∀ T ∈ Us, H1 T = none ∧ T ≠ h'.objs.size := fun T hT => by
    obtain ⟨j, hj⟩ := List.mem_iff_getElem?.mp hT
    have := bigT j T hj
    exact ⟨I1.hok.fresh (Nat.le_of_lt (Nat.lt_of_le_of_lt (by rw [hsz']; exact Nat.le_add_right _ _) this)), Nat.ne_of_gt this⟩
  have newL : H1 h'.objs.size = none := I1.hok.fresh (by rw [hsz']; exact Nat.le_add_right _ _)
  have at_ : ∀ (j : Nat) (T : Addr), Us[j]? = some T → ∃ x' y u v, (x.cps.toList.map sg)[j]? = some x' ∧ ys[j]? = some y ∧ RelV x' u ∧ RelV y v ∧ IsPair h2 T u v := fun j T hj => by
    obtain ⟨_, u, v, e1, e2, pr⟩ := n2 j T hj
    obtain ⟨c, t', ec, rfl⟩ := e1
    obtain ⟨y, ey, ry⟩ := vals_get rv2 (j := j) (u := v) (by simpa using e2)
    exact ⟨sg c, y, _, v, by rw [List.getElem?_map, Array.getElem?_toList, ec]; rfl, ey, ⟨t', rfl⟩, ry, pr⟩
  let H2 : Hp := fun c => if c = h'.objs.size then some (.lst (Us.map V.ref)) else if c ∈ Us then some (.tup (pick2 Us (x.cps.toList.map sg) ys c)) else H1 c
  have gL : H2 h'.objs.size = some (.lst (Us.map V.ref)) := if_pos rfl
  have gT : ∀ (j : Nat) (T : Addr) (x' y : V), Us[j]? = some T → (x.cps.toList.map sg)[j]? = some x' → ys[j]? = some y → H2 T = some (.tup [x', y]) := fun j T x' y hj hx hy => by
    have hT := List.mem_of_getElem? hj
    show (if T = h'.objs.size then _ else if T ∈ Us then _ else _) = _
    rw [if_neg (newT T hT).2, if_pos hT, pick2_at n0 hj hx hy]
  have same2 : Same H1 H2 := fun c o e => by
    have m1 : c ≠ h'.objs.size := fun z => by
      rw [z, newL] at e
      cases e
    have m2 : c ∉ Us := fun z => by
      rw [(newT c z).1] at e
      cases e
    show (if c = h'.objs.size then _ else if c ∈ Us then _ else _) = _
    rw [if_neg m1, if_neg m2]
    exact e
  have szU : (Us.map V.ref).length ≤ sizeLine := by rw [List.length_map, n1]; exact lim
  have un : Un (frs X.stack) [] H1 H2 s1.heap h2 := Un.more (fun c o e => above e) same2 fun c e lt => by
    show (if c = h'.objs.size then _ else if c ∈ Us then _ else _) = _
    rw [if_neg fun z => by rw [z, hsz'] at lt; exact Nat.not_lt_of_le (Nat.le_add_right _ 5) lt, if_neg fun z => ?_]
    · exact e
    · obtain ⟨j, hj⟩ := List.mem_iff_getElem?.mp z
      have q := bigT j c hj
      rw [hsz'] at q
      exact Nat.lt_irrefl _ (Nat.lt_of_lt_of_le (Nat.lt_of_lt_of_le lt (Nat.le_add_right _ 5)) (Nat.le_of_lt q))
  have hok : HOk X.prog X.w H2 h2 := HOk.more I1.hok (fun c o e => above e) same2 fun c o e0 e => by
    have e' : (if c = h'.objs.size then some (.lst (Us.map V.ref)) else if c ∈ Us then some (.tup (pick2 Us (x.cps.toList.map sg) ys c)) else H1 c) = some o := e
    by_cases c1 : c = h'.objs.size
    · rw [if_pos c1] at e'
      cases e'
      subst c1
      exact ⟨szU, Us.map Value.ref, c', vals_refs Us, n3⟩
    · rw [if_neg c1] at e'
      by_cases c2 : c ∈ Us
      · obtain ⟨j, hj⟩ := List.mem_iff_getElem?.mp c2
        obtain ⟨x', y, u, v, ex, ey, rx, ry, pr⟩ := at_ j c hj
        have g := gT j c x' y hj ex ey
        rw [e] at g
        cases g
        refine ⟨by show 2 ≤ sizeLine; decide, [u, v], .cons rx (.cons ry .nil), _, pr, rfl, 0, rfl⟩
      · rw [if_neg c2, e0] at e'
        cases e'
  exact ⟨.ref h'.objs.size, H2, I1.call' (ch := []) rfl un hok I1.bare (fun _ z => nomatch z), rfl, qq h'.objs.size H2 Us newL same2 gL n1 fun j c y hx hy => by
    have lt : j < Us.length := by
      have := (Array.getElem?_eq_some_iff.mp hx).1
      omega
    exact ⟨Us[j], List.getElem?_eq_getElem lt, gT j _ (sg c) y (List.getElem?_eq_getElem lt) (by rw [List.getElem?_map, Array.getElem?_toList, hx]; rfl) hy⟩⟩
end
end LX

/-! Calls that write two or three lists; results that are owned. -/
namespace LQ
open PySem L2 LX
mutual
theorem Fr.hidF {F0 G : Hp} {ps : List Addr} (hp : ∀ p ∈ ps, ∀ xs, G p ≠ some (.tup xs)) : ∀ {v : V} {d : PyData}, Fr F0 G v d → flatD d = true → Fr F0 (hid G ps) v d
  | _, _, .non, _ => .non
  | _, _, .bl b, _ => .bl b
  | _, _, .int i, _ => .int i
  | _, _, .str x, _ => .str x
  | _, _, .lst _ _ _, e => by simp [flatD] at e
  | _, _, .tup h hs, e => .tup (by rw [hid_out fun z => hp _ z _ h]; exact h) (FrL.hidF hp hs (by simpa only [flatD] using e))
  | _, _, .dic _ _ _, e => by simp [flatD] at e
theorem FrL.hidF {F0 G : Hp} {ps : List Addr} (hp : ∀ p ∈ ps, ∀ xs, G p ≠ some (.tup xs)) : ∀ {v : List V} {d : List PyData}, FrL F0 G v d → flatDs d = true → FrL F0 (hid G ps) v d
  | _, _, .nil, _ => .nil
  | _, _, .cons h hs, e => by
    simp only [flatDs, Bool.and_eq_true] at e
    exact .cons (Fr.hidF hp h e.1) (FrL.hidF hp hs e.2)
end
section
variable {ms : List Addr} {H0 F0 G G1 G2 H H' : Hp} {cs : List (Addr × HO)} {p q r a : Addr} {o1 o2 o3 u1 u2 u3 : HO} {vs us ws : List V} {ds : List PyData}
theorem Sep.unshare (S : Sep ms H0 G2 H' cs) (f : Fr H0 G2 (.ref a) (.list ds)) : ∃ G' vs, Sep ms H0 G' H' ((a, .lst vs) :: cs) ∧ H0 a = none ∧ FrL H0 G' vs ds ∧ (∀ G0, Same G0 G2 → G0 a = none → Same G0 G') ∧ ∀ F0 vs ds, FrL F0 G2 vs ds → flatDs ds = true → FrL F0 G' vs ds := by
  obtain ⟨vs, h1, h2⟩ := li f
  have n0 := li0 f
  have out : ∀ b, b ≠ a → hid G2 [a] b = G2 b := fun b hb => hid_out fun z => hb (List.mem_singleton.mp z)
  refine ⟨hid G2 [a], vs, ⟨fun b o e => S.sub b o (hid_some e).2, fun c hc => ?_, List.nodup_cons.mpr ⟨fun z => ?_, S.nd⟩, fun p hp => List.mem_cons_of_mem _ (S.msc p hp), S.hms, S.old, fun b o e n => ?_, fun b xs e => ?_⟩, n0, FrL.off f h2 (by simp), fun G0 s n b o e => ?_, fun F0 vs ds h e => h.hidF (fun p hp xs z => ?_) e⟩
  · rcases List.mem_cons.mp hc with z | z
    · rw [z]
      exact ⟨S.sub _ _ h1, hid_in (List.mem_singleton.mpr rfl), lst_tup⟩
    · obtain ⟨k1, k2, k3⟩ := S.cel c z
      refine ⟨k1, ?_, k3⟩
      by_cases e : c.1 = a
      · exact hid_in (List.mem_singleton.mpr e)
      · rw [out _ e]
        exact k2
  · obtain ⟨c, hc, e⟩ := List.mem_map.mp z
    have := (S.cel c hc).2.1
    rw [e, h1] at this
    cases this
  · rw [out b fun z => by rw [z, n0] at e; cases e]
    exact S.base b o e n
  · have g := S.tups b xs e
    rw [out b fun z => by rw [z, h1] at g; cases g]
    exact g
  · rw [out b fun z => by rw [z, n] at e; cases e]
    exact s b o e
  · rw [List.mem_singleton.mp hp, h1] at z
    cases z
theorem ix_fst {i : Nat} {c : Addr × HO} (h : cs[i]? = some c) : (cs.map (·.1))[i]? = some c.1 := by rw [List.getElem?_map, h]; rfl
/-- after a call that has written the i-th and the j-th -/
theorem Sep.ret2 (S : Sep ms H0 G H cs) (i j : Nat) (hi : cs[i]? = some (p, o1)) (hj : cs[j]? = some (q, o2)) (n : i ≠ j) (R : Ret [p, q] H G1 H') (hp : H' p = some u1) (hq : H' q = some u2) (k1 : ∀ xs, u1 ≠ .tup xs) (k2 : ∀ xs, u2 ≠ .tup xs) :
    ∃ G', Sep ms H0 G' H' ((cs.set i (p, u1)).set j (q, u2)) ∧ Same G G' ∧ (∀ v d, Fr H G1 v d → Fr H0 G' v d) ∧ ∀ v d, FrL H G1 v d → FrL H0 G' v d := by
  have hj' : (cs.set i (p, u1))[j]? = some (q, o2) := by rw [List.getElem?_set_ne n]; exact hj
  refine S.ret R (fun b hb => ?_) ((map_fst_set hj').trans (map_fst_set hi)) fun c hc => ?_
  · rcases List.mem_cons.mp hb with z | z
    · rw [z]
      exact List.mem_map.mpr ⟨_, List.mem_of_getElem? hi, rfl⟩
    · rw [List.mem_singleton.mp z]
      exact List.mem_map.mpr ⟨_, List.mem_of_getElem? hj, rfl⟩
  · obtain ⟨l, hl⟩ := List.getElem?_of_mem hc
    by_cases e2 : l = j
    · subst e2
      rw [List.getElem?_set_self (List.getElem?_eq_some_iff.mp hj').1] at hl
      cases hl
      exact ⟨hq, k2⟩
    · rw [List.getElem?_set_ne (Ne.symm e2)] at hl
      by_cases e1 : l = i
      · subst e1
        rw [List.getElem?_set_self (List.getElem?_eq_some_iff.mp hi).1] at hl
        cases hl
        exact ⟨hp, k1⟩
      · rw [List.getElem?_set_ne (Ne.symm e1)] at hl
        have m := S.cel c (List.mem_of_getElem? hl)
        refine ⟨R.sub _ _ (R.base _ _ m.1 fun z => ?_), m.2.2⟩
        rcases List.mem_cons.mp z with z | z
        · exact e1 (nodup_ix S.nd (by rw [ix_fst hl, z]) (ix_fst hi))
        · exact e2 (nodup_ix S.nd (by rw [ix_fst hl, List.mem_singleton.mp z]) (ix_fst hj))
theorem Sep.ret3 (S : Sep ms H0 G H cs) (i j k : Nat) (hi : cs[i]? = some (p, o1)) (hj : cs[j]? = some (q, o2)) (hk : cs[k]? = some (r, o3)) (n1 : i ≠ j) (n2 : i ≠ k) (n3 : j ≠ k) (R : Ret [p, q, r] H G1 H') (hp : H' p = some u1) (hq : H' q = some u2) (hr : H' r = some u3) (k1 : ∀ xs, u1 ≠ .tup xs) (k2 : ∀ xs, u2 ≠ .tup xs) (k3 : ∀ xs, u3 ≠ .tup xs) :
    ∃ G', Sep ms H0 G' H' (((cs.set i (p, u1)).set j (q, u2)).set k (r, u3)) ∧ Same G G' ∧ (∀ v d, Fr H G1 v d → Fr H0 G' v d) ∧ ∀ v d, FrL H G1 v d → FrL H0 G' v d := by
  have hj' : (cs.set i (p, u1))[j]? = some (q, o2) := by rw [List.getElem?_set_ne n1]; exact hj
  have hk' : ((cs.set i (p, u1)).set j (q, u2))[k]? = some (r, o3) := by rw [List.getElem?_set_ne n3, List.getElem?_set_ne n2]; exact hk
  refine S.ret R (fun b hb => ?_) (((map_fst_set hk').trans (map_fst_set hj')).trans (map_fst_set hi)) fun c hc => ?_
  · rcases List.mem_cons.mp hb with z | z
    · rw [z]
      exact List.mem_map.mpr ⟨_, List.mem_of_getElem? hi, rfl⟩
    · rcases List.mem_cons.mp z with z | z
      · rw [z]
        exact List.mem_map.mpr ⟨_, List.mem_of_getElem? hj, rfl⟩
      · rw [List.mem_singleton.mp z]
        exact List.mem_map.mpr ⟨_, List.mem_of_getElem? hk, rfl⟩
  · obtain ⟨l, hl⟩ := List.getElem?_of_mem hc
    by_cases e3 : l = k
    · subst e3
      rw [List.getElem?_set_self (List.getElem?_eq_some_iff.mp hk').1] at hl
      cases hl
      exact ⟨hr, k3⟩
    · rw [List.getElem?_set_ne (Ne.symm e3)] at hl
      by_cases e2 : l = j
      · subst e2
        rw [List.getElem?_set_self (List.getElem?_eq_some_iff.mp hj').1] at hl
        cases hl
        exact ⟨hq, k2⟩
      · rw [List.getElem?_set_ne (Ne.symm e2)] at hl
        by_cases e1 : l = i
        · subst e1
          rw [List.getElem?_set_self (List.getElem?_eq_some_iff.mp hi).1] at hl
          cases hl
          exact ⟨hp, k1⟩
        · rw [List.getElem?_set_ne (Ne.symm e1)] at hl
          have m := S.cel c (List.mem_of_getElem? hl)
          refine ⟨R.sub _ _ (R.base _ _ m.1 fun z => ?_), m.2.2⟩
          rcases List.mem_cons.mp z with z | z
          · exact e1 (nodup_ix S.nd (by rw [ix_fst hl, z]) (ix_fst hi))
          · rcases List.mem_cons.mp z with z | z
            · exact e2 (nodup_ix S.nd (by rw [ix_fst hl, z]) (ix_fst hj))
            · exact e3 (nodup_ix S.nd (by rw [ix_fst hl, List.mem_singleton.mp z]) (ix_fst hk))
theorem Sep.hid2 (S : Sep ms H0 G H cs) (i j : Nat) (hi : cs[i]? = some (p, o1)) (hj : cs[j]? = some (q, o2)) : Same G (hid H [p, q]) := S.hidS fun b hb => by
  rcases List.mem_cons.mp hb with z | z
  · rw [z]
    exact S.gnone i hi
  · rw [List.mem_singleton.mp z]
    exact S.gnone j hj
theorem Sep.hid3 (S : Sep ms H0 G H cs) (i j k : Nat) (hi : cs[i]? = some (p, o1)) (hj : cs[j]? = some (q, o2)) (hk : cs[k]? = some (r, o3)) : Same G (hid H [p, q, r]) := S.hidS fun b hb => by
  rcases List.mem_cons.mp hb with z | z
  · rw [z]
    exact S.gnone i hi
  · rcases List.mem_cons.mp z with z | z
    · rw [z]
      exact S.gnone j hj
    · rw [List.mem_singleton.mp z]
      exact S.gnone k hk
theorem Sep.start3 (h : H p = some (.lst us)) (k : H q = some (.lst vs)) (l : H r = some (.lst ws)) (n1 : p ≠ q) (n2 : p ≠ r) (n3 : q ≠ r) : Sep [p, q, r] H (hid H [p, q, r]) H [(p, .lst us), (q, .lst vs), (r, .lst ws)] :=
  Sep.startM H [(p, .lst us), (q, .lst vs), (r, .lst ws)] (fun c hc => by
    rcases List.mem_cons.mp hc with z | z
    · rw [z]
      exact ⟨h, lst_tup⟩
    · rcases List.mem_cons.mp z with z | z
      · rw [z]
        exact ⟨k, lst_tup⟩
      · rw [List.mem_singleton.mp z]
        exact ⟨l, lst_tup⟩) (by simp [n1, n2, n3])
/-- another owned list, read by a call that writes ps -/
theorem Sep.rdM (S : Sep ms H0 G H cs) {ps : List Addr} (j : Nat) (hj : cs[j]? = some (q, .lst vs)) (n : q ∉ ps) (s : Same G (hid H ps)) (f : FrL F0 G vs ds) : Fr E0h (hid H ps) (.ref q) (.list ds) :=
  .lst (by rw [hid_out n]; exact S.get j hj) rfl ((f.rp).same s)
end
def compLS {α β S : Type} (f : α → S → Option (Option β × S)) (l : List α) (s : S) : Option (List β × S) := cond (decide (l.length ≤ LIM)) (compS f l s) none
section
variable {ms : List Addr} {H0 F0 G H : Hp} {α β S : Type} {K : PySem.W.Frag}
theorem q_lcLS {J : It} {Gd : Hp → Prop} {Y : Nat → Hp → V → Hp → Prop} {g : TG} {σ : L2.St} {f : α → S → Option (Option β × S)} {xs : List α} {ys : List β} {s0 s1 : S} {enc : β → PyData} {c : S → List (Addr × HO)} {A : Addr} {Qd : Hp → Prop} {tt : TT} {te : TE} {vs : List Nat}
    (hf : compLS f xs s0 = some (ys, s1)) (w : Walk J xs.length Gd Y) (S0 : Sep ms H0 G H (c s0)) (hA : H A = none) (hF : ∀ b, H b = none → F0 b = none)
    (hg : ∀ s G' H' acc, Sep ms H0 G' H' ((A, .lst acc) :: c s) → Same G G' → Gd H')
    (hs : ∀ i x a s o s' G1 H1 H2 acc, xs[i]? = some a → f a s = some (o, s') → Sep ms H0 G1 H1 ((A, .lst acc) :: c s) → Same G G1 → Y i H1 x H2 →
      ∀ (T : V → Hp → Prop) (F : Hp → Prop), (∀ y b G' H', o = some b → Sep ms H0 G' H' ((A, .lst acc) :: c s') → Same G1 G' → Fr F0 G' y (enc b) → T y H') → (∀ G' H', o = none → Sep ms H0 G' H' ((A, .lst acc) :: c s') → Same G1 G' → F H') →
      g x (wipe σ vs) H2 fun σ2 H2 => wipe σ2 vs = wipe σ vs ∧ tt σ2 H2 fun b H3 => if b = true then te σ2 H3 T else F H3)
    (hd : ∀ G' H' us, Sep ms H0 G' H' ((A, .lst us) :: c s1) → Same G G' → FrL F0 G' us (ys.map enc) → H0 A = none → F0 A = none → Qd H') : LcG J g tt te vs σ H A Qd := by
  unfold compLS at hf
  obtain ⟨h1, h2⟩ := grd hf
  exact q_lcS h2 (of_decide_eq_true h1) w S0 hA hF hg hs hd
end
theorem q_neScr {ms : List Addr} {F0 H0 G H : Hp} {cs : List (Addr × HO)} {a : Addr} {y : V} {K : PySem.W.Frag} {Q : VK} {ns : List Int} {m : List Int} {c : Bool} (S : Sep ms H0 G H cs) (f : Scr K G a ns) (g : Fr F0 H y (eL eI m)) (h : eqvF (eL eI ns) (eL eI m) = some c) (q : Q (.bl (!c)) H) : rNeD K (.ref a) y H Q := by
  obtain ⟨h1, h2, h3, h4, h5⟩ := eqv_ok h
  exact ⟨_, _, .lst (f.same S.sub).seq (dp_ints ns), g.dp h4, h1, h2, by rw [h5]; exact q⟩
theorem rd_lzTZ {K : PySem.W.Frag} {ta : TA} {σ : L2.St} {H : Hp} {Q : VK} (q : ta σ H fun vs H1 => zLzT K vs H1 Q) : tListZipT K ta σ H Q := q
end LQ

/-! ### sorted(text) -/
namespace LX
open PySem PySem.Spec PyProof.Rows L2
section
variable {P : Program} {w : World} {A : Around} {E : Value → Shared → Prop} {s : Shared}
theorem sortStr {x : Str} {t : Tok} {Q : Value → Shared → Prop} (few : x.cps.size ≤ 4000) (hh : A.handled = none)
    (hQ : ∀ (s2 : Shared) (h1 : Heap) (p : Addr) (out : Array Value) (c : Nat) (ys : List Str), (∀ b o, s.heap.get? b = some o → s2.heap.get? b = some o) → s2.gens = s.gens → s2.os = s.os → (∀ b o, s.heap.get? b = some o → h1.get? b = some o) → h1.objs.size ≤ p → s2.heap.get? p = some (seqObj "list" out c) → StrsAre out.toList ys →
      sortedS ys = true → ys.Perm (x.cps.toList.map fun c => (⟨#[c]⟩ : Str)) → Q (.ref p) s2) :
    wpAny (model P w) A (call (.builtin "sorted") [.str x t]) Q E s := by
  have lim : x.cps.size ≤ sizeLine := by rw [sizeLine_eq]; omega
  refine Calls.call_function_entry kind_sorted plain_sorted entry_sorted (args_sorted1 _) ?_
  unfold Builtin.«sorted»
  refine wpAny_bind (m := checkCount "sorted" 1 1 _) (wpAny_pure (wpAny_bind (PySem.wpAny_collect_str (A := A.in1) hh x t (hn := lim) fun s1 acc k1 g1 d1 o1 it => ?_)))
  have vv : Vals (x.cps.toList.map fun c => V.str ⟨#[c]⟩) acc.toList := by
    refine vals_strs_of _ _ (by rw [Array.length_toList, Array.length_toList]; exact it.1) fun j u hu => ?_
    obtain ⟨c, t', e1, e2⟩ := it.2 j u (by simpa using hu)
    exact ⟨c, t', by simpa using e1, e2⟩
  have txt : StrsAre acc.toList (x.cps.toList.map fun c => (⟨#[c]⟩ : Str)) := strs_of_vals (by rw [List.map_map]; exact vv)
  have few2 : acc.toList.length ≤ sizeLine := by rw [Array.length_toList, it.1]; exact lim
  have at0 : (s1.heap.push (seqObj "list" acc.toList.toArray 0)).get? s1.heap.objs.size = some (seqObj "list" acc.toList.toArray 0) := Heap.get?_push_size _ rfl
  refine wpAny_bind (wpAny_newList (wpAny_bind (wpAny_holding (wpAny_call_entry slot_list_sort ⟨_, at0, rfl⟩ entry_list_sort
    (list_sort_treeKAny PyProof.Rows.strKind_oneLt at0 txt.keysOf (fun v1 v2 rest e => keyKind_strs (by rw [← e]; exact txt)) few2 fun st p1 p2 => ⟨_, rfl, ?_⟩) (args_list_sort _)))) few2)
  obtain ⟨ys, y1, y2, y3⟩ := sorted_out_str txt p1 p2
  obtain ⟨c, hc⟩ := sortedHeap_at (vs := acc.toList) (out := (arrOf st).map (·.2)) at0
  refine wpAny_pure ⟨_, rfl, hQ _ s1.heap s1.heap.objs.size _ c ys (fun b u e => ?_) g1 o1 k1 (Nat.le_refl _) hc y1 y3 y2⟩
  have q := k1 b u e
  have lt := Heap.lt_size q
  exact (sortedHeap_old (Nat.ne_of_lt lt) (by rw [size_push']; exact Nat.lt_succ_of_lt lt)).trans (Heap.get?_push_of_some _ q)
end
section
variable {X : Cx}
def rSortX : List V → Hp → VK → Prop := fun xs H Q => ∃ z : Str, xs = [.str z] ∧ z.cps.size ≤ 4000 ∧
  ∀ p ys, H p = none → sortedS ys = true → ys.Perm (z.cps.toList.map fun c => (⟨#[c]⟩ : Str)) → Q (.ref p) (upd H p (.lst (ys.map V.str)))
theorem ksortX (hc : X.calm = true) : CallR X (.builtin "sorted") rSortX := by
  intro pins s σ H xs us Q I r h
  obtain ⟨z, rfl, few, q⟩ := h
  obtain ⟨u, rfl, t, rfl⟩ := vals1 r
  refine sortStr few (I.ok.hd hc) fun s2 h1 p out c ys k2 g2 o2 k1 hp at2 y1 y3 pm => ?_
  have hn : H p = none := HOk.fresh (fun b u e => (I.hok b u e).stay (fun c v _ q => k1 c v q) (fun c q => q) fun c xs q => q : HOk X.prog X.w H h1) hp
  have hs : s.heap.get? p = none := by
    cases e : s.heap.get? p with
    | none => rfl
    | some o => exact absurd (Heap.lt_size (k1 _ _ e)) (Nat.not_lt.mpr hp)
  have sz : (ys.map V.str).length ≤ sizeLine := by
    rw [List.length_map, pm.length_eq, List.length_map, Array.length_toList, sizeLine_eq]
    omega
  exact ⟨.ref p, _, I.call' (ch := []) o2 (Un.laidN k2 hs hn) (I.hok.laidN (o := .lst (ys.map V.str)) k2 hn ⟨sz, out.toList, c, vals_of_strs y1, at2⟩) (by rw [g2]; exact I.bare) (fun _ z => nomatch z), rfl, q p ys hn y3 pm⟩
end
end LX

/-! Lists of a dict's keys. -/
namespace LQ
open PySem PySem.Spec PyProof.Rows L2 LX
def zListD : List V → Hp → VK → Prop := fun xs H Q => ∃ (a : Addr) (kvs : List (Key × V)), xs = [.ref a] ∧ Rd H a (.dK kvs) ∧ ∀ p, H p = none → Q (.ref p) (upd H p (.lst (kvs.map fun kv => kV kv.1)))
theorem klistD {X : Cx} (hcalm : X.calm = true) : CallR X (.type "list") zListD := call_listD hcalm
section
variable {κ α : Type} [DecidableEq κ] {kk : κ → Key} {e : α → PyData} {F0 H0 G G' H H' : Hp} {kvs : List (Key × V)} {l : List (κ × α)} {k : κ} {x : α} {v y : V} {a b : Addr} {ms : List Addr} {cs : List (Addr × HO)} {Q : VK} {K : PySem.W.Frag}
theorem q_listD {kv : κ → V} (hk : ∀ k, kV (kk k) = kv k) (h1 : Rd H a (.dK kvs)) (f : FrK F0 G kvs (l.map fun p => (dKey (kk p.1), e p.2))) (q : zNew ((dkeys l).map kv) H Q) : zListD [.ref a] H Q := by
  refine ⟨a, kvs, rfl, h1, fun p hp => ?_⟩
  have : kvs.map (fun kv => kV kv.1) = (dkeys l).map kv := by
    have h := congrArg (List.map kV) (frk_keys f)
    rw [List.map_map, List.map_map] at h
    unfold dkeys
    rw [List.map_map]
    refine h.trans (List.map_congr_left fun p _ => hk p.1)
  rw [this]
  exact q p hp
theorem q_sortX {z : Str} {y : List Str} (h : charsF z = some y) (q : zNew ((sortS y).map V.str) H Q) : rSortX [.str z] H Q := by
  unfold charsF at h
  obtain ⟨h1, h2⟩ := grd h
  cases som h2
  refine ⟨z, rfl, of_decide_eq_true h1, fun p ys hp s pm => ?_⟩
  have : ys = sortS (chars z) := by
    unfold sortS
    exact List.Perm.eq_of_pairwise (le := fun a b => leS a b = true) (fun a b _ _ x y => leS_anti x y) (sorted_pw s) (List.pairwise_mergeSort leS_trans leS_total _) (pm.trans (List.mergeSort_perm _ _).symm)
  rw [this]
  exact q p hp
def sortSF (l : List Str) : Option (List Str) := cond (decide (l.length < 64)) (some (sortS l)) none
theorem q_sortSL {l y : List Str} (h1 : H a = some (.lst vs)) (f : FrL F0 G vs (l.map eS)) (h : sortSF l = some y) (q : zNew (y.map V.str) H Q) : rSortedS K [.ref a] H Q := by
  unfold sortSF at h
  obtain ⟨h2, h3⟩ := grd h
  cases som h3
  rw [frl_strs f] at h1
  refine ⟨a, l, rfl, SqL.of h1, of_decide_eq_true h2, fun ys p pm s np => ?_⟩
  have : ys = sortS l := by
    unfold sortS
    exact List.Perm.eq_of_pairwise (le := fun a b => leS a b = true) (fun a b _ _ x y => leS_anti x y) (sorted_pw s) (List.pairwise_mergeSort leS_trans leS_total _) (pm.trans (List.mergeSort_perm _ _).symm)
  rw [this]
  exact q p np
def idxF {α : Type} [DecidableEq α] (l : List α) (x : α) : Option Int := (l.findIdx? fun a => decide (a = x)).map fun j : Nat => (j : Int)
theorem idx_at {α : Type} [DecidableEq α] {l : List α} {x : α} {i : Int} (h : idxF l x = some i) : ∃ j : Nat, i = (j : Int) ∧ l[j]? = some x ∧ ∀ m, m < j → ∀ z, l[m]? = some z → z ≠ x := by
  unfold idxF at h
  obtain ⟨j, hj, rfl⟩ := Option.map_eq_some_iff.mp h
  obtain ⟨h1, h2, h3⟩ := List.findIdx?_eq_some_iff_getElem.mp hj
  refine ⟨j, rfl, by rw [List.getElem?_eq_getElem h1, of_decide_eq_true h2], fun m hm z hz e => ?_⟩
  have := h3 m hm
  rw [List.getElem?_eq_getElem (by omega)] at hz
  cases hz
  exact absurd (decide_eq_true e) (by simpa using this)
theorem q_idxS {l : List Str} {x : Str} {i : Int} (h1 : H a = some (.lst vs)) (f : FrL F0 G vs (l.map eS)) (h : idxF l x = some i) (q : Q (.int i) H) : rIndex K (.ref a) [.str x] H Q := by
  rw [frl_strs f] at h1
  obtain ⟨j, rfl, h2, h3⟩ := idx_at h
  refine ⟨a, l.map V.str, .str x, j, .str x, rfl, rfl, SqL.of h1, rfl, by rw [List.all_eq_true]; rintro _ hz; obtain ⟨u, _, rfl⟩ := List.mem_map.mp hz; rfl, by rw [List.getElem?_map, h2]; rfl, by show (x == x) = true; exact beq_self_eq_true x, fun m z' hm hz => ?_, q⟩
  rw [List.getElem?_map] at hz
  obtain ⟨u, hu, rfl⟩ := Option.map_eq_some_iff.mp hz
  show (u == x) = false
  exact beq_eq_false_iff_ne.mpr (h3 m hm u hu)
theorem q_idxI {l : List Int} {x : Int} {i : Int} (h1 : H a = some (.lst vs)) (f : FrL F0 G vs (l.map eI)) (h : idxF l x = some i) (q : Q (.int i) H) : rIndex K (.ref a) [.int x] H Q := by
  rw [frl_ints f] at h1
  obtain ⟨j, rfl, h2, h3⟩ := idx_at h
  refine ⟨a, l.map V.int, .int x, j, .int x, rfl, rfl, SqL.of h1, rfl, by rw [List.all_eq_true]; rintro _ hz; obtain ⟨u, _, rfl⟩ := List.mem_map.mp hz; rfl, by rw [List.getElem?_map, h2]; rfl, by show (x == x) = true; exact beq_self_eq_true x, fun m z' hm hz => ?_, q⟩
  rw [List.getElem?_map] at hz
  obtain ⟨u, hu, rfl⟩ := Option.map_eq_some_iff.mp hz
  show (u == x) = false
  exact beq_eq_false_iff_ne.mpr (h3 m hm u hu)
end
section
variable {X : Cx} {K : PySem.W.Frag}
theorem ksortedS (h : X.K = K := by rfl) : CallR X (.builtin "sorted") (rSortedS K) := h ▸ cr_sortedS
theorem kindex (h : X.K = K := by rfl) : MtR X "list.index" (rIndex K) := h ▸ mt_index
end
end LQ

/-! min and max of lists of numbers. -/
namespace LQ
open PySem PySem.Spec PyProof.Rows L2 LX PySem.W
def minL : List Int → Option Int
  | [] => none
  | x :: xs => some (xs.foldl min x)
def maxL : List Int → Option Int
  | [] => none
  | x :: xs => some (xs.foldl max x)
def minDL (l : List Int) (d : Int) : Int := match l with
  | [] => d
  | x :: xs => xs.foldl min x
theorem foldmin : ∀ (xs : List Int) (x : Int), (xs.foldl min x = x ∨ xs.foldl min x ∈ xs) ∧ xs.foldl min x ≤ x ∧ ∀ y ∈ xs, xs.foldl min x ≤ y
  | [], x => ⟨Or.inl rfl, Int.le_refl _, fun y h => nomatch h⟩
  | z :: xs, x => by
    obtain ⟨h1, h2, h3⟩ := foldmin xs (min x z)
    rw [List.foldl_cons]
    refine ⟨?_, by omega, fun y hy => ?_⟩
    · rcases h1 with h1 | h1
      · rw [h1]
        by_cases c : x ≤ z
        · exact Or.inl (by omega)
        · exact Or.inr (by rw [show min x z = z by omega]; exact List.mem_cons_self)
      · exact Or.inr (List.mem_cons_of_mem _ h1)
    · rcases List.mem_cons.mp hy with e | e
      · rw [e]; omega
      · exact h3 y e
theorem foldmax : ∀ (xs : List Int) (x : Int), (xs.foldl max x = x ∨ xs.foldl max x ∈ xs) ∧ x ≤ xs.foldl max x ∧ ∀ y ∈ xs, y ≤ xs.foldl max x
  | [], x => ⟨Or.inl rfl, Int.le_refl _, fun y h => nomatch h⟩
  | z :: xs, x => by
    obtain ⟨h1, h2, h3⟩ := foldmax xs (max x z)
    rw [List.foldl_cons]
    refine ⟨?_, by omega, fun y hy => ?_⟩
    · rcases h1 with h1 | h1
      · rw [h1]
        by_cases c : z ≤ x
        · exact Or.inl (by omega)
        · exact Or.inr (by rw [show max x z = z by omega]; exact List.mem_cons_self)
      · exact Or.inr (List.mem_cons_of_mem _ h1)
    · rcases List.mem_cons.mp hy with e | e
      · rw [e]; omega
      · exact h3 y e
theorem minL_is {l : List Int} {m k : Int} (h : minL l = some m) (h1 : k ∈ l) (h2 : ∀ y ∈ l, k ≤ y) : k = m := by
  cases l with
  | nil => cases h
  | cons x xs =>
    cases som h
    obtain ⟨a, b, c⟩ := foldmin xs x
    have e1 := h2 (xs.foldl min x) (by rcases a with a | a; · rw [a]; exact List.mem_cons_self
                                       · exact List.mem_cons_of_mem _ a)
    rcases List.mem_cons.mp h1 with e | e
    · omega
    · have := c k e
      omega
theorem maxL_is {l : List Int} {m k : Int} (h : maxL l = some m) (h1 : k ∈ l) (h2 : ∀ y ∈ l, y ≤ k) : k = m := by
  cases l with
  | nil => cases h
  | cons x xs =>
    cases som h
    obtain ⟨a, b, c⟩ := foldmax xs x
    have e1 := h2 (xs.foldl max x) (by rcases a with a | a; · rw [a]; exact List.mem_cons_self
                                       · exact List.mem_cons_of_mem _ a)
    rcases List.mem_cons.mp h1 with e | e
    · omega
    · have := c k e
      omega
section
variable {X : Cx} {F0 H0 G H : Hp} {a : Addr} {vs : List V} {Q : VK} {K : PySem.W.Frag} {l : List Int} {m : Int}
theorem kmin1 (hc : X.calm = true) (h : X.K = K := by rfl) : CallR X (.builtin "min") (rMin K) := h ▸ cr_min hc
theorem kmax1 (hc : X.calm = true) (h : X.K = K := by rfl) : CallR X (.builtin "max") (rMax K) := h ▸ cr_max hc
theorem q_min1 (h1 : H a = some (.lst vs)) (f : FrL F0 G vs (l.map eI)) (h : minL l = some m) (q : Q (.int m) H) : rMin K [.ref a] H Q := by
  rw [frl_ints f] at h1
  refine ⟨a, l, rfl, SqL.of h1, ?_, fun k h2 h3 => by rw [minL_is h h2 h3]; exact q⟩
  cases l with
  | nil => cases h
  | cons => exact Nat.succ_pos _
theorem q_max1 (h1 : H a = some (.lst vs)) (f : FrL F0 G vs (l.map eI)) (h : maxL l = some m) (q : Q (.int m) H) : rMax K [.ref a] H Q := by
  rw [frl_ints f] at h1
  refine ⟨a, l, rfl, SqL.of h1, ?_, fun k h2 h3 => by rw [maxL_is h h2 h3]; exact q⟩
  cases l with
  | nil => cases h
  | cons => exact Nat.succ_pos _
def zMinD (K : PySem.W.Frag) : List V → List V → Hp → VK → Prop := fun xs zs H Q => ∃ a ns d, xs = [.ref a] ∧ zs = [.int d] ∧ SqL K H a (ns.map V.int) ∧ Q (.int (minDL ns d)) H
theorem kminD (hc : X.calm = true) (hu : X.A.units + 64 < cLine) (h : X.K = K := by rfl) : CallRK X (.builtin "min") [Str.ofString "default"] (zMinD K) := by
  subst h
  intro pins s σ H xs zs us ws Q I r rz h
  obtain ⟨a, ns, d, rfl, rfl, hs, q⟩ := h
  obtain rfl := Vals.ref1 r
  obtain ⟨w1, rfl, t, rfl⟩ := vals1 rz
  obtain ⟨its, rv, hl, _⟩ := I.list hs
  refine min_list_datum_default (α := Int) (I.ok.hd hc) hl.isList (HoldAll.of_ints (by rw [List.toList_toArray]; exact rv.ints)) (by show X.A.units + 1 + 0 < cLine; omega) (fun e h' tk hk => ?_) fun y ys i v h' tk e hi hv hk => ?_
  · subst e
    exact ⟨.int d, H, I.kept hk, ⟨_, rfl⟩, q⟩
  · subst e
    obtain ⟨as, rd⟩ := hv
    obtain ⟨t2, rfl, _⟩ := reads_int_inv rd
    have : minOf y ys = ys.foldl min y := by
      unfold minOf
      have : ∀ (ys : List Int) (y : Int), ys.foldl (fun a y => if DatumOrd.lt y a = true then y else a) y = ys.foldl min y := by
        intro ys
        induction ys with
        | nil => intro y; rfl
        | cons z zs ih =>
          intro y
          rw [List.foldl_cons, List.foldl_cons, ← ih]
          congr 1
          show (if decide (z < y) = true then z else y) = min y z
          split
          · rename_i c; have := of_decide_eq_true c; omega
          · rename_i c; have : ¬ z < y := fun h => c (decide_eq_true h); omega
      exact this ys y
    exact ⟨.int _, H, I.kept hk, ⟨t2, rfl⟩, by
      rw [this]
      exact q⟩
theorem q_minD {d : Int} (h1 : H a = some (.lst vs)) (f : FrL F0 G vs (l.map eI)) (q : Q (.int (minDL l d)) H) : zMinD K [.ref a] [.int d] H Q := by
  rw [frl_ints f] at h1
  exact ⟨a, l, d, rfl, rfl, SqL.of h1, q⟩
theorem rd_kwMin {ta tk : TA} {σ : L2.St} (q : ta σ H fun vs H1 => tk σ H1 fun zs H2 => zMinD K vs zs H2 Q) : tCKw (zMinD K) ta tk σ H Q := q
end
section
variable {α : Type} {e : α → PyData} {F0 G : Hp} {a : Addr} {vs : List V} {l : List α} {K : PySem.W.Frag}
theorem w_rev (f : FrL F0 G vs (l.map e)) : Walk (Itv K a vs.length) l.reverse.length (fun H => H a = some (.lst vs)) (fun i H v H' => H' = H ∧ ∀ x, l.reverse[i]? = some x → Fr F0 G v (e x)) := by
  have h : l.reverse.length = vs.length := by rw [List.length_reverse, f.len, List.length_map]
  rw [h]
  refine walk_rev.mono (fun _ h => SqL.of h) fun i H x H' hi _ y => ⟨y.1, fun z hz => ?_⟩
  have hl : l.length = vs.length := by rw [f.len, List.length_map]
  rw [List.getElem?_reverse (by omega), hl] at hz
  exact frl_at f hz y.2
theorem rd_iRevZ {ta : TA} {σ : L2.St} {H : Hp} {R : It → Hp → Prop} (q : ta σ H fun vs H1 => ∃ (a : Addr) (xs : List V), vs = [.ref a] ∧ SqL K H1 a xs ∧ R (Itv K a xs.length) H1) : iRev K ta σ H R := q
end
section
variable {F0 G H : Hp} {a : Addr} {vs : List V} {Q : VK} {K : PySem.W.Frag}
theorem frl_oI {l : List (Option Int)} (h : FrL F0 G vs (l.map (eO eI))) : vs = l.map (vO V.int) := by
  induction l generalizing vs with
  | nil => cases h; rfl
  | cons x l ih => cases h with
    | cons f hs => rw [List.map_cons, ih hs, fr_oI f]
theorem frl_oS {l : List (Option Str)} (h : FrL F0 G vs (l.map (eO eS))) : vs = l.map (vO V.str) := by
  induction l generalizing vs with
  | nil => cases h; rfl
  | cons x l ih => cases h with
    | cons f hs => rw [List.map_cons, ih hs, fr_oS f]
theorem eqV_oI (i j : Option Int) : eqV (vO V.int i) (vO V.int j) = decide (i = j) := by
  cases i <;> cases j <;> first | rfl | (rename_i a b; exact Bool.eq_iff_iff.mpr ⟨fun h => decide_eq_true (by rw [eq_of_beq (show (a == b) = true from h)]), fun h => by have h2 := Option.some.inj (of_decide_eq_true h); subst h2; exact beq_self_eq_true a⟩)
theorem eqV_oS (i j : Option Str) : eqV (vO V.str i) (vO V.str j) = decide (i = j) := by
  cases i <;> cases j <;> first | rfl | (rename_i a b; exact Bool.eq_iff_iff.mpr ⟨fun h => decide_eq_true (by rw [eq_of_beq (show (a == b) = true from h)]), fun h => by have h2 := Option.some.inj (of_decide_eq_true h); subst h2; exact beq_self_eq_true a⟩)
theorem inV_o {β : Type} {f : β → V} (hf : ∀ i j, eqV (f i) (f j) = true ↔ i = j) (i : β) (l : List β) [Decidable (i ∈ l)] : inV (f i) (l.map f) = decide (i ∈ l) := by
  unfold inV
  rw [List.any_map]
  by_cases h : i ∈ l
  · rw [decide_eq_true h]
    exact List.any_eq_true.mpr ⟨i, h, (hf i i).mpr rfl⟩
  · rw [decide_eq_false h]
    refine Bool.eq_false_iff.mpr fun z => h ?_
    obtain ⟨k, h1, h2⟩ := List.any_eq_true.mp z
    first
      | exact (hf _ _).mp h2 ▸ h1
      | exact ((hf _ _).mp h2).symm ▸ h1
theorem iff_oI (i j : Option Int) : eqV (vO V.int i) (vO V.int j) = true ↔ i = j := by rw [eqV_oI, decide_eq_true_iff]
theorem iff_oS (i j : Option Str) : eqV (vO V.str i) (vO V.str j) = true ↔ i = j := by rw [eqV_oS, decide_eq_true_iff]
theorem flatV_oI (o : Option Int) : flatV (vO V.int o) = true := by cases o <;> rfl
theorem flatV_oS (o : Option Str) : flatV (vO V.str o) = true := by cases o <;> rfl
theorem all_oI (l : List (Option Int)) : (l.map (vO V.int)).all flatV = true := by
  rw [List.all_eq_true]
  intro x hx
  obtain ⟨o, _, rfl⟩ := List.mem_map.mp hx
  exact flatV_oI o
theorem all_oS (l : List (Option Str)) : (l.map (vO V.str)).all flatV = true := by
  rw [List.all_eq_true]
  intro x hx
  obtain ⟨o, _, rfl⟩ := List.mem_map.mp hx
  exact flatV_oS o
theorem q_inOI {i : Option Int} {l : List (Option Int)} (h : H a = some (.lst vs)) (f : FrL F0 G vs (l.map (eO eI))) (q : Q (.bl (decide (i ∈ l))) H) : rIn K false (vO V.int i) (.ref a) H Q := by
  rw [frl_oI f] at h
  exact rd_isin h (flatV_oI i) (all_oI l) (inV_o iff_oI i l) q
theorem q_niOI {i : Option Int} {l : List (Option Int)} (h : H a = some (.lst vs)) (f : FrL F0 G vs (l.map (eO eI))) (q : Q (.bl (!decide (i ∈ l))) H) : rIn K true (vO V.int i) (.ref a) H Q := by
  rw [frl_oI f] at h
  exact rd_notin h (flatV_oI i) (all_oI l) (inV_o iff_oI i l) q
theorem q_inOS {i : Option Str} {l : List (Option Str)} (h : H a = some (.lst vs)) (f : FrL F0 G vs (l.map (eO eS))) (q : Q (.bl (decide (i ∈ l))) H) : rIn K false (vO V.str i) (.ref a) H Q := by
  rw [frl_oS f] at h
  exact rd_isin h (flatV_oS i) (all_oS l) (inV_o iff_oS i l) q
theorem q_niOS {i : Option Str} {l : List (Option Str)} (h : H a = some (.lst vs)) (f : FrL F0 G vs (l.map (eO eS))) (q : Q (.bl (!decide (i ∈ l))) H) : rIn K true (vO V.str i) (.ref a) H Q := by
  rw [frl_oS f] at h
  exact rd_notin h (flatV_oS i) (all_oS l) (inV_o iff_oS i l) q
/-- none of them is None -/
def unO {α : Type} : List (Option α) → Option (List α)
  | [] => some []
  | x :: xs => x.bind fun y => (unO xs).bind fun ys => some (y :: ys)
theorem unO_is {α : Type} : ∀ {l : List (Option α)} {m : List α}, unO l = some m → l = m.map some
  | [], m, h => by cases som h; rfl
  | x :: xs, m, h => by
    obtain ⟨y, h1, h⟩ := bnd h
    obtain ⟨ys, h2, h⟩ := bnd h
    cases som h
    rw [List.map_cons, ← unO_is h2, h1]
theorem frl_un {α : Type} {e : α → PyData} {l : List (Option α)} {m : List α} (h : unO l = some m) (f : FrL F0 G vs (l.map (eO e))) : FrL F0 G vs (m.map e) := by
  rw [unO_is h, List.map_map] at f
  exact f
end
theorem rd_lenAL {K : PySem.W.Frag} {xs : List V} {H : Hp} {Q : VK} (q : qLen K xs H Q) : qLenA K xs H Q := Or.inl q
theorem rd_lenAS {K : PySem.W.Frag} {xs : List V} {H : Hp} {Q : VK} (q : zLenS xs H Q) : qLenA K xs H Q := Or.inr q
theorem rd_listAL {K : PySem.W.Frag} {xs : List V} {H : Hp} {Q : VK} (q : qList K xs H Q) : qListA K xs H Q := Or.inl q
theorem rd_listAS {K : PySem.W.Frag} {xs : List V} {H : Hp} {Q : VK} (q : rListS xs H Q) : qListA K xs H Q := Or.inr q
section
variable {F0 G G' : Hp} {a : Addr}
theorem Fr.frzor {v : V} {x : PyData} (f : Fr F0 G v x) (d : G' = G ∨ FrzG G a G') : Fr F0 G' v x := by
  rcases d with rfl | d
  · exact f
  · exact f.frz d
theorem FrL.frzor {v : List V} {x : List PyData} (f : FrL F0 G v x) (d : G' = G ∨ FrzG G a G') : FrL F0 G' v x := by
  rcases d with rfl | d
  · exact f
  · exact f.frz d
theorem FrK.frzor {v : List (Key × V)} {x : List (PyData × PyData)} (f : FrK F0 G v x) (d : G' = G ∨ FrzG G a G') : FrK F0 G' v x := by
  rcases d with rfl | d
  · exact f
  · exact f.frz d
theorem _root_.LX.Scr.frzor {K : PySem.W.Frag} {ns : List Int} {l : Addr} (f : Scr K G l ns) (d : G' = G ∨ FrzG G a G') : Scr K G' l ns := by
  rcases d with rfl | d
  · exact f
  · exact f.frz d
end
theorem rd_zpA {K : PySem.W.Frag} {ta : TA} {σ : L2.St} {H : Hp} {R : It → Hp → Prop} (q : ta σ H fun vs H1 => ∃ a b xs ys, vs = [.ref a, .ref b] ∧ ((SqL K H1 a xs ∧ SqL K H1 b ys ∧ R (Itz K a b) H1) ∨ (SqT K H1 a xs ∧ SqT K H1 b ys ∧ R (RZ.ItzT K a b) H1))) : RZ.iZipA K ta σ H R := q
end LQ

/-! Data that a law's comparing def finds equal: lists and plain values, less deep than n. -/
namespace LQ
open PySem L2 LX
def okSD : Nat → PyData → PyData → Bool
  | 0, _, _ => false
  | n + 1, d, e => match d, e with
    | .none, .none => true
    | .bool a, .bool b => a == b
    | .int a, .int b => a == b
    | .str a, .str b => a == b
    | .list xs, .list ys => decide (xs.length = ys.length) && decide (xs.length ≤ 1000) && (xs.zip ys).all fun p => okSD n p.1 p.2
    | _, _ => false
/-- the same with tuples, without truth values -/
def okST : Nat → PyData → PyData → Bool
  | 0, _, _ => false
  | n + 1, d, e => match d, e with
    | .none, .none => true
    | .int a, .int b => a == b
    | .str a, .str b => a == b
    | .list xs, .list ys => decide (xs.length = ys.length) && decide (xs.length ≤ 1000) && (xs.zip ys).all fun p => okST n p.1 p.2
    | .tuple xs, .tuple ys => decide (xs.length = ys.length) && decide (xs.length ≤ 1000) && (xs.zip ys).all fun p => okST n p.1 p.2
    | _, _ => false
/-- two values that are the same data -/
def SDL : Nat → Hp → V → V → Prop
  | 0, _, _, _ => False
  | n + 1, H, v, e => ((v = .non ∧ e = .non) ∨ ∃ b : Bool, v = .bl b ∧ e = .bl b) ∨ (∃ i : Int, v = .int i ∧ e = .int i) ∨ (∃ x : Str, v = .str x ∧ e = .str x) ∨
    (∃ (c d : Addr) (xs ys : List V), v = .ref c ∧ e = .ref d ∧ H c = some (.lst xs) ∧ H d = some (.lst ys) ∧ xs.length = ys.length ∧ xs.length ≤ 1000 ∧ ∀ (i : Nat) (x y : V), xs[i]? = some x → ys[i]? = some y → SDL n H x y)
theorem SDL.mono {H H' : Hp} (s : Same H H') : ∀ (n : Nat) (v e : V), SDL n H v e → SDL n H' v e
  | 0, _, _, h => h.elim
  | n + 1, v, e, h => by
    rcases h with h | h | h | ⟨c, d, xs, ys, rfl, rfl, h1, h2, h3, h4, h5⟩
    · exact Or.inl h
    · exact Or.inr (Or.inl h)
    · exact Or.inr (Or.inr (Or.inl h))
    · exact Or.inr (Or.inr (Or.inr ⟨c, d, xs, ys, rfl, rfl, s _ _ h1, s _ _ h2, h3, h4, fun i x y hx hy => SDL.mono s n x y (h5 i x y hx hy)⟩))
theorem frl_get {F0 G : Hp} : ∀ {vs : List V} {ds : List PyData} (i : Nat) {v : V}, FrL F0 G vs ds → vs[i]? = some v → ∃ d, ds[i]? = some d ∧ Fr F0 G v d
  | _, _, _, _, .nil, h => by simp at h
  | _, _, 0, _, .cons f _, h => ⟨_, rfl, by cases (show some _ = some _ from h); exact f⟩
  | _, _, i + 1, _, .cons _ fs, h => frl_get i fs h
theorem sdl_of {H : Hp} : ∀ (n : Nat) {v e : V} {x y : PyData}, Fr E0h H v x → Fr E0h H e y → okSD n x y = true → SDL n H v e
  | 0, _, _, _, _, _, _, h => nomatch h
  | n + 1, v, e, x, y, f, g, h => by
    cases f with
    | non => cases g <;> first | exact Or.inl (Or.inl ⟨rfl, rfl⟩) | exact absurd h Bool.false_ne_true
    | bl b =>
      cases g with
      | bl c =>
        have : b = c := eq_of_beq (show (b == c) = true from h)
        subst this
        exact Or.inl (Or.inr ⟨b, rfl, rfl⟩)
      | _ => exact absurd h Bool.false_ne_true
    | int i =>
      cases g with
      | int j =>
        have : i = j := eq_of_beq (show (i == j) = true from h)
        subst this
        exact Or.inr (Or.inl ⟨i, rfl, rfl⟩)
      | _ => exact absurd h Bool.false_ne_true
    | str i =>
      cases g with
      | str j =>
        have : i = j := eq_of_beq (show (i == j) = true from h)
        subst this
        exact Or.inr (Or.inr (Or.inl ⟨i, rfl, rfl⟩))
      | _ => exact absurd h Bool.false_ne_true
    | lst h1 _ hs =>
      cases g with
      | lst k1 _ ks =>
        simp only [okSD, Bool.and_eq_true, decide_eq_true_iff, List.all_eq_true] at h
        refine Or.inr (Or.inr (Or.inr ⟨_, _, _, _, rfl, rfl, h1, k1, by rw [hs.len, ks.len]; exact h.1.1, by rw [hs.len]; exact h.1.2, fun i u w hu hw => ?_⟩))
        obtain ⟨d, hd, fd⟩ := frl_get i hs hu
        obtain ⟨d2, hd2, fd2⟩ := frl_get i ks hw
        refine sdl_of n fd fd2 (h.2 (d, d2) ?_)
        refine List.mem_of_getElem? (i := i) ?_
        rw [List.getElem?_zip_eq_some]
        exact ⟨hd, hd2⟩
      | _ => exact absurd h Bool.false_ne_true
    | tup h1 hs => cases g <;> exact absurd h Bool.false_ne_true
    | dic h1 _ hs => cases g <;> exact absurd h Bool.false_ne_true
theorem Ret.same {H H' : Hp} (s : Same H H') : Ret [] H H' H' := ⟨fun _ _ e => e, fun _ h => absurd h List.not_mem_nil, fun b o e _ => s b o e, (fun b e => by
  cases h : H b with
  | none => rfl
  | some o => rw [s b o h] at e; cases e), fun _ _ e => e⟩
/-- data that are lists of plain values are the same as themselves -/
theorem okSD_list {α : Type} {e : α → PyData} {n : Nat} {l : List α} (z : l.length ≤ 1000) (h : ∀ x ∈ l, okSD n (e x) (e x) = true) : okSD (n + 1) (eL e l) (eL e l) = true := by
  show (decide ((l.map e).length = (l.map e).length) && decide ((l.map e).length ≤ 1000) && ((l.map e).zip (l.map e)).all fun p => okSD n p.1 p.2) = true
  rw [decide_eq_true rfl, decide_eq_true (by rw [List.length_map]; exact z), Bool.true_and, Bool.true_and, List.all_eq_true]
  intro p hp
  have key : ∀ l : List α, (∀ x ∈ l, okSD n (e x) (e x) = true) → ∀ p ∈ (l.map e).zip (l.map e), okSD n p.1 p.2 = true := by
    intro l
    induction l with
    | nil => intro _ p hp; cases hp
    | cons x l ih =>
      intro h p hp
      rw [List.map_cons, List.zip_cons_cons] at hp
      rcases List.mem_cons.mp hp with c | c
      · rw [c]; exact h x List.mem_cons_self
      · exact ih (fun y hy => h y (List.mem_cons_of_mem _ hy)) p c
  exact key l h p hp
theorem okSD_int (n : Nat) (i : Int) : okSD (n + 1) (eI i) (eI i) = true := beq_self_eq_true i
theorem okSD_str (n : Nat) (i : Str) : okSD (n + 1) (eS i) (eS i) = true := beq_self_eq_true i
theorem okSD_bool (n : Nat) (i : Bool) : okSD (n + 1) (eB i) (eB i) = true := beq_self_eq_true i
theorem okSD_oI (n : Nat) (i : Option Int) : okSD (n + 1) (eO eI i) (eO eI i) = true := by
  cases i
  · rfl
  · exact beq_self_eq_true _
end LQ
namespace LQF
def F__law_same (x y : PySem.PyData) : Option Bool := cond (LQ.okSD 4 x y) (some true) none
def F__law_equal (x y : PySem.PyData) : Option Bool := cond (LQ.okST 4 x y) (some true) none
end LQF

/-! Deep members, locked dicts, lists shown at once. -/
namespace LQ
open PySem PySem.Spec PyProof.Rows L2 LX
theorem units65 {k : Nat} {A : Around} (r : Room k A) : A.units + 65 < cLine := by have := r.un; omega
section
variable {ms : List Addr} {F0 F1 H0 G G' H H' H2 : Hp} {cs : List (Addr × HO)} {a b p : Addr} {vs us : List V} {K : PySem.W.Frag} {Q : VK} {v x y : V} {d : PyData} {ds : List PyData} {X : Cx}
theorem kinD (hu : X.A.units + 65 < cLine) (h : X.K = K := by rfl) : OpR X (compareOp .In) (rInD K) := h ▸ op_inD hu
theorem knotInD (hu : X.A.units + 65 < cLine) (h : X.K = K := by rfl) : OpR X (compareOp .NotIn) (rNotInD K) := h ▸ op_notInD hu
theorem kindexD (hu : X.A.units + 65 < cLine) (h : X.K = K := by rfl) : MtR X "list.index" (rIndexD K) := h ▸ mt_indexD hu
def okD (d : PyData) : Bool := SeqAt.shaped d && !d.hasDict
def inDF (d : PyData) (ds : List PyData) : Option Bool := cond (okD d && okD (.list ds)) (some (ds.any fun z => PyData.eqv z d)) none
def idxDF (d : PyData) (ds : List PyData) : Option Int := cond (okD d && okD (.list ds)) ((ds.findIdx? fun z => PyData.eqv z d).map fun j : Nat => (j : Int)) none
theorem okD_is (h : okD d = true) : SeqAt.shaped d = true ∧ d.hasDict = false := by
  unfold okD at h
  rw [Bool.and_eq_true, Bool.not_eq_true'] at h
  exact h
theorem inDF_is {t : Bool} (h : inDF d ds = some t) : (SeqAt.shaped d = true ∧ d.hasDict = false) ∧ (SeqAt.shaped (.list ds) = true ∧ (PyData.list ds).hasDict = false) ∧ (ds.any fun z => PyData.eqv z d) = t := by
  unfold inDF at h
  obtain ⟨h1, h2⟩ := grd h
  rw [Bool.and_eq_true] at h1
  exact ⟨okD_is h1.1, okD_is h1.2, som h2⟩
theorem q_inD {t : Bool} (f : Fr F0 H x d) (g : Fr F1 H y (.list ds)) (h : inDF d ds = some t) (q : Q (.bl t) H) : rInD K x y H Q := by
  obtain ⟨h1, h2, h3⟩ := inDF_is h
  exact ⟨d, ds, f.dp h1.2, g.dp h2.2, h1.1, h2.1, by rw [h3]; exact q⟩
theorem q_niD {t : Bool} (f : Fr F0 H x d) (g : Fr F1 H y (.list ds)) (h : inDF d ds = some t) (q : Q (.bl (!t)) H) : rNotInD K x y H Q := by
  obtain ⟨h1, h2, h3⟩ := inDF_is h
  exact ⟨d, ds, f.dp h1.2, g.dp h2.2, h1.1, h2.1, by rw [h3]; exact q⟩
theorem findIdx_is {α : Type} {p : α → Bool} : ∀ {l : List α} {j : Nat}, l.findIdx? p = some j → (∃ z, l[j]? = some z ∧ p z = true) ∧ ∀ m z, m < j → l[m]? = some z → p z = false := fun {l j} h => by
  obtain ⟨h1, h2, h3⟩ := List.findIdx?_eq_some_iff_getElem.mp h
  refine ⟨⟨l[j], List.getElem?_eq_getElem h1, h2⟩, fun m z hm hz => ?_⟩
  obtain ⟨h4, h5⟩ := List.getElem?_eq_some_iff.mp hz
  have := h3 m hm
  rw [h5] at this
  simpa using this
theorem q_idxD {i : Int} (f : Fr F0 H x d) (g : Fr F1 H (.ref a) (.list ds)) (h : idxDF d ds = some i) (q : Q (.int i) H) : rIndexD K (.ref a) [x] H Q := by
  unfold idxDF at h
  obtain ⟨h1, h2⟩ := grd h
  rw [Bool.and_eq_true] at h1
  obtain ⟨k1, k2⟩ := okD_is h1.1
  obtain ⟨k3, k4⟩ := okD_is h1.2
  obtain ⟨j, hj, e⟩ := Option.map_eq_some_iff.mp h2
  obtain ⟨⟨z, h3, h4⟩, h5⟩ := findIdx_is hj
  exact ⟨a, x, d, ds, j, z, rfl, rfl, g.dp k4, f.dp k2, k3, k1, h3, h4, fun m z' hm hz => h5 m z' hm hz, by
    have e' : (Int.ofNat j) = i := e
    show Q (.int (Int.ofNat j)) H
    rw [e']
    exact q⟩
theorem frl_some {α : Type} {e : α → PyData} {l : List α} (f : FrL F0 G vs (l.map e)) : FrL F0 G vs ((l.map some).map (eO e)) := by rw [List.map_map]; exact f
/-- a list for the moment: it holds what is read now, owned things too -/
theorem q_lstT (S : Sep ms H0 G H cs) (z : vs.length ≤ LIM) (f : FrL E0h H vs ds) (q : ∀ p G' H', Sep ms H0 G' H' cs → Same G G' → Fr E0h H' (.ref p) (.list ds) → Q (.ref p) H') : zLst vs H Q :=
  ⟨lim_le z, fun p hp => q p _ _ (S.sh hp) (sNew (S.gfree hp)) (.lst upd_same rfl (f.same (sNew hp)))⟩
/-! an owned dict that is walked in an expression -/
theorem frz_tup {od : Obj} {u : HO} : ∀ xs, HO.frz od u ≠ .tup xs := fun _ z => by cases z
theorem dK_tup {kvs : List (Key × V)} : ∀ xs, HO.dK kvs ≠ .tup xs := fun _ z => by cases z
theorem q_lockE {t : TE} {σ : L2.St} {kvs : List (Key × V)} (S : Sep ms H0 G H cs) (i : Nat) (h : cs[i]? = some (a, .dK kvs)) (q : ∀ od H', Sep ms H0 G H' (cs.set i (a, .frz od (.dK kvs))) → t σ H' fun v H2 => H2 a = some (.frz od (.dK kvs)) ∧ Q v (upd H2 a (.dK kvs))) : tLockE t σ H Q :=
  ⟨a, _, S.get i h, True.intro, fun od => q od _ (S.put i h frz_tup)⟩
theorem q_unlockE {kvs : List (Key × V)} {od : Obj} (S : Sep ms H0 G H cs) (i : Nat) (h : cs[i]? = some (a, .frz od (.dK kvs))) (q : ∀ H', Sep ms H0 G H' (cs.set i (a, .dK kvs)) → Q v H') : H a = some (.frz od (.dK kvs)) ∧ Q v (upd H a (.dK kvs)) :=
  ⟨S.get i h, q _ (S.put i h dK_tup)⟩
def lkD (D : Ends) (a : Addr) (od : Obj) (u : HO) : Ends := ⟨fun σ' H' => H' a = some (.frz od u) ∧ D.nx σ' (upd H' a u), fun v H' => H' a = some (.frz od u) ∧ D.rt v (upd H' a u), fun σ' H' => H' a = some (.frz od u) ∧ D.bk σ' (upd H' a u), fun σ' H' => H' a = some (.frz od u) ∧ D.ct σ' (upd H' a u)⟩
theorem q_lockS {t : TS} {D : Ends} {σ : L2.St} {kvs : List (Key × V)} (S : Sep ms H0 G H cs) (i : Nat) (h : cs[i]? = some (a, .dK kvs)) (q : ∀ od H', Sep ms H0 G H' (cs.set i (a, .frz od (.dK kvs))) → t (lkD D a od (.dK kvs)) σ H') : tLock t D σ H :=
  ⟨a, _, S.get i h, True.intro, fun od => q od _ (S.put i h frz_tup)⟩
theorem q_unlockS {D : Ends} {σ : L2.St} {kvs : List (Key × V)} {od : Obj} (S : Sep ms H0 G H cs) (i : Nat) (h : cs[i]? = some (a, .frz od (.dK kvs))) (q : ∀ H', Sep ms H0 G H' (cs.set i (a, .dK kvs)) → D.nx σ H') : (lkD D a od (.dK kvs)).nx σ H :=
  ⟨S.get i h, q _ (S.put i h dK_tup)⟩
end
end LQ

/-! min of a list of alike data; tuples of what is owned. -/
namespace LQ
open PySem PySem.Spec PyProof.Rows L2 LX
theorem minD_mem : ∀ (xs : List PyData) (x : PyData), PySem.W.minD x xs ∈ x :: xs
  | [], x => List.mem_cons_self
  | y :: xs, x => by
    show PySem.W.minD (if PySem.W.dataLt y x then y else x) xs ∈ _
    have := minD_mem xs (if PySem.W.dataLt y x then y else x)
    rcases List.mem_cons.mp this with h | h
    · rw [h]
      split
      · exact List.mem_cons_of_mem _ List.mem_cons_self
      · exact List.mem_cons_self
    · exact List.mem_cons_of_mem _ (List.mem_cons_of_mem _ h)
def zMinT (K : PySem.W.Frag) : List V → Hp → VK → Prop := fun vs H Q => ∃ (a : Addr) (xs : List V) (x : PyData) (r : List PyData), vs = [.ref a] ∧ SqL K H a xs ∧ DpAll K H xs (x :: r) ∧ PySem.W.AlikeAll (x :: r) ∧ PyData.canLayAll0 (x :: r) = true ∧ PyData.depthAll (x :: r) ≤ 60 ∧
  ∀ (i : Nat) (v : V), xs[i]? = some v → (x :: r)[i]? = some (PySem.W.minD x r) → Q v H
theorem canLay_mem : ∀ {ds : List PyData} {d : PyData}, PyData.canLayAll0 ds = true → d ∈ ds → d.canLay0 = true
  | [], _, _, h => nomatch h
  | x :: ds, d, c, h => by
    simp only [PyData.canLayAll0, Bool.and_eq_true] at c
    rcases List.mem_cons.mp h with e | e
    · rw [e]; exact c.1
    · exact canLay_mem c.2 e
theorem kminT {X : Cx} {K : PySem.W.Frag} (hc : X.calm = true) (hu : X.A.units + 64 < cLine) (h : X.K = K := by rfl) : CallR X (.builtin "min") (zMinT K) := by
  subst h
  intro pins s σ H vs us Q I r h
  obtain ⟨a, xs, x, ds, rfl, hs, ha, al, cl, dp, q⟩ := h
  obtain rfl := Vals.ref1 r
  obtain ⟨its, rv, hl, _⟩ := I.list hs
  obtain ⟨as, h4⟩ := Dp.readsAll I (x :: ds) _ its ha rv
  refine PySem.W.min_list_data (I.ok.hd hc) hl.isList (x := x) (xs := ds) (as := as) (by rw [List.toList_toArray]; exact h4) al (by show X.A.units + 1 + _ < cLine; omega) fun i u h' tk bs hi hr hk => ?_
  have hi' : its[i]? = some u := by simpa using hi
  have il := (List.getElem?_eq_some_iff.mp hi').1
  have hv : xs[i]? = some (xs[i]'(by rw [rv.length]; exact il)) := List.getElem?_eq_getElem _
  obtain ⟨u', hu', ru⟩ := rv.get hv
  rw [hi'] at hu'
  cases hu'
  obtain ⟨cs, r2, i2, m2, _⟩ := PySem.W.readsAll_at h4 i u hi'
  have e1 := SeqAt.readOf_eq (canLay_mem cl (minD_mem ds x)) hr
  have e2 := SeqAt.readOf_eq (canLay_mem cl m2) (PySem.W.reads_keeps hk r2)
  refine ⟨_, H, I.kept hk, ru, q i _ hv ?_⟩
  rw [List.getElem?_eq_getElem i2, ← e1, e2]
  congr 1
  rw [List.getD_eq_getElem?_getD, List.getElem?_eq_getElem i2]
  rfl
/-- the least, typed -/
def minAt {α : Type} (e : α → PyData) : List α → Option α
  | [] => none
  | x :: xs => cond (((x :: xs).all fun a => (x :: xs).all fun b => PySem.W.alike (e a) (e b)) && ((x :: xs).all fun a => (e a).canLay0 && decide ((e a).depth ≤ 50) && !(e a).hasDict && !(match e a with | .none => true | _ => false)))
    (some (xs.foldl (fun a y => if PySem.W.dataLt (e y) (e a) = true then y else a) x)) none
theorem minAt_fold {α : Type} (e : α → PyData) : ∀ (xs : List α) (x : α), e (xs.foldl (fun a y => if PySem.W.dataLt (e y) (e a) = true then y else a) x) = PySem.W.minD (e x) (xs.map e)
  | [], _ => rfl
  | y :: xs, x => by
    rw [List.foldl_cons, minAt_fold e xs]
    show _ = PySem.W.minD (if PySem.W.dataLt (e y) (e x) then e y else e x) (xs.map e)
    congr 1
    split <;> rfl
theorem depth_all {n : Nat} : ∀ {ds : List PyData}, (∀ d ∈ ds, d.depth ≤ n) → PyData.depthAll ds ≤ n
  | [], _ => by simp only [PyData.depthAll]; omega
  | d :: ds, h => by
    simp only [PyData.depthAll]
    have := h d List.mem_cons_self
    have := depth_all fun y hy => h y (List.mem_cons_of_mem _ hy)
    omega
theorem canLay_all : ∀ {ds : List PyData}, (∀ d ∈ ds, d.canLay0 = true) → PyData.canLayAll0 ds = true
  | [], _ => by simp only [PyData.canLayAll0]
  | d :: ds, h => by
    simp only [PyData.canLayAll0, Bool.and_eq_true]
    exact ⟨h d List.mem_cons_self, canLay_all fun y hy => h y (List.mem_cons_of_mem _ hy)⟩
theorem hasDict_all : ∀ {ds : List PyData}, (∀ d ∈ ds, d.hasDict = false) → PyData.hasDictAll ds = false
  | [], _ => by simp only [PyData.hasDictAll]
  | d :: ds, h => by
    simp only [PyData.hasDictAll, Bool.or_eq_false_iff]
    exact ⟨h d List.mem_cons_self, hasDict_all fun y hy => h y (List.mem_cons_of_mem _ hy)⟩
section
variable {ms : List Addr} {F0 H0 G H : Hp} {cs : List (Addr × HO)} {a : Addr} {vs : List V} {K : PySem.W.Frag} {Q : VK}
theorem q_minT {α : Type} {e : α → PyData} {l : List α} {y : α} (sG : Same G H) (h1 : H a = some (.lst vs)) (f : FrL F0 G vs (l.map e)) (h : minAt e l = some y) (q : ∀ v, Fr F0 G v (e y) → Q v H) : zMinT K [.ref a] H Q := by
  cases l with
  | nil => cases h
  | cons x xs =>
    unfold minAt at h
    obtain ⟨h2, h3⟩ := grd h
    rw [Bool.and_eq_true, List.all_eq_true, List.all_eq_true] at h2
    obtain ⟨al, sm⟩ := h2
    have sm' : ∀ d ∈ (x :: xs).map e, d.canLay0 = true ∧ d.depth ≤ 50 ∧ d.hasDict = false ∧ d ≠ .none := fun d hd => by
      obtain ⟨b, hb, rfl⟩ := List.mem_map.mp hd
      have := sm b hb
      simp only [Bool.and_eq_true, decide_eq_true_iff, Bool.not_eq_true'] at this
      refine ⟨this.1.1.1, this.1.1.2, this.1.2, fun z => ?_⟩
      have w := this.2
      rw [z] at w
      exact absurd w (by simp)
    have em := minAt_fold e xs x
    cases som h3
    refine ⟨a, vs, e x, xs.map e, rfl, SqL.of h1, (f.same sG).dp (hasDict_all fun d hd => (sm' d hd).2.2.1), ⟨fun p hp r hr => ?_, fun p hp => (sm' p hp).2.2.2⟩, canLay_all fun d hd => (sm' d hd).1, Nat.le_trans (depth_all fun d hd => (sm' d hd).2.1) (by decide), fun i v hv hi => ?_⟩
    · obtain ⟨b, hb, rfl⟩ := List.mem_map.mp (show p ∈ (x :: xs).map e from hp)
      obtain ⟨c, hc, rfl⟩ := List.mem_map.mp (show r ∈ (x :: xs).map e from hr)
      have := al b hb
      rw [List.all_eq_true] at this
      exact this c hc
    · refine q v ?_
      obtain ⟨d, hd, fd⟩ := f.get' hv
      have : (x :: xs).map e = e x :: xs.map e := rfl
      rw [this, hi] at hd
      cases hd
      rw [em]
      exact fd
/-- a tuple of what is owned -/
theorem q_tupC {xs : List V} (S : Sep ms H0 G H cs) (z : xs.length ≤ LIM) (q : ∀ p G' H', Sep ms H0 G' H' cs → Same G G' → H' p = some (.tup xs) → Q (.ref p) H') : zTup xs H Q :=
  ⟨lim_le z, fun p hp => q p _ _ (S.sh hp) (sNew (S.gfree hp)) upd_same⟩
def remF (l : List Int) (x : Int) : Option (List Int) := cond (decide (x ∈ l)) (some (l.erase x)) none
theorem kremove {X : Cx} (_h : X.K = K := by rfl) : MtR X "list.remove" rRemI := mt_remove
theorem erase_is : ∀ {l : List Int} {x : Int}, x ∈ l → ∃ j, l[j]? = some x ∧ (∀ m : Nat, m < j → l[m]? ≠ some x) ∧ l.eraseIdx j = l.erase x
  | [], _, h => nomatch h
  | y :: l, x, h => by
    by_cases c : y = x
    · subst c
      exact ⟨0, rfl, fun m hm => absurd hm (Nat.not_lt_zero _), by simp⟩
    · have hx : x ∈ l := by
        rcases List.mem_cons.mp h with e | e
        · exact absurd e.symm c
        · exact e
      obtain ⟨j, h1, h2, h3⟩ := erase_is hx
      refine ⟨j + 1, by simpa using h1, fun m hm => ?_, ?_⟩
      · cases m with
        | zero => intro z; exact c (Option.some.inj z)
        | succ m => simpa using h2 m (by omega)
      · rw [List.eraseIdx_cons_succ, h3, List.erase_cons_tail (by simpa using c)]
theorem q_remI {l y : List Int} {x : Int} (S : Sep ms H0 G H cs) (i : Nat) (h : cs[i]? = some (a, .lst vs)) (f : FrL F0 G vs (l.map eI)) (hy : remF l x = some y) (q : ∀ us H', Sep ms H0 G H' (cs.set i (a, .lst us)) → FrL F0 G us (y.map eI) → Q .non H') : rRemI (.ref a) [.int x] H Q := by
  unfold remF at hy
  obtain ⟨h1, h2⟩ := grd hy
  cases som h2
  obtain ⟨j, k1, k2, k3⟩ := erase_is (of_decide_eq_true h1)
  have e := frl_ints f
  subst e
  refine ⟨a, l, x, j, rfl, rfl, S.get i h, k1, k2, ?_⟩
  rw [k3]
  exact q _ _ (S.put i h lst_tup) (ints_frl _)
theorem rd_glstE {n : Nat} {s : TGs} {p : Addr} {xs ys : List V} {σ : L2.St} {R : L2.St → Hp → Prop} (h : H p = some (.lst xs)) (e : xs = ys) (z : ys.length = n) (q : s ys σ H R) : gLst K n s (.ref p) σ H R := by
  subst e
  exact rd_glst h z q
theorem kpe_notT {X : Cx} {e : Expr} {ta : TE} {pos : Pos} (ha : PE X e ta) (h : X.K = K := by rfl) : PE X (.UnaryOp .Not e pos) (tNotT K ta) := h ▸ pe_notT ha
theorem rd_notT {ta : TE} {σ : L2.St} (q : ta σ H fun x H1 => ∃ k, TruV K x H1 k ∧ Q (.bl (!k)) H1) : tNotT K ta σ H Q := q
theorem q_isB {b c : Bool} (q : Q (.bl (decide (b = c))) H) : rIsB (.bl b) (.bl c) H Q := ⟨b, c, rfl, rfl, q⟩
theorem q_isNotB {b c : Bool} (q : Q (.bl (!decide (b = c))) H) : rNotB (.bl b) (.bl c) H Q := ⟨b, c, rfl, rfl, q⟩
theorem frO_non {α : Type} {e : α → PyData} {o : Option α} {v : V} (f : Fr F0 G v (eO e o)) (c : o.isNone = true) : v = .non := by
  cases o with
  | none => exact fr_non f
  | some _ => cases c
end
end LQ

/-! dicts whose keys are tuples of tuples: HO.ext, one object; the keys stand by what H says of the tuples. -/
namespace LQ
open PySem PySem.Spec PyProof.Rows L2 LX
section
variable {P : Program} {w : World} {H : Hp} {h : Heap}
mutual
theorem nested_of (ok : HOk P w H h) : ∀ (k : NestedKey) {F0 : Hp} {v : V} {u : Value}, Fr F0 H v k.data → RelV v u → NestedIs h k u
  | .none, F0, v, u, f, r => by
    have e := fr_non f
    subst e
    cases r
    exact .none
  | .num i, F0, v, u, f, r => by
    cases f with
    | int _ =>
      obtain ⟨t, e⟩ := (show ∃ t, u = Value.int i t from r)
      subst e
      exact .int i t
  | .text x, F0, v, u, f, r => by
    cases f with
    | str _ =>
      obtain ⟨t, e⟩ := (show ∃ t, u = Value.str x t from r)
      subst e
      exact .text x t
  | .tup ks, F0, v, u, f, r => by
    cases f with
    | @tup a vs _ hh hs =>
      cases (show u = Value.ref a from r)
      obtain ⟨z, its, rv, o, e, c1, n, c2⟩ := (show ObjOk P w H h a (.tup vs) from ok a _ hh)
      exact .tup e c1 c2 (by rw [List.toList_toArray]; exact nested_ofL ok ks hs rv)
theorem nested_ofL (ok : HOk P w H h) : ∀ (ks : List NestedKey) {F0 : Hp} {vs : List V} {us : List Value}, FrL F0 H vs (NestedKey.datas ks) → Vals vs us → NestedAll h ks us
  | [], F0, vs, us, f, r => by
    cases f
    cases r
    exact .nil
  | k :: ks, F0, vs, us, f, r => by
    cases f with
    | cons f1 fs =>
      cases r with
      | cons r1 rs => exact .cons (nested_of ok k f1 r1) (nested_ofL ok ks fs rs)
end
end
/-- a key at an address, by what H says -/
def KeyAt (H : Hp) (k : NestedKey) (b : Addr) : Prop := Fr E0h H (.ref b) k.data ∧ k.depth ≤ 8
theorem key_is {P : Program} {w : World} {H : Hp} {h : Heap} (ok : HOk P w H h) {k : NestedKey} {b : Addr} (f : KeyAt H k b) : (nestedKind P w).is h k b := ⟨nested_of ok k f.1 rfl, f.2⟩
abbrev NKv := List (NestedKey × Addr × V)
def KN (kvs : NKv) (xs : List (NestedKey × Addr × Value)) : Prop := Paired (fun (p : NestedKey × Addr × V) (q : NestedKey × Addr × Value) => p.1 = q.1 ∧ p.2.1 = q.2.1 ∧ RelV p.2.2 q.2.2) kvs xs
def DN (P : Program) (w : World) (a : Addr) (kvs : NKv) : HO := .ext fun h => kvs.length ≤ sizeLine ∧ (a == sysModules) = false ∧ ∃ xs, KN kvs xs ∧
  ∃ o es ep, h.get? a = some o ∧ o.ExactDict ∧ o.data = .dict es ep ∧ es.toList = xs.map (entryOfKey (nestedKind P w)) ∧ (xs.map (·.1)).Nodup
def KeysAt (H : Hp) (kvs : NKv) : Prop := ∀ p ∈ kvs, KeyAt H p.1 p.2.1
def valN (kvs : NKv) (k : NestedKey) : Option V := (kvs.find? fun x => decide (x.1 = k)).map (·.2.2)
def putN (kvs : NKv) (k : NestedKey) (b : Addr) (v : V) : NKv := if (valN kvs k).isSome = true then kvs.map fun x => if x.1 = k then (x.1, x.2.1, v) else x else kvs ++ [(k, b, v)]
theorem KN.keys {kvs : NKv} {xs : List (NestedKey × Addr × Value)} (r : KN kvs xs) : ∀ x ∈ xs, ∃ p ∈ kvs, p.1 = x.1 ∧ p.2.1 = x.2.1 := by
  unfold KN at r
  induction r with
  | nil => intro x hx; cases hx
  | @cons p q ps qs h t ih =>
    intro x hx
    rcases List.mem_cons.mp hx with e | e
    · subst e; exact ⟨p, List.mem_cons_self, h.1, h.2.1⟩
    · obtain ⟨p', h1, h2⟩ := ih x e
      exact ⟨p', List.mem_cons_of_mem _ h1, h2⟩
theorem KN.val {kvs : NKv} {xs : List (NestedKey × Addr × Value)} (r : KN kvs xs) (k : NestedKey) : RelO (valN kvs k) ((atKey xs k).map (·.2)) := by
  unfold KN at r
  induction r with
  | nil => exact trivial
  | @cons p q ps qs h t ih =>
    unfold valN atKey at ih ⊢
    by_cases c : p.1 = k
    · rw [List.find?_cons_of_pos (by simpa using c), List.find?_cons_of_pos (by rw [← h.1]; simpa using c)]
      exact h.2.2
    · rw [List.find?_cons_of_neg (by simpa using c), List.find?_cons_of_neg (by rw [← h.1]; simpa using c)]
      exact ih
theorem KN.put {kvs : NKv} {xs : List (NestedKey × Addr × Value)} (r : KN kvs xs) (k : NestedKey) (b : Addr) {v : V} {u : Value} (rv : RelV v u) : KN (putN kvs k b v) (storedH xs k b u) := by
  have q := (r.val k).isSome_eq
  rw [Option.isSome_map] at q
  unfold putN storedH
  rw [q]
  by_cases c : (atKey xs k).isSome = true
  · rw [if_pos c, if_pos c]
    clear q c
    unfold KN at r ⊢
    induction r with
    | nil => exact .nil
    | @cons p q ps qs h t ih =>
      refine .cons ?_ ih
      unfold putAt
      dsimp only
      by_cases d : p.1 = k
      · rw [if_pos d, if_pos (h.1.symm.trans d)]
        exact ⟨h.1, h.2.1, rv⟩
      · rw [if_neg d, if_neg (fun z => d (h.1.trans z))]
        exact h
  · rw [if_neg c, if_neg c]
    clear q c
    unfold KN at r ⊢
    induction r with
    | nil => exact .cons ⟨rfl, rfl, rv⟩ .nil
    | cons h t ih => exact .cons h ih
section
variable {P : Program} {w : World} {H : Hp} {h : Heap} {a : Addr} {kvs : NKv}
theorem dn_of (ok : HOk P w H h) (e : H a = some (DN P w a kvs)) (ks : KeysAt H kvs) : kvs.length ≤ sizeLine ∧ (a == sysModules) = false ∧ ∃ xs, KN kvs xs ∧ h.DictOfH (nestedKind P w) a xs := by
  obtain ⟨⟨z, y, xs, r, o, es, ep, h1, h2, h3, h4, h5⟩, _, _⟩ := (show ObjOk P w H h a (DN P w a kvs) from ok a _ e)
  refine ⟨z, y, xs, r, o, es, ep, h1, h2, h3, h4, fun x hx => ?_, h5⟩
  obtain ⟨p, hp, e1, e2⟩ := r.keys x hx
  rw [← e1, ← e2]
  exact key_is ok (ks p hp)
theorem dn_ok {h' : Heap} {H' : Hp} {xs : List (NestedKey × Addr × Value)} (z : kvs.length ≤ sizeLine) (hd : (a == sysModules) = false) (r : KN kvs xs) (dd : h'.DictOfH (nestedKind P w) a xs) : ObjOk P w H' h' a (DN P w a kvs) := by
  obtain ⟨o, es, ep, h1, h2, h3, h4, _, h5⟩ := dd
  refine ⟨⟨z, hd, xs, r, o, es, ep, h1, h2, h3, h4, h5⟩, ⟨o, h1⟩, fun g1 g2 ⟨z, hd, xs, r, o, es, ep, h1, h2, h3, h4, h5⟩ k => ⟨z, hd, xs, r, o, es, ep, k _ h1, h2, h3, h4, h5⟩⟩
end
def DGetN (P : Program) (w : World) (H : Hp) (a : Addr) (y : V) (r : Option V) : Prop := ∃ kvs k b, H a = some (DN P w a kvs) ∧ KeysAt H kvs ∧ y = .ref b ∧ KeyAt H k b ∧ r = valN kvs k
def DPutN (P : Program) (w : World) (H : Hp) (a : Addr) (y v : V) (H' : Hp) : Prop := ∃ kvs k b, H a = some (DN P w a kvs) ∧ KeysAt H kvs ∧ y = .ref b ∧ KeyAt H k b ∧ kvs.length < sizeLine ∧ H' = upd H a (DN P w a (putN kvs k b v))
theorem room_n {A : Around} (hu : A.units + 64 < cLine) : (nestedKind P w).room A.in1 := by
  show A.units + 1 + 8 < cLine
  omega
section
variable {X : Cx} {pins : List (Addr × Obj)} {σ : L2.St} {H : Hp} {s : Shared} {a : Addr} {y v : V} {u r : Value} {o : Option V} {E : Value → Shared → Prop} {A : Around}
theorem dn_notIn {Q : Value → Shared → Prop} (hu : A.units + 64 < cLine) (I : Inv X pins σ H s) (g : DGetN X.prog X.w H a y o) (ry : RelV y u) (h : ∀ s', Inv X pins σ H s' → Q (.bool (!o.isSome)) s') :
    wpAny (model X.prog X.w) A (compareOp .NotIn u (.ref a)) Q E s := by
  obtain ⟨kvs, k, b, e, ks, ey, eb, l⟩ := g
  subst ey
  cases (show u = Value.ref b from ry)
  obtain ⟨z, hd, xs, rel, dd⟩ := dn_of I.hok e ks
  refine wpAny_notIn_heap (room_n hu) (key_is I.hok eb) hd dd ?_
  have q := (rel.val k).isSome_eq
  rw [Option.isSome_map] at q
  rw [← q, ← l]
  exact h _ (I.tok _)
theorem dn_in {Q : Value → Shared → Prop} (hu : A.units + 64 < cLine) (I : Inv X pins σ H s) (g : DGetN X.prog X.w H a y o) (ry : RelV y u) (h : ∀ s', Inv X pins σ H s' → Q (.bool o.isSome) s') :
    wpAny (model X.prog X.w) A (compareOp .In u (.ref a)) Q E s := by
  obtain ⟨kvs, k, b, e, ks, ey, eb, l⟩ := g
  subst ey
  cases (show u = Value.ref b from ry)
  obtain ⟨z, hd, xs, rel, dd⟩ := dn_of I.hok e ks
  refine wpAny_in_heap (room_n hu) (key_is I.hok eb) hd dd ?_
  have q := (rel.val k).isSome_eq
  rw [Option.isSome_map] at q
  rw [← q, ← l]
  exact h _ (I.tok _)
theorem dn_getItem {Q : Value → Shared → Prop} (hu : A.units + 64 < cLine) (I : Inv X pins σ H s) (g : DGetN X.prog X.w H a y (some v)) (ry : RelV y u) (h : ∀ w' s', Inv X pins σ H s' → RelV v w' → Q w' s') :
    wpAny (model X.prog X.w) A (getItem (.ref a) u) Q E s := by
  obtain ⟨kvs, k, b, e, ks, ey, eb, l⟩ := g
  subst ey
  cases (show u = Value.ref b from ry)
  obtain ⟨z, hd, xs, rel, dd⟩ := dn_of I.hok e ks
  obtain ⟨w', hw, rw'⟩ := RelO.some_of (v := v) (o := (atKey xs k).map (·.2)) (by rw [l]; exact rel.val k)
  obtain ⟨p, hp, hp2⟩ := Option.map_eq_some_iff.mp hw
  refine wpAny_getItem_heap (room_n hu) (key_is I.hok eb) dd hp ?_
  rw [hp2]
  exact h w' _ (I.tok _) rw'
theorem length_putN (kvs : NKv) (k : NestedKey) (b : Addr) (v : V) : (putN kvs k b v).length ≤ kvs.length + 1 := by
  unfold putN
  split
  · rw [List.length_map]; omega
  · rw [List.length_append]; exact Nat.le_refl _
theorem dn_setItem {H' : Hp} {Q : Unit → Shared → Prop} (hu : A.units + 64 < cLine) (I : Inv X pins σ H s) (g : DPutN X.prog X.w H a y v H') (ry : RelV y u) (rv : RelV v r) (h : ∀ s', Inv X pins σ H' s' → Q () s') :
    wpAny (model X.prog X.w) A (setItem (.ref a) u r) Q E s := by
  obtain ⟨kvs, k, b, e, ks, ey, eb, l, eH⟩ := g
  subst ey eH
  cases (show u = Value.ref b from ry)
  obtain ⟨z, hd, xs, rel, dd⟩ := dn_of I.hok e ks
  have hz : xs.length ≤ sizeLine := by rw [← Paired.length rel]; exact z
  have hl : (putN kvs k b v).length ≤ sizeLine := by have := length_putN kvs k b v; omega
  refine wpAny_setItem_heap (hsz := hz) (room_n hu) (key_is I.hok eb) dd fun h' dd' hs => h _ ?_
  have he : ∃ q, h'.get? a = some q := let ⟨q, _, _, hq, _⟩ := dd'; ⟨q, hq⟩
  exact d_write I (by rw [e]; exact True.intro) hs he (dn_ok hl hd (rel.put k b rv) dd')
theorem dn_typeIs (I : Inv X pins σ H s) (g : DGetN X.prog X.w H a y o) : s.TypeIs (.ref a) "dict" := by
  obtain ⟨kvs, k, b, e, ks, _⟩ := g
  obtain ⟨_, _, xs, _, dd⟩ := dn_of I.hok e ks
  exact dd.typeIs
end
/-! ### rules -/
section
variable {X : Cx} {o i e value kx vx : Expr} {pos pos' tpos : Pos} {td ty tv tk : TE}
def tDGetN (P : Program) (w : World) (td ty : TE) : TE := fun σ H Q => td σ H fun x H1 => ty σ H1 fun y H2 => ∃ a v, x = .ref a ∧ DGetN P w H2 a y (some v) ∧ Q v H2
def tDInN (P : Program) (w : World) (ty td : TE) : TE := fun σ H Q => ty σ H fun y H1 => td σ H1 fun x H2 => ∃ a o, x = .ref a ∧ DGetN P w H2 a y o ∧ Q (.bl o.isSome) H2
def tDNotInN (P : Program) (w : World) (ty td : TE) : TE := fun σ H Q => ty σ H fun y H1 => td σ H1 fun x H2 => ∃ a o, x = .ref a ∧ DGetN P w H2 a y o ∧ Q (.bl (!o.isSome)) H2
def sDPutN (P : Program) (w : World) (td ty tv : TE) : TS := fun D σ H => tv σ H fun v H1 => td σ H1 fun x H2 => ty σ H2 fun y H3 => ∃ a H4, x = .ref a ∧ DPutN P w H3 a y v H4 ∧ D.nx σ H4
def tDisp1N (P : Program) (w : World) (tk tv : TE) : TE := fun σ H Q => ∀ p, H p = none → tk σ (upd H p (DN P w p [])) fun x H1 => tv σ H1 fun y H2 => H2 p = some (DN P w p []) ∧ ∃ k b, x = .ref b ∧ KeyAt H2 k b ∧ Q (.ref p) (upd H2 p (DN P w p [(k, b, y)]))
theorem pe_dgetN (hu : X.A.units + 64 < cLine) (ho : PE X o td) (hi : PE X i ty) (hs : NoSl i) : PE X (.Subscript o i pos) (tDGetN X.prog X.w td ty) := by
  refine ⟨fun pins s σ H Q I h => ?_⟩
  refine subD_of PySem.F.slot_dict_getitem.lookup hs (thn (ho.run pins s σ H _ I h) fun u s1 ⟨x, H1, I1, rx, q1⟩ => thn (hi.run pins s1 σ H1 _ I1 q1) fun iv s2 ⟨y, H2, I2, ry, a, v, ex, g, q2⟩ => ?_)
  subst ex
  obtain rfl : u = Value.ref a := rx
  exact ⟨dn_typeIs I2 g, dn_getItem hu I2 g ry fun w' s3 I3 rw' => ⟨v, H2, I3, rw', q2⟩⟩
theorem pc_dinN (hu : X.A.units + 64 < cLine) (hi : PE X i ty) (ho : PE X o td) : PC X .In i o (tDInN X.prog X.w ty td) := by
  refine ⟨fun pins s σ H Q I h => ?_⟩
  refine thn (hi.run pins s σ H _ I h) fun iv s1 ⟨y, H1, I1, ry, q1⟩ => thn (ho.run pins s1 σ H1 _ I1 q1) fun u s2 ⟨x, H2, I2, rx, a, ov, ex, g, q2⟩ => ?_
  subst ex
  obtain rfl : u = Value.ref a := rx
  exact dn_in hu I2 g ry fun s3 I3 => ⟨.bl ov.isSome, H2, I3, rfl, q2⟩
theorem pc_dnotinN (hu : X.A.units + 64 < cLine) (hi : PE X i ty) (ho : PE X o td) : PC X .NotIn i o (tDNotInN X.prog X.w ty td) := by
  refine ⟨fun pins s σ H Q I h => ?_⟩
  refine thn (hi.run pins s σ H _ I h) fun iv s1 ⟨y, H1, I1, ry, q1⟩ => thn (ho.run pins s1 σ H1 _ I1 q1) fun u s2 ⟨x, H2, I2, rx, a, ov, ex, g, q2⟩ => ?_
  subst ex
  obtain rfl : u = Value.ref a := rx
  exact dn_notIn hu I2 g ry fun s3 I3 => ⟨.bl (!ov.isSome), H2, I3, rfl, q2⟩
theorem ps_dputN (hu : X.A.units + 64 < cLine) (ho : PE X o td) (hi : PE X i ty) (hv : PE X value tv) (hs : swapsWith value (some (.Subscript o i pos')) pos.line X.env = pure false) :
    PS X (.Assign [.Subscript o i pos'] value pos) (sDPutN X.prog X.w td ty tv) := by
  refine ⟨fun pins s σ H D I h => ?_⟩
  refine wpAny_Assign_Subscript (thn (hv.run pins s σ H _ I h) fun r s1 ⟨v, H1, I1, rv, q1⟩ => thn (ho.run pins s1 σ H1 _ I1 q1) fun u s2 ⟨x, H2, I2, rx, q2⟩ => thn (hi.run pins s2 σ H2 _ I2 q2) fun iv s3 ⟨y, H3, I3, ry, a, H4, ex, g, q3⟩ => ?_) hs
  subst ex
  obtain rfl : u = Value.ref a := rx
  exact dn_setItem hu I3 g ry rv fun s4 I4 => ⟨σ, H4, I4, q3⟩
theorem dn_empty {P : Program} {w : World} {H : Hp} (h : Heap) (hb : sysModules < h.objs.size) : ObjOk P w H (h.push { cls := .type "dict", data := .dict #[] }) h.objs.size (DN P w h.objs.size []) :=
  dn_ok (Nat.zero_le _) (beq_eq_false_iff_ne.mpr (Nat.ne_of_gt hb)) .nil (Heap.DictOfH.new h)
theorem dictPairsH {prog : Program} {w : World} {K : Type} [DecidableEq K] {knd : HeapKind prog w K} {A : Around} {E : Value → Shared → Prop} {s : Shared} {env : Env} {keys : List (Option Expr)} {values : List Expr} {pos : Pos} {pairs : List (Sem Value × Sem Value)} {Q : Value → Shared → Prop} (hu : knd.room A)
    (hshape : (evalEachOpt keys env).zip ((evalEach values env).map fun v => do let x ← v; standAt pos; pure x) = pairs.map fun p => (some p.1, p.2)) (h0 : pairs ≠ []) (hlen : pairs.length ≤ 15)
    (h : wpAny (model prog w) A (evalPairs pairs) (fun vs s₁ => ∃ ps, CarriesH knd s₁.heap vs ps ∧ s₁.heap.DictOfH knd s.heap.objs.size [] ∧
      ∀ h' tk, h'.DictOfH knd s.heap.objs.size (storedAllH [] ps) → Heap.SameBut s.heap.objs.size s₁.heap h' → Q (.ref s.heap.objs.size) { s₁ with heap := h', toks := tk }) E
      { s with heap := s.heap.push { cls := .type "dict", data := .dict #[] } }) :
    wpAny (model prog w) A (eval (.Dict keys values pos) env) Q E s := by
  rw [arm_eval_Dict, hshape, dictDisplay_pairs pairs h0 (by omega)]
  exact wpAny_bind (wpAny_standAt (wpAny_bind (wpAny_subDictH (knd := knd) (Q := fun d s' => wpAny (model prog w) A (pure (Value.ref d)) Q E s') hu hlen
    (wpAny_mono h (fun vs s₁ h₁ => by obtain ⟨ps, hc, hm, hq⟩ := h₁; exact ⟨ps, hc, hm, fun h' tk a b => wpAny_pure (hq h' tk a b)⟩) fun _ _ e => e))))
theorem pe_disp1N (hu : X.A.units + 64 < cLine) (hk : PE X kx tk) (hv : PE X vx tv) : PE X (.Dict [some kx] [vx] pos) (tDisp1N X.prog X.w tk tv) := by
  refine ⟨fun pins s σ H Q I q => ?_⟩
  have hn := I.hok.fresh (Nat.le_refl s.heap.objs.size)
  have I1 := I.laid (a := s.heap.objs.size) (o := DN X.prog X.w s.heap.objs.size []) (h' := s.heap.push { cls := .type "dict", data := .dict #[] }) (t' := s.toks) (fun _ _ q => Heap.get?_push_of_some _ q) (Nat.le_refl _) (dn_empty s.heap I.big)
  have hl := pairTrees_length [some kx] [vx] X.env pos rfl rfl
  refine dictPairsH (knd := nestedKind X.prog X.w) (pairs := pairTrees [some kx] [vx] X.env pos) (by show X.A.units + 8 < cLine; omega) (zip_pairTrees [some kx] [vx] X.env pos rfl rfl) (fun e => by rw [e] at hl; cases hl) (by rw [hl]; exact (show 1 ≤ 15 by decide)) ?_
  refine pairTrees_cons_walk (thn (hk.run pins _ σ _ _ I1 (q _ hn)) fun u s1 ⟨x, H1, I2, rx, q1⟩ => thn (hv.run pins s1 σ H1 _ I2 q1) fun w2 s2 ⟨y, H2, I3, ry, e, k, b, ex, kb, q2⟩ => pairTrees_nil_walk ?_)
  subst ex
  cases (show u = Value.ref b from rx)
  obtain ⟨z, hd, xs, r0, dd⟩ := dn_of I3.hok e (fun p hp => nomatch hp)
  cases r0
  refine ⟨[(k, b, w2)], ⟨rfl, rfl, key_is I3.hok kb, trivial⟩, dd, fun h' tk dd' hs => ⟨.ref s.heap.objs.size, _, ?_, rfl, q2⟩⟩
  have he : ∃ q, h'.get? s.heap.objs.size = some q := let ⟨q, _, _, hq, _⟩ := dd'; ⟨q, hq⟩
  exact d_write I3 (by rw [e]; exact True.intro) hs he (dn_ok (by rw [sizeLine_eq]; exact (show 1 ≤ 16777216 by decide)) hd (.cons ⟨rfl, rfl, ry⟩ .nil) dd')
end
/-! ### by what they hold -/
/-- a tuple of things of one kind -/
@[reducible] def eVT {α : Type} (e : α → PyData) (l : List α) : PyData := .tuple (l.map e)
theorem datas_map {α : Type} (f : α → NestedKey) : ∀ l : List α, NestedKey.datas (l.map f) = l.map fun x => (f x).data
  | [] => rfl
  | x :: l => by
    show NestedKey.datas (f x :: l.map f) = _
    simp only [NestedKey.datas, List.map_cons]
    rw [datas_map f l]
def kE (e : Int × Str) : NestedKey := .tup [.num e.1, .text e.2]
def kRow (l : List (Int × Str)) : NestedKey := .tup (l.map kE)
theorem kE_data (e : Int × Str) : (kE e).data = eT2 eI eS e := by
  unfold kE
  simp only [NestedKey.data, NestedKey.datas]
theorem kRow_data (l : List (Int × Str)) : (kRow l).data = eVT (eT2 eI eS) l := by
  unfold kRow
  simp only [NestedKey.data]
  rw [datas_map]
  show PyData.tuple _ = PyData.tuple _
  exact congrArg PyData.tuple (List.map_congr_left fun e _ => kE_data e)
theorem kE_depth : ∀ l : List (Int × Str), NestedKey.depthAll (l.map kE) ≤ 1
  | [] => by simp only [List.map_nil, NestedKey.depthAll]; omega
  | e :: l => by
    have := kE_depth l
    simp only [List.map_cons, NestedKey.depthAll, kE, NestedKey.depth]
    omega
theorem kRow_depth (l : List (Int × Str)) : (kRow l).depth ≤ 8 := by
  have := kE_depth l
  unfold kRow
  simp only [NestedKey.depth]
  omega
theorem kE_inj {a b : Int × Str} (h : kE a = kE b) : a = b := by
  unfold kE at h
  injection h with h
  injection h with h1 h2
  injection h1 with h1
  injection h2 with h2
  injection h2 with h2
  exact Prod.ext h1 h2
theorem kRow_inj : ∀ a b : List (Int × Str), kRow a = kRow b → a = b := fun a b h => by
  unfold kRow at h
  injection h with h
  induction a generalizing b with
  | nil =>
    cases b with
    | nil => rfl
    | cons y b => cases h
  | cons x a ih =>
    cases b with
    | nil => cases h
    | cons y b =>
      rw [List.map_cons, List.map_cons] at h
      injection h with h1 h2
      rw [kE_inj h1, ih b h2]
/-- a key kind: rows -/
structure KK {κ : Type} (ek : κ → PyData) (kk : κ → NestedKey) : Prop where
  data : ∀ k, (kk k).data = ek k
  depth : ∀ k, (kk k).depth ≤ 8
  inj : ∀ a b, kk a = kk b → a = b
theorem kkRow : KK (eVT (eT2 eI eS)) kRow := ⟨kRow_data, kRow_depth, kRow_inj⟩
inductive FrN {κ α : Type} (kk : κ → NestedKey) (e : α → PyData) (F0 G : Hp) : NKv → List (κ × α) → Prop
  | nil : FrN kk e F0 G [] []
  | cons {b : Addr} {v : V} {kvs : NKv} {k : κ} {x : α} {l : List (κ × α)} : KeyAt G (kk k) b → Fr F0 G v (e x) → FrN kk e F0 G kvs l → FrN kk e F0 G ((kk k, b, v) :: kvs) ((k, x) :: l)
section
variable {κ α : Type} [DecidableEq κ] {kk : κ → NestedKey} {ek : κ → PyData} {e : α → PyData} {F0 H0 G G' H H' : Hp} {kvs : NKv} {l : List (κ × α)} {k : κ} {x : α} {v y : V} {a b : Addr} {ms : List Addr} {cs : List (Addr × HO)} {Q : VK} {P : Program} {w : World}
theorem FrN.same (f : FrN kk e F0 G kvs l) (s : Same G G') : FrN kk e F0 G' kvs l := by
  induction f with
  | nil => exact .nil
  | cons h1 h2 _ ih => exact .cons ⟨h1.1.same s, h1.2⟩ (h2.same s) ih
theorem FrN.rp (f : FrN kk e F0 G kvs l) : FrN kk e E0h G kvs l := by
  induction f with
  | nil => exact .nil
  | cons h1 h2 _ ih => exact .cons h1 h2.rp ih
theorem FrN.keys (f : FrN kk e F0 G kvs l) (s : Same G H) : KeysAt H kvs := by
  induction f with
  | nil => exact fun p hp => nomatch hp
  | cons h1 h2 _ ih =>
    intro p hp
    rcases List.mem_cons.mp hp with z | z
    · subst z; exact ⟨h1.1.same s, h1.2⟩
    · exact ih p z
theorem FrN.len (f : FrN kk e F0 G kvs l) : kvs.length = l.length := by
  induction f with
  | nil => rfl
  | cons _ _ _ ih => rw [List.length_cons, List.length_cons, ih]
theorem FrN.get (hk : KK ek kk) (f : FrN kk e F0 G kvs l) (k : κ) : (∃ x v, dget l k = some x ∧ valN kvs (kk k) = some v ∧ Fr F0 G v (e x)) ∨ (dget l k = none ∧ valN kvs (kk k) = none) := by
  induction f with
  | nil => exact Or.inr ⟨rfl, rfl⟩
  | @cons b v kvs k' x l h1 h2 _ ih =>
    unfold dget valN at ih ⊢
    by_cases c : k' = k
    · subst c
      rw [List.find?_cons_of_pos (by simp), List.find?_cons_of_pos (by simp)]
      exact Or.inl ⟨x, v, rfl, rfl, h2⟩
    · rw [List.find?_cons_of_neg (by simpa using c), List.find?_cons_of_neg (by simpa using fun z => c (hk.inj _ _ z))]
      exact ih
theorem FrN.has (hk : KK ek kk) (f : FrN kk e F0 G kvs l) (k : κ) : (valN kvs (kk k)).isSome = dhas l k := by
  unfold dhas
  rcases f.get hk k with ⟨x, v, h1, h2, _⟩ | ⟨h1, h2⟩ <;> rw [h1, h2] <;> rfl
theorem FrN.put (hk : KK ek kk) (f : FrN kk e F0 G kvs l) (kb : KeyAt G (kk k) b) (g : Fr F0 G v (e x)) : FrN kk e F0 G (putN kvs (kk k) b v) (dput l k x) := by
  have any : (valN kvs (kk k)).isSome = l.any fun p => decide (p.1 = k) := by
    rw [f.has hk k]
    unfold dhas dget
    rw [Option.isSome_map, Bool.eq_iff_iff, List.find?_isSome, List.any_eq_true]
  unfold putN dput
  rw [any]
  by_cases c : (l.any fun p => decide (p.1 = k)) = true
  · rw [if_pos c, if_pos c]
    clear c any
    induction f with
    | nil => exact .nil
    | @cons b' v' kvs k' x' l h1 h2 _ ih =>
      rw [List.map_cons, List.map_cons]
      by_cases d : k' = k
      · rw [if_pos (congrArg kk d), if_pos d]
        exact .cons h1 g ih
      · rw [if_neg (fun z => d (hk.inj _ _ z)), if_neg d]
        exact .cons h1 h2 ih
  · rw [if_neg c, if_neg c]
    clear c any
    induction f with
    | nil => exact .cons kb g .nil
    | cons h1 h2 _ ih => exact .cons h1 h2 ih
theorem dn_tup : ∀ xs, DN P w a kvs ≠ .tup xs := fun _ z => nomatch z
def zDGetN (P : Program) (w : World) (x y : V) (H : Hp) (Q : VK) : Prop := ∃ a v, x = .ref a ∧ DGetN P w H a y (some v) ∧ Q v H
theorem rd_dgetN {td ty : TE} {σ : L2.St} (q : td σ H fun x H1 => ty σ H1 fun y H2 => zDGetN P w x y H2 Q) : tDGetN P w td ty σ H Q := q
def zDInN (P : Program) (w : World) (y x : V) (H : Hp) (Q : VK) : Prop := ∃ a o, x = .ref a ∧ DGetN P w H a y o ∧ Q (.bl o.isSome) H
def zDNotInN (P : Program) (w : World) (y x : V) (H : Hp) (Q : VK) : Prop := ∃ a o, x = .ref a ∧ DGetN P w H a y o ∧ Q (.bl (!o.isSome)) H
theorem rd_dinN {td ty : TE} {σ : L2.St} (q : ty σ H fun y H1 => td σ H1 fun x H2 => zDInN P w y x H2 Q) : tDInN P w ty td σ H Q := q
theorem rd_dniN {td ty : TE} {σ : L2.St} (q : ty σ H fun y H1 => td σ H1 fun x H2 => zDNotInN P w y x H2 Q) : tDNotInN P w ty td σ H Q := q
def zDPutN (P : Program) (w : World) (v x y : V) (H : Hp) (R : Hp → Prop) : Prop := ∃ a H4, x = .ref a ∧ DPutN P w H a y v H4 ∧ R H4
theorem rd_dputN {td ty tv : TE} {σ : L2.St} {D : Ends} (q : tv σ H fun v H1 => td σ H1 fun x H2 => ty σ H2 fun y H3 => zDPutN P w v x y H3 fun H4 => D.nx σ H4) : sDPutN P w td ty tv D σ H := q
theorem key_at (hk : KK ek kk) (fy : Fr F0 H (.ref b) (ek k)) : KeyAt H (kk k) b := ⟨by rw [hk.data]; exact fy.rp, hk.depth k⟩
theorem q_dgetN (hk : KK ek kk) (S : Sep ms H0 G H cs) (i : Nat) (hi : cs[i]? = some (a, DN P w a kvs)) (f : FrN kk e F0 G kvs l) (fy : Fr E0h H (.ref b) (ek k)) (hx : dget l k = some x) (q : ∀ v, Fr F0 G v (e x) → Q v H) : zDGetN P w (.ref a) (.ref b) H Q := by
  rcases f.get hk k with ⟨x', v, h1, h2, h3⟩ | ⟨h1, _⟩
  · rw [hx] at h1
    cases h1
    exact ⟨a, v, rfl, ⟨kvs, kk k, b, S.get i hi, f.keys S.sub, rfl, key_at hk fy, h2.symm⟩, q v h3⟩
  · rw [hx] at h1
    cases h1
theorem q_dinN (hk : KK ek kk) (S : Sep ms H0 G H cs) (i : Nat) (hi : cs[i]? = some (a, DN P w a kvs)) (f : FrN kk e F0 G kvs l) (fy : Fr E0h H (.ref b) (ek k)) (q : Q (.bl (dhas l k)) H) : zDInN P w (.ref b) (.ref a) H Q :=
  ⟨a, _, rfl, ⟨kvs, kk k, b, S.get i hi, f.keys S.sub, rfl, key_at hk fy, rfl⟩, by rw [f.has hk k]; exact q⟩
theorem q_dniN (hk : KK ek kk) (S : Sep ms H0 G H cs) (i : Nat) (hi : cs[i]? = some (a, DN P w a kvs)) (f : FrN kk e F0 G kvs l) (fy : Fr E0h H (.ref b) (ek k)) (q : Q (.bl (!dhas l k)) H) : zDNotInN P w (.ref b) (.ref a) H Q :=
  ⟨a, _, rfl, ⟨kvs, kk k, b, S.get i hi, f.keys S.sub, rfl, key_at hk fy, rfl⟩, by rw [f.has hk k]; exact q⟩
theorem q_dputN {r : List (κ × α)} {R : Hp → Prop} (hk : KK ek kk) (S : Sep ms H0 G H cs) (i : Nat) (hi : cs[i]? = some (a, DN P w a kvs)) (f : FrN kk e F0 G kvs l) (fy : Fr E0h G (.ref b) (ek k)) (fv : Fr F0 G v (e x)) (h : dputF l k x = some r)
    (q : ∀ us H', Sep ms H0 G H' (cs.set i (a, DN P w a us)) → FrN kk e F0 G us r → R H') : zDPutN P w v (.ref a) (.ref b) H R := by
  unfold dputF at h
  obtain ⟨h1, h2⟩ := grd h
  cases som h2
  exact ⟨a, _, rfl, ⟨kvs, kk k, b, S.get i hi, f.keys S.sub, rfl, key_at hk (fy.same S.sub), lim_lt (by rw [f.len]; exact of_decide_eq_true h1), rfl⟩, q _ _ (S.put i hi dn_tup) (f.put hk (key_at hk fy) fv)⟩
/-- tuple(x) of a list -/
theorem q_tuple {K : PySem.W.Frag} {p : Addr} {vs : List V} {l : List α} (S : Sep ms H0 G H cs) (h : H p = some (.lst vs)) (f : FrL F0 G vs (l.map e)) (q : ∀ a G' H', Sep ms H0 G' H' cs → Same G G' → Fr F0 G' (.ref a) (eVT e l) → Q (.ref a) H') : kTup K (.ref p) H Q :=
  Or.inl ⟨p, vs, rfl, SqL.of h, fun c hc => q c _ _ (S.sh hc) (sNew (S.gfree hc)) (.tup upd_same (f.same (sNew (S.gfree hc))))⟩
theorem rd_tupZ2 {ta : TE} {K : PySem.W.Frag} {σ : L2.St} (q : ta σ H fun x H1 => kTup K x H1 Q) : tThen ta (kTup K) σ H Q := q
/-- {k: v} -/
def zDisp1 (P : Program) (w : World) (p : Addr) (x y : V) (H : Hp) (Q : VK) : Prop := H p = some (DN P w p []) ∧ ∃ k b, x = .ref b ∧ KeyAt H k b ∧ Q (.ref p) (upd H p (DN P w p [(k, b, y)]))
theorem rd_disp1 {tk tv : TE} {σ : L2.St} (q : ∀ p, H p = none → tk σ (upd H p (DN P w p [])) fun x H1 => tv σ H1 fun y H2 => zDisp1 P w p x y H2 Q) : tDisp1N P w tk tv σ H Q := q
theorem q_disp0 (S : Sep ms H0 G H cs) (hp : H a = none) : Sep ms H0 G (upd H a (DN P w a [])) ((a, DN P w a []) :: cs) ∧ H0 a = none := ⟨S.own hp dn_tup, S.old a hp⟩
theorem q_disp1 (hk : KK ek kk) (S : Sep ms H0 G H ((a, DN P w a []) :: cs)) (fy : Fr E0h G (.ref b) (ek k)) (fv : Fr F0 G v (e x)) (q : ∀ us H', Sep ms H0 G H' ((a, DN P w a us) :: cs) → FrN kk e F0 G us [(k, x)] → Q (.ref a) H') : zDisp1 P w a (.ref b) v H Q :=
  ⟨S.get 0 rfl, kk k, b, rfl, key_at hk (fy.same S.sub), q _ _ (S.put 0 rfl dn_tup) (.cons (key_at hk fy) fv .nil)⟩
end
end LQ

/-! d.items() that is walked -/
namespace LQ
open PySem PySem.Spec PyProof.Rows L2 LX
section
variable {κ α : Type} [DecidableEq κ] {e : α → PyData} {F0 H0 G G' H H' : Hp} {kvs : List (Key × V)} {l : List (Str × α)} {v y : V} {a b : Addr}
def zItems (x : V) (H : Hp) (R : It → Hp → Prop) : Prop := ∃ d o kvs, x = .ref d ∧ H d = some (.frz o (.dK kvs)) ∧ R (Iti d o kvs) H
theorem rd_iItems {td : TE} {σ : L2.St} {R : It → Hp → Prop} (q : td σ H fun x H1 => zItems x H1 R) : iItems td σ H R := q
theorem q_items {od : Obj} {R : It → Hp → Prop} (h : H a = some (.frz od (.dK kvs))) (q : R (Iti a od kvs) H) : zItems (.ref a) H R := ⟨a, od, kvs, rfl, h, q⟩
theorem frk_at {κ α : Type} [DecidableEq κ] {kk : κ → Key} {e : α → PyData} : ∀ {l : List (κ × α)} {kvs : List (Key × V)} {i : Nat} {p : κ × α}, FrK F0 G kvs (l.map fun p => (dKey (kk p.1), e p.2)) → l[i]? = some p → ∃ v, kvs[i]? = some (kk p.1, v) ∧ Fr F0 G v (e p.2)
  | [], _, i, _, _, h => by simp at h
  | q :: l, kvs, i, p, f, h => by
    obtain ⟨v, r, rfl, f1, f2⟩ := frk_cons f
    cases i with
    | zero =>
      have : q = p := Option.some.inj h
      subst this
      exact ⟨v, rfl, f1⟩
    | succ i =>
      have h : l[i]? = some p := by simpa using h
      obtain ⟨v', h1, h2⟩ := frk_at f2 h
      exact ⟨v', by simpa using h1, h2⟩
theorem w_items {od : Obj} (f : FrK F0 G kvs (l.map fun p => (dKey (kS p.1), e p.2))) : Walk (Iti a od kvs) l.length (fun H => H a = some (.frz od (.dK kvs))) (fun i H v H' => ∃ T v1 v2, v = .ref T ∧ H T = none ∧ H' = upd H T (.tup [v1, v2]) ∧ ∀ p, l[i]? = some p → Fr F0 G v1 (eS p.1) ∧ Fr F0 G v2 (e p.2)) := by
  have hl : l.length = kvs.length := (frk_len f).symm
  rw [hl]
  refine walk_items.mono (fun _ h => h) fun i H x H' _ _ y => ?_
  obtain ⟨T, v1, v2, h1, h2, h3, h4, h5⟩ := y
  refine ⟨T, v1, v2, h1, h2, h3, fun p hp => ?_⟩
  obtain ⟨v, k1, k2⟩ := frk_at f hp
  dsimp only at h4 h5
  rw [k1] at h4 h5
  have e1 : kV (kS p.1) = v1 := Option.some.inj h4
  have e2 : v = v2 := Option.some.inj h5
  rw [← e1, ← e2]
  exact ⟨.str _, k2⟩
end
end LQ

/-! What the functions of the programs give: rules for their parts. -/
namespace LQ
open PySem L2 LX
def Ev {α : Type} (o : Option α) (P : α → Prop) : Prop := ∃ x, o = some x ∧ P x
section
variable {α β S R : Type}
theorem ev_s {P : α → Prop} {x : α} (h : P x) : Ev (some x) P := ⟨x, rfl, h⟩
theorem ev_b {o : Option α} {f : α → Option β} {P : α → Prop} {Q : β → Prop} (h : Ev o P) (k : ∀ x, P x → Ev (f x) Q) : Ev (o.bind f) Q := by
  obtain ⟨x, rfl, h⟩ := h
  exact k x h
theorem ev_be {o : Option α} {f : α → Option β} {x : α} {Q : β → Prop} (h : o = some x) (k : Ev (f x) Q) : Ev (o.bind f) Q := by
  rw [h]
  exact k
theorem ev_c {c : Bool} {a b : Option α} {P : α → Prop} (h1 : c = true → Ev a P) (h2 : c = false → Ev b P) : Ev (cond c a b) P := by
  cases c with
  | true => exact h1 rfl
  | false => exact h2 rfl
theorem be {o : Option α} {f : α → Option β} {x : α} {r : Option β} (h : o = some x) (k : f x = r) : o.bind f = r := by
  rw [h]
  exact k
theorem be_ev {o : Option α} {f : α → Option β} {P : α → Prop} {r : Option β} (h : Ev o P) (k : ∀ x, P x → f x = r) : o.bind f = r := by
  obtain ⟨x, rfl, h⟩ := h
  exact k x h
theorem Ev.imp {o : Option α} {P Q : α → Prop} (h : Ev o P) (k : ∀ x, P x → Q x) : Ev o Q := by
  obtain ⟨x, e, h⟩ := h
  exact ⟨x, e, k x h⟩
theorem ev_loop {f : α → S → Option S} {P : S → Prop} : ∀ {l : List α} {s : S} (I : Nat → S → Prop), I 0 s → (∀ i x s, l[i]? = some x → I i s → Ev (f x s) (I (i + 1))) → (∀ s, I l.length s → P s) → Ev (loopF f l s) P
  | [], s, I, h0, _, k => ⟨s, rfl, k s h0⟩
  | x :: xs, s, I, h0, st, k => by
    refine ev_b (st 0 x s rfl h0) fun s1 h1 => ?_
    exact ev_loop (l := xs) (s := s1) (fun i s => I (i + 1) s) h1 (fun i y s2 e h2 => st (i + 1) y s2 e h2) (fun s2 h2 => k s2 h2)
theorem loop_fold {f : α → S → Option S} {g : S → α → S} : ∀ {l : List α} {s : S} (I : Nat → S → Prop), I 0 s → (∀ i x s, l[i]? = some x → I i s → f x s = some (g s x) ∧ I (i + 1) (g s x)) → loopF f l s = some (l.foldl g s)
  | [], s, I, _, _ => rfl
  | x :: xs, s, I, h0, st => by
    obtain ⟨h1, h2⟩ := st 0 x s rfl h0
    show (f x s).bind _ = _
    rw [h1]
    exact loop_fold (l := xs) (fun i s => I (i + 1) s) h2 fun i y s2 e h => st (i + 1) y s2 e h
/-- a loop that never gives back from within -/
theorem loop_all {f : α → S → Option (Ctl R S)} {P : Ctl R S → Prop} : ∀ {l : List α} {s : S} (I : Nat → S → Prop), I 0 s → (∀ i x s, l[i]? = some x → I i s → Ev (f x s) fun c => ∃ s', c = .nx s' ∧ I (i + 1) s') → (∀ s, I l.length s → P (.nx s)) → Ev (loopC f l s) P
  | [], s, I, h0, _, k => ⟨_, rfl, k s h0⟩
  | x :: xs, s, I, h0, st, k => by
    obtain ⟨c, e, s1, rfl, h1⟩ := st 0 x s rfl h0
    show Ev ((f x s).bind _) P
    rw [e]
    exact loop_all (l := xs) (s := s1) (fun i s => I (i + 1) s) h1 (fun i y s2 e h2 => st (i + 1) y s2 e h2) (fun s2 h2 => k s2 h2)
theorem compF_map {f : α → Option (Option β)} {g : α → β} : ∀ {l : List α}, (∀ x ∈ l, f x = some (some (g x))) → compF f l = some (l.map g)
  | [], _ => rfl
  | x :: xs, h => by
    show (f x).bind _ = _
    rw [h x List.mem_cons_self]
    show (compF f xs).bind _ = _
    rw [compF_map fun y hy => h y (List.mem_cons_of_mem _ hy)]
    rfl
theorem compF_filt {f : α → Option (Option β)} {q : α → Bool} {g : α → β} : ∀ {l : List α}, (∀ x ∈ l, f x = some (if q x = true then some (g x) else none)) → compF f l = some ((l.filter q).map g)
  | [], _ => rfl
  | x :: xs, h => by
    show (f x).bind _ = _
    rw [h x List.mem_cons_self]
    show (compF f xs).bind _ = _
    rw [compF_filt fun y hy => h y (List.mem_cons_of_mem _ hy)]
    cases c : q x with
    | true => rw [List.filter_cons_of_pos c]; rfl
    | false => rw [List.filter_cons_of_neg (by simp [c])]; rfl
theorem compL_map {f : α → Option (Option β)} {g : α → β} {l : List α} (z : l.length ≤ LIM) (h : ∀ x ∈ l, f x = some (some (g x))) : compL f l = some (l.map g) := by
  unfold compL
  rw [decide_eq_true z]
  exact compF_map h
theorem compL_filt {f : α → Option (Option β)} {q : α → Bool} {g : α → β} {l : List α} (z : l.length ≤ LIM) (h : ∀ x ∈ l, f x = some (if q x = true then some (g x) else none)) : compL f l = some ((l.filter q).map g) := by
  unfold compL
  rw [decide_eq_true z]
  exact compF_filt h
theorem compT_filt {f : α → Option (Option Str)} {q : α → Bool} {g : α → Str} {l : List α} (z : l.length ≤ 4000) (h : ∀ x ∈ l, f x = some (if q x = true then some (g x) else none)) : compT f l = some ((l.filter q).map g) := by
  unfold compT
  rw [decide_eq_true z]
  exact compF_filt h
/-! ### numbers -/
theorem modF_ok {a b : Int} (h : 0 < b) : modF a b = some (a % b) := by unfold modF; rw [decide_eq_true h]; rfl
theorem divF_ok {a b : Int} (h : 0 < b) (h2 : b.natAbs < 2 ^ 1000) : divF a b = some (a / b) := by unfold divF; rw [decide_eq_true h, decide_eq_true h2]; rfl
theorem powF_ok {a b : Int} (h : 0 ≤ b) (h2 : b ≤ 1000) (h3 : a.natAbs < 2 ^ 1000) : powF a b = some (a ^ b.toNat) := by unfold powF; rw [decide_eq_true h, decide_eq_true h2, decide_eq_true h3]; rfl
theorem mulF_ok {a b : Int} (h : a.natAbs < 2 ^ 100000) (h2 : b.natAbs < 2 ^ 100000) : mulF a b = some (a * b) := by unfold mulF; rw [decide_eq_true h, decide_eq_true h2]; rfl
theorem rngF_ok {a b : Int} (h : -(2 ^ 62) ≤ a) (h2 : a < 2 ^ 62) (h3 : -(2 ^ 62) ≤ b) (h4 : b < 2 ^ 62) : rngF a b = some (rgI a b) := by unfold rngF; rw [decide_eq_true h, decide_eq_true h2, decide_eq_true h3, decide_eq_true h4]; rfl
theorem lrgF_ok {a b : Int} (h : -(2 ^ 62) ≤ a) (h2 : a < 2 ^ 62) (h3 : -(2 ^ 62) ≤ b) (h4 : b < 2 ^ 62) (h5 : (b - a).toNat ≤ LIM) : lrgF a b = some (rgI a b) := by unfold lrgF; rw [decide_eq_true h, decide_eq_true h2, decide_eq_true h3, decide_eq_true h4, decide_eq_true h5]; rfl
theorem rgI_at {a b : Int} {i : Nat} {x : Int} (h : (rgI a b)[i]? = some x) : x = a + i ∧ a + i < b := by
  unfold rgI at h
  rw [List.getElem?_map] at h
  obtain ⟨j, hj, rfl⟩ := Option.map_eq_some_iff.mp h
  obtain ⟨h1, h2⟩ := List.getElem?_eq_some_iff.mp hj
  rw [List.getElem_range] at h2
  rw [List.length_range] at h1
  subst h2
  exact ⟨rfl, by omega⟩
theorem rgI_nat (n : Nat) : rgI 0 (n : Int) = (List.range n).map fun i : Nat => (i : Int) := by
  unfold rgI
  have : ((n : Int) - 0).toNat = n := by omega
  rw [this]
  exact List.map_congr_left fun i _ => by omega
theorem maxI_eq {a b : Int} : maxI a b = max a b := by unfold maxI; split <;> omega
theorem minI_eq {a b : Int} : minI a b = min a b := by unfold minI; split <;> omega
/-! ### lists -/
theorem ix_nat {l : List α} {i : Nat} {x : α} (h : l[i]? = some x) : ix l (i : Int) = some x := by
  have hl := (List.getElem?_eq_some_iff.mp h).1
  unfold ix atI
  rw [LX.ixN_nat hl]
  exact h
theorem ix_int {l : List α} {i : Int} {x : α} (h : 0 ≤ i) (h2 : l[i.toNat]? = some x) : ix l i = some x := by
  have := ix_nat h2
  rwa [Int.toNat_of_nonneg h] at this
theorem ev_ix {l : List α} {i : Int} {P : α → Prop} (h : 0 ≤ i) (h2 : i < lenI l) (k : ∀ x, l[i.toNat]? = some x → P x) : Ev (ix l i) P := by
  have hl : i.toNat < l.length := by unfold lenI at h2; omega
  exact ⟨l[i.toNat], ix_int h (List.getElem?_eq_getElem hl), k _ (List.getElem?_eq_getElem hl)⟩
theorem appF_ok {l : List α} {x : α} (h : l.length < LIM) : appF l x = some (l ++ [x]) := by unfold appF; rw [decide_eq_true h]; rfl
theorem catF_ok {l m : List α} (h : l.length + m.length ≤ LIM) : catF l m = some (l ++ m) := by unfold catF; rw [decide_eq_true h]; rfl
theorem repF_ok {l : List α} {k : Int} (h1 : -(2 ^ 63) ≤ k) (h2 : k < 2 ^ 63) (h : l.length * k.toNat ≤ LIM) : repF l k = some (List.replicate k.toNat l).flatten := by unfold repF; rw [decide_eq_true h1, decide_eq_true h2, decide_eq_true h]; rfl
theorem setF_nat {l : List α} {i : Nat} {x : α} (h : i < l.length) : setF l (i : Int) x = some (l.set i x) := by unfold setF; rw [LX.ixN_nat h]; rfl
theorem popAt_nat {l : List α} {i : Nat} {x : α} (h : l[i]? = some x) (h2 : l.length ≤ LIM) : popAtF l (i : Int) = some (x, l.eraseIdx i) := by
  have hl := (List.getElem?_eq_some_iff.mp h).1
  unfold popAtF
  rw [decide_eq_true (show -(2 ^ 63) ≤ (i : Int) by omega), decide_eq_true (show (i : Int) < 2 ^ 63 by unfold LIM at h2; omega)]
  have : seqIndex? (i : Int) l.length = some i := by
    unfold seqIndex?
    simp
    omega
  show (seqIndex? (i : Int) l.length).bind _ = _
  rw [this]
  show (l[i]?).bind _ = _
  rw [h]
  rfl
theorem enum_at {l : List α} {i : Nat} {p : Int × α} (h : (enumI l)[i]? = some p) : p.1 = i ∧ l[i]? = some p.2 := by
  unfold enumI at h
  rw [List.getElem?_zipWith] at h
  cases h1 : (List.range l.length)[i]? with
  | none => rw [h1] at h; cases h
  | some j =>
    cases h2 : l[i]? with
    | none => rw [h1, h2] at h; cases h
    | some x =>
      rw [h1, h2] at h
      cases h
      obtain ⟨h3, h4⟩ := List.getElem?_eq_some_iff.mp h1
      rw [List.getElem_range] at h4
      subst h4
      exact ⟨rfl, rfl⟩
theorem enum_len {l : List α} : (enumI l).length = l.length := by
  unfold enumI
  rw [List.length_zipWith, List.length_range, Nat.min_self]
theorem take_min (l : List α) (n : Nat) : l.take (min n l.length) = l.take n := by
  rw [← List.take_take, List.take_length]
theorem drop_min (l : List α) (n : Nat) : l.drop (min n l.length) = l.drop n := by
  by_cases h : n ≤ l.length
  · rw [Nat.min_eq_left h]
  · rw [Nat.min_eq_right (by omega), List.drop_length, List.drop_eq_nil_of_le (by omega)]
theorem cutL_to (l : List α) (n : Nat) : cutL l none (some (n : Int)) = l.take n := by
  unfold cutL
  rw [HT.sIx_none, HT.sIx_nat, List.drop_zero, Nat.sub_zero, take_min]
theorem cutL_from (l : List α) (n : Nat) : cutL l (some (n : Int)) none = l.drop n := by
  unfold cutL
  rw [HT.sIx_none, HT.sIx_nat, drop_min, List.take_of_length_le]
  rw [List.length_drop]
  omega
theorem cutL_mid (l : List α) (n m : Nat) : cutL l (some (n : Int)) (some (m : Int)) = (l.take m).drop n := by
  unfold cutL
  rw [HT.sIx_nat, HT.sIx_nat, ← List.drop_take, take_min]
  by_cases h : n ≤ l.length
  · rw [Nat.min_eq_left h]
  · rw [List.drop_eq_nil_of_le, List.drop_eq_nil_of_le] <;> rw [List.length_take] <;> omega
theorem cutL_len (l : List α) (a b : Option Int) : (cutL l a b).length ≤ l.length := by
  unfold cutL
  rw [List.length_take, List.length_drop]
  omega
/-! ### texts of one letter -/
def lt (c : Nat) : Str := ⟨#[c]⟩
theorem lt_len (c : Nat) : lenS (lt c) = some 1 := rfl
theorem lt_inj {c d : Nat} : lt c = lt d ↔ c = d := by
  constructor
  · intro h
    have : (#[c] : Array Nat) = #[d] := congrArg Str.cps h
    simpa using this
  · intro h; rw [h]
theorem lt_dec (c d : Nat) : decide (lt c = lt d) = decide (c = d) := by
  rw [decide_eq_decide]
  exact lt_inj
theorem lt_col {c : Nat} (h : 97 ≤ c ∧ c ≤ 122) : ((!ltS (lt c) (Str.ofString "a")) && (!ltS (Str.ofString "z") (lt c))) = true := by
  have h1 : ltS (lt c) (Str.ofString "a") = false := by
    show decide (([c] : List Nat) < [97]) = false
    rw [decide_eq_false_iff_not, List.cons_lt_cons_iff]
    rintro (h1 | ⟨_, h1⟩)
    · omega
    · exact absurd h1 (List.not_lt_nil _)
  have h2 : ltS (Str.ofString "z") (lt c) = false := by
    show decide (([122] : List Nat) < [c]) = false
    rw [decide_eq_false_iff_not, List.cons_lt_cons_iff]
    rintro (h1 | ⟨_, h1⟩)
    · omega
    · exact absurd h1 (List.not_lt_nil _)
  rw [h1, h2]
  rfl
/-! ### rows -/
abbrev eRow (e : Nat × Nat) : Int × Str := ((e.1 : Int), lt e.2)
abbrev enc (r : Row) : List (Int × Str) := r.map eRow
abbrev nI (cs : List Nat) : List Int := cs.map fun n : Nat => (n : Int)
theorem enc_len (r : Row) : (enc r).length = r.length := List.length_map ..
theorem mem_nI {n : Nat} {cs : List Nat} : (n : Int) ∈ nI cs ↔ n ∈ cs := by
  constructor
  · intro h
    obtain ⟨m, h1, h2⟩ := List.mem_map.mp h
    have : m = n := by omega
    exact this ▸ h1
  · exact List.mem_map_of_mem
theorem nI_dec {n : Nat} {cs : List Nat} : decide ((n : Int) ∈ nI cs) = decide (n ∈ cs) := by
  rw [decide_eq_decide]
  exact mem_nI
end
end LQ
/-! ### equal data -/
namespace LQ
open PySem L2 LX
structure EqE {α : Type} [DecidableEq α] (n : Nat) (e : α → PyData) (ok : α → Prop) : Prop where
  sd : ∀ x, ok x → Sd n (e x)
  eq : ∀ x y, ok x → ok y → PyData.eqv (e x) (e y) = decide (x = y)
section
variable {α β : Type} [DecidableEq α] [DecidableEq β]
theorem EqE.int : EqE 0 eI (fun _ => True) := ⟨fun _ _ => Sd.int, fun x y _ _ => by
  simp only [PyData.eqv]
  exact Bool.eq_iff_iff.mpr ⟨fun h => decide_eq_true (by simpa using h), fun h => by simpa using of_decide_eq_true h⟩⟩
theorem EqE.bool : EqE 0 eB (fun _ => True) := ⟨fun _ _ => ⟨by simp only [PyData.canLay0], by simp only [PyData.depth]; omega⟩, fun x y _ _ => by cases x <;> cases y <;> simp [PyData.eqv]⟩
theorem EqE.str : EqE 0 eS (fun z => PyData.strOk z = true) := ⟨fun z h => ⟨by simp only [PyData.canLay0]; exact h, by simp only [PyData.depth]; omega⟩, fun x y _ _ => by
  simp only [PyData.eqv]
  exact Bool.eq_iff_iff.mpr ⟨fun h => decide_eq_true (by simpa using h), fun h => by simpa using of_decide_eq_true h⟩⟩
theorem Sd.up {m n : Nat} {d : PyData} (h : Sd m d) (z : m ≤ n) : Sd n d := ⟨h.lay, Nat.le_trans h.dep z⟩
theorem sd_all {n : Nat} {e : α → PyData} {ok : α → Prop} (h : EqE n e ok) : ∀ {l : List α}, (∀ x ∈ l, ok x) → PyData.canLayAll0 (l.map e) = true ∧ PyData.depthAll (l.map e) ≤ n
  | [], _ => ⟨by simp only [List.map_nil, PyData.canLayAll0], by simp only [List.map_nil, PyData.depthAll]; omega⟩
  | x :: l, k => by
    have h1 := h.sd x (k x List.mem_cons_self)
    have h2 := sd_all h fun y hy => k y (List.mem_cons_of_mem _ hy)
    simp only [List.map_cons, PyData.canLayAll0, PyData.depthAll]
    exact ⟨by rw [h1.lay, h2.1]; rfl, by have := h1.dep; omega⟩
theorem eqv_all {n : Nat} {e : α → PyData} {ok : α → Prop} (h : EqE n e ok) : ∀ {l m : List α}, (∀ x ∈ l, ok x) → (∀ x ∈ m, ok x) → PyData.eqvAll (l.map e) (m.map e) = decide (l = m)
  | [], [], _, _ => by simp only [List.map_nil, PyData.eqvAll]; rfl
  | [], _ :: _, _, _ => by simp only [List.map_nil, List.map_cons, PyData.eqvAll]; rfl
  | _ :: _, [], _, _ => by simp only [List.map_nil, List.map_cons, PyData.eqvAll]; rfl
  | x :: l, y :: m, k, k2 => by
    simp only [List.map_cons, PyData.eqvAll]
    rw [h.eq x y (k x List.mem_cons_self) (k2 y List.mem_cons_self), eqv_all h (fun y hy => k y (List.mem_cons_of_mem _ hy)) (fun y hy => k2 y (List.mem_cons_of_mem _ hy))]
    exact Bool.eq_iff_iff.mpr ⟨fun h => decide_eq_true (by simpa using h), fun h => by simpa using of_decide_eq_true h⟩
theorem EqE.list {n : Nat} {e : α → PyData} {ok : α → Prop} (h : EqE n e ok) : EqE (n + 1) (eL e) (fun l => ∀ x ∈ l, ok x) := ⟨fun l k => ⟨by simp only [PyData.canLay0]; exact (sd_all h k).1, by simp only [PyData.depth]; have := (sd_all h k).2; omega⟩, fun l m k k2 => by
  simp only [PyData.eqv]
  exact eqv_all h k k2⟩
theorem EqE.tup {n : Nat} {e : α → PyData} {f : β → PyData} {ok : α → Prop} {ok2 : β → Prop} (h : EqE n e ok) (h2 : EqE n f ok2) : EqE (n + 1) (eT2 e f) (fun p => ok p.1 ∧ ok2 p.2) := ⟨fun p k => by
  have h1 := h.sd p.1 k.1
  have h3 := h2.sd p.2 k.2
  refine ⟨?_, ?_⟩
  · simp only [PyData.canLay0, PyData.canLayAll0]
    rw [h1.lay, h3.lay]
    rfl
  · simp only [PyData.depth, PyData.depthAll]
    have := h1.dep
    have := h3.dep
    omega, fun p q k k2 => by
  simp only [PyData.eqv, PyData.eqvAll]
  rw [h.eq _ _ k.1 k2.1, h2.eq _ _ k.2 k2.2]
  obtain ⟨a, b⟩ := p
  obtain ⟨c, d⟩ := q
  exact Bool.eq_iff_iff.mpr ⟨fun h => decide_eq_true (by simpa using h), fun h => by simpa using of_decide_eq_true h⟩⟩
theorem EqE.run {n : Nat} {e : α → PyData} {ok : α → Prop} (h : EqE n e ok) (z : n ≤ 64) {x y : α} (k : ok x) (k2 : ok y) : eqvF (e x) (e y) = some (decide (x = y)) := by
  have h1 := h.sd x k
  have h2 := h.sd y k2
  unfold eqvF
  rw [h1.shaped z, h2.shaped z, PyData.hasDict_of_canLay _ h1.lay, PyData.hasDict_of_canLay _ h2.lay, h.eq x y k k2]
  rfl
end
theorem strOk_lt {c : Nat} (h : c ≤ 122) : PyData.strOk (lt c) = true := by
  unfold PyData.strOk lt
  simp
  omega
abbrev eRows : List (Int × Str) → PyData := eL (eT2 eI eS)
theorem eqRow : EqE 2 eRows (fun l => ∀ x ∈ l, True ∧ PyData.strOk x.2 = true) := EqE.list (EqE.tup EqE.int EqE.str)
theorem ok_enc {r : Row} (h : ∀ e ∈ r, 97 ≤ e.2 ∧ e.2 ≤ 122) : ∀ x ∈ enc r, True ∧ PyData.strOk x.2 = true := fun x hx => by
  obtain ⟨e, he, rfl⟩ := List.mem_map.mp hx
  exact ⟨trivial, strOk_lt (h e he).2⟩
end LQ
namespace LQ
open PySem L2 LX
theorem EqE.oI : EqE 0 (eO eI) (fun _ => True) := ⟨fun x _ => by cases x; exact Sd.none; exact Sd.int, fun x y _ _ => by
  cases x <;> cases y
  · simp only [eO, PyData.eqv]; rfl
  · simp only [eO, PyData.eqv]; rfl
  · simp only [eO, PyData.eqv]; rfl
  · simp only [eO, PyData.eqv]
    exact Bool.eq_iff_iff.mpr ⟨fun h => decide_eq_true (by simpa using h), fun h => by simpa using of_decide_eq_true h⟩⟩
theorem zip_maps {α β γ : Type} (g : α → β) (h : α → γ) : ∀ l : List α, zipL (l.map g) (l.map h) = l.map fun x => (g x, h x)
  | [] => rfl
  | x :: l => by
    show (g x, h x) :: zipL (l.map g) (l.map h) = _
    rw [zip_maps g h l]
    rfl
theorem lt_maps : ∀ {l m : List Nat}, l.map lt = m.map lt → l = m
  | [], [], _ => rfl
  | [], _ :: _, h => nomatch h
  | _ :: _, [], h => nomatch h
  | x :: l, y :: m, h => by
    rw [List.map_cons, List.map_cons] at h
    injection h with h1 h2
    rw [lt_inj.mp h1, lt_maps h2]
end LQ

/-! Dicts, joined letters, different values, counts. -/
namespace LQ
open PySem L2 LX
section
variable {κ α : Type} [DecidableEq κ]
theorem dget_put (l : List (κ × α)) (k : κ) (x : α) (j : κ) : dget (dput l k x) j = if k = j then some x else dget l j := by
  unfold dput
  split
  · rename_i h
    obtain ⟨p, hp, e⟩ := List.any_eq_true.mp h
    have e := of_decide_eq_true e
    clear h
    induction l with
    | nil => cases hp
    | cons q l ih =>
      unfold dget at ih ⊢
      rw [List.map_cons]
      by_cases c : q.1 = k
      · rw [if_pos c]
        by_cases d : k = j
        · rw [if_pos d, List.find?_cons_of_pos (by rw [decide_eq_true_iff]; exact c.trans d)]
          rfl
        · rw [if_neg d, List.find?_cons_of_neg (by rw [decide_eq_true_iff]; exact fun z => d (c.symm.trans z)), List.find?_cons_of_neg (by rw [decide_eq_true_iff]; exact fun z => d (c.symm.trans z))]
          by_cases hl : p ∈ l
          · have := ih hl
            rw [if_neg d] at this
            exact this
          · have hz : ∀ u ∈ l, u.1 = k → False ∨ True := fun _ _ _ => Or.inr trivial
            clear hz
            have go : ∀ l : List (κ × α), (List.find? (fun p => decide (p.1 = j)) (l.map fun p => if p.1 = k then (p.1, x) else p)).map (·.2) = (l.find? fun p => decide (p.1 = j)).map (·.2) := by
              intro l
              induction l with
              | nil => rfl
              | cons u l ih2 =>
                rw [List.map_cons]
                by_cases c2 : u.1 = k
                · rw [if_pos c2, List.find?_cons_of_neg (by rw [decide_eq_true_iff]; exact fun z => d (c2.symm.trans z)), List.find?_cons_of_neg (by rw [decide_eq_true_iff]; exact fun z => d (c2.symm.trans z))]
                  exact ih2
                · rw [if_neg c2]
                  by_cases c3 : u.1 = j
                  · rw [List.find?_cons_of_pos (by rw [decide_eq_true_iff]; exact c3), List.find?_cons_of_pos (by rw [decide_eq_true_iff]; exact c3)]
                  · rw [List.find?_cons_of_neg (by rw [decide_eq_true_iff]; exact c3), List.find?_cons_of_neg (by rw [decide_eq_true_iff]; exact c3)]
                    exact ih2
            exact go l
      · rw [if_neg c]
        have hl : p ∈ l := by
          rcases List.mem_cons.mp hp with z | z
          · exact absurd (z ▸ e) c
          · exact z
        by_cases d : q.1 = j
        · rw [List.find?_cons_of_pos (by rw [decide_eq_true_iff]; exact d), List.find?_cons_of_pos (by rw [decide_eq_true_iff]; exact d), if_neg (fun z => c (d.trans z.symm))]
        · rw [List.find?_cons_of_neg (by rw [decide_eq_true_iff]; exact d), List.find?_cons_of_neg (by rw [decide_eq_true_iff]; exact d)]
          exact ih hl
  · rename_i h
    unfold dget
    rw [List.find?_append]
    by_cases d : k = j
    · rw [if_pos d]
      have : l.find? (fun p => decide (p.1 = j)) = none := by
        rw [List.find?_eq_none]
        intro u hu z
        exact h (List.any_eq_true.mpr ⟨u, hu, by rw [d]; exact z⟩)
      rw [this, List.find?_cons_of_pos (by rw [decide_eq_true_iff]; exact d)]
      rfl
    · rw [if_neg d, List.find?_cons_of_neg (by rw [decide_eq_true_iff]; exact d)]
      cases l.find? (fun p => decide (p.1 = j)) <;> rfl
theorem dget_merge_no {j : κ} : ∀ (m l : List (κ × α)), (∀ p ∈ m, p.1 ≠ j) → dget (dmerge l m) j = dget l j
  | [], l, _ => rfl
  | p :: m, l, h => by
    show dget (dmerge (dput l p.1 p.2) m) j = _
    rw [dget_merge_no m _ fun q hq => h q (List.mem_cons_of_mem _ hq), dget_put, if_neg (h p List.mem_cons_self)]
theorem dget_merge {p : κ × α} : ∀ (m l : List (κ × α)), (m.map (·.1)).Nodup → p ∈ m → dget (dmerge l m) p.1 = some p.2
  | [], _, _, h => nomatch h
  | q :: m, l, nd, h => by
    have nd' := List.nodup_cons.mp (show (q.1 :: m.map (·.1)).Nodup from nd)
    show dget (dmerge (dput l q.1 q.2) m) p.1 = _
    rcases List.mem_cons.mp h with z | z
    · rw [z, dget_merge_no m _ fun u hu e => nd'.1 (by rw [← e]; exact List.mem_map_of_mem (f := (·.1)) hu), dget_put, if_pos rfl]
    · exact dget_merge m _ nd'.2 z
end
theorem enc_nodup {r : Row} (V : Vr r) : ((enc r).map (·.1)).Nodup := by
  have : (enc r).map (·.1) = nI (r.map (·.1)) := by
    show List.map _ (List.map _ r) = List.map _ (List.map _ r)
    rw [List.map_map, List.map_map]
    rfl
  rw [this, nI, List.nodup_iff_pairwise_ne, List.pairwise_map]
  exact V.nodup.imp fun h z => h (by omega)
theorem dget_row {r : Row} (V : Vr r) {p : Nat} (h : p < r.length) : dget (dmerge [] (enc r)) (p : Int) = some (lt (colOf r p)) :=
  dget_merge (p := ((p : Int), lt (colOf r p))) _ _ (enc_nodup V) (List.mem_map_of_mem (f := eRow) (colOf_mem (V.has h)))
theorem join_lt {ys : List Str} (h : ∀ y ∈ ys, ∃ c, y = lt c) (z : ys.length ≤ 1000) : Ev (joinF (Str.ofString "") ys) fun s => ∃ ns : List Nat, ys = ns.map lt ∧ s = txt ns ∧ s.length = ys.length := by
  have ex : ∃ ns : List Nat, ys = ns.map lt := by
    clear z
    induction ys with
    | nil => exact ⟨[], rfl⟩
    | cons y ys ih =>
      obtain ⟨c, hc⟩ := h y List.mem_cons_self
      obtain ⟨ns, hn⟩ := ih fun u hu => h u (List.mem_cons_of_mem _ hu)
      exact ⟨c :: ns, by rw [hn, hc]; rfl⟩
  obtain ⟨ns, rfl⟩ := ex
  rw [List.length_map] at z
  have s1 : ∀ ns : List Nat, ((ns.map lt).map (·.length)).sum = ns.length := by
    intro ns
    induction ns with
    | nil => rfl
    | cons c ns ih =>
      show (lt c).length + ((ns.map lt).map (·.length)).sum = _
      rw [ih]
      show 1 + _ = _
      rw [List.length_cons]
      omega
  have e0 : (Str.ofString "").length = 0 := rfl
  unfold joinF
  rw [decide_eq_true (by rw [s1, e0]; omega)]
  exact ⟨_, rfl, ns, rfl, join_ones ns, by
    rw [show Txt.join (Str.ofString "") (ns.map lt) = txt ns from join_ones ns, List.length_map]
    show ns.toArray.size = _
    rw [List.size_toArray]⟩
theorem txt_len (ns : List Nat) : (txt ns).length = ns.length := by
  show ns.toArray.size = _
  rw [List.size_toArray]
section
variable {α β : Type} [DecidableEq α] [DecidableEq β]
/-- of two or more different values, two differ -/
theorem dd_two {l : List α} (h : 2 ≤ (dd l).length) : ∃ x ∈ l, ∃ y ∈ l, x ≠ y := by
  have nd := dd_nodup l
  match e : dd l, h with
  | x :: y :: r, _ =>
    rw [e] at nd
    refine ⟨x, mem_dd.mp (by rw [e]; exact List.mem_cons_self), y, mem_dd.mp (by rw [e]; exact List.mem_cons_of_mem _ List.mem_cons_self), fun z => ?_⟩
    exact (List.nodup_cons.mp nd).1 (by rw [z]; exact List.mem_cons_self)
theorem dd_ne {l : List α} (h : l ≠ []) : 1 ≤ (dd l).length := by
  cases l with
  | nil => exact absurd rfl h
  | cons x l =>
    have : x ∈ dd (x :: l) := mem_dd.mpr List.mem_cons_self
    cases e : dd (x :: l) with
    | nil => rw [e] at this; cases this
    | cons _ _ => exact Nat.succ_le_succ (Nat.zero_le _)
end
theorem sortU_len (ks : List Str) : (sortU ks).length = (dd ks).length := by
  unfold sortU
  exact (List.mergeSort_perm _ _).length_eq
theorem mem_sortU {ks : List Str} {x : Str} : x ∈ sortU ks ↔ x ∈ ks := by
  unfold sortU
  rw [(List.mergeSort_perm _ _).mem_iff, mem_dd]
theorem mem_sortUI {ks : List Int} {x : Int} : x ∈ sortUI ks ↔ x ∈ ks := by
  unfold sortUI
  rw [(List.mergeSort_perm _ _).mem_iff, mem_dd]
theorem count_nI (l : List Nat) (p : Nat) : (nI l).count (p : Int) = l.count p := by
  induction l with
  | nil => rfl
  | cons x l ih =>
    show (((x : Int) :: nI l)).count (p : Int) = _
    rw [List.count_cons, List.count_cons, ih]
    congr 1
    by_cases h : x = p
    · rw [h]; simp
    · rw [show ((x : Int) == (p : Int)) = false from beq_eq_false_iff_ne.mpr fun z => h (by omega), show (x == p) = false from beq_eq_false_iff_ne.mpr h]
theorem ex_nI {l : List Int} (h : ∀ x ∈ l, ∃ n : Nat, x = (n : Int)) : ∃ ns : List Nat, l = nI ns := by
  induction l with
  | nil => exact ⟨[], rfl⟩
  | cons x l ih =>
    obtain ⟨n, hn⟩ := h x List.mem_cons_self
    obtain ⟨ns, e⟩ := ih fun y hy => h y (List.mem_cons_of_mem _ hy)
    exact ⟨n :: ns, by rw [e, hn]; rfl⟩
end LQ
namespace LQ
open PySem L2 LX
theorem join_txt {cs : List Nat} (z : cs.length ≤ 1000) : joinF (Str.ofString "") (cs.map lt) = some (txt cs) := by
  obtain ⟨s, e, ns, h1, h2, _⟩ := join_lt (ys := cs.map lt) (fun y hy => by
    obtain ⟨c, _, rfl⟩ := List.mem_map.mp hy
    exact ⟨c, rfl⟩) (by rw [List.length_map]; exact z)
  rw [e, h2, lt_maps h1]
theorem cat_txt {cs : List Nat} {x : Nat} (z : cs.length ≤ 1000) : catS (txt cs) (lt x) = some (txt (cs ++ [x])) := by
  have l1 : (txt cs).length = cs.length := LX.txt_len cs
  have l2 : (lt x).length = 1 := rfl
  unfold catS
  rw [decide_eq_true (by unfold LIM; omega)]
  show some _ = some _
  congr 1
  apply str_ext
  show (cs.toArray ++ #[x]).toList = (cs ++ [x]).toArray.toList
  simp
/-- the least of a list stands first when sorted -/
theorem sort_head {l : List Int} {m : Int} (h : minL l = some m) : ix (sortI l) (0 : Int) = some m := by
  have pm : (sortI l).Perm l := List.mergeSort_perm _ _
  have pw : (sortI l).Pairwise (fun a b : Int => decide (a ≤ b) = true) := List.pairwise_mergeSort (fun a b c x y => by rw [decide_eq_true_iff] at *; omega) (fun a b => by simp; omega) l
  cases e : sortI l with
  | nil =>
    rw [e] at pm
    rw [pm.symm.eq_nil] at h
    cases h
  | cons x xs =>
    rw [e] at pm pw
    have hx : x ∈ l := pm.mem_iff.mp List.mem_cons_self
    have := minL_is h hx fun y hy => by
      rcases List.mem_cons.mp (pm.mem_iff.mpr hy) with z | z
      · omega
      · exact of_decide_eq_true ((List.pairwise_cons.mp pw).1 y z)
    rw [← this]
    exact ix_int (by decide) rfl
end LQ
-- LEVEL _law_same = 4

namespace K37
open PySem L2 LX LQ
local macro_rules | `(tactic| walk_at "rd") => `(tactic| repeat (first
  | with_reducible refine rd_var rfl ?_ | with_reducible refine rd_c ?_ | with_reducible refine rd_op ?_ | with_reducible refine rd_un ?_ | with_reducible refine rd_I0 ?_ | with_reducible refine rd_U ?_
  | with_reducible refine rd_test ?_ | with_reducible refine rd_tB ?_ | with_reducible refine rd_bl ?_ | with_reducible refine rd_chain ?_
  | with_reducible refine rd_and ?_ | with_reducible refine rd_or ?_ | with_reducible refine rd_not ?_ | with_reducible refine rd_andV ?_ | with_reducible refine rd_orV ?_ | with_reducible refine rd_notV ?_
  | with_reducible refine rd_next ?_ | with_reducible refine rd_seq ?_ | with_reducible refine rd_drop ?_ | with_reducible refine rd_ret ?_ | with_reducible refine rd_ifS ?_ | with_reducible refine rd_asg ?_ | with_reducible refine rd_name ?_
  | with_reducible refine rd_par ?_ | with_reducible refine rd_two ?_ | with_reducible refine rd_2i ?_ | with_reducible refine rd_nil ?_ | with_reducible refine rd_cons ?_ | with_reducible refine rd_tup ?_ | with_reducible refine rd_lst ?_ | with_reducible refine rd_cb ?_ | with_reducible refine rd_call ?_
  | with_reducible refine rd_ixL (by assumption) rfl ?_ | with_reducible refine rd_ixT (by assumption) rfl ?_ | with_reducible refine rd_ixL upd_same rfl ?_ | with_reducible refine rd_sub ?_ | with_reducible refine rd_sl ?_ | with_reducible refine rd_nopart ?_ | with_reducible refine rd_part ?_ | with_reducible refine rd_int ?_
  | with_reducible refine rd_len (by assumption) ?_ | with_reducible refine rd_bm ?_ | with_reducible refine rd_bm0 ?_ | with_reducible refine rd_gcons ?_ | with_reducible refine rd_gnil ?_
  | ((with_reducible refine rd_I ?ci ?_); (case ci => first | assumption | (show (0 : Int) < _; decide) | exact Or.inl ⟨by decide, by decide⟩ | exact Or.inr ⟨by decide, by decide⟩ | exact ⟨by decide, by decide, (by decide : Int.natAbs 10 < 2 ^ 1000)⟩))
  | with_reducible refine rd_setL (by assumption) rfl ?_ | with_reducible refine rd_setL upd_same rfl ?_ | with_reducible refine rd_len upd_same ?_
  | with_reducible refine rd_2ty ?_ | with_reducible refine rd_NT ?_ | with_reducible refine rd_2s ?_ | with_reducible refine rd_lenS ?_ | with_reducible refine rd_lenT (by assumption) ?_ | ((with_reducible refine rd_typ ?ct ?_); (case ct => rfl))
  | ((with_reducible refine rd_eq ?cs ?_); (case cs => rfl)) | ((with_reducible refine rd_ne ?cs ?_); (case cs => rfl))
  | with_reducible refine rd_qtru ?_ | with_reducible refine rd_lstRg ?_ | with_reducible refine rd_rg1 ?_ | with_reducible refine rd_tyes ?_ | with_reducible refine rd_tyL (by assumption) ?_ | with_reducible refine rd_tyT (by assumption) ?_
  | with_reducible refine iteT ?_ | with_reducible refine iteF ?_ | with_reducible refine rd_nt ?_ | with_reducible refine rd_nf ?_
  | (dsimp only)))

variable {P : Program} {w : World} {K : PySem.W.Frag} {mg : Str → Option Value} {base : Heap} {a : Ad}
def spSame (n : Nat) : Sp := fun vs H Q _ => ∃ (v e : V), vs = [v, e] ∧ SDL n H v e ∧ ∀ H', Same H H' → Q (.bl true) H'
theorem kit2 (t x y : String) (b c r : Bool) (h1 : kitB t x = some b) (h2 : kitB t y = some c) (hr : (b || c) = r) : PySem.W.kitAny K (.type t) [.type x, .type y] = some r := by
  subst hr
  cases b with
  | true => exact kitAny_cons (kit_ty h1) (fun z => by cases z) fun _ => rfl
  | false =>
    refine kitAny_cons (kit_ty h1) (fun _ => ?_) fun z => by cases z
    cases c with
    | true => exact kitAny_cons (kit_ty h2) (fun z => by cases z) fun _ => rfl
    | false => exact kitAny_cons (kit_ty h2) (fun _ => kitAny_nil) fun z => by cases z
theorem rd_is2 {H : Hp} {Q : VK} {v : V} {tp : Addr} {t x y : String} {r : Bool} (g : H tp = some (.tup [.ty x, .ty y])) (ty : TyX K H v (.type t)) (h : PySem.W.kitAny K (.type t) [.type x, .type y] = some r) (q : Q (.bl r) H) : rIsiT K [v, .ref tp] H Q :=
  ⟨v, tp, _, _, _, r, rfl, g, .cons (.ty x) (.cons (.ty y) .nil), ty, h, q⟩
theorem all_true (n : Nat) : (List.replicate n true).all id = true := by
  rw [List.all_eq_true]
  intro x hx
  exact (List.mem_replicate.mp hx).2
theorem fm_const (n : Nat) : (List.range n).filterMap (fun _ => some (V.bl true)) = (List.replicate n true).map V.bl := by
  induction n with
  | zero => rfl
  | succ n ih =>
    rw [List.range_succ, List.filterMap_append, ih, List.replicate_succ', List.map_append]
    rfl
theorem same_n (T : Txt K mg a) : ∀ n : Nat, FnOk P w K mg base CX0 n a.f__law_same a.d__law_same ["found", "due"] (spSame n)
  | 0 => ⟨fun _ _ _ _ ⟨_, _, _, h, _⟩ => h.elim, fun _ _ _ _ _ _ _ _ _ _ _ _ _ ⟨_, _, _, h, _⟩ => h.elim⟩
  | n + 1 => by
    have ih := same_n T n
    refine T.F__law_same.ok sc__law_same (fun vs H Q E h => ?_) (fun cdv A outer s H vs Q E hr h => ?_)
    · obtain ⟨v, e, rfl, _⟩ := h
      rfl
    · obtain ⟨v, e, rfl, hd, kq⟩ := h
      have nd := sc__law_same.nd
      have hu64 := hr.units
      refine ⟨_, (pss_cons (ps_if (pt_val (pe_callB (kisiT (K := K)) (by rfl) T.b_isinstance (by decide +kernel) (pa_cons (pv 1) (pa_cons (pe_tup (pa_cons (pe_bltn (v := .ty "list") (by rfl) T.b_list (by decide +kernel) rfl) (pa_cons (pe_bltn (v := .ty "tuple") (by rfl) T.b_tuple (by decide +kernel) rfl) pa_nil))) pa_nil)))) (pss_cons (ps_if (PW.pt (pw_or (pt_not (pt_val (pe_callB (kisiT (K := K)) (by rfl) T.b_isinstance (by decide +kernel) (pa_cons (pv 0) (pa_cons (pe_tup (pa_cons (pe_bltn (v := .ty "list") (by rfl) T.b_list (by decide +kernel) rfl) (pa_cons (pe_bltn (v := .ty "tuple") (by rfl) T.b_tuple (by decide +kernel) rfl) pa_nil))) pa_nil))))) (pw_or1 (pt_cmpR op_ne (pe_callB (kisi (K := K)) (by rfl) T.b_isinstance (by decide +kernel) (pa_cons (pv 0) (pa_cons (pe_bltn (v := .ty "list") (by rfl) T.b_list (by decide +kernel) rfl) pa_nil))) (pe_callB (kisi (K := K)) (by rfl) T.b_isinstance (by decide +kernel) (pa_cons (pv 1) (pa_cons (pe_bltn (v := .ty "list") (by rfl) T.b_list (by decide +kernel) rfl) pa_nil))) (nomark _))))) (pss_one (ps_ret pe_bl)) pss_nil)
      (pss_one (ps_ret (pe_and (pe_cmpR op_eq (pe_callB (klen (K := K)) (by rfl) T.b_len (by decide +kernel) (pa_cons (pv 0) pa_nil)) (pe_callB (klen (K := K)) (by rfl) T.b_len (by decide +kernel) (pa_cons (pv 1) pa_nil)) (nomark _)) (pe_one (pe_callB (kall (K := K) rfl) (by rfl) T.b_all (by decide +kernel) (pa_cons (pe_lc (own := [("k", 2)]) (g := gName 2) (tt := tYes) rfl nd (pi_range1 rfl T.b_range (pa_cons (pe_callB (klen (K := K)) (by rfl) T.b_len (by decide +kernel) (pa_cons (pv 1) pa_nil)) pa_nil)) (blkOk_by (own := [("k", 2)]) (N := ["found", "due", "k"]) (sc := defScope s__law_same) (by decide +kernel)) (fun _ _ _ _ _ => (pg_name (i := 2) nd rfl (Or.inl rfl))) (fun _ _ _ _ _ => pts_nil) (fun _ _ _ _ _ => (pe_call ih hr rfl T.g__law_same T.k__law_same T.n__law_same .nil pass0 (pa_cons (pe_ix (kix_list (K := K)) (pv 0) (pv 2) (fun _ _ => rfl)) (pa_cons (pe_ix (kix_list (K := K)) (pv 1) (pv 2) (fun _ _ => rfl)) pa_nil))))) pa_nil))))))) pss_nil)
      (pss_cons (ps_if (PW.pt (pw_or (pt_cmpR kisN (pv 1) pe_non (nomark _)) (pw_or1 (pt_cmpR kisN (pv 0) pe_non (nomark _))))) (pss_one (ps_ret (pe_and (pe_cmpR kisN (pv 1) pe_non (nomark _)) (pe_one (pe_cmpR kisN (pv 0) pe_non (nomark _)))))) pss_nil)
      (pss_cons (ps_if (pt_val (pe_callB (kisi (K := K)) (by rfl) T.b_isinstance (by decide +kernel) (pa_cons (pv 1) (pa_cons (pe_bltn (v := .ty "int") (by rfl) T.b_int (by decide +kernel) rfl) pa_nil)))) (pss_one (ps_ret (pe_and (pe_callB (kisi (K := K)) (by rfl) T.b_isinstance (by decide +kernel) (pa_cons (pv 0) (pa_cons (pe_bltn (v := .ty "int") (by rfl) T.b_int (by decide +kernel) rfl) pa_nil))) (pe_and (pe_cmpR op_eq (pe_callB (kisi (K := K)) (by rfl) T.b_isinstance (by decide +kernel) (pa_cons (pv 0) (pa_cons (pe_bltn (v := .ty "bool") (by rfl) T.b_bool (by decide +kernel) rfl) pa_nil))) (pe_callB (kisi (K := K)) (by rfl) T.b_isinstance (by decide +kernel) (pa_cons (pv 1) (pa_cons (pe_bltn (v := .ty "bool") (by rfl) T.b_bool (by decide +kernel) rfl) pa_nil))) (nomark _)) (pe_one (pe_cmpR op_eq (pv 0) (pv 1) (nomark _))))))) pss_nil)
      (pss_one (ps_ret (pe_cmpR op_eq (pv 0) (pv 1) (nomark _))))))), ?_⟩
      rcases hd with (⟨rfl, rfl⟩ | ⟨b, rfl, rfl⟩) | ⟨i, rfl, rfl⟩ | ⟨x, rfl, rfl⟩ | ⟨c, d, xs, ys, rfl, rfl, h1, h2, h3, h4, h5⟩
      · walk_at "rd"
        refine ⟨by show 2 ≤ sizeLine; decide, fun tp htp => ?_⟩
        have s1 := sNew (o := .tup [.ty "list", .ty "tuple"]) htp
        walk_at "rd"
        refine rd_is2 (t := "NoneType") upd_same (.base .non) (kit2 _ _ _ false false false (by decide +kernel) (by decide +kernel) rfl) ?_
        walk_at "rd"
        refine ⟨rfl, ?_⟩
        walk_at "rd"
        refine rd_yes rfl ?_
        walk_at "rd"
        refine ⟨rfl, ?_⟩
        walk_at "rd"
        rw [decide_eq_true (show V.non = V.non from rfl)]
        walk_at "rd"
        refine ⟨rfl, ?_⟩
        walk_at "rd"
        rw [decide_eq_true (show V.non = V.non from rfl)]
        exact kq _ s1
      · walk_at "rd"
        refine ⟨by show 2 ≤ sizeLine; decide, fun tp htp => ?_⟩
        have s1 := sNew (o := .tup [.ty "list", .ty "tuple"]) htp
        walk_at "rd"
        refine rd_is2 (t := "bool") upd_same (.base (.bl _)) (kit2 _ _ _ false false false (by decide +kernel) (by decide +kernel) rfl) ?_
        walk_at "rd"
        refine ⟨rfl, ?_⟩
        walk_at "rd"
        refine rd_no (fun z => by cases z) ?_
        walk_at "rd"
        refine ⟨rfl, ?_⟩
        walk_at "rd"
        refine rd_no (fun z => by cases z) ?_
        walk_at "rd"
        refine rd_isi (.ty "int") (.base (.bl _)) (kit_ty (r := true) (by decide +kernel)) ?_
        walk_at "rd"
        refine rd_isi (.ty "int") (.base (.bl _)) (kit_ty (r := true) (by decide +kernel)) ?_
        walk_at "rd"
        refine rd_isi (.ty "bool") (.base (.bl _)) (kit_ty (r := true) (by decide +kernel)) ?_
        walk_at "rd"
        refine rd_isi (.ty "bool") (.base (.bl _)) (kit_ty (r := true) (by decide +kernel)) ?_
        walk_at "rd"
        rw [decide_eq_true (show V.bl true = V.bl true from rfl)]
        walk_at "rd"
        rw [decide_eq_true (show V.bl b = V.bl b from rfl)]
        exact kq _ s1
      · walk_at "rd"
        refine ⟨by show 2 ≤ sizeLine; decide, fun tp htp => ?_⟩
        have s1 := sNew (o := .tup [.ty "list", .ty "tuple"]) htp
        walk_at "rd"
        refine rd_is2 (t := "int") upd_same (.base (.int _)) (kit2 _ _ _ false false false (by decide +kernel) (by decide +kernel) rfl) ?_
        walk_at "rd"
        refine ⟨rfl, ?_⟩
        walk_at "rd"
        refine rd_no (fun z => by cases z) ?_
        walk_at "rd"
        refine ⟨rfl, ?_⟩
        walk_at "rd"
        refine rd_no (fun z => by cases z) ?_
        walk_at "rd"
        refine rd_isi (.ty "int") (.base (.int _)) (kit_ty (r := true) (by decide +kernel)) ?_
        walk_at "rd"
        refine rd_isi (.ty "int") (.base (.int _)) (kit_ty (r := true) (by decide +kernel)) ?_
        walk_at "rd"
        refine rd_isi (.ty "bool") (.base (.int _)) (kit_ty (r := false) (by decide +kernel)) ?_
        walk_at "rd"
        refine rd_isi (.ty "bool") (.base (.int _)) (kit_ty (r := false) (by decide +kernel)) ?_
        walk_at "rd"
        rw [decide_eq_true (show V.bl false = V.bl false from rfl)]
        walk_at "rd"
        rw [decide_eq_true (show V.int i = V.int i from rfl)]
        exact kq _ s1
      · walk_at "rd"
        refine ⟨by show 2 ≤ sizeLine; decide, fun tp htp => ?_⟩
        have s1 := sNew (o := .tup [.ty "list", .ty "tuple"]) htp
        walk_at "rd"
        refine rd_is2 (t := "str") upd_same (.base (.str _)) (kit2 _ _ _ false false false (by decide +kernel) (by decide +kernel) rfl) ?_
        walk_at "rd"
        refine ⟨rfl, ?_⟩
        walk_at "rd"
        refine rd_no (fun z => by cases z) ?_
        walk_at "rd"
        refine ⟨rfl, ?_⟩
        walk_at "rd"
        refine rd_no (fun z => by cases z) ?_
        walk_at "rd"
        refine rd_isi (.ty "int") (.base (.str _)) (kit_ty (r := false) (by decide +kernel)) ?_
        walk_at "rd"
        rw [decide_eq_true (show V.str x = V.str x from rfl)]
        exact kq _ s1
      · walk_at "rd"
        refine ⟨by show 2 ≤ sizeLine; decide, fun tp htp => ?_⟩
        have s1 := sNew (o := .tup [.ty "list", .ty "tuple"]) htp
        walk_at "rd"
        refine rd_is2 (t := "list") upd_same (.base (.lst (s1 _ _ h2))) (kit2 _ _ _ true false true (by decide +kernel) (by decide +kernel) rfl) ?_
        walk_at "rd"
        generalize upd H tp (.tup [.ty "list", .ty "tuple"]) = G0 at s1
        refine ⟨by show 2 ≤ sizeLine; decide, fun tq htq => ?_⟩
        have s2 := s1.trans (sNew (o := .tup [.ty "list", .ty "tuple"]) htq)
        walk_at "rd"
        refine rd_is2 (t := "list") upd_same (.base (.lst (s2 _ _ h1))) (kit2 _ _ _ true false true (by decide +kernel) (by decide +kernel) rfl) ?_
        generalize upd G0 tq (.tup [.ty "list", .ty "tuple"]) = G at s2
        have k1 := s2 _ _ h1
        have k2 := s2 _ _ h2
        walk_at "rd"
        refine rd_isi (.ty "list") (.base (.lst k1)) (kit_ty (r := true) (by decide +kernel)) ?_
        walk_at "rd"
        refine rd_isi (.ty "list") (.base (.lst k2)) (kit_ty (r := true) (by decide +kernel)) ?_
        walk_at "rd"
        refine rd_ndec (fun k => absurd rfl k) fun _ => ?_
        walk_at "rd"
        rw [decide_eq_true (show V.int (xs.length : Nat) = V.int (ys.length : Nat) by rw [h3])]
        walk_at "rd"
        refine rd_lc (rd_iR ?_)
        walk_at "rd"
        refine ⟨ys.length, rfl, by omega, by omega, fun D hD => ?_⟩
        rw [Int.toNat_natCast]
        refine lc_f wk_range (fun _ => some (.bl true)) hD (by omega) (fun i x H' H'' hi s y T' F hT hF => ?_) fun H' s e => ?_
        · obtain ⟨rfl, rfl⟩ := y
          walk_at "rd"
          refine ⟨rfl, ?_⟩
          walk_at "rd"
          have xi : xs[i]? = some (xs[i]'(by omega)) := List.getElem?_eq_getElem _
          have yi : ys[i]? = some (ys[i]'(by omega)) := List.getElem?_eq_getElem _
          refine rd_ixL (s _ _ k1) (by rw [show (0 : Int) + (i : Nat) = ((i : Nat) : Int) by omega]; exact atI_nat xi) ?_
          walk_at "rd"
          refine rd_ixL (s _ _ k2) (by rw [show (0 : Int) + (i : Nat) = ((i : Nat) : Int) by omega]; exact atI_nat yi) ?_
          walk_at "rd"
          exact ⟨_, _, rfl, SDL.mono (s2.trans s) n _ _ (h5 i _ _ xi yi), fun H4 s4 => hT _ _ rfl s4⟩
        · walk_at "rd"
          have e2 : H' D = some (.lst ((List.replicate ys.length true).map V.bl)) := by
            rw [e, fm_const]
          refine ⟨D, _, rfl, SqL.of e2, ?_⟩
          rw [all_true]
          exact kq _ (s2.trans s)
def sp__law_same (K : PySem.W.Frag) : Sp := fun vs H Q _ => ∃ (v1 : V) (x_found : PyData) (v2 : V) (x_due : PyData), vs = [v1, v2] ∧ Fr E0h H v1 (eA x_found) ∧ Fr E0h H v2 (eA x_due) ∧ ∃ r, LQF.F__law_same x_found x_due = some r ∧ ∀ (G H' : Hp), Ret [] H G H' → Q (.bl (r)) H'
theorem ok__law_same (T : Txt K mg a) : FnOk P w K mg base CX0 4 a.f__law_same a.d__law_same ["found", "due"] (sp__law_same K) := (same_n T 4).imp fun vs H Q E h => by
  obtain ⟨v1, x, v2, y, rfl, f1, f2, r, hr, kq⟩ := h
  obtain ⟨h1, h2⟩ := grd hr
  cases som h2
  exact ⟨v1, v2, rfl, sdl_of 4 f1 f2 h1, fun H' s => kq H' H' (Ret.same s)⟩
end K37

namespace LQF
open PySem L2 LX LQ
def F__law_cells (x_script : (List Int)) : Option (List Int) :=
  (catF [(lenI x_script)] (cutL x_script none (some (7 : Int)))).bind fun y487 =>
some y487
def F__law_draw (x_bag : (List Int)) (x_many : Int) : Option (Int × (List Int)) :=
  (ix x_bag (0 : Int)).bind fun y505 =>
cond (decide ((1 : Int) < y505)) ((ix x_bag (0 : Int)).bind fun y509 =>
(modF y509 x_many).bind fun y513 =>
(ix x_bag (0 : Int)).bind fun y515 =>
(divF y515 x_many).bind fun y519 =>
(setF x_bag (0 : Int) y519).bind fun l521 =>
some (y513, l521)) ((ix x_bag (2 : Int)).bind fun y527 =>
(setF x_bag (2 : Int) (y527 + (1 : Int))).bind fun l531 =>
(ix l531 (1 : Int)).bind fun y537 =>
(ix l531 (2 : Int)).bind fun y541 =>
(mulF y541 ((87178291 : Int) ^ (3 : Nat))).bind fun y545 =>
(modF (y537 + y545) (((10 : Int) ^ (42 : Nat)) + (63 : Int))).bind fun y547 =>
(powF y547 (3 : Int)).bind fun y549 =>
(modF y549 (((10 : Int) ^ (39 : Nat)) + (33 : Int))).bind fun y551 =>
(ix l531 (2 : Int)).bind fun y553 =>
(powF (y551 + (y553 * (39916801 : Int))) (5 : Int)).bind fun y557 =>
(modF y557 (((10 : Int) ^ (37 : Nat)) + (43 : Int))).bind fun y559 =>
(divF y559 (65537 : Int)).bind fun y561 =>
(modF y561 x_many).bind fun y563 =>
some (y563, l531))
def F__law_shuffled_L (x_bag : (List Int)) (x_things : (List Int)) : Option ((List Int) × (List Int)) :=
  (rngF (0 : Int) (lenI x_things)).bind fun l582 =>
(compLS (fun (a622 : Int) (s635 : ((List Int) × (List Int))) => (F__law_draw s635.2 (lenI s635.1)).bind fun y644 =>
(popAtF s635.1 y644.1).bind fun y657 =>
some (some y657.1, (y657.2, y644.2))) l582 (x_things, x_bag)).bind fun l669 =>
some (l669.1, l669.2.2)
def F__law_shuffled_S (x_bag : (List Int)) (x_things : Str) : Option ((List Str) × (List Int)) :=
  (charsF x_things).bind fun l690 =>
(lenS x_things).bind fun y697 =>
(rngF (0 : Int) y697).bind fun l699 =>
(compLS (fun (a739 : Int) (s752 : ((List Str) × (List Int))) => (F__law_draw s752.2 (lenI s752.1)).bind fun y761 =>
(popAtF s752.1 y761.1).bind fun y774 =>
some (some y774.1, (y774.2, y761.2))) l699 (l690, x_bag)).bind fun l786 =>
some (l786.1, l786.2.2)
def F__law_people (x_bag : (List Int)) (x_size : Int) (x_limit : Int) : Option ((List (Int × Str)) × (List Int)) :=
  (F__law_shuffled_S x_bag (Str.ofString "abcdefghijklmnopqrstuvwxyz")).bind fun y807 =>
(F__law_draw y807.2 (3 : Int)).bind fun y831 =>
(lrgF (0 : Int) x_size).bind fun l849 =>
(F__law_shuffled_L y831.2 l849).bind fun y857 =>
(loopF (fun (a875 : (Int × Int)) (s876 : ((List (Int × Str)) × (List Int))) => (cond (decide (y831.1 < (2 : Int))) (some x_limit) ((mulF a875.1 x_limit).bind fun y923 =>
(divF y923 x_size).bind fun y925 =>
some ((1 : Int) + (minI (x_limit - (1 : Int)) y925)))).bind fun y927 =>
(F__law_draw s876.2 y927).bind fun y934 =>
(ix (cutL y807.1 none (some x_limit)) y934.1).bind fun y947 =>
((cond (decide (y831.1 = (1 : Int))) (cond (decide ((0 : Int) < a875.1)) ((F__law_draw y934.2 (3 : Int)).bind fun y994 =>
some ((decide ((0 : Int) < y994.1)), y994.2)) (some (false, y934.2))) (some (false, y934.2))).bind fun b1008 =>
cond b1008.1 ((ix s876.1 (-(1 : Int))).bind fun y1018 =>
some (y1018.2, b1008.2)) (some (y947, b1008.2))).bind fun (r991 : (Str × (List Int))) =>
(appF s876.1 (a875.2, r991.1)).bind fun l1041 =>
some (l1041, r991.2)) (enumI y857.1) (([] : (List (Int × Str))), y857.2)).bind fun r899 =>
some (r899.1, r899.2)
def F__law_some_people (x_script : (List Int)) (x_bag : (List Int)) (x_most : Int) (x_limit : Int) : Option ((List (Int × Str)) × (List Int)) :=
  (eqvF (eL eI x_script) (eL eI ([] : List Int))).bind fun b1075 =>
cond b1075 ((F__law_draw x_bag (2 : Int)).bind fun y1089 =>
(ixS (Str.ofString "ca") y1089.1).bind fun y1102 =>
(F__law_draw y1089.2 (2 : Int)).bind fun y1122 =>
(ix [(1 : Int), (-(1 : Int))] y1122.1).bind fun y1135 =>
(stepF [((0 : Int), (Str.ofString "a")), ((1 : Int), (Str.ofString "b")), ((2 : Int), y1102)] y1135).bind fun l1142 =>
some (l1142, y1122.2)) ((F__law_draw x_bag (3 : Int)).bind fun y1159 =>
(ix [(4 : Int), (minI (12 : Int) x_most), x_most] y1159.1).bind fun y1172 =>
(F__law_draw y1159.2 y1172).bind fun y1179 =>
(F__law_draw y1179.2 x_limit).bind fun y1192 =>
(F__law_people y1192.2 ((1 : Int) + y1179.1) ((1 : Int) + y1192.1)).bind fun y1205 =>
some (y1205.1, y1205.2))
def F_is_integer (x_value : Int) : Option Bool :=
  some (true && (!false))
def F_is_color (x_value : Str) : Option Bool :=
  (cond (decide ("str" = "str")) ((lenS x_value).bind fun y1225 =>
cond (decide (y1225 = (1 : Int))) (some ((!ltS x_value (Str.ofString "a")) && (!ltS (Str.ofString "z") x_value))) (some false)) (some false)).bind fun b1231 =>
some b1231
def F_is_colored_integer (x_value : (Int × Str)) : Option Bool :=
  (cond (decide ("tuple" = "tuple")) (cond (decide ((2 : Int) = (2 : Int))) ((F_is_integer x_value.1).bind fun y1255 =>
cond y1255 ((F_is_color x_value.2).bind fun y1270 =>
some y1270) (some false)) (some false)) (some false)).bind fun b1281 =>
some b1281
def F_is_lineup (x_value : (List (Int × Str))) : Option Bool :=
  cond ((!(decide ("list" = "list"))) || (!((decide ((1 : Int) ≤ (lenI x_value))) && (decide ((lenI x_value) ≤ (60 : Int)))))) (some false) ((loopC (fun (a1307 : (Int × Str)) (s1308 : Unit) => (F_is_colored_integer a1307).bind fun y1329 =>
cond (!y1329) (some (.ret false)) (some (.nx ()))) x_value ()).bind fun r1324_ => ctlK r1324_ (fun q => some q) fun r1324 =>
(compL (fun (a1351 : (Int × Str)) => some (some a1351.1)) x_value).bind fun l1373 =>
(lrgF (0 : Int) (lenI x_value)).bind fun l1399 =>
(eqvF ((eL eI) (sortI l1373)) ((eL eI) l1399)).bind fun b1407 =>
some b1407)
def F_check_lineup (x_value : (List (Int × Str))) : Option Unit :=
  (F_is_lineup x_value).bind fun y1412 =>
cond (!y1412) (none) (some ())
def F_first_places (x_lineup : (List (Int × Str))) : Option (List (Str × Int)) :=
  (loopF (fun (a1433 : (Int × (Int × Str))) (s1434 : (List (Str × Int))) => cond (!(dhas s1434 a1433.2.2)) ((dputF s1434 a1433.2.2 a1433.1).bind fun l1479 =>
some l1479) (some s1434)) (enumI x_lineup) ([] : (List (Str × Int)))).bind fun r1454 =>
some r1454
def F_people_in_the_way (x_lineup : (List (Int × Str))) (x_color : Str) (x_following : Str) : Option (List Int) :=
  (loopC (fun (a1509 : (Int × Str)) (s1510 : (List Int)) => cond (decide (a1509.2 = x_following)) (some (.bk s1510)) (cond (!(decide (a1509.2 = x_color))) ((appF s1510 a1509.1).bind fun l1539 =>
some (.nx l1539)) (some (.nx s1510)))) x_lineup ([] : (List Int))).bind fun r1529_ => ctlK r1529_ (fun q => some q) fun r1529 =>
some r1529
def F_most_allowed (x_lineup : (List (Int × Str))) (x_values : (List (Str × Int))) (x_color : Str) : Option Int :=
  (F_first_places x_lineup).bind fun y1568 =>
(loopC (fun (a1590 : Str) (s1591 : (List Int)) => cond (decide (a1590 = x_color)) (some (.bk s1591)) ((dget x_values a1590).bind fun y1612 =>
(F_people_in_the_way x_lineup a1590 x_color).bind fun y1619 =>
(appF s1591 (y1612 + (lenI y1619))).bind fun l1634 =>
some (.nx l1634))) (dkeys y1568) ([] : (List Int))).bind fun r1609_ => ctlK r1609_ (fun q => some q) fun r1609 =>
some (minDL r1609 (0 : Int))
def F_greatest_values (x_lineup : (List (Int × Str))) : Option (List (Str × Int)) :=
  (F_first_places x_lineup).bind fun y1655 =>
(loopF (fun (a1677 : Str) (s1678 : (List (Str × Int))) => (F_most_allowed x_lineup s1678 a1677).bind fun y1699 =>
(dputF s1678 a1677 y1699).bind fun l1709 =>
some l1709) (dkeys y1655) ([] : (List (Str × Int)))).bind fun r1696 =>
some r1696
def F_people_outside (x_lineup : (List (Int × Str))) (x_colors : Str) : Option (List Int) :=
  (compL (fun (a1733 : (Int × Str)) => (inSF a1733.2 x_colors).bind fun b1755 =>
cond (!b1755) (some (some a1733.1)) (some none)) x_lineup).bind fun l1757 =>
some l1757
def F_fewest_calls_to_one_color (x_lineup : (List (Int × Str))) : Option Int :=
  (F_check_lineup x_lineup).bind fun y1774 =>
(F_greatest_values x_lineup).bind fun y1784 =>
(compL (fun (a1808 : Str) => (dget y1784 a1808).bind fun y1823 =>
(F_people_outside x_lineup a1808).bind fun y1830 =>
some (some (y1823 + (lenI y1830)))) (dkeys y1784)).bind fun l1845 =>
(minL l1845).bind fun y1859 =>
some y1859
def F__law_outside (x_line : (List (Int × Str))) (x_wanted : Str) : Option Int :=
  (compL (fun (a1871 : (Int × Str)) => (inSF a1871.2 x_wanted).bind fun b1893 =>
cond (!b1893) (some (some a1871.2)) (some none)) x_line).bind fun l1895 =>
some (lenI l1895)
def F__law_after (x_line : (List (Int × Str))) (x_person : Int) : Option (List (Int × Str)) :=
  (compL (fun (a1920 : (Int × Str)) => cond (decide (a1920.1 = x_person)) (some (some a1920.2)) (some none)) x_line).bind fun l1942 =>
(ix l1942 (0 : Int)).bind fun y1957 =>
(compL (fun (a1969 : (Int × Str)) => cond (!(decide (a1969.2 = y1957))) (some (some a1969.2)) (some none)) x_line).bind fun l1991 =>
(catF l1991 [y1957]).bind fun y2012 =>
(ix y2012 (0 : Int)).bind fun y2026 =>
(compL (fun (a2050 : (Int × Str)) => cond (!(decide (a2050.1 = x_person))) (some (some a2050)) (some none)) x_line).bind fun l2072 =>
(catF [(x_person, y2026)] l2072).bind fun y2087 =>
some y2087
def F__law_search (x_line : (List (Int × Str))) (x_wanted : Str) : Option PyData :=
  (rngF (0 : Int) (14 : Int)).bind fun l2128 =>
(loopC (fun (a2130 : Int) (s2131 : ((List (List (Int × Str))) × (List ((List (Int × Str)) × Bool)))) => (loopC (fun (a2162 : (List (Int × Str))) (s2163 : Unit) => (compL (fun (a2190 : (Int × Str)) => some (some a2190.2)) a2162).bind fun l2212 =>
(compL (fun (a2231 : Str) => (cond (!(decide (x_wanted = (Str.ofString "")))) (some x_wanted) ((ix l2212 (0 : Int)).bind fun y2255 =>
some y2255)).bind fun y2262 =>
(inSF a2231 y2262).bind fun b2269 =>
cond (!b2269) (some (some a2231)) (some none)) l2212).bind fun l2271 =>
(eqvF ((eL eS) l2271) ((eL eS) ([] : (List Str)))).bind fun b2292 =>
cond b2292 (some (.ret (eI a2130))) (some (.nx ()))) s2131.1 ()).bind fun r2180_ => ctlK r2180_ (fun q => some (.ret q)) fun r2180 =>
(loopF (fun (a2311 : (List (Int × Str))) (s2312 : ((List (List (Int × Str))) × (List ((List (Int × Str)) × Bool)))) => (rngF (0 : Int) (lenI x_line)).bind fun l2342 =>
(loopF (fun (a2344 : Int) (s2345 : ((List (List (Int × Str))) × (List ((List (Int × Str)) × Bool)))) => (F__law_after a2311 a2344).bind fun y2369 =>
cond (!(dhas s2345.2 y2369)) ((dputF s2345.2 y2369 true).bind fun l2399 =>
(appF s2345.1 y2369).bind fun l2405 =>
some (l2405, l2399)) (some (s2345.1, s2345.2))) l2342 (s2312.1, s2312.2)).bind fun r2366 =>
some (r2366.1, r2366.2)) s2131.1 (([] : (List (List (Int × Str)))), s2131.2)).bind fun r2334 =>
some (.nx (r2334.1, r2334.2))) l2128 ([x_line], [(x_line, true)])).bind fun r2156_ => ctlK r2156_ (fun q => some q) fun r2156 =>
some (eS (Str.ofString "odd"))
def F__law_letters (x_line : (List (Int × Str))) : Option (List Str) :=
  (loopF (fun (a2461 : (Int × Str)) (s2462 : (List (Str × Bool))) => (dputF s2462 a2461.2 true).bind fun l2491 =>
some l2491) x_line ([] : (List (Str × Bool)))).bind fun r2481 =>
some (dkeys r2481)
def F__law_first (x_line : (List (Int × Str))) (x_letter : Str) : Option Int :=
  (compL (fun (a2518 : (Int × Str)) => some (some a2518.2)) x_line).bind fun l2540 =>
(idxF l2540 x_letter).bind fun y2560 =>
some y2560
def F__law_others (x_line : (List (Int × Str))) (x_position : Int) (x_letter : Str) : Option Int :=
  (compL (fun (a2578 : (Int × Str)) => cond (!(decide (a2578.2 = x_letter))) (some (some a2578.2)) (some none)) (cutL x_line none (some x_position))).bind fun l2600 =>
some (lenI l2600)
def F__law_reach (x_line : (List (Int × Str))) : Option (List (Str × Int)) :=
  (F__law_letters x_line).bind fun y2625 =>
(loopF (fun (a2640 : Str) (s2641 : (List (Str × Int))) => (F__law_first x_line a2640).bind fun y2665 =>
(compL (fun (a2680 : Str) => (F__law_others x_line y2665 a2680).bind fun y2695 =>
(dget s2641 a2680).bind fun y2705 =>
some (some (y2695 + y2705))) (dkeys s2641)).bind fun l2709 =>
((eqvF ((eL eI) l2709) ((eL eI) ([] : (List Int)))).bind fun b2732 =>
cond (!b2732) ((minL l2709).bind fun y2739 =>
some y2739) (some (0 : Int))).bind fun y2744 =>
(dputF s2641 a2640 y2744).bind fun l2751 =>
some l2751) y2625 ([] : (List (Str × Int)))).bind fun r2661 =>
some r2661
def F__law_right (x_script : (List Int)) (x_bag : (List Int)) : Option (Bool × (List Int)) :=
  (eqvF (eL eI x_script) (eL eI ([] : List Int))).bind fun b2782 =>
(F__law_draw x_bag ((3 : Int) + (b2I (!b2782)))).bind fun y2784 =>
(F__law_draw y2784.2 (4 : Int)).bind fun y2797 =>
(F__law_people y2797.2 ((1 : Int) + y2784.1) ((1 : Int) + y2797.1)).bind fun y2810 =>
(F__law_some_people x_script y2810.2 (60 : Int) (26 : Int)).bind fun y2825 =>
(reprF (.list [(eL (eT2 eI eS)) y2810.1, (eL (eT2 eI eS)) y2825.1])).bind fun y2846 =>
(F__law_reach y2825.1).bind fun y2848 =>
(compL (fun (a2872 : (Str × Int)) => (F__law_outside y2825.1 a2872.1).bind fun y2903 =>
some (some (y2903 + a2872.2))) y2848).bind fun l2913 =>
(minL l2913).bind fun y2927 =>
(F_fewest_calls_to_one_color y2810.1).bind fun y2932 =>
(F_fewest_calls_to_one_color y2825.1).bind fun y2942 =>
(F_fewest_calls_to_one_color y2825.1).bind fun y2957 =>
(appF [y2932, y2942] y2957).bind fun l2967 =>
(F__law_search y2810.1 (Str.ofString "")).bind fun y2973 =>
(F__law_same ((eL eI) l2967) ((eL eA) [y2973, (eI y2927), (eI y2927)])).bind fun y2991 =>
cond (!y2991) (some (false, y2825.2)) ((compL (fun (a3006 : (Int × Str)) => (ix y2825.1 (0 : Int)).bind fun y3028 =>
some (some (a3006.1, y3028.2))) y2825.1).bind fun l3047 =>
((F_fewest_calls_to_one_color l3047).bind fun y3062 =>
(F__law_same (eI y3062) (eI (0 : Int))).bind fun y3072 =>
cond y3072 ((reprF (.list [(eL (eT2 eI eS)) y2810.1, (eL (eT2 eI eS)) y2825.1])).bind fun y3088 =>
some (decide (y3088 = y2846))) (some false)).bind fun b3091 =>
some (b3091, y2825.2))
def F__law_bag (x_cell : Int) (x_turn : Int) : Option (List Int) :=
  (mulF ((613652983 : Int) ^ (4 : Nat)) (x_turn + (1 : Int))).bind fun y3099 =>
(modF ((x_cell * (756839459 : Int)) + y3099) (((10 : Int) ^ (42 : Nat)) + (63 : Int))).bind fun y3101 =>
some [(maxI (0 : Int) ((maxI x_cell ((0 : Int) - x_cell)) - ((10 : Int) ^ (18 : Nat)))), y3101, (0 : Int)]
def F_law (x_script : (List Int)) : Option Bool :=
  (F__law_cells x_script).bind fun y3111 =>
(loopC (fun (a3135 : (Int × Int)) (s3136 : Unit) => (F__law_bag a3135.2 a3135.1).bind fun y3172 =>
(F__law_right x_script y3172).bind fun y3187 =>
cond (!y3187.1) (some (.ret false)) (some (.nx ()))) (enumI (cutL y3111 none (some (5 : Int)))) ()).bind fun r3153_ => ctlK r3153_ (fun q => some q) fun r3153 =>
some true
end LQF

namespace K37
open PySem L2 LX LQ
section
variable {P : Program} {w : World} {K : PySem.W.Frag} {mg : Str → Option Value} {base : Heap} {a : Ad}
open LQF
def sp__law_cells (K : PySem.W.Frag) : Sp := fun vs H Q _ => ∃ (a473 : Addr) (x_script : (List Int)), vs = [.ref a473] ∧ Scr K H a473 x_script ∧ ∃ r, F__law_cells x_script = some r ∧ ∀ (a : Addr) (G H' : Hp), Ret [] H G H' → Fr H G (.ref a) ((eL eI) (r)) → Q (.ref a) H'
theorem ok__law_cells (T : Txt K mg a) : FnOk P w K mg base CX0 1 a.f__law_cells a.d__law_cells ["script"] (sp__law_cells K) := by
  refine T.F__law_cells.ok sc__law_cells (fun vs H Q E h => ?_) (fun cdv A outer s H0 vs Q E hr h => ?_)
  · obtain ⟨a473, x_script, rfl, _⟩ := h
    rfl
  · obtain ⟨a473, x_script, rfl, f474, r, h, kq⟩ := h
    have nd := sc__law_cells.nd
    have hu64 := hr.units
    have hu65 := units65 hr
    refine ⟨_, (pss_one (ps_ret (pe_op op_cat (pe_lst (pa_cons (pe_callB (klen (K := K)) (by rfl) T.b_len (by decide +kernel) (pa_cons (pv 0) pa_nil)) pa_nil)) (pe_slice (ksl_list (K := K)) (pv 0) po_none (po_some pe_int))))), ?_⟩
    unfold F__law_cells at h
    have S0 := Sep.start H0
    refine rd_ret ?_
    refine rd_op ?_
    refine rd_lstZ ?_
    refine rd_cons ?_
    refine rd_cb ?_
    refine rd_cons ?_
    refine rd_var rfl ?_
    refine rd_nil ?_
    refine q_lenScr S0 f474 ?_
    refine rd_nil ?_
    refine q_lst (F0 := H0) (ds := [eI (lenI x_script)]) S0 (by show 1 ≤ LIM; decide) (.cons (.int _) .nil) S0.old fun a475 G476 H477 S478 s479 f480 => ?_
    have f474 := f474.same s479
    replace f480 : Fr H0 G476 (.ref a475) ((eL eI) [(lenI x_script)]) := f480
    refine rd_sl ?_
    refine rd_var rfl ?_
    refine rd_nopart ?_
    refine rd_part ?_
    refine rd_c ?_
    refine rd_int ?_
    refine q_slScr S478 f474 fun a481 G485 H482 S483 s486 f484 => ?_
    have f474 := f474.same s486
    have f480 := f480.same s486
    obtain ⟨y487, h488, h⟩ := bnd h
    obtain ⟨w489, h490, k491⟩ := li f480
    obtain ⟨w492, h493, k494⟩ := li f484
    refine q_cat S483 (S483.sub _ _ h490) k491 (S483.sub _ _ h493) k494 h488 S483.old fun a495 G498 H496 S497 s499 f500 => ?_
    have f474 := f474.same s499
    cases h
    exact kq a495 _ _ S497.toRet f500
end
end K37

namespace K37
open PySem L2 LX LQ
section
variable {P : Program} {w : World} {K : PySem.W.Frag} {mg : Str → Option Value} {base : Heap} {a : Ad}
open LQF
def sp__law_draw (K : PySem.W.Frag) : Sp := fun vs H Q _ => ∃ (a501 : Addr) (w502 : List V) (x_bag : (List Int)) (x_many : Int), vs = [.ref a501, (.int x_many)] ∧ H a501 = some (.lst w502) ∧ FrL E0h (hid H [a501]) w502 (x_bag.map eI) ∧ ∃ r, F__law_draw x_bag x_many = some r ∧ ∀ (u0 : List V) (G H' : Hp), Ret [a501] H G H' → H' a501 = some (.lst u0) → FrL E0h G u0 ((r.2).map eI) → Q (.int (r.1)) H'
theorem ok__law_draw (T : Txt K mg a) : FnOk P w K mg base CX0 1 a.f__law_draw a.d__law_draw ["bag", "many"] (sp__law_draw K) := by
  refine T.F__law_draw.ok sc__law_draw (fun vs H Q E h => ?_) (fun cdv A outer s H0 vs Q E hr h => ?_)
  · obtain ⟨a501, w502, x_bag, x_many, rfl, _⟩ := h
    rfl
  · obtain ⟨a501, w502, x_bag, x_many, rfl, h503, f504, r, h, kq⟩ := h
    have nd := sc__law_draw.nd
    have hu64 := hr.units
    have hu65 := units65 hr
    refine ⟨_, (pss_cons (ps_if (pt_cmpR op_gt (pe_ix (kix_list (K := K)) (pv 0) pe_int (fun _ _ => rfl)) pe_int (nomark _)) (pss_cons (ps_set (i := 2) nd rfl (Or.inl rfl) (pe_op op_mod (pe_ix (kix_list (K := K)) (pv 0) pe_int (fun _ _ => rfl)) (pv 1)))
      (pss_cons (ps_asg (pe_op op_fdivW (pe_ix (kix_list (K := K)) (pv 0) pe_int (fun _ _ => rfl)) (pv 1)) (pg_sub (pv 0) pe_int set_list))
      (pss_one (ps_ret (pv 2))))) pss_nil)
      (pss_cons (ps_asg (pe_op op_add (pe_ix (kix_list (K := K)) (pv 0) pe_int (fun _ _ => rfl)) pe_int) (pg_sub (pv 0) pe_int set_list))
      (pss_cons (ps_set (i := 3) nd rfl (Or.inl rfl) (pe_op op_mod (pe_op op_add (pe_ix (kix_list (K := K)) (pv 0) pe_int (fun _ _ => rfl)) (pe_op op_mulW (pe_ix (kix_list (K := K)) (pv 0) pe_int (fun _ _ => rfl)) (pe_op op_powW pe_int pe_int))) (pe_op op_add (pe_op op_powW pe_int pe_int) pe_int)))
      (pss_cons (ps_set (i := 3) nd rfl (Or.inl rfl) (pe_op op_add (pe_op op_mod (pe_op op_powW (pv 3) pe_int) (pe_op op_add (pe_op op_powW pe_int pe_int) pe_int)) (pe_op op_mul (pe_ix (kix_list (K := K)) (pv 0) pe_int (fun _ _ => rfl)) pe_int)))
      (pss_one (ps_ret (pe_op op_mod (pe_op op_fdivW (pe_op op_mod (pe_op op_powW (pv 3) pe_int) (pe_op op_add (pe_op op_powW pe_int pe_int) pe_int)) pe_int) (pv 1)))))))), ?_⟩
    unfold F__law_draw at h
    have S0 := Sep.start1 h503
    refine rd_seq ?_
    refine rd_ifS ?_
    refine rd_test ?_
    refine rd_op ?_
    refine rd_op ?_
    refine rd_var rfl ?_
    refine rd_c ?_
    obtain ⟨y505, h506, h⟩ := bnd h
    refine q_ixL (S0.get 0 rfl) f504 h506 fun v507 f508 => ?_
    cases fr_int f508
    refine rd_c ?_
    refine rd_I0 ?_
    refine rd_bl ?_
    rcases cnd h with ⟨c565, h⟩ | ⟨c565, h⟩
    ·
      refine iteY c565 ?_
      refine rd_seq ?_
      refine rd_asg ?_
      refine rd_op ?_
      refine rd_op ?_
      refine rd_var rfl ?_
      refine rd_c ?_
      obtain ⟨y509, h510, h⟩ := bnd h
      refine q_ixL (S0.get 0 rfl) f504 h510 fun v511 f512 => ?_
      cases fr_int f512
      refine rd_var rfl ?_
      obtain ⟨y513, h514, h⟩ := bnd h
      refine q_mod h514 ?_
      refine rd_nameS (σ' := [some (.ref a501), some (.int x_many), some (.int y513), none]) rfl ?_
      refine rd_mk ?_
      refine rd_seq ?_
      refine rd_asg ?_
      refine rd_op ?_
      refine rd_op ?_
      refine rd_var rfl ?_
      refine rd_c ?_
      obtain ⟨y515, h516, h⟩ := bnd h
      refine q_ixL (S0.get 0 rfl) f504 h516 fun v517 f518 => ?_
      cases fr_int f518
      refine rd_var rfl ?_
      obtain ⟨y519, h520, h⟩ := bnd h
      refine q_div h520 ?_
      refine rd_sub ?_
      refine rd_var rfl ?_
      refine rd_c ?_
      obtain ⟨l521, h522, h⟩ := bnd h
      refine q_setL S0 0 rfl f504 (.int _) h522 fun w523 H524 S525 f526 => ?_
      have S525 : Sep [a501] H0 (hid H0 [a501]) H524 [(a501, .lst w523)] := S525
      refine rd_mk ?_
      refine rd_ret ?_
      refine rd_var rfl ?_
      cases h
      exact kq w523 _ _ S525.toRet (S525.get 0 rfl) f526
    ·
      refine iteN c565 ?_
      refine rd_next ?_
      refine rd_mk ?_
      refine rd_seq ?_
      refine rd_asg ?_
      refine rd_op ?_
      refine rd_op ?_
      refine rd_var rfl ?_
      refine rd_c ?_
      obtain ⟨y527, h528, h⟩ := bnd h
      refine q_ixL (S0.get 0 rfl) f504 h528 fun v529 f530 => ?_
      cases fr_int f530
      refine rd_c ?_
      refine rd_I0 ?_
      refine rd_sub ?_
      refine rd_var rfl ?_
      refine rd_c ?_
      obtain ⟨l531, h532, h⟩ := bnd h
      refine q_setL S0 0 rfl f504 (.int _) h532 fun w533 H534 S535 f536 => ?_
      have S535 : Sep [a501] H0 (hid H0 [a501]) H534 [(a501, .lst w533)] := S535
      refine rd_mk ?_
      refine rd_seq ?_
      refine rd_asg ?_
      refine rd_op ?_
      refine rd_op ?_
      refine rd_op ?_
      refine rd_var rfl ?_
      refine rd_c ?_
      obtain ⟨y537, h538, h⟩ := bnd h
      refine q_ixL (S535.get 0 rfl) f536 h538 fun v539 f540 => ?_
      cases fr_int f540
      refine rd_op ?_
      refine rd_op ?_
      refine rd_var rfl ?_
      refine rd_c ?_
      obtain ⟨y541, h542, h⟩ := bnd h
      refine q_ixL (S535.get 0 rfl) f536 h542 fun v543 f544 => ?_
      cases fr_int f544
      refine rd_op ?_
      refine rd_c ?_
      refine rd_c ?_
      refine rd_I ⟨by decide, by decide, by decide⟩ ?_
      obtain ⟨y545, h546, h⟩ := bnd h
      refine q_mulW h546 ?_
      refine rd_I0 ?_
      refine rd_op ?_
      refine rd_op ?_
      refine rd_c ?_
      refine rd_c ?_
      refine rd_I ⟨by decide, by decide, by decide⟩ ?_
      refine rd_c ?_
      refine rd_I0 ?_
      obtain ⟨y547, h548, h⟩ := bnd h
      refine q_mod h548 ?_
      refine rd_nameS (σ' := [some (.ref a501), some (.int x_many), none, some (.int y547)]) rfl ?_
      refine rd_mk ?_
      refine rd_seq ?_
      refine rd_asg ?_
      refine rd_op ?_
      refine rd_op ?_
      refine rd_op ?_
      refine rd_var rfl ?_
      refine rd_c ?_
      obtain ⟨y549, h550, h⟩ := bnd h
      refine q_pow h550 ?_
      refine rd_op ?_
      refine rd_op ?_
      refine rd_c ?_
      refine rd_c ?_
      refine rd_I ⟨by decide, by decide, by decide⟩ ?_
      refine rd_c ?_
      refine rd_I0 ?_
      obtain ⟨y551, h552, h⟩ := bnd h
      refine q_mod h552 ?_
      refine rd_op ?_
      refine rd_op ?_
      refine rd_var rfl ?_
      refine rd_c ?_
      obtain ⟨y553, h554, h⟩ := bnd h
      refine q_ixL (S535.get 0 rfl) f536 h554 fun v555 f556 => ?_
      cases fr_int f556
      refine rd_c ?_
      refine rd_I (Or.inr ⟨by decide, by decide⟩) ?_
      refine rd_I0 ?_
      refine rd_nameS (σ' := [some (.ref a501), some (.int x_many), none, some (.int (y551 + (y553 * (39916801 : Int))))]) rfl ?_
      refine rd_mk ?_
      refine rd_ret ?_
      refine rd_op ?_
      refine rd_op ?_
      refine rd_op ?_
      refine rd_op ?_
      refine rd_var rfl ?_
      refine rd_c ?_
      obtain ⟨y557, h558, h⟩ := bnd h
      refine q_pow h558 ?_
      refine rd_op ?_
      refine rd_op ?_
      refine rd_c ?_
      refine rd_c ?_
      refine rd_I ⟨by decide, by decide, by decide⟩ ?_
      refine rd_c ?_
      refine rd_I0 ?_
      obtain ⟨y559, h560, h⟩ := bnd h
      refine q_mod h560 ?_
      refine rd_c ?_
      obtain ⟨y561, h562, h⟩ := bnd h
      refine q_div h562 ?_
      refine rd_var rfl ?_
      obtain ⟨y563, h564, h⟩ := bnd h
      refine q_mod h564 ?_
      cases h
      exact kq w533 _ _ S535.toRet (S535.get 0 rfl) f536
end
end K37

namespace K37
open PySem L2 LX LQ
section
variable {P : Program} {w : World} {K : PySem.W.Frag} {mg : Str → Option Value} {base : Heap} {a : Ad}
open LQF
def sp__law_shuffled (K : PySem.W.Frag) : Sp := fun vs H Q _ => (∃ (a566 : Addr) (w567 : List V) (x_bag : (List Int)) (a568 : Addr) (x_things : (List Int)), vs = [.ref a566, .ref a568] ∧ H a566 = some (.lst w567) ∧ FrL E0h (hid H [a566]) w567 (x_bag.map eI) ∧ Fr E0h (hid H [a566]) (.ref a568) ((eL eI) x_things) ∧ ∃ r, F__law_shuffled_L x_bag x_things = some r ∧ ∀ (a : Addr) (u0 : List V) (G H' : Hp), Ret [a566] H G H' → H' a566 = some (.lst u0) → FrL E0h G u0 ((r.2).map eI) → Fr H G (.ref a) ((eL eI) (r.1)) → Q (.ref a) H') ∨ (∃ (a686 : Addr) (w687 : List V) (x_bag : (List Int)) (x_things : Str), vs = [.ref a686, (.str x_things)] ∧ H a686 = some (.lst w687) ∧ FrL E0h (hid H [a686]) w687 (x_bag.map eI) ∧ ∃ r, F__law_shuffled_S x_bag x_things = some r ∧ ∀ (a : Addr) (u0 : List V) (G H' : Hp), Ret [a686] H G H' → H' a686 = some (.lst u0) → FrL E0h G u0 ((r.2).map eI) → Fr H G (.ref a) ((eL eS) (r.1)) → Q (.ref a) H')
theorem ok__law_shuffled (T : Txt K mg a) : FnOk P w K mg base CX0 2 a.f__law_shuffled a.d__law_shuffled ["bag", "things"] (sp__law_shuffled K) := by
  refine T.F__law_shuffled.ok sc__law_shuffled (fun vs H Q E h => ?_) (fun cdv A outer s H0 vs Q E hr h => ?_)
  · rcases h with ⟨a566, w567, x_bag, a568, x_things, rfl, _⟩ | ⟨a686, w687, x_bag, x_things, rfl, _⟩
    · rfl
    · rfl
  · have nd := sc__law_shuffled.nd
    have hu64 := hr.units
    have hu65 := units65 hr
    rcases h with ⟨a566, w567, x_bag, a568, x_things, rfl, h569, f570, f571, r, h, kq⟩ | ⟨a686, w687, x_bag, x_things, rfl, h688, f689, r, h, kq⟩
    · refine ⟨_, (pss_cons (ps_set (i := 2) nd rfl (Or.inr rfl) (pe_callTy (klistA (K := K) rfl) (by rfl) T.b_list (by decide +kernel) (pa_cons (pv 1) pa_nil)))
      (pss_one (ps_ret (pe_lc (own := [("turn", 3)]) (g := gName 3) (tt := tYes) rfl nd (pi_range1 rfl T.b_range (pa_cons (pe_callB (klenA (K := K)) (by rfl) T.b_len (by decide +kernel) (pa_cons (pv 1) pa_nil)) pa_nil)) (blkOk_by (own := [("turn", 3)]) (N := ["bag", "things", "left", "turn"]) (sc := defScope s__law_shuffled) (by decide +kernel)) (fun _ _ _ _ _ => (pg_name (i := 3) nd rfl (Or.inl rfl))) (fun _ _ _ _ _ => pts_nil) (fun _ _ _ _ _ => (kbm (K := K) PySem.F.plainAttrs_list PySem.F.slot_list_pop PySem.F.type_list_pop mt_popAt (pv 2) (pa_cons (pe_call (ok__law_draw T) (hr.mono (by decide)) rfl T.g__law_draw T.k__law_draw T.n__law_draw .nil pass0 (pa_cons (pv 0) (pa_cons (pe_callB (klen (K := K)) (by rfl) T.b_len (by decide +kernel) (pa_cons (pv 2) pa_nil)) pa_nil))) pa_nil))))))), ?_⟩
      unfold F__law_shuffled_L at h
      have S0 := Sep.start1 h569
      refine rd_seq ?_
      refine rd_asg ?_
      refine rd_cb ?_
      refine rd_cons ?_
      refine rd_var rfl ?_
      refine rd_nil ?_
      refine rd_listAL ?_
      obtain ⟨w572, h573, k574⟩ := li f571
      refine q_listO S0 (S0.sub _ _ h573) fun a575 H576 S577 n578 => ?_
      refine rd_nameS (σ' := [some (.ref a566), some (.ref a568), some (.ref a575), none]) rfl ?_
      refine rd_mk ?_
      refine rd_ret ?_
      refine rd_lc ?_
      refine rd_iR1 ?_
      refine rd_cons ?_
      refine rd_cb ?_
      refine rd_cons ?_
      refine rd_var rfl ?_
      refine rd_nil ?_
      refine rd_lenAL ?_
      obtain ⟨w579, h580, k581⟩ := li f571
      refine q_len (S577.sub _ _ h580) k581 ?_
      refine rd_nil ?_
      obtain ⟨l582, h583, h⟩ := bnd h
      refine q_rng1 h583 ?_
      intro D584 h585
      have S637 := S577
      rw [frl_ints (F0 := H0) (k574.imm (flat_map flI _))] at S637
      have f638 : FrL H0 (hid H0 [a566]) ((x_things).map V.int) ((x_things).map eI) := ints_frl _
      have S637 : Sep [a566] H0 (hid H0 [a566]) H576 [(a575, .lst ((x_things).map V.int)), (a566, .lst w567)] := S637
      have S639 := S637
      rw [frl_ints f570] at S639
      have f640 : FrL H0 (hid H0 [a566]) ((x_bag).map V.int) ((x_bag).map eI) := ints_frl _
      have S639 : Sep [a566] H0 (hid H0 [a566]) H576 [(a575, .lst ((x_things).map V.int)), (a566, .lst ((x_bag).map V.int))] := S639
      obtain ⟨l669, h670, h⟩ := bnd h
      refine q_lcLS (c := fun (s635 : ((List Int) × (List Int))) => ([(a575, .lst ((s635.1).map V.int)), (a566, .lst ((s635.2).map V.int))] : List (Addr × HO))) (ys := l669.1) (s1 := l669.2) (enc := eI) (F0 := H0) h670 (w_rng1 h583) S639 h585 S639.old ?_ ?_ ?_
      · rintro svD584 GD584 HD584 accD584 SD584 sD584
        exact trivial
      · rintro i623 x624 a622 s635 o633 s636 G627 H625 H626 acc632 h630 h S628 s629 h631 T F hT hF
        have f571 := f571.same s629
        have S628 : Sep [a566] H0 G627 H625 [(D584, .lst acc632), (a575, .lst ((s635.1).map V.int)), (a566, .lst ((s635.2).map V.int))] := S628
        have f641 : FrL H0 G627 ((s635.1).map V.int) ((s635.1).map eI) := ints_frl _
        have f642 : FrL H0 G627 ((s635.2).map V.int) ((s635.2).map eI) := ints_frl _
        have sT634 := Same.refl G627
        obtain ⟨rfl, e643⟩ := h631
        cases e643 _ h630
        refine rd_nameS (σ' := [some (.ref a566), some (.ref a568), some (.ref a575), some (.int a622)]) rfl ?_
        refine ⟨rfl, ?_⟩
        refine rd_tyes ?_
        refine iteY rfl ?_
        refine rd_bm ?_
        refine rd_var rfl ?_
        refine ⟨Or.inl ⟨rfl, _, SqL.of (S628.get 1 rfl)⟩, ?_⟩
        refine rd_cons ?_
        refine rd_call ?_
        refine rd_cons ?_
        refine rd_var rfl ?_
        refine rd_cons ?_
        refine rd_cb ?_
        refine rd_cons ?_
        refine rd_var rfl ?_
        refine rd_nil ?_
        refine q_len (S628.get 1 rfl) f641 ?_
        refine rd_nil ?_
        obtain ⟨y644, h645, h⟩ := bnd h
        refine ⟨a566, ((s635.2).map V.int), s635.2, (lenI s635.1), rfl, (S628.get 2 rfl), (f642.rp.same (S628.hid1 2 rfl)), y644, h645, fun w649 G646 H647 R648 h650 k651 => ?_⟩
        obtain ⟨G652, S653, s654, t655, l656⟩ := S628.ret1 2 rfl R648 h650 lst_tup
        have k651 := l656 _ _ (k651.imm (flat_map flI _))
        have f571 := f571.same s654
        have f641 := f641.same s654
        have f642 := f642.same s654
        have sT634 := sT634.trans s654
        have S653 : Sep [a566] H0 G652 H647 [(D584, .lst acc632), (a575, .lst ((s635.1).map V.int)), (a566, .lst w649)] := S653
        refine rd_nil ?_
        obtain ⟨y657, h658, h⟩ := bnd h
        refine q_popAt (x := y657.1) (r := y657.2) S653 1 rfl f641 h658 fun v659 w660 H661 S662 f663 f664 => ?_
        have S662 : Sep [a566] H0 G652 H661 [(D584, .lst acc632), (a575, .lst w660), (a566, .lst w649)] := S662
        cases fr_int f664
        have S665 := S662
        rw [frl_ints f663] at S665
        have f666 : FrL H0 G652 ((y657.2).map V.int) ((y657.2).map eI) := ints_frl _
        have S665 : Sep [a566] H0 G652 H661 [(D584, .lst acc632), (a575, .lst ((y657.2).map V.int)), (a566, .lst w649)] := S665
        have S667 := S665
        rw [frl_ints k651] at S667
        have f668 : FrL H0 G652 ((y644.2).map V.int) ((y644.2).map eI) := ints_frl _
        have S667 : Sep [a566] H0 G652 H661 [(D584, .lst acc632), (a575, .lst ((y657.2).map V.int)), (a566, .lst ((y644.2).map V.int))] := S667
        cases h
        exact hT _ _ _ _ rfl S667 sT634 (.int _)
      rintro G672 H673 w674 S675 s676 f677 n678 n679
      have f571 := f571.same s676
      have f680 : FrL H0 G672 ((l669.2.1).map V.int) ((l669.2.1).map eI) := ints_frl _
      have f681 : FrL H0 G672 ((l669.2.2).map V.int) ((l669.2.2).map eI) := ints_frl _
      have S675 : Sep [a566] H0 G672 H673 [(D584, .lst w674), (a575, .lst ((l669.2.1).map V.int)), (a566, .lst ((l669.2.2).map V.int))] := S675
      obtain ⟨G682, S683, s684, f685⟩ := S675.fixF 0 rfl (S675.notms n678) f677 n679
      have f571 := f571.same s684
      have f680 := f680.same s684
      have f681 := f681.same s684
      cases h
      exact kq D584 ((l669.2.2).map V.int) _ _ S683.toRet (S683.get 1 rfl) f681.rp f685
    · refine ⟨_, (pss_cons (ps_set (i := 2) nd rfl (Or.inr rfl) (pe_callTy (klistA (K := K) rfl) (by rfl) T.b_list (by decide +kernel) (pa_cons (pv 1) pa_nil)))
      (pss_one (ps_ret (pe_lc (own := [("turn", 3)]) (g := gName 3) (tt := tYes) rfl nd (pi_range1 rfl T.b_range (pa_cons (pe_callB (klenA (K := K)) (by rfl) T.b_len (by decide +kernel) (pa_cons (pv 1) pa_nil)) pa_nil)) (blkOk_by (own := [("turn", 3)]) (N := ["bag", "things", "left", "turn"]) (sc := defScope s__law_shuffled) (by decide +kernel)) (fun _ _ _ _ _ => (pg_name (i := 3) nd rfl (Or.inl rfl))) (fun _ _ _ _ _ => pts_nil) (fun _ _ _ _ _ => (kbm (K := K) PySem.F.plainAttrs_list PySem.F.slot_list_pop PySem.F.type_list_pop mt_popAt (pv 2) (pa_cons (pe_call (ok__law_draw T) (hr.mono (by decide)) rfl T.g__law_draw T.k__law_draw T.n__law_draw .nil pass0 (pa_cons (pv 0) (pa_cons (pe_callB (klen (K := K)) (by rfl) T.b_len (by decide +kernel) (pa_cons (pv 2) pa_nil)) pa_nil))) pa_nil))))))), ?_⟩
      unfold F__law_shuffled_S at h
      have S0 := Sep.start1 h688
      refine rd_seq ?_
      refine rd_asg ?_
      refine rd_cb ?_
      refine rd_cons ?_
      refine rd_var rfl ?_
      refine rd_nil ?_
      refine rd_listAS ?_
      obtain ⟨l690, h691, h⟩ := bnd h
      refine q_listS h691 ?_
      refine q_newO S0 fun a692 H693 S694 n695 => ?_
      have f696 : FrL H0 (hid H0 [a686]) (l690.map V.str) (l690.map eS) := (strs_frl _)
      refine rd_nameS (σ' := [some (.ref a686), some (.str x_things), some (.ref a692), none]) rfl ?_
      refine rd_mk ?_
      refine rd_ret ?_
      refine rd_lc ?_
      refine rd_iR1 ?_
      refine rd_cons ?_
      refine rd_cb ?_
      refine rd_cons ?_
      refine rd_var rfl ?_
      refine rd_nil ?_
      refine rd_lenAS ?_
      obtain ⟨y697, h698, h⟩ := bnd h
      refine q_lenS h698 ?_
      refine rd_nil ?_
      obtain ⟨l699, h700, h⟩ := bnd h
      refine q_rng1 h700 ?_
      intro D701 h702
      have S754 := S694
      have f755 : FrL H0 (hid H0 [a686]) ((l690).map V.str) ((l690).map eS) := strs_frl _
      have S754 : Sep [a686] H0 (hid H0 [a686]) H693 [(a692, .lst ((l690).map V.str)), (a686, .lst w687)] := S754
      have S756 := S754
      rw [frl_ints f689] at S756
      have f757 : FrL H0 (hid H0 [a686]) ((x_bag).map V.int) ((x_bag).map eI) := ints_frl _
      have S756 : Sep [a686] H0 (hid H0 [a686]) H693 [(a692, .lst ((l690).map V.str)), (a686, .lst ((x_bag).map V.int))] := S756
      obtain ⟨l786, h787, h⟩ := bnd h
      refine q_lcLS (c := fun (s752 : ((List Str) × (List Int))) => ([(a692, .lst ((s752.1).map V.str)), (a686, .lst ((s752.2).map V.int))] : List (Addr × HO))) (ys := l786.1) (s1 := l786.2) (enc := eS) (F0 := H0) h787 (w_rng1 h700) S756 h702 S756.old ?_ ?_ ?_
      · rintro svD701 GD701 HD701 accD701 SD701 sD701
        exact trivial
      · rintro i740 x741 a739 s752 o750 s753 G744 H742 H743 acc749 h747 h S745 s746 h748 T F hT hF
        have S745 : Sep [a686] H0 G744 H742 [(D701, .lst acc749), (a692, .lst ((s752.1).map V.str)), (a686, .lst ((s752.2).map V.int))] := S745
        have f758 : FrL H0 G744 ((s752.1).map V.str) ((s752.1).map eS) := strs_frl _
        have f759 : FrL H0 G744 ((s752.2).map V.int) ((s752.2).map eI) := ints_frl _
        have sT751 := Same.refl G744
        obtain ⟨rfl, e760⟩ := h748
        cases e760 _ h747
        refine rd_nameS (σ' := [some (.ref a686), some (.str x_things), some (.ref a692), some (.int a739)]) rfl ?_
        refine ⟨rfl, ?_⟩
        refine rd_tyes ?_
        refine iteY rfl ?_
        refine rd_bm ?_
        refine rd_var rfl ?_
        refine ⟨Or.inl ⟨rfl, _, SqL.of (S745.get 1 rfl)⟩, ?_⟩
        refine rd_cons ?_
        refine rd_call ?_
        refine rd_cons ?_
        refine rd_var rfl ?_
        refine rd_cons ?_
        refine rd_cb ?_
        refine rd_cons ?_
        refine rd_var rfl ?_
        refine rd_nil ?_
        refine q_len (S745.get 1 rfl) f758 ?_
        refine rd_nil ?_
        obtain ⟨y761, h762, h⟩ := bnd h
        refine ⟨a686, ((s752.2).map V.int), s752.2, (lenI s752.1), rfl, (S745.get 2 rfl), (f759.rp.same (S745.hid1 2 rfl)), y761, h762, fun w766 G763 H764 R765 h767 k768 => ?_⟩
        obtain ⟨G769, S770, s771, t772, l773⟩ := S745.ret1 2 rfl R765 h767 lst_tup
        have k768 := l773 _ _ (k768.imm (flat_map flI _))
        have f758 := f758.same s771
        have f759 := f759.same s771
        have sT751 := sT751.trans s771
        have S770 : Sep [a686] H0 G769 H764 [(D701, .lst acc749), (a692, .lst ((s752.1).map V.str)), (a686, .lst w766)] := S770
        refine rd_nil ?_
        obtain ⟨y774, h775, h⟩ := bnd h
        refine q_popAt (x := y774.1) (r := y774.2) S770 1 rfl f758 h775 fun v776 w777 H778 S779 f780 f781 => ?_
        have S779 : Sep [a686] H0 G769 H778 [(D701, .lst acc749), (a692, .lst w777), (a686, .lst w766)] := S779
        cases fr_str f781
        have S782 := S779
        rw [frl_strs f780] at S782
        have f783 : FrL H0 G769 ((y774.2).map V.str) ((y774.2).map eS) := strs_frl _
        have S782 : Sep [a686] H0 G769 H778 [(D701, .lst acc749), (a692, .lst ((y774.2).map V.str)), (a686, .lst w766)] := S782
        have S784 := S782
        rw [frl_ints k768] at S784
        have f785 : FrL H0 G769 ((y761.2).map V.int) ((y761.2).map eI) := ints_frl _
        have S784 : Sep [a686] H0 G769 H778 [(D701, .lst acc749), (a692, .lst ((y774.2).map V.str)), (a686, .lst ((y761.2).map V.int))] := S784
        cases h
        exact hT _ _ _ _ rfl S784 sT751 (.str _)
      rintro G789 H790 w791 S792 s793 f794 n795 n796
      have f797 : FrL H0 G789 ((l786.2.1).map V.str) ((l786.2.1).map eS) := strs_frl _
      have f798 : FrL H0 G789 ((l786.2.2).map V.int) ((l786.2.2).map eI) := ints_frl _
      have S792 : Sep [a686] H0 G789 H790 [(D701, .lst w791), (a692, .lst ((l786.2.1).map V.str)), (a686, .lst ((l786.2.2).map V.int))] := S792
      obtain ⟨G799, S800, s801, f802⟩ := S792.fixF 0 rfl (S792.notms n795) f794 n796
      have f797 := f797.same s801
      have f798 := f798.same s801
      cases h
      exact kq D701 ((l786.2.2).map V.int) _ _ S800.toRet (S800.get 1 rfl) f798.rp f802
end
end K37

namespace K37
open PySem L2 LX LQ
section
variable {P : Program} {w : World} {K : PySem.W.Frag} {mg : Str → Option Value} {base : Heap} {a : Ad}
open LQF
def sp__law_people (K : PySem.W.Frag) : Sp := fun vs H Q _ => ∃ (a803 : Addr) (w804 : List V) (x_bag : (List Int)) (x_size : Int) (x_limit : Int), vs = [.ref a803, (.int x_size), (.int x_limit)] ∧ H a803 = some (.lst w804) ∧ FrL E0h (hid H [a803]) w804 (x_bag.map eI) ∧ ∃ r, F__law_people x_bag x_size x_limit = some r ∧ ∀ (a : Addr) (u0 : List V) (G H' : Hp), Ret [a803] H G H' → H' a803 = some (.lst u0) → FrL E0h G u0 ((r.2).map eI) → Fr H G (.ref a) ((eL (eT2 eI eS)) (r.1)) → Q (.ref a) H'
theorem ok__law_people (T : Txt K mg a) : FnOk P w K mg base CX0 3 a.f__law_people a.d__law_people ["bag", "size", "limit"] (sp__law_people K) := by
  refine T.F__law_people.ok sc__law_people (fun vs H Q E h => ?_) (fun cdv A outer s H0 vs Q E hr h => ?_)
  · obtain ⟨a803, w804, x_bag, x_size, x_limit, rfl, _⟩ := h
    rfl
  · obtain ⟨a803, w804, x_bag, x_size, x_limit, rfl, h805, f806, r, h, kq⟩ := h
    have nd := sc__law_people.nd
    have hu64 := hr.units
    have hu65 := units65 hr
    refine ⟨_, (pss_cons (ps_set (i := 3) nd rfl (Or.inl rfl) (pe_slice (ksl_list (K := K)) (pe_call (ok__law_shuffled T) (hr.mono (by decide)) rfl T.g__law_shuffled T.k__law_shuffled T.n__law_shuffled .nil pass0 (pa_cons (pv 0) (pa_cons pe_str pa_nil))) po_none (po_some (pv 2))))
      (pss_cons (ps_set (i := 4) nd rfl (Or.inl rfl) (pe_call (ok__law_draw T) (hr.mono (by decide)) rfl T.g__law_draw T.k__law_draw T.n__law_draw .nil pass0 (pa_cons (pv 0) (pa_cons pe_int pa_nil))))
      (pss_cons (ps_set (i := 5) nd rfl (Or.inl rfl) (pe_lst pa_nil))
      (pss_cons (ps_for PassesOwn.never rfl (pi_enum rfl T.b_enumerate (pa_cons (pe_call (ok__law_shuffled T) (hr.mono (by decide)) rfl T.g__law_shuffled T.k__law_shuffled T.n__law_shuffled .nil pass0 (pa_cons (pv 0) (pa_cons (pe_listRg rfl rfl T.b_list (prg_1 rfl T.b_range (pv 1))) pa_nil))) pa_nil)) (kpg_tup (K := K) rfl (pgs_cons (pg_name (i := 6) nd rfl (Or.inl rfl)) (pgs_cons (pg_name (i := 7) nd rfl (Or.inl rfl)) pgs_nil))) (pss_cons (ps_set (i := 8) nd rfl (Or.inl rfl) (pe_ifExp (pt_cmpR op_lt (pv 4) pe_int (nomark _)) (pv 2) (pe_op op_add pe_int (pe_callB (kmin2 rfl) (by rfl) T.b_min (by decide +kernel) (pa_cons (pe_op op_sub (pv 2) pe_int) (pa_cons (pe_op op_fdivW (pe_op op_mulW (pv 6) (pv 2)) (pv 1)) pa_nil))))))
      (pss_cons (ps_set (i := 9) nd rfl (Or.inl rfl) (pe_ix (kix_list (K := K)) (pv 3) (pe_call (ok__law_draw T) (hr.mono (by decide)) rfl T.g__law_draw T.k__law_draw T.n__law_draw .nil pass0 (pa_cons (pv 0) (pa_cons (pv 8) pa_nil))) (fun _ _ => rfl)))
      (Evl.pss_cut (ps_if (PW.pt (pw_and (pt_cmpR op_eq (pv 4) pe_int (nomark _)) (pw_and (pt_cmpR op_gt (pv 6) pe_int (nomark _)) (pw_and1 (pt_cmpR op_gt (pe_call (ok__law_draw T) (hr.mono (by decide)) rfl T.g__law_draw T.k__law_draw T.n__law_draw .nil pass0 (pa_cons (pv 0) (pa_cons pe_int pa_nil))) pe_int (nomark _)))))) (pss_one (ps_set (i := 9) nd rfl (Or.inl rfl) (pe_ix (kix_tup (K := K)) (pe_ix (kix_list (K := K)) (pv 5) (pe_un un_neg pe_int) (fun _ _ => rfl)) pe_int (fun _ _ => rfl)))) pss_nil)
      (pss_one (ps_expr (kbm (K := K) PySem.F.plainAttrs_list PySem.F.slot_list_append PySem.F.type_list_append mt_append (pv 5) (pa_cons (pe_tup (pa_cons (pv 7) (pa_cons (pv 9) pa_nil))) pa_nil))))))))
      (pss_one (ps_ret (pv 5))))))), ?_⟩
    unfold F__law_people at h
    have S0 := Sep.start1 h805
    refine rd_seq ?_
    refine rd_asg ?_
    refine rd_sl ?_
    refine rd_call ?_
    refine rd_cons ?_
    refine rd_var rfl ?_
    refine rd_cons ?_
    refine rd_c ?_
    refine rd_nil ?_
    obtain ⟨y807, h808, h⟩ := bnd h
    refine Or.inr ⟨a803, w804, x_bag, (Str.ofString "abcdefghijklmnopqrstuvwxyz"), rfl, (S0.get 0 rfl), (f806.same (S0.hid1 0 rfl)), y807, h808, fun a812 w813 G809 H810 R811 h814 k815 f816 => ?_⟩
    obtain ⟨G817, S818, s819, t820, l821⟩ := S0.ret1 0 rfl R811 h814 lst_tup
    have k815 := l821 _ _ (k815.imm (flat_map flI _))
    have f806 := f806.same s819
    have k815 := k815.rp
    have S818 : Sep [a803] H0 G817 H810 [(a803, .lst w813)] := S818
    have f816 := t820 _ _ f816
    refine rd_nopart ?_
    refine rd_part ?_
    refine rd_var rfl ?_
    refine rd_int ?_
    obtain ⟨w822, h823, k824⟩ := li f816
    refine q_slL S818 (S818.sub _ _ h823) k824 S818.old fun a825 G828 H826 S827 s829 f830 => ?_
    have k815 := k815.same s829
    refine rd_nameS (σ' := [some (.ref a803), some (.int x_size), some (.int x_limit), some (.ref a825), none, none, none, none, none, none]) rfl ?_
    refine rd_mk ?_
    refine rd_seq ?_
    refine rd_asg ?_
    refine rd_call ?_
    refine rd_cons ?_
    refine rd_var rfl ?_
    refine rd_cons ?_
    refine rd_c ?_
    refine rd_nil ?_
    obtain ⟨y831, h832, h⟩ := bnd h
    refine ⟨a803, w813, y807.2, (3 : Int), rfl, (S827.get 0 rfl), (k815.same (S827.hid1 0 rfl)), y831, h832, fun w836 G833 H834 R835 h837 k838 => ?_⟩
    obtain ⟨G839, S840, s841, t842, l843⟩ := S827.ret1 0 rfl R835 h837 lst_tup
    have k838 := l843 _ _ (k838.imm (flat_map flI _))
    have f830 := f830.same s841
    have k815 := k815.same s841
    have k838 := k838.rp
    have S840 : Sep [a803] H0 G839 H834 [(a803, .lst w836)] := S840
    refine rd_nameS (σ' := [some (.ref a803), some (.int x_size), some (.int x_limit), some (.ref a825), some (.int y831.1), none, none, none, none, none]) rfl ?_
    refine rd_mk ?_
    refine rd_seq ?_
    refine rd_asg ?_
    refine rd_lstZ ?_
    refine rd_nil ?_
    refine q_lstO S840 (by show 0 ≤ LIM; decide) fun a844 H845 S846 n847 => ?_
    have f848 : FrL H0 G839 [] (([] : (List (Int × Str))).map (eT2 eI eS)) := .nil
    refine rd_nameS (σ' := [some (.ref a803), some (.int x_size), some (.int x_limit), some (.ref a825), some (.int y831.1), some (.ref a844), none, none, none, none]) rfl ?_
    refine rd_mk ?_
    refine rd_seq ?_
    refine rd_for ?_
    refine rd_iEn ?_
    refine rd_cons ?_
    refine rd_call ?_
    refine rd_cons ?_
    refine rd_var rfl ?_
    refine rd_cons ?_
    refine rd_lstRgZ ?_
    refine rd_rg1 ?_
    refine rd_var rfl ?_
    refine ⟨_, rfl, ?_⟩
    obtain ⟨l849, h850, h⟩ := bnd h
    refine q_lrg h850 ?_
    refine q_new (F0 := H0) (ds := l849.map eI) S846 (ints_frl l849) S846.old fun a851 G852 H853 S854 s855 f856 => ?_
    have f830 := f830.same s855
    have f848 := f848.same s855
    have k838 := k838.same s855
    refine rd_nil ?_
    obtain ⟨y857, h858, h⟩ := bnd h
    refine Or.inl ⟨a803, w836, y831.2, a851, l849, rfl, (S854.get 1 rfl), (k838.same (S854.hid1 1 rfl)), (f856.rp.same (S854.hid1 1 rfl)), y857, h858, fun a862 w863 G859 H860 R861 h864 k865 f866 => ?_⟩
    obtain ⟨G867, S868, s869, t870, l871⟩ := S854.ret1 1 rfl R861 h864 lst_tup
    have k865 := l871 _ _ (k865.imm (flat_map flI _))
    have f830 := f830.same s869
    have f848 := f848.same s869
    have k838 := k838.same s869
    have k865 := k865.rp
    have S868 : Sep [a803] H0 G867 H860 [(a844, .lst []), (a803, .lst w863)] := S868
    have f866 := t870 _ _ f866
    refine rd_nil ?_
    obtain ⟨w872, h873, k874⟩ := li f866
    refine ⟨_, _, rfl, SqL.of (S868.sub _ _ h873), ?_⟩
    obtain ⟨r899, h900, h⟩ := bnd h
    refine q_forF h900 (w_en k874) (fun s876 σ' H' => ∃ (x888 : Option V) (x889 : Option V) (x890 : Option V) (x891 : Option V) (w892 : List V) (w894 : List V) (G884 : Hp), σ' = [some (.ref a803), some (.int x_size), some (.int x_limit), some (.ref a825), some (.int y831.1), some (.ref a844), x888, x889, x890, x891] ∧ Sep [a803] H0 G884 H' [(a844, .lst w892), (a803, .lst w894)] ∧ Same G867 G884 ∧ FrL H0 G884 w892 ((s876.1).map (eT2 eI eS)) ∧ FrL E0h G884 w894 ((s876.2).map eI)) ?_ ?_ ?_ ?_
    · exact ⟨_, _, _, _, [], w863, G867, rfl, S868, Same.refl _, f848, k865⟩
    · rintro s876 _ H885 ⟨x888, x889, x890, x891, w892, w894, G884, rfl, S886, sE887, f893, f895⟩
      exact (S886.sub _ _ (sE887 _ _ h873))
    · rintro i877 a875 s876 s878 x879 _ H885 H880 h881 h ⟨x888, x889, x890, x891, w892, w894, G884, rfl, S886, sE887, f893, f895⟩ h882
      have f830 := f830.same sE887
      obtain ⟨T901, v902, v903, rfl, h904, e906, e905⟩ := h882
      obtain ⟨k907, k908⟩ := e905 _ h881
      replace k907 := k907.same sE887
      replace k908 := k908.same sE887
      obtain ⟨G909, S910, s911, f912⟩ := S886.pair h904 e906 k907 k908
      have f830 := f830.same s911
      have f893 := f893.same s911
      have f895 := f895.same s911
      have sE887 := sE887.trans s911
      replace f912 : Fr H0 G909 (.ref T901) (eT2 eI eI a875) := f912
      obtain ⟨v913, v914, h917, f915, f916⟩ := tu2 f912
      cases fr_int f915
      cases fr_int f916
      refine rd_gtup (S910.sub _ _ h917) rfl ?_
      refine rd_gcons ?_
      refine rd_nameS (σ' := [some (.ref a803), some (.int x_size), some (.int x_limit), some (.ref a825), some (.int y831.1), some (.ref a844), some (.int a875.1), x889, x890, x891]) rfl ?_
      refine rd_gcons ?_
      refine rd_nameS (σ' := [some (.ref a803), some (.int x_size), some (.int x_limit), some (.ref a825), some (.int y831.1), some (.ref a844), some (.int a875.1), some (.int a875.2), x890, x891]) rfl ?_
      refine rd_gnil ?_
      refine rd_seq ?_
      refine rd_asg ?_
      obtain ⟨y927, h928, h⟩ := bnd h
      refine rd_teM2 (fun k H' => ∃  (G929 : Hp), k = (.int y927) ∧ Sep [a803] H0 G929 H' [(a844, .lst w892), (a803, .lst w894)] ∧ Same G909 G929) (fun R q => ?_) ?_
      ·
        have sE918 := Same.refl G909
        have h := h928
        refine rd_ifE ?_
        refine rd_test ?_
        refine rd_op ?_
        refine rd_var rfl ?_
        refine rd_c ?_
        refine rd_I0 ?_
        refine rd_bl ?_
        rcases cnd h with ⟨c933, h⟩ | ⟨c933, h⟩
        ·
          refine iteY c933 ?_
          refine rd_var rfl ?_
          cases h
          exact q _ _ ⟨G909, rfl, S910, sE918⟩
        ·
          refine iteN c933 ?_
          refine rd_op ?_
          refine rd_c ?_
          refine rd_cb ?_
          refine rd_cons ?_
          refine rd_op ?_
          refine rd_var rfl ?_
          refine rd_c ?_
          refine rd_I0 ?_
          refine rd_cons ?_
          refine rd_op ?_
          refine rd_op ?_
          refine rd_var rfl ?_
          refine rd_var rfl ?_
          obtain ⟨y923, h924, h⟩ := bnd h
          refine q_mulW h924 ?_
          refine rd_var rfl ?_
          obtain ⟨y925, h926, h⟩ := bnd h
          refine q_div h926 ?_
          refine rd_nil ?_
          refine q_min2 ?_
          refine rd_I0 ?_
          cases h
          exact q _ _ ⟨G909, rfl, S910, sE918⟩
      rintro _ H930 ⟨G929, rfl, S931, s932⟩
      have f830 := f830.same s932
      have f893 := f893.same s932
      have f895 := f895.same s932
      have sE887 := sE887.trans s932
      refine rd_nameS (σ' := [some (.ref a803), some (.int x_size), some (.int x_limit), some (.ref a825), some (.int y831.1), some (.ref a844), some (.int a875.1), some (.int a875.2), some (.int y927), x891]) rfl ?_
      refine rd_mk ?_
      refine rd_seq ?_
      refine rd_asg ?_
      refine rd_op ?_
      refine rd_var rfl ?_
      refine rd_call ?_
      refine rd_cons ?_
      refine rd_var rfl ?_
      refine rd_cons ?_
      refine rd_var rfl ?_
      refine rd_nil ?_
      obtain ⟨y934, h935, h⟩ := bnd h
      refine ⟨a803, w894, s876.2, y927, rfl, (S931.get 1 rfl), (f895.same (S931.hid1 1 rfl)), y934, h935, fun w939 G936 H937 R938 h940 k941 => ?_⟩
      obtain ⟨G942, S943, s944, t945, l946⟩ := S931.ret1 1 rfl R938 h940 lst_tup
      have k941 := l946 _ _ (k941.imm (flat_map flI _))
      have f830 := f830.same s944
      have f893 := f893.same s944
      have f895 := f895.same s944
      have sE887 := sE887.trans s944
      have k941 := k941.rp
      have S943 : Sep [a803] H0 G942 H937 [(a844, .lst w892), (a803, .lst w939)] := S943
      obtain ⟨y947, h948, h⟩ := bnd h
      obtain ⟨w949, h950, k951⟩ := li f830
      refine q_ixL (S943.sub _ _ h950) k951 h948 fun v952 f953 => ?_
      cases fr_str f953
      refine rd_nameS (σ' := [some (.ref a803), some (.int x_size), some (.int x_limit), some (.ref a825), some (.int y831.1), some (.ref a844), some (.int a875.1), some (.int a875.2), some (.int y927), some (.str y947)]) rfl ?_
      refine rd_mk ?_
      obtain ⟨r991, ho992, h⟩ := bnd h
      refine rd_cut (fun σ' H' => ∃ (w1033 : List V) (G1029 : Hp), σ' = [some (.ref a803), some (.int x_size), some (.int x_limit), some (.ref a825), some (.int y831.1), some (.ref a844), some (.int a875.1), some (.int a875.2), some (.int y927), some (.str r991.1)] ∧ Sep [a803] H0 G1029 H' [(a844, .lst w892), (a803, .lst w1033)] ∧ Same G942 G1029 ∧ FrL E0h G1029 w1033 ((r991.2).map eI)) ?_ ?_
      ·
        have h := ho992
        have sE954 := Same.refl G942
        refine rd_ifS ?_
        obtain ⟨b1008, h1009, h⟩ := bnd h
        refine rd_ttM (fun k H' => ∃ (w1014 : List V) (G1010 : Hp), k = b1008.1 ∧ Sep [a803] H0 G1010 H' [(a844, .lst w892), (a803, .lst w1014)] ∧ Same G942 G1010 ∧ FrL E0h G1010 w1014 ((b1008.2).map eI)) (fun R q => ?_) ?_
        ·
          have sE993 := Same.refl G942
          have h := h1009
          refine rd_and ?_
          refine rd_test ?_
          refine rd_op ?_
          refine rd_var rfl ?_
          refine rd_c ?_
          refine q_eqI ?_
          refine rd_bl ?_
          rcases cnd h with ⟨c1016, h⟩ | ⟨c1016, h⟩
          ·
            refine iteY c1016 ?_
            refine rd_and ?_
            refine rd_test ?_
            refine rd_op ?_
            refine rd_var rfl ?_
            refine rd_c ?_
            refine rd_I0 ?_
            refine rd_bl ?_
            rcases cnd h with ⟨c1017, h⟩ | ⟨c1017, h⟩
            ·
              refine iteY c1017 ?_
              refine rd_test ?_
              refine rd_op ?_
              refine rd_call ?_
              refine rd_cons ?_
              refine rd_var rfl ?_
              refine rd_cons ?_
              refine rd_c ?_
              refine rd_nil ?_
              obtain ⟨y994, h995, h⟩ := bnd h
              refine ⟨a803, w939, y934.2, (3 : Int), rfl, (S943.get 1 rfl), (k941.same (S943.hid1 1 rfl)), y994, h995, fun w999 G996 H997 R998 h1000 k1001 => ?_⟩
              obtain ⟨G1002, S1003, s1004, t1005, l1006⟩ := S943.ret1 1 rfl R998 h1000 lst_tup
              have k1001 := l1006 _ _ (k1001.imm (flat_map flI _))
              have f830 := f830.same s1004
              have f893 := f893.same s1004
              have k941 := k941.same s1004
              have sE993 := sE993.trans s1004
              have k1001 := k1001.rp
              have S1003 : Sep [a803] H0 G1002 H997 [(a844, .lst w892), (a803, .lst w999)] := S1003
              refine rd_c ?_
              refine rd_I0 ?_
              refine rd_bl ?_
              cases h
              exact q _ _ ⟨w999, G1002, rfl, S1003, sE993, k1001⟩
            ·
              refine iteN c1017 ?_
              cases h
              exact q _ _ ⟨w939, G942, rfl, S943, sE993, k941⟩
          ·
            refine iteN c1016 ?_
            cases h
            exact q _ _ ⟨w939, G942, rfl, S943, sE993, k941⟩
        rintro _ H1011 ⟨w1014, G1010, rfl, S1012, s1013, f1015⟩
        have f830 := f830.same s1013
        have f893 := f893.same s1013
        have sE954 := sE954.trans s1013
        rcases cnd h with ⟨c1028, h⟩ | ⟨c1028, h⟩
        ·
          refine iteY c1028 ?_
          refine rd_asg ?_
          refine rd_op ?_
          refine rd_op ?_
          refine rd_var rfl ?_
          refine rd_un ?_
          refine rd_c ?_
          refine rd_U ?_
          obtain ⟨y1018, h1019, h⟩ := bnd h
          refine q_ixL (S1012.get 0 rfl) f893 h1019 fun v1020 f1021 => ?_
          obtain ⟨a1022, rfl⟩ := fr_tup f1021
          refine rd_c ?_
          obtain ⟨v1023, v1024, h1027, f1025, f1026⟩ := tu2 f1021
          cases fr_int f1025
          cases fr_str f1026
          refine rd_ixT (S1012.sub _ _ h1027) rfl ?_
          refine rd_nameS (σ' := [some (.ref a803), some (.int x_size), some (.int x_limit), some (.ref a825), some (.int y831.1), some (.ref a844), some (.int a875.1), some (.int a875.2), some (.int y927), some (.str y1018.2)]) rfl ?_
          cases h
          exact ⟨w1014, G1010, rfl, S1012, sE954, f1015⟩
        ·
          refine iteN c1028 ?_
          refine rd_next ?_
          cases h
          exact ⟨w1014, G1010, rfl, S1012, sE954, f1015⟩
      rintro _ H1030 ⟨w1033, G1029, rfl, S1031, sE1032, f1034⟩
      have f830 := f830.same sE1032
      have f893 := f893.same sE1032
      have sE887 := sE887.trans sE1032
      refine rd_drop ?_
      refine rd_bm ?_
      refine rd_var rfl ?_
      refine ⟨Or.inl ⟨rfl, _, SqL.of (S1031.get 0 rfl)⟩, ?_⟩
      refine rd_cons ?_
      refine rd_tupZ ?_
      refine rd_cons ?_
      refine rd_var rfl ?_
      refine rd_cons ?_
      refine rd_var rfl ?_
      refine rd_nil ?_
      refine q_tup (F0 := H0) (ds := [eI a875.2, eS r991.1]) S1031 (by show 2 ≤ LIM; decide) (.cons (.int _) (.cons (.str _) .nil)) fun a1035 G1036 H1037 S1038 s1039 f1040 => ?_
      have f830 := f830.same s1039
      have f893 := f893.same s1039
      have f1034 := f1034.same s1039
      have sE887 := sE887.trans s1039
      replace f1040 : Fr H0 G1036 (.ref a1035) ((eT2 eI eS) (a875.2, r991.1)) := f1040
      refine rd_nil ?_
      obtain ⟨l1041, h1042, h⟩ := bnd h
      refine q_app S1038 0 rfl f893 f1040 h1042 fun w1043 H1044 S1045 f1046 => ?_
      have S1045 : Sep [a803] H0 G1036 H1044 [(a844, .lst w1043), (a803, .lst w1033)] := S1045
      cases h
      exact ⟨_, _, _, _, w1043, w1033, G1036, rfl, S1045, sE887, f1046, f1034⟩
    rintro _ H1048 ⟨x1051, x1052, x1053, x1054, w1055, w1057, G1047, rfl, S1049, sE1050, f1056, f1058⟩
    have f830 := f830.same sE1050
    refine rd_mk ?_
    refine rd_ret ?_
    refine rd_var rfl ?_
    obtain ⟨G1059, S1060, s1061, f1062⟩ := S1049.fixL 0 rfl (S1049.notms n847) f1056 n847
    have f1058 := f1058.same s1061
    cases h
    exact kq a844 w1057 _ _ S1060.toRet (S1060.get 0 rfl) f1058 f1062
end
end K37

namespace K37
open PySem L2 LX LQ
section
variable {P : Program} {w : World} {K : PySem.W.Frag} {mg : Str → Option Value} {base : Heap} {a : Ad}
open LQF
def sp__law_some_people (K : PySem.W.Frag) : Sp := fun vs H Q _ => ∃ (a1063 : Addr) (x_script : (List Int)) (a1064 : Addr) (w1065 : List V) (x_bag : (List Int)) (x_most : Int) (x_limit : Int), vs = [.ref a1063, .ref a1064, (.int x_most), (.int x_limit)] ∧ Scr K (hid H [a1064]) a1063 x_script ∧ H a1064 = some (.lst w1065) ∧ FrL E0h (hid H [a1064]) w1065 (x_bag.map eI) ∧ ∃ r, F__law_some_people x_script x_bag x_most x_limit = some r ∧ ∀ (a : Addr) (u0 : List V) (G H' : Hp), Ret [a1064] H G H' → H' a1064 = some (.lst u0) → FrL E0h G u0 ((r.2).map eI) → Fr H G (.ref a) ((eL (eT2 eI eS)) (r.1)) → Q (.ref a) H'
theorem ok__law_some_people (T : Txt K mg a) : FnOk P w K mg base CX0 4 a.f__law_some_people a.d__law_some_people ["script", "bag", "most", "limit"] (sp__law_some_people K) := by
  refine T.F__law_some_people.ok sc__law_some_people (fun vs H Q E h => ?_) (fun cdv A outer s H0 vs Q E hr h => ?_)
  · obtain ⟨a1063, x_script, a1064, w1065, x_bag, x_most, x_limit, rfl, _⟩ := h
    rfl
  · obtain ⟨a1063, x_script, a1064, w1065, x_bag, x_most, x_limit, rfl, f1066, h1067, f1068, r, h, kq⟩ := h
    have nd := sc__law_some_people.nd
    have hu64 := hr.units
    have hu65 := units65 hr
    refine ⟨_, (pss_cons (ps_if (pt_cmpR (keqD (K := K) hu64) (pv 0) (pe_lst pa_nil) (nomark _)) (pss_one (ps_ret (pe_st (K := K) (fun a b => [a, .ref b]) (pe_lst (pa_cons (pe_tup (pa_cons pe_int (pa_cons pe_str pa_nil))) (pa_cons (pe_tup (pa_cons pe_int (pa_cons pe_str pa_nil))) (pa_cons (pe_tup (pa_cons pe_int (pa_cons (pe_ix ix_str pe_str (pe_call (ok__law_draw T) (hr.mono (by decide)) rfl T.g__law_draw T.k__law_draw T.n__law_draw .nil pass0 (pa_cons (pv 1) (pa_cons pe_int pa_nil))) (fun _ _ => rfl)) pa_nil))) pa_nil)))) (pe_ix (kix_list (K := K)) (pe_lst (pa_cons pe_int (pa_cons (pe_un un_neg pe_int) pa_nil))) (pe_call (ok__law_draw T) (hr.mono (by decide)) rfl T.g__law_draw T.k__law_draw T.n__law_draw .nil pass0 (pa_cons (pv 1) (pa_cons pe_int pa_nil))) (fun _ _ => rfl))))) pss_nil)
      (pss_cons (ps_set (i := 4) nd rfl (Or.inl rfl) (pe_op op_add pe_int (pe_call (ok__law_draw T) (hr.mono (by decide)) rfl T.g__law_draw T.k__law_draw T.n__law_draw .nil pass0 (pa_cons (pv 1) (pa_cons (pe_ix (kix_list (K := K)) (pe_lst (pa_cons pe_int (pa_cons (pe_callB (kmin2 rfl) (by rfl) T.b_min (by decide +kernel) (pa_cons pe_int (pa_cons (pv 2) pa_nil))) (pa_cons (pv 2) pa_nil)))) (pe_call (ok__law_draw T) (hr.mono (by decide)) rfl T.g__law_draw T.k__law_draw T.n__law_draw .nil pass0 (pa_cons (pv 1) (pa_cons pe_int pa_nil))) (fun _ _ => rfl)) pa_nil)))))
      (pss_one (ps_ret (pe_call (ok__law_people T) (hr.mono (by decide)) rfl T.g__law_people T.k__law_people T.n__law_people .nil pass0 (pa_cons (pv 1) (pa_cons (pv 4) (pa_cons (pe_op op_add pe_int (pe_call (ok__law_draw T) (hr.mono (by decide)) rfl T.g__law_draw T.k__law_draw T.n__law_draw .nil pass0 (pa_cons (pv 1) (pa_cons (pv 3) pa_nil)))) pa_nil)))))))), ?_⟩
    unfold F__law_some_people at h
    have S0 := Sep.start1 h1067
    refine rd_seq ?_
    refine rd_ifS ?_
    refine rd_test ?_
    refine rd_op ?_
    refine rd_var rfl ?_
    refine rd_lstZ ?_
    refine rd_nil ?_
    refine q_lst (F0 := H0) (ds := []) S0 (by show 0 ≤ LIM; decide) .nil S0.old fun a1069 G1070 H1071 S1072 s1073 f1074 => ?_
    have f1066 := f1066.same s1073
    have f1068 := f1068.same s1073
    replace f1074 : Fr H0 G1070 (.ref a1069) ((eL eA) ([] : (List PyData))) := f1074
    obtain ⟨b1075, h1076, h⟩ := bnd h
    refine q_eqScr S1072 f1066 (f1074.rp.same S1072.sub) h1076 ?_
    refine rd_bl ?_
    rcases cnd h with ⟨c1220, h⟩ | ⟨c1220, h⟩
    ·
      refine iteY c1220 ?_
      refine rd_ret ?_
      refine rd_st ?_
      refine rd_lstZ ?_
      refine rd_cons ?_
      refine rd_tupZ ?_
      refine rd_cons ?_
      refine rd_c ?_
      refine rd_cons ?_
      refine rd_c ?_
      refine rd_nil ?_
      refine q_tup (F0 := H0) (ds := [eI (0 : Int), eS (Str.ofString "a")]) S1072 (by show 2 ≤ LIM; decide) (.cons (.int _) (.cons (.str _) .nil)) fun a1077 G1078 H1079 S1080 s1081 f1082 => ?_
      have f1068 := f1068.same s1081
      replace f1082 : Fr H0 G1078 (.ref a1077) ((eT2 eI eS) ((0 : Int), (Str.ofString "a"))) := f1082
      refine rd_cons ?_
      refine rd_tupZ ?_
      refine rd_cons ?_
      refine rd_c ?_
      refine rd_cons ?_
      refine rd_c ?_
      refine rd_nil ?_
      refine q_tup (F0 := H0) (ds := [eI (1 : Int), eS (Str.ofString "b")]) S1080 (by show 2 ≤ LIM; decide) (.cons (.int _) (.cons (.str _) .nil)) fun a1083 G1084 H1085 S1086 s1087 f1088 => ?_
      have f1082 := f1082.same s1087
      have f1068 := f1068.same s1087
      replace f1088 : Fr H0 G1084 (.ref a1083) ((eT2 eI eS) ((1 : Int), (Str.ofString "b"))) := f1088
      refine rd_cons ?_
      refine rd_tupZ ?_
      refine rd_cons ?_
      refine rd_c ?_
      refine rd_cons ?_
      refine rd_op ?_
      refine rd_c ?_
      refine rd_call ?_
      refine rd_cons ?_
      refine rd_var rfl ?_
      refine rd_cons ?_
      refine rd_c ?_
      refine rd_nil ?_
      obtain ⟨y1089, h1090, h⟩ := bnd h
      refine ⟨a1064, w1065, x_bag, (2 : Int), rfl, (S1086.get 0 rfl), (f1068.same (S1086.hid1 0 rfl)), y1089, h1090, fun w1094 G1091 H1092 R1093 h1095 k1096 => ?_⟩
      obtain ⟨G1097, S1098, s1099, t1100, l1101⟩ := S1086.ret1 0 rfl R1093 h1095 lst_tup
      have k1096 := l1101 _ _ (k1096.imm (flat_map flI _))
      have f1082 := f1082.same s1099
      have f1088 := f1088.same s1099
      have f1068 := f1068.same s1099
      have k1096 := k1096.rp
      have S1098 : Sep [a1064] H0 G1097 H1092 [(a1064, .lst w1094)] := S1098
      obtain ⟨y1102, h1103, h⟩ := bnd h
      refine q_ixS h1103 ?_
      refine rd_nil ?_
      refine q_tup (F0 := H0) (ds := [eI (2 : Int), eS y1102]) S1098 (by show 2 ≤ LIM; decide) (.cons (.int _) (.cons (.str _) .nil)) fun a1104 G1105 H1106 S1107 s1108 f1109 => ?_
      have f1082 := f1082.same s1108
      have f1088 := f1088.same s1108
      have k1096 := k1096.same s1108
      replace f1109 : Fr H0 G1105 (.ref a1104) ((eT2 eI eS) ((2 : Int), y1102)) := f1109
      refine rd_nil ?_
      refine q_lst (F0 := H0) (ds := [(eT2 eI eS) ((0 : Int), (Str.ofString "a")), (eT2 eI eS) ((1 : Int), (Str.ofString "b")), (eT2 eI eS) ((2 : Int), y1102)]) S1107 (by show 3 ≤ LIM; decide) (.cons f1082 (.cons f1088 (.cons f1109 .nil))) S1107.old fun a1110 G1111 H1112 S1113 s1114 f1115 => ?_
      have k1096 := k1096.same s1114
      replace f1115 : Fr H0 G1111 (.ref a1110) ((eL (eT2 eI eS)) [((0 : Int), (Str.ofString "a")), ((1 : Int), (Str.ofString "b")), ((2 : Int), y1102)]) := f1115
      refine rd_op ?_
      refine rd_lstZ ?_
      refine rd_cons ?_
      refine rd_c ?_
      refine rd_cons ?_
      refine rd_un ?_
      refine rd_c ?_
      refine rd_U ?_
      refine rd_nil ?_
      refine q_lst (F0 := H0) (ds := [eI (1 : Int), eI (-(1 : Int))]) S1113 (by show 2 ≤ LIM; decide) (.cons (.int _) (.cons (.int _) .nil)) S1113.old fun a1116 G1117 H1118 S1119 s1120 f1121 => ?_
      have f1115 := f1115.same s1120
      have k1096 := k1096.same s1120
      replace f1121 : Fr H0 G1117 (.ref a1116) ((eL eI) [(1 : Int), (-(1 : Int))]) := f1121
      refine rd_call ?_
      refine rd_cons ?_
      refine rd_var rfl ?_
      refine rd_cons ?_
      refine rd_c ?_
      refine rd_nil ?_
      obtain ⟨y1122, h1123, h⟩ := bnd h
      refine ⟨a1064, w1094, y1089.2, (2 : Int), rfl, (S1119.get 0 rfl), (k1096.same (S1119.hid1 0 rfl)), y1122, h1123, fun w1127 G1124 H1125 R1126 h1128 k1129 => ?_⟩
      obtain ⟨G1130, S1131, s1132, t1133, l1134⟩ := S1119.ret1 0 rfl R1126 h1128 lst_tup
      have k1129 := l1134 _ _ (k1129.imm (flat_map flI _))
      have f1115 := f1115.same s1132
      have f1121 := f1121.same s1132
      have k1096 := k1096.same s1132
      have k1129 := k1129.rp
      have S1131 : Sep [a1064] H0 G1130 H1125 [(a1064, .lst w1127)] := S1131
      obtain ⟨y1135, h1136, h⟩ := bnd h
      obtain ⟨w1137, h1138, k1139⟩ := li f1121
      refine q_ixL (S1131.sub _ _ h1138) k1139 h1136 fun v1140 f1141 => ?_
      cases fr_int f1141
      obtain ⟨l1142, h1143, h⟩ := bnd h
      obtain ⟨w1144, h1145, k1146⟩ := li f1115
      refine q_st S1131 (S1131.sub _ _ h1145) k1146 h1143 S1131.old fun a1147 G1148 H1149 S1150 s1151 f1152 => ?_
      have k1129 := k1129.same s1151
      cases h
      exact kq a1147 w1127 _ _ S1150.toRet (S1150.get 0 rfl) k1129 f1152
    ·
      refine iteN c1220 ?_
      refine rd_next ?_
      refine rd_mk ?_
      refine rd_seq ?_
      refine rd_asg ?_
      refine rd_op ?_
      refine rd_c ?_
      refine rd_call ?_
      refine rd_cons ?_
      refine rd_var rfl ?_
      refine rd_cons ?_
      refine rd_op ?_
      refine rd_lstZ ?_
      refine rd_cons ?_
      refine rd_c ?_
      refine rd_cons ?_
      refine rd_cb ?_
      refine rd_cons ?_
      refine rd_c ?_
      refine rd_cons ?_
      refine rd_var rfl ?_
      refine rd_nil ?_
      refine q_min2 ?_
      refine rd_cons ?_
      refine rd_var rfl ?_
      refine rd_nil ?_
      refine q_lst (F0 := H0) (ds := [eI (4 : Int), eI (minI (12 : Int) x_most), eI x_most]) S1072 (by show 3 ≤ LIM; decide) (.cons (.int _) (.cons (.int _) (.cons (.int _) .nil))) S1072.old fun a1153 G1154 H1155 S1156 s1157 f1158 => ?_
      have f1068 := f1068.same s1157
      replace f1158 : Fr H0 G1154 (.ref a1153) ((eL eI) [(4 : Int), (minI (12 : Int) x_most), x_most]) := f1158
      refine rd_call ?_
      refine rd_cons ?_
      refine rd_var rfl ?_
      refine rd_cons ?_
      refine rd_c ?_
      refine rd_nil ?_
      obtain ⟨y1159, h1160, h⟩ := bnd h
      refine ⟨a1064, w1065, x_bag, (3 : Int), rfl, (S1156.get 0 rfl), (f1068.same (S1156.hid1 0 rfl)), y1159, h1160, fun w1164 G1161 H1162 R1163 h1165 k1166 => ?_⟩
      obtain ⟨G1167, S1168, s1169, t1170, l1171⟩ := S1156.ret1 0 rfl R1163 h1165 lst_tup
      have k1166 := l1171 _ _ (k1166.imm (flat_map flI _))
      have f1158 := f1158.same s1169
      have f1068 := f1068.same s1169
      have k1166 := k1166.rp
      have S1168 : Sep [a1064] H0 G1167 H1162 [(a1064, .lst w1164)] := S1168
      obtain ⟨y1172, h1173, h⟩ := bnd h
      obtain ⟨w1174, h1175, k1176⟩ := li f1158
      refine q_ixL (S1168.sub _ _ h1175) k1176 h1173 fun v1177 f1178 => ?_
      cases fr_int f1178
      refine rd_nil ?_
      obtain ⟨y1179, h1180, h⟩ := bnd h
      refine ⟨a1064, w1164, y1159.2, y1172, rfl, (S1168.get 0 rfl), (k1166.same (S1168.hid1 0 rfl)), y1179, h1180, fun w1184 G1181 H1182 R1183 h1185 k1186 => ?_⟩
      obtain ⟨G1187, S1188, s1189, t1190, l1191⟩ := S1168.ret1 0 rfl R1183 h1185 lst_tup
      have k1186 := l1191 _ _ (k1186.imm (flat_map flI _))
      have k1166 := k1166.same s1189
      have k1186 := k1186.rp
      have S1188 : Sep [a1064] H0 G1187 H1182 [(a1064, .lst w1184)] := S1188
      refine rd_I0 ?_
      refine rd_nameS (σ' := [some (.ref a1063), some (.ref a1064), some (.int x_most), some (.int x_limit), some (.int ((1 : Int) + y1179.1))]) rfl ?_
      refine rd_mk ?_
      refine rd_ret ?_
      refine rd_call ?_
      refine rd_cons ?_
      refine rd_var rfl ?_
      refine rd_cons ?_
      refine rd_var rfl ?_
      refine rd_cons ?_
      refine rd_op ?_
      refine rd_c ?_
      refine rd_call ?_
      refine rd_cons ?_
      refine rd_var rfl ?_
      refine rd_cons ?_
      refine rd_var rfl ?_
      refine rd_nil ?_
      obtain ⟨y1192, h1193, h⟩ := bnd h
      refine ⟨a1064, w1184, y1179.2, x_limit, rfl, (S1188.get 0 rfl), (k1186.same (S1188.hid1 0 rfl)), y1192, h1193, fun w1197 G1194 H1195 R1196 h1198 k1199 => ?_⟩
      obtain ⟨G1200, S1201, s1202, t1203, l1204⟩ := S1188.ret1 0 rfl R1196 h1198 lst_tup
      have k1199 := l1204 _ _ (k1199.imm (flat_map flI _))
      have k1186 := k1186.same s1202
      have k1199 := k1199.rp
      have S1201 : Sep [a1064] H0 G1200 H1195 [(a1064, .lst w1197)] := S1201
      refine rd_I0 ?_
      refine rd_nil ?_
      obtain ⟨y1205, h1206, h⟩ := bnd h
      refine ⟨a1064, w1197, y1192.2, ((1 : Int) + y1179.1), ((1 : Int) + y1192.1), rfl, (S1201.get 0 rfl), (k1199.same (S1201.hid1 0 rfl)), y1205, h1206, fun a1210 w1211 G1207 H1208 R1209 h1212 k1213 f1214 => ?_⟩
      obtain ⟨G1215, S1216, s1217, t1218, l1219⟩ := S1201.ret1 0 rfl R1209 h1212 lst_tup
      have k1213 := l1219 _ _ (k1213.imm (flat_map flI _))
      have k1199 := k1199.same s1217
      have k1213 := k1213.rp
      have S1216 : Sep [a1064] H0 G1215 H1208 [(a1064, .lst w1211)] := S1216
      have f1214 := t1218 _ _ f1214
      cases h
      exact kq a1210 w1211 _ _ S1216.toRet (S1216.get 0 rfl) k1213 f1214
end
end K37

namespace K37
open PySem L2 LX LQ
section
variable {P : Program} {w : World} {K : PySem.W.Frag} {mg : Str → Option Value} {base : Heap} {a : Ad}
open LQF
def sp_is_integer (K : PySem.W.Frag) : Sp := fun vs H Q _ => ∃ (x_value : Int), vs = [(.int x_value)] ∧ ∃ r, F_is_integer x_value = some r ∧ ∀ (G H' : Hp), Ret [] H G H' → Q (.bl (r)) H'
theorem ok_is_integer (T : Txt K mg a) : FnOk P w K mg base CX0 1 a.f_is_integer a.d_is_integer ["value"] (sp_is_integer K) := by
  refine T.F_is_integer.ok sc_is_integer (fun vs H Q E h => ?_) (fun cdv A outer s H0 vs Q E hr h => ?_)
  · obtain ⟨x_value, rfl, _⟩ := h
    rfl
  · obtain ⟨x_value, rfl, r, h, kq⟩ := h
    have nd := sc_is_integer.nd
    have hu64 := hr.units
    have hu65 := units65 hr
    refine ⟨_, (pss_one (ps_ret (pe_and (pe_callB (kisi (K := K)) (by rfl) T.b_isinstance (by decide +kernel) (pa_cons (pv 0) (pa_cons (pe_bltn (v := .ty "int") (by rfl) T.b_int (by decide +kernel) rfl) pa_nil))) (pe_one (pe_not (pe_callB (kisi (K := K)) (by rfl) T.b_isinstance (by decide +kernel) (pa_cons (pv 0) (pa_cons (pe_bltn (v := .ty "bool") (by rfl) T.b_bool (by decide +kernel) rfl) pa_nil)))))))), ?_⟩
    unfold F_is_integer at h
    have S0 := Sep.start H0
    refine rd_ret ?_
    refine rd_teM2 (fun k H' => k = .bl (true && (!false)) ∧ H0 = H') (fun R q => ?_) ?_
    ·
      refine rd_andV ?_
      refine rd_cb ?_
      refine rd_cons ?_
      refine rd_var rfl ?_
      refine rd_cons ?_
      refine rd_c ?_
      refine rd_nil ?_
      refine rd_isi (.ty "int") (.base (.int _)) (kit_ty (r := true) (by decide +kernel)) ?_
      refine ⟨_, rfl, ?_⟩
      refine ite_by (fun c1223 => ?_) (fun c1223 => ?_)
      ·
        refine rd_notV ?_
        refine rd_cb ?_
        refine rd_cons ?_
        refine rd_var rfl ?_
        refine rd_cons ?_
        refine rd_c ?_
        refine rd_nil ?_
        refine rd_isi (.ty "bool") (.base (.int _)) (kit_ty (r := false) (by decide +kernel)) ?_
        refine rd_bl ?_
        exact q _ _ ⟨(congrArg V.bl (andT c1223 rfl)), rfl⟩
      ·
        exact q _ _ ⟨(congrArg V.bl (andF c1223)), rfl⟩
    rintro _ _ ⟨rfl, rfl⟩
    cases h
    exact kq _ _ S0.toRet
end
end K37

namespace K37
open PySem L2 LX LQ
section
variable {P : Program} {w : World} {K : PySem.W.Frag} {mg : Str → Option Value} {base : Heap} {a : Ad}
open LQF
def sp_is_color (K : PySem.W.Frag) : Sp := fun vs H Q _ => ∃ (x_value : Str), vs = [(.str x_value)] ∧ ∃ r, F_is_color x_value = some r ∧ ∀ (G H' : Hp), Ret [] H G H' → Q (.bl (r)) H'
theorem ok_is_color (T : Txt K mg a) : FnOk P w K mg base CX0 1 a.f_is_color a.d_is_color ["value"] (sp_is_color K) := by
  refine T.F_is_color.ok sc_is_color (fun vs H Q E h => ?_) (fun cdv A outer s H0 vs Q E hr h => ?_)
  · obtain ⟨x_value, rfl, _⟩ := h
    rfl
  · obtain ⟨x_value, rfl, r, h, kq⟩ := h
    have nd := sc_is_color.nd
    have hu64 := hr.units
    have hu65 := units65 hr
    refine ⟨_, (pss_one (ps_ret (pe_and (pe_cmpR op_isTyB (pe_typeOf rfl T.b_type (pv 0)) (pe_bltn (v := .ty "str") (by rfl) T.b_str (by decide +kernel) rfl) (nomark _)) (pe_and (pe_cmpR op_eq (pe_callB klenS (by rfl) T.b_len (by decide +kernel) (pa_cons (pv 0) pa_nil)) pe_int (nomark _)) (pe_one (pe_chain op_le_str op_le_str pe_str (pv 0) pe_str)))))), ?_⟩
    unfold F_is_color at h
    have S0 := Sep.start H0
    refine rd_ret ?_
    obtain ⟨b1231, h1232, h⟩ := bnd h
    refine rd_teM2 (fun k H' => ∃  (G1233 : Hp), k = .bl b1231 ∧ Sep [] H0 G1233 H' [] ∧ Same H0 G1233) (fun R q => ?_) ?_
    ·
      have sE1224 := Same.refl H0
      have h := h1232
      refine rd_andV ?_
      refine rd_op ?_
      refine rd_cb ?_
      refine rd_cons ?_
      refine rd_var rfl ?_
      refine rd_nil ?_
      refine rd_typ (n := "str") rfl ?_
      refine rd_c ?_
      refine rd_2ty ?_
      refine ⟨_, rfl, ?_⟩
      rcases cnd h with ⟨c1237, h⟩ | ⟨c1237, h⟩
      ·
        refine iteY c1237 ?_
        refine rd_andV ?_
        refine rd_op ?_
        refine rd_cb ?_
        refine rd_cons ?_
        refine rd_var rfl ?_
        refine rd_nil ?_
        obtain ⟨y1225, h1226, h⟩ := bnd h
        refine q_lenS h1226 ?_
        refine rd_c ?_
        refine q_eqI ?_
        refine ⟨_, rfl, ?_⟩
        rcases cnd h with ⟨c1238, h⟩ | ⟨c1238, h⟩
        ·
          refine iteY c1238 ?_
          refine rd_teM2 (fun k H' => k = .bl ((!ltS x_value (Str.ofString "a")) && (!ltS (Str.ofString "z") x_value)) ∧ H0 = H') (fun R q => ?_) ?_
          ·
            refine rd_chain ?_
            refine rd_c ?_
            refine rd_var rfl ?_
            refine rd_2s ?_
            refine rd_bl ?_
            refine ite_by (fun c1229 => ?_) (fun c1229 => ?_)
            ·
              refine rd_c ?_
              refine rd_2s ?_
              exact q _ _ ⟨(congrArg V.bl (andT c1229 rfl)), rfl⟩
            ·
              exact q _ _ ⟨(congrArg V.bl (andF c1229)), rfl⟩
          rintro _ _ ⟨rfl, rfl⟩
          cases h
          exact q _ _ ⟨H0, rfl, S0, sE1224⟩
        ·
          refine iteN c1238 ?_
          cases h
          exact q _ _ ⟨H0, rfl, S0, sE1224⟩
      ·
        refine iteN c1237 ?_
        cases h
        exact q _ _ ⟨H0, rfl, S0, sE1224⟩
    rintro _ H1234 ⟨G1233, rfl, S1235, s1236⟩
    cases h
    exact kq _ _ S1235.toRet
end
end K37

namespace K37
open PySem L2 LX LQ
section
variable {P : Program} {w : World} {K : PySem.W.Frag} {mg : Str → Option Value} {base : Heap} {a : Ad}
open LQF
def sp_is_colored_integer (K : PySem.W.Frag) : Sp := fun vs H Q _ => ∃ (a1239 : Addr) (x_value : (Int × Str)), vs = [.ref a1239] ∧ Fr E0h H (.ref a1239) ((eT2 eI eS) x_value) ∧ ∃ r, F_is_colored_integer x_value = some r ∧ ∀ (G H' : Hp), Ret [] H G H' → Q (.bl (r)) H'
theorem ok_is_colored_integer (T : Txt K mg a) : FnOk P w K mg base CX0 2 a.f_is_colored_integer a.d_is_colored_integer ["value"] (sp_is_colored_integer K) := by
  refine T.F_is_colored_integer.ok sc_is_colored_integer (fun vs H Q E h => ?_) (fun cdv A outer s H0 vs Q E hr h => ?_)
  · obtain ⟨a1239, x_value, rfl, _⟩ := h
    rfl
  · obtain ⟨a1239, x_value, rfl, f1240, r, h, kq⟩ := h
    have nd := sc_is_colored_integer.nd
    have hu64 := hr.units
    have hu65 := units65 hr
    refine ⟨_, (pss_one (ps_ret (pe_and (pe_cmpR op_isTyB (pe_typeOf rfl T.b_type (pv 0)) (pe_bltn (v := .ty "tuple") (by rfl) T.b_tuple (by decide +kernel) rfl) (nomark _)) (pe_and (pe_cmpR op_eq (pe_callB (klen (K := K)) (by rfl) T.b_len (by decide +kernel) (pa_cons (pv 0) pa_nil)) pe_int (nomark _)) (pe_and (pe_call (ok_is_integer T) (hr.mono (by decide)) rfl T.g_is_integer T.k_is_integer T.n_is_integer .nil pass0 (pa_cons (pe_ix (kix_tup (K := K)) (pv 0) pe_int (fun _ _ => rfl)) pa_nil)) (pe_one (pe_call (ok_is_color T) (hr.mono (by decide)) rfl T.g_is_color T.k_is_color T.n_is_color .nil pass0 (pa_cons (pe_ix (kix_tup (K := K)) (pv 0) pe_int (fun _ _ => rfl)) pa_nil)))))))), ?_⟩
    unfold F_is_colored_integer at h
    have S0 := Sep.start H0
    refine rd_ret ?_
    obtain ⟨b1281, h1282, h⟩ := bnd h
    refine rd_teM2 (fun k H' => ∃  (G1283 : Hp), k = .bl b1281 ∧ Sep [] H0 G1283 H' [] ∧ Same H0 G1283) (fun R q => ?_) ?_
    ·
      have sE1241 := Same.refl H0
      have h := h1282
      refine rd_andV ?_
      refine rd_op ?_
      refine rd_cb ?_
      refine rd_cons ?_
      refine rd_var rfl ?_
      refine rd_nil ?_
      obtain ⟨_, h1242, _⟩ := tu f1240
      refine rd_tyT (S0.sub _ _ h1242) ?_
      refine rd_c ?_
      refine rd_2ty ?_
      refine ⟨_, rfl, ?_⟩
      rcases cnd h with ⟨c1287, h⟩ | ⟨c1287, h⟩
      ·
        refine iteY c1287 ?_
        refine rd_andV ?_
        refine rd_op ?_
        refine rd_cb ?_
        refine rd_cons ?_
        refine rd_var rfl ?_
        refine rd_nil ?_
        obtain ⟨v1245, v1246, h1249, f1247, f1248⟩ := tu2 f1240
        cases fr_int f1247
        cases fr_str f1248
        refine rd_lenT (S0.sub _ _ h1249) ?_
        refine rd_c ?_
        refine q_eqI ?_
        refine ⟨_, rfl, ?_⟩
        rcases cnd h with ⟨c1288, h⟩ | ⟨c1288, h⟩
        ·
          refine iteY c1288 ?_
          refine rd_andV ?_
          refine rd_call ?_
          refine rd_cons ?_
          refine rd_op ?_
          refine rd_var rfl ?_
          refine rd_c ?_
          obtain ⟨v1250, v1251, h1254, f1252, f1253⟩ := tu2 f1240
          cases fr_int f1252
          cases fr_str f1253
          refine rd_ixT (S0.sub _ _ h1254) rfl ?_
          refine rd_nil ?_
          obtain ⟨y1255, h1256, h⟩ := bnd h
          refine ⟨x_value.1, rfl, y1255, h1256, fun G1257 H1258 R1259 => ?_⟩
          obtain ⟨G1260, S1261, s1262, t1263, l1264⟩ := S0.ret0 R1259
          have f1240 := f1240.same s1262
          have sE1241 := sE1241.trans s1262
          refine ⟨_, rfl, ?_⟩
          rcases cnd h with ⟨c1289, h⟩ | ⟨c1289, h⟩
          ·
            refine iteY c1289 ?_
            refine rd_call ?_
            refine rd_cons ?_
            refine rd_op ?_
            refine rd_var rfl ?_
            refine rd_c ?_
            obtain ⟨v1265, v1266, h1269, f1267, f1268⟩ := tu2 f1240
            cases fr_int f1267
            cases fr_str f1268
            refine rd_ixT (S1261.sub _ _ h1269) rfl ?_
            refine rd_nil ?_
            obtain ⟨y1270, h1271, h⟩ := bnd h
            refine ⟨x_value.2, rfl, y1270, h1271, fun G1272 H1273 R1274 => ?_⟩
            obtain ⟨G1275, S1276, s1277, t1278, l1279⟩ := S1261.ret0 R1274
            have f1240 := f1240.same s1277
            have sE1241 := sE1241.trans s1277
            cases h
            exact q _ _ ⟨G1275, rfl, S1276, sE1241⟩
          ·
            refine iteN c1289 ?_
            cases h
            exact q _ _ ⟨G1260, rfl, S1261, sE1241⟩
        ·
          refine iteN c1288 ?_
          cases h
          exact q _ _ ⟨H0, rfl, S0, sE1241⟩
      ·
        refine iteN c1287 ?_
        cases h
        exact q _ _ ⟨H0, rfl, S0, sE1241⟩
    rintro _ H1284 ⟨G1283, rfl, S1285, s1286⟩
    have f1240 := f1240.same s1286
    cases h
    exact kq _ _ S1285.toRet
end
end K37

namespace K37
open PySem L2 LX LQ
section
variable {P : Program} {w : World} {K : PySem.W.Frag} {mg : Str → Option Value} {base : Heap} {a : Ad}
open LQF
def sp_is_lineup (K : PySem.W.Frag) : Sp := fun vs H Q _ => ∃ (a1290 : Addr) (x_value : (List (Int × Str))), vs = [.ref a1290] ∧ Fr E0h H (.ref a1290) ((eL (eT2 eI eS)) x_value) ∧ ∃ r, F_is_lineup x_value = some r ∧ ∀ (G H' : Hp), Ret [] H G H' → Q (.bl (r)) H'
theorem ok_is_lineup (T : Txt K mg a) : FnOk P w K mg base CX0 3 a.f_is_lineup a.d_is_lineup ["value"] (sp_is_lineup K) := by
  refine T.F_is_lineup.ok sc_is_lineup (fun vs H Q E h => ?_) (fun cdv A outer s H0 vs Q E hr h => ?_)
  · obtain ⟨a1290, x_value, rfl, _⟩ := h
    rfl
  · obtain ⟨a1290, x_value, rfl, f1291, r, h, kq⟩ := h
    have nd := sc_is_lineup.nd
    have hu64 := hr.units
    have hu65 := units65 hr
    refine ⟨_, (pss_cons (ps_if (PW.pt (pw_or (pt_cmpR op_notTyB (pe_typeOf rfl T.b_type (pv 0)) (pe_bltn (v := .ty "list") (by rfl) T.b_list (by decide +kernel) rfl) (nomark _)) (pw_or1 (pt_not (pt_chain op_le op_le pe_int (pe_callB (klen (K := K)) (by rfl) T.b_len (by decide +kernel) (pa_cons (pv 0) pa_nil)) (pe_glob (v := .int 60) rfl T.c_MOST_PEOPLE ⟨_, rfl⟩)))))) (pss_one (ps_ret pe_bl)) pss_nil)
      (pss_cons (ps_for PassesOwn.never rfl (kpi_list (K := K) (pv 0)) (pg_name (i := 1) nd rfl (Or.inl rfl)) (pss_one (ps_if (pt_not (pt_val (pe_call (ok_is_colored_integer T) (hr.mono (by decide)) rfl T.g_is_colored_integer T.k_is_colored_integer T.n_is_colored_integer .nil pass0 (pa_cons (pv 1) pa_nil)))) (pss_one (ps_ret pe_bl)) pss_nil)))
      (pss_one (ps_ret (pe_cmpR (keqD (K := K) hu64) (pe_callB (ksorted (K := K)) (by rfl) T.b_sorted (by decide +kernel) (pa_cons (pe_lc (own := [("person", 2), ("_", 3)]) (g := gTup K 2 (gCons (gName 2) (gCons (gName 3) gNil))) (tt := tYes) rfl nd (kpi_list (K := K) (pv 0)) (blkOk_by (own := [("person", 2), ("_", 3)]) (N := ["value", "item", "person", "_"]) (sc := defScope s_is_lineup) (by decide +kernel)) (fun _ _ _ _ _ => (kpg_tup (K := K) rfl (pgs_cons (pg_name (i := 2) nd rfl (Or.inl rfl)) (pgs_cons (pg_name (i := 3) nd rfl (Or.inl rfl)) pgs_nil)))) (fun _ _ _ _ _ => pts_nil) (fun _ _ _ _ _ => (pv 2))) pa_nil)) (pe_listRg rfl rfl T.b_list (prg_1 rfl T.b_range (pe_callB (klen (K := K)) (by rfl) T.b_len (by decide +kernel) (pa_cons (pv 0) pa_nil)))) (nomark _)))))), ?_⟩
    unfold F_is_lineup at h
    have S0 := Sep.start H0
    refine rd_seq ?_
    refine rd_ifS ?_
    refine rd_ttM (fun k H' => k = ((!(decide ("list" = "list"))) || (!((decide ((1 : Int) ≤ (lenI x_value))) && (decide ((lenI x_value) ≤ (60 : Int)))))) ∧ H0 = H') (fun R q => ?_) ?_
    ·
      refine rd_or ?_
      refine rd_test ?_
      refine rd_op ?_
      refine rd_cb ?_
      refine rd_cons ?_
      refine rd_var rfl ?_
      refine rd_nil ?_
      obtain ⟨w1293, h1294, k1295⟩ := li f1291
      refine rd_tyL (S0.sub _ _ h1294) ?_
      refine rd_c ?_
      refine rd_NT ?_
      refine rd_bl ?_
      refine ite_by (fun c1303 => ?_) (fun c1303 => ?_)
      ·
        exact q _ _ ⟨(orT c1303), rfl⟩
      ·
        refine rd_not ?_
        refine rd_test ?_
        refine rd_teM2 (fun k H' => k = .bl ((decide ((1 : Int) ≤ (lenI x_value))) && (decide ((lenI x_value) ≤ (60 : Int)))) ∧ H0 = H') (fun R q => ?_) ?_
        ·
          refine rd_chain ?_
          refine rd_c ?_
          refine rd_cb ?_
          refine rd_cons ?_
          refine rd_var rfl ?_
          refine rd_nil ?_
          obtain ⟨w1297, h1298, k1299⟩ := li f1291
          refine q_len (S0.sub _ _ h1298) k1299 ?_
          refine rd_I0 ?_
          refine rd_bl ?_
          refine ite_by (fun c1301 => ?_) (fun c1301 => ?_)
          ·
            refine rd_c ?_
            refine rd_I0 ?_
            exact q _ _ ⟨(congrArg V.bl (andT c1301 rfl)), rfl⟩
          ·
            exact q _ _ ⟨(congrArg V.bl (andF c1301)), rfl⟩
        rintro _ _ ⟨rfl, rfl⟩
        refine rd_bl ?_
        exact q _ _ ⟨(orF c1303 rfl), rfl⟩
    rintro _ _ ⟨rfl, rfl⟩
    rcases cnd h with ⟨c1409, h⟩ | ⟨c1409, h⟩
    ·
      refine iteY c1409 ?_
      refine rd_ret ?_
      refine rd_c ?_
      cases h
      exact kq _ _ S0.toRet
    ·
      refine iteN c1409 ?_
      refine rd_next ?_
      refine rd_mk ?_
      refine rd_seq ?_
      refine rd_for ?_
      refine rd_iList ?_
      refine rd_var rfl ?_
      obtain ⟨w1304, h1305, k1306⟩ := li f1291
      refine ⟨_, rfl, ⟨_, SqL.of (S0.sub _ _ h1305)⟩, ?_⟩
      obtain ⟨r1324_, h1325, ho1323⟩ := bnd h
      refine q_forC h1325 (w_li k1306) (fun s1308 σ' H' => ∃ (x1320 : Option V) (G1316 : Hp), σ' = [some (.ref a1290), x1320, none, none] ∧ Sep [] H0 G1316 H' [] ∧ Same H0 G1316) ?_ ?_ ?_ ?_
      · exact ⟨_, H0, rfl, S0, Same.refl _⟩
      · rintro s1308 _ H1317 ⟨x1320, G1316, rfl, S1318, sE1319⟩
        exact (S1318.sub _ _ (sE1319 _ _ h1305))
      · rintro i1309 a1307 s1308 c1315 x1311 _ H1317 H1312 h1313 h ⟨x1320, G1316, rfl, S1318, sE1319⟩ h1314 hq1321 kb1322
        have f1291 := f1291.same sE1319
        obtain ⟨rfl, e1326⟩ := h1314
        have f1327 := (e1326 _ h1313).same sE1319
        obtain ⟨a1328, rfl⟩ := fr_tup f1327
        refine rd_nameS (σ' := [some (.ref a1290), some (.ref a1328), none, none]) rfl ?_
        refine rd_ifS ?_
        refine rd_not ?_
        refine rd_tB ?_
        refine rd_call ?_
        refine rd_cons ?_
        refine rd_var rfl ?_
        refine rd_nil ?_
        obtain ⟨y1329, h1330, h⟩ := bnd h
        refine ⟨a1328, a1307, rfl, (f1327.same S1318.sub), y1329, h1330, fun G1331 H1332 R1333 => ?_⟩
        obtain ⟨G1334, S1335, s1336, t1337, l1338⟩ := S1318.ret0 R1333
        have f1291 := f1291.same s1336
        have f1327 := f1327.same s1336
        have sE1319 := sE1319.trans s1336
        refine rd_bl ?_
        rcases cnd h with ⟨c1340, h⟩ | ⟨c1340, h⟩
        ·
          refine iteY c1340 ?_
          refine rd_ret ?_
          refine rd_c ?_
          cases h
          have e1339 := hq1321 _ rfl
          subst e1339
          cases (show some (false) = some _ from ho1323)
          exact kq _ _ S1335.toRet
        ·
          refine iteN c1340 ?_
          refine rd_next ?_
          cases h
          exact ⟨_, rfl, _, G1334, rfl, S1335, sE1319⟩
      rintro r1324 _ H1342 rfl ⟨x1345, G1341, rfl, S1343, sE1344⟩
      have h := ho1323
      have f1291 := f1291.same sE1344
      refine rd_mk ?_
      refine rd_ret ?_
      refine rd_op ?_
      refine rd_cb ?_
      refine rd_cons ?_
      refine rd_lc ?_
      refine rd_iList ?_
      refine rd_var rfl ?_
      obtain ⟨w1346, h1347, k1348⟩ := li f1291
      refine ⟨_, rfl, ⟨_, SqL.of (S1343.sub _ _ h1347)⟩, ?_⟩
      intro D1349 h1350
      obtain ⟨l1373, h1374, h⟩ := bnd h
      refine q_lcL (enc := eI) (F0 := H0) h1374 (w_li k1348) S1343 h1350 S1343.old ?_ ?_ ?_
      · rintro GD1349 HD1349 accD1349 SD1349 sD1349
        exact (SD1349.sub _ _ (sD1349 _ _ h1347))
      · rintro i1352 x1353 a1351 o1362 G1356 H1354 H1355 acc1361 h1359 h S1357 s1358 h1360 T F hT hF
        have f1291 := f1291.same s1358
        have sT1363 := Same.refl G1356
        obtain ⟨rfl, e1365⟩ := h1360
        have f1366 := (e1365 _ h1359).same s1358
        obtain ⟨a1367, rfl⟩ := fr_tup f1366
        obtain ⟨v1368, v1369, h1372, f1370, f1371⟩ := tu2 f1366
        cases fr_int f1370
        cases fr_str f1371
        refine rd_gtup (S1357.sub _ _ h1372) rfl ?_
        refine rd_gcons ?_
        refine rd_nameS (σ' := [some (.ref a1290), x1345, some (.int a1351.1), none]) rfl ?_
        refine rd_gcons ?_
        refine rd_nameS (σ' := [some (.ref a1290), x1345, some (.int a1351.1), some (.str a1351.2)]) rfl ?_
        refine rd_gnil ?_
        refine ⟨rfl, ?_⟩
        refine rd_tyes ?_
        refine iteY rfl ?_
        refine rd_var rfl ?_
        cases h
        exact hT _ _ _ _ rfl S1357 sT1363 (.int _)
      rintro G1375 H1376 w1377 S1378 s1379 f1380 n1381 n1382
      have f1291 := f1291.same s1379
      obtain ⟨G1383, S1384, s1385, f1386⟩ := S1378.fixF 0 rfl (by simp) f1380 n1382
      have f1291 := f1291.same s1385
      refine rd_nil ?_
      obtain ⟨w1387, h1388, k1389⟩ := li f1386
      refine q_sortI (S1384.sub _ _ h1388) k1389 ?_
      refine q_new (F0 := H0) (ds := (sortI l1373).map eI) S1384 (ints_frl _) S1384.old fun a1390 G1391 H1392 S1393 s1394 f1395 => ?_
      have f1291 := f1291.same s1394
      refine rd_lstRgZ ?_
      refine rd_rg1 ?_
      refine rd_cb ?_
      refine rd_cons ?_
      refine rd_var rfl ?_
      refine rd_nil ?_
      obtain ⟨w1396, h1397, k1398⟩ := li f1291
      refine q_len (S1393.sub _ _ h1397) k1398 ?_
      refine ⟨_, rfl, ?_⟩
      obtain ⟨l1399, h1400, h⟩ := bnd h
      refine q_lrg h1400 ?_
      refine q_new (F0 := H0) (ds := l1399.map eI) S1393 (ints_frl l1399) S1393.old fun a1401 G1402 H1403 S1404 s1405 f1406 => ?_
      have f1291 := f1291.same s1405
      have f1395 := f1395.same s1405
      obtain ⟨b1407, h1408, h⟩ := bnd h
      refine q_eqD (f1395.rp.same S1404.sub) (f1406.rp.same S1404.sub) h1408 ?_
      cases h
      exact kq _ _ S1404.toRet
end
end K37

namespace K37
open PySem L2 LX LQ
section
variable {P : Program} {w : World} {K : PySem.W.Frag} {mg : Str → Option Value} {base : Heap} {a : Ad}
open LQF
def sp_check_lineup (K : PySem.W.Frag) : Sp := fun vs H Q _ => ∃ (a1410 : Addr) (x_value : (List (Int × Str))), vs = [.ref a1410] ∧ Fr E0h H (.ref a1410) ((eL (eT2 eI eS)) x_value) ∧ ∃ r, F_check_lineup x_value = some r ∧ ∀ (G H' : Hp), Ret [] H G H' → Q .non H'
theorem ok_check_lineup (T : Txt K mg a) : FnOk P w K mg base CX0 4 a.f_check_lineup a.d_check_lineup ["value"] (sp_check_lineup K) := by
  refine T.F_check_lineup.ok sc_check_lineup (fun vs H Q E h => ?_) (fun cdv A outer s H0 vs Q E hr h => ?_)
  · obtain ⟨a1410, x_value, rfl, _⟩ := h
    rfl
  · obtain ⟨a1410, x_value, rfl, f1411, r, h, kq⟩ := h
    have nd := sc_check_lineup.nd
    have hu64 := hr.units
    have hu65 := units65 hr
    refine ⟨_, (pss_one (ps_if (pt_not (pt_val (pe_call (ok_is_lineup T) (hr.mono (by decide)) rfl T.g_is_lineup T.k_is_lineup T.n_is_lineup .nil pass0 (pa_cons (pv 0) pa_nil)))) pss_never pss_nil)), ?_⟩
    unfold F_check_lineup at h
    have S0 := Sep.start H0
    refine rd_ifS ?_
    refine rd_not ?_
    refine rd_tB ?_
    refine rd_call ?_
    refine rd_cons ?_
    refine rd_var rfl ?_
    refine rd_nil ?_
    obtain ⟨y1412, h1413, h⟩ := bnd h
    refine ⟨a1410, x_value, rfl, (f1411.same S0.sub), y1412, h1413, fun G1414 H1415 R1416 => ?_⟩
    obtain ⟨G1417, S1418, s1419, t1420, l1421⟩ := S0.ret0 R1416
    have f1411 := f1411.same s1419
    refine rd_bl ?_
    rcases cnd h with ⟨c1422, h⟩ | ⟨c1422, h⟩
    ·
      refine iteY c1422 ?_
      cases h
    ·
      refine iteN c1422 ?_
      refine rd_next ?_
      cases h
      exact kq _ _ S1418.toRet
end
end K37

namespace K37
open PySem L2 LX LQ
section
variable {P : Program} {w : World} {K : PySem.W.Frag} {mg : Str → Option Value} {base : Heap} {a : Ad}
open LQF
def sp_first_places (K : PySem.W.Frag) : Sp := fun vs H Q _ => ∃ (a1423 : Addr) (x_lineup : (List (Int × Str))), vs = [.ref a1423] ∧ Fr E0h H (.ref a1423) ((eL (eT2 eI eS)) x_lineup) ∧ ∃ r, F_first_places x_lineup = some r ∧ ∀ (a : Addr) (G H' : Hp), Ret [] H G H' → Fr H G (.ref a) ((eD kS eI) (r)) → Q (.ref a) H'
theorem ok_first_places (T : Txt K mg a) : FnOk P w K mg base CX0 1 a.f_first_places a.d_first_places ["lineup"] (sp_first_places K) := by
  refine T.F_first_places.ok sc_first_places (fun vs H Q E h => ?_) (fun cdv A outer s H0 vs Q E hr h => ?_)
  · obtain ⟨a1423, x_lineup, rfl, _⟩ := h
    rfl
  · obtain ⟨a1423, x_lineup, rfl, f1424, r, h, kq⟩ := h
    have nd := sc_first_places.nd
    have hu64 := hr.units
    have hu65 := units65 hr
    refine ⟨_, (pss_cons (ps_set (i := 1) nd rfl (Or.inl rfl) pe_dnewK)
      (pss_cons (ps_for PassesOwn.never rfl (pi_enum rfl T.b_enumerate (pa_cons (pv 0) pa_nil)) (kpg_tup (K := K) rfl (pgs_cons (pg_name (i := 2) nd rfl (Or.inl rfl)) (pgs_cons (kpg_tup (K := K) rfl (pgs_cons (pg_name (i := 3) nd rfl (Or.inl rfl)) (pgs_cons (pg_name (i := 4) nd rfl (Or.inl rfl)) pgs_nil))) pgs_nil))) (pss_one (ps_if (pt_cmp (pc_dnotin (u1_of hu64) (pv 4) (pv 1)) rfl) (pss_one (ps_dput (u1_of hu64) (pv 1) (pv 4) (pv 2) rfl)) pss_nil)))
      (pss_one (ps_ret (pv 1))))), ?_⟩
    unfold F_first_places at h
    have S0 := Sep.start H0
    refine rd_seq ?_
    refine rd_asg ?_
    refine rd_dnewZ ?_
    refine q_dnewO S0 fun a1425 H1426 S1427 n1428 => ?_
    have f1429 : FrK H0 H0 [] ((([] : (List (Str × Int)))).map fun p => (dKey (kS p.1), eI p.2)) := .nil
    refine rd_nameS (σ' := [some (.ref a1423), some (.ref a1425), none, none, none]) rfl ?_
    refine rd_mk ?_
    refine rd_seq ?_
    refine rd_for ?_
    refine rd_iEn ?_
    refine rd_cons ?_
    refine rd_var rfl ?_
    refine rd_nil ?_
    obtain ⟨w1430, h1431, k1432⟩ := li f1424
    refine ⟨_, _, rfl, SqL.of (S1427.sub _ _ h1431), ?_⟩
    obtain ⟨r1454, h1455, h⟩ := bnd h
    refine q_forF h1455 (w_en k1432) (fun s1434 σ' H' => ∃ (x1446 : Option V) (x1447 : Option V) (x1448 : Option V) (w1449 : List (Key × V)) (G1442 : Hp), σ' = [some (.ref a1423), some (.ref a1425), x1446, x1447, x1448] ∧ Sep [] H0 G1442 H' [(a1425, .dK w1449)] ∧ Same H0 G1442 ∧ FrK H0 G1442 w1449 ((s1434).map fun p => (dKey (kS p.1), eI p.2))) ?_ ?_ ?_ ?_
    · exact ⟨_, _, _, [], H0, rfl, S1427, Same.refl _, f1429⟩
    · rintro s1434 _ H1443 ⟨x1446, x1447, x1448, w1449, G1442, rfl, S1444, sE1445, f1450⟩
      exact (S1444.sub _ _ (sE1445 _ _ h1431))
    · rintro i1435 a1433 s1434 s1436 x1437 _ H1443 H1438 h1439 h ⟨x1446, x1447, x1448, w1449, G1442, rfl, S1444, sE1445, f1450⟩ h1440
      obtain ⟨T1456, v1457, v1458, rfl, h1459, e1461, e1460⟩ := h1440
      obtain ⟨k1462, k1463⟩ := e1460 _ h1439
      replace k1462 := k1462.same sE1445
      replace k1463 := k1463.same sE1445
      obtain ⟨G1464, S1465, s1466, f1467⟩ := S1444.pair h1459 e1461 k1462 k1463
      have f1450 := f1450.same s1466
      have sE1445 := sE1445.trans s1466
      replace f1467 : Fr E0h G1464 (.ref T1456) (eT2 eI (eT2 eI eS) a1433) := f1467
      obtain ⟨v1468, v1469, h1472, f1470, f1471⟩ := tu2 f1467
      cases fr_int f1470
      obtain ⟨a1473, rfl⟩ := fr_tup f1471
      refine rd_gtup (S1465.sub _ _ h1472) rfl ?_
      refine rd_gcons ?_
      refine rd_nameS (σ' := [some (.ref a1423), some (.ref a1425), some (.int a1433.1), x1447, x1448]) rfl ?_
      refine rd_gcons ?_
      obtain ⟨v1474, v1475, h1478, f1476, f1477⟩ := tu2 f1471
      cases fr_int f1476
      cases fr_str f1477
      refine rd_gtup (S1465.sub _ _ h1478) rfl ?_
      refine rd_gcons ?_
      refine rd_nameS (σ' := [some (.ref a1423), some (.ref a1425), some (.int a1433.1), some (.int a1433.2.1), x1448]) rfl ?_
      refine rd_gcons ?_
      refine rd_nameS (σ' := [some (.ref a1423), some (.ref a1425), some (.int a1433.1), some (.int a1433.2.1), some (.str a1433.2.2)]) rfl ?_
      refine rd_gnil ?_
      refine rd_gnil ?_
      refine rd_ifS ?_
      refine rd_test ?_
      refine rd_dniZ ?_
      refine rd_var rfl ?_
      refine rd_var rfl ?_
      refine q_dni (kk := kS) kS_inj (Or.inl (S1465.get 0 rfl)) f1450 (kV_S _).symm ?_
      refine rd_bl ?_
      rcases cnd h with ⟨c1485, h⟩ | ⟨c1485, h⟩
      ·
        refine iteY c1485 ?_
        refine rd_dputZ ?_
        refine rd_var rfl ?_
        refine rd_var rfl ?_
        refine rd_var rfl ?_
        obtain ⟨l1479, h1480, h⟩ := bnd h
        refine q_dput (kk := kS) kS_inj S1465 0 rfl f1450 (kV_S _).symm (.int _) h1480 fun w1481 H1482 S1483 f1484 => ?_
        have S1483 : Sep [] H0 G1464 H1482 [(a1425, .dK w1481)] := S1483
        cases h
        exact ⟨_, _, _, w1481, G1464, rfl, S1483, sE1445, f1484⟩
      ·
        refine iteN c1485 ?_
        refine rd_next ?_
        cases h
        exact ⟨_, _, _, w1449, G1464, rfl, S1465, sE1445, f1450⟩
    rintro _ H1487 ⟨x1490, x1491, x1492, w1493, G1486, rfl, S1488, sE1489, f1494⟩
    refine rd_mk ?_
    refine rd_ret ?_
    refine rd_var rfl ?_
    obtain ⟨G1495, S1496, s1497, f1498⟩ := S1488.fixD 0 rfl (by simp) f1494 n1428
    cases h
    exact kq a1425 _ _ S1496.toRet f1498
end
end K37

namespace K37
open PySem L2 LX LQ
section
variable {P : Program} {w : World} {K : PySem.W.Frag} {mg : Str → Option Value} {base : Heap} {a : Ad}
open LQF
def sp_people_in_the_way (K : PySem.W.Frag) : Sp := fun vs H Q _ => ∃ (a1499 : Addr) (x_lineup : (List (Int × Str))) (x_color : Str) (x_following : Str), vs = [.ref a1499, (.str x_color), (.str x_following)] ∧ Fr E0h H (.ref a1499) ((eL (eT2 eI eS)) x_lineup) ∧ ∃ r, F_people_in_the_way x_lineup x_color x_following = some r ∧ ∀ (a : Addr) (G H' : Hp), Ret [] H G H' → Fr H G (.ref a) ((eL eI) (r)) → Q (.ref a) H'
theorem ok_people_in_the_way (T : Txt K mg a) : FnOk P w K mg base CX0 1 a.f_people_in_the_way a.d_people_in_the_way ["lineup", "color", "following"] (sp_people_in_the_way K) := by
  refine T.F_people_in_the_way.ok sc_people_in_the_way (fun vs H Q E h => ?_) (fun cdv A outer s H0 vs Q E hr h => ?_)
  · obtain ⟨a1499, x_lineup, x_color, x_following, rfl, _⟩ := h
    rfl
  · obtain ⟨a1499, x_lineup, x_color, x_following, rfl, f1500, r, h, kq⟩ := h
    have nd := sc_people_in_the_way.nd
    have hu64 := hr.units
    have hu65 := units65 hr
    refine ⟨_, (pss_cons (ps_set (i := 3) nd rfl (Or.inl rfl) (pe_lst pa_nil))
      (pss_cons (ps_for PassesOwn.never rfl (kpi_list (K := K) (pv 0)) (kpg_tup (K := K) rfl (pgs_cons (pg_name (i := 4) nd rfl (Or.inl rfl)) (pgs_cons (pg_name (i := 5) nd rfl (Or.inl rfl)) pgs_nil))) (pss_cons (ps_if (pt_cmpR op_eq (pv 5) (pv 2) (nomark _)) (pss_one ps_break) pss_nil)
      (pss_one (ps_if (pt_cmpR op_ne (pv 5) (pv 1) (nomark _)) (pss_one (ps_expr (kbm (K := K) PySem.F.plainAttrs_list PySem.F.slot_list_append PySem.F.type_list_append mt_append (pv 3) (pa_cons (pv 4) pa_nil)))) pss_nil))))
      (pss_one (ps_ret (pv 3))))), ?_⟩
    unfold F_people_in_the_way at h
    have S0 := Sep.start H0
    refine rd_seq ?_
    refine rd_asg ?_
    refine rd_lstZ ?_
    refine rd_nil ?_
    refine q_lstO S0 (by show 0 ≤ LIM; decide) fun a1501 H1502 S1503 n1504 => ?_
    have f1505 : FrL H0 H0 [] (([] : (List Int)).map eI) := .nil
    refine rd_nameS (σ' := [some (.ref a1499), some (.str x_color), some (.str x_following), some (.ref a1501), none, none]) rfl ?_
    refine rd_mk ?_
    refine rd_seq ?_
    refine rd_for ?_
    refine rd_iList ?_
    refine rd_var rfl ?_
    obtain ⟨w1506, h1507, k1508⟩ := li f1500
    refine ⟨_, rfl, ⟨_, SqL.of (S1503.sub _ _ h1507)⟩, ?_⟩
    obtain ⟨r1529_, h1530, ho1528⟩ := bnd h
    refine q_forC h1530 (w_li k1508) (fun s1510 σ' H' => ∃ (x1522 : Option V) (x1523 : Option V) (w1524 : List V) (G1518 : Hp), σ' = [some (.ref a1499), some (.str x_color), some (.str x_following), some (.ref a1501), x1522, x1523] ∧ Sep [] H0 G1518 H' [(a1501, .lst w1524)] ∧ Same H0 G1518 ∧ FrL H0 G1518 w1524 ((s1510).map eI)) ?_ ?_ ?_ ?_
    · exact ⟨_, _, [], H0, rfl, S1503, Same.refl _, f1505⟩
    · rintro s1510 _ H1519 ⟨x1522, x1523, w1524, G1518, rfl, S1520, sE1521, f1525⟩
      exact (S1520.sub _ _ (sE1521 _ _ h1507))
    · rintro i1511 a1509 s1510 c1517 x1513 _ H1519 H1514 h1515 h ⟨x1522, x1523, w1524, G1518, rfl, S1520, sE1521, f1525⟩ h1516 hq1526 kb1527
      obtain ⟨rfl, e1531⟩ := h1516
      have f1532 := (e1531 _ h1515).same sE1521
      obtain ⟨a1533, rfl⟩ := fr_tup f1532
      obtain ⟨v1534, v1535, h1538, f1536, f1537⟩ := tu2 f1532
      cases fr_int f1536
      cases fr_str f1537
      refine rd_gtup (S1520.sub _ _ h1538) rfl ?_
      refine rd_gcons ?_
      refine rd_nameS (σ' := [some (.ref a1499), some (.str x_color), some (.str x_following), some (.ref a1501), some (.int a1509.1), x1523]) rfl ?_
      refine rd_gcons ?_
      refine rd_nameS (σ' := [some (.ref a1499), some (.str x_color), some (.str x_following), some (.ref a1501), some (.int a1509.1), some (.str a1509.2)]) rfl ?_
      refine rd_gnil ?_
      refine rd_seq ?_
      refine rd_ifS ?_
      refine rd_test ?_
      refine rd_op ?_
      refine rd_var rfl ?_
      refine rd_var rfl ?_
      refine q_eqS ?_
      refine rd_bl ?_
      rcases cnd h with ⟨c1546, h⟩ | ⟨c1546, h⟩
      ·
        refine iteY c1546 ?_
        cases h
        exact kb1527 _ _ _ rfl ⟨_, _, w1524, G1518, rfl, S1520, sE1521, f1525⟩
      ·
        refine iteN c1546 ?_
        refine rd_next ?_
        refine rd_mk ?_
        refine rd_ifS ?_
        refine rd_test ?_
        refine rd_op ?_
        refine rd_var rfl ?_
        refine rd_var rfl ?_
        refine q_neS ?_
        refine rd_bl ?_
        rcases cnd h with ⟨c1545, h⟩ | ⟨c1545, h⟩
        ·
          refine iteY c1545 ?_
          refine rd_drop ?_
          refine rd_bm ?_
          refine rd_var rfl ?_
          refine ⟨Or.inl ⟨rfl, _, SqL.of (S1520.get 0 rfl)⟩, ?_⟩
          refine rd_cons ?_
          refine rd_var rfl ?_
          refine rd_nil ?_
          obtain ⟨l1539, h1540, h⟩ := bnd h
          refine q_app S1520 0 rfl f1525 (.int _) h1540 fun w1541 H1542 S1543 f1544 => ?_
          have S1543 : Sep [] H0 G1518 H1542 [(a1501, .lst w1541)] := S1543
          cases h
          exact ⟨_, rfl, _, _, w1541, G1518, rfl, S1543, sE1521, f1544⟩
        ·
          refine iteN c1545 ?_
          refine rd_next ?_
          cases h
          exact ⟨_, rfl, _, _, w1524, G1518, rfl, S1520, sE1521, f1525⟩
    rintro r1529 _ H1548 rfl ⟨x1551, x1552, w1553, G1547, rfl, S1549, sE1550, f1554⟩
    have h := ho1528
    refine rd_mk ?_
    refine rd_ret ?_
    refine rd_var rfl ?_
    obtain ⟨G1555, S1556, s1557, f1558⟩ := S1549.fixL 0 rfl (by simp) f1554 n1504
    cases h
    exact kq a1501 _ _ S1556.toRet f1558
end
end K37

namespace K37
open PySem L2 LX LQ
section
variable {P : Program} {w : World} {K : PySem.W.Frag} {mg : Str → Option Value} {base : Heap} {a : Ad}
open LQF
def sp_most_allowed (K : PySem.W.Frag) : Sp := fun vs H Q _ => ∃ (a1559 : Addr) (x_lineup : (List (Int × Str))) (a1560 : Addr) (x_values : (List (Str × Int))) (x_color : Str), vs = [.ref a1559, .ref a1560, (.str x_color)] ∧ Fr E0h H (.ref a1559) ((eL (eT2 eI eS)) x_lineup) ∧ Fr E0h H (.ref a1560) ((eD kS eI) x_values) ∧ ∃ r, F_most_allowed x_lineup x_values x_color = some r ∧ ∀ (G H' : Hp), Ret [] H G H' → Q (.int (r)) H'
theorem ok_most_allowed (T : Txt K mg a) : FnOk P w K mg base CX0 2 a.f_most_allowed a.d_most_allowed ["lineup", "values", "color"] (sp_most_allowed K) := by
  refine T.F_most_allowed.ok sc_most_allowed (fun vs H Q E h => ?_) (fun cdv A outer s H0 vs Q E hr h => ?_)
  · obtain ⟨a1559, x_lineup, a1560, x_values, x_color, rfl, _⟩ := h
    rfl
  · obtain ⟨a1559, x_lineup, a1560, x_values, x_color, rfl, f1561, f1562, r, h, kq⟩ := h
    have nd := sc_most_allowed.nd
    have hu64 := hr.units
    have hu65 := units65 hr
    refine ⟨_, (pss_cons (ps_set (i := 3) nd rfl (Or.inl rfl) (pe_lst pa_nil))
      (pss_cons (ps_for PassesOwn.never rfl (pi_keys (pe_frz (pe_call (ok_first_places T) (hr.mono (by decide)) rfl T.g_first_places T.k_first_places T.n_first_places .nil pass0 (pa_cons (pv 0) pa_nil)))) (pg_name (i := 4) nd rfl (Or.inl rfl)) (pss_cons (ps_if (pt_cmpR op_eq (pv 4) (pv 2) (nomark _)) (pss_one ps_break) pss_nil)
      (pss_one (ps_expr (kbm (K := K) PySem.F.plainAttrs_list PySem.F.slot_list_append PySem.F.type_list_append mt_append (pv 3) (pa_cons (pe_op op_add (pe_dget (u1_of hu64) (pv 1) (pv 4) (fun _ _ => rfl)) (pe_callB (klen (K := K)) (by rfl) T.b_len (by decide +kernel) (pa_cons (pe_call (ok_people_in_the_way T) (hr.mono (by decide)) rfl T.g_people_in_the_way T.k_people_in_the_way T.n_people_in_the_way .nil pass0 (pa_cons (pv 0) (pa_cons (pv 4) (pa_cons (pv 2) pa_nil)))) pa_nil))) pa_nil))))))
      (pss_one (ps_ret (pe_callBK (kminD (K := K) rfl hu64) (by rfl) T.b_min (by decide +kernel) (pa_cons (pv 3) pa_nil) (pk_cons pe_int pk_nil)))))), ?_⟩
    unfold F_most_allowed at h
    have S0 := Sep.start H0
    refine rd_seq ?_
    refine rd_asg ?_
    refine rd_lstZ ?_
    refine rd_nil ?_
    refine q_lstO S0 (by show 0 ≤ LIM; decide) fun a1563 H1564 S1565 n1566 => ?_
    have f1567 : FrL H0 H0 [] (([] : (List Int)).map eI) := .nil
    refine rd_nameS (σ' := [some (.ref a1559), some (.ref a1560), some (.str x_color), some (.ref a1563), none]) rfl ?_
    refine rd_mk ?_
    refine rd_seq ?_
    refine rd_for ?_
    refine rd_iKeys ?_
    refine rd_frz ?_
    refine rd_call ?_
    refine rd_cons ?_
    refine rd_var rfl ?_
    refine rd_nil ?_
    obtain ⟨y1568, h1569, h⟩ := bnd h
    refine ⟨a1559, x_lineup, rfl, (f1561.same S1565.sub), y1568, h1569, fun a1573 G1570 H1571 R1572 f1574 => ?_⟩
    obtain ⟨G1575, S1576, s1577, t1578, l1579⟩ := S1565.ret0 R1572
    have f1561 := f1561.same s1577
    have f1562 := f1562.same s1577
    have f1567 := f1567.same s1577
    have f1574 := t1578 _ _ f1574
    obtain ⟨w1580, h1581, k1582⟩ := di f1574
    refine q_frz S1576 (di0 f1574) h1581 fun od1583 G1584 H1585 S1586 d1587 h1588 h1589 => ?_
    have f1561 := f1561.frzor d1587
    have f1562 := f1562.frzor d1587
    have f1567 := f1567.frzor d1587
    have k1582 := k1582.frzor d1587
    refine q_keys h1588 ?_
    obtain ⟨r1609_, h1610, ho1608⟩ := bnd h
    refine q_forC h1610 (w_keys k1582) (fun s1591 σ' H' => ∃ (x1603 : Option V) (w1604 : List V) (G1599 : Hp), σ' = [some (.ref a1559), some (.ref a1560), some (.str x_color), some (.ref a1563), x1603] ∧ Sep [] H0 G1599 H' [(a1563, .lst w1604)] ∧ Same G1584 G1599 ∧ FrL H0 G1599 w1604 ((s1591).map eI)) ?_ ?_ ?_ ?_
    · exact ⟨_, [], G1584, rfl, S1586, Same.refl _, f1567⟩
    · rintro s1591 _ H1600 ⟨x1603, w1604, G1599, rfl, S1601, sE1602, f1605⟩
      exact (S1601.sub _ _ (sE1602 _ _ h1589))
    · rintro i1592 a1590 s1591 c1598 x1594 _ H1600 H1595 h1596 h ⟨x1603, w1604, G1599, rfl, S1601, sE1602, f1605⟩ h1597 hq1606 kb1607
      have f1561 := f1561.same sE1602
      have f1562 := f1562.same sE1602
      obtain ⟨rfl, e1611⟩ := h1597
      cases e1611 _ h1596
      refine rd_nameS (σ' := [some (.ref a1559), some (.ref a1560), some (.str x_color), some (.ref a1563), some (.str a1590)]) rfl ?_
      refine rd_seq ?_
      refine rd_ifS ?_
      refine rd_test ?_
      refine rd_op ?_
      refine rd_var rfl ?_
      refine rd_var rfl ?_
      refine q_eqS ?_
      refine rd_bl ?_
      rcases cnd h with ⟨c1640, h⟩ | ⟨c1640, h⟩
      ·
        refine iteY c1640 ?_
        cases h
        exact kb1607 _ _ _ rfl ⟨_, w1604, G1599, rfl, S1601, sE1602, f1605⟩
      ·
        refine iteN c1640 ?_
        refine rd_next ?_
        refine rd_mk ?_
        refine rd_drop ?_
        refine rd_bm ?_
        refine rd_var rfl ?_
        refine ⟨Or.inl ⟨rfl, _, SqL.of (S1601.get 0 rfl)⟩, ?_⟩
        refine rd_cons ?_
        refine rd_op ?_
        refine rd_dget ?_
        refine rd_var rfl ?_
        refine rd_var rfl ?_
        obtain ⟨y1612, h1613, h⟩ := bnd h
        obtain ⟨w1614, h1615, k1616⟩ := di f1562
        refine q_dget (kk := kS) kS_inj (rd_same h1615 S1601.sub) k1616 (kV_S _).symm h1613 fun v1617 f1618 => ?_
        cases fr_int f1618
        refine rd_cb ?_
        refine rd_cons ?_
        refine rd_call ?_
        refine rd_cons ?_
        refine rd_var rfl ?_
        refine rd_cons ?_
        refine rd_var rfl ?_
        refine rd_cons ?_
        refine rd_var rfl ?_
        refine rd_nil ?_
        obtain ⟨y1619, h1620, h⟩ := bnd h
        refine ⟨a1559, x_lineup, a1590, x_color, rfl, (f1561.same S1601.sub), y1619, h1620, fun a1624 G1621 H1622 R1623 f1625 => ?_⟩
        obtain ⟨G1626, S1627, s1628, t1629, l1630⟩ := S1601.ret0 R1623
        have f1561 := f1561.same s1628
        have f1562 := f1562.same s1628
        have f1605 := f1605.same s1628
        have sE1602 := sE1602.trans s1628
        have f1625 := t1629 _ _ f1625
        refine rd_nil ?_
        obtain ⟨w1631, h1632, k1633⟩ := li f1625
        refine q_len (S1627.sub _ _ h1632) k1633 ?_
        refine rd_I0 ?_
        refine rd_nil ?_
        obtain ⟨l1634, h1635, h⟩ := bnd h
        refine q_app S1627 0 rfl f1605 (.int _) h1635 fun w1636 H1637 S1638 f1639 => ?_
        have S1638 : Sep [] H0 G1626 H1637 [(a1563, .lst w1636)] := S1638
        cases h
        exact ⟨_, rfl, _, w1636, G1626, rfl, S1638, sE1602, f1639⟩
    rintro r1609 _ H1642 rfl ⟨x1645, w1646, G1641, rfl, S1643, sE1644, f1647⟩
    have h := ho1608
    have f1561 := f1561.same sE1644
    have f1562 := f1562.same sE1644
    refine rd_mk ?_
    refine rd_ret ?_
    refine rd_kwMin ?_
    refine rd_cons ?_
    refine rd_var rfl ?_
    refine rd_nil ?_
    refine rd_cons ?_
    refine rd_c ?_
    refine rd_nil ?_
    refine q_minD (S1643.get 0 rfl) f1647 ?_
    cases h
    exact kq _ _ S1643.toRet
end
end K37

namespace K37
open PySem L2 LX LQ
section
variable {P : Program} {w : World} {K : PySem.W.Frag} {mg : Str → Option Value} {base : Heap} {a : Ad}
open LQF
def sp_greatest_values (K : PySem.W.Frag) : Sp := fun vs H Q _ => ∃ (a1648 : Addr) (x_lineup : (List (Int × Str))), vs = [.ref a1648] ∧ Fr E0h H (.ref a1648) ((eL (eT2 eI eS)) x_lineup) ∧ ∃ r, F_greatest_values x_lineup = some r ∧ ∀ (a : Addr) (G H' : Hp), Ret [] H G H' → Fr H G (.ref a) ((eD kS eI) (r)) → Q (.ref a) H'
theorem ok_greatest_values (T : Txt K mg a) : FnOk P w K mg base CX0 3 a.f_greatest_values a.d_greatest_values ["lineup"] (sp_greatest_values K) := by
  refine T.F_greatest_values.ok sc_greatest_values (fun vs H Q E h => ?_) (fun cdv A outer s H0 vs Q E hr h => ?_)
  · obtain ⟨a1648, x_lineup, rfl, _⟩ := h
    rfl
  · obtain ⟨a1648, x_lineup, rfl, f1649, r, h, kq⟩ := h
    have nd := sc_greatest_values.nd
    have hu64 := hr.units
    have hu65 := units65 hr
    refine ⟨_, (pss_cons (ps_set (i := 1) nd rfl (Or.inl rfl) pe_dnewK)
      (pss_cons (ps_for PassesOwn.never rfl (pi_keys (pe_frz (pe_call (ok_first_places T) (hr.mono (by decide)) rfl T.g_first_places T.k_first_places T.n_first_places .nil pass0 (pa_cons (pv 0) pa_nil)))) (pg_name (i := 2) nd rfl (Or.inl rfl)) (pss_one (ps_dput (u1_of hu64) (pv 1) (pv 2) (pe_call (ok_most_allowed T) (hr.mono (by decide)) rfl T.g_most_allowed T.k_most_allowed T.n_most_allowed .nil pass0 (pa_cons (pv 0) (pa_cons (pv 1) (pa_cons (pv 2) pa_nil)))) rfl)))
      (pss_one (ps_ret (pv 1))))), ?_⟩
    unfold F_greatest_values at h
    have S0 := Sep.start H0
    refine rd_seq ?_
    refine rd_asg ?_
    refine rd_dnewZ ?_
    refine q_dnewO S0 fun a1650 H1651 S1652 n1653 => ?_
    have f1654 : FrK H0 H0 [] ((([] : (List (Str × Int)))).map fun p => (dKey (kS p.1), eI p.2)) := .nil
    refine rd_nameS (σ' := [some (.ref a1648), some (.ref a1650), none]) rfl ?_
    refine rd_mk ?_
    refine rd_seq ?_
    refine rd_for ?_
    refine rd_iKeys ?_
    refine rd_frz ?_
    refine rd_call ?_
    refine rd_cons ?_
    refine rd_var rfl ?_
    refine rd_nil ?_
    obtain ⟨y1655, h1656, h⟩ := bnd h
    refine ⟨a1648, x_lineup, rfl, (f1649.same S1652.sub), y1655, h1656, fun a1660 G1657 H1658 R1659 f1661 => ?_⟩
    obtain ⟨G1662, S1663, s1664, t1665, l1666⟩ := S1652.ret0 R1659
    have f1649 := f1649.same s1664
    have f1654 := f1654.same s1664
    have f1661 := t1665 _ _ f1661
    obtain ⟨w1667, h1668, k1669⟩ := di f1661
    refine q_frz S1663 (di0 f1661) h1668 fun od1670 G1671 H1672 S1673 d1674 h1675 h1676 => ?_
    have f1649 := f1649.frzor d1674
    have f1654 := f1654.frzor d1674
    have k1669 := k1669.frzor d1674
    refine q_keys h1675 ?_
    obtain ⟨r1696, h1697, h⟩ := bnd h
    refine q_forF h1697 (w_keys k1669) (fun s1678 σ' H' => ∃ (x1690 : Option V) (w1691 : List (Key × V)) (G1686 : Hp), σ' = [some (.ref a1648), some (.ref a1650), x1690] ∧ Sep [] H0 G1686 H' [(a1650, .dK w1691)] ∧ Same G1671 G1686 ∧ FrK H0 G1686 w1691 ((s1678).map fun p => (dKey (kS p.1), eI p.2))) ?_ ?_ ?_ ?_
    · exact ⟨_, [], G1671, rfl, S1673, Same.refl _, f1654⟩
    · rintro s1678 _ H1687 ⟨x1690, w1691, G1686, rfl, S1688, sE1689, f1692⟩
      exact (S1688.sub _ _ (sE1689 _ _ h1676))
    · rintro i1679 a1677 s1678 s1680 x1681 _ H1687 H1682 h1683 h ⟨x1690, w1691, G1686, rfl, S1688, sE1689, f1692⟩ h1684
      have f1649 := f1649.same sE1689
      obtain ⟨rfl, e1698⟩ := h1684
      cases e1698 _ h1683
      refine rd_nameS (σ' := [some (.ref a1648), some (.ref a1650), some (.str a1677)]) rfl ?_
      refine rd_dputZ ?_
      refine rd_call ?_
      refine rd_cons ?_
      refine rd_var rfl ?_
      refine rd_cons ?_
      refine rd_var rfl ?_
      refine rd_cons ?_
      refine rd_var rfl ?_
      refine rd_nil ?_
      obtain ⟨y1699, h1700, h⟩ := bnd h
      refine ⟨a1648, x_lineup, a1650, s1678, a1677, rfl, (f1649.same S1688.sub), (S1688.rdD 0 rfl f1692), y1699, h1700, fun G1701 H1702 R1703 => ?_⟩
      obtain ⟨G1704, S1705, s1706, t1707, l1708⟩ := S1688.ret0 R1703
      have f1649 := f1649.same s1706
      have f1692 := f1692.same s1706
      have sE1689 := sE1689.trans s1706
      refine rd_var rfl ?_
      refine rd_var rfl ?_
      obtain ⟨l1709, h1710, h⟩ := bnd h
      refine q_dput (kk := kS) kS_inj S1705 0 rfl f1692 (kV_S _).symm (.int _) h1710 fun w1711 H1712 S1713 f1714 => ?_
      have S1713 : Sep [] H0 G1704 H1712 [(a1650, .dK w1711)] := S1713
      cases h
      exact ⟨_, w1711, G1704, rfl, S1713, sE1689, f1714⟩
    rintro _ H1716 ⟨x1719, w1720, G1715, rfl, S1717, sE1718, f1721⟩
    have f1649 := f1649.same sE1718
    refine rd_mk ?_
    refine rd_ret ?_
    refine rd_var rfl ?_
    obtain ⟨G1722, S1723, s1724, f1725⟩ := S1717.fixD 0 rfl (by simp) f1721 n1653
    cases h
    exact kq a1650 _ _ S1723.toRet f1725
end
end K37

namespace K37
open PySem L2 LX LQ
section
variable {P : Program} {w : World} {K : PySem.W.Frag} {mg : Str → Option Value} {base : Heap} {a : Ad}
open LQF
def sp_people_outside (K : PySem.W.Frag) : Sp := fun vs H Q _ => ∃ (a1726 : Addr) (x_lineup : (List (Int × Str))) (x_colors : Str), vs = [.ref a1726, (.str x_colors)] ∧ Fr E0h H (.ref a1726) ((eL (eT2 eI eS)) x_lineup) ∧ ∃ r, F_people_outside x_lineup x_colors = some r ∧ ∀ (a : Addr) (G H' : Hp), Ret [] H G H' → Fr H G (.ref a) ((eL eI) (r)) → Q (.ref a) H'
theorem ok_people_outside (T : Txt K mg a) : FnOk P w K mg base CX0 1 a.f_people_outside a.d_people_outside ["lineup", "colors"] (sp_people_outside K) := by
  refine T.F_people_outside.ok sc_people_outside (fun vs H Q E h => ?_) (fun cdv A outer s H0 vs Q E hr h => ?_)
  · obtain ⟨a1726, x_lineup, x_colors, rfl, _⟩ := h
    rfl
  · obtain ⟨a1726, x_lineup, x_colors, rfl, f1727, r, h, kq⟩ := h
    have nd := sc_people_outside.nd
    have hu64 := hr.units
    have hu65 := units65 hr
    refine ⟨_, (pss_one (ps_ret (pe_lc (own := [("person", 2), ("worn", 3)]) (g := gTup K 2 (gCons (gName 2) (gCons (gName 3) gNil))) rfl nd (kpi_list (K := K) (pv 0)) (blkOk_by (own := [("person", 2), ("worn", 3)]) (N := ["lineup", "colors", "person", "worn"]) (sc := defScope s_people_outside) (by decide +kernel)) (fun _ _ _ _ _ => (kpg_tup (K := K) rfl (pgs_cons (pg_name (i := 2) nd rfl (Or.inl rfl)) (pgs_cons (pg_name (i := 3) nd rfl (Or.inl rfl)) pgs_nil)))) (fun _ _ _ _ _ => pts_one (pt_cmpR knotInT (pv 3) (pv 1) rfl)) (fun _ _ _ _ _ => (pv 2))))), ?_⟩
    unfold F_people_outside at h
    have S0 := Sep.start H0
    refine rd_ret ?_
    refine rd_lc ?_
    refine rd_iList ?_
    refine rd_var rfl ?_
    obtain ⟨w1728, h1729, k1730⟩ := li f1727
    refine ⟨_, rfl, ⟨_, SqL.of (S0.sub _ _ h1729)⟩, ?_⟩
    intro D1731 h1732
    obtain ⟨l1757, h1758, h⟩ := bnd h
    refine q_lcL (enc := eI) (F0 := H0) h1758 (w_li k1730) S0 h1732 S0.old ?_ ?_ ?_
    · rintro GD1731 HD1731 accD1731 SD1731 sD1731
      exact (SD1731.sub _ _ (sD1731 _ _ h1729))
    · rintro i1734 x1735 a1733 o1744 G1738 H1736 H1737 acc1743 h1741 h S1739 s1740 h1742 T F hT hF
      have f1727 := f1727.same s1740
      have sT1745 := Same.refl G1738
      obtain ⟨rfl, e1747⟩ := h1742
      have f1748 := (e1747 _ h1741).same s1740
      obtain ⟨a1749, rfl⟩ := fr_tup f1748
      obtain ⟨v1750, v1751, h1754, f1752, f1753⟩ := tu2 f1748
      cases fr_int f1752
      cases fr_str f1753
      refine rd_gtup (S1739.sub _ _ h1754) rfl ?_
      refine rd_gcons ?_
      refine rd_nameS (σ' := [some (.ref a1726), some (.str x_colors), some (.int a1733.1), none]) rfl ?_
      refine rd_gcons ?_
      refine rd_nameS (σ' := [some (.ref a1726), some (.str x_colors), some (.int a1733.1), some (.str a1733.2)]) rfl ?_
      refine rd_gnil ?_
      refine ⟨rfl, ?_⟩
      refine rd_test ?_
      refine rd_op ?_
      refine rd_var rfl ?_
      refine rd_var rfl ?_
      obtain ⟨b1755, h1756, h⟩ := bnd h
      refine q_niT h1756 ?_
      refine rd_bl ?_
      rcases cnd h with ⟨c1759, h⟩ | ⟨c1759, h⟩
      ·
        refine iteY c1759 ?_
        refine rd_var rfl ?_
        cases h
        exact hT _ _ _ _ rfl S1739 sT1745 (.int _)
      ·
        refine iteN c1759 ?_
        cases h
        exact hF _ _ rfl S1739 sT1745
    rintro G1760 H1761 w1762 S1763 s1764 f1765 n1766 n1767
    have f1727 := f1727.same s1764
    obtain ⟨G1768, S1769, s1770, f1771⟩ := S1763.fixF 0 rfl (by simp) f1765 n1767
    have f1727 := f1727.same s1770
    cases h
    exact kq D1731 _ _ S1769.toRet f1771
end
end K37

namespace K37
open PySem L2 LX LQ
section
variable {P : Program} {w : World} {K : PySem.W.Frag} {mg : Str → Option Value} {base : Heap} {a : Ad}
open LQF
def sp_fewest_calls_to_one_color (K : PySem.W.Frag) : Sp := fun vs H Q _ => ∃ (a1772 : Addr) (x_lineup : (List (Int × Str))), vs = [.ref a1772] ∧ Fr E0h H (.ref a1772) ((eL (eT2 eI eS)) x_lineup) ∧ ∃ r, F_fewest_calls_to_one_color x_lineup = some r ∧ ∀ (G H' : Hp), Ret [] H G H' → Q (.int (r)) H'
theorem ok_fewest_calls_to_one_color (T : Txt K mg a) : FnOk P w K mg base CX0 5 a.f_fewest_calls_to_one_color a.d_fewest_calls_to_one_color ["lineup"] (sp_fewest_calls_to_one_color K) := by
  refine T.F_fewest_calls_to_one_color.ok sc_fewest_calls_to_one_color (fun vs H Q E h => ?_) (fun cdv A outer s H0 vs Q E hr h => ?_)
  · obtain ⟨a1772, x_lineup, rfl, _⟩ := h
    rfl
  · obtain ⟨a1772, x_lineup, rfl, f1773, r, h, kq⟩ := h
    have nd := sc_fewest_calls_to_one_color.nd
    have hu64 := hr.units
    have hu65 := units65 hr
    refine ⟨_, (pss_cons (ps_expr (pe_call (ok_check_lineup T) (hr.mono (by decide)) rfl T.g_check_lineup T.k_check_lineup T.n_check_lineup .nil pass0 (pa_cons (pv 0) pa_nil)))
      (pss_cons (ps_set (i := 1) nd rfl (Or.inr rfl) (pe_call (ok_greatest_values T) (hr.mono (by decide)) rfl T.g_greatest_values T.k_greatest_values T.n_greatest_values .nil pass0 (pa_cons (pv 0) pa_nil)))
      (pss_one (ps_ret (pe_callB (kmin1 (K := K) rfl) (by rfl) T.b_min (by decide +kernel) (pa_cons (pe_lc (own := [("color", 2)]) (g := gName 2) (tt := tYes) rfl nd (pi_keys (pe_frz (pv 1))) (blkOk_by (own := [("color", 2)]) (N := ["lineup", "values", "color"]) (sc := defScope s_fewest_calls_to_one_color) (by decide +kernel)) (fun _ _ _ _ _ => (pg_name (i := 2) nd rfl (Or.inl rfl))) (fun _ _ _ _ _ => pts_nil) (fun _ _ _ _ _ => (pe_op op_add (pe_dget (u1_of hu64) (pv 1) (pv 2) (fun _ _ => rfl)) (pe_callB (klen (K := K)) (by rfl) T.b_len (by decide +kernel) (pa_cons (pe_call (ok_people_outside T) (hr.mono (by decide)) rfl T.g_people_outside T.k_people_outside T.n_people_outside .nil pass0 (pa_cons (pv 0) (pa_cons (pv 2) pa_nil))) pa_nil))))) pa_nil)))))), ?_⟩
    unfold F_fewest_calls_to_one_color at h
    have S0 := Sep.start H0
    refine rd_seq ?_
    refine rd_drop ?_
    refine rd_call ?_
    refine rd_cons ?_
    refine rd_var rfl ?_
    refine rd_nil ?_
    obtain ⟨y1774, h1775, h⟩ := bnd h
    refine ⟨a1772, x_lineup, rfl, (f1773.same S0.sub), y1774, h1775, fun G1776 H1777 R1778 => ?_⟩
    obtain ⟨G1779, S1780, s1781, t1782, l1783⟩ := S0.ret0 R1778
    have f1773 := f1773.same s1781
    refine rd_mk ?_
    refine rd_seq ?_
    refine rd_asg ?_
    refine rd_call ?_
    refine rd_cons ?_
    refine rd_var rfl ?_
    refine rd_nil ?_
    obtain ⟨y1784, h1785, h⟩ := bnd h
    refine ⟨a1772, x_lineup, rfl, (f1773.same S1780.sub), y1784, h1785, fun a1789 G1786 H1787 R1788 f1790 => ?_⟩
    obtain ⟨G1791, S1792, s1793, t1794, l1795⟩ := S1780.ret0 R1788
    have f1773 := f1773.same s1793
    have f1790 := t1794 _ _ f1790
    refine rd_nameS (σ' := [some (.ref a1772), some (.ref a1789), none]) rfl ?_
    refine rd_mk ?_
    refine rd_ret ?_
    refine rd_cb ?_
    refine rd_cons ?_
    refine rd_lc ?_
    refine rd_iKeys ?_
    refine rd_frz ?_
    refine rd_var rfl ?_
    obtain ⟨w1796, h1797, k1798⟩ := di f1790
    refine q_frz S1792 (di0 f1790) h1797 fun od1799 G1800 H1801 S1802 d1803 h1804 h1805 => ?_
    have f1773 := f1773.frzor d1803
    have f1790 := f1790.frzor d1803
    have k1798 := k1798.frzor d1803
    refine q_keys h1804 ?_
    intro D1806 h1807
    obtain ⟨l1845, h1846, h⟩ := bnd h
    refine q_lcL (enc := eI) (F0 := H0) h1846 (w_keys k1798) S1802 h1807 S1802.old ?_ ?_ ?_
    · rintro GD1806 HD1806 accD1806 SD1806 sD1806
      exact (SD1806.sub _ _ (sD1806 _ _ h1805))
    · rintro i1809 x1810 a1808 o1819 G1813 H1811 H1812 acc1818 h1816 h S1814 s1815 h1817 T F hT hF
      have f1773 := f1773.same s1815
      have f1790 := f1790.same s1815
      have sT1820 := Same.refl G1813
      obtain ⟨rfl, e1822⟩ := h1817
      cases e1822 _ h1816
      refine rd_nameS (σ' := [some (.ref a1772), some (.ref a1789), some (.str a1808)]) rfl ?_
      refine ⟨rfl, ?_⟩
      refine rd_tyes ?_
      refine iteY rfl ?_
      refine rd_op ?_
      refine rd_dget ?_
      refine rd_var rfl ?_
      refine rd_var rfl ?_
      obtain ⟨y1823, h1824, h⟩ := bnd h
      obtain ⟨w1825, h1826, k1827⟩ := di f1790
      refine q_dget (kk := kS) kS_inj (rd_same h1826 S1814.sub) k1827 (kV_S _).symm h1824 fun v1828 f1829 => ?_
      cases fr_int f1829
      refine rd_cb ?_
      refine rd_cons ?_
      refine rd_call ?_
      refine rd_cons ?_
      refine rd_var rfl ?_
      refine rd_cons ?_
      refine rd_var rfl ?_
      refine rd_nil ?_
      obtain ⟨y1830, h1831, h⟩ := bnd h
      refine ⟨a1772, x_lineup, a1808, rfl, (f1773.same S1814.sub), y1830, h1831, fun a1835 G1832 H1833 R1834 f1836 => ?_⟩
      obtain ⟨G1837, S1838, s1839, t1840, l1841⟩ := S1814.ret0 R1834
      have f1773 := f1773.same s1839
      have f1790 := f1790.same s1839
      have sT1820 := sT1820.trans s1839
      have f1836 := t1840 _ _ f1836
      refine rd_nil ?_
      obtain ⟨w1842, h1843, k1844⟩ := li f1836
      refine q_len (S1838.sub _ _ h1843) k1844 ?_
      refine rd_I0 ?_
      cases h
      exact hT _ _ _ _ rfl S1838 sT1820 (.int _)
    rintro G1847 H1848 w1849 S1850 s1851 f1852 n1853 n1854
    have f1773 := f1773.same s1851
    have f1790 := f1790.same s1851
    obtain ⟨G1855, S1856, s1857, f1858⟩ := S1850.fixF 0 rfl (by simp) f1852 n1854
    have f1773 := f1773.same s1857
    have f1790 := f1790.same s1857
    refine rd_nil ?_
    obtain ⟨y1859, h1860, h⟩ := bnd h
    obtain ⟨w1861, h1862, k1863⟩ := li f1858
    refine q_min1 (S1856.sub _ _ h1862) k1863 h1860 ?_
    cases h
    exact kq _ _ S1856.toRet
end
end K37

namespace K37
open PySem L2 LX LQ
section
variable {P : Program} {w : World} {K : PySem.W.Frag} {mg : Str → Option Value} {base : Heap} {a : Ad}
open LQF
def sp__law_outside (K : PySem.W.Frag) : Sp := fun vs H Q _ => ∃ (a1864 : Addr) (x_line : (List (Int × Str))) (x_wanted : Str), vs = [.ref a1864, (.str x_wanted)] ∧ Fr E0h H (.ref a1864) ((eL (eT2 eI eS)) x_line) ∧ ∃ r, F__law_outside x_line x_wanted = some r ∧ ∀ (G H' : Hp), Ret [] H G H' → Q (.int (r)) H'
theorem ok__law_outside (T : Txt K mg a) : FnOk P w K mg base CX0 1 a.f__law_outside a.d__law_outside ["line", "wanted"] (sp__law_outside K) := by
  refine T.F__law_outside.ok sc__law_outside (fun vs H Q E h => ?_) (fun cdv A outer s H0 vs Q E hr h => ?_)
  · obtain ⟨a1864, x_line, x_wanted, rfl, _⟩ := h
    rfl
  · obtain ⟨a1864, x_line, x_wanted, rfl, f1865, r, h, kq⟩ := h
    have nd := sc__law_outside.nd
    have hu64 := hr.units
    have hu65 := units65 hr
    refine ⟨_, (pss_one (ps_ret (pe_callB (klen (K := K)) (by rfl) T.b_len (by decide +kernel) (pa_cons (pe_lc (own := [("person", 2), ("one", 3)]) (g := gTup K 2 (gCons (gName 2) (gCons (gName 3) gNil))) rfl nd (kpi_list (K := K) (pv 0)) (blkOk_by (own := [("person", 2), ("one", 3)]) (N := ["line", "wanted", "person", "one"]) (sc := defScope s__law_outside) (by decide +kernel)) (fun _ _ _ _ _ => (kpg_tup (K := K) rfl (pgs_cons (pg_name (i := 2) nd rfl (Or.inl rfl)) (pgs_cons (pg_name (i := 3) nd rfl (Or.inl rfl)) pgs_nil)))) (fun _ _ _ _ _ => pts_one (pt_cmpR knotInT (pv 3) (pv 1) rfl)) (fun _ _ _ _ _ => (pv 3))) pa_nil)))), ?_⟩
    unfold F__law_outside at h
    have S0 := Sep.start H0
    refine rd_ret ?_
    refine rd_cb ?_
    refine rd_cons ?_
    refine rd_lc ?_
    refine rd_iList ?_
    refine rd_var rfl ?_
    obtain ⟨w1866, h1867, k1868⟩ := li f1865
    refine ⟨_, rfl, ⟨_, SqL.of (S0.sub _ _ h1867)⟩, ?_⟩
    intro D1869 h1870
    obtain ⟨l1895, h1896, h⟩ := bnd h
    refine q_lcL (enc := eS) (F0 := H0) h1896 (w_li k1868) S0 h1870 S0.old ?_ ?_ ?_
    · rintro GD1869 HD1869 accD1869 SD1869 sD1869
      exact (SD1869.sub _ _ (sD1869 _ _ h1867))
    · rintro i1872 x1873 a1871 o1882 G1876 H1874 H1875 acc1881 h1879 h S1877 s1878 h1880 T F hT hF
      have f1865 := f1865.same s1878
      have sT1883 := Same.refl G1876
      obtain ⟨rfl, e1885⟩ := h1880
      have f1886 := (e1885 _ h1879).same s1878
      obtain ⟨a1887, rfl⟩ := fr_tup f1886
      obtain ⟨v1888, v1889, h1892, f1890, f1891⟩ := tu2 f1886
      cases fr_int f1890
      cases fr_str f1891
      refine rd_gtup (S1877.sub _ _ h1892) rfl ?_
      refine rd_gcons ?_
      refine rd_nameS (σ' := [some (.ref a1864), some (.str x_wanted), some (.int a1871.1), none]) rfl ?_
      refine rd_gcons ?_
      refine rd_nameS (σ' := [some (.ref a1864), some (.str x_wanted), some (.int a1871.1), some (.str a1871.2)]) rfl ?_
      refine rd_gnil ?_
      refine ⟨rfl, ?_⟩
      refine rd_test ?_
      refine rd_op ?_
      refine rd_var rfl ?_
      refine rd_var rfl ?_
      obtain ⟨b1893, h1894, h⟩ := bnd h
      refine q_niT h1894 ?_
      refine rd_bl ?_
      rcases cnd h with ⟨c1897, h⟩ | ⟨c1897, h⟩
      ·
        refine iteY c1897 ?_
        refine rd_var rfl ?_
        cases h
        exact hT _ _ _ _ rfl S1877 sT1883 (.str _)
      ·
        refine iteN c1897 ?_
        cases h
        exact hF _ _ rfl S1877 sT1883
    rintro G1898 H1899 w1900 S1901 s1902 f1903 n1904 n1905
    have f1865 := f1865.same s1902
    obtain ⟨G1906, S1907, s1908, f1909⟩ := S1901.fixF 0 rfl (by simp) f1903 n1905
    have f1865 := f1865.same s1908
    refine rd_nil ?_
    obtain ⟨w1910, h1911, k1912⟩ := li f1909
    refine q_len (S1907.sub _ _ h1911) k1912 ?_
    cases h
    exact kq _ _ S1907.toRet
end
end K37

namespace K37
open PySem L2 LX LQ
section
variable {P : Program} {w : World} {K : PySem.W.Frag} {mg : Str → Option Value} {base : Heap} {a : Ad}
open LQF
def sp__law_after (K : PySem.W.Frag) : Sp := fun vs H Q _ => ∃ (a1913 : Addr) (x_line : (List (Int × Str))) (x_person : Int), vs = [.ref a1913, (.int x_person)] ∧ Fr E0h H (.ref a1913) ((eL (eT2 eI eS)) x_line) ∧ ∃ r, F__law_after x_line x_person = some r ∧ ∀ (a : Addr) (G H' : Hp), Ret [] H G H' → Fr H G (.ref a) ((eL (eT2 eI eS)) (r)) → Q (.ref a) H'
theorem ok__law_after (T : Txt K mg a) : FnOk P w K mg base CX0 1 a.f__law_after a.d__law_after ["line", "person"] (sp__law_after K) := by
  refine T.F__law_after.ok sc__law_after (fun vs H Q E h => ?_) (fun cdv A outer s H0 vs Q E hr h => ?_)
  · obtain ⟨a1913, x_line, x_person, rfl, _⟩ := h
    rfl
  · obtain ⟨a1913, x_line, x_person, rfl, f1914, r, h, kq⟩ := h
    have nd := sc__law_after.nd
    have hu64 := hr.units
    have hu65 := units65 hr
    refine ⟨_, (pss_cons (ps_set (i := 2) nd rfl (Or.inr rfl) (pe_ix (kix_list (K := K)) (pe_lc (own := [("one", 4), ("letter", 5)]) (g := gTup K 2 (gCons (gName 4) (gCons (gName 5) gNil))) rfl nd (kpi_list (K := K) (pv 0)) (blkOk_by (own := [("one", 4), ("letter", 5)]) (N := ["line", "person", "own", "some", "one", "letter", "pair"]) (sc := defScope s__law_after) (by decide +kernel)) (fun _ _ _ _ _ => (kpg_tup (K := K) rfl (pgs_cons (pg_name (i := 4) nd rfl (Or.inl rfl)) (pgs_cons (pg_name (i := 5) nd rfl (Or.inl rfl)) pgs_nil)))) (fun _ _ _ _ _ => pts_one (pt_cmpR op_eq (pv 4) (pv 1) (nomark _))) (fun _ _ _ _ _ => (pv 5))) pe_int (fun _ _ => rfl)))
      (pss_cons (ps_setLc (i := 3) (own := [("one", 4), ("letter", 5)]) (g := gTup K 2 (gCons (gName 4) (gCons (gName 5) gNil))) rfl nd rfl rfl (sw_true rfl rfl rfl (by decide +kernel)) (kpi_list (K := K) (pv 0)) (blkOk_by (own := [("one", 4), ("letter", 5)]) (N := ["line", "person", "own", "some", "one", "letter", "pair"]) (sc := defScope s__law_after) (by decide +kernel)) (fun _ _ _ _ _ => (kpg_tup (K := K) rfl (pgs_cons (pg_name (i := 4) nd rfl (Or.inl rfl)) (pgs_cons (pg_name (i := 5) nd rfl (Or.inl rfl)) pgs_nil)))) (fun _ _ _ _ _ => pts_one (pt_cmpR op_ne (pv 5) (pv 2) (nomark _))) (fun _ _ _ _ _ => (pv 5)))
      (pss_one (ps_ret (pe_op op_cat (pe_lst (pa_cons (pe_tup (pa_cons (pv 1) (pa_cons (pe_ix (kix_list (K := K)) (pe_op op_cat (pv 3) (pe_lst (pa_cons (pv 2) pa_nil))) pe_int (fun _ _ => rfl)) pa_nil))) pa_nil)) (pe_lc (own := [("pair", 6)]) (g := gName 6) rfl nd (kpi_list (K := K) (pv 0)) (blkOk_by (own := [("pair", 6)]) (N := ["line", "person", "own", "some", "one", "letter", "pair"]) (sc := defScope s__law_after) (by decide +kernel)) (fun _ _ _ _ _ => (pg_name (i := 6) nd rfl (Or.inl rfl))) (fun _ _ _ _ _ => pts_one (pt_cmpR op_ne (pe_ix (kix_tup (K := K)) (pv 6) pe_int (fun _ _ => rfl)) (pv 1) (nomark _))) (fun _ _ _ _ _ => (pv 6)))))))), ?_⟩
    unfold F__law_after at h
    have S0 := Sep.start H0
    refine rd_seq ?_
    refine rd_asg ?_
    refine rd_op ?_
    refine rd_lc ?_
    refine rd_iList ?_
    refine rd_var rfl ?_
    obtain ⟨w1915, h1916, k1917⟩ := li f1914
    refine ⟨_, rfl, ⟨_, SqL.of (S0.sub _ _ h1916)⟩, ?_⟩
    intro D1918 h1919
    obtain ⟨l1942, h1943, h⟩ := bnd h
    refine q_lcL (enc := eS) (F0 := H0) h1943 (w_li k1917) S0 h1919 S0.old ?_ ?_ ?_
    · rintro GD1918 HD1918 accD1918 SD1918 sD1918
      exact (SD1918.sub _ _ (sD1918 _ _ h1916))
    · rintro i1921 x1922 a1920 o1931 G1925 H1923 H1924 acc1930 h1928 h S1926 s1927 h1929 T F hT hF
      have f1914 := f1914.same s1927
      have sT1932 := Same.refl G1925
      obtain ⟨rfl, e1934⟩ := h1929
      have f1935 := (e1934 _ h1928).same s1927
      obtain ⟨a1936, rfl⟩ := fr_tup f1935
      obtain ⟨v1937, v1938, h1941, f1939, f1940⟩ := tu2 f1935
      cases fr_int f1939
      cases fr_str f1940
      refine rd_gtup (S1926.sub _ _ h1941) rfl ?_
      refine rd_gcons ?_
      refine rd_nameS (σ' := [some (.ref a1913), some (.int x_person), none, none, some (.int a1920.1), none, none]) rfl ?_
      refine rd_gcons ?_
      refine rd_nameS (σ' := [some (.ref a1913), some (.int x_person), none, none, some (.int a1920.1), some (.str a1920.2), none]) rfl ?_
      refine rd_gnil ?_
      refine ⟨rfl, ?_⟩
      refine rd_test ?_
      refine rd_op ?_
      refine rd_var rfl ?_
      refine rd_var rfl ?_
      refine q_eqI ?_
      refine rd_bl ?_
      rcases cnd h with ⟨c1944, h⟩ | ⟨c1944, h⟩
      ·
        refine iteY c1944 ?_
        refine rd_var rfl ?_
        cases h
        exact hT _ _ _ _ rfl S1926 sT1932 (.str _)
      ·
        refine iteN c1944 ?_
        cases h
        exact hF _ _ rfl S1926 sT1932
    rintro G1945 H1946 w1947 S1948 s1949 f1950 n1951 n1952
    have f1914 := f1914.same s1949
    obtain ⟨G1953, S1954, s1955, f1956⟩ := S1948.fixF 0 rfl (by simp) f1950 n1952
    have f1914 := f1914.same s1955
    refine rd_c ?_
    obtain ⟨y1957, h1958, h⟩ := bnd h
    obtain ⟨w1959, h1960, k1961⟩ := li f1956
    refine q_ixL (S1954.sub _ _ h1960) k1961 h1958 fun v1962 f1963 => ?_
    cases fr_str f1963
    refine rd_nameS (σ' := [some (.ref a1913), some (.int x_person), some (.str y1957), none, none, none, none]) rfl ?_
    refine rd_mk ?_
    refine rd_seq ?_
    refine rd_asg ?_
    refine rd_lc ?_
    refine rd_iList ?_
    refine rd_var rfl ?_
    obtain ⟨w1964, h1965, k1966⟩ := li f1914
    refine ⟨_, rfl, ⟨_, SqL.of (S1954.sub _ _ h1965)⟩, ?_⟩
    intro D1967 h1968
    obtain ⟨l1991, h1992, h⟩ := bnd h
    refine q_lcL (enc := eS) (F0 := H0) h1992 (w_li k1966) S1954 h1968 S1954.old ?_ ?_ ?_
    · rintro GD1967 HD1967 accD1967 SD1967 sD1967
      exact (SD1967.sub _ _ (sD1967 _ _ h1965))
    · rintro i1970 x1971 a1969 o1980 G1974 H1972 H1973 acc1979 h1977 h S1975 s1976 h1978 T F hT hF
      have f1914 := f1914.same s1976
      have sT1981 := Same.refl G1974
      obtain ⟨rfl, e1983⟩ := h1978
      have f1984 := (e1983 _ h1977).same s1976
      obtain ⟨a1985, rfl⟩ := fr_tup f1984
      obtain ⟨v1986, v1987, h1990, f1988, f1989⟩ := tu2 f1984
      cases fr_int f1988
      cases fr_str f1989
      refine rd_gtup (S1975.sub _ _ h1990) rfl ?_
      refine rd_gcons ?_
      refine rd_nameS (σ' := [some (.ref a1913), some (.int x_person), some (.str y1957), none, some (.int a1969.1), none, none]) rfl ?_
      refine rd_gcons ?_
      refine rd_nameS (σ' := [some (.ref a1913), some (.int x_person), some (.str y1957), none, some (.int a1969.1), some (.str a1969.2), none]) rfl ?_
      refine rd_gnil ?_
      refine ⟨rfl, ?_⟩
      refine rd_test ?_
      refine rd_op ?_
      refine rd_var rfl ?_
      refine rd_var rfl ?_
      refine q_neS ?_
      refine rd_bl ?_
      rcases cnd h with ⟨c1993, h⟩ | ⟨c1993, h⟩
      ·
        refine iteY c1993 ?_
        refine rd_var rfl ?_
        cases h
        exact hT _ _ _ _ rfl S1975 sT1981 (.str _)
      ·
        refine iteN c1993 ?_
        cases h
        exact hF _ _ rfl S1975 sT1981
    rintro G1994 H1995 w1996 S1997 s1998 f1999 n2000 n2001
    have f1914 := f1914.same s1998
    obtain ⟨G2002, S2003, s2004, f2005⟩ := S1997.fixF 0 rfl (by simp) f1999 n2001
    have f1914 := f1914.same s2004
    refine rd_nameS (σ' := [some (.ref a1913), some (.int x_person), some (.str y1957), some (.ref D1967), none, none, none]) rfl ?_
    refine rd_mk ?_
    refine rd_ret ?_
    refine rd_op ?_
    refine rd_lstZ ?_
    refine rd_cons ?_
    refine rd_tupZ ?_
    refine rd_cons ?_
    refine rd_var rfl ?_
    refine rd_cons ?_
    refine rd_op ?_
    refine rd_op ?_
    refine rd_var rfl ?_
    refine rd_lstZ ?_
    refine rd_cons ?_
    refine rd_var rfl ?_
    refine rd_nil ?_
    refine q_lst (F0 := H0) (ds := [eS y1957]) S2003 (by show 1 ≤ LIM; decide) (.cons (.str _) .nil) S2003.old fun a2006 G2007 H2008 S2009 s2010 f2011 => ?_
    have f1914 := f1914.same s2010
    have f2005 := f2005.same s2010
    replace f2011 : Fr H0 G2007 (.ref a2006) ((eL eS) [y1957]) := f2011
    obtain ⟨y2012, h2013, h⟩ := bnd h
    obtain ⟨w2014, h2015, k2016⟩ := li f2005
    obtain ⟨w2017, h2018, k2019⟩ := li f2011
    refine q_cat S2009 (S2009.sub _ _ h2015) k2016 (S2009.sub _ _ h2018) k2019 h2013 S2009.old fun a2020 G2023 H2021 S2022 s2024 f2025 => ?_
    have f1914 := f1914.same s2024
    have f2005 := f2005.same s2024
    refine rd_c ?_
    obtain ⟨y2026, h2027, h⟩ := bnd h
    obtain ⟨w2028, h2029, k2030⟩ := li f2025
    refine q_ixL (S2022.sub _ _ h2029) k2030 h2027 fun v2031 f2032 => ?_
    cases fr_str f2032
    refine rd_nil ?_
    refine q_tup (F0 := H0) (ds := [eI x_person, eS y2026]) S2022 (by show 2 ≤ LIM; decide) (.cons (.int _) (.cons (.str _) .nil)) fun a2033 G2034 H2035 S2036 s2037 f2038 => ?_
    have f1914 := f1914.same s2037
    have f2005 := f2005.same s2037
    replace f2038 : Fr H0 G2034 (.ref a2033) ((eT2 eI eS) (x_person, y2026)) := f2038
    refine rd_nil ?_
    refine q_lst (F0 := H0) (ds := [(eT2 eI eS) (x_person, y2026)]) S2036 (by show 1 ≤ LIM; decide) (.cons f2038 .nil) S2036.old fun a2039 G2040 H2041 S2042 s2043 f2044 => ?_
    have f1914 := f1914.same s2043
    have f2005 := f2005.same s2043
    replace f2044 : Fr H0 G2040 (.ref a2039) ((eL (eT2 eI eS)) [(x_person, y2026)]) := f2044
    refine rd_lc ?_
    refine rd_iList ?_
    refine rd_var rfl ?_
    obtain ⟨w2045, h2046, k2047⟩ := li f1914
    refine ⟨_, rfl, ⟨_, SqL.of (S2042.sub _ _ h2046)⟩, ?_⟩
    intro D2048 h2049
    obtain ⟨l2072, h2073, h⟩ := bnd h
    refine q_lcL (enc := (eT2 eI eS)) (F0 := H0) h2073 (w_li k2047) S2042 h2049 S2042.old ?_ ?_ ?_
    · rintro GD2048 HD2048 accD2048 SD2048 sD2048
      exact (SD2048.sub _ _ (sD2048 _ _ h2046))
    · rintro i2051 x2052 a2050 o2061 G2055 H2053 H2054 acc2060 h2058 h S2056 s2057 h2059 T F hT hF
      have f1914 := f1914.same s2057
      have f2005 := f2005.same s2057
      have f2044 := f2044.same s2057
      have sT2062 := Same.refl G2055
      obtain ⟨rfl, e2064⟩ := h2059
      have f2065 := (e2064 _ h2058).same s2057
      obtain ⟨a2066, rfl⟩ := fr_tup f2065
      refine rd_nameS (σ' := [some (.ref a1913), some (.int x_person), some (.str y1957), some (.ref D1967), none, none, some (.ref a2066)]) rfl ?_
      refine ⟨rfl, ?_⟩
      refine rd_test ?_
      refine rd_op ?_
      refine rd_op ?_
      refine rd_var rfl ?_
      refine rd_c ?_
      obtain ⟨v2067, v2068, h2071, f2069, f2070⟩ := tu2 f2065
      cases fr_int f2069
      cases fr_str f2070
      refine rd_ixT (S2056.sub _ _ h2071) rfl ?_
      refine rd_var rfl ?_
      refine q_neI ?_
      refine rd_bl ?_
      rcases cnd h with ⟨c2074, h⟩ | ⟨c2074, h⟩
      ·
        refine iteY c2074 ?_
        refine rd_var rfl ?_
        cases h
        exact hT _ _ _ _ rfl S2056 sT2062 (f2065.imm ((flT2 flI flS) _))
      ·
        refine iteN c2074 ?_
        cases h
        exact hF _ _ rfl S2056 sT2062
    rintro G2075 H2076 w2077 S2078 s2079 f2080 n2081 n2082
    have f1914 := f1914.same s2079
    have f2005 := f2005.same s2079
    have f2044 := f2044.same s2079
    obtain ⟨G2083, S2084, s2085, f2086⟩ := S2078.fixF 0 rfl (by simp) f2080 n2082
    have f1914 := f1914.same s2085
    have f2005 := f2005.same s2085
    have f2044 := f2044.same s2085
    obtain ⟨y2087, h2088, h⟩ := bnd h
    obtain ⟨w2089, h2090, k2091⟩ := li f2044
    obtain ⟨w2092, h2093, k2094⟩ := li f2086
    refine q_cat S2084 (S2084.sub _ _ h2090) k2091 (S2084.sub _ _ h2093) k2094 h2088 S2084.old fun a2095 G2098 H2096 S2097 s2099 f2100 => ?_
    have f1914 := f1914.same s2099
    have f2005 := f2005.same s2099
    cases h
    exact kq a2095 _ _ S2097.toRet f2100
end
end K37

namespace K37
open PySem L2 LX LQ
section
variable {P : Program} {w : World} {K : PySem.W.Frag} {mg : Str → Option Value} {base : Heap} {a : Ad}
open LQF
def sp__law_search (K : PySem.W.Frag) : Sp := fun vs H Q _ => ∃ (a2101 : Addr) (x_line : (List (Int × Str))) (x_wanted : Str), vs = [.ref a2101, (.str x_wanted)] ∧ Fr E0h H (.ref a2101) ((eL (eT2 eI eS)) x_line) ∧ ∃ r, F__law_search x_line x_wanted = some r ∧ ∀ (a : V) (G H' : Hp), Ret [] H G H' → Fr H G a (eA (r)) → Q a H'
theorem ok__law_search (T : Txt K mg a) : FnOk P w K mg base CX0 2 a.f__law_search a.d__law_search ["line", "wanted"] (sp__law_search K) := by
  refine T.F__law_search.ok sc__law_search (fun vs H Q E h => ?_) (fun cdv A outer s H0 vs Q E hr h => ?_)
  · obtain ⟨a2101, x_line, x_wanted, rfl, _⟩ := h
    rfl
  · obtain ⟨a2101, x_line, x_wanted, rfl, f2102, r, h, kq⟩ := h
    have nd := sc__law_search.nd
    have hu64 := hr.units
    have hu65 := units65 hr
    refine ⟨_, (pss_cons (ps_set (i := 2) nd rfl (Or.inl rfl) (pe_disp1N hu64 (pe_tupleOf rfl T.b_tuple (pv 0)) pe_bl))
      (pss_cons (ps_set (i := 3) nd rfl (Or.inl rfl) (pe_lst (pa_cons (pv 0) pa_nil)))
      (pss_cons (ps_for PassesOwn.never rfl (pi_range1 rfl T.b_range (pa_cons pe_int pa_nil)) (pg_name (i := 4) nd rfl (Or.inl rfl)) (pss_cons (ps_for PassesOwn.never rfl (kpi_list (K := K) (pv 3)) (pg_name (i := 5) nd rfl (Or.inl rfl)) (pss_cons (ps_set (i := 6) nd rfl (Or.inr rfl) (pe_lc (own := [("person", 8), ("letter", 10)]) (g := gTup K 2 (gCons (gName 8) (gCons (gName 10) gNil))) (tt := tYes) rfl nd (kpi_list (K := K) (pv 5)) (blkOk_by (own := [("person", 8), ("letter", 10)]) (N := ["line", "wanted", "seen", "layer", "many", "here", "there", "later", "person", "after", "letter", "one"]) (sc := defScope s__law_search) (by decide +kernel)) (fun _ _ _ _ _ => (kpg_tup (K := K) rfl (pgs_cons (pg_name (i := 8) nd rfl (Or.inl rfl)) (pgs_cons (pg_name (i := 10) nd rfl (Or.inl rfl)) pgs_nil)))) (fun _ _ _ _ _ => pts_nil) (fun _ _ _ _ _ => (pv 10))))
      (pss_one (ps_if (pt_cmpR (keqD (K := K) hu64) (pe_lc (own := [("one", 11)]) (g := gName 11) rfl nd (kpi_list (K := K) (pv 6)) (blkOk_by (own := [("one", 11)]) (N := ["line", "wanted", "seen", "layer", "many", "here", "there", "later", "person", "after", "letter", "one"]) (sc := defScope s__law_search) (by decide +kernel)) (fun _ _ _ _ _ => (pg_name (i := 11) nd rfl (Or.inl rfl))) (fun _ _ _ _ _ => pts_one (pt_cmpR knotInT (pv 11) (pe_ifExp (pt_cmpR op_ne (pv 1) pe_str (nomark _)) (pv 1) (pe_ix (kix_list (K := K)) (pv 6) pe_int (fun _ _ => rfl))) rfl)) (fun _ _ _ _ _ => (pv 11))) (pe_lst pa_nil) (nomark _)) (pss_one (ps_ret (pv 4))) pss_nil))))
      (pss_cons (ps_set (i := 7) nd rfl (Or.inl rfl) (pe_lst pa_nil))
      (pss_cons (ps_for PassesOwn.never rfl (kpi_list (K := K) (pv 3)) (pg_name (i := 5) nd rfl (Or.inl rfl)) (pss_one (ps_for PassesOwn.never rfl (pi_range1 rfl T.b_range (pa_cons (pe_callB (klen (K := K)) (by rfl) T.b_len (by decide +kernel) (pa_cons (pv 0) pa_nil)) pa_nil)) (pg_name (i := 8) nd rfl (Or.inl rfl)) (pss_cons (ps_set (i := 9) nd rfl (Or.inl rfl) (pe_call (ok__law_after T) (hr.mono (by decide)) rfl T.g__law_after T.k__law_after T.n__law_after .nil pass0 (pa_cons (pv 5) (pa_cons (pv 8) pa_nil))))
      (pss_one (ps_if (pt_cmp (pc_dnotinN hu64 (pe_tupleOf rfl T.b_tuple (pv 9)) (pv 2)) rfl) (pss_cons (ps_dputN hu64 (pv 2) (pe_tupleOf rfl T.b_tuple (pv 9)) pe_bl rfl)
      (pss_one (ps_expr (kbm (K := K) PySem.F.plainAttrs_list PySem.F.slot_list_append PySem.F.type_list_append mt_append (pv 7) (pa_cons (pv 9) pa_nil))))) pss_nil))))))
      (pss_one (ps_set (i := 3) nd rfl (Or.inl rfl) (pv 7)))))))
      (pss_one (ps_ret pe_str))))), ?_⟩
    unfold F__law_search at h
    have S0 := Sep.start H0
    refine rd_seq ?_
    refine rd_asg ?_
    refine rd_disp1 fun a2103 h2104 => ?_
    obtain ⟨S2105, n2106⟩ := q_disp0 (P := P) (w := w) S0 h2104
    have f2108 : FrN kRow eB H0 H0 [] (([] : (List ((List (Int × Str)) × Bool)))) := .nil
    refine rd_tupZ2 ?_
    refine rd_var rfl ?_
    obtain ⟨w2109, h2110, k2111⟩ := li f2102
    refine q_tuple S2105 (S2105.sub _ _ h2110) k2111 fun a2112 G2113 H2114 S2115 s2116 f2117 => ?_
    have f2102 := f2102.same s2116
    have f2108 := f2108.same s2116
    refine rd_c ?_
    refine q_disp1 (F0 := H0) kkRow S2115 f2117.rp (.bl _) fun w2118 H2119 S2120 f2121 => ?_
    have S2120 : Sep [] H0 G2113 H2119 [(a2103, DN P w a2103 w2118)] := S2120
    refine rd_nameS (σ' := [some (.ref a2101), some (.str x_wanted), some (.ref a2103), none, none, none, none, none, none, none, none, none]) rfl ?_
    refine rd_mk ?_
    refine rd_seq ?_
    refine rd_asg ?_
    refine rd_lstZ ?_
    refine rd_cons ?_
    refine rd_var rfl ?_
    refine rd_nil ?_
    refine q_lst (F0 := E0h) (ds := [(eL (eT2 eI eS)) x_line]) S2120 (by show 1 ≤ LIM; decide) (.cons f2102 .nil) (fun _ _ => rfl) fun a2122 G2123 H2124 S2125 s2126 f2127 => ?_
    have f2102 := f2102.same s2126
    have f2121 := f2121.same s2126
    replace f2127 : Fr E0h G2123 (.ref a2122) ((eL (eL (eT2 eI eS))) [x_line]) := f2127
    refine rd_nameS (σ' := [some (.ref a2101), some (.str x_wanted), some (.ref a2103), some (.ref a2122), none, none, none, none, none, none, none, none]) rfl ?_
    refine rd_mk ?_
    refine rd_seq ?_
    refine rd_for ?_
    refine rd_iR1 ?_
    refine rd_cons ?_
    refine rd_c ?_
    refine rd_nil ?_
    obtain ⟨l2128, h2129, h⟩ := bnd h
    refine q_rng1 h2129 ?_
    obtain ⟨r2156_, h2157, ho2155⟩ := bnd h
    refine q_forC h2157 (w_rng1 h2129) (fun s2131 σ' H' => ∃ (x2143 : Option V) (x2144 : Option V) (x2145 : Option V) (x2146 : Option V) (x2147 : Option V) (x2148 : Option V) (a2149 : Addr) (w2151 : NKv) (G2139 : Hp), σ' = [some (.ref a2101), some (.str x_wanted), some (.ref a2103), some (.ref a2149), x2143, x2144, x2145, x2146, x2147, x2148, none, none] ∧ Sep [] H0 G2139 H' [(a2103, DN P w a2103 w2151)] ∧ Same G2123 G2139 ∧ Fr E0h G2139 (.ref a2149) ((eL (eL (eT2 eI eS))) s2131.1) ∧ FrN kRow eB H0 G2139 w2151 (s2131.2)) ?_ ?_ ?_ ?_
    · exact ⟨_, _, _, _, _, _, a2122, w2118, G2123, rfl, S2125, Same.refl _, f2127, f2121⟩
    · rintro s2131 _ H2140 ⟨x2143, x2144, x2145, x2146, x2147, x2148, a2149, w2151, G2139, rfl, S2141, sE2142, f2150, f2152⟩
      exact trivial
    · rintro i2132 a2130 s2131 c2138 x2134 _ H2140 H2135 h2136 h ⟨x2143, x2144, x2145, x2146, x2147, x2148, a2149, w2151, G2139, rfl, S2141, sE2142, f2150, f2152⟩ h2137 hq2153 kb2154
      have f2102 := f2102.same sE2142
      obtain ⟨rfl, e2158⟩ := h2137
      cases e2158 _ h2136
      refine rd_nameS (σ' := [some (.ref a2101), some (.str x_wanted), some (.ref a2103), some (.ref a2149), some (.int a2130), x2144, x2145, x2146, x2147, x2148, none, none]) rfl ?_
      refine rd_seq ?_
      refine rd_for ?_
      refine rd_iList ?_
      refine rd_var rfl ?_
      obtain ⟨w2159, h2160, k2161⟩ := li f2150
      refine ⟨_, rfl, ⟨_, SqL.of (S2141.sub _ _ h2160)⟩, ?_⟩
      obtain ⟨r2180_, h2181, ho2179⟩ := bnd h
      refine q_forC h2181 (w_li k2161) (fun s2163 σ' H' => ∃ (x2175 : Option V) (x2176 : Option V) (G2171 : Hp), σ' = [some (.ref a2101), some (.str x_wanted), some (.ref a2103), some (.ref a2149), some (.int a2130), x2175, x2176, x2146, x2147, x2148, none, none] ∧ Sep [] H0 G2171 H' [(a2103, DN P w a2103 w2151)] ∧ Same G2139 G2171) ?_ ?_ ?_ ?_
      · exact ⟨_, _, G2139, rfl, S2141, Same.refl _⟩
      · rintro s2163 _ H2172 ⟨x2175, x2176, G2171, rfl, S2173, sE2174⟩
        exact (S2173.sub _ _ (sE2174 _ _ h2160))
      · rintro i2164 a2162 s2163 c2170 x2166 _ H2172 H2167 h2168 h ⟨x2175, x2176, G2171, rfl, S2173, sE2174⟩ h2169 hq2177 kb2178
        have f2102 := f2102.same sE2174
        have f2150 := f2150.same sE2174
        have f2152 := f2152.same sE2174
        obtain ⟨rfl, e2182⟩ := h2169
        have f2183 := (e2182 _ h2168).same sE2174
        obtain ⟨a2184, rfl⟩ := fr_lst f2183
        refine rd_nameS (σ' := [some (.ref a2101), some (.str x_wanted), some (.ref a2103), some (.ref a2149), some (.int a2130), some (.ref a2184), x2176, x2146, x2147, x2148, none, none]) rfl ?_
        refine rd_seq ?_
        refine rd_asg ?_
        refine rd_lc ?_
        refine rd_iList ?_
        refine rd_var rfl ?_
        obtain ⟨w2185, h2186, k2187⟩ := li f2183
        refine ⟨_, rfl, ⟨_, SqL.of (S2173.sub _ _ h2186)⟩, ?_⟩
        intro D2188 h2189
        obtain ⟨l2212, h2213, h⟩ := bnd h
        refine q_lcL (enc := eS) (F0 := H0) h2213 (w_li k2187) S2173 h2189 S2173.old ?_ ?_ ?_
        · rintro GD2188 HD2188 accD2188 SD2188 sD2188
          exact (SD2188.sub _ _ (sD2188 _ _ h2186))
        · rintro i2191 x2192 a2190 o2201 G2195 H2193 H2194 acc2200 h2198 h S2196 s2197 h2199 T F hT hF
          have f2102 := f2102.same s2197
          have f2150 := f2150.same s2197
          have f2183 := f2183.same s2197
          have f2152 := f2152.same s2197
          have sT2202 := Same.refl G2195
          obtain ⟨rfl, e2204⟩ := h2199
          have f2205 := (e2204 _ h2198).same s2197
          obtain ⟨a2206, rfl⟩ := fr_tup f2205
          obtain ⟨v2207, v2208, h2211, f2209, f2210⟩ := tu2 f2205
          cases fr_int f2209
          cases fr_str f2210
          refine rd_gtup (S2196.sub _ _ h2211) rfl ?_
          refine rd_gcons ?_
          refine rd_nameS (σ' := [some (.ref a2101), some (.str x_wanted), some (.ref a2103), some (.ref a2149), some (.int a2130), some (.ref a2184), x2176, x2146, some (.int a2190.1), x2148, none, none]) rfl ?_
          refine rd_gcons ?_
          refine rd_nameS (σ' := [some (.ref a2101), some (.str x_wanted), some (.ref a2103), some (.ref a2149), some (.int a2130), some (.ref a2184), x2176, x2146, some (.int a2190.1), x2148, some (.str a2190.2), none]) rfl ?_
          refine rd_gnil ?_
          refine ⟨rfl, ?_⟩
          refine rd_tyes ?_
          refine iteY rfl ?_
          refine rd_var rfl ?_
          cases h
          exact hT _ _ _ _ rfl S2196 sT2202 (.str _)
        rintro G2214 H2215 w2216 S2217 s2218 f2219 n2220 n2221
        have f2102 := f2102.same s2218
        have f2150 := f2150.same s2218
        have f2183 := f2183.same s2218
        have f2152 := f2152.same s2218
        have sE2174 := sE2174.trans s2218
        obtain ⟨G2222, S2223, s2224, f2225⟩ := S2217.fixF 0 rfl (by simp) f2219 n2221
        have f2102 := f2102.same s2224
        have f2150 := f2150.same s2224
        have f2183 := f2183.same s2224
        have f2152 := f2152.same s2224
        have sE2174 := sE2174.trans s2224
        refine rd_nameS (σ' := [some (.ref a2101), some (.str x_wanted), some (.ref a2103), some (.ref a2149), some (.int a2130), some (.ref a2184), some (.ref D2188), x2146, x2147, x2148, none, none]) rfl ?_
        refine rd_mk ?_
        refine rd_ifS ?_
        refine rd_test ?_
        refine rd_op ?_
        refine rd_lc ?_
        refine rd_iList ?_
        refine rd_var rfl ?_
        obtain ⟨w2226, h2227, k2228⟩ := li f2225
        refine ⟨_, rfl, ⟨_, SqL.of (S2223.sub _ _ h2227)⟩, ?_⟩
        intro D2229 h2230
        obtain ⟨l2271, h2272, h⟩ := bnd h
        refine q_lcL (enc := eS) (F0 := H0) h2272 (w_li k2228) S2223 h2230 S2223.old ?_ ?_ ?_
        · rintro GD2229 HD2229 accD2229 SD2229 sD2229
          exact (SD2229.sub _ _ (sD2229 _ _ h2227))
        · rintro i2232 x2233 a2231 o2242 G2236 H2234 H2235 acc2241 h2239 h S2237 s2238 h2240 T F hT hF
          have f2102 := f2102.same s2238
          have f2150 := f2150.same s2238
          have f2225 := f2225.same s2238
          have f2152 := f2152.same s2238
          have sT2243 := Same.refl G2236
          obtain ⟨rfl, e2245⟩ := h2240
          have f2246 := (e2245 _ h2239).same s2238
          cases fr_str f2246
          refine rd_nameS (σ' := [some (.ref a2101), some (.str x_wanted), some (.ref a2103), some (.ref a2149), some (.int a2130), some (.ref a2184), some (.ref D2188), x2146, x2147, x2148, none, some (.str a2231)]) rfl ?_
          refine ⟨rfl, ?_⟩
          refine rd_test ?_
          refine rd_op ?_
          refine rd_var rfl ?_
          obtain ⟨y2262, h2263, h⟩ := bnd h
          refine rd_teM2 (fun k H' => ∃  (G2264 : Hp), k = (.str y2262) ∧ Sep [] H0 G2264 H' [(D2229, .lst acc2241), (a2103, DN P w a2103 w2151)] ∧ Same G2236 G2264) (fun R q => ?_) ?_
          ·
            have sE2247 := Same.refl G2236
            have h := h2263
            refine rd_ifE ?_
            refine rd_test ?_
            refine rd_op ?_
            refine rd_var rfl ?_
            refine rd_c ?_
            refine q_neS ?_
            refine rd_bl ?_
            rcases cnd h with ⟨c2268, h⟩ | ⟨c2268, h⟩
            ·
              refine iteY c2268 ?_
              refine rd_var rfl ?_
              cases h
              exact q _ _ ⟨G2236, rfl, S2237, sE2247⟩
            ·
              refine iteN c2268 ?_
              refine rd_op ?_
              refine rd_var rfl ?_
              refine rd_c ?_
              obtain ⟨y2255, h2256, h⟩ := bnd h
              obtain ⟨w2257, h2258, k2259⟩ := li f2225
              refine q_ixL (S2237.sub _ _ h2258) k2259 h2256 fun v2260 f2261 => ?_
              cases fr_str f2261
              cases h
              exact q _ _ ⟨G2236, rfl, S2237, sE2247⟩
          rintro _ H2265 ⟨G2264, rfl, S2266, s2267⟩
          have f2102 := f2102.same s2267
          have f2150 := f2150.same s2267
          have f2225 := f2225.same s2267
          have f2152 := f2152.same s2267
          have sT2243 := sT2243.trans s2267
          obtain ⟨b2269, h2270, h⟩ := bnd h
          refine q_niT h2270 ?_
          refine rd_bl ?_
          rcases cnd h with ⟨c2273, h⟩ | ⟨c2273, h⟩
          ·
            refine iteY c2273 ?_
            refine rd_var rfl ?_
            cases h
            exact hT _ _ _ _ rfl S2266 sT2243 (.str _)
          ·
            refine iteN c2273 ?_
            cases h
            exact hF _ _ rfl S2266 sT2243
        rintro G2274 H2275 w2276 S2277 s2278 f2279 n2280 n2281
        have f2102 := f2102.same s2278
        have f2150 := f2150.same s2278
        have f2225 := f2225.same s2278
        have f2152 := f2152.same s2278
        have sE2174 := sE2174.trans s2278
        obtain ⟨G2282, S2283, s2284, f2285⟩ := S2277.fixF 0 rfl (by simp) f2279 n2281
        have f2102 := f2102.same s2284
        have f2150 := f2150.same s2284
        have f2225 := f2225.same s2284
        have f2152 := f2152.same s2284
        have sE2174 := sE2174.trans s2284
        refine rd_lstZ ?_
        refine rd_nil ?_
        refine q_lst (F0 := H0) (ds := []) S2283 (by show 0 ≤ LIM; decide) .nil S2283.old fun a2286 G2287 H2288 S2289 s2290 f2291 => ?_
        have f2102 := f2102.same s2290
        have f2150 := f2150.same s2290
        have f2225 := f2225.same s2290
        have f2285 := f2285.same s2290
        have f2152 := f2152.same s2290
        have sE2174 := sE2174.trans s2290
        replace f2291 : Fr H0 G2287 (.ref a2286) ((eL eA) ([] : (List PyData))) := f2291
        obtain ⟨b2292, h2293, h⟩ := bnd h
        refine q_eqD (f2285.rp.same S2289.sub) (f2291.rp.same S2289.sub) h2293 ?_
        refine rd_bl ?_
        rcases cnd h with ⟨c2296, h⟩ | ⟨c2296, h⟩
        ·
          refine iteY c2296 ?_
          refine rd_ret ?_
          refine rd_var rfl ?_
          cases h
          have e2294 := hq2177 _ rfl
          subst e2294
          cases (show some (Ctl.ret (eI a2130)) = some _ from ho2179)
          have e2295 := hq2153 _ rfl
          subst e2295
          cases (show some ((eI a2130)) = some _ from ho2155)
          exact kq (.int a2130) _ _ S2289.toRet (show Fr H0 _ (.int a2130) (eI a2130) from (.int _))
        ·
          refine iteN c2296 ?_
          refine rd_next ?_
          cases h
          exact ⟨_, rfl, _, _, G2287, rfl, S2289, sE2174⟩
      rintro r2180 _ H2298 rfl ⟨x2301, x2302, G2297, rfl, S2299, sE2300⟩
      have h := ho2179
      have f2102 := f2102.same sE2300
      have f2150 := f2150.same sE2300
      have f2152 := f2152.same sE2300
      have sE2142 := sE2142.trans sE2300
      refine rd_mk ?_
      refine rd_seq ?_
      refine rd_asg ?_
      refine rd_lstZ ?_
      refine rd_nil ?_
      refine q_lstO S2299 (by show 0 ≤ LIM; decide) fun a2303 H2304 S2305 n2306 => ?_
      have f2307 : FrL H0 G2297 [] (([] : (List (List (Int × Str)))).map (eL (eT2 eI eS))) := .nil
      refine rd_nameS (σ' := [some (.ref a2101), some (.str x_wanted), some (.ref a2103), some (.ref a2149), some (.int a2130), x2301, x2302, some (.ref a2303), x2147, x2148, none, none]) rfl ?_
      refine rd_mk ?_
      refine rd_seq ?_
      refine rd_for ?_
      refine rd_iList ?_
      refine rd_var rfl ?_
      obtain ⟨w2308, h2309, k2310⟩ := li f2150
      refine ⟨_, rfl, ⟨_, SqL.of (S2305.sub _ _ h2309)⟩, ?_⟩
      obtain ⟨r2334, h2335, h⟩ := bnd h
      refine q_forF h2335 (w_li k2310) (fun s2312 σ' H' => ∃ (x2324 : Option V) (x2325 : Option V) (x2326 : Option V) (w2327 : List V) (w2329 : NKv) (G2320 : Hp), σ' = [some (.ref a2101), some (.str x_wanted), some (.ref a2103), some (.ref a2149), some (.int a2130), x2324, x2302, some (.ref a2303), x2325, x2326, none, none] ∧ Sep [] H0 G2320 H' [(a2303, .lst w2327), (a2103, DN P w a2103 w2329)] ∧ Same G2297 G2320 ∧ FrL H0 G2320 w2327 ((s2312.1).map (eL (eT2 eI eS))) ∧ FrN kRow eB H0 G2320 w2329 (s2312.2)) ?_ ?_ ?_ ?_
      · exact ⟨_, _, _, [], w2151, G2297, rfl, S2305, Same.refl _, f2307, f2152⟩
      · rintro s2312 _ H2321 ⟨x2324, x2325, x2326, w2327, w2329, G2320, rfl, S2322, sE2323, f2328, f2330⟩
        exact (S2322.sub _ _ (sE2323 _ _ h2309))
      · rintro i2313 a2311 s2312 s2314 x2315 _ H2321 H2316 h2317 h ⟨x2324, x2325, x2326, w2327, w2329, G2320, rfl, S2322, sE2323, f2328, f2330⟩ h2318
        have f2102 := f2102.same sE2323
        obtain ⟨rfl, e2336⟩ := h2318
        have f2337 := (e2336 _ h2317).same sE2323
        obtain ⟨a2338, rfl⟩ := fr_lst f2337
        refine rd_nameS (σ' := [some (.ref a2101), some (.str x_wanted), some (.ref a2103), some (.ref a2149), some (.int a2130), some (.ref a2338), x2302, some (.ref a2303), x2325, x2326, none, none]) rfl ?_
        refine rd_for ?_
        refine rd_iR1 ?_
        refine rd_cons ?_
        refine rd_cb ?_
        refine rd_cons ?_
        refine rd_var rfl ?_
        refine rd_nil ?_
        obtain ⟨w2339, h2340, k2341⟩ := li f2102
        refine q_len (S2322.sub _ _ h2340) k2341 ?_
        refine rd_nil ?_
        obtain ⟨l2342, h2343, h⟩ := bnd h
        refine q_rng1 h2343 ?_
        obtain ⟨r2366, h2367, h⟩ := bnd h
        refine q_forF h2367 (w_rng1 h2343) (fun s2345 σ' H' => ∃ (x2357 : Option V) (x2358 : Option V) (w2359 : List V) (w2361 : NKv) (G2353 : Hp), σ' = [some (.ref a2101), some (.str x_wanted), some (.ref a2103), some (.ref a2149), some (.int a2130), some (.ref a2338), x2302, some (.ref a2303), x2357, x2358, none, none] ∧ Sep [] H0 G2353 H' [(a2303, .lst w2359), (a2103, DN P w a2103 w2361)] ∧ Same G2320 G2353 ∧ FrL H0 G2353 w2359 ((s2345.1).map (eL (eT2 eI eS))) ∧ FrN kRow eB H0 G2353 w2361 (s2345.2)) ?_ ?_ ?_ ?_
        · exact ⟨_, _, w2327, w2329, G2320, rfl, S2322, Same.refl _, f2328, f2330⟩
        · rintro s2345 _ H2354 ⟨x2357, x2358, w2359, w2361, G2353, rfl, S2355, sE2356, f2360, f2362⟩
          exact trivial
        · rintro i2346 a2344 s2345 s2347 x2348 _ H2354 H2349 h2350 h ⟨x2357, x2358, w2359, w2361, G2353, rfl, S2355, sE2356, f2360, f2362⟩ h2351
          have f2102 := f2102.same sE2356
          have f2337 := f2337.same sE2356
          obtain ⟨rfl, e2368⟩ := h2351
          cases e2368 _ h2350
          refine rd_nameS (σ' := [some (.ref a2101), some (.str x_wanted), some (.ref a2103), some (.ref a2149), some (.int a2130), some (.ref a2338), x2302, some (.ref a2303), some (.int a2344), x2358, none, none]) rfl ?_
          refine rd_seq ?_
          refine rd_asg ?_
          refine rd_call ?_
          refine rd_cons ?_
          refine rd_var rfl ?_
          refine rd_cons ?_
          refine rd_var rfl ?_
          refine rd_nil ?_
          obtain ⟨y2369, h2370, h⟩ := bnd h
          refine ⟨a2338, a2311, a2344, rfl, (f2337.same S2355.sub), y2369, h2370, fun a2374 G2371 H2372 R2373 f2375 => ?_⟩
          obtain ⟨G2376, S2377, s2378, t2379, l2380⟩ := S2355.ret0 R2373
          have f2102 := f2102.same s2378
          have f2337 := f2337.same s2378
          have f2360 := f2360.same s2378
          have f2362 := f2362.same s2378
          have sE2356 := sE2356.trans s2378
          have f2375 := t2379 _ _ f2375
          refine rd_nameS (σ' := [some (.ref a2101), some (.str x_wanted), some (.ref a2103), some (.ref a2149), some (.int a2130), some (.ref a2338), x2302, some (.ref a2303), some (.int a2344), some (.ref a2374), none, none]) rfl ?_
          refine rd_mk ?_
          refine rd_ifS ?_
          refine rd_test ?_
          refine rd_dniN ?_
          refine rd_tupZ2 ?_
          refine rd_var rfl ?_
          obtain ⟨w2381, h2382, k2383⟩ := li f2375
          refine q_tuple S2377 (S2377.sub _ _ h2382) k2383 fun a2384 G2385 H2386 S2387 s2388 f2389 => ?_
          have f2102 := f2102.same s2388
          have f2337 := f2337.same s2388
          have f2375 := f2375.same s2388
          have f2360 := f2360.same s2388
          have f2362 := f2362.same s2388
          have sE2356 := sE2356.trans s2388
          refine rd_var rfl ?_
          refine q_dniN kkRow S2387 1 rfl f2362 (f2389.rp.same S2387.sub) ?_
          refine rd_bl ?_
          rcases cnd h with ⟨c2411, h⟩ | ⟨c2411, h⟩
          ·
            refine iteY c2411 ?_
            refine rd_seq ?_
            refine rd_dputN ?_
            refine rd_c ?_
            refine rd_var rfl ?_
            refine rd_tupZ2 ?_
            refine rd_var rfl ?_
            obtain ⟨w2390, h2391, k2392⟩ := li f2375
            refine q_tuple S2387 (S2387.sub _ _ h2391) k2392 fun a2393 G2394 H2395 S2396 s2397 f2398 => ?_
            have f2102 := f2102.same s2397
            have f2337 := f2337.same s2397
            have f2375 := f2375.same s2397
            have f2360 := f2360.same s2397
            have f2362 := f2362.same s2397
            have sE2356 := sE2356.trans s2397
            obtain ⟨l2399, h2400, h⟩ := bnd h
            refine q_dputN kkRow S2396 1 rfl f2362 f2398.rp (.bl _) h2400 fun w2401 H2402 S2403 f2404 => ?_
            have S2403 : Sep [] H0 G2394 H2402 [(a2303, .lst w2359), (a2103, DN P w a2103 w2401)] := S2403
            refine rd_mk ?_
            refine rd_drop ?_
            refine rd_bm ?_
            refine rd_var rfl ?_
            refine ⟨Or.inl ⟨rfl, _, SqL.of (S2403.get 0 rfl)⟩, ?_⟩
            refine rd_cons ?_
            refine rd_var rfl ?_
            refine rd_nil ?_
            obtain ⟨l2405, h2406, h⟩ := bnd h
            refine q_app S2403 0 rfl f2360 f2375 h2406 fun w2407 H2408 S2409 f2410 => ?_
            have S2409 : Sep [] H0 G2394 H2408 [(a2303, .lst w2407), (a2103, DN P w a2103 w2401)] := S2409
            cases h
            exact ⟨_, _, w2407, w2401, G2394, rfl, S2409, sE2356, f2410, f2404⟩
          ·
            refine iteN c2411 ?_
            refine rd_next ?_
            cases h
            exact ⟨_, _, w2359, w2361, G2385, rfl, S2387, sE2356, f2360, f2362⟩
        rintro _ H2413 ⟨x2416, x2417, w2418, w2420, G2412, rfl, S2414, sE2415, f2419, f2421⟩
        have f2102 := f2102.same sE2415
        have f2337 := f2337.same sE2415
        have sE2323 := sE2323.trans sE2415
        cases h
        exact ⟨_, _, _, w2418, w2420, G2412, rfl, S2414, sE2323, f2419, f2421⟩
      rintro _ H2423 ⟨x2426, x2427, x2428, w2429, w2431, G2422, rfl, S2424, sE2425, f2430, f2432⟩
      have f2102 := f2102.same sE2425
      have sE2142 := sE2142.trans sE2425
      refine rd_mk ?_
      refine rd_asg ?_
      refine rd_var rfl ?_
      obtain ⟨G2433, S2434, s2435, f2436⟩ := S2424.fixL 0 rfl (by simp) f2430 n2306
      have f2102 := f2102.same s2435
      have f2432 := f2432.same s2435
      have sE2142 := sE2142.trans s2435
      refine rd_nameS (σ' := [some (.ref a2101), some (.str x_wanted), some (.ref a2103), some (.ref a2303), some (.int a2130), x2426, x2302, some (.ref a2303), x2427, x2428, none, none]) rfl ?_
      cases h
      exact ⟨_, rfl, _, _, _, _, _, _, a2303, w2431, G2433, rfl, S2434, sE2142, f2436.rp, f2432⟩
    rintro r2156 _ H2438 rfl ⟨x2441, x2442, x2443, x2444, x2445, x2446, a2447, w2449, G2437, rfl, S2439, sE2440, f2448, f2450⟩
    have h := ho2155
    have f2102 := f2102.same sE2440
    refine rd_mk ?_
    refine rd_ret ?_
    refine rd_c ?_
    cases h
    exact kq (.str (Str.ofString "odd")) _ _ S2439.toRet (show Fr H0 _ (.str (Str.ofString "odd")) (eS (Str.ofString "odd")) from (.str _))
end
end K37

namespace K37
open PySem L2 LX LQ
section
variable {P : Program} {w : World} {K : PySem.W.Frag} {mg : Str → Option Value} {base : Heap} {a : Ad}
open LQF
def sp__law_letters (K : PySem.W.Frag) : Sp := fun vs H Q _ => ∃ (a2451 : Addr) (x_line : (List (Int × Str))), vs = [.ref a2451] ∧ Fr E0h H (.ref a2451) ((eL (eT2 eI eS)) x_line) ∧ ∃ r, F__law_letters x_line = some r ∧ ∀ (a : Addr) (G H' : Hp), Ret [] H G H' → Fr H G (.ref a) ((eL eS) (r)) → Q (.ref a) H'
theorem ok__law_letters (T : Txt K mg a) : FnOk P w K mg base CX0 1 a.f__law_letters a.d__law_letters ["line"] (sp__law_letters K) := by
  refine T.F__law_letters.ok sc__law_letters (fun vs H Q E h => ?_) (fun cdv A outer s H0 vs Q E hr h => ?_)
  · obtain ⟨a2451, x_line, rfl, _⟩ := h
    rfl
  · obtain ⟨a2451, x_line, rfl, f2452, r, h, kq⟩ := h
    have nd := sc__law_letters.nd
    have hu64 := hr.units
    have hu65 := units65 hr
    refine ⟨_, (pss_cons (ps_set (i := 1) nd rfl (Or.inl rfl) pe_dnewK)
      (pss_cons (ps_for PassesOwn.never rfl (kpi_list (K := K) (pv 0)) (kpg_tup (K := K) rfl (pgs_cons (pg_name (i := 2) nd rfl (Or.inl rfl)) (pgs_cons (pg_name (i := 3) nd rfl (Or.inl rfl)) pgs_nil))) (pss_one (ps_dput (u1_of hu64) (pv 1) (pv 3) pe_bl rfl)))
      (pss_one (ps_ret (pe_callTy (klistD rfl) (by rfl) T.b_list (by decide +kernel) (pa_cons (pv 1) pa_nil)))))), ?_⟩
    unfold F__law_letters at h
    have S0 := Sep.start H0
    refine rd_seq ?_
    refine rd_asg ?_
    refine rd_dnewZ ?_
    refine q_dnewO S0 fun a2453 H2454 S2455 n2456 => ?_
    have f2457 : FrK H0 H0 [] ((([] : (List (Str × Bool)))).map fun p => (dKey (kS p.1), eB p.2)) := .nil
    refine rd_nameS (σ' := [some (.ref a2451), some (.ref a2453), none, none]) rfl ?_
    refine rd_mk ?_
    refine rd_seq ?_
    refine rd_for ?_
    refine rd_iList ?_
    refine rd_var rfl ?_
    obtain ⟨w2458, h2459, k2460⟩ := li f2452
    refine ⟨_, rfl, ⟨_, SqL.of (S2455.sub _ _ h2459)⟩, ?_⟩
    obtain ⟨r2481, h2482, h⟩ := bnd h
    refine q_forF h2482 (w_li k2460) (fun s2462 σ' H' => ∃ (x2474 : Option V) (x2475 : Option V) (w2476 : List (Key × V)) (G2470 : Hp), σ' = [some (.ref a2451), some (.ref a2453), x2474, x2475] ∧ Sep [] H0 G2470 H' [(a2453, .dK w2476)] ∧ Same H0 G2470 ∧ FrK H0 G2470 w2476 ((s2462).map fun p => (dKey (kS p.1), eB p.2))) ?_ ?_ ?_ ?_
    · exact ⟨_, _, [], H0, rfl, S2455, Same.refl _, f2457⟩
    · rintro s2462 _ H2471 ⟨x2474, x2475, w2476, G2470, rfl, S2472, sE2473, f2477⟩
      exact (S2472.sub _ _ (sE2473 _ _ h2459))
    · rintro i2463 a2461 s2462 s2464 x2465 _ H2471 H2466 h2467 h ⟨x2474, x2475, w2476, G2470, rfl, S2472, sE2473, f2477⟩ h2468
      obtain ⟨rfl, e2483⟩ := h2468
      have f2484 := (e2483 _ h2467).same sE2473
      obtain ⟨a2485, rfl⟩ := fr_tup f2484
      obtain ⟨v2486, v2487, h2490, f2488, f2489⟩ := tu2 f2484
      cases fr_int f2488
      cases fr_str f2489
      refine rd_gtup (S2472.sub _ _ h2490) rfl ?_
      refine rd_gcons ?_
      refine rd_nameS (σ' := [some (.ref a2451), some (.ref a2453), some (.int a2461.1), x2475]) rfl ?_
      refine rd_gcons ?_
      refine rd_nameS (σ' := [some (.ref a2451), some (.ref a2453), some (.int a2461.1), some (.str a2461.2)]) rfl ?_
      refine rd_gnil ?_
      refine rd_dputZ ?_
      refine rd_c ?_
      refine rd_var rfl ?_
      refine rd_var rfl ?_
      obtain ⟨l2491, h2492, h⟩ := bnd h
      refine q_dput (kk := kS) kS_inj S2472 0 rfl f2477 (kV_S _).symm (.bl _) h2492 fun w2493 H2494 S2495 f2496 => ?_
      have S2495 : Sep [] H0 G2470 H2494 [(a2453, .dK w2493)] := S2495
      cases h
      exact ⟨_, _, w2493, G2470, rfl, S2495, sE2473, f2496⟩
    rintro _ H2498 ⟨x2501, x2502, w2503, G2497, rfl, S2499, sE2500, f2504⟩
    refine rd_mk ?_
    refine rd_ret ?_
    refine rd_cb ?_
    refine rd_cons ?_
    refine rd_var rfl ?_
    refine rd_nil ?_
    refine q_listD (kk := kS) (kv := V.str) (fun _ => rfl) (Or.inl (S2499.get 0 rfl)) f2504 ?_
    refine q_new (F0 := H0) (ds := (dkeys r2481).map eS) S2499 (strs_frl _) S2499.old fun a2505 G2506 H2507 S2508 s2509 f2510 => ?_
    have f2504 := f2504.same s2509
    cases h
    exact kq a2505 _ _ S2508.toRet f2510
end
end K37

namespace K37
open PySem L2 LX LQ
section
variable {P : Program} {w : World} {K : PySem.W.Frag} {mg : Str → Option Value} {base : Heap} {a : Ad}
open LQF
def sp__law_first (K : PySem.W.Frag) : Sp := fun vs H Q _ => ∃ (a2511 : Addr) (x_line : (List (Int × Str))) (x_letter : Str), vs = [.ref a2511, (.str x_letter)] ∧ Fr E0h H (.ref a2511) ((eL (eT2 eI eS)) x_line) ∧ ∃ r, F__law_first x_line x_letter = some r ∧ ∀ (G H' : Hp), Ret [] H G H' → Q (.int (r)) H'
theorem ok__law_first (T : Txt K mg a) : FnOk P w K mg base CX0 1 a.f__law_first a.d__law_first ["line", "letter"] (sp__law_first K) := by
  refine T.F__law_first.ok sc__law_first (fun vs H Q E h => ?_) (fun cdv A outer s H0 vs Q E hr h => ?_)
  · obtain ⟨a2511, x_line, x_letter, rfl, _⟩ := h
    rfl
  · obtain ⟨a2511, x_line, x_letter, rfl, f2512, r, h, kq⟩ := h
    have nd := sc__law_first.nd
    have hu64 := hr.units
    have hu65 := units65 hr
    refine ⟨_, (pss_one (ps_ret (kbm (K := K) PySem.F.plainAttrs_list PySem.F.slot_list_index PySem.F.type_list_index (kindex (K := K)) (pe_lc (own := [("person", 2), ("one", 3)]) (g := gTup K 2 (gCons (gName 2) (gCons (gName 3) gNil))) (tt := tYes) rfl nd (kpi_list (K := K) (pv 0)) (blkOk_by (own := [("person", 2), ("one", 3)]) (N := ["line", "letter", "person", "one"]) (sc := defScope s__law_first) (by decide +kernel)) (fun _ _ _ _ _ => (kpg_tup (K := K) rfl (pgs_cons (pg_name (i := 2) nd rfl (Or.inl rfl)) (pgs_cons (pg_name (i := 3) nd rfl (Or.inl rfl)) pgs_nil)))) (fun _ _ _ _ _ => pts_nil) (fun _ _ _ _ _ => (pv 3))) (pa_cons (pv 1) pa_nil)))), ?_⟩
    unfold F__law_first at h
    have S0 := Sep.start H0
    refine rd_ret ?_
    refine rd_bm ?_
    refine rd_lc ?_
    refine rd_iList ?_
    refine rd_var rfl ?_
    obtain ⟨w2513, h2514, k2515⟩ := li f2512
    refine ⟨_, rfl, ⟨_, SqL.of (S0.sub _ _ h2514)⟩, ?_⟩
    intro D2516 h2517
    obtain ⟨l2540, h2541, h⟩ := bnd h
    refine q_lcL (enc := eS) (F0 := H0) h2541 (w_li k2515) S0 h2517 S0.old ?_ ?_ ?_
    · rintro GD2516 HD2516 accD2516 SD2516 sD2516
      exact (SD2516.sub _ _ (sD2516 _ _ h2514))
    · rintro i2519 x2520 a2518 o2529 G2523 H2521 H2522 acc2528 h2526 h S2524 s2525 h2527 T F hT hF
      have f2512 := f2512.same s2525
      have sT2530 := Same.refl G2523
      obtain ⟨rfl, e2532⟩ := h2527
      have f2533 := (e2532 _ h2526).same s2525
      obtain ⟨a2534, rfl⟩ := fr_tup f2533
      obtain ⟨v2535, v2536, h2539, f2537, f2538⟩ := tu2 f2533
      cases fr_int f2537
      cases fr_str f2538
      refine rd_gtup (S2524.sub _ _ h2539) rfl ?_
      refine rd_gcons ?_
      refine rd_nameS (σ' := [some (.ref a2511), some (.str x_letter), some (.int a2518.1), none]) rfl ?_
      refine rd_gcons ?_
      refine rd_nameS (σ' := [some (.ref a2511), some (.str x_letter), some (.int a2518.1), some (.str a2518.2)]) rfl ?_
      refine rd_gnil ?_
      refine ⟨rfl, ?_⟩
      refine rd_tyes ?_
      refine iteY rfl ?_
      refine rd_var rfl ?_
      cases h
      exact hT _ _ _ _ rfl S2524 sT2530 (.str _)
    rintro G2542 H2543 w2544 S2545 s2546 f2547 n2548 n2549
    have f2512 := f2512.same s2546
    obtain ⟨G2550, S2551, s2552, f2553⟩ := S2545.fixF 0 rfl (by simp) f2547 n2549
    have f2512 := f2512.same s2552
    obtain ⟨w2554, h2555, k2556⟩ := li f2553
    refine ⟨Or.inl ⟨rfl, _, SqL.of (S2551.sub _ _ h2555)⟩, ?_⟩
    refine rd_cons ?_
    refine rd_var rfl ?_
    refine rd_nil ?_
    obtain ⟨w2557, h2558, k2559⟩ := li f2553
    obtain ⟨y2560, h2561, h⟩ := bnd h
    refine q_idxS (S2551.sub _ _ h2558) k2559 h2561 ?_
    cases h
    exact kq _ _ S2551.toRet
end
end K37

namespace K37
open PySem L2 LX LQ
section
variable {P : Program} {w : World} {K : PySem.W.Frag} {mg : Str → Option Value} {base : Heap} {a : Ad}
open LQF
def sp__law_others (K : PySem.W.Frag) : Sp := fun vs H Q _ => ∃ (a2562 : Addr) (x_line : (List (Int × Str))) (x_position : Int) (x_letter : Str), vs = [.ref a2562, (.int x_position), (.str x_letter)] ∧ Fr E0h H (.ref a2562) ((eL (eT2 eI eS)) x_line) ∧ ∃ r, F__law_others x_line x_position x_letter = some r ∧ ∀ (G H' : Hp), Ret [] H G H' → Q (.int (r)) H'
theorem ok__law_others (T : Txt K mg a) : FnOk P w K mg base CX0 1 a.f__law_others a.d__law_others ["line", "position", "letter"] (sp__law_others K) := by
  refine T.F__law_others.ok sc__law_others (fun vs H Q E h => ?_) (fun cdv A outer s H0 vs Q E hr h => ?_)
  · obtain ⟨a2562, x_line, x_position, x_letter, rfl, _⟩ := h
    rfl
  · obtain ⟨a2562, x_line, x_position, x_letter, rfl, f2563, r, h, kq⟩ := h
    have nd := sc__law_others.nd
    have hu64 := hr.units
    have hu65 := units65 hr
    refine ⟨_, (pss_one (ps_ret (pe_callB (klen (K := K)) (by rfl) T.b_len (by decide +kernel) (pa_cons (pe_lc (own := [("person", 3), ("one", 4)]) (g := gTup K 2 (gCons (gName 3) (gCons (gName 4) gNil))) rfl nd (kpi_list (K := K) (pe_slice (ksl_list (K := K)) (pv 0) po_none (po_some (pv 1)))) (blkOk_by (own := [("person", 3), ("one", 4)]) (N := ["line", "position", "letter", "person", "one"]) (sc := defScope s__law_others) (by decide +kernel)) (fun _ _ _ _ _ => (kpg_tup (K := K) rfl (pgs_cons (pg_name (i := 3) nd rfl (Or.inl rfl)) (pgs_cons (pg_name (i := 4) nd rfl (Or.inl rfl)) pgs_nil)))) (fun _ _ _ _ _ => pts_one (pt_cmpR op_ne (pv 4) (pv 2) (nomark _))) (fun _ _ _ _ _ => (pv 4))) pa_nil)))), ?_⟩
    unfold F__law_others at h
    have S0 := Sep.start H0
    refine rd_ret ?_
    refine rd_cb ?_
    refine rd_cons ?_
    refine rd_lc ?_
    refine rd_iList ?_
    refine rd_sl ?_
    refine rd_var rfl ?_
    refine rd_nopart ?_
    refine rd_part ?_
    refine rd_var rfl ?_
    refine rd_int ?_
    obtain ⟨w2564, h2565, k2566⟩ := li f2563
    refine q_slL S0 (S0.sub _ _ h2565) (k2566.imm (flat_map (flT2 flI flS) _)) S0.old fun a2567 G2570 H2568 S2569 s2571 f2572 => ?_
    have f2563 := f2563.same s2571
    obtain ⟨w2573, h2574, k2575⟩ := li f2572
    refine ⟨_, rfl, ⟨_, SqL.of (S2569.sub _ _ h2574)⟩, ?_⟩
    intro D2576 h2577
    obtain ⟨l2600, h2601, h⟩ := bnd h
    refine q_lcL (enc := eS) (F0 := H0) h2601 (w_li k2575) S2569 h2577 S2569.old ?_ ?_ ?_
    · rintro GD2576 HD2576 accD2576 SD2576 sD2576
      exact (SD2576.sub _ _ (sD2576 _ _ h2574))
    · rintro i2579 x2580 a2578 o2589 G2583 H2581 H2582 acc2588 h2586 h S2584 s2585 h2587 T F hT hF
      have f2563 := f2563.same s2585
      have sT2590 := Same.refl G2583
      obtain ⟨rfl, e2592⟩ := h2587
      have f2593 := (e2592 _ h2586).same s2585
      obtain ⟨a2594, rfl⟩ := fr_tup f2593
      obtain ⟨v2595, v2596, h2599, f2597, f2598⟩ := tu2 f2593
      cases fr_int f2597
      cases fr_str f2598
      refine rd_gtup (S2584.sub _ _ h2599) rfl ?_
      refine rd_gcons ?_
      refine rd_nameS (σ' := [some (.ref a2562), some (.int x_position), some (.str x_letter), some (.int a2578.1), none]) rfl ?_
      refine rd_gcons ?_
      refine rd_nameS (σ' := [some (.ref a2562), some (.int x_position), some (.str x_letter), some (.int a2578.1), some (.str a2578.2)]) rfl ?_
      refine rd_gnil ?_
      refine ⟨rfl, ?_⟩
      refine rd_test ?_
      refine rd_op ?_
      refine rd_var rfl ?_
      refine rd_var rfl ?_
      refine q_neS ?_
      refine rd_bl ?_
      rcases cnd h with ⟨c2602, h⟩ | ⟨c2602, h⟩
      ·
        refine iteY c2602 ?_
        refine rd_var rfl ?_
        cases h
        exact hT _ _ _ _ rfl S2584 sT2590 (.str _)
      ·
        refine iteN c2602 ?_
        cases h
        exact hF _ _ rfl S2584 sT2590
    rintro G2603 H2604 w2605 S2606 s2607 f2608 n2609 n2610
    have f2563 := f2563.same s2607
    obtain ⟨G2611, S2612, s2613, f2614⟩ := S2606.fixF 0 rfl (by simp) f2608 n2610
    have f2563 := f2563.same s2613
    refine rd_nil ?_
    obtain ⟨w2615, h2616, k2617⟩ := li f2614
    refine q_len (S2612.sub _ _ h2616) k2617 ?_
    cases h
    exact kq _ _ S2612.toRet
end
end K37

namespace K37
open PySem L2 LX LQ
section
variable {P : Program} {w : World} {K : PySem.W.Frag} {mg : Str → Option Value} {base : Heap} {a : Ad}
open LQF
def sp__law_reach (K : PySem.W.Frag) : Sp := fun vs H Q _ => ∃ (a2618 : Addr) (x_line : (List (Int × Str))), vs = [.ref a2618] ∧ Fr E0h H (.ref a2618) ((eL (eT2 eI eS)) x_line) ∧ ∃ r, F__law_reach x_line = some r ∧ ∀ (a : Addr) (G H' : Hp), Ret [] H G H' → Fr H G (.ref a) ((eD kS eI) (r)) → Q (.ref a) H'
theorem ok__law_reach (T : Txt K mg a) : FnOk P w K mg base CX0 2 a.f__law_reach a.d__law_reach ["line"] (sp__law_reach K) := by
  refine T.F__law_reach.ok sc__law_reach (fun vs H Q E h => ?_) (fun cdv A outer s H0 vs Q E hr h => ?_)
  · obtain ⟨a2618, x_line, rfl, _⟩ := h
    rfl
  · obtain ⟨a2618, x_line, rfl, f2619, r, h, kq⟩ := h
    have nd := sc__law_reach.nd
    have hu64 := hr.units
    have hu65 := units65 hr
    refine ⟨_, (pss_cons (ps_set (i := 1) nd rfl (Or.inr rfl) pe_dnewK)
      (pss_cons (ps_for PassesOwn.never rfl (kpi_list (K := K) (pe_call (ok__law_letters T) (hr.mono (by decide)) rfl T.g__law_letters T.k__law_letters T.n__law_letters .nil pass0 (pa_cons (pv 0) pa_nil))) (pg_name (i := 2) nd rfl (Or.inl rfl)) (pss_cons (ps_set (i := 3) nd rfl (Or.inr rfl) (pe_call (ok__law_first T) (hr.mono (by decide)) rfl T.g__law_first T.k__law_first T.n__law_first .nil pass0 (pa_cons (pv 0) (pa_cons (pv 2) pa_nil))))
      (pss_cons (ps_lock (ps_setLc (i := 4) (own := [("one", 5)]) (g := gName 5) (tt := tYes) rfl nd rfl rfl (sw_true rfl rfl rfl (by decide +kernel)) (pi_keys (pv 1)) (blkOk_by (own := [("one", 5)]) (N := ["line", "found", "letter", "position", "costs", "one"]) (sc := defScope s__law_reach) (by decide +kernel)) (fun _ _ _ _ _ => (pg_name (i := 5) nd rfl (Or.inl rfl))) (fun _ _ _ _ _ => pts_nil) (fun _ _ _ _ _ => (pe_op op_add (pe_call (ok__law_others T) (hr.mono (by decide)) rfl T.g__law_others T.k__law_others T.n__law_others .nil pass0 (pa_cons (pv 0) (pa_cons (pv 3) (pa_cons (pv 5) pa_nil)))) (pe_dget (u1_of hu64) (pv 1) (pv 5) (fun _ _ => rfl))))))
      (pss_one (ps_dput (u1_of hu64) (pv 1) (pv 2) (pe_ifExp (pt_cmpR (kneD (K := K) hu64) (pv 4) (pe_lst pa_nil) (nomark _)) (pe_callB (kmin1 (K := K) rfl) (by rfl) T.b_min (by decide +kernel) (pa_cons (pv 4) pa_nil)) pe_int) rfl)))))
      (pss_one (ps_ret (pv 1))))), ?_⟩
    unfold F__law_reach at h
    have S0 := Sep.start H0
    refine rd_seq ?_
    refine rd_asg ?_
    refine rd_dnewZ ?_
    refine q_dnewO S0 fun a2620 H2621 S2622 n2623 => ?_
    have f2624 : FrK H0 H0 [] ((([] : (List (Str × Int)))).map fun p => (dKey (kS p.1), eI p.2)) := .nil
    refine rd_nameS (σ' := [some (.ref a2618), some (.ref a2620), none, none, none, none]) rfl ?_
    refine rd_mk ?_
    refine rd_seq ?_
    refine rd_for ?_
    refine rd_iList ?_
    refine rd_call ?_
    refine rd_cons ?_
    refine rd_var rfl ?_
    refine rd_nil ?_
    obtain ⟨y2625, h2626, h⟩ := bnd h
    refine ⟨a2618, x_line, rfl, (f2619.same S2622.sub), y2625, h2626, fun a2630 G2627 H2628 R2629 f2631 => ?_⟩
    obtain ⟨G2632, S2633, s2634, t2635, l2636⟩ := S2622.ret0 R2629
    have f2619 := f2619.same s2634
    have f2624 := f2624.same s2634
    have f2631 := t2635 _ _ f2631
    obtain ⟨w2637, h2638, k2639⟩ := li f2631
    refine ⟨_, rfl, ⟨_, SqL.of (S2633.sub _ _ h2638)⟩, ?_⟩
    obtain ⟨r2661, h2662, h⟩ := bnd h
    refine q_forF h2662 (w_li k2639) (fun s2641 σ' H' => ∃ (x2653 : Option V) (x2654 : Option V) (x2655 : Option V) (w2656 : List (Key × V)) (G2649 : Hp), σ' = [some (.ref a2618), some (.ref a2620), x2653, x2654, x2655, none] ∧ Sep [] H0 G2649 H' [(a2620, .dK w2656)] ∧ Same G2632 G2649 ∧ FrK H0 G2649 w2656 ((s2641).map fun p => (dKey (kS p.1), eI p.2))) ?_ ?_ ?_ ?_
    · exact ⟨_, _, _, [], G2632, rfl, S2633, Same.refl _, f2624⟩
    · rintro s2641 _ H2650 ⟨x2653, x2654, x2655, w2656, G2649, rfl, S2651, sE2652, f2657⟩
      exact (S2651.sub _ _ (sE2652 _ _ h2638))
    · rintro i2642 a2640 s2641 s2643 x2644 _ H2650 H2645 h2646 h ⟨x2653, x2654, x2655, w2656, G2649, rfl, S2651, sE2652, f2657⟩ h2647
      have f2619 := f2619.same sE2652
      obtain ⟨rfl, e2663⟩ := h2647
      have f2664 := (e2663 _ h2646).same sE2652
      cases fr_str f2664
      refine rd_nameS (σ' := [some (.ref a2618), some (.ref a2620), some (.str a2640), x2654, x2655, none]) rfl ?_
      refine rd_seq ?_
      refine rd_asg ?_
      refine rd_call ?_
      refine rd_cons ?_
      refine rd_var rfl ?_
      refine rd_cons ?_
      refine rd_var rfl ?_
      refine rd_nil ?_
      obtain ⟨y2665, h2666, h⟩ := bnd h
      refine ⟨a2618, x_line, a2640, rfl, (f2619.same S2651.sub), y2665, h2666, fun G2667 H2668 R2669 => ?_⟩
      obtain ⟨G2670, S2671, s2672, t2673, l2674⟩ := S2651.ret0 R2669
      have f2619 := f2619.same s2672
      have f2657 := f2657.same s2672
      have sE2652 := sE2652.trans s2672
      refine rd_nameS (σ' := [some (.ref a2618), some (.ref a2620), some (.str a2640), some (.int y2665), x2655, none]) rfl ?_
      refine rd_mk ?_
      refine rd_seq ?_
      refine q_lockS S2671 0 rfl fun od2675 H2676 S2677 => ?_
      have S2677 : Sep [] H0 G2670 H2676 [(a2620, .frz od2675 (.dK w2656))] := S2677
      refine rd_asg ?_
      refine rd_lc ?_
      refine rd_iKeys ?_
      refine rd_var rfl ?_
      refine q_keys (S2677.get 0 rfl) ?_
      intro D2678 h2679
      obtain ⟨l2709, h2710, h⟩ := bnd h
      refine q_lcL (enc := eI) (F0 := H0) h2710 (w_keys f2657) S2677 h2679 S2677.old ?_ ?_ ?_
      · rintro GD2678 HD2678 accD2678 SD2678 sD2678
        exact (SD2678.get 1 rfl)
      · rintro i2681 x2682 a2680 o2691 G2685 H2683 H2684 acc2690 h2688 h S2686 s2687 h2689 T F hT hF
        have f2619 := f2619.same s2687
        have f2657 := f2657.same s2687
        have sT2692 := Same.refl G2685
        obtain ⟨rfl, e2694⟩ := h2689
        cases e2694 _ h2688
        refine rd_nameS (σ' := [some (.ref a2618), some (.ref a2620), some (.str a2640), some (.int y2665), x2655, some (.str a2680)]) rfl ?_
        refine ⟨rfl, ?_⟩
        refine rd_tyes ?_
        refine iteY rfl ?_
        refine rd_op ?_
        refine rd_call ?_
        refine rd_cons ?_
        refine rd_var rfl ?_
        refine rd_cons ?_
        refine rd_var rfl ?_
        refine rd_cons ?_
        refine rd_var rfl ?_
        refine rd_nil ?_
        obtain ⟨y2695, h2696, h⟩ := bnd h
        refine ⟨a2618, x_line, y2665, a2680, rfl, (f2619.same S2686.sub), y2695, h2696, fun G2697 H2698 R2699 => ?_⟩
        obtain ⟨G2700, S2701, s2702, t2703, l2704⟩ := S2686.ret0 R2699
        have f2619 := f2619.same s2702
        have f2657 := f2657.same s2702
        have sT2692 := sT2692.trans s2702
        refine rd_dget ?_
        refine rd_var rfl ?_
        refine rd_var rfl ?_
        obtain ⟨y2705, h2706, h⟩ := bnd h
        refine q_dget (kk := kS) kS_inj (Or.inr ⟨_, S2701.get 1 rfl⟩) f2657 (kV_S _).symm h2706 fun v2707 f2708 => ?_
        cases fr_int f2708
        refine rd_I0 ?_
        cases h
        exact hT _ _ _ _ rfl S2701 sT2692 (.int _)
      rintro G2711 H2712 w2713 S2714 s2715 f2716 n2717 n2718
      have f2619 := f2619.same s2715
      have f2657 := f2657.same s2715
      have sE2652 := sE2652.trans s2715
      obtain ⟨G2719, S2720, s2721, f2722⟩ := S2714.fixF 0 rfl (by simp) f2716 n2718
      have f2619 := f2619.same s2721
      have f2657 := f2657.same s2721
      have sE2652 := sE2652.trans s2721
      refine rd_nameS (σ' := [some (.ref a2618), some (.ref a2620), some (.str a2640), some (.int y2665), some (.ref D2678), none]) rfl ?_
      refine q_unlockS S2720 0 rfl fun H2723 S2724 => ?_
      have S2724 : Sep [] H0 G2719 H2723 [(a2620, .dK w2656)] := S2724
      refine rd_mk ?_
      refine rd_dputZ ?_
      obtain ⟨y2744, h2745, h⟩ := bnd h
      refine rd_teM2 (fun k H' => ∃  (G2746 : Hp), k = (.int y2744) ∧ Sep [] H0 G2746 H' [(a2620, .dK w2656)] ∧ Same G2719 G2746) (fun R q => ?_) ?_
      ·
        have sE2725 := Same.refl G2719
        have h := h2745
        refine rd_ifE ?_
        refine rd_test ?_
        refine rd_op ?_
        refine rd_var rfl ?_
        refine rd_lstZ ?_
        refine rd_nil ?_
        refine q_lst (F0 := H0) (ds := []) S2724 (by show 0 ≤ LIM; decide) .nil S2724.old fun a2726 G2727 H2728 S2729 s2730 f2731 => ?_
        have f2619 := f2619.same s2730
        have f2722 := f2722.same s2730
        have f2657 := f2657.same s2730
        have sE2725 := sE2725.trans s2730
        replace f2731 : Fr H0 G2727 (.ref a2726) ((eL eA) ([] : (List PyData))) := f2731
        obtain ⟨b2732, h2733, h⟩ := bnd h
        refine q_neD (f2722.rp.same S2729.sub) (f2731.rp.same S2729.sub) h2733 ?_
        refine rd_bl ?_
        rcases cnd h with ⟨c2750, h⟩ | ⟨c2750, h⟩
        ·
          refine iteY c2750 ?_
          refine rd_cb ?_
          refine rd_cons ?_
          refine rd_var rfl ?_
          refine rd_nil ?_
          obtain ⟨y2739, h2740, h⟩ := bnd h
          obtain ⟨w2741, h2742, k2743⟩ := li f2722
          refine q_min1 (S2729.sub _ _ h2742) k2743 h2740 ?_
          cases h
          exact q _ _ ⟨G2727, rfl, S2729, sE2725⟩
        ·
          refine iteN c2750 ?_
          refine rd_c ?_
          cases h
          exact q _ _ ⟨G2727, rfl, S2729, sE2725⟩
      rintro _ H2747 ⟨G2746, rfl, S2748, s2749⟩
      have f2619 := f2619.same s2749
      have f2722 := f2722.same s2749
      have f2657 := f2657.same s2749
      have sE2652 := sE2652.trans s2749
      refine rd_var rfl ?_
      refine rd_var rfl ?_
      obtain ⟨l2751, h2752, h⟩ := bnd h
      refine q_dput (kk := kS) kS_inj S2748 0 rfl f2657 (kV_S _).symm (.int _) h2752 fun w2753 H2754 S2755 f2756 => ?_
      have S2755 : Sep [] H0 G2746 H2754 [(a2620, .dK w2753)] := S2755
      cases h
      exact ⟨_, _, _, w2753, G2746, rfl, S2755, sE2652, f2756⟩
    rintro _ H2758 ⟨x2761, x2762, x2763, w2764, G2757, rfl, S2759, sE2760, f2765⟩
    have f2619 := f2619.same sE2760
    refine rd_mk ?_
    refine rd_ret ?_
    refine rd_var rfl ?_
    obtain ⟨G2766, S2767, s2768, f2769⟩ := S2759.fixD 0 rfl (by simp) f2765 n2623
    cases h
    exact kq a2620 _ _ S2767.toRet f2769
end
end K37

namespace K37
open PySem L2 LX LQ
section
variable {P : Program} {w : World} {K : PySem.W.Frag} {mg : Str → Option Value} {base : Heap} {a : Ad}
open LQF
def sp__law_right (K : PySem.W.Frag) : Sp := fun vs H Q _ => ∃ (a2770 : Addr) (x_script : (List Int)) (a2771 : Addr) (w2772 : List V) (x_bag : (List Int)), vs = [.ref a2770, .ref a2771] ∧ Scr K (hid H [a2771]) a2770 x_script ∧ H a2771 = some (.lst w2772) ∧ FrL E0h (hid H [a2771]) w2772 (x_bag.map eI) ∧ ∃ r, F__law_right x_script x_bag = some r ∧ ∀ (u0 : List V) (G H' : Hp), Ret [a2771] H G H' → H' a2771 = some (.lst u0) → FrL E0h G u0 ((r.2).map eI) → Q (.bl (r.1)) H'
theorem ok__law_right (T : Txt K mg a) : FnG P w K mg base 6 a.f__law_right a.d__law_right ["script", "bag"] (sp__law_right K) := by
  refine fnG T.F__law_right sc__law_right (fun vs H Q E h => ?_) (fun cdv A outer s H0 vs Q E hr quiet h => ?_)
  · obtain ⟨a2770, x_script, a2771, w2772, x_bag, rfl, _⟩ := h
    rfl
  · obtain ⟨a2770, x_script, a2771, w2772, x_bag, rfl, f2773, h2774, f2775, r, h, kq⟩ := h
    have nd := sc__law_right.nd
    have hu64 := hr.units
    have hu65 := units65 hr
    refine ⟨_, (pss_cons (ps_set (i := 2) nd rfl (Or.inl rfl) (pe_call (ok__law_people T) (hr.mono (by decide)) rfl T.g__law_people T.k__law_people T.n__law_people .nil pass0 (pa_cons (pv 1) (pa_cons (pe_op op_add pe_int (pe_call (ok__law_draw T) (hr.mono (by decide)) rfl T.g__law_draw T.k__law_draw T.n__law_draw .nil pass0 (pa_cons (pv 1) (pa_cons (pe_op op_add pe_int (pe_callTy kint1 (by rfl) T.b_int (by decide +kernel) (pa_cons (pe_cmpR (kneD (K := K) hu64) (pv 0) (pe_lst pa_nil) (nomark _)) pa_nil))) pa_nil)))) (pa_cons (pe_op op_add pe_int (pe_call (ok__law_draw T) (hr.mono (by decide)) rfl T.g__law_draw T.k__law_draw T.n__law_draw .nil pass0 (pa_cons (pv 1) (pa_cons pe_int pa_nil)))) pa_nil)))))
      (pss_cons (ps_set (i := 3) nd rfl (Or.inr rfl) (pe_call (ok__law_some_people T) (hr.mono (by decide)) rfl T.g__law_some_people T.k__law_some_people T.n__law_some_people .nil pass0 (pa_cons (pv 0) (pa_cons (pv 1) (pa_cons pe_int (pa_cons pe_int pa_nil))))))
      (pss_cons (ps_set (i := 4) nd rfl (Or.inl rfl) (pe_callB (krepr (K := K) quiet hu64) (by rfl) T.b_repr (by decide +kernel) (pa_cons (pe_lst (pa_cons (pv 2) (pa_cons (pv 3) pa_nil))) pa_nil)))
      (pss_cons (ps_set (i := 5) nd rfl (Or.inl rfl) (pe_callB (kmin1 (K := K) rfl) (by rfl) T.b_min (by decide +kernel) (pa_cons (pe_lc (own := [("letter", 9), ("cost", 10)]) (g := gTup K 2 (gCons (gName 9) (gCons (gName 10) gNil))) (tt := tYes) rfl nd (pi_items (pe_frz (pe_call (ok__law_reach T) (hr.mono (by decide)) rfl T.g__law_reach T.k__law_reach T.n__law_reach .nil pass0 (pa_cons (pv 3) pa_nil)))) (blkOk_by (own := [("letter", 9), ("cost", 10)]) (N := ["script", "bag", "small", "line", "kept", "due", "found", "single", "person", "letter", "cost"]) (sc := defScope s__law_right) (by decide +kernel)) (fun _ _ _ _ _ => (kpg_tup (K := K) rfl (pgs_cons (pg_name (i := 9) nd rfl (Or.inl rfl)) (pgs_cons (pg_name (i := 10) nd rfl (Or.inl rfl)) pgs_nil)))) (fun _ _ _ _ _ => pts_nil) (fun _ _ _ _ _ => (pe_op op_add (pe_call (ok__law_outside T) (hr.mono (by decide)) rfl T.g__law_outside T.k__law_outside T.n__law_outside .nil pass0 (pa_cons (pv 3) (pa_cons (pv 9) pa_nil))) (pv 10)))) pa_nil)))
      (pss_cons (ps_set (i := 6) nd rfl (Or.inl rfl) (pe_lst (pa_cons (pe_call (ok_fewest_calls_to_one_color T) (hr.mono (by decide)) rfl T.g_fewest_calls_to_one_color T.k_fewest_calls_to_one_color T.n_fewest_calls_to_one_color .nil pass0 (pa_cons (pv 2) pa_nil)) (pa_cons (pe_call (ok_fewest_calls_to_one_color T) (hr.mono (by decide)) rfl T.g_fewest_calls_to_one_color T.k_fewest_calls_to_one_color T.n_fewest_calls_to_one_color .nil pass0 (pa_cons (pv 3) pa_nil)) pa_nil))))
      (pss_cons (ps_expr (kbm (K := K) PySem.F.plainAttrs_list PySem.F.slot_list_append PySem.F.type_list_append mt_append (pv 6) (pa_cons (pe_callN0 (ok_fewest_calls_to_one_color T) (hr.mono (by decide)) rfl T.g_fewest_calls_to_one_color T.k_fewest_calls_to_one_color T.kb_fewest_calls_to_one_color_0_lineup (pk_cons (pv 3) pk_nil)) pa_nil)))
      (pss_cons (ps_if (pt_not (pt_val (pe_call (ok__law_same T) (hr.mono (by decide)) rfl T.g__law_same T.k__law_same T.n__law_same .nil pass0 (pa_cons (pv 6) (pa_cons (pe_lst (pa_cons (pe_call (ok__law_search T) (hr.mono (by decide)) rfl T.g__law_search T.k__law_search T.n__law_search .nil pass0 (pa_cons (pv 2) (pa_cons pe_str pa_nil))) (pa_cons (pv 5) (pa_cons (pv 5) pa_nil)))) pa_nil))))) (pss_one (ps_ret pe_bl)) pss_nil)
      (pss_cons (ps_setLc (i := 7) (own := [("person", 8), ("letter", 9)]) (g := gTup K 2 (gCons (gName 8) (gCons (gName 9) gNil))) (tt := tYes) rfl nd rfl rfl (sw_true rfl rfl rfl (by decide +kernel)) (kpi_list (K := K) (pv 3)) (blkOk_by (own := [("person", 8), ("letter", 9)]) (N := ["script", "bag", "small", "line", "kept", "due", "found", "single", "person", "letter", "cost"]) (sc := defScope s__law_right) (by decide +kernel)) (fun _ _ _ _ _ => (kpg_tup (K := K) rfl (pgs_cons (pg_name (i := 8) nd rfl (Or.inl rfl)) (pgs_cons (pg_name (i := 9) nd rfl (Or.inl rfl)) pgs_nil)))) (fun _ _ _ _ _ => pts_nil) (fun _ _ _ _ _ => (pe_tup (pa_cons (pv 8) (pa_cons (pe_ix (kix_tup (K := K)) (pe_ix (kix_list (K := K)) (pv 3) pe_int (fun _ _ => rfl)) pe_int (fun _ _ => rfl)) pa_nil)))))
      (pss_one (ps_ret (pe_and (pe_call (ok__law_same T) (hr.mono (by decide)) rfl T.g__law_same T.k__law_same T.n__law_same .nil pass0 (pa_cons (pe_call (ok_fewest_calls_to_one_color T) (hr.mono (by decide)) rfl T.g_fewest_calls_to_one_color T.k_fewest_calls_to_one_color T.n_fewest_calls_to_one_color .nil pass0 (pa_cons (pv 7) pa_nil)) (pa_cons pe_int pa_nil))) (pe_one (pe_cmpR op_eq (pe_callB (krepr (K := K) quiet hu64) (by rfl) T.b_repr (by decide +kernel) (pa_cons (pe_lst (pa_cons (pv 2) (pa_cons (pv 3) pa_nil))) pa_nil)) (pv 4) (nomark _)))))))))))))), ?_⟩
    unfold F__law_right at h
    have S0 := Sep.start1 h2774
    refine rd_seq ?_
    refine rd_asg ?_
    refine rd_call ?_
    refine rd_cons ?_
    refine rd_var rfl ?_
    refine rd_cons ?_
    refine rd_op ?_
    refine rd_c ?_
    refine rd_call ?_
    refine rd_cons ?_
    refine rd_var rfl ?_
    refine rd_cons ?_
    refine rd_op ?_
    refine rd_c ?_
    refine rd_cb ?_
    refine rd_cons ?_
    refine rd_op ?_
    refine rd_var rfl ?_
    refine rd_lstZ ?_
    refine rd_nil ?_
    refine q_lst (F0 := H0) (ds := []) S0 (by show 0 ≤ LIM; decide) .nil S0.old fun a2776 G2777 H2778 S2779 s2780 f2781 => ?_
    have f2773 := f2773.same s2780
    have f2775 := f2775.same s2780
    replace f2781 : Fr H0 G2777 (.ref a2776) ((eL eA) ([] : (List PyData))) := f2781
    obtain ⟨b2782, h2783, h⟩ := bnd h
    refine q_neScr S2779 f2773 (f2781.rp.same S2779.sub) h2783 ?_
    refine rd_nil ?_
    refine q_int1 ?_
    refine rd_I0 ?_
    refine rd_nil ?_
    obtain ⟨y2784, h2785, h⟩ := bnd h
    refine ⟨a2771, w2772, x_bag, ((3 : Int) + (b2I (!b2782))), rfl, (S2779.get 0 rfl), (f2775.same (S2779.hid1 0 rfl)), y2784, h2785, fun w2789 G2786 H2787 R2788 h2790 k2791 => ?_⟩
    obtain ⟨G2792, S2793, s2794, t2795, l2796⟩ := S2779.ret1 0 rfl R2788 h2790 lst_tup
    have k2791 := l2796 _ _ (k2791.imm (flat_map flI _))
    have f2773 := f2773.same s2794
    have f2775 := f2775.same s2794
    have k2791 := k2791.rp
    have S2793 : Sep [a2771] H0 G2792 H2787 [(a2771, .lst w2789)] := S2793
    refine rd_I0 ?_
    refine rd_cons ?_
    refine rd_op ?_
    refine rd_c ?_
    refine rd_call ?_
    refine rd_cons ?_
    refine rd_var rfl ?_
    refine rd_cons ?_
    refine rd_c ?_
    refine rd_nil ?_
    obtain ⟨y2797, h2798, h⟩ := bnd h
    refine ⟨a2771, w2789, y2784.2, (4 : Int), rfl, (S2793.get 0 rfl), (k2791.same (S2793.hid1 0 rfl)), y2797, h2798, fun w2802 G2799 H2800 R2801 h2803 k2804 => ?_⟩
    obtain ⟨G2805, S2806, s2807, t2808, l2809⟩ := S2793.ret1 0 rfl R2801 h2803 lst_tup
    have k2804 := l2809 _ _ (k2804.imm (flat_map flI _))
    have f2773 := f2773.same s2807
    have k2791 := k2791.same s2807
    have k2804 := k2804.rp
    have S2806 : Sep [a2771] H0 G2805 H2800 [(a2771, .lst w2802)] := S2806
    refine rd_I0 ?_
    refine rd_nil ?_
    obtain ⟨y2810, h2811, h⟩ := bnd h
    refine ⟨a2771, w2802, y2797.2, ((1 : Int) + y2784.1), ((1 : Int) + y2797.1), rfl, (S2806.get 0 rfl), (k2804.same (S2806.hid1 0 rfl)), y2810, h2811, fun a2815 w2816 G2812 H2813 R2814 h2817 k2818 f2819 => ?_⟩
    obtain ⟨G2820, S2821, s2822, t2823, l2824⟩ := S2806.ret1 0 rfl R2814 h2817 lst_tup
    have k2818 := l2824 _ _ (k2818.imm (flat_map flI _))
    have f2773 := f2773.same s2822
    have k2804 := k2804.same s2822
    have k2818 := k2818.rp
    have S2821 : Sep [a2771] H0 G2820 H2813 [(a2771, .lst w2816)] := S2821
    have f2819 := t2823 _ _ f2819
    refine rd_nameS (σ' := [some (.ref a2770), some (.ref a2771), some (.ref a2815), none, none, none, none, none, none, none, none]) rfl ?_
    refine rd_mk ?_
    refine rd_seq ?_
    refine rd_asg ?_
    refine rd_call ?_
    refine rd_cons ?_
    refine rd_var rfl ?_
    refine rd_cons ?_
    refine rd_var rfl ?_
    refine rd_cons ?_
    refine rd_c ?_
    refine rd_cons ?_
    refine rd_c ?_
    refine rd_nil ?_
    obtain ⟨y2825, h2826, h⟩ := bnd h
    refine ⟨a2770, x_script, a2771, w2816, y2810.2, (60 : Int), (26 : Int), rfl, (f2773.same (S2821.hid1 0 rfl)), (S2821.get 0 rfl), (k2818.same (S2821.hid1 0 rfl)), y2825, h2826, fun a2830 w2831 G2827 H2828 R2829 h2832 k2833 f2834 => ?_⟩
    obtain ⟨G2835, S2836, s2837, t2838, l2839⟩ := S2821.ret1 0 rfl R2829 h2832 lst_tup
    have k2833 := l2839 _ _ (k2833.imm (flat_map flI _))
    have f2773 := f2773.same s2837
    have f2819 := f2819.same s2837
    have k2818 := k2818.same s2837
    have k2833 := k2833.rp
    have S2836 : Sep [a2771] H0 G2835 H2828 [(a2771, .lst w2831)] := S2836
    have f2834 := t2838 _ _ f2834
    refine rd_nameS (σ' := [some (.ref a2770), some (.ref a2771), some (.ref a2815), some (.ref a2830), none, none, none, none, none, none, none]) rfl ?_
    refine rd_mk ?_
    refine rd_seq ?_
    refine rd_asg ?_
    refine rd_cb ?_
    refine rd_cons ?_
    refine rd_lstZ ?_
    refine rd_cons ?_
    refine rd_var rfl ?_
    refine rd_cons ?_
    refine rd_var rfl ?_
    refine rd_nil ?_
    refine q_lstT (ds := [(eL (eT2 eI eS)) y2810.1, (eL (eT2 eI eS)) y2825.1]) S2836 (by show 2 ≤ LIM; decide) (.cons (f2819.rp.same S2836.sub) (.cons (f2834.rp.same S2836.sub) .nil)) fun a2840 G2841 H2842 S2843 s2844 f2845 => ?_
    have f2819 := f2819.same s2844
    have f2834 := f2834.same s2844
    have k2833 := k2833.same s2844
    refine rd_nil ?_
    obtain ⟨y2846, h2847, h⟩ := bnd h
    refine q_repr f2845 h2847 ?_
    refine rd_nameS (σ' := [some (.ref a2770), some (.ref a2771), some (.ref a2815), some (.ref a2830), some (.str y2846), none, none, none, none, none, none]) rfl ?_
    refine rd_mk ?_
    refine rd_seq ?_
    refine rd_asg ?_
    refine rd_cb ?_
    refine rd_cons ?_
    refine rd_lc ?_
    refine rd_iItems ?_
    refine rd_frz ?_
    refine rd_call ?_
    refine rd_cons ?_
    refine rd_var rfl ?_
    refine rd_nil ?_
    obtain ⟨y2848, h2849, h⟩ := bnd h
    refine ⟨a2830, y2825.1, rfl, (f2834.rp.same S2843.sub), y2848, h2849, fun a2853 G2850 H2851 R2852 f2854 => ?_⟩
    obtain ⟨G2855, S2856, s2857, t2858, l2859⟩ := S2843.ret0 R2852
    have f2819 := f2819.same s2857
    have f2834 := f2834.same s2857
    have k2833 := k2833.same s2857
    have f2854 := t2858 _ _ f2854
    obtain ⟨w2860, h2861, k2862⟩ := di f2854
    refine q_frz S2856 (di0 f2854) h2861 fun od2863 G2864 H2865 S2866 d2867 h2868 h2869 => ?_
    have f2819 := f2819.frzor d2867
    have f2834 := f2834.frzor d2867
    have k2833 := k2833.frzor d2867
    have k2862 := k2862.frzor d2867
    refine q_items h2868 ?_
    intro D2870 h2871
    obtain ⟨l2913, h2914, h⟩ := bnd h
    refine q_lcL (enc := eI) (F0 := H0) h2914 (w_items k2862) S2866 h2871 S2866.old ?_ ?_ ?_
    · rintro GD2870 HD2870 accD2870 SD2870 sD2870
      exact (SD2870.sub _ _ (sD2870 _ _ h2869))
    · rintro i2873 x2874 a2872 o2883 G2877 H2875 H2876 acc2882 h2880 h S2878 s2879 h2881 T F hT hF
      have f2819 := f2819.same s2879
      have f2834 := f2834.same s2879
      have k2833 := k2833.same s2879
      have sT2884 := Same.refl G2877
      obtain ⟨T2886, v2887, v2888, rfl, h2889, e2891, e2890⟩ := h2881
      obtain ⟨k2892, k2893⟩ := e2890 _ h2880
      replace k2892 := k2892.same s2879
      replace k2893 := k2893.same s2879
      obtain ⟨G2894, S2895, s2896, f2897⟩ := S2878.pair h2889 e2891 k2892 k2893
      have f2819 := f2819.same s2896
      have f2834 := f2834.same s2896
      have k2833 := k2833.same s2896
      have sT2884 := sT2884.trans s2896
      replace f2897 : Fr H0 G2894 (.ref T2886) (eT2 eS eI a2872) := f2897
      obtain ⟨v2898, v2899, h2902, f2900, f2901⟩ := tu2 f2897
      cases fr_str f2900
      cases fr_int f2901
      refine rd_gtup (S2895.sub _ _ h2902) rfl ?_
      refine rd_gcons ?_
      refine rd_nameS (σ' := [some (.ref a2770), some (.ref a2771), some (.ref a2815), some (.ref a2830), some (.str y2846), none, none, none, none, some (.str a2872.1), none]) rfl ?_
      refine rd_gcons ?_
      refine rd_nameS (σ' := [some (.ref a2770), some (.ref a2771), some (.ref a2815), some (.ref a2830), some (.str y2846), none, none, none, none, some (.str a2872.1), some (.int a2872.2)]) rfl ?_
      refine rd_gnil ?_
      refine ⟨rfl, ?_⟩
      refine rd_tyes ?_
      refine iteY rfl ?_
      refine rd_op ?_
      refine rd_call ?_
      refine rd_cons ?_
      refine rd_var rfl ?_
      refine rd_cons ?_
      refine rd_var rfl ?_
      refine rd_nil ?_
      obtain ⟨y2903, h2904, h⟩ := bnd h
      refine ⟨a2830, y2825.1, a2872.1, rfl, (f2834.rp.same S2895.sub), y2903, h2904, fun G2905 H2906 R2907 => ?_⟩
      obtain ⟨G2908, S2909, s2910, t2911, l2912⟩ := S2895.ret0 R2907
      have f2819 := f2819.same s2910
      have f2834 := f2834.same s2910
      have k2833 := k2833.same s2910
      have sT2884 := sT2884.trans s2910
      refine rd_var rfl ?_
      refine rd_I0 ?_
      cases h
      exact hT _ _ _ _ rfl S2909 sT2884 (.int _)
    rintro G2915 H2916 w2917 S2918 s2919 f2920 n2921 n2922
    have f2819 := f2819.same s2919
    have f2834 := f2834.same s2919
    have k2833 := k2833.same s2919
    obtain ⟨G2923, S2924, s2925, f2926⟩ := S2918.fixF 0 rfl (S2918.notms n2921) f2920 n2922
    have f2819 := f2819.same s2925
    have f2834 := f2834.same s2925
    have k2833 := k2833.same s2925
    refine rd_nil ?_
    obtain ⟨y2927, h2928, h⟩ := bnd h
    obtain ⟨w2929, h2930, k2931⟩ := li f2926
    refine q_min1 (S2924.sub _ _ h2930) k2931 h2928 ?_
    refine rd_nameS (σ' := [some (.ref a2770), some (.ref a2771), some (.ref a2815), some (.ref a2830), some (.str y2846), some (.int y2927), none, none, none, none, none]) rfl ?_
    refine rd_mk ?_
    refine rd_seq ?_
    refine rd_asg ?_
    refine rd_lstZ ?_
    refine rd_cons ?_
    refine rd_call ?_
    refine rd_cons ?_
    refine rd_var rfl ?_
    refine rd_nil ?_
    obtain ⟨y2932, h2933, h⟩ := bnd h
    refine ⟨a2815, y2810.1, rfl, (f2819.rp.same S2924.sub), y2932, h2933, fun G2934 H2935 R2936 => ?_⟩
    obtain ⟨G2937, S2938, s2939, t2940, l2941⟩ := S2924.ret0 R2936
    have f2819 := f2819.same s2939
    have f2834 := f2834.same s2939
    have k2833 := k2833.same s2939
    refine rd_cons ?_
    refine rd_call ?_
    refine rd_cons ?_
    refine rd_var rfl ?_
    refine rd_nil ?_
    obtain ⟨y2942, h2943, h⟩ := bnd h
    refine ⟨a2830, y2825.1, rfl, (f2834.rp.same S2938.sub), y2942, h2943, fun G2944 H2945 R2946 => ?_⟩
    obtain ⟨G2947, S2948, s2949, t2950, l2951⟩ := S2938.ret0 R2946
    have f2819 := f2819.same s2949
    have f2834 := f2834.same s2949
    have k2833 := k2833.same s2949
    refine rd_nil ?_
    refine q_lstO S2948 (by show 2 ≤ LIM; decide) fun a2952 H2953 S2954 n2955 => ?_
    have f2956 : FrL H0 G2947 [(.int y2932), (.int y2942)] ([y2932, y2942].map eI) := (.cons (.int _) (.cons (.int _) .nil))
    refine rd_nameS (σ' := [some (.ref a2770), some (.ref a2771), some (.ref a2815), some (.ref a2830), some (.str y2846), some (.int y2927), some (.ref a2952), none, none, none, none]) rfl ?_
    refine rd_mk ?_
    refine rd_seq ?_
    refine rd_drop ?_
    refine rd_bm ?_
    refine rd_var rfl ?_
    refine ⟨Or.inl ⟨rfl, _, SqL.of (S2954.get 0 rfl)⟩, ?_⟩
    refine rd_cons ?_
    refine rd_callN0 ?_
    refine rd_cons ?_
    refine rd_var rfl ?_
    refine rd_nil ?_
    obtain ⟨y2957, h2958, h⟩ := bnd h
    refine ⟨rfl, a2830, y2825.1, rfl, (f2834.rp.same S2954.sub), y2957, h2958, fun G2959 H2960 R2961 => ?_⟩
    obtain ⟨G2962, S2963, s2964, t2965, l2966⟩ := S2954.ret0 R2961
    have f2819 := f2819.same s2964
    have f2834 := f2834.same s2964
    have f2956 := f2956.same s2964
    have k2833 := k2833.same s2964
    refine rd_nil ?_
    obtain ⟨l2967, h2968, h⟩ := bnd h
    refine q_app S2963 0 rfl f2956 (.int _) h2968 fun w2969 H2970 S2971 f2972 => ?_
    have S2971 : Sep [a2771] H0 G2962 H2970 [(a2952, .lst w2969), (a2771, .lst w2831)] := S2971
    refine rd_mk ?_
    refine rd_seq ?_
    refine rd_ifS ?_
    refine rd_not ?_
    refine rd_tB ?_
    refine rd_call ?_
    refine rd_cons ?_
    refine rd_var rfl ?_
    refine rd_cons ?_
    refine rd_lstZ ?_
    refine rd_cons ?_
    refine rd_call ?_
    refine rd_cons ?_
    refine rd_var rfl ?_
    refine rd_cons ?_
    refine rd_c ?_
    refine rd_nil ?_
    obtain ⟨y2973, h2974, h⟩ := bnd h
    refine ⟨a2815, y2810.1, (Str.ofString ""), rfl, (f2819.rp.same S2971.sub), y2973, h2974, fun a2978 G2975 H2976 R2977 f2979 => ?_⟩
    obtain ⟨G2980, S2981, s2982, t2983, l2984⟩ := S2971.ret0 R2977
    have f2819 := f2819.same s2982
    have f2834 := f2834.same s2982
    have f2972 := f2972.same s2982
    have k2833 := k2833.same s2982
    have f2979 := t2983 _ _ f2979
    refine rd_cons ?_
    refine rd_var rfl ?_
    refine rd_cons ?_
    refine rd_var rfl ?_
    refine rd_nil ?_
    refine q_lst (F0 := H0) (ds := [eA y2973, eA (eI y2927), eA (eI y2927)]) S2981 (by show 3 ≤ LIM; decide) (.cons f2979 (.cons (show Fr H0 _ (.int y2927) (eI y2927) from (.int _)) (.cons (show Fr H0 _ (.int y2927) (eI y2927) from (.int _)) .nil))) S2981.old fun a2985 G2986 H2987 S2988 s2989 f2990 => ?_
    have f2819 := f2819.same s2989
    have f2834 := f2834.same s2989
    have f2972 := f2972.same s2989
    have k2833 := k2833.same s2989
    replace f2990 : Fr H0 G2986 (.ref a2985) ((eL eA) [y2973, (eI y2927), (eI y2927)]) := f2990
    refine rd_nil ?_
    obtain ⟨y2991, h2992, h⟩ := bnd h
    refine ⟨(.ref a2952), ((eL eI) l2967), (.ref a2985), ((eL eA) [y2973, (eI y2927), (eI y2927)]), rfl, (S2988.rd 0 rfl f2972), (f2990.rp.same S2988.sub), y2991, h2992, fun G2993 H2994 R2995 => ?_⟩
    obtain ⟨G2996, S2997, s2998, t2999, l3000⟩ := S2988.ret0 R2995
    have f2819 := f2819.same s2998
    have f2834 := f2834.same s2998
    have f2972 := f2972.same s2998
    have k2833 := k2833.same s2998
    refine rd_bl ?_
    rcases cnd h with ⟨c3098, h⟩ | ⟨c3098, h⟩
    ·
      refine iteY c3098 ?_
      refine rd_ret ?_
      refine rd_c ?_
      cases h
      exact kq w2831 _ _ S2997.toRet (S2997.get 1 rfl) k2833
    ·
      refine iteN c3098 ?_
      refine rd_next ?_
      refine rd_mk ?_
      refine rd_seq ?_
      refine rd_asg ?_
      refine rd_lc ?_
      refine rd_iList ?_
      refine rd_var rfl ?_
      obtain ⟨w3001, h3002, k3003⟩ := li f2834
      refine ⟨_, rfl, ⟨_, SqL.of (S2997.sub _ _ h3002)⟩, ?_⟩
      intro D3004 h3005
      obtain ⟨l3047, h3048, h⟩ := bnd h
      refine q_lcL (enc := (eT2 eI eS)) (F0 := H0) h3048 (w_li k3003) S2997 h3005 S2997.old ?_ ?_ ?_
      · rintro GD3004 HD3004 accD3004 SD3004 sD3004
        exact (SD3004.sub _ _ (sD3004 _ _ h3002))
      · rintro i3007 x3008 a3006 o3017 G3011 H3009 H3010 acc3016 h3014 h S3012 s3013 h3015 T F hT hF
        have f2819 := f2819.same s3013
        have f2834 := f2834.same s3013
        have f2972 := f2972.same s3013
        have k2833 := k2833.same s3013
        have sT3018 := Same.refl G3011
        obtain ⟨rfl, e3020⟩ := h3015
        have f3021 := (e3020 _ h3014).same s3013
        obtain ⟨a3022, rfl⟩ := fr_tup f3021
        obtain ⟨v3023, v3024, h3027, f3025, f3026⟩ := tu2 f3021
        cases fr_int f3025
        cases fr_str f3026
        refine rd_gtup (S3012.sub _ _ h3027) rfl ?_
        refine rd_gcons ?_
        refine rd_nameS (σ' := [some (.ref a2770), some (.ref a2771), some (.ref a2815), some (.ref a2830), some (.str y2846), some (.int y2927), some (.ref a2952), none, some (.int a3006.1), none, none]) rfl ?_
        refine rd_gcons ?_
        refine rd_nameS (σ' := [some (.ref a2770), some (.ref a2771), some (.ref a2815), some (.ref a2830), some (.str y2846), some (.int y2927), some (.ref a2952), none, some (.int a3006.1), some (.str a3006.2), none]) rfl ?_
        refine rd_gnil ?_
        refine ⟨rfl, ?_⟩
        refine rd_tyes ?_
        refine iteY rfl ?_
        refine rd_tupZ ?_
        refine rd_cons ?_
        refine rd_var rfl ?_
        refine rd_cons ?_
        refine rd_op ?_
        refine rd_op ?_
        refine rd_var rfl ?_
        refine rd_c ?_
        obtain ⟨y3028, h3029, h⟩ := bnd h
        obtain ⟨w3030, h3031, k3032⟩ := li f2834
        refine q_ixL (S3012.sub _ _ h3031) k3032 h3029 fun v3033 f3034 => ?_
        obtain ⟨a3035, rfl⟩ := fr_tup f3034
        refine rd_c ?_
        obtain ⟨v3036, v3037, h3040, f3038, f3039⟩ := tu2 f3034
        cases fr_int f3038
        cases fr_str f3039
        refine rd_ixT (S3012.sub _ _ h3040) rfl ?_
        refine rd_nil ?_
        refine q_tup (F0 := H0) (ds := [eI a3006.1, eS y3028.2]) S3012 (by show 2 ≤ LIM; decide) (.cons (.int _) (.cons (.str _) .nil)) fun a3041 G3042 H3043 S3044 s3045 f3046 => ?_
        have f2819 := f2819.same s3045
        have f2834 := f2834.same s3045
        have f2972 := f2972.same s3045
        have k2833 := k2833.same s3045
        have sT3018 := sT3018.trans s3045
        replace f3046 : Fr H0 G3042 (.ref a3041) ((eT2 eI eS) (a3006.1, y3028.2)) := f3046
        cases h
        exact hT _ _ _ _ rfl S3044 sT3018 f3046
      rintro G3049 H3050 w3051 S3052 s3053 f3054 n3055 n3056
      have f2819 := f2819.same s3053
      have f2834 := f2834.same s3053
      have f2972 := f2972.same s3053
      have k2833 := k2833.same s3053
      obtain ⟨G3057, S3058, s3059, f3060⟩ := S3052.fixF 0 rfl (S3052.notms n3055) f3054 n3056
      have f2819 := f2819.same s3059
      have f2834 := f2834.same s3059
      have f2972 := f2972.same s3059
      have k2833 := k2833.same s3059
      refine rd_nameS (σ' := [some (.ref a2770), some (.ref a2771), some (.ref a2815), some (.ref a2830), some (.str y2846), some (.int y2927), some (.ref a2952), some (.ref D3004), none, none, none]) rfl ?_
      refine rd_mk ?_
      refine rd_ret ?_
      obtain ⟨b3091, h3092, h⟩ := bnd h
      refine rd_teM2 (fun k H' => ∃  (G3093 : Hp), k = .bl b3091 ∧ Sep [a2771] H0 G3093 H' [(a2952, .lst w2969), (a2771, .lst w2831)] ∧ Same G3057 G3093) (fun R q => ?_) ?_
      ·
        have sE3061 := Same.refl G3057
        have h := h3092
        refine rd_andV ?_
        refine rd_call ?_
        refine rd_cons ?_
        refine rd_call ?_
        refine rd_cons ?_
        refine rd_var rfl ?_
        refine rd_nil ?_
        obtain ⟨y3062, h3063, h⟩ := bnd h
        refine ⟨D3004, l3047, rfl, (f3060.rp.same S3058.sub), y3062, h3063, fun G3064 H3065 R3066 => ?_⟩
        obtain ⟨G3067, S3068, s3069, t3070, l3071⟩ := S3058.ret0 R3066
        have f2819 := f2819.same s3069
        have f2834 := f2834.same s3069
        have f3060 := f3060.same s3069
        have f2972 := f2972.same s3069
        have k2833 := k2833.same s3069
        have sE3061 := sE3061.trans s3069
        refine rd_cons ?_
        refine rd_c ?_
        refine rd_nil ?_
        obtain ⟨y3072, h3073, h⟩ := bnd h
        refine ⟨(.int y3062), (eI y3062), (.int (0 : Int)), (eI (0 : Int)), rfl, ((show Fr H0 _ (.int y3062) (eI y3062) from (.int _)).rp.same S3068.sub), ((show Fr H0 _ (.int (0 : Int)) (eI (0 : Int)) from (.int _)).rp.same S3068.sub), y3072, h3073, fun G3074 H3075 R3076 => ?_⟩
        obtain ⟨G3077, S3078, s3079, t3080, l3081⟩ := S3068.ret0 R3076
        have f2819 := f2819.same s3079
        have f2834 := f2834.same s3079
        have f3060 := f3060.same s3079
        have f2972 := f2972.same s3079
        have k2833 := k2833.same s3079
        have sE3061 := sE3061.trans s3079
        refine ⟨_, rfl, ?_⟩
        rcases cnd h with ⟨c3097, h⟩ | ⟨c3097, h⟩
        ·
          refine iteY c3097 ?_
          refine rd_op ?_
          refine rd_cb ?_
          refine rd_cons ?_
          refine rd_lstZ ?_
          refine rd_cons ?_
          refine rd_var rfl ?_
          refine rd_cons ?_
          refine rd_var rfl ?_
          refine rd_nil ?_
          refine q_lstT (ds := [(eL (eT2 eI eS)) y2810.1, (eL (eT2 eI eS)) y2825.1]) S3078 (by show 2 ≤ LIM; decide) (.cons (f2819.rp.same S3078.sub) (.cons (f2834.rp.same S3078.sub) .nil)) fun a3082 G3083 H3084 S3085 s3086 f3087 => ?_
          have f2819 := f2819.same s3086
          have f2834 := f2834.same s3086
          have f3060 := f3060.same s3086
          have f2972 := f2972.same s3086
          have k2833 := k2833.same s3086
          have sE3061 := sE3061.trans s3086
          refine rd_nil ?_
          obtain ⟨y3088, h3089, h⟩ := bnd h
          refine q_repr f3087 h3089 ?_
          refine rd_var rfl ?_
          refine q_eqS ?_
          cases h
          exact q _ _ ⟨G3083, rfl, S3085, sE3061⟩
        ·
          refine iteN c3097 ?_
          cases h
          exact q _ _ ⟨G3077, rfl, S3078, sE3061⟩
      rintro _ H3094 ⟨G3093, rfl, S3095, s3096⟩
      have f2819 := f2819.same s3096
      have f2834 := f2834.same s3096
      have f3060 := f3060.same s3096
      have f2972 := f2972.same s3096
      have k2833 := k2833.same s3096
      cases h
      exact kq w2831 _ _ S3095.toRet (S3095.get 1 rfl) k2833
end
end K37

namespace K37
open PySem L2 LX LQ
section
variable {P : Program} {w : World} {K : PySem.W.Frag} {mg : Str → Option Value} {base : Heap} {a : Ad}
open LQF
def sp__law_bag (K : PySem.W.Frag) : Sp := fun vs H Q _ => ∃ (x_cell : Int) (x_turn : Int), vs = [(.int x_cell), (.int x_turn)] ∧ ∃ r, F__law_bag x_cell x_turn = some r ∧ ∀ (a : Addr) (G H' : Hp), Ret [] H G H' → Fr H G (.ref a) ((eL eI) (r)) → Q (.ref a) H'
theorem ok__law_bag (T : Txt K mg a) : FnOk P w K mg base CX0 1 a.f__law_bag a.d__law_bag ["cell", "turn"] (sp__law_bag K) := by
  refine T.F__law_bag.ok sc__law_bag (fun vs H Q E h => ?_) (fun cdv A outer s H0 vs Q E hr h => ?_)
  · obtain ⟨x_cell, x_turn, rfl, _⟩ := h
    rfl
  · obtain ⟨x_cell, x_turn, rfl, r, h, kq⟩ := h
    have nd := sc__law_bag.nd
    have hu64 := hr.units
    have hu65 := units65 hr
    refine ⟨_, (pss_cons (ps_set (i := 2) nd rfl (Or.inl rfl) (pe_callB (kmax2 rfl) (by rfl) T.b_max (by decide +kernel) (pa_cons (pv 0) (pa_cons (pe_op op_sub pe_int (pv 0)) pa_nil))))
      (pss_one (ps_ret (pe_lst (pa_cons (pe_callB (kmax2 rfl) (by rfl) T.b_max (by decide +kernel) (pa_cons pe_int (pa_cons (pe_op op_sub (pv 2) (pe_op op_powW pe_int pe_int)) pa_nil))) (pa_cons (pe_op op_mod (pe_op op_add (pe_op op_mul (pv 0) pe_int) (pe_op op_mulW (pe_op op_powW pe_int pe_int) (pe_op op_add (pv 1) pe_int))) (pe_op op_add (pe_op op_powW pe_int pe_int) pe_int)) (pa_cons pe_int pa_nil))))))), ?_⟩
    unfold F__law_bag at h
    have S0 := Sep.start H0
    refine rd_seq ?_
    refine rd_asg ?_
    refine rd_cb ?_
    refine rd_cons ?_
    refine rd_var rfl ?_
    refine rd_cons ?_
    refine rd_op ?_
    refine rd_c ?_
    refine rd_var rfl ?_
    refine rd_I0 ?_
    refine rd_nil ?_
    refine q_max2 ?_
    refine rd_nameS (σ' := [some (.int x_cell), some (.int x_turn), some (.int (maxI x_cell ((0 : Int) - x_cell)))]) rfl ?_
    refine rd_mk ?_
    refine rd_ret ?_
    refine rd_lstZ ?_
    refine rd_cons ?_
    refine rd_cb ?_
    refine rd_cons ?_
    refine rd_c ?_
    refine rd_cons ?_
    refine rd_op ?_
    refine rd_var rfl ?_
    refine rd_op ?_
    refine rd_c ?_
    refine rd_c ?_
    refine rd_I ⟨by decide, by decide, by decide⟩ ?_
    refine rd_I0 ?_
    refine rd_nil ?_
    refine q_max2 ?_
    refine rd_cons ?_
    refine rd_op ?_
    refine rd_op ?_
    refine rd_op ?_
    refine rd_var rfl ?_
    refine rd_c ?_
    refine rd_I (Or.inr ⟨by decide, by decide⟩) ?_
    refine rd_op ?_
    refine rd_op ?_
    refine rd_c ?_
    refine rd_c ?_
    refine rd_I ⟨by decide, by decide, by decide⟩ ?_
    refine rd_op ?_
    refine rd_var rfl ?_
    refine rd_c ?_
    refine rd_I0 ?_
    obtain ⟨y3099, h3100, h⟩ := bnd h
    refine q_mulW h3100 ?_
    refine rd_I0 ?_
    refine rd_op ?_
    refine rd_op ?_
    refine rd_c ?_
    refine rd_c ?_
    refine rd_I ⟨by decide, by decide, by decide⟩ ?_
    refine rd_c ?_
    refine rd_I0 ?_
    obtain ⟨y3101, h3102, h⟩ := bnd h
    refine q_mod h3102 ?_
    refine rd_cons ?_
    refine rd_c ?_
    refine rd_nil ?_
    refine q_lst (F0 := H0) (ds := [eI (maxI (0 : Int) ((maxI x_cell ((0 : Int) - x_cell)) - ((10 : Int) ^ (18 : Nat)))), eI y3101, eI (0 : Int)]) S0 (by show 3 ≤ LIM; decide) (.cons (.int _) (.cons (.int _) (.cons (.int _) .nil))) S0.old fun a3103 G3104 H3105 S3106 s3107 f3108 => ?_
    replace f3108 : Fr H0 G3104 (.ref a3103) ((eL eI) [(maxI (0 : Int) ((maxI x_cell ((0 : Int) - x_cell)) - ((10 : Int) ^ (18 : Nat)))), y3101, (0 : Int)]) := f3108
    cases h
    exact kq a3103 _ _ S3106.toRet f3108
end
end K37

namespace K37
open PySem L2 LX LQ
section
variable {P : Program} {w : World} {K : PySem.W.Frag} {mg : Str → Option Value} {base : Heap} {a : Ad}
open LQF
def sp_law0 (K : PySem.W.Frag) : Sp := fun vs H Q _ => ∃ (a3109 : Addr) (x_script : (List Int)), vs = [.ref a3109] ∧ Scr K H a3109 x_script ∧ ∃ r, F_law x_script = some r ∧ ∀ (G H' : Hp), Ret [] H G H' → Q (.bl (r)) H'
theorem ok_law0 (T : Txt K mg a) : FnG P w K mg base 7 a.f_law a.d_law ["script"] (sp_law0 K) := by
  refine fnG T.F_law sc_law (fun vs H Q E h => ?_) (fun cdv A outer s H0 vs Q E hr quiet h => ?_)
  · obtain ⟨a3109, x_script, rfl, _⟩ := h
    rfl
  · obtain ⟨a3109, x_script, rfl, f3110, r, h, kq⟩ := h
    have nd := sc_law.nd
    have hu64 := hr.units
    have hu65 := units65 hr
    refine ⟨_, (pss_cons (ps_for PassesOwn.never rfl (pi_enum rfl T.b_enumerate (pa_cons (pe_slice (ksl_list (K := K)) (pe_call (ok__law_cells T) (hr.mono (by decide)) rfl T.g__law_cells T.k__law_cells T.n__law_cells .nil pass0 (pa_cons (pv 0) pa_nil)) po_none (po_some pe_int)) pa_nil)) (kpg_tup (K := K) rfl (pgs_cons (pg_name (i := 1) nd rfl (Or.inl rfl)) (pgs_cons (pg_name (i := 2) nd rfl (Or.inl rfl)) pgs_nil))) (pss_one (ps_if (pt_not (pt_val (pe_callG (ok__law_right T) (hr.mono (by decide)) quiet rfl T.g__law_right T.k__law_right T.n__law_right (pa_cons (pv 0) (pa_cons (pe_call (ok__law_bag T) (hr.mono (by decide)) rfl T.g__law_bag T.k__law_bag T.n__law_bag .nil pass0 (pa_cons (pv 2) (pa_cons (pv 1) pa_nil))) pa_nil))))) (pss_one (ps_ret pe_bl)) pss_nil)))
      (pss_one (ps_ret pe_bl))), ?_⟩
    unfold F_law at h
    have S0 := Sep.start H0
    refine rd_seq ?_
    refine rd_for ?_
    refine rd_iEn ?_
    refine rd_cons ?_
    refine rd_sl ?_
    refine rd_call ?_
    refine rd_cons ?_
    refine rd_var rfl ?_
    refine rd_nil ?_
    obtain ⟨y3111, h3112, h⟩ := bnd h
    refine ⟨a3109, x_script, rfl, (f3110.same S0.sub), y3111, h3112, fun a3116 G3113 H3114 R3115 f3117 => ?_⟩
    obtain ⟨G3118, S3119, s3120, t3121, l3122⟩ := S0.ret0 R3115
    have f3110 := f3110.same s3120
    have f3117 := t3121 _ _ f3117
    refine rd_nopart ?_
    refine rd_part ?_
    refine rd_c ?_
    refine rd_int ?_
    obtain ⟨w3123, h3124, k3125⟩ := li f3117
    refine q_slL S3119 (S3119.sub _ _ h3124) k3125 S3119.old fun a3126 G3129 H3127 S3128 s3130 f3131 => ?_
    have f3110 := f3110.same s3130
    refine rd_nil ?_
    obtain ⟨w3132, h3133, k3134⟩ := li f3131
    refine ⟨_, _, rfl, SqL.of (S3128.sub _ _ h3133), ?_⟩
    obtain ⟨r3153_, h3154, ho3152⟩ := bnd h
    refine q_forC h3154 (w_en k3134) (fun s3136 σ' H' => ∃ (x3148 : Option V) (x3149 : Option V) (G3144 : Hp), σ' = [some (.ref a3109), x3148, x3149] ∧ Sep [] H0 G3144 H' [] ∧ Same G3129 G3144) ?_ ?_ ?_ ?_
    · exact ⟨_, _, G3129, rfl, S3128, Same.refl _⟩
    · rintro s3136 _ H3145 ⟨x3148, x3149, G3144, rfl, S3146, sE3147⟩
      exact (S3146.sub _ _ (sE3147 _ _ h3133))
    · rintro i3137 a3135 s3136 c3143 x3139 _ H3145 H3140 h3141 h ⟨x3148, x3149, G3144, rfl, S3146, sE3147⟩ h3142 hq3150 kb3151
      have f3110 := f3110.same sE3147
      obtain ⟨T3155, v3156, v3157, rfl, h3158, e3160, e3159⟩ := h3142
      obtain ⟨k3161, k3162⟩ := e3159 _ h3141
      replace k3161 := k3161.same sE3147
      replace k3162 := k3162.same sE3147
      obtain ⟨G3163, S3164, s3165, f3166⟩ := S3146.pair h3158 e3160 k3161 k3162
      have f3110 := f3110.same s3165
      have sE3147 := sE3147.trans s3165
      replace f3166 : Fr H0 G3163 (.ref T3155) (eT2 eI eI a3135) := f3166
      obtain ⟨v3167, v3168, h3171, f3169, f3170⟩ := tu2 f3166
      cases fr_int f3169
      cases fr_int f3170
      refine rd_gtup (S3164.sub _ _ h3171) rfl ?_
      refine rd_gcons ?_
      refine rd_nameS (σ' := [some (.ref a3109), some (.int a3135.1), x3149]) rfl ?_
      refine rd_gcons ?_
      refine rd_nameS (σ' := [some (.ref a3109), some (.int a3135.1), some (.int a3135.2)]) rfl ?_
      refine rd_gnil ?_
      refine rd_ifS ?_
      refine rd_not ?_
      refine rd_tB ?_
      refine rd_call ?_
      refine rd_cons ?_
      refine rd_var rfl ?_
      refine rd_cons ?_
      refine rd_call ?_
      refine rd_cons ?_
      refine rd_var rfl ?_
      refine rd_cons ?_
      refine rd_var rfl ?_
      refine rd_nil ?_
      obtain ⟨y3172, h3173, h⟩ := bnd h
      refine ⟨a3135.2, a3135.1, rfl, y3172, h3173, fun a3177 G3174 H3175 R3176 f3178 => ?_⟩
      obtain ⟨G3179, w3184, S3180, s3181, n3185, f3186⟩ := S3164.ret0O R3176 f3178
      have f3110 := f3110.same s3181
      have sE3147 := sE3147.trans s3181
      refine rd_nil ?_
      obtain ⟨y3187, h3188, h⟩ := bnd h
      refine ⟨a3109, x_script, a3177, w3184, y3172, rfl, (f3110.same (S3180.hid1 0 rfl)), (S3180.get 0 rfl), (f3186.rp.same (S3180.hid1 0 rfl)), y3187, h3188, fun w3192 G3189 H3190 R3191 h3193 k3194 => ?_⟩
      obtain ⟨G3195, S3196, s3197, t3198, l3199⟩ := S3180.ret1 0 rfl R3191 h3193 lst_tup
      have k3194 := l3199 _ _ (k3194.imm (flat_map flI _))
      have f3110 := f3110.same s3197
      have f3186 := f3186.same s3197
      have sE3147 := sE3147.trans s3197
      have S3196 : Sep [] H0 G3195 H3190 [(a3177, .lst w3192)] := S3196
      refine rd_bl ?_
      rcases cnd h with ⟨c3202, h⟩ | ⟨c3202, h⟩
      ·
        refine iteY c3202 ?_
        refine rd_ret ?_
        refine rd_c ?_
        cases h
        have e3200 := hq3150 _ rfl
        subst e3200
        cases (show some (false) = some _ from ho3152)
        exact kq _ _ S3196.toRet
      ·
        refine iteN c3202 ?_
        refine rd_next ?_
        have S3201 := S3196.drop 0 rfl n3185
        have S3201 : Sep [] H0 G3195 H3190 [] := S3201
        cases h
        exact ⟨_, rfl, _, _, G3195, rfl, S3201, sE3147⟩
    rintro r3153 _ H3204 rfl ⟨x3207, x3208, G3203, rfl, S3205, sE3206⟩
    have h := ho3152
    have f3110 := f3110.same sE3206
    refine rd_mk ?_
    refine rd_ret ?_
    refine rd_c ?_
    cases h
    exact kq _ _ S3205.toRet
end
end K37

namespace LQF
open PySem L2 LX LQ
def Bg (k : Nat) (l : List Int) : Prop := ∃ a b c : Int, l = [a, b, c] ∧ 0 ≤ b ∧ b < 1000000000000000000000000000000000000000063 ∧ 0 ≤ c ∧ c ≤ k
theorem Bg.up {k m : Nat} {l : List Int} (h : Bg k l) (z : k ≤ m) : Bg m l := by
  obtain ⟨a, b, c, e, h1, h2, h3, h4⟩ := h
  exact ⟨a, b, c, e, h1, h2, h3, by omega⟩
theorem big1 {i : Int} (h0 : 0 ≤ i) (h : i < 2 ^ 200) : i.natAbs < 2 ^ 1000 := Nat.lt_of_lt_of_le (show i.natAbs < 2 ^ 200 by omega) (Nat.pow_le_pow_right (by decide) (by decide))
theorem big2 {i : Int} (h0 : 0 ≤ i) (h : i < 2 ^ 200) : i.natAbs < 2 ^ 100000 := Nat.lt_of_lt_of_le (show i.natAbs < 2 ^ 200 by omega) (Nat.pow_le_pow_right (by decide) (by decide))
theorem m_bag (c : Int) (t : Nat) (ht : t < 2 ^ 60) : Ev (F__law_bag c (t : Int)) (Bg 0) := by
  unfold F__law_bag
  have e : (613652983 : Int) ^ (4 : Nat) < 2 ^ 200 := by decide
  have e0 : 0 ≤ (613652983 : Int) ^ (4 : Nat) := by decide
  refine ev_be (mulF_ok (big2 e0 e) (big2 (by omega) (by omega))) ?_
  refine ev_be (modF_ok (by decide)) (ev_s ⟨_, _, _, rfl, ?_, ?_, by omega, by omega⟩)
  · exact Int.emod_nonneg _ (by decide)
  · exact Int.emod_lt_of_pos _ (by decide)
theorem m_draw {k : Nat} {l : List Int} {n : Int} (h : Bg k l) (hn : 0 < n) (hm : n < 2 ^ 62) (hk : k < 2 ^ 64) : Ev (F__law_draw l n) fun r => 0 ≤ r.1 ∧ r.1 < n ∧ Bg (k + 1) r.2 := by
  obtain ⟨a, b, c, rfl, h1, h2, h3, h4⟩ := h
  unfold F__law_draw
  refine ev_be (x := a) rfl ?_
  refine ev_c (fun ha => ?_) (fun ha => ?_)
  · refine ev_be (x := a) rfl ?_
    refine ev_be (modF_ok hn) ?_
    refine ev_be (x := a) rfl ?_
    refine ev_be (divF_ok hn (by omega)) ?_
    refine ev_be (x := [a / n, b, c]) rfl ?_
    exact ev_s ⟨Int.emod_nonneg _ (by omega), Int.emod_lt_of_pos _ hn, _, _, _, rfl, h1, h2, h3, by omega⟩
  · refine ev_be (x := c) rfl ?_
    refine ev_be (x := [a, b, c + 1]) rfl ?_
    refine ev_be (x := b) rfl ?_
    refine ev_be (x := c + 1) rfl ?_
    have e : (87178291 : Int) ^ (3 : Nat) < 2 ^ 200 := by decide
    have e0 : 0 ≤ (87178291 : Int) ^ (3 : Nat) := by decide
    refine ev_be (mulF_ok (big2 (by omega) (by omega)) (big2 e0 e)) ?_
    refine ev_be (modF_ok (by decide)) ?_
    have f0 := Int.emod_nonneg (b + (c + 1) * (87178291 : Int) ^ (3 : Nat)) (show (10 : Int) ^ 42 + 63 ≠ 0 by decide)
    have f1 := Int.emod_lt_of_pos (b + (c + 1) * (87178291 : Int) ^ (3 : Nat)) (show 0 < (10 : Int) ^ 42 + 63 by decide)
    have f2 : (10 : Int) ^ 42 + 63 < 2 ^ 190 := by decide
    generalize (b + (c + 1) * (87178291 : Int) ^ (3 : Nat)) % ((10 : Int) ^ 42 + 63) = y at f0 f1
    refine ev_be (powF_ok (by decide) (by decide) (big1 (by omega) (by omega))) ?_
    refine ev_be (modF_ok (by decide)) ?_
    have g0 := Int.emod_nonneg (y ^ (3 : Int).toNat) (show (10 : Int) ^ 39 + 33 ≠ 0 by decide)
    have g1 := Int.emod_lt_of_pos (y ^ (3 : Int).toNat) (show 0 < (10 : Int) ^ 39 + 33 by decide)
    have g2 : (10 : Int) ^ 39 + 33 < 2 ^ 190 := by decide
    generalize y ^ (3 : Int).toNat % ((10 : Int) ^ 39 + 33) = u at g0 g1
    refine ev_be (x := c + 1) rfl ?_
    refine ev_be (powF_ok (by decide) (by decide) (big1 (by omega) (by omega))) ?_
    refine ev_be (modF_ok (by decide)) ?_
    refine ev_be (divF_ok (by decide) (by decide)) ?_
    refine ev_be (modF_ok hn) ?_
    exact ev_s ⟨Int.emod_nonneg _ (by omega), Int.emod_lt_of_pos _ hn, _, _, _, rfl, h1, h2, by omega, by omega⟩
theorem erase_mp {α β : Type} (f : α → β) : ∀ (l : List α) (j : Nat), (l.map f).eraseIdx j = (l.eraseIdx j).map f
  | [], _ => rfl
  | x :: l, 0 => rfl
  | x :: l, j + 1 => by
    show f x :: (l.map f).eraseIdx j = f x :: (l.eraseIdx j).map f
    rw [erase_mp f l j]
theorem erase_pm {α : Type} : ∀ (l : List α) (j : Nat) (h : j < l.length), (l[j] :: l.eraseIdx j).Perm l
  | [], _, h => nomatch h
  | x :: l, 0, _ => List.Perm.refl _
  | x :: l, j + 1, h => (List.Perm.swap _ _ _).trans ((erase_pm l j (Nat.lt_of_succ_lt_succ h)).cons x)
theorem m_shuf {α : Type} : ∀ (is : List Int) {k : Nat} {l : List α} {bg : List Int}, is.length = l.length → Bg k bg → l.length ≤ 1000 → k + l.length < 2 ^ 63 →
    Ev (compS (fun (_ : Int) (s : (List α) × (List Int)) => (F__law_draw s.2 (lenI s.1)).bind fun y => (popAtF s.1 y.1).bind fun z => some (some z.1, (z.2, y.2))) is (l, bg)) fun r => r.1.Perm l ∧ Bg (k + l.length) r.2.2
  | [], k, l, bg, hl, B, _, _ => by
    have : l = [] := List.eq_nil_of_length_eq_zero hl.symm
    subst this
    exact ⟨_, rfl, List.Perm.refl _, B⟩
  | i :: is, k, l, bg, hl, B, z, hk => by
    have hp : 0 < l.length := by rw [← hl]; exact Nat.succ_pos _
    have ll : lenI l = (l.length : Int) := rfl
    show Ev (Option.bind (Option.bind (F__law_draw bg (lenI l)) _) _) _
    obtain ⟨y, ey, a0, a1, B1⟩ := m_draw (n := lenI l) B (by omega) (by omega) (by omega)
    rw [ey]
    obtain ⟨j, hj⟩ : ∃ j : Nat, y.1 = (j : Int) := ⟨y.1.toNat, by omega⟩
    have jl : j < l.length := by omega
    show Ev (Option.bind (Option.bind (popAtF l y.1) _) _) _
    rw [hj, popAt_nat (List.getElem?_eq_getElem jl) (by unfold LIM; omega)]
    have hl2 : is.length + 1 = l.length := hl
    have el : (l.eraseIdx j).length = l.length - 1 := List.length_eraseIdx_of_lt jl
    have il : is.length = (l.eraseIdx j).length := by rw [el, ← hl]; rfl
    obtain ⟨r, er, pr, Br⟩ := m_shuf is (k := k + 1) (l := l.eraseIdx j) (bg := y.2) il B1 (by omega) (by omega)
    show Ev (Option.bind (compS _ is (l.eraseIdx j, y.2)) _) _
    rw [er]
    exact ⟨_, rfl, (pr.cons _).trans (erase_pm l j jl), Br.up (by rw [el]; omega)⟩
theorem m_shufL {k : Nat} {l bg : List Int} (B : Bg k bg) (z : l.length ≤ 1000) (hk : k < 2 ^ 62) : Ev (F__law_shuffled_L bg l) fun r => r.1.Perm l ∧ Bg (k + l.length) r.2 := by
  unfold F__law_shuffled_L
  have ll : lenI l = (l.length : Int) := rfl
  refine ev_be (rngF_ok (by decide) (by decide) (by omega) (by omega)) ?_
  have rl : (rgI 0 (lenI l)).length = l.length := by rw [rgI_len]; omega
  refine ev_b (P := fun r => r.1.Perm l ∧ Bg (k + l.length) r.2.2) ?_ fun r h => ev_s h
  unfold compLS
  rw [decide_eq_true (by rw [rl]; unfold LIM; omega)]
  exact m_shuf _ rl B z (by omega)
theorem m_shufS {k : Nat} {bg : List Int} {z : Str} (B : Bg k bg) (hz : z.length ≤ 1000) (hk : k < 2 ^ 62) : Ev (F__law_shuffled_S bg z) fun r => r.1.Perm (chars z) ∧ Bg (k + (chars z).length) r.2 := by
  unfold F__law_shuffled_S
  have cl : (chars z).length = z.length := by
    unfold chars
    rw [List.length_map, Array.length_toList]
    rfl
  refine ev_be (x := chars z) (by
    unfold charsF
    rw [decide_eq_true (show z.cps.size ≤ 4000 from Nat.le_trans hz (by decide))]
    rfl) ?_
  refine ev_be (x := (z.length : Int)) (by
    unfold lenS
    rw [decide_eq_true (show z.length ≤ LIM from Nat.le_trans hz (by decide))]
    rfl) ?_
  refine ev_be (rngF_ok (by decide) (by decide) (by omega) (by omega)) ?_
  have rl : (rgI 0 (z.length : Int)).length = (chars z).length := by rw [rgI_len, cl]; omega
  refine ev_b (P := fun r => r.1.Perm (chars z) ∧ Bg (k + (chars z).length) r.2.2) ?_ fun r h => ev_s h
  unfold compLS
  rw [decide_eq_true (by rw [rl, cl]; unfold LIM; omega)]
  exact m_shuf _ rl B (by rw [cl]; exact hz) (by omega)
end LQF

namespace LQF
open PySem L2 LX LQ
theorem m_is_integer (v : Int) : F_is_integer v = some true := rfl
theorem m_is_color {c : Nat} (h : 97 ≤ c ∧ c ≤ 122) : F_is_color (lt c) = some true := by
  have e := lt_col h
  unfold F_is_color
  show Option.bind (cond (decide ((1 : Int) = 1)) (some ((!ltS (lt c) (Str.ofString "a")) && (!ltS (Str.ofString "z") (lt c)))) (some false)) _ = _
  rw [e]
  rfl
theorem m_is_colored_integer {e : Nat × Nat} (h : 97 ≤ e.2 ∧ e.2 ≤ 122) : F_is_colored_integer (eRow e) = some true := by
  unfold F_is_colored_integer
  rw [m_is_integer, show F_is_color (eRow e).2 = some true from m_is_color h]
  rfl
theorem lenI_enc (r : Row) : lenI (enc r) = (r.length : Int) := by unfold lenI; rw [enc_len]
theorem loopC_nx {α R S : Type} {f : α → S → Option (Ctl R S)} {s : S} : ∀ {l : List α}, (∀ x ∈ l, f x s = some (.nx s)) → loopC f l s = some (.nx s)
  | [], _ => rfl
  | x :: l, h => by
    show (f x s).bind _ = _
    rw [h x List.mem_cons_self]
    exact loopC_nx fun y hy => h y (List.mem_cons_of_mem _ hy)
theorem loopF_nx {α S : Type} {f : α → S → Option S} {s : S} : ∀ {l : List α}, (∀ x ∈ l, f x s = some s) → loopF f l s = some s
  | [], _ => rfl
  | x :: l, h => by
    show (f x s).bind _ = _
    rw [h x List.mem_cons_self]
    exact loopF_nx fun y hy => h y (List.mem_cons_of_mem _ hy)
theorem sort_nI {ns : List Int} {n : Nat} (p : ns.Perm (nI (List.range n))) : sortI ns = nI (List.range n) := by
  unfold sortI
  refine List.Perm.eq_of_pairwise (le := fun a b : Int => decide (a ≤ b) = true) (fun a b _ _ x y => by rw [decide_eq_true_iff] at *; omega) ?_ ?_ ((List.mergeSort_perm _ _).trans p)
  · exact List.pairwise_mergeSort (fun a b c x y => by rw [decide_eq_true_iff] at *; omega) (fun a b => by simp; omega) ns
  · rw [nI, List.pairwise_map]
    exact List.pairwise_lt_range.imp fun h => by rw [decide_eq_true_iff]; omega
theorem ev_eq {o : Option Bool} (h : o = some true) : (o.bind fun b => some b) = some true := by rw [h]; rfl
theorem m_is_lineup {r : Row} (V : Vr r) : F_is_lineup (enc r) = some true := by
  have n1 := V.n1
  have n2 := V.n2
  unfold F_is_lineup
  rw [lenI_enc, decide_eq_true (show (1 : Int) ≤ r.length by omega), decide_eq_true (show (r.length : Int) ≤ 60 by omega)]
  show Option.bind (loopC _ (enc r) ()) _ = _
  rw [loopC_nx (fun x hx => by
    obtain ⟨e, he, rfl⟩ := List.mem_map.mp hx
    rw [m_is_colored_integer (V.col e he)]
    rfl)]
  show Option.bind (compL _ _) _ = _
  refine be (compL_map (g := fun a : Int × Str => a.1) (by rw [enc_len]; unfold LIM; omega) (fun _ _ => rfl)) ?_
  refine be (lrgF_ok (by decide) (by decide) (by omega) (by omega) (by unfold LIM; omega)) ?_
  rw [rgI_nat]
  have e : (enc r).map (fun a : Int × Str => a.1) = nI (r.map (·.1)) := by
    show List.map _ (List.map _ r) = List.map _ (List.map _ r)
    rw [List.map_map, List.map_map]
    rfl
  rw [e, sort_nI (V.perm.map _)]
  have q := (EqE.list EqE.int).run (by decide) (x := nI (List.range r.length)) (y := nI (List.range r.length)) (fun _ _ => trivial) (fun _ _ => trivial)
  rw [decide_eq_true rfl] at q
  exact ev_eq q
theorem m_check_lineup {r : Row} (V : Vr r) : F_check_lineup (enc r) = some () := by
  unfold F_check_lineup
  rw [m_is_lineup V]
  rfl
end LQF

namespace LQF
open PySem L2 LX LQ
theorem lt_list {ys : List Str} (h : ∀ y ∈ ys, ∃ c, y = lt c) : ∃ ns : List Nat, ys = ns.map lt := by
  induction ys with
  | nil => exact ⟨[], rfl⟩
  | cons y ys ih =>
    obtain ⟨c, hc⟩ := h y List.mem_cons_self
    obtain ⟨ns, hn⟩ := ih fun u hu => h u (List.mem_cons_of_mem _ hu)
    exact ⟨c :: ns, by rw [hn, hc]; rfl⟩
theorem chars_lt (z : Str) : chars z = z.cps.toList.map lt := rfl
theorem abc_ok : ∀ c ∈ (Str.ofString "abcdefghijklmnopqrstuvwxyz").cps.toList, 97 ≤ c ∧ c ≤ 122 := fun c hc =>
  of_decide_eq_true (List.all_eq_true.mp (show ((Str.ofString "abcdefghijklmnopqrstuvwxyz").cps.toList.all fun c => decide (97 ≤ c ∧ c ≤ 122)) = true by decide +kernel) c hc)
theorem abc_len : (Str.ofString "abcdefghijklmnopqrstuvwxyz").length = 26 := by decide +kernel
theorem lastE {rr : Row} (h : rr ≠ []) : ∃ e ∈ rr, ix (enc rr) (-(1 : Int)) = some (eRow e) := by
  have hl : 0 < rr.length := by cases rr with | nil => exact absurd rfl h | cons => exact Nat.succ_pos _
  have e : ix (enc rr) (-(1 : Int)) = (enc rr)[rr.length - 1]? := by
    unfold ix atI ixN
    rw [enc_len]
    rw [if_neg (by omega), if_pos (by omega)]
    show (enc rr)[((rr.length : Int) + -1).toNat]? = _
    congr 1
    omega
  rw [e, List.getElem?_map, List.getElem?_eq_getElem (by omega)]
  exact ⟨_, List.getElem_mem _, rfl⟩
/-- letters in any order, all of the alphabet -/
theorem m_stock {k : Nat} {bg : List Int} (B : Bg k bg) (hk : k < 2 ^ 60) : Ev (F__law_shuffled_S bg (Str.ofString "abcdefghijklmnopqrstuvwxyz")) fun r => (∃ st : List Nat, r.1 = st.map lt ∧ st.length = 26 ∧ ∀ c ∈ st, 97 ≤ c ∧ c ≤ 122) ∧ Bg (k + 26) r.2 := by
  refine (m_shufS B (by rw [abc_len]; decide) (by omega)).imp fun r ⟨pm, Br⟩ => ?_
  have cl : (chars (Str.ofString "abcdefghijklmnopqrstuvwxyz")).length = 26 := by
    rw [chars_lt, List.length_map, Array.length_toList]
    exact abc_len
  rw [cl] at Br
  refine ⟨?_, Br⟩
  obtain ⟨st, e⟩ := lt_list fun y hy => by
    obtain ⟨c, _, e⟩ := List.mem_map.mp ((chars_lt _ ▸ pm.mem_iff.mp hy : y ∈ List.map lt _))
    exact ⟨c, e.symm⟩
  refine ⟨st, e, ?_, fun c hc => ?_⟩
  · have := pm.length_eq
    rw [e, List.length_map, cl] at this
    exact this
  · have h1 : lt c ∈ chars (Str.ofString "abcdefghijklmnopqrstuvwxyz") := pm.mem_iff.mp (by rw [e]; exact List.mem_map_of_mem (f := lt) hc)
    rw [chars_lt] at h1
    obtain ⟨d, hd, e2⟩ := List.mem_map.mp h1
    rw [← lt_inj.mp e2]
    exact abc_ok d hd
theorem m_people {k : Nat} {bg : List Int} {n m : Nat} (B : Bg k bg) (n1 : 1 ≤ n) (n2 : n ≤ 60) (m1 : 1 ≤ m) (m2 : m ≤ 26) (hk : k < 2 ^ 59) :
    Ev (F__law_people bg (n : Int) (m : Int)) fun r => ∃ row : Row, Vr row ∧ r.1 = enc row ∧ row.length = n ∧ (∃ st : List Nat, st.length ≤ m ∧ ∀ e ∈ row, e.2 ∈ st) ∧ Bg (k + 300) r.2 := by
  unfold F__law_people
  refine ev_b (m_stock B (by omega)) fun y1 ⟨⟨st, e1, sl, sc⟩, B1⟩ => ?_
  refine ev_b (m_draw B1 (by decide) (by decide) (by omega)) fun y2 ⟨_, _, B2⟩ => ?_
  refine ev_be (lrgF_ok (by decide) (by decide) (by omega) (by omega) (by unfold LIM; omega)) ?_
  rw [rgI_nat]
  have rl : (nI (List.range n)).length = n := by rw [List.length_map, List.length_range]
  refine ev_b (m_shufL (l := nI (List.range n)) B2 (by rw [rl]; omega) (by omega)) fun y3 ⟨pm, B3⟩ => ?_
  rw [rl] at B3
  obtain ⟨ps, e3⟩ : ∃ ps, y3.1 = nI ps := ex_nI fun x hx => by
    obtain ⟨j, _, e⟩ := List.mem_map.mp (pm.mem_iff.mp hx)
    exact ⟨j, e.symm⟩
  have pl : ps.length = n := by
    have := pm.length_eq
    rw [e3, rl, List.length_map] at this
    exact this
  have pm2 : ps.Perm (List.range n) := by
    have h1 : (y3.1.map Int.toNat).Perm ((nI (List.range n)).map Int.toNat) := pm.map _
    have h2 : ∀ l : List Nat, (nI l).map Int.toNat = l := fun l => by
      show List.map _ (List.map _ l) = l
      rw [List.map_map]
      exact List.map_id'' (fun x => Int.toNat_natCast x) l
    rw [e3, h2, h2] at h1
    exact h1
  rw [e1, e3, cutL_to]
  have el : (st.map lt).take m = (st.take m).map lt := by rw [List.map_take]
  rw [el]
  have tl : (st.take m).length = m := by rw [List.length_take]; omega
  refine ev_b (ev_loop (P := fun s => ∃ rr : Row, s.1 = enc rr ∧ rr.map (·.1) = ps ∧ (∀ e ∈ rr, e.2 ∈ st.take m) ∧ Bg (k + 300) s.2) (fun i s => i ≤ n ∧ ∃ rr : Row, s.1 = enc rr ∧ rr.map (·.1) = ps.take i ∧ (∀ e ∈ rr, e.2 ∈ st.take m) ∧ Bg (k + 27 + n + 2 * i) s.2) ⟨Nat.zero_le _, [], rfl, rfl, (fun e he => nomatch he), B3⟩ ?_ ?_) ?_
  · rintro i ⟨j, x⟩ ⟨f, b⟩ hi ⟨_, rr, e4, e5, hc, Bb⟩
    obtain ⟨e6, e7⟩ := enum_at hi
    dsimp only at e4 e6 e7 Bb
    subst e4
    subst e6
    rw [List.getElem?_map] at e7
    obtain ⟨p, hp, rfl⟩ := Option.map_eq_some_iff.mp e7
    have il := (List.getElem?_eq_some_iff.mp hp).1
    have rrl : rr.length = i := by
      have := congrArg List.length e5
      rw [List.length_map, List.length_take] at this
      omega
    refine ev_b (P := fun w : Int => 1 ≤ w ∧ w ≤ m) ?_ fun w ⟨w1, w2⟩ => ?_
    · refine ev_c (fun _ => ev_s ⟨by omega, by omega⟩) fun _ => ?_
      refine ev_be (mulF_ok (big2 (by dsimp only; omega) (by dsimp only; omega)) (big2 (by omega) (by omega))) ?_
      refine ev_be (divF_ok (by omega) (by omega)) ?_
      have q0 : 0 ≤ ((i : Int) * (m : Int)) / (n : Int) := Int.ediv_nonneg (Int.mul_nonneg (by omega) (by omega)) (by omega)
      refine ev_s ?_
      rw [minI_eq]
      dsimp only
      omega
    refine ev_b (m_draw Bb (by omega) (by omega) (by omega)) fun y4 ⟨a0, a1, B4⟩ => ?_
    refine ev_b (ev_ix (P := fun s => ∃ c ∈ st.take m, s = lt c) a0 (by unfold lenI; rw [List.length_map, tl]; omega) fun s hs => ?_) fun s ⟨c, hcm, es⟩ => ?_
    · rw [List.getElem?_map] at hs
      obtain ⟨c, hc2, rfl⟩ := Option.map_eq_some_iff.mp hs
      exact ⟨c, List.mem_of_getElem? hc2, rfl⟩
    subst es
    refine ev_b (P := fun p => (∃ c ∈ st.take m, p.1 = lt c) ∧ Bg (k + 27 + n + 2 * i + 2) p.2) ?_ fun pp ⟨⟨d, hd, ed⟩, Bp⟩ => ?_
    · refine ev_b (P := fun p => Bg (k + 27 + n + 2 * i + 2) p.2 ∧ (p.1 = true → 0 < i)) ?_ fun p ⟨Bp, ne⟩ => ?_
      · refine ev_c (fun _ => ?_) (fun _ => ev_s ⟨B4.up (by omega), fun h => nomatch h⟩)
        refine ev_c (fun h => ?_) (fun _ => ev_s ⟨B4.up (by omega), fun h => nomatch h⟩)
        refine ev_b (m_draw B4 (by decide) (by decide) (by omega)) fun y6 ⟨g0, g1, B6⟩ => ?_
        have := of_decide_eq_true h
        exact ev_s ⟨B6, fun _ => by dsimp only at this; omega⟩
      · refine ev_c (fun h => ?_) (fun _ => ev_s ⟨⟨c, hcm, rfl⟩, Bp⟩)
        obtain ⟨e, he, ee⟩ := lastE (rr := rr) fun z => by
          have := ne h
          rw [z] at rrl
          simp at rrl
          omega
        refine ev_be ee (ev_s ⟨⟨e.2, hc e he, rfl⟩, Bp⟩)
    · refine ev_be (appF_ok (by rw [enc_len]; unfold LIM; omega)) ?_
      rw [ed]
      refine ev_s ⟨by omega, rr ++ [(p, d)], by show enc rr ++ [eRow (p, d)] = _; rw [enc, enc, List.map_append]; rfl, ?_, ?_, Bp.up (by omega)⟩
      · rw [List.map_append, e5, take_of hp]
        rfl
      · intro e he
        rcases List.mem_append.mp he with h1 | h1
        · exact hc e h1
        · rw [List.mem_singleton.mp h1]
          exact hd
  · intro s ⟨_, rr, e4, e5, hc, Bb⟩
    rw [enum_len, List.length_map, pl] at e5 Bb
    rw [List.take_of_length_le (by omega)] at e5
    exact ⟨rr, e4, e5, hc, Bb.up (by omega)⟩
  · rintro ⟨f, b⟩ ⟨rr, e4, e5, hc, Bb⟩
    have rrl : rr.length = n := by
      have := congrArg List.length e5
      rw [List.length_map] at this
      omega
    exact ev_s ⟨rr, ⟨by omega, by omega, fun e he => sc _ (List.mem_of_mem_take (hc e he)), by rw [e5, rrl]; exact pm2⟩, e4, rrl, ⟨st.take m, by omega, hc⟩, Bb⟩
theorem m_some_people {k : Nat} {bg : List Int} {ns : List Int} {most limit : Nat} (B : Bg k bg) (a1 : 1 ≤ most) (a2 : most ≤ 60) (b1 : 1 ≤ limit) (b2 : limit ≤ 26) (hk : k < 2 ^ 58) :
    Ev (F__law_some_people ns bg (most : Int) (limit : Int)) fun r => ∃ row : Row, Vr row ∧ r.1 = enc row ∧ row.length ≤ max most 4 ∧ (∃ st : List Nat, (st.length ≤ limit ∨ st.length ≤ 3) ∧ ∀ e ∈ row, e.2 ∈ st) ∧ Bg (k + 303) r.2 := by
  unfold F__law_some_people
  have q := (EqE.list EqE.int).run (by decide) (x := ns) (y := ([] : List Int)) (fun _ _ => trivial) (fun _ _ => trivial)
  refine ev_be q ?_
  refine ev_c (fun _ => ?_) (fun _ => ?_)
  · refine ev_b (m_draw B (by decide) (by decide) (by omega)) fun y1 ⟨c0, c1, B1⟩ => ?_
    refine ev_b (P := fun s => s = lt 99 ∨ s = lt 97) ?_ fun s hs => ?_
    · have z : y1.1 = 0 ∨ y1.1 = 1 := by omega
      rcases z with z | z <;> rw [z]
      · exact ⟨_, rfl, Or.inl rfl⟩
      · exact ⟨_, rfl, Or.inr rfl⟩
    obtain ⟨c, hc, ec⟩ : ∃ c, (97 ≤ c ∧ c ≤ 122) ∧ s = lt c := by
      rcases hs with h | h
      · exact ⟨99, by decide, h⟩
      · exact ⟨97, by decide, h⟩
    refine ev_b (m_draw B1 (by decide) (by decide) (by omega)) fun y2 ⟨d0, d1, B2⟩ => ?_
    have V : Vr [(0, 97), (1, 98), (2, c)] := ⟨by show 1 ≤ 3; decide, by show 3 ≤ 60; decide, fun e he => by
      simp at he
      rcases he with rfl | rfl | rfl
      · decide
      · decide
      · exact hc, List.Perm.refl _⟩
    have eE : [((0 : Int), (Str.ofString "a")), ((1 : Int), (Str.ofString "b")), ((2 : Int), s)] = enc [(0, 97), (1, 98), (2, c)] := by
      rw [ec]
      rfl
    rw [eE]
    have z : y2.1 = 0 ∨ y2.1 = 1 := by omega
    rcases z with z | z <;> rw [z]
    · exact ⟨_, rfl, _, V, rfl, by show 3 ≤ _; omega, ⟨[97, 98, c], Or.inr (by show 3 ≤ 3; decide), fun e he => List.mem_map_of_mem (f := (·.2)) he⟩, B2.up (by omega)⟩
    · refine ⟨_, rfl, [(0, 97), (1, 98), (2, c)].reverse, V.by_perm (List.reverse_perm _), rfl, by show 3 ≤ _; omega, ⟨[97, 98, c], Or.inr (by show 3 ≤ 3; decide), fun e he => List.mem_map_of_mem (f := (·.2)) (List.mem_reverse.mp he)⟩, B2.up (by omega)⟩
  · refine ev_b (m_draw B (by decide) (by decide) (by omega)) fun y1 ⟨c0, c1, B1⟩ => ?_
    refine ev_b (P := fun v : Int => (1 ≤ v ∧ v ≤ most) ∨ (v = 4)) ?_ fun v hv => ?_
    · have z : y1.1 = 0 ∨ y1.1 = 1 ∨ y1.1 = 2 := by omega
      rcases z with z | z | z <;> rw [z]
      · exact ⟨_, rfl, Or.inr rfl⟩
      · refine ⟨_, rfl, Or.inl ?_⟩
        rw [minI_eq]
        omega
      · exact ⟨_, rfl, Or.inl ⟨by omega, by omega⟩⟩
    obtain ⟨u, eu, u1, u2⟩ : ∃ u : Nat, v = (u : Int) ∧ 1 ≤ u ∧ u ≤ max most 4 := ⟨v.toNat, by omega, by omega, by omega⟩
    subst eu
    refine ev_b (m_draw B1 (by omega) (by omega) (by omega)) fun y2 ⟨d0, d1, B2⟩ => ?_
    refine ev_b (m_draw B2 (by omega) (by omega) (by omega)) fun y3 ⟨e0, e1, B3⟩ => ?_
    obtain ⟨n, hn⟩ : ∃ n : Nat, 1 + y2.1 = (n : Int) := ⟨(1 + y2.1).toNat, by omega⟩
    obtain ⟨m, hm⟩ : ∃ m : Nat, 1 + y3.1 = (m : Int) := ⟨(1 + y3.1).toNat, by omega⟩
    rw [hn, hm]
    refine ev_b (m_people B3 (by omega) (by omega) (by omega) (by omega) (by omega)) fun r ⟨row, V, e, rl, ⟨st, sl, sc⟩, Br⟩ => ?_
    exact ev_s ⟨row, V, e, by omega, ⟨st, Or.inl (by omega), sc⟩, Br⟩
end LQF

namespace LQF
open PySem L2 LX LQ
/-- the colors of a row, each once, as met -/
def lets (r : Row) : List Nat := dd (r.map (·.2))
def wayL (r : Row) (a b : Nat) : List Nat := ((r.takeWhile fun e => e.2 != b).filter fun e => e.2 != a).map (·.1)
def way (r : Row) (a b : Nat) : Int := ((wayL r a b).length : Int)
theorem lets_nodup (r : Row) : (lets r).Nodup := dd_nodup _
theorem mem_lets {r : Row} {c : Nat} : c ∈ lets r ↔ ∃ e ∈ r, e.2 = c := by
  unfold lets
  rw [mem_dd, List.mem_map]
theorem lets_len (r : Row) : (lets r).length ≤ r.length := Nat.le_trans (dd_le _) (by rw [List.length_map]; exact Nat.le_refl _)
theorem fold_dd {α : Type} [DecidableEq α] : ∀ (ys acc : List α), ∃ t, ys.foldl (fun acc x => if x ∈ acc then acc else acc ++ [x]) acc = acc ++ t
  | [], acc => ⟨[], by rw [List.append_nil]; rfl⟩
  | y :: ys, acc => by
    rw [List.foldl_cons]
    by_cases h : y ∈ acc
    · rw [if_pos h]
      exact fold_dd ys acc
    · rw [if_neg h]
      obtain ⟨t, e⟩ := fold_dd ys (acc ++ [y])
      exact ⟨y :: t, by rw [e, List.append_assoc]; rfl⟩
theorem dd_app {α : Type} [DecidableEq α] (l m : List α) : ∃ t, dd (l ++ m) = dd l ++ t := by
  unfold dd
  rw [List.foldl_append]
  exact fold_dd _ _
theorem tw_all {α : Type} (p : α → Bool) : ∀ (l : List α) (x : α), x ∈ l.takeWhile p → p x = true
  | [], x, h => nomatch h
  | y :: l, x, h => by
    by_cases c : p y = true
    · rw [List.takeWhile_cons_of_pos c] at h
      rcases List.mem_cons.mp h with e | e
      · rw [e]; exact c
      · exact tw_all p l x e
    · rw [List.takeWhile_cons_of_neg c] at h
      cases h
/-- what is met first stands first -/
theorem dd_order {α : Type} [DecidableEq α] {l : List α} {i j : Nat} {c d : α} (h1 : (dd l)[i]? = some c) (h2 : (dd l)[j]? = some d) (ij : i < j) : d ∉ l.takeWhile (fun x => x != c) := by
  intro hd
  obtain ⟨t, e⟩ := dd_app (l.takeWhile fun x => x != c) (l.dropWhile fun x => x != c)
  rw [List.takeWhile_append_dropWhile] at e
  have hc : c ∉ dd (l.takeWhile fun x => x != c) := fun z => by
    have := tw_all _ _ _ (mem_dd.mp z)
    simp at this
  obtain ⟨k, hk⟩ := List.getElem?_of_mem (mem_dd.mpr hd)
  have kl := (List.getElem?_eq_some_iff.mp hk).1
  have hk2 : (dd l)[k]? = some d := by rw [e, List.getElem?_append_left kl]; exact hk
  have nd := dd_nodup l
  have kj : k = j := (List.getElem?_inj (List.getElem?_eq_some_iff.mp hk2).1 nd).mp (hk2.trans h2.symm)
  have : (dd l)[i]? = (dd (l.takeWhile fun x => x != c))[i]? := by rw [e, List.getElem?_append_left (by omega)]
  rw [this] at h1
  exact hc (List.mem_of_getElem? h1)
theorem tw_take {α : Type} [DecidableEq α] : ∀ {l : List α} {i : Nat} {c : α}, l.Nodup → l[i]? = some c → l.takeWhile (fun x => x != c) = l.take i
  | [], i, c, _, h => nomatch h
  | x :: l, 0, c, _, h => by
    have : x = c := Option.some.inj h
    rw [this, List.takeWhile_cons_of_neg (by simp)]
    rfl
  | x :: l, i + 1, c, nd, h => by
    have nd' := List.nodup_cons.mp nd
    have hc : c ∈ l := List.mem_of_getElem? (show l[i]? = some c from h)
    have : x ≠ c := fun z => nd'.1 (z ▸ hc)
    rw [List.takeWhile_cons_of_pos (by simpa using this), List.take_succ_cons, tw_take nd'.2 h]
theorem way_mono {r : Row} {i j : Nat} {c d : Nat} (h1 : (lets r)[i]? = some c) (h2 : (lets r)[j]? = some d) (ij : i ≤ j) (a : Nat) : way r a c ≤ way r a d := by
  by_cases e : i = j
  · subst e
    have : c = d := Option.some.inj (h1.symm.trans h2)
    rw [this]
    exact Int.le_refl _
  have no := dd_order h1 h2 (by omega)
  have sub : ∀ r : Row, d ∉ (r.map (·.2)).takeWhile (fun x => x != c) → ((r.takeWhile fun e => e.2 != c)).Sublist (r.takeWhile fun e => e.2 != d) := by
    intro r
    induction r with
    | nil => intro _; exact List.Sublist.refl _
    | cons e r ih =>
      intro h
      by_cases z : e.2 = c
      · rw [List.takeWhile_cons_of_neg (by simp [z])]
        exact List.nil_sublist _
      · rw [List.map_cons, List.takeWhile_cons_of_pos (by simpa using z)] at h
        rw [List.mem_cons, not_or] at h
        rw [List.takeWhile_cons_of_pos (by simpa using z), List.takeWhile_cons_of_pos (by simpa using fun z : e.2 = d => h.1 z.symm)]
        exact (ih h.2).cons₂ e
  have := (((sub r no).filter fun e => e.2 != a).map (·.1)).length_le
  unfold way wayL
  omega
/-- the values that the bounds prove -/
def Gv (r : Row) (f : Nat → Int) : Prop := ∀ c ∈ lets r, f c = minDL (((lets r).takeWhile fun x => x != c).map fun o => f o + way r o c) 0
theorem minDL_mem {l : List Int} (h : l ≠ []) : minDL l 0 ∈ l ∧ ∀ y ∈ l, minDL l 0 ≤ y := by
  cases l with
  | nil => exact absurd rfl h
  | cons x xs =>
    obtain ⟨a, b, c⟩ := foldmin xs x
    refine ⟨?_, fun y hy => ?_⟩
    · rcases a with a | a
      · show xs.foldl min x ∈ _
        rw [a]
        exact List.mem_cons_self
      · exact List.mem_cons_of_mem _ a
    · rcases List.mem_cons.mp hy with e | e
      · rw [e]; exact b
      · exact c y e
theorem way_pos (r : Row) (a b : Nat) : 0 ≤ way r a b := by unfold way; omega
theorem Gv.at {r : Row} {f : Nat → Int} (h : Gv r f) {j : Nat} {d : Nat} (hd : (lets r)[j]? = some d) : f d = minDL (((lets r).take j).map fun o => f o + way r o d) 0 := by
  rw [h d (List.mem_of_getElem? hd), tw_take (lets_nodup r) hd]
theorem Gv.mono {r : Row} {f : Nat → Int} (h : Gv r f) : ∀ (j i : Nat) (c d : Nat), (lets r)[i]? = some c → (lets r)[j]? = some d → i ≤ j → f c ≤ f d := by
  intro j
  induction j using Nat.strongRecOn with
  | ind j ih =>
    intro i c d hc hd ij
    by_cases e : i = j
    · subst e
      rw [Option.some.inj (hc.symm.trans hd)]
      exact Int.le_refl _
    have jl := (List.getElem?_eq_some_iff.mp hd).1
    have ne : ((lets r).take j).map (fun o => f o + way r o d) ≠ [] := by
      intro z
      have := congrArg List.length z
      rw [List.length_map, List.length_take, List.length_nil] at this
      omega
    have hm := (minDL_mem ne).1
    rw [← h.at hd] at hm
    obtain ⟨o, ho, eo⟩ := List.mem_map.mp hm
    obtain ⟨k, hk⟩ := List.getElem?_of_mem ho
    have kl := (List.getElem?_eq_some_iff.mp hk).1
    rw [List.length_take] at kl
    have ko : (lets r)[k]? = some o := by rw [List.getElem?_take_of_lt (by omega)] at hk; exact hk
    by_cases ki : i ≤ k
    · have := ih k (by omega) i c o hc ko ki
      have := way_pos r o d
      omega
    · have ne2 : ((lets r).take i).map (fun o => f o + way r o c) ≠ [] := by
        intro z
        have := congrArg List.length z
        rw [List.length_map, List.length_take, List.length_nil] at this
        omega
      have ok2 : ((lets r).take i)[k]? = some o := by rw [List.getElem?_take_of_lt (by omega)]; exact ko
      have := (minDL_mem ne2).2 (f o + way r o c) (List.mem_map_of_mem (f := fun o => f o + way r o c) (List.mem_of_getElem? ok2))
      rw [← h.at hc] at this
      have := way_mono hc hd ij o
      omega
end LQF

namespace LQF
open PySem L2 LX LQ
theorem dd_snoc' {α : Type} [DecidableEq α] (l : List α) (x : α) : dd (l ++ [x]) = if x ∈ dd l then dd l else dd l ++ [x] := dd_snoc l x
section
variable {β : Type} (l : List Nat) (g : Nat → β) (c : Nat)
theorem any_lt : ((l.map fun x => (lt x, g x)).any fun p => decide (p.1 = lt c)) = decide (c ∈ l) := by
  rw [List.any_map, Bool.eq_iff_iff, List.any_eq_true, decide_eq_true_iff]
  constructor
  · rintro ⟨x, hx, e⟩
    have := lt_inj.mp (of_decide_eq_true e)
    rw [← this]
    exact hx
  · exact fun h => ⟨c, h, decide_eq_true rfl⟩
theorem dget_lt : dget (l.map fun x => (lt x, g x)) (lt c) = if c ∈ l then some (g c) else none := by
  unfold dget
  induction l with
  | nil => rfl
  | cons x l ih =>
    rw [List.map_cons]
    by_cases h : x = c
    · rw [List.find?_cons_of_pos (by rw [decide_eq_true_iff]; exact congrArg lt h), if_pos (by rw [h]; exact List.mem_cons_self), h]
      rfl
    · rw [List.find?_cons_of_neg (by rw [decide_eq_true_iff]; exact fun z => h (lt_inj.mp z)), ih]
      by_cases k : c ∈ l
      · rw [if_pos k, if_pos (List.mem_cons_of_mem _ k)]
      · rw [if_neg k, if_neg (by rw [List.mem_cons, not_or]; exact ⟨fun z => h z.symm, k⟩)]
theorem dhas_lt : dhas (l.map fun x => (lt x, g x)) (lt c) = decide (c ∈ l) := by
  unfold dhas
  rw [dget_lt]
  by_cases k : c ∈ l
  · rw [if_pos k, decide_eq_true k]; rfl
  · rw [if_neg k, decide_eq_false k]; rfl
theorem dput_new (v : β) (h : c ∉ l) : dput (l.map fun x => (lt x, g x)) (lt c) v = (l.map fun x => (lt x, g x)) ++ [(lt c, v)] := by
  unfold dput
  rw [any_lt, decide_eq_false h]
  rfl
end
theorem dputF_ok {κ β : Type} [DecidableEq κ] {l : List (κ × β)} {k : κ} {x : β} (h : l.length < LIM) : dputF l k x = some (dput l k x) := by
  unfold dputF
  rw [decide_eq_true h]
  rfl
theorem m_letters {r : Row} (V : Vr r) : F__law_letters (enc r) = some ((lets r).map lt) := by
  unfold F__law_letters
  have n2 := V.n2
  obtain ⟨s, e, hs⟩ := ev_loop (f := fun (a1404 : (Int × Str)) (s1405 : (List (Str × Bool))) => (dputF s1405 a1404.2 true).bind fun l1434 => some l1434) (l := enc r) (s := []) (P := fun s => s = (lets r).map fun c => (lt c, true)) (fun i s => i ≤ r.length ∧ s = (dd ((r.take i).map (·.2))).map fun c => (lt c, true)) ⟨Nat.zero_le _, rfl⟩ (by
    rintro i x s hi ⟨il, rfl⟩
    rw [List.getElem?_map] at hi
    obtain ⟨e, he, rfl⟩ := Option.map_eq_some_iff.mp hi
    have il2 := (List.getElem?_eq_some_iff.mp he).1
    have sl : ((dd ((r.take i).map (·.2))).map fun c => (lt c, true)).length < LIM := by
      rw [List.length_map]
      refine Nat.lt_of_le_of_lt (dd_le _) ?_
      rw [List.length_map, List.length_take]
      unfold LIM
      omega
    refine ev_be (dputF_ok sl) (ev_s ⟨by omega, ?_⟩)
    rw [take_of he, List.map_append, List.map_cons, List.map_nil, dd_snoc']
    by_cases h : e.2 ∈ dd ((r.take i).map (·.2))
    · rw [if_pos h]
      unfold dput
      rw [any_lt _ (fun _ => true), decide_eq_true h, if_pos rfl, List.map_map]
      apply List.map_congr_left
      intro c _
      show (if lt c = lt e.2 then (lt c, true) else (lt c, true)) = (lt c, true)
      split <;> rfl
    · rw [if_neg h]
      exact (dput_new _ (fun _ => true) _ true h).trans (by rw [List.map_append]; rfl)) (fun s ⟨_, h⟩ => by
    rw [List.length_map, List.take_length] at h
    exact h)
  rw [e, hs]
  show some (dkeys _) = _
  unfold dkeys
  rw [List.map_map]
  rfl
def plc (r : Row) (c : Nat) : Int := ((r.findIdx fun e => e.2 == c : Nat) : Int)
theorem m_places {r : Row} (V : Vr r) : F_first_places (enc r) = some ((lets r).map fun c => (lt c, plc r c)) := by
  unfold F_first_places
  have n2 := V.n2
  obtain ⟨s, e, hs⟩ := ev_loop (f := fun (a1803 : (Int × (Int × Str))) (s1804 : (List (Str × Int))) => cond (!(dhas s1804 a1803.2.2)) ((dputF s1804 a1803.2.2 a1803.1).bind fun l1849 => some l1849) (some s1804)) (l := enumI (enc r)) (s := []) (P := fun s => s = (lets r).map fun c => (lt c, plc r c)) (fun i s => i ≤ r.length ∧ s = (dd ((r.take i).map (·.2))).map fun c => (lt c, plc r c)) ⟨Nat.zero_le _, rfl⟩ (by
    rintro i ⟨j, x⟩ s hi ⟨il, rfl⟩
    obtain ⟨e1, e2⟩ := enum_at hi
    dsimp only at e1 e2
    subst e1
    rw [List.getElem?_map] at e2
    obtain ⟨e, he, rfl⟩ := Option.map_eq_some_iff.mp e2
    have il2 := (List.getElem?_eq_some_iff.mp he).1
    have sl : ((dd ((r.take i).map (·.2))).map fun c => (lt c, plc r c)).length < LIM := by
      rw [List.length_map]
      refine Nat.lt_of_le_of_lt (dd_le _) ?_
      rw [List.length_map, List.length_take]
      unfold LIM
      omega
    have nx : (dd ((r.take (i + 1)).map (·.2))) = if e.2 ∈ dd ((r.take i).map (·.2)) then dd ((r.take i).map (·.2)) else dd ((r.take i).map (·.2)) ++ [e.2] := by
      rw [take_of he, List.map_append, List.map_cons, List.map_nil, dd_snoc']
    rw [nx]
    show Ev (cond (!(dhas _ (lt e.2))) _ _) _
    rw [dhas_lt _ (plc r)]
    by_cases h : e.2 ∈ dd ((r.take i).map (·.2))
    · rw [if_pos h, decide_eq_true h]
      exact ev_s ⟨by omega, rfl⟩
    · rw [if_neg h, decide_eq_false h]
      refine ev_be (dputF_ok sl) (ev_s ⟨by omega, ?_⟩)
      refine (dput_new _ (plc r) _ _ h).trans ?_
      rw [List.map_append]
      congr 1
      show [(lt e.2, (i : Int))] = [(lt e.2, plc r e.2)]
      have : r.findIdx (fun x => x.2 == e.2) = i := by
        rw [List.findIdx_eq il2]
        refine ⟨?_, fun k hk => ?_⟩
        · have : r[i] = e := (List.getElem?_eq_some_iff.mp he).2
          rw [this]
          exact beq_self_eq_true _
        · refine beq_eq_false_iff_ne.mpr fun z => h (mem_dd.mpr (List.mem_map.mpr ⟨r[k], ?_, z⟩))
          have : (r.take i)[k]? = some r[k] := by rw [List.getElem?_take_of_lt hk]; exact List.getElem?_eq_getElem _
          exact List.mem_of_getElem? this
      unfold plc
      rw [this]) (fun s ⟨_, h⟩ => by
    rw [enum_len, List.length_map, List.take_length] at h
    exact h)
  rw [e, hs]
  rfl
theorem keys_lt {β : Type} (l : List Nat) (g : Nat → β) : dkeys (l.map fun c => (lt c, g c)) = l.map lt := by
  unfold dkeys
  rw [List.map_map]
  rfl
theorem m_way {r : Row} (V : Vr r) (a b : Nat) : F_people_in_the_way (enc r) (lt a) (lt b) = some (nI (wayL r a b)) := by
  unfold F_people_in_the_way
  have key : ∀ (s : Row) (acc : List Nat), acc.length + s.length ≤ 1000 → ∃ c, loopC (R := List Int) (fun (a1879 : (Int × Str)) (s1880 : (List Int)) => cond (decide (a1879.2 = lt b)) (some (.bk s1880)) (cond (!(decide (a1879.2 = lt a))) ((appF s1880 a1879.1).bind fun l1909 =>
some (.nx l1909)) (some (.nx s1880)))) (enc s) (nI acc) = some c ∧ (c = .nx (nI (acc ++ wayL s a b))) := by
    intro s
    induction s with
    | nil => intro acc _; exact ⟨_, rfl, by unfold wayL; simp⟩
    | cons e s ih =>
      intro acc hl
      rw [List.length_cons] at hl
      show ∃ c, Option.bind (cond (decide (lt e.2 = lt b)) _ _) _ = _ ∧ _
      rw [lt_dec]
      unfold wayL
      by_cases z : e.2 = b
      · rw [decide_eq_true z, List.takeWhile_cons_of_neg (by simp [z])]
        exact ⟨_, rfl, by simp⟩
      · rw [decide_eq_false z, List.takeWhile_cons_of_pos (by simpa using z)]
        show ∃ c, Option.bind (cond (!(decide (lt e.2 = lt a))) _ _) _ = _ ∧ _
        rw [lt_dec]
        by_cases y : e.2 = a
        · rw [decide_eq_true y, List.filter_cons_of_neg (by simp [y])]
          exact ih acc (by omega)
        · rw [decide_eq_false y, List.filter_cons_of_pos (by simpa using y)]
          have ap : appF (nI acc) (e.1 : Int) = some (nI (acc ++ [e.1])) := by
            rw [appF_ok (by rw [List.length_map]; unfold LIM; omega)]
            show some (List.map _ acc ++ _) = some (List.map _ _)
            rw [List.map_append]
            rfl
          show ∃ c, Option.bind (Option.bind (appF (nI acc) (e.1 : Int)) _) _ = _ ∧ _
          rw [ap]
          obtain ⟨c, e1, e2⟩ := ih (acc ++ [e.1]) (by rw [List.length_append]; show acc.length + 1 + _ ≤ _; omega)
          refine ⟨c, e1, ?_⟩
          rw [e2, List.append_assoc]
          rfl
  obtain ⟨c, e, rfl⟩ := key r [] (by have := V.n2; show 0 + _ ≤ _; omega)
  refine be e ?_
  rfl
end LQF

namespace LQF
open PySem L2 LX LQ
theorem m_most {r : Row} (V : Vr r) {vals : List (Str × Int)} {c : Nat} (f : Nat → Int) (hv : ∀ o ∈ (lets r).takeWhile (fun x => x != c), dget vals (lt o) = some (f o)) :
    F_most_allowed (enc r) vals (lt c) = some (minDL (((lets r).takeWhile fun x => x != c).map fun o => f o + way r o c) 0) := by
  unfold F_most_allowed
  refine be (m_places V) ?_
  rw [keys_lt]
  have key : ∀ (ls : List Nat) (acc : List Int), acc.length + ls.length ≤ 1000 → (∀ o ∈ ls.takeWhile (fun x => x != c), dget vals (lt o) = some (f o)) → loopC (R := Int) (fun (a1960 : Str) (s1961 : (List Int)) => cond (decide (a1960 = lt c)) (some (.bk s1961)) ((dget vals a1960).bind fun y1982 =>
(F_people_in_the_way (enc r) a1960 (lt c)).bind fun y1989 =>
(appF s1961 (y1982 + (lenI y1989))).bind fun l2004 =>
some (.nx l2004))) (ls.map lt) acc = some (.nx (acc ++ (ls.takeWhile fun x => x != c).map fun o => f o + way r o c)) := by
    intro ls
    induction ls with
    | nil => intro acc _ _; simp [loopC]
    | cons o ls ih =>
      intro acc hl hv
      rw [List.length_cons] at hl
      show Option.bind (cond (decide (lt o = lt c)) _ _) _ = _
      rw [lt_dec]
      by_cases z : o = c
      · rw [decide_eq_true z, List.takeWhile_cons_of_neg (by simp [z])]
        simp
      · rw [List.takeWhile_cons_of_pos (by simpa using z)] at hv ⊢
        rw [decide_eq_false z]
        show Option.bind (Option.bind (dget vals (lt o)) _) _ = _
        rw [hv o List.mem_cons_self]
        show Option.bind (Option.bind (F_people_in_the_way _ _ _) _) _ = _
        rw [m_way V]
        show Option.bind (Option.bind (appF acc _) _) _ = _
        have lw : lenI (nI (wayL r o c)) = way r o c := by unfold lenI way; rw [List.length_map]
        rw [lw, appF_ok (by unfold LIM; omega)]
        rw [List.map_cons]
        refine (ih (acc ++ [f o + way r o c]) (by rw [List.length_append]; show acc.length + 1 + _ ≤ _; omega) fun x hx => hv x (List.mem_cons_of_mem _ hx)).trans ?_
        rw [List.append_assoc]
        rfl
  refine be (key _ [] (by have := lets_len r; have := V.n2; show 0 + _ ≤ _; omega) hv) ?_
  rfl
theorem m_values {r : Row} (V : Vr r) : ∃ f, Gv r f ∧ F_greatest_values (enc r) = some ((lets r).map fun c => (lt c, f c)) := by
  unfold F_greatest_values
  have n2 := V.n2
  have n3 := lets_len r
  have key := ev_loop (f := fun (a2047 : Str) (s2048 : (List (Str × Int))) => (F_most_allowed (enc r) s2048 a2047).bind fun y2069 =>
(dputF s2048 a2047 y2069).bind fun l2079 =>
some l2079) (l := (lets r).map lt) (s := []) (P := fun s => ∃ f, Gv r f ∧ s = (lets r).map fun c => (lt c, f c))
    (fun i s => i ≤ (lets r).length ∧ ∃ f : Nat → Int, s = ((lets r).take i).map (fun c => (lt c, f c)) ∧ ∀ c ∈ (lets r).take i, f c = minDL (((lets r).takeWhile fun x => x != c).map fun o => f o + way r o c) 0) ⟨Nat.zero_le _, fun _ => 0, rfl, fun c hc => nomatch hc⟩ (by
      rintro i x s hi ⟨il, f, rfl, hf⟩
      rw [List.getElem?_map] at hi
      obtain ⟨c, hc, rfl⟩ := Option.map_eq_some_iff.mp hi
      have il2 := (List.getElem?_eq_some_iff.mp hc).1
      have nd := lets_nodup r
      have tw := tw_take nd hc
      have hn : c ∉ (lets r).take i := by
        rw [← tw]
        intro z
        have := tw_all _ _ _ z
        simp at this
      refine ev_be (m_most V f fun o ho => ?_) ?_
      · rw [tw] at ho
        rw [dget_lt _ f, if_pos ho]
      refine ev_be (dputF_ok (by rw [List.length_map, List.length_take]; unfold LIM; omega)) ?_
      generalize hv : minDL (((lets r).takeWhile fun x => x != c).map fun o => f o + way r o c) 0 = v
      obtain ⟨f2, k1, k2⟩ : ∃ f2 : Nat → Int, f2 c = v ∧ ∀ x, x ≠ c → f2 x = f x := ⟨fun x => if x = c then v else f x, if_pos rfl, fun x h => if_neg h⟩
      have k3 : ∀ x ∈ (lets r).take i, f2 x = f x := fun x hx => k2 x fun z => by
        subst z
        exact hn hx
      have same : ∀ d, (∀ o ∈ (lets r).takeWhile (fun x => x != d), o ∈ (lets r).take i) → ((lets r).takeWhile fun x => x != d).map (fun o => f2 o + way r o d) = ((lets r).takeWhile fun x => x != d).map fun o => f o + way r o d := fun d h => by
        apply List.map_congr_left
        intro o ho
        rw [k3 o (h o ho)]
      refine ev_s ⟨by omega, f2, ?_, fun d hd => ?_⟩
      · rw [dput_new _ f _ _ hn, take_of hc, List.map_append]
        congr 1
        · apply List.map_congr_left
          intro x hx
          rw [k3 x hx]
        · show _ = [(lt c, f2 c)]
          rw [k1]
      · rw [take_of hc] at hd
        rcases List.mem_append.mp hd with h1 | h1
        · obtain ⟨k, hk⟩ := List.getElem?_of_mem h1
          have kl := (List.getElem?_eq_some_iff.mp hk).1
          rw [List.length_take] at kl
          have kd : (lets r)[k]? = some d := by rw [List.getElem?_take_of_lt (by omega)] at hk; exact hk
          rw [k3 d h1, same d fun o ho => ?_]
          · exact hf d h1
          · rw [tw_take nd kd] at ho
            have : (lets r).take k = ((lets r).take i).take k := by rw [List.take_take, Nat.min_eq_left (by omega)]
            rw [this] at ho
            exact List.mem_of_mem_take ho
        · rw [List.mem_singleton.mp h1, k1, same c fun o ho => by rw [← tw]; exact ho, hv]) (fun s ⟨_, f, e, hf⟩ => by
      rw [List.length_map, List.take_length] at e hf
      exact ⟨f, hf, e⟩)
  obtain ⟨s, e, f, hf, hs⟩ := key
  refine ⟨f, hf, be (m_places V) ?_⟩
  rw [keys_lt, e, hs]
  rfl
end LQF

namespace LQF
open PySem L2 LX LQ
structure OkS (cs : List Nat) : Prop where
  ne : cs ≠ []
  up : cs.Pairwise (· < ·)
  col : ∀ c ∈ cs, 97 ≤ c ∧ c ≤ 122
theorem up_len : ∀ (cs : List Nat) (a b : Nat), cs.Pairwise (· < ·) → (∀ c ∈ cs, a ≤ c ∧ c < b) → cs.length ≤ b - a
  | [], a, b, _, _ => Nat.zero_le _
  | c :: cs, a, b, h, k => by
    have h' := List.pairwise_cons.mp h
    have := up_len cs (c + 1) b h'.2 fun d hd => ⟨h'.1 d hd, (k d (List.mem_cons_of_mem _ hd)).2⟩
    have := k c List.mem_cons_self
    rw [List.length_cons]
    omega
theorem OkS.len {cs : List Nat} (h : OkS cs) : cs.length ≤ 26 := up_len cs 97 123 h.up fun c hc => by have := h.col c hc; omega
theorem txt_chars (cs : List Nat) : chars (txt cs) = cs.map lt := by
  show (cs.toArray.toList).map _ = _
  rw [List.toList_toArray]
  rfl
theorem leS_lt {a b : Nat} (h : a ≤ b) : leS (lt a) (lt b) = true := by
  show decide ([a] ≤ [b]) = true
  rw [decide_eq_true_iff, ← List.not_lt, List.cons_lt_cons_iff]
  rintro (h1 | ⟨_, h1⟩)
  · omega
  · exact absurd h1 (List.not_lt_nil _)
theorem lt_nodup {cs : List Nat} (h : cs.Nodup) : (cs.map lt).Nodup := by
  rw [List.nodup_iff_pairwise_ne, List.pairwise_map]
  exact h.imp fun h z => h (lt_inj.mp z)
theorem mem_lt {cs : List Nat} {c : Nat} : lt c ∈ cs.map lt ↔ c ∈ cs := by
  constructor
  · intro h
    obtain ⟨d, hd, e⟩ := List.mem_map.mp h
    rw [← lt_inj.mp e]
    exact hd
  · exact List.mem_map_of_mem (f := lt)
theorem sortU_lt {cs ds : List Nat} (up : cs.Pairwise (· < ·)) (h : ∀ c, c ∈ cs ↔ c ∈ ds) : sortU (ds.map lt) = cs.map lt := by
  refine (sortU_is ?_ (lt_nodup (up.imp fun h => Nat.ne_of_lt h)) fun k => ?_).symm
  · rw [List.pairwise_map]
    exact up.imp fun h => leS_lt (Nat.le_of_lt h)
  · constructor
    · intro hk
      obtain ⟨c, hc, rfl⟩ := List.mem_map.mp hk
      exact mem_lt.mpr ((h c).mp hc)
    · intro hk
      obtain ⟨c, hc, rfl⟩ := List.mem_map.mp hk
      exact mem_lt.mpr ((h c).mpr hc)
/-- any letters, sorted and each once -/
theorem sorted_of (ds : List Nat) (hc : ∀ c ∈ ds, 97 ≤ c ∧ c ≤ 122) : ∃ cs : List Nat, cs.Pairwise (· < ·) ∧ (∀ c, c ∈ cs ↔ c ∈ ds) := by
  refine ⟨(List.range 123).filter fun c => decide (c ∈ ds), List.Pairwise.filter _ List.pairwise_lt_range, fun c => ?_⟩
  rw [List.mem_filter, List.mem_range, decide_eq_true_iff]
  exact ⟨fun h => h.2, fun h => ⟨by have := hc c h; omega, h⟩⟩
theorem in_txt (a : Nat) (cs : List Nat) : inSF (lt a) (txt cs) = some (decide (a ∈ cs)) := by
  show some (decide (a ∈ cs.toArray.toList)) = _
  rw [List.toList_toArray]
def goal (r : Row) (cs : List Nat) : Option Nat := (r.find? fun e => decide (e.2 ∈ cs)).map (·.2)
def outN (r : Row) (cs : List Nat) : Int := ((r.filter fun e => !decide (e.2 ∈ cs)).length : Int)
theorem goal_mem {r : Row} {cs : List Nat} {g : Nat} (h : goal r cs = some g) : g ∈ lets r ∧ g ∈ cs := by
  unfold goal at h
  obtain ⟨e, he, rfl⟩ := Option.map_eq_some_iff.mp h
  have h2 := List.find?_some he
  exact ⟨mem_lets.mpr ⟨e, List.mem_of_find?_eq_some he, rfl⟩, of_decide_eq_true h2⟩
theorem txt_one (c : Nat) : txt [c] = lt c := rfl
theorem OkS.one {c : Nat} (h : 97 ≤ c ∧ c ≤ 122) : OkS [c] := ⟨by simp, List.pairwise_singleton _ _, fun d hd => by rw [List.mem_singleton.mp hd]; exact h⟩
theorem lets_col {r : Row} (V : Vr r) {c : Nat} (h : c ∈ lets r) : 97 ≤ c ∧ c ≤ 122 := by
  obtain ⟨e, he, rfl⟩ := mem_lets.mp h
  exact V.col e he
theorem goal_some {r : Row} {cs : List Nat} {c : Nat} (h : c ∈ lets r) (k : c ∈ cs) : ∃ g, goal r cs = some g := by
  obtain ⟨e, he, rfl⟩ := mem_lets.mp h
  unfold goal
  cases hf : r.find? fun e => decide (e.2 ∈ cs) with
  | some x => exact ⟨_, rfl⟩
  | none =>
    rw [List.find?_eq_none] at hf
    exact absurd (decide_eq_true k) (hf e he)
/-- the front color of a set stands before the others of it -/
theorem goal_first : ∀ {r : Row} {cs : List Nat} {g c : Nat}, goal r cs = some g → c ∈ lets r → c ∈ cs → ∃ i j : Nat, (lets r)[i]? = some g ∧ (lets r)[j]? = some c ∧ i ≤ j := by
  intro r cs g c h hc k
  obtain ⟨i, hi⟩ := List.getElem?_of_mem (goal_mem h).1
  obtain ⟨j, hj⟩ := List.getElem?_of_mem hc
  refine ⟨i, j, hi, hj, Nat.le_of_not_lt fun ji => ?_⟩
  -- c before g: then g does not stand before the first c, but the first of the set does
  have no := dd_order hj hi ji
  have hr : ∀ r : Row, goal r cs = some g → g ≠ c → g ∈ (r.map (·.2)).takeWhile fun x => x != c := by
    intro r
    induction r with
    | nil => intro h; cases h
    | cons e r ih =>
      intro h ne
      unfold goal at h
      by_cases z : e.2 ∈ cs
      · rw [List.find?_cons_of_pos (by exact decide_eq_true z)] at h
        have : e.2 = g := Option.some.inj h
        rw [List.map_cons, this, List.takeWhile_cons_of_pos (by simpa using ne)]
        exact List.mem_cons_self
      · rw [List.find?_cons_of_neg (by simpa using z)] at h
        have : e.2 ≠ c := fun y => z (y ▸ k)
        rw [List.map_cons, List.takeWhile_cons_of_pos (by simpa using this)]
        exact List.mem_cons_of_mem _ (ih h ne)
  by_cases e : g = c
  · subst e
    have : i = j := (List.getElem?_inj (List.getElem?_eq_some_iff.mp hi).1 (lets_nodup r)).mp (hi.trans hj.symm)
    omega
  · exact no (hr r h e)

end LQF

namespace LQF
open PySem L2 LX LQ
theorem tw_find (c : Nat) : ∀ r : Row, r.takeWhile (fun e => e.2 != c) = r.take (r.findIdx fun e => e.2 == c)
  | [] => rfl
  | e :: r => by
    by_cases h : e.2 = c
    · rw [List.takeWhile_cons_of_neg (by simp [h]), List.findIdx_cons, show (e.2 == c) = true from by simp [h]]
      rfl
    · rw [List.takeWhile_cons_of_pos (by simpa using h), List.findIdx_cons, show (e.2 == c) = false from by simpa using h, tw_find c r]
      rfl
theorem plc_lt {r : Row} {c : Nat} (h : c ∈ lets r) : ∃ e, r[r.findIdx fun e => e.2 == c]? = some e ∧ e.2 = c := by
  obtain ⟨e, he, hc⟩ := mem_lets.mp h
  have hl : r.findIdx (fun e => e.2 == c) < r.length := List.findIdx_lt_length_of_exists ⟨e, he, by simp [hc]⟩
  refine ⟨_, List.getElem?_eq_getElem hl, ?_⟩
  have := List.findIdx_getElem (w := hl)
  simpa using this
theorem plc_up {r : Row} : (lets r).Pairwise fun a b => plc r a < plc r b := by
  rw [List.pairwise_iff_getElem]
  intro i j hi hj ij
  have h1 : (lets r)[i]? = some (lets r)[i] := List.getElem?_eq_getElem hi
  have h2 : (lets r)[j]? = some (lets r)[j] := List.getElem?_eq_getElem hj
  have no := dd_order h1 h2 ij
  have ne : (lets r)[i] ≠ (lets r)[j] := fun z => by
    have := (List.getElem?_inj hi (lets_nodup r)).mp (h1.trans ((congrArg some z).trans h2.symm))
    omega
  generalize (lets r)[i] = c at h1 no ne
  generalize (lets r)[j] = d at h2 no ne
  obtain ⟨e, he, ec⟩ := plc_lt (List.mem_of_getElem? h1)
  obtain ⟨e2, he2, ed⟩ := plc_lt (List.mem_of_getElem? h2)
  unfold plc
  have cmp : ¬ (r.findIdx fun e => e.2 == d) ≤ (r.findIdx fun e => e.2 == c) := fun le => by
    by_cases q : (r.findIdx fun e => e.2 == d) = (r.findIdx fun e => e.2 == c)
    · rw [q] at he2
      have := Option.some.inj (he.symm.trans he2)
      exact ne (ec.symm.trans ((congrArg (·.2) this).trans ed))
    · apply no
      have tw : (r.map (·.2)).takeWhile (fun x => x != c) = (r.takeWhile fun e => e.2 != c).map (·.2) := by rw [List.takeWhile_map]; rfl
      rw [tw, tw_find]
      have : (r.take (r.findIdx fun e => e.2 == c))[r.findIdx fun e => e.2 == d]? = some e2 := by rw [List.getElem?_take_of_lt (by omega)]; exact he2
      rw [← ed]
      exact List.mem_map_of_mem (f := (·.2)) (List.mem_of_getElem? this)
  omega
theorem plc_head {r : Row} {c : Nat} (h : (lets r).head? = some c) : plc r c = 0 := by
  cases r with
  | nil => cases h
  | cons e r =>
    obtain ⟨t, ht⟩ := dd_app [e.2] (r.map (·.2))
    have e1 : lets (e :: r) = e.2 :: t := ht
    rw [e1] at h
    have : e.2 = c := Option.some.inj h
    unfold plc
    rw [List.findIdx_cons, show (e.2 == c) = true from by simp [this]]
    rfl
/-- the costs of a path to a goal -/
def pcost (r : Row) (path : List Nat) (g : Nat) : Int := ((path.zip (path.drop 1 ++ [g])).map fun q => way r q.1 q.2).sum
structure IsPath (r : Row) (path : List Nat) (g : Nat) : Prop where
  sub : path.Sublist ((lets r).takeWhile fun x => x != g)
  hd : g ≠ (lets r).headD 0 → path.head? = (lets r).head?
  emp : g = (lets r).headD 0 → path = []
theorem IsPath.mem {r : Row} {path : List Nat} {g : Nat} (h : IsPath r path g) : ∀ c ∈ path, c ∈ lets r := fun c hc => List.Sublist.mem (h.sub.mem hc) (List.takeWhile_sublist _)
theorem IsPath.full {r : Row} {path : List Nat} {g : Nat} (h : IsPath r path g) (hg : g ∈ lets r) : (path ++ [g]).Pairwise (fun a b => plc r a < plc r b) ∧ (path ++ [g]).length ≤ (lets r).length ∧ (path ++ [g]).head? = (lets r).head? := by
  obtain ⟨i, hi⟩ := List.getElem?_of_mem hg
  have il := (List.getElem?_eq_some_iff.mp hi).1
  have tw := tw_take (lets_nodup r) hi
  have s1 : (path ++ [g]).Sublist ((lets r).take (i + 1)) := by
    rw [take_of hi, ← tw]
    exact h.sub.append (List.Sublist.refl _)
  have s2 := s1.trans (List.take_sublist _ _)
  refine ⟨List.Pairwise.sublist s2 plc_up, s2.length_le, ?_⟩
  by_cases z : g = (lets r).headD 0
  · rw [h.emp z]
    cases e : lets r with
    | nil => rw [e] at il; exact absurd il (Nat.not_lt_zero _)
    | cons x l => rw [e] at z; rw [z]; rfl
  · have := h.hd z
    cases path with
    | nil =>
      cases e : lets r with
      | nil => rw [e] at il; exact absurd il (Nat.not_lt_zero _)
      | cons x l => rw [e] at this; cases this
    | cons x l => exact this
end LQF

namespace LQF
open PySem L2 LX LQ
/-- the costs of a chain, goal included -/
def cst (r : Row) : List Nat → Int
  | x :: y :: l => way r x y + cst r (y :: l)
  | _ => 0
theorem pcost_is (r : Row) (g : Nat) : ∀ path : List Nat, pcost r path g = cst r (path ++ [g])
  | [] => rfl
  | [x] => by
    show way r x g + 0 = way r x g + 0
    rfl
  | x :: y :: p => by
    have ih := pcost_is r g (y :: p)
    show way r x y + pcost r (y :: p) g = way r x y + cst r ((y :: p) ++ [g])
    rw [ih]
theorem cst_snoc (r : Row) (x y : Nat) : ∀ l : List Nat, cst r (l ++ [x] ++ [y]) = cst r (l ++ [x]) + way r x y
  | [] => by
    show way r x y + 0 = 0 + way r x y
    omega
  | [z] => by
    show way r z x + (way r x y + 0) = way r z x + 0 + way r x y
    omega
  | z :: u :: l => by
    have ih := cst_snoc r x y (u :: l)
    show way r z u + cst r ((u :: l) ++ [x] ++ [y]) = way r z u + cst r ((u :: l) ++ [x]) + way r x y
    rw [ih]
    omega
theorem Gv.step {r : Row} {f : Nat → Int} (h : Gv r f) {i j a b : Nat} (ha : (lets r)[i]? = some a) (hb : (lets r)[j]? = some b) (ij : i < j) : f b ≤ f a + way r a b := by
  have hm : f a + way r a b ∈ ((lets r).take j).map fun o => f o + way r o b := by
    refine List.mem_map_of_mem (f := fun o => f o + way r o b) ?_
    have : ((lets r).take j)[i]? = some a := by rw [List.getElem?_take_of_lt ij]; exact ha
    exact List.mem_of_getElem? this
  rw [h.at hb]
  exact (minDL_mem (fun z => by rw [z] at hm; cases hm)).2 _ hm
theorem Gv.zero {r : Row} {f : Nat → Int} (h : Gv r f) {a : Nat} (ha : (lets r)[0]? = some a) : f a = 0 := by
  rw [h.at ha]
  rfl
/-- no chain costs less than the value of its goal -/
theorem Gv.chain {r : Row} {f : Nat → Int} (h : Gv r f) : ∀ (l : List Nat) (x : Nat), (x :: l).Sublist (lets r) → f ((x :: l).getLast (by simp)) ≤ f x + cst r (x :: l)
  | [], x, _ => by
    show f x ≤ f x + 0
    omega
  | y :: l, x, s => by
    have ih := Gv.chain h l y ((List.sublist_cons_self x (y :: l)).trans s)
    have e : (x :: y :: l).getLast (by simp) = (y :: l).getLast (by simp) := List.getLast_cons (by simp)
    have st : f y ≤ f x + way r x y := by
      have pw : (x :: y :: l).Pairwise (fun a b => plc r a < plc r b) := List.Pairwise.sublist s plc_up
      have lt := (List.pairwise_cons.mp pw).1 y List.mem_cons_self
      obtain ⟨i, hi⟩ := List.getElem?_of_mem (s.mem List.mem_cons_self)
      obtain ⟨j, hj⟩ := List.getElem?_of_mem (s.mem (List.mem_cons_of_mem _ List.mem_cons_self))
      refine h.step hi hj (Nat.lt_of_not_le fun ji => ?_)
      have il := (List.getElem?_eq_some_iff.mp hi).1
      have jl := (List.getElem?_eq_some_iff.mp hj).1
      have e1 := (List.getElem?_eq_some_iff.mp hi).2
      have e2 := (List.getElem?_eq_some_iff.mp hj).2
      by_cases q : j = i
      · subst q
        rw [e1] at e2
        rw [e2] at lt
        omega
      · have := List.pairwise_iff_getElem.mp (plc_up (r := r)) j i jl il (by omega)
        rw [e1, e2] at this
        omega
    rw [e]
    show _ ≤ f x + (way r x y + cst r (y :: l))
    omega
theorem best_ge {r : Row} {f : Nat → Int} (h : Gv r f) {path : List Nat} {g : Nat} (p : IsPath r path g) (hg : g ∈ lets r) : f g ≤ pcost r path g := by
  obtain ⟨pw, fl, hd⟩ := p.full hg
  have s : (path ++ [g]).Sublist (lets r) := by
    obtain ⟨i, hi⟩ := List.getElem?_of_mem hg
    have tw := tw_take (lets_nodup r) hi
    have s1 : (path ++ [g]).Sublist ((lets r).take (i + 1)) := by
      rw [take_of hi, ← tw]
      exact p.sub.append (List.Sublist.refl _)
    exact s1.trans (List.take_sublist _ _)
  rw [pcost_is]
  cases e : path ++ [g] with
  | nil => cases path <;> cases e
  | cons x l =>
    rw [e] at s hd
    have := h.chain l x s
    have e2 : (x :: l).getLast (by simp) = g := by
      have : (path ++ [g]).getLast (by simp) = g := by simp
      simp only [e] at this
      exact this
    rw [e2] at this
    have z : f x = 0 := h.zero (by
      cases e3 : lets r with
      | nil => rw [e3] at hd; cases hd
      | cons y m => rw [e3] at hd; exact hd.symm)
    omega
/-- some chain costs just that -/
theorem best_is {r : Row} {f : Nat → Int} (h : Gv r f) : ∀ (j g : Nat), (lets r)[j]? = some g → ∃ path, IsPath r path g ∧ pcost r path g = f g := by
  intro j
  induction j using Nat.strongRecOn with
  | ind j ih =>
    intro g hg
    have nd := lets_nodup r
    have jl := (List.getElem?_eq_some_iff.mp hg).1
    have tw := tw_take nd hg
    by_cases j0 : j = 0
    · subst j0
      have hh : g = (lets r).headD 0 := by
        cases e : lets r with
        | nil => rw [e] at hg; cases hg
        | cons x l => rw [e] at hg; exact (Option.some.inj hg).symm
      exact ⟨[], ⟨List.nil_sublist _, fun z => absurd hh z, fun _ => rfl⟩, by rw [h.zero hg]; rfl⟩
    have ne : ((lets r).take j).map (fun o => f o + way r o g) ≠ [] := by
      intro z
      have := congrArg List.length z
      rw [List.length_map, List.length_take, List.length_nil] at this
      omega
    have hm := (minDL_mem ne).1
    rw [← h.at hg] at hm
    obtain ⟨o, ho, eo⟩ := List.mem_map.mp hm
    obtain ⟨k, hk⟩ := List.getElem?_of_mem ho
    have kl := (List.getElem?_eq_some_iff.mp hk).1
    rw [List.length_take] at kl
    have ko : (lets r)[k]? = some o := by rw [List.getElem?_take_of_lt (by omega)] at hk; exact hk
    obtain ⟨path, p, ep⟩ := ih k (by omega) o ko
    have om := List.mem_of_getElem? ko
    refine ⟨path ++ [o], ⟨?_, fun _ => (p.full om).2.2, fun z => ?_⟩, ?_⟩
    · rw [tw]
      have s1 : (path ++ [o]).Sublist ((lets r).take (k + 1)) := by
        rw [take_of ko, ← tw_take nd ko]
        exact p.sub.append (List.Sublist.refl _)
      have : (lets r).take (k + 1) = ((lets r).take j).take (k + 1) := by rw [List.take_take, Nat.min_eq_left (by omega)]
      rw [this] at s1
      exact s1.trans (List.take_sublist _ _)
    · have h0 : (lets r)[0]? = some g := by
        cases e : lets r with
        | nil => rw [e] at jl; exact absurd jl (Nat.not_lt_zero _)
        | cons x l => rw [e] at z; rw [z]; rfl
      have := (List.getElem?_inj jl nd).mp (hg.trans h0.symm)
      omega
    · rw [pcost_is, cst_snoc, ← pcost_is, ep]
      exact eo
end LQF

namespace LQF
open PySem L2 LX LQ
theorem way_cons (e : Nat × Nat) (r : Row) (o d : Nat) (h : e.2 ≠ d) : way (e :: r) o d = (if e.2 = o then 0 else 1) + way r o d := by
  unfold way wayL
  rw [List.takeWhile_cons_of_pos (by simpa using h)]
  by_cases k : e.2 = o
  · rw [List.filter_cons_of_neg (by simp [k]), if_pos k]
    omega
  · rw [List.filter_cons_of_pos (by simpa using k), if_neg k, List.map_cons, List.length_cons]
    omega
theorem way_end (e : Nat × Nat) (r : Row) (o d : Nat) (h : e.2 = d) : way (e :: r) o d = 0 := by
  unfold way wayL
  rw [List.takeWhile_cons_of_neg (by simp [h])]
  rfl
theorem filt_none {p : Nat} : ∀ {r : Row}, (∀ e ∈ r, e.1 ≠ p) → r.filter (fun e => e.1 != p) = r
  | [], _ => rfl
  | e :: r, h => by
    rw [List.filter_cons_of_pos (by simpa using h e List.mem_cons_self), filt_none fun x hx => h x (List.mem_cons_of_mem _ hx)]
theorem way_out {p : Nat} (o d : Nat) : ∀ {r : Row}, (r.map (·.1)).Nodup → way r o d ≤ way (r.filter fun e => e.1 != p) o d + 1
  | [], _ => by
    show way [] o d ≤ way [] o d + 1
    omega
  | e :: r, nd => by
    have nd' := List.nodup_cons.mp (show (e.1 :: r.map (·.1)).Nodup from nd)
    by_cases h : e.2 = d
    · rw [way_end e r o d h]
      have := way_pos ((e :: r).filter fun e => e.1 != p) o d
      omega
    · rw [way_cons e r o d h]
      by_cases q : e.1 = p
      · rw [List.filter_cons_of_neg (by simp [q]), filt_none fun x hx z => nd'.1 (by rw [q, ← z]; exact List.mem_map_of_mem (f := (·.1)) hx)]
        split <;> omega
      · rw [List.filter_cons_of_pos (by simpa using q), way_cons e _ o d h]
        have := way_out (p := p) o d nd'.2
        omega
theorem out_cons (e : Nat × Nat) (r : Row) (cs : List Nat) : outN (e :: r) cs = (if e.2 ∈ cs then 0 else 1) + outN r cs := by
  unfold outN
  by_cases h : e.2 ∈ cs
  · rw [List.filter_cons_of_neg (by simpa using h), if_pos h]
    omega
  · rw [List.filter_cons_of_pos (by simpa using h), if_neg h, List.length_cons]
    omega
theorem out_out {p : Nat} (cs : List Nat) : ∀ {r : Row}, (r.map (·.1)).Nodup → outN r cs ≤ outN (r.filter fun e => e.1 != p) cs + 1
  | [], _ => by
    show outN [] cs ≤ outN [] cs + 1
    omega
  | e :: r, nd => by
    have nd' := List.nodup_cons.mp (show (e.1 :: r.map (·.1)).Nodup from nd)
    rw [out_cons]
    by_cases q : e.1 = p
    · rw [List.filter_cons_of_neg (by simp [q]), filt_none fun x hx z => nd'.1 (by rw [q, ← z]; exact List.mem_map_of_mem (f := (·.1)) hx)]
      split <;> omega
    · rw [List.filter_cons_of_pos (by simpa using q), out_cons]
      have := out_out (p := p) cs nd'.2
      omega
theorem Gv.pos {r : Row} {f : Nat → Int} (h : Gv r f) {c : Nat} (hc : c ∈ lets r) : 0 ≤ f c := by
  obtain ⟨j, hj⟩ := List.getElem?_of_mem hc
  have jl := (List.getElem?_eq_some_iff.mp hj).1
  have h0 : (lets r)[0]? = some ((lets r)[0]'(by omega)) := List.getElem?_eq_getElem (by omega)
  have := h.mono j 0 _ c h0 hj (Nat.zero_le _)
  rw [h.zero h0] at this
  exact this
/-- values before and behind a change that makes one person of the front color t -/
theorem call_values {r r' : Row} {f f' : Nat → Int} (h : Gv r f) (h' : Gv r' f') (sub : ∀ c ∈ lets r', c ∈ lets r) {t : Nat} (ht : (lets r')[0]? = some t) (f0 : f t = 0)
    (w1 : ∀ o d, o ≠ t → d ≠ t → way r o d ≤ way r' o d) (w2 : ∀ d, d ≠ t → way r t d ≤ way r' t d + 1) : ∀ (j d : Nat), (lets r')[j]? = some d → f d ≤ f' d + 1 := by
  intro j
  induction j using Nat.strongRecOn with
  | ind j ih =>
    intro d hd
    have dm := List.mem_of_getElem? hd
    by_cases j0 : j = 0
    · subst j0
      have : d = t := Option.some.inj (hd.symm.trans ht)
      rw [this, f0]
      have := h'.pos (List.mem_of_getElem? ht)
      omega
    have jl := (List.getElem?_eq_some_iff.mp hd).1
    have nd := lets_nodup r'
    have dt : d ≠ t := fun z => by
      rw [z] at hd
      have := (List.getElem?_inj jl nd).mp (hd.trans ht.symm)
      omega
    have ne : ((lets r').take j).map (fun o => f' o + way r' o d) ≠ [] := by
      intro z
      have := congrArg List.length z
      rw [List.length_map, List.length_take, List.length_nil] at this
      omega
    have hm := (minDL_mem ne).1
    rw [← h'.at hd] at hm
    obtain ⟨o, ho, eo⟩ := List.mem_map.mp hm
    obtain ⟨k, hk⟩ := List.getElem?_of_mem ho
    have kl := (List.getElem?_eq_some_iff.mp hk).1
    rw [List.length_take] at kl
    have ko : (lets r')[k]? = some o := by rw [List.getElem?_take_of_lt (by omega)] at hk; exact hk
    have i1 := ih k (by omega) o ko
    obtain ⟨a, ha⟩ := List.getElem?_of_mem (sub o (List.mem_of_getElem? ko))
    obtain ⟨b, hb⟩ := List.getElem?_of_mem (sub d dm)
    have wp := way_pos r' o d
    by_cases ab : a < b
    · have st := h.step ha hb ab
      by_cases ot : o = t
      · subst ot
        have := w2 d dt
        have := h'.pos (List.mem_of_getElem? ko)
        omega
      · have := w1 o d ot dt
        omega
    · have := h.mono a b d o hb ha (by omega)
      omega
/-- a call lowers what is needed by one at most -/
theorem call_at_most {r r' : Row} {f f' : Nat → Int} {cs : List Nat} {g g' : Nat} (h : Gv r f) (h' : Gv r' f') (sub : ∀ c ∈ lets r', c ∈ lets r) {t : Nat} (ht : (lets r')[0]? = some t) (f0 : f t = 0)
    (w1 : ∀ o d, o ≠ t → d ≠ t → way r o d ≤ way r' o d) (w2 : ∀ d, d ≠ t → way r t d ≤ way r' t d + 1) (o1 : outN r cs ≤ outN r' cs + 1) (o2 : t ∉ cs → outN r cs ≤ outN r' cs)
    (hg : goal r cs = some g) (hg' : goal r' cs = some g') : f g + outN r cs ≤ f' g' + outN r' cs + 1 := by
  have gm' := goal_mem hg'
  have p' := h'.pos gm'.1
  by_cases tc : t ∈ cs
  · obtain ⟨i, j, hi, hj, ij⟩ := goal_first hg (sub t (List.mem_of_getElem? ht)) tc
    have := h.mono j i g t hi hj ij
    omega
  · obtain ⟨i, j, hi, hj, ij⟩ := goal_first hg (sub g' gm'.1) gm'.2
    have m1 := h.mono j i g g' hi hj ij
    obtain ⟨k, hk⟩ := List.getElem?_of_mem gm'.1
    have := call_values h h' sub ht f0 w1 w2 k g' hk
    have := o2 tc
    omega
end LQF

namespace LQF
open PySem L2 LX LQ
theorem lets_cons (e : Nat × Nat) (r : Row) : (lets (e :: r))[0]? = some e.2 := by
  obtain ⟨t, ht⟩ := dd_app [e.2] (r.map (·.2))
  have e1 : lets (e :: r) = e.2 :: t := ht
  rw [e1]
  rfl
theorem way_fo {c t : Nat} : ∀ {r : Row}, fo r c = some t → way r c t = 0
  | [], h => by cases h
  | e :: r, h => by
    by_cases q : e.2 = c
    · rw [fo_no q] at h
      have ih := way_fo h
      have ne : c ≠ t := fun z => by
        unfold fo at h
        obtain ⟨x, hx, ex⟩ := Option.map_eq_some_iff.mp h
        have := List.find?_some hx
        rw [ex, z] at this
        simp at this
      rw [way_cons e r c t (by rw [q]; exact ne), if_pos q, ih]
      rfl
    · rw [fo_yes q] at h
      exact way_end e r c t (Option.some.inj h)
theorem fo_lets {r : Row} {c t : Nat} (h : fo r c = some t) : t ∈ lets r ∧ t ≠ c := by
  unfold fo at h
  obtain ⟨x, hx, ex⟩ := Option.map_eq_some_iff.mp h
  have h2 := List.find?_some hx
  exact ⟨mem_lets.mpr ⟨x, List.mem_of_find?_eq_some hx, ex⟩, by rw [← ex]; simpa using h2⟩
/-- the color that a call takes is free -/
theorem taken_zero {r : Row} {f : Nat → Int} (h : Gv r f) {c : Nat} (hc : c ∈ lets r) : (fo r c).getD c ∈ lets r ∧ f ((fo r c).getD c) = 0 := by
  cases r with
  | nil => cases hc
  | cons e s =>
    have h0 := lets_cons e s
    have z0 := h.zero h0
    by_cases q : e.2 = c
    · subst q
      cases ht : fo (e :: s) e.2 with
      | none => exact ⟨hc, z0⟩
      | some t =>
        obtain ⟨tm, tn⟩ := fo_lets ht
        refine ⟨tm, ?_⟩
        show f t = 0
        obtain ⟨j, hj⟩ := List.getElem?_of_mem tm
        have j0 : 0 < j := by
          cases j with
          | zero => exact absurd (Option.some.inj (hj.symm.trans h0)) tn
          | succ => exact Nat.succ_pos _
        have st := h.step h0 hj j0
        rw [way_fo ht, z0] at st
        have := h.pos tm
        omega
    · rw [fo_yes q]
      exact ⟨List.mem_of_getElem? h0, z0⟩
theorem call_lowers {r : Row} {f f' : Nat → Int} {cs : List Nat} {g g' p : Nat} (V : Vr r) (hp : p < r.length) (h : Gv r f) (h' : Gv (app r p) f') (hg : goal r cs = some g) (hg' : goal (app r p) cs = some g') :
    f g + outN r cs ≤ f' g' + outN (app r p) cs + 1 := by
  have hc : colOf r p ∈ lets r := mem_lets.mpr ⟨_, colOf_mem (V.has hp), rfl⟩
  obtain ⟨tm, tz⟩ := taken_zero h hc
  have ea : app r p = (p, (fo r (colOf r p)).getD (colOf r p)) :: r.filter fun e => e.1 != p := rfl
  rw [ea] at h' hg' ⊢
  generalize (fo r (colOf r p)).getD (colOf r p) = t at tm tz h' hg'
  have oo := out_out (p := p) cs V.nodup
  refine call_at_most h h' (fun c hc => ?_) (lets_cons _ _) tz (fun o d ot dt => ?_) (fun d dt => ?_) ?_ (fun tc => ?_) hg hg'
  · obtain ⟨e, he, rfl⟩ := mem_lets.mp hc
    rcases List.mem_cons.mp he with z | z
    · rw [z]; exact tm
    · exact mem_lets.mpr ⟨e, (List.mem_filter.mp z).1, rfl⟩
  · rw [way_cons _ _ o d (Ne.symm dt), if_neg (Ne.symm ot)]
    have := way_out (p := p) o d V.nodup
    omega
  · have e := way_cons (p, t) (r.filter fun e => e.1 != p) t d (Ne.symm dt)
    rw [if_pos (show ((p, t) : Nat × Nat).2 = t from rfl)] at e
    have := way_out (p := p) t d V.nodup
    show way r t d ≤ way ((p, t) :: r.filter fun e => e.1 != p) t d + 1
    omega
  · rw [out_cons]
    split <;> omega
  · rw [out_cons, if_neg tc]
    omega
/-- nothing is needed exactly where all wear the set's colors -/
theorem need_zero {r : Row} {f : Nat → Int} {cs : List Nat} {g : Nat} (h : Gv r f) (hg : goal r cs = some g) : (f g + outN r cs = 0) ↔ outN r cs = 0 := by
  have fp := h.pos (goal_mem hg).1
  have op : 0 ≤ outN r cs := by unfold outN; omega
  constructor
  · intro e; omega
  · intro e
    have fz : f g = 0 := by
      cases r with
      | nil => cases hg
      | cons x s =>
        rw [out_cons] at e
        have o2 : 0 ≤ outN s cs := by unfold outN; omega
        have xc : x.2 ∈ cs := by
          by_cases k : x.2 ∈ cs
          · exact k
          · rw [if_neg k] at e
            omega
        have : g = x.2 := by
          unfold goal at hg
          rw [List.find?_cons_of_pos (by exact decide_eq_true xc)] at hg
          exact (Option.some.inj hg).symm
        rw [this]
        exact h.zero (lets_cons x s)
    omega
end LQF

namespace LQF
open PySem L2 LX LQ
/-- from any color to any other -/
theorem Gv.tri {r : Row} {f : Nat → Int} (h : Gv r f) {x y : Nat} (hx : x ∈ lets r) (hy : y ∈ lets r) : f y ≤ f x + way r x y := by
  obtain ⟨i, hi⟩ := List.getElem?_of_mem hx
  obtain ⟨j, hj⟩ := List.getElem?_of_mem hy
  by_cases ij : i < j
  · exact h.step hi hj ij
  · have := h.mono i j y x hj hi (by omega)
    have := way_pos r x y
    omega
theorem Gv.any {r : Row} {f : Nat → Int} (h : Gv r f) : ∀ (l : List Nat) (x : Nat), (∀ c ∈ x :: l, c ∈ lets r) → f ((x :: l).getLast (by simp)) ≤ f x + cst r (x :: l)
  | [], x, _ => by
    show f x ≤ f x + 0
    omega
  | y :: l, x, s => by
    have ih := Gv.any h l y fun c hc => s c (List.mem_cons_of_mem _ hc)
    have e : (x :: y :: l).getLast (by simp) = (y :: l).getLast (by simp) := List.getLast_cons (by simp)
    have st := h.tri (s x List.mem_cons_self) (s y (List.mem_cons_of_mem _ List.mem_cons_self))
    rw [e]
    show _ ≤ f x + (way r x y + cst r (y :: l))
    omega
theorem out_exact {p : Nat} (cs : List Nat) : ∀ {r : Row} {c : Nat}, (r.map (·.1)).Nodup → (p, c) ∈ r → outN r cs = outN (r.filter fun e => e.1 != p) cs + (if c ∈ cs then 0 else 1)
  | [], _, _, h => nomatch h
  | e :: r, c, nd, h => by
    have nd' := List.nodup_cons.mp (show (e.1 :: r.map (·.1)).Nodup from nd)
    rw [out_cons]
    by_cases q : e.1 = p
    · have ec : e = (p, c) := by
        rcases List.mem_cons.mp h with z | z
        · exact z.symm
        · exact absurd (by rw [q]; exact List.mem_map_of_mem (f := (·.1)) z) nd'.1
      rw [List.filter_cons_of_neg (by simp [q]), filt_none fun x hx z => nd'.1 (by rw [q, ← z]; exact List.mem_map_of_mem (f := (·.1)) hx), ec]
      show (if c ∈ cs then (0 : Int) else 1) + _ = _
      omega
    · have hr : (p, c) ∈ r := by
        rcases List.mem_cons.mp h with z | z
        · exact absurd (by rw [← z]) q
        · exact z
      rw [List.filter_cons_of_pos (by simpa using q), out_cons, out_exact cs nd'.2 hr]
      omega
theorem way_exact {p : Nat} (o d : Nat) : ∀ {r : Row} {c : Nat}, (r.map (·.1)).Nodup → (p, c) ∈ r.takeWhile (fun e => e.2 != d) → way r o d = way (r.filter fun e => e.1 != p) o d + (if c = o then 0 else 1)
  | [], _, _, h => nomatch h
  | e :: r, c, nd, h => by
    have nd' := List.nodup_cons.mp (show (e.1 :: r.map (·.1)).Nodup from nd)
    by_cases k : e.2 = d
    · rw [List.takeWhile_cons_of_neg (by simp [k])] at h
      cases h
    rw [List.takeWhile_cons_of_pos (by simpa using k)] at h
    rw [way_cons e r o d k]
    by_cases q : e.1 = p
    · have ec : e = (p, c) := by
        rcases List.mem_cons.mp h with z | z
        · exact z.symm
        · exact absurd (by rw [q]; exact List.mem_map_of_mem (f := (·.1)) ((List.takeWhile_sublist _).mem z)) nd'.1
      rw [List.filter_cons_of_neg (by simp [q]), filt_none fun x hx z => nd'.1 (by rw [q, ← z]; exact List.mem_map_of_mem (f := (·.1)) hx), ec]
      show (if c = o then (0 : Int) else 1) + _ = _
      omega
    · have hr : (p, c) ∈ r.takeWhile (fun e => e.2 != d) := by
        rcases List.mem_cons.mp h with z | z
        · exact absurd (by rw [← z]) q
        · exact z
      rw [List.filter_cons_of_pos (by simpa using q), way_cons e _ o d k, way_exact o d nd'.2 hr]
      omega
/-- what stands ahead of the first x stands ahead of the first of a later color -/
theorem ahead {r : Row} {i j x y : Nat} (hx : (lets r)[i]? = some x) (hy : (lets r)[j]? = some y) (ij : i ≤ j) {e : Nat × Nat} (h : e ∈ r.takeWhile fun e => e.2 != x) : e ∈ r.takeWhile fun e => e.2 != y := by
  by_cases q : i = j
  · subst q
    rw [← Option.some.inj (hx.symm.trans hy)]
    exact h
  have no := dd_order hx hy (by omega)
  have go : ∀ r : Row, y ∉ (r.map (·.2)).takeWhile (fun c => c != x) → e ∈ r.takeWhile (fun e => e.2 != x) → e ∈ r.takeWhile fun e => e.2 != y := by
    intro r
    induction r with
    | nil => intro _ h; exact h
    | cons z r ih =>
      intro n h
      by_cases k : z.2 = x
      · rw [List.takeWhile_cons_of_neg (by simp [k])] at h
        cases h
      · rw [List.takeWhile_cons_of_pos (by simpa using k)] at h
        rw [List.map_cons, List.takeWhile_cons_of_pos (by simpa using k), List.mem_cons, not_or] at n
        rw [List.takeWhile_cons_of_pos (by simpa using fun w : z.2 = y => n.1 w.symm)]
        rcases List.mem_cons.mp h with w | w
        · rw [w]; exact List.mem_cons_self
        · exact List.mem_cons_of_mem _ (ih n.2 w)
  exact go r no h
end LQF

namespace LQF
open PySem L2 LX LQ
theorem cst_same {r r' : Row} : ∀ {l : List Nat}, (∀ x ∈ l, ∀ y ∈ l, x ≠ y → way r' x y = way r x y) → l.Nodup → cst r' l = cst r l
  | [], _, _ => rfl
  | [_], _, _ => rfl
  | x :: y :: l, h, nd => by
    have nd' := List.nodup_cons.mp nd
    have ne : x ≠ y := fun z => nd'.1 (by rw [z]; exact List.mem_cons_self)
    show way r' x y + cst r' (y :: l) = way r x y + cst r (y :: l)
    rw [h x List.mem_cons_self y (List.mem_cons_of_mem _ List.mem_cons_self) ne, cst_same (fun a ha b hb => h a (List.mem_cons_of_mem _ ha) b (List.mem_cons_of_mem _ hb)) nd'.2]
theorem fo_of_way {a o : Nat} (ne : a ≠ o) : ∀ {r : Row}, way r a o = 0 → o ∈ lets r → fo r a = some o
  | [], _, h => by
    obtain ⟨e, he, _⟩ := mem_lets.mp h
    cases he
  | e :: r, w, h => by
    by_cases k : e.2 = o
    · rw [fo_yes (by rw [k]; exact Ne.symm ne), k]
    · rw [way_cons e r a o k] at w
      have wp := way_pos r a o
      by_cases q : e.2 = a
      · rw [if_pos q] at w
        rw [fo_no q]
        refine fo_of_way ne (by omega) ?_
        obtain ⟨x, hx, ex⟩ := mem_lets.mp h
        rcases List.mem_cons.mp hx with z | z
        · exact absurd (by rw [← z]; exact ex) k
        · exact mem_lets.mpr ⟨x, z, ex⟩
      · rw [if_neg q] at w
        omega
theorem way_some {a o : Nat} {r : Row} (h : 0 < way r a o) : ∃ e ∈ r.takeWhile (fun e => e.2 != o), e.2 ≠ a := by
  unfold way wayL at h
  rw [List.length_map] at h
  cases hf : (r.takeWhile fun e => e.2 != o).filter fun e => e.2 != a with
  | nil => rw [hf] at h; exact absurd h (by decide)
  | cons e l =>
    have : e ∈ (r.takeWhile fun e => e.2 != o).filter fun e => e.2 != a := by rw [hf]; exact List.mem_cons_self
    obtain ⟨h1, h2⟩ := List.mem_filter.mp this
    exact ⟨e, h1, by simpa using h2⟩
/-- to conclude: a goal of the row behind costs no more than any wanted color there -/
theorem goal_le {r : Row} {f : Nat → Int} (h : Gv r f) {cs : List Nat} {g : Nat} (hg : g ∈ lets r) (k : g ∈ cs) : ∃ g', goal r cs = some g' ∧ f g' ≤ f g := by
  obtain ⟨g', e⟩ := goal_some hg k
  obtain ⟨i, j, hi, hj, ij⟩ := goal_first e hg k
  exact ⟨g', e, h.mono j i g' g hi hj ij⟩
theorem out_some {r : Row} {cs : List Nat} (h : 0 < outN r cs) : ∃ e ∈ r, e.2 ∉ cs := by
  unfold outN at h
  cases hf : r.filter fun e => !decide (e.2 ∈ cs) with
  | nil => rw [hf] at h; exact absurd h (by decide)
  | cons e l =>
    have : e ∈ r.filter fun e => !decide (e.2 ∈ cs) := by rw [hf]; exact List.mem_cons_self
    obtain ⟨h1, h2⟩ := List.mem_filter.mp this
    exact ⟨e, h1, by simpa using h2⟩
theorem app_is {r : Row} (V : Vr r) {e : Nat × Nat} (he : e ∈ r) {t : Nat} (ht : (fo r e.2).getD e.2 = t) : app r e.1 = (e.1, t) :: r.filter fun x => x.1 != e.1 := by
  have : colOf r e.1 = e.2 := colOf_is V.nodup he
  show (e.1, (fo r (colOf r e.1)).getD (colOf r e.1)) :: _ = _
  rw [this, ht]
/-- the front color is wanted -/
theorem helps_front {r : Row} {cs : List Nat} {e0 : Nat × Nat} {s : Row} {F : Nat → Nat → Int} (er : r = e0 :: s) (V : Vr r) (hF : ∀ p, p < r.length → Gv (app r p) (F p)) (k : e0.2 ∈ cs) (h : 0 < outN r cs) :
    ∃ p, p < r.length ∧ ∃ g', goal (app r p) cs = some g' ∧ F p g' + outN (app r p) cs ≤ outN r cs - 1 := by
  obtain ⟨e, he, ec⟩ := out_some h
  have hl := V.lt he
  have ne : e0.2 ≠ e.2 := fun z => ec (z ▸ k)
  have hf : (fo r e.2).getD e.2 = e0.2 := by rw [er, fo_yes ne]; rfl
  have ea := app_is V he hf
  have gv := hF e.1 hl
  have ox := out_exact (p := e.1) cs V.nodup (show (e.1, e.2) ∈ r from he)
  rw [if_neg ec] at ox
  refine ⟨e.1, hl, e0.2, ?_, ?_⟩
  · rw [ea]
    unfold goal
    rw [List.find?_cons_of_pos (by exact decide_eq_true k)]
    rfl
  · have h0 : (lets (app r e.1))[0]? = some e0.2 := by rw [ea]; exact lets_cons _ _
    rw [gv.zero h0, ea, out_cons, if_pos k]
    omega
end LQF

namespace LQF
open PySem L2 LX LQ
/-- the first step of the chain costs something: who stands in the way there is called -/
theorem helps_way {r : Row} {f : Nat → Int} {cs : List Nat} {e0 : Nat × Nat} {s : Row} {F : Nat → Nat → Int} {g o : Nat} {N : List Nat} (er : r = e0 :: s) (V : Vr r) (h : Gv r f) (hF : ∀ p, p < r.length → Gv (app r p) (F p)) (k : e0.2 ∉ cs) (hg : goal r cs = some g)
    (sub : (e0.2 :: o :: N).Sublist (lets r)) (last : (e0.2 :: o :: N).getLast (by simp) = g) (cost : cst r (e0.2 :: o :: N) = f g) (w : 0 < way r e0.2 o) :
    ∃ p, p < r.length ∧ ∃ g', goal (app r p) cs = some g' ∧ F p g' + outN (app r p) cs ≤ f g + outN r cs - 1 := by
  obtain ⟨e, he, ne⟩ := way_some w
  have her := (List.takeWhile_sublist _).mem he
  have hl := V.lt her
  have hf : (fo r e.2).getD e.2 = e0.2 := by rw [er, fo_yes (Ne.symm ne)]; rfl
  have ea := app_is V her hf
  have gv := hF e.1 hl
  have nd : (e0.2 :: o :: N).Nodup := sub.nodup (lets_nodup r)
  have nd' := List.nodup_cons.mp nd
  have pw : (e0.2 :: o :: N).Pairwise (fun a b => plc r a < plc r b) := List.Pairwise.sublist sub plc_up
  have ol : o ∈ lets r := sub.mem (List.mem_cons_of_mem _ List.mem_cons_self)
  -- he stands ahead of all later colors
  have hd : ∀ y ∈ o :: N, e ∈ r.takeWhile fun x => x.2 != y := fun y hy => by
    have yl : y ∈ lets r := sub.mem (List.mem_cons_of_mem _ hy)
    obtain ⟨i, hi⟩ := List.getElem?_of_mem ol
    obtain ⟨j, hj⟩ := List.getElem?_of_mem yl
    refine ahead hi hj (Nat.le_of_not_lt fun ji => ?_) he
    have le : plc r o ≤ plc r y := by
      rcases List.mem_cons.mp hy with z | z
      · rw [z]; exact Int.le_refl _
      · exact Int.le_of_lt ((List.pairwise_cons.mp (List.pairwise_cons.mp pw).2).1 y z)
    have il := (List.getElem?_eq_some_iff.mp hi).1
    have jl := (List.getElem?_eq_some_iff.mp hj).1
    have := List.pairwise_iff_getElem.mp (plc_up (r := r)) j i jl il ji
    rw [(List.getElem?_eq_some_iff.mp hi).2, (List.getElem?_eq_some_iff.mp hj).2] at this
    omega
  have cy : ∀ y ∈ o :: N, e.2 ≠ y := fun y hy => by
    have := tw_all _ _ _ (hd y hy)
    simpa using this
  have gl : g ∈ o :: N := by
    rw [← last, List.getLast_cons (by simp)]
    exact List.getLast_mem _
  have ec : e.2 ∉ cs := fun z => by
    obtain ⟨i, j, hi, hj, ij⟩ := goal_first hg (mem_lets.mpr ⟨e, her, rfl⟩) z
    have ne2 : i ≠ j := fun q => by
      subst q
      exact cy g gl (Option.some.inj (hj.symm.trans hi))
    have no := dd_order hi hj (by omega)
    apply no
    have tw : (r.map (·.2)).takeWhile (fun x => x != g) = (r.takeWhile fun e => e.2 != g).map (·.2) := by rw [List.takeWhile_map]; rfl
    rw [tw]
    exact List.mem_map_of_mem (f := (·.2)) (hd g gl)
  have ex : ∀ x y, y ∈ o :: N → way r x y = way (r.filter fun z => z.1 != e.1) x y + (if e.2 = x then 0 else 1) := fun x y hy => way_exact x y V.nodup (hd y hy)
  have ny : ∀ y ∈ o :: N, e0.2 ≠ y := fun y hy z => nd'.1 (z ▸ hy)
  have mem' : ∀ c ∈ e0.2 :: o :: N, c ∈ lets (app r e.1) := fun c hc => by
    rw [ea]
    rcases List.mem_cons.mp hc with z | z
    · rw [z]; exact mem_lets.mpr ⟨_, List.mem_cons_self, rfl⟩
    · obtain ⟨x, hx, ex2⟩ := mem_lets.mp (sub.mem hc)
      refine mem_lets.mpr ⟨x, List.mem_cons_of_mem _ (List.mem_filter.mpr ⟨hx, ?_⟩), ex2⟩
      have : x.1 ≠ e.1 := fun q => by
        have h1 := colOf_is V.nodup hx
        have h2 := colOf_is V.nodup her
        rw [q, h2] at h1
        exact cy c z (h1.trans ex2)
      simpa using this
  have up := gv.any (o :: N) e0.2 mem'
  rw [last] at up
  have z0 : F e.1 e0.2 = 0 := gv.zero (by rw [ea]; exact lets_cons _ _)
  have c1 : cst (app r e.1) (e0.2 :: o :: N) = cst r (e0.2 :: o :: N) - 1 := by
    have rest : cst (app r e.1) (o :: N) = cst r (o :: N) := cst_same (fun x hx y hy _ => by
      rw [ea, way_cons (e.1, e0.2) _ x y (ny y hy), ex x y hy, if_neg (show ¬ ((e.1, e0.2) : Nat × Nat).2 = x from ny x hx), if_neg (cy x hx)]
      omega) nd'.2
    have first : way (app r e.1) e0.2 o = way r e0.2 o - 1 := by
      have oo : o ∈ o :: N := List.mem_cons_self
      rw [ea, way_cons (e.1, e0.2) _ e0.2 o (ny o oo), ex e0.2 o oo, if_pos (show ((e.1, e0.2) : Nat × Nat).2 = e0.2 from rfl), if_neg ne]
      omega
    show way (app r e.1) e0.2 o + cst (app r e.1) (o :: N) = way r e0.2 o + cst r (o :: N) - 1
    rw [rest, first]
    omega
  obtain ⟨g', hg', gle⟩ := goal_le gv (mem' g (List.mem_cons_of_mem _ gl)) (goal_mem hg).2
  refine ⟨e.1, hl, g', hg', ?_⟩
  have ox := out_exact (p := e.1) cs V.nodup (show (e.1, e.2) ∈ r from her)
  rw [if_neg ec] at ox
  have o2 : outN (app r e.1) cs = 1 + outN (r.filter fun z => z.1 != e.1) cs := by rw [ea, out_cons, if_neg k]
  omega
end LQF

namespace LQF
open PySem L2 LX LQ
/-- the first step of the chain is free: the front person is called -/
theorem helps_free {r : Row} {f : Nat → Int} {cs : List Nat} {e0 : Nat × Nat} {s : Row} {F : Nat → Nat → Int} {g o : Nat} {N : List Nat} (er : r = e0 :: s) (V : Vr r) (hF : ∀ p, p < r.length → Gv (app r p) (F p)) (k : e0.2 ∉ cs) (hg : goal r cs = some g)
    (sub : (e0.2 :: o :: N).Sublist (lets r)) (last : (e0.2 :: o :: N).getLast (by simp) = g) (cost : cst r (e0.2 :: o :: N) = f g) (w : way r e0.2 o = 0) :
    ∃ p, p < r.length ∧ ∃ g', goal (app r p) cs = some g' ∧ F p g' + outN (app r p) cs ≤ f g + outN r cs - 1 := by
  have her : e0 ∈ r := by rw [er]; exact List.mem_cons_self
  have hl := V.lt her
  have nd : (e0.2 :: o :: N).Nodup := sub.nodup (lets_nodup r)
  have nd' := List.nodup_cons.mp nd
  have ny : ∀ y ∈ o :: N, e0.2 ≠ y := fun y hy z => nd'.1 (z ▸ hy)
  have ol : o ∈ lets r := sub.mem (List.mem_cons_of_mem _ List.mem_cons_self)
  have fo1 := fo_of_way (ny o List.mem_cons_self) w ol
  have ea := app_is V her (t := o) (by rw [fo1]; rfl)
  have gv := hF e0.1 hl
  have ex : ∀ x y, y ∈ o :: N → way r x y = way (r.filter fun z => z.1 != e0.1) x y + (if e0.2 = x then 0 else 1) := fun x y hy => way_exact x y V.nodup (by
    rw [er, List.takeWhile_cons_of_pos (by simpa using ny y hy)]
    exact List.mem_cons_self)
  have gl : g ∈ o :: N := by
    rw [← last, List.getLast_cons (by simp)]
    exact List.getLast_mem _
  have mem' : ∀ c ∈ o :: N, c ∈ lets (app r e0.1) := fun c hc => by
    rw [ea]
    rcases List.mem_cons.mp hc with z | z
    · rw [z]; exact mem_lets.mpr ⟨_, List.mem_cons_self, rfl⟩
    · obtain ⟨x, hx, ex2⟩ := mem_lets.mp (sub.mem (List.mem_cons_of_mem _ hc))
      refine mem_lets.mpr ⟨x, List.mem_cons_of_mem _ (List.mem_filter.mpr ⟨hx, ?_⟩), ex2⟩
      have : x.1 ≠ e0.1 := fun q => by
        have h1 := colOf_is V.nodup hx
        have h2 := colOf_is V.nodup her
        rw [q, h2] at h1
        exact ny c hc (h1.trans ex2)
      simpa using this
  have up := gv.any N o mem'
  have last2 : (o :: N).getLast (by simp) = g := (List.getLast_cons (a := e0.2) (show o :: N ≠ [] by simp)).symm.trans last
  rw [last2] at up
  have z0 : F e0.1 o = 0 := gv.zero (by rw [ea]; exact lets_cons _ _)
  obtain ⟨g', hg', gle⟩ := goal_le gv (mem' g gl) (goal_mem hg).2
  refine ⟨e0.1, hl, g', hg', ?_⟩
  have ox := out_exact (p := e0.1) cs V.nodup (show (e0.1, e0.2) ∈ r from her)
  rw [if_neg k] at ox
  have cst0 : cst r (e0.2 :: o :: N) = way r e0.2 o + cst r (o :: N) := rfl
  cases N with
  | nil =>
    have go : g = o := List.mem_singleton.mp gl
    have o2 : outN (app r e0.1) cs = outN (r.filter fun z => z.1 != e0.1) cs := by
      rw [ea, out_cons, if_pos (show ((e0.1, o) : Nat × Nat).2 ∈ cs from go ▸ (goal_mem hg).2)]
      omega
    have c1 : cst (app r e0.1) [o] = 0 := rfl
    have c2 : cst r [o] = 0 := rfl
    omega
  | cons y N =>
    have nd2 := List.nodup_cons.mp nd'.2
    have yo : o ≠ y := fun z => nd2.1 (by rw [z]; exact List.mem_cons_self)
    have first : way (app r e0.1) o y = way r o y - 1 := by
      have hy : y ∈ o :: y :: N := List.mem_cons_of_mem _ List.mem_cons_self
      rw [ea, way_cons (e0.1, o) _ o y yo, ex o y hy, if_pos (show ((e0.1, o) : Nat × Nat).2 = o from rfl), if_neg (ny o List.mem_cons_self)]
      omega
    have rest : cst (app r e0.1) (y :: N) = cst r (y :: N) := cst_same (fun a ha b hb _ => by
      have ob : o ≠ b := fun z => nd2.1 (z ▸ hb)
      have oa : o ≠ a := fun z => nd2.1 (z ▸ ha)
      rw [ea, way_cons (e0.1, o) _ a b ob, ex a b (List.mem_cons_of_mem _ hb), if_neg (show ¬ ((e0.1, o) : Nat × Nat).2 = a from oa), if_neg (ny a (List.mem_cons_of_mem _ ha))]
      omega) nd2.2
    have gy : g ∈ y :: N := by
      have : (y :: N).getLast (by simp) = g := (List.getLast_cons (a := o) (show y :: N ≠ [] by simp)).symm.trans last2
      rw [← this]
      exact List.getLast_mem _
    have oc : o ∉ cs := fun z => by
      obtain ⟨i, j, hi, hj, ij⟩ := goal_first hg ol z
      have pw : (e0.2 :: o :: y :: N).Pairwise (fun a b => plc r a < plc r b) := List.Pairwise.sublist sub plc_up
      have lt1 := (List.pairwise_cons.mp (List.pairwise_cons.mp pw).2).1 g gy
      by_cases q : i = j
      · subst q
        have := Option.some.inj (hi.symm.trans hj)
        rw [this] at lt1
        omega
      · have il := (List.getElem?_eq_some_iff.mp hi).1
        have jl := (List.getElem?_eq_some_iff.mp hj).1
        have := List.pairwise_iff_getElem.mp (plc_up (r := r)) i j il jl (by omega)
        rw [(List.getElem?_eq_some_iff.mp hi).2, (List.getElem?_eq_some_iff.mp hj).2] at this
        omega
    have o2 : outN (app r e0.1) cs = 1 + outN (r.filter fun z => z.1 != e0.1) cs := by rw [ea, out_cons, if_neg (show ¬ ((e0.1, o) : Nat × Nat).2 ∈ cs from oc)]
    have c1 : cst (app r e0.1) (o :: y :: N) = way (app r e0.1) o y + cst (app r e0.1) (y :: N) := rfl
    have c2 : cst r (o :: y :: N) = way r o y + cst r (y :: N) := rfl
    omega
theorem last_snoc (l : List Nat) (g : Nat) : (l ++ [g]).getLast (by simp) = g := by simp
/-- where something is needed, some call lowers it -/
theorem call_helps {r : Row} {f : Nat → Int} {cs : List Nat} {F : Nat → Nat → Int} {g : Nat} (V : Vr r) (h : Gv r f) (hF : ∀ p, p < r.length → Gv (app r p) (F p)) (hg : goal r cs = some g) (pos : 0 < f g + outN r cs) :
    ∃ p, p < r.length ∧ ∃ g', goal (app r p) cs = some g' ∧ F p g' + outN (app r p) cs ≤ f g + outN r cs - 1 := by
  cases er : r with
  | nil => rw [er] at hg; cases hg
  | cons e0 s =>
    rw [← er]
    have h0 : (lets r)[0]? = some e0.2 := by rw [er]; exact lets_cons _ _
    by_cases k : e0.2 ∈ cs
    · have ge : g = e0.2 := by
        rw [er] at hg
        unfold goal at hg
        rw [List.find?_cons_of_pos (by exact decide_eq_true k)] at hg
        exact (Option.some.inj hg).symm
      have fz : f g = 0 := by rw [ge]; exact h.zero h0
      obtain ⟨p, hp, g', hg', le⟩ := helps_front er V hF k (by omega)
      exact ⟨p, hp, g', hg', by omega⟩
    · obtain ⟨j, hj⟩ := List.getElem?_of_mem (goal_mem hg).1
      obtain ⟨path, ip, ep⟩ := best_is h j g hj
      have ne : g ≠ (lets r).headD 0 := fun z => k (by
        have : (lets r).headD 0 = e0.2 := by
          cases e : lets r with
          | nil => rw [e] at h0; cases h0
          | cons x l => rw [e] at h0; exact Option.some.inj h0
        rw [← this, ← z]
        exact (goal_mem hg).2)
      have sub : (path ++ [g]).Sublist (lets r) := by
        have s1 : (path ++ [g]).Sublist ((lets r).take (j + 1)) := by
          rw [take_of hj, ← tw_take (lets_nodup r) hj]
          exact ip.sub.append (List.Sublist.refl _)
        exact s1.trans (List.take_sublist _ _)
      rw [pcost_is] at ep
      have hd := ip.hd ne
      cases path with
      | nil =>
        cases e : lets r with
        | nil => rw [e] at h0; cases h0
        | cons x l => rw [e] at hd; cases hd
      | cons x rest =>
        have xe : x = e0.2 := by
          cases e : lets r with
          | nil => rw [e] at h0; cases h0
          | cons y l =>
            rw [e] at hd h0
            exact (Option.some.inj hd).trans (Option.some.inj h0)
        subst xe
        obtain ⟨o, N, eN⟩ : ∃ o N, rest ++ [g] = o :: N := by
          cases rest with
          | nil => exact ⟨g, [], rfl⟩
          | cons a b => exact ⟨a, b ++ [g], rfl⟩
        have e2 : (e0.2 :: rest) ++ [g] = e0.2 :: o :: N := by
          show e0.2 :: (rest ++ [g]) = _
          rw [eN]
        rw [e2] at sub ep
        have last : (e0.2 :: o :: N).getLast (by simp) = g := by
          have : ((e0.2 :: rest) ++ [g]).getLast (by simp) = g := last_snoc (e0.2 :: rest) g
          simp only [e2] at this
          exact this
        by_cases w : way r e0.2 o = 0
        · exact helps_free er V hF k hg sub last ep w
        · have := way_pos r e0.2 o
          exact helps_way er V h hF k hg sub last ep (by omega)
end LQF

namespace LQF
open PySem L2 LX LQ
theorem sh_enc {r : Row} (V : Vr r) : Sh 13 2 (60 * 83) (eRows (enc r)) := by
  have e : eRows (enc r) = dR r := by
    show PyData.list _ = PyData.list _
    rw [List.map_map]
    rfl
  rw [e]
  exact sh_row V
theorem sh_txt {cs : List Nat} (h : ∀ c ∈ cs, c ≤ 122) : Sh 13 0 cs.length (.str (txt cs)) := ⟨by simp only [PyData.showable], by simp only [PyData.hasDict], by simp only [PyData.depth]; omega, by
  simp only [PyData.leavesShort]
  show cs.toArray.toList.all (fun c => decide (c < 16 ^ 8)) = true
  rw [List.toList_toArray, List.all_eq_true]
  intro c hc
  have := h c hc
  exact decide_eq_true (Nat.lt_of_le_of_lt this (by decide)), by simp only [PyData.weight]; show cs.toArray.size ≤ _; rw [List.size_toArray]; exact Nat.le_refl _⟩
theorem sh_nI {cs : List Nat} (h : ∀ c ∈ cs, c < 10 ^ 12) {n : Nat} (z : cs.length ≤ n) : Sh 13 1 (n * 41) (eL eI (nI cs)) := by
  have := Sh.list (B := 13) (n := 0) (m := 40) (xs := (nI cs).map eI) fun x hx => by
    obtain ⟨s, hs, rfl⟩ := List.mem_map.mp hx
    obtain ⟨c, hc, rfl⟩ := List.mem_map.mp hs
    exact Sh.int (by show Int.natAbs (c : Int) < _; rw [Int.natAbs_natCast]; exact h c hc)
  rw [List.length_map, List.length_map] at this
  exact this.mono (Nat.le_refl _) (Nat.mul_le_mul_right _ z)
theorem m_repr {d : PyData} {n m : Nat} (h : Sh 13 n m d) (hn : n ≤ 20) (hm : m ≤ 2 ^ 20) : reprF d = some d.shown := by
  unfold reprF
  rw [h.sh, h.nd, decide_eq_true (Nat.le_trans h.dp hn), decide_eq_true (h.fits hm)]
  rfl
/-- a row and numbers are shown -/
theorem m_kept {r : Row} {cs : List Nat} (V : Vr r) (h : ∀ c ∈ cs, c < 10 ^ 12) (z : cs.length ≤ 1000) : ∃ s, reprF (.list [eRows (enc r), eL eI (nI cs)]) = some s := by
  refine ⟨_, m_repr (n := 3) (m := 2 * (41000 + 1)) ?_ (by decide) (by decide)⟩
  have := Sh.list (B := 13) (n := 2) (m := 41000) (xs := [eRows (enc r), eL eI (nI cs)]) fun x hx => by
    rcases List.mem_cons.mp hx with e | hx
    · rw [e]; exact (sh_enc V).mono (by decide) (by decide)
    · rw [List.mem_singleton.mp hx]; exact (sh_nI h z).mono (by decide) (by decide)
  exact this
end LQF

namespace LQF
open PySem L2 LX LQ
theorem head_filt (r : Row) (q : Int × Str → Bool) : (((enc r).filter q).map fun a : Int × Str => a.2).head? = (r.find? (q ∘ eRow)).map fun e => lt e.2 := by
  rw [List.head?_map, List.head?_filter, List.find?_map, Option.map_map]
  rfl
theorem ix_head {α : Type} {l : List α} {x : α} (h : l.head? = some x) : ix l (0 : Int) = some x := by
  cases l with
  | nil => cases h
  | cons y l => exact ix_int (by decide) (by rw [← h]; rfl)
theorem m_law_after {r : Row} (V : Vr r) {p : Nat} (hp : p < r.length) : F__law_after (enc r) (p : Int) = some (enc (app r p)) := by
  have n2 := V.n2
  unfold F__law_after
  refine be (compL_filt (q := fun a : Int × Str => decide (a.1 = (p : Int))) (g := fun a : Int × Str => a.2) (by rw [enc_len]; unfold LIM; omega) fun x _ => by cases decide (x.1 = (p : Int)) <;> rfl) ?_
  refine be (x := lt (colOf r p)) (ix_head ?_) ?_
  · rw [head_filt]
    have e2 : (fun a : Int × Str => decide (a.1 = (p : Int))) ∘ eRow = fun e : Nat × Nat => e.1 == p := by
      funext e
      show decide ((e.1 : Int) = (p : Int)) = _
      rw [Bool.eq_iff_iff, decide_eq_true_iff, beq_iff_eq]
      omega
    rw [e2]
    unfold colOf
    cases hf : r.find? fun e => e.1 == p with
    | none =>
      obtain ⟨e, he, e1⟩ := V.has hp
      exact absurd (by rw [beq_iff_eq]; exact e1) (List.find?_eq_none.mp hf e he)
    | some e => rfl
  refine be (compL_filt (q := fun a : Int × Str => !decide (a.2 = lt (colOf r p))) (g := fun a : Int × Str => a.2) (by rw [enc_len]; unfold LIM; omega) fun x _ => by cases decide (x.2 = lt (colOf r p)) <;> rfl) ?_
  have hh : (((enc r).filter fun a : Int × Str => !decide (a.2 = lt (colOf r p))).map fun a : Int × Str => a.2).head? = (fo r (colOf r p)).map lt := by
    rw [head_filt]
    have e2 : (fun a : Int × Str => !decide (a.2 = lt (colOf r p))) ∘ eRow = fun e : Nat × Nat => e.2 != colOf r p := by
      funext e
      show (!decide (lt e.2 = lt (colOf r p))) = _
      rw [lt_dec]
      rfl
    rw [e2]
    unfold fo
    rw [Option.map_map]
    rfl
  have ll : (((enc r).filter fun a : Int × Str => !decide (a.2 = lt (colOf r p))).map fun a : Int × Str => a.2).length ≤ 60 := by
    rw [List.length_map]
    refine Nat.le_trans (List.length_filter_le _ _) ?_
    rw [enc_len]
    exact n2
  refine be (catF_ok (by show _ + 1 ≤ LIM; unfold LIM; omega)) ?_
  refine be (x := lt ((fo r (colOf r p)).getD (colOf r p))) (ix_head ?_) ?_
  · generalize ((enc r).filter fun a : Int × Str => !decide (a.2 = lt (colOf r p))).map (fun a : Int × Str => a.2) = l at hh
    cases l with
    | nil =>
      cases hfo : fo r (colOf r p) with
      | none => rfl
      | some d => rw [hfo] at hh; cases hh
    | cons y l =>
      cases hfo : fo r (colOf r p) with
      | none => rw [hfo] at hh; cases hh
      | some d => rw [hfo] at hh; exact hh
  refine be (compL_filt (q := fun a : Int × Str => !decide (a.1 = (p : Int))) (g := fun a : Int × Str => a) (by rw [enc_len]; unfold LIM; omega) fun x _ => by cases decide (x.1 = (p : Int)) <;> rfl) ?_
  rw [List.map_id']
  have e3 : (enc r).filter (fun a : Int × Str => !decide (a.1 = (p : Int))) = enc (r.filter fun e => e.1 != p) := by
    show List.filter _ (r.map eRow) = _
    rw [List.filter_map]
    congr 1
    apply List.filter_congr
    intro e _
    show (!decide ((e.1 : Int) = (p : Int))) = _
    rw [Bool.eq_iff_iff]
    simp
    omega
  rw [e3]
  refine be (catF_ok (by
    have := List.length_filter_le (fun e : Nat × Nat => e.1 != p) r
    rw [enc_len]
    show 1 + _ ≤ LIM
    unfold LIM
    omega)) ?_
  rfl
end LQF

namespace LQ
open PySem L2 LX
section
variable {α : Type} [DecidableEq α]
theorem any_eqv {n : Nat} {e : α → PyData} {ok : α → Prop} (h : EqE n e ok) {x : α} (hx : ok x) : ∀ {l : List α}, (∀ y ∈ l, ok y) → ((l.map e).any fun z => PyData.eqv z (e x)) = decide (x ∈ l)
  | [], _ => by simp
  | y :: l, hl => by
    rw [List.map_cons, List.any_cons, any_eqv h hx fun z hz => hl z (List.mem_cons_of_mem _ hz), h.eq y x (hl y List.mem_cons_self) hx]
    by_cases c : y = x
    · rw [decide_eq_true c, decide_eq_true (show x ∈ y :: l by rw [c]; exact List.mem_cons_self)]
      rfl
    · rw [decide_eq_false c, Bool.false_or, decide_eq_decide, List.mem_cons]
      exact ⟨Or.inr, fun z => z.resolve_left fun w => c w.symm⟩
theorem EqE.okD {n : Nat} {e : α → PyData} {ok : α → Prop} (h : EqE n e ok) (z : n ≤ 64) {x : α} (hx : ok x) : LQ.okD (e x) = true := by
  have h1 := h.sd x hx
  unfold LQ.okD
  rw [h1.shaped z, PyData.hasDict_of_canLay _ h1.lay]
  rfl
theorem EqE.inD {n : Nat} {e : α → PyData} {ok : α → Prop} (h : EqE n e ok) (z : n + 1 ≤ 64) {x : α} {l : List α} (hx : ok x) (hl : ∀ y ∈ l, ok y) : inDF (e x) (l.map e) = some (decide (x ∈ l)) := by
  unfold inDF
  rw [h.okD (by omega) hx, (EqE.list h).okD z hl, any_eqv h hx hl]
  rfl
theorem EqE.inY {n : Nat} {e : α → PyData} {ok : α → Prop} (h : EqE n e ok) (z : n + 1 ≤ 64) {x : α} {l : List α} (hx : ok x) (hl : ∀ y ∈ l, ok y) (m : x ∈ l) : inDF (e x) (l.map e) = some true := by rw [h.inD z hx hl, decide_eq_true m]
theorem EqE.inN {n : Nat} {e : α → PyData} {ok : α → Prop} (h : EqE n e ok) (z : n + 1 ≤ 64) {x : α} {l : List α} (hx : ok x) (hl : ∀ y ∈ l, ok y) (m : x ∉ l) : inDF (e x) (l.map e) = some false := by rw [h.inD z hx hl, decide_eq_false m]
end
end LQ

namespace LX
open PySem L2
/-- rows that are not seen yet -/
def addN (s : List Row × List Row) (y : Row) : List Row × List Row := if y ∈ s.2 then s else (s.1 ++ [y], s.2 ++ [y])
theorem addN_yes {s : List Row × List Row} {y : Row} (h : y ∈ s.2) : addN s y = s := if_pos h
theorem addN_no {s : List Row × List Row} {y : Row} (h : y ∉ s.2) : addN s y = (s.1 ++ [y], s.2 ++ [y]) := if_neg h
structure Add (s : List Row × List Row) (ys : List Row) (a : List Row × List Row) : Prop where
  up : ∀ z ∈ s.2, z ∈ a.2
  in1 : ∀ z ∈ a.1, z ∈ s.1 ∨ z ∈ ys
  in2 : ∀ z ∈ a.2, z ∈ s.2 ∨ z ∈ ys
  all : ∀ y ∈ ys, y ∈ a.2
  new : ∀ z ∈ a.2, z ∈ s.2 ∨ z ∈ a.1
  up1 : ∀ z ∈ s.1, z ∈ a.1
  l1 : a.1.length ≤ s.1.length + ys.length
  l2 : a.2.length ≤ s.2.length + ys.length
theorem add_all : ∀ (ys : List Row) (s : List Row × List Row), Add s ys (ys.foldl addN s)
  | [], s => ⟨fun _ h => h, fun _ h => Or.inl h, fun _ h => Or.inl h, (fun _ h => nomatch h), fun _ h => Or.inl h, fun _ h => h, Nat.le_refl _, Nat.le_refl _⟩
  | y :: ys, s => by
    have ih := add_all ys (addN s y)
    rw [List.foldl_cons]
    by_cases c : y ∈ s.2
    · rw [addN_yes c] at ih ⊢
      have q1 := ih.l1
      have q2 := ih.l2
      refine ⟨ih.up, fun z h => (ih.in1 z h).imp id (List.mem_cons_of_mem _), fun z h => (ih.in2 z h).imp id (List.mem_cons_of_mem _), fun z h => ?_, ih.new, ih.up1, by rw [List.length_cons]; omega, by rw [List.length_cons]; omega⟩
      rcases List.mem_cons.mp h with e | e
      · rw [e]; exact ih.up _ c
      · exact ih.all z e
    · rw [addN_no c] at ih ⊢
      refine ⟨fun z h => ih.up z (List.mem_append_left _ h), fun z h => ?_, fun z h => ?_, fun z h => ?_, fun z h => ?_, fun z h => ih.up1 z (List.mem_append_left _ h), ?_, ?_⟩
      · rcases ih.in1 z h with e | e
        · rcases List.mem_append.mp e with e | e
          · exact Or.inl e
          · exact Or.inr (by rw [List.mem_singleton.mp e]; exact List.mem_cons_self)
        · exact Or.inr (List.mem_cons_of_mem _ e)
      · rcases ih.in2 z h with e | e
        · rcases List.mem_append.mp e with e | e
          · exact Or.inl e
          · exact Or.inr (by rw [List.mem_singleton.mp e]; exact List.mem_cons_self)
        · exact Or.inr (List.mem_cons_of_mem _ e)
      · rcases List.mem_cons.mp h with e | e
        · rw [e]; exact ih.up _ (List.mem_append_right _ (List.mem_singleton.mpr rfl))
        · exact ih.all z e
      · rcases ih.new z h with e | e
        · rcases List.mem_append.mp e with e | e
          · exact Or.inl e
          · exact Or.inr (ih.up1 z (List.mem_append_right _ e))
        · exact Or.inr e
      · have := ih.l1
        rw [List.length_append] at this
        rw [List.length_cons]
        have : (s.1.length + [y].length) = s.1.length + 1 := rfl
        omega
      · have := ih.l2
        rw [List.length_append] at this
        rw [List.length_cons]
        have : (s.2.length + [y].length) = s.2.length + 1 := rfl
        omega
end LX
namespace LQF
open PySem L2 LX LQ
theorem eRow_inj {a b : Nat × Nat} (h : eRow a = eRow b) : a = b := by
  have h1 : ((a.1 : Int), lt a.2) = ((b.1 : Int), lt b.2) := h
  injection h1 with h1 h2
  exact Prod.ext (by omega) (lt_inj.mp h2)
theorem enc_inj : ∀ {a b : Row}, enc a = enc b → a = b
  | [], [], _ => rfl
  | [], _ :: _, h => by cases h
  | _ :: _, [], h => by cases h
  | x :: a, y :: b, h => by
    have h : eRow x :: enc a = eRow y :: enc b := h
    injection h with h1 h2
    rw [eRow_inj h1, enc_inj h2]
abbrev encS (l : List Row) : List (List (Int × Str) × Bool) := l.map fun x => (enc x, true)
theorem has_S (l : List Row) (y : Row) : dhas (encS l) (enc y) = decide (y ∈ l) := by
  unfold dhas dget
  rw [Option.isSome_map, Bool.eq_iff_iff, List.find?_isSome, decide_eq_true_iff]
  constructor
  · rintro ⟨p, hp, e⟩
    obtain ⟨x, hx, rfl⟩ := List.mem_map.mp hp
    rw [← enc_inj (of_decide_eq_true e)]
    exact hx
  · exact fun h => ⟨_, List.mem_map_of_mem h, decide_eq_true rfl⟩
theorem put_S {l : List Row} {y : Row} (h : y ∉ l) (z : l.length < LIM) : dputF (encS l) (enc y) true = some (encS (l ++ [y])) := by
  unfold dputF dput
  rw [decide_eq_true (by rw [List.length_map]; exact z), if_neg]
  · show some (List.map (fun x => (enc x, true)) l ++ [(enc y, true)]) = some (List.map (fun x => (enc x, true)) (l ++ [y]))
    rw [List.map_append]
    rfl
  · intro c
    obtain ⟨p, hp, e⟩ := List.any_eq_true.mp c
    obtain ⟨x, hx, rfl⟩ := List.mem_map.mp hp
    exact h (by rw [← enc_inj (of_decide_eq_true e)]; exact hx)
abbrev encP (s : List Row × List Row) : List (List (Int × Str)) × List (List (Int × Str) × Bool) := (s.1.map enc, encS s.2)
abbrev stepB (x : List (Int × Str)) : Int → (List (List (Int × Str)) × List (List (Int × Str) × Bool)) → Option (List (List (Int × Str)) × List (List (Int × Str) × Bool)) := fun (a907 : Int) (s908 : ((List (List (Int × Str))) × (List ((List (Int × Str)) × Bool)))) => (F__law_after x a907).bind fun y932 =>
cond (!(dhas s908.2 y932)) ((dputF s908.2 y932 true).bind fun l962 =>
(appF s908.1 y932).bind fun l968 =>
some (l968, l962)) (some (s908.1, s908.2))
theorem m_addB {x : Row} (V : Vr x) {p : Nat} (hp : p < x.length) {s : List Row × List Row} (z : s.1.length < LIM) (z2 : s.2.length < LIM) : stepB (enc x) (p : Int) (encP s) = some (encP (addN s (app x p))) := by
  refine be (m_law_after V hp) ?_
  show cond (!(dhas (encS s.2) (enc (app x p)))) _ _ = _
  rw [has_S]
  by_cases c : app x p ∈ s.2
  · rw [decide_eq_true c, addN_yes c]
    rfl
  · rw [decide_eq_false c, addN_no c]
    refine be (put_S c z2) (be (appF_ok (by rw [List.length_map]; exact z)) ?_)
    show some _ = some (List.map enc (s.1 ++ [app x p]), _)
    rw [List.map_append]
    rfl
theorem m_row {x : Row} (V : Vr x) : ∀ (ps : List Nat) (s : List Row × List Row), (∀ p ∈ ps, p < x.length) → s.1.length + ps.length < LIM → s.2.length + ps.length < LIM → loopF (stepB (enc x)) (nI ps) (encP s) = some (encP ((ps.map (app x)).foldl addN s))
  | [], _, _, _, _ => rfl
  | p :: ps, s, h, z, z2 => by
    rw [List.length_cons] at z z2
    show Option.bind (stepB (enc x) (p : Int) (encP s)) _ = _
    rw [m_addB V (h p List.mem_cons_self) (by omega) (by omega)]
    have a := add_all [app x p] s
    have a1 := a.l1
    have a2 := a.l2
    exact m_row V ps (addN s (app x p)) (fun q hq => h q (List.mem_cons_of_mem _ hq)) (by have a1 : (addN s (app x p)).1.length ≤ s.1.length + 1 := a1; omega) (by have a2 : (addN s (app x p)).2.length ≤ s.2.length + 1 := a2; omega)
abbrev nexts (n : Nat) (lay : List Row) : List Row := lay.flatMap fun x => (List.range n).map (app x)
theorem m_layer {n : Nat} (hn : n ≤ 60) : ∀ (lay : List Row) (s : List Row × List Row), (∀ x ∈ lay, Vr x ∧ x.length = n) → s.1.length + lay.length * n < LIM → s.2.length + lay.length * n < LIM →
    loopF (fun (a874 : (List (Int × Str))) (s875 : ((List (List (Int × Str))) × (List ((List (Int × Str)) × Bool)))) => (rngF (0 : Int) (n : Int)).bind fun l905 =>
(loopF (stepB a874) l905 (s875.1, s875.2)).bind fun r929 =>
some (r929.1, r929.2)) (lay.map enc) (encP s) = some (encP ((nexts n lay).foldl addN s))
  | [], _, _, _, _ => rfl
  | x :: lay, s, h, z, z2 => by
    rw [List.length_cons, Nat.add_mul, Nat.one_mul] at z z2
    obtain ⟨V, xl⟩ := h x List.mem_cons_self
    have e := m_row V (List.range n) s (fun p hp => by rw [xl]; exact List.mem_range.mp hp) (by rw [List.length_range]; omega) (by rw [List.length_range]; omega)
    have a := add_all ((List.range n).map (app x)) s
    have a1 := a.l1
    have a2 := a.l2
    rw [List.length_map, List.length_range] at a1 a2
    refine be (x := encP (((List.range n).map (app x)).foldl addN s)) (be (rngF_ok (by decide) (by decide) (by omega) (by omega)) (by
      rw [rgI_nat]
      exact be e rfl)) ?_
    have := m_layer hn lay (((List.range n).map (app x)).foldl addN s) (fun y hy => h y (List.mem_cons_of_mem _ hy)) (by omega) (by omega)
    refine this.trans ?_
    rw [← List.foldl_append]
    rfl
end LQF

namespace LX
open PySem L2
end LX
namespace LQF
open PySem L2 LX LQ
theorem goal_sub {r r' : Row} (sub : ∀ c ∈ lets r', c ∈ lets r) {cs : List Nat} (h : goal r cs = none) : goal r' cs = none := by
  cases e : goal r' cs with
  | none => rfl
  | some g =>
    have m := goal_mem e
    obtain ⟨g', e'⟩ := goal_some (sub g m.1) m.2
    rw [h] at e'
    cases e'
theorem lets_app {r : Row} (V : Vr r) {p : Nat} (hp : p < r.length) : ∀ c ∈ lets (app r p), c ∈ lets r := fun c hc => by
  have hc0 : colOf r p ∈ lets r := mem_lets.mpr ⟨_, colOf_mem (V.has hp), rfl⟩
  have ea : app r p = (p, (fo r (colOf r p)).getD (colOf r p)) :: r.filter fun e => e.1 != p := rfl
  rw [ea] at hc
  obtain ⟨e, he, rfl⟩ := mem_lets.mp hc
  rcases List.mem_cons.mp he with z | z
  · rw [z]
    show (fo r (colOf r p)).getD (colOf r p) ∈ lets r
    cases h : fo r (colOf r p) with
    | none => exact hc0
    | some t => exact (fo_lets h).1
  · exact mem_lets.mpr ⟨e, (List.mem_filter.mp z).1, rfl⟩
/-- the fewest calls that r needs -/
def Num (cs : List Nat) (r : Row) (d : Int) : Prop := ∃ f g, Gv r f ∧ goal r cs = some g ∧ d = f g + outN r cs
/-- no fewer than d calls help -/
def Low (cs : List Nat) (r : Row) (d : Int) : Prop := goal r cs = none ∨ ∃ e, Num cs r e ∧ d ≤ e
theorem gv_one {r : Row} {f f' : Nat → Int} (h : Gv r f) (h' : Gv r f') {g : Nat} (hg : g ∈ lets r) : f g = f' g := by
  obtain ⟨j, hj⟩ := List.getElem?_of_mem hg
  obtain ⟨p, ip, e⟩ := best_is h j g hj
  obtain ⟨p', ip', e'⟩ := best_is h' j g hj
  have a := best_ge h ip' hg
  have b := best_ge h' ip hg
  omega
theorem Num.one {cs : List Nat} {r : Row} {d e : Int} (h : Num cs r d) (h' : Num cs r e) : d = e := by
  obtain ⟨f, g, a, b, c⟩ := h
  obtain ⟨f', g', a', b', c'⟩ := h'
  rw [b] at b'
  cases b'
  have := gv_one a a' (goal_mem b).1
  omega
theorem Low.call {cs : List Nat} {r : Row} {d : Int} (V : Vr r) (h : Low cs r d) {p : Nat} (hp : p < r.length) : Low cs (app r p) (d - 1) := by
  rcases h with h | ⟨e, ⟨f, g, gv, hg, ee⟩, le⟩
  · exact Or.inl (goal_sub (lets_app V hp) h)
  · cases hg' : goal (app r p) cs with
    | none => exact Or.inl hg'
    | some g' =>
      obtain ⟨f', gv', _⟩ := m_values (V.app hp)
      have := call_lowers V hp gv gv' hg hg'
      exact Or.inr ⟨_, ⟨f', g', gv', hg', rfl⟩, by omega⟩
theorem Low.down {cs : List Nat} {r : Row} {d e : Int} (h : Low cs r d) (z : e ≤ d) : Low cs r e := h.imp id fun ⟨x, a, b⟩ => ⟨x, a, by omega⟩
theorem Num.helps {cs : List Nat} {r : Row} {d : Int} (V : Vr r) (h : Num cs r d) (pos : 0 < d) : ∃ p, p < r.length ∧ Num cs (app r p) (d - 1) := by
  obtain ⟨f, g, gv, hg, e⟩ := h
  have hF : ∃ F : Nat → Nat → Int, ∀ p, p < r.length → Gv (app r p) (F p) := by
    refine ⟨fun p => if h : p < r.length then (m_values (V.app h)).choose else fun _ => 0, fun p hp => ?_⟩
    simp only [dif_pos hp]
    exact (m_values (V.app hp)).choose_spec.1
  obtain ⟨F, hF⟩ := hF
  obtain ⟨p, hp, g', hg', le⟩ := call_helps V gv hF hg (by omega)
  have ge := call_lowers V hp gv (hF p hp) hg hg'
  exact ⟨p, hp, F p, g', hF p hp, hg', by omega⟩
/-- all wear colors of the set -/
def Done (cs : List Nat) (r : Row) : Prop := ∀ e ∈ r, e.2 ∈ cs
theorem done_out {cs : List Nat} {r : Row} : outN r cs = 0 ↔ Done cs r := by
  unfold outN Done
  constructor
  · intro h e he
    have : (r.filter fun e => !decide (e.2 ∈ cs)) = [] := List.length_eq_zero_iff.mp (by omega)
    have := List.filter_eq_nil_iff.mp this e he
    simpa using this
  · intro h
    rw [List.filter_eq_nil_iff.mpr fun e he => by simp [h e he]]
    rfl
theorem Num.zero {cs : List Nat} {r : Row} {d : Int} (h : Num cs r d) : d = 0 ↔ Done cs r := by
  obtain ⟨f, g, gv, hg, e⟩ := h
  rw [e, need_zero gv hg, done_out]
theorem Low.done {cs : List Nat} {r : Row} {d : Int} (V : Vr r) (h : Low cs r d) (dn : Done cs r) : d ≤ 0 := by
  rcases h with h | ⟨e, n, le⟩
  · exfalso
    obtain ⟨q, hq, _⟩ := V.has (q := 0) (by have := V.n1; omega)
    obtain ⟨g, hg⟩ := goal_some (mem_lets.mpr ⟨q, hq, rfl⟩) (dn q hq)
    rw [h] at hg
    cases hg
  · have := n.zero.mpr dn
    omega
end LQF

namespace LQF
open PySem L2 LX LQ
/-- all wear the color of the front -/
def Same1 (x : Row) : Prop := ∀ e ∈ x, ∀ f, x.head? = some f → e.2 = f.2
instance (x : Row) : Decidable (Same1 x) := by
  cases x with
  | nil => exact .isTrue fun _ h => nomatch h
  | cons y l =>
    refine decidable_of_iff (∀ e ∈ y :: l, e.2 = y.2) ⟨fun h e he f hf => ?_, fun h e he => h e he y rfl⟩
    rw [← Option.some.inj hf]
    exact h e he
theorem same1_done {x : Row} (V : Vr x) : Same1 x ↔ ∃ c, Done [c] x := by
  obtain ⟨y, l, e⟩ : ∃ y l, x = y :: l := by
    cases x with
    | nil => exact absurd V.n1 (by decide)
    | cons y l => exact ⟨y, l, rfl⟩
  subst e
  constructor
  · intro h
    exact ⟨y.2, fun e he => by rw [h e he y rfl]; exact List.mem_singleton.mpr rfl⟩
  · rintro ⟨c, h⟩ e he f hf
    rw [← Option.some.inj hf, List.mem_singleton.mp (h e he), List.mem_singleton.mp (h y List.mem_cons_self)]
theorem m_done1 {x : Row} (V : Vr x) {B : Type} {c1 c2 : B} : ((compL (fun (a753 : (Int × Str)) => some (some a753.2)) (enc x)).bind fun l775 =>
(compL (fun (a794 : Str) => (cond (!(decide ((Str.ofString "") = (Str.ofString "")))) (some (Str.ofString "")) ((ix l775 (0 : Int)).bind fun y818 =>
some y818)).bind fun y825 =>
(inSF a794 y825).bind fun b832 =>
cond (!b832) (some (some a794)) (some none)) l775).bind fun l834 =>
(eqvF ((eL eS) l834) ((eL eS) ([] : (List Str)))).bind fun b855 =>
cond b855 (some c1) (some c2)) = some (if Same1 x then c1 else c2) := by
  have n2 := V.n2
  obtain ⟨y, l, e⟩ : ∃ y l, x = y :: l := by
    cases x with
    | nil => exact absurd V.n1 (by decide)
    | cons y l => exact ⟨y, l, rfl⟩
  refine be (compL_map (g := fun a : Int × Str => a.2) (by rw [enc_len]; unfold LIM; omega) fun _ _ => rfl) ?_
  have e2 : (enc x).map (fun a : Int × Str => a.2) = (x.map (·.2)).map lt := by
    show List.map _ (List.map _ x) = List.map _ (List.map _ x)
    rw [List.map_map, List.map_map]
    rfl
  rw [e2]
  have i0 : ix ((x.map (·.2)).map lt) (0 : Int) = some (txt [y.2]) := by rw [e]; exact ix_int (by decide) rfl
  refine be (compL_filt (q := fun s : Str => match s.cps.toList with | [c] => !decide (c ∈ [y.2]) | _ => false) (g := fun s => s) (by rw [List.length_map, List.length_map]; unfold LIM; omega) fun s hs => by
    obtain ⟨c, hc, rfl⟩ := List.mem_map.mp hs
    rw [decide_eq_true rfl]
    refine be (x := txt [y.2]) (be i0 rfl) (be (in_txt c [y.2]) ?_)
    show cond (!decide (c ∈ [y.2])) _ _ = some (if (!decide (c ∈ [y.2])) = true then _ else _)
    cases decide (c ∈ [y.2]) <;> rfl) ?_
  have ef : (((x.map (·.2)).map lt).filter (fun s : Str => match s.cps.toList with | [c] => !decide (c ∈ [y.2]) | _ => false)).map (fun s => s) = ((x.filter fun e => !decide (e.2 ∈ [y.2])).map (·.2)).map lt := by
    rw [List.map_id', List.map_map, List.filter_map, List.map_map]
    rfl
  rw [ef]
  have q := (EqE.list EqE.str).run (by decide) (x := ((x.filter fun e => !decide (e.2 ∈ [y.2])).map (·.2)).map lt) (y := ([] : List Str)) (fun s hs => by
    obtain ⟨c, hc, rfl⟩ := List.mem_map.mp hs
    obtain ⟨e, he, rfl⟩ := List.mem_map.mp hc
    exact strOk_lt (V.col e (List.mem_filter.mp he).1).2) (fun _ h => nomatch h)
  refine be q ?_
  cases hf : x.filter fun e => !decide (e.2 ∈ [y.2]) with
  | nil =>
    rw [if_pos]
    · rfl
    · intro a ha f hff
      rw [e] at hff
      rw [← Option.some.inj hff]
      have := List.filter_eq_nil_iff.mp hf a ha
      simpa using this
  | cons z l' =>
    rw [decide_eq_false (fun w => by cases w), if_neg]
    · rfl
    · intro h
      have hz : z ∈ x.filter fun e => !decide (e.2 ∈ [y.2]) := by rw [hf]; exact List.mem_cons_self
      obtain ⟨h1, h2⟩ := List.mem_filter.mp hz
      have := h z h1 y (by rw [e]; rfl)
      rw [this] at h2
      simp at h2
structure BInv1 (c0 n D m : Nat) (lay seen : List Row) : Prop where
  vr : ∀ x ∈ lay, Vr x ∧ x.length = n
  low : ∀ x ∈ lay, ∀ c, Low [c] x ((D : Int) - m)
  slow : ∀ x ∈ seen, ∀ c, Low [c] x ((D : Int) - m)
  hit : ∃ x ∈ lay, Num [c0] x ((D : Int) - m)
  ll : lay.length ≤ 4 ^ m
  sl : seen.length ≤ 4 ^ (m + 1)
theorem binv1_next {c0 n D m : Nat} {lay seen : List Row} (h : BInv1 c0 n D m lay seen) (md : m < D) (n4 : n ≤ 4) : BInv1 c0 n D (m + 1) ((nexts n lay).foldl addN ([], seen)).1 ((nexts n lay).foldl addN ([], seen)).2 := by
  have a := add_all (nexts n lay) ([], seen)
  have mem : ∀ z ∈ nexts n lay, ∃ x ∈ lay, ∃ p, p < n ∧ z = app x p := fun z hz => by
    obtain ⟨x, hx, hz⟩ := List.mem_flatMap.mp hz
    obtain ⟨p, hp, e⟩ := List.mem_map.mp hz
    exact ⟨x, hx, p, List.mem_range.mp hp, e.symm⟩
  have nl : (nexts n lay).length ≤ lay.length * 4 := by
    clear mem a h
    induction lay with
    | nil => exact Nat.zero_le _
    | cons x lay ih =>
      show (((List.range n).map (app x)) ++ nexts n lay).length ≤ _
      rw [List.length_append, List.length_map, List.length_range, List.length_cons]
      omega
  have sub : ((D : Int) - (m + 1 : Nat)) = (D : Int) - m - 1 := by omega
  have lowN : ∀ z ∈ nexts n lay, ∀ c, Low [c] z ((D : Int) - (m + 1 : Nat)) := fun z hz c => by
    obtain ⟨x, hx, p, hp, e⟩ := mem z hz
    obtain ⟨V, xl⟩ := h.vr x hx
    rw [e, sub]
    exact (h.low x hx c).call V (by omega)
  have pw : 4 ^ (m + 1) = 4 * 4 ^ m := by rw [Nat.pow_succ, Nat.mul_comm]
  have pw2 : 4 ^ (m + 1 + 1) = 4 * 4 ^ (m + 1) := by rw [Nat.pow_succ, Nat.mul_comm]
  have l1 := a.l1
  have l2 := a.l2
  have hl := h.ll
  have hs := h.sl
  have l1 : ((nexts n lay).foldl addN ([], seen)).1.length ≤ 0 + (nexts n lay).length := l1
  have l2 : ((nexts n lay).foldl addN ([], seen)).2.length ≤ seen.length + (nexts n lay).length := l2
  refine ⟨fun z hz => ?_, fun z hz => ?_, fun z hz => ?_, ?_, by omega, by omega⟩
  · rcases a.in1 z hz with e | e
    · cases e
    · obtain ⟨x, hx, p, hp, e⟩ := mem z e
      obtain ⟨V, xl⟩ := h.vr x hx
      rw [e]
      exact ⟨V.app (by omega), by rw [app_len V (by omega)]; exact xl⟩
  · rcases a.in1 z hz with e | e
    · cases e
    · exact lowN z e
  · rcases a.in2 z hz with e | e
    · exact fun c => (h.slow z e c).down (by omega)
    · exact lowN z e
  · obtain ⟨x, hx, nx⟩ := h.hit
    obtain ⟨V, xl⟩ := h.vr x hx
    obtain ⟨p, hp, np⟩ := nx.helps V (by omega)
    have hm : app x p ∈ nexts n lay := List.mem_flatMap.mpr ⟨x, hx, List.mem_map.mpr ⟨p, List.mem_range.mpr (by omega), rfl⟩⟩
    rw [← sub] at np
    refine ⟨app x p, ?_, np⟩
    rcases a.new _ (a.all _ hm) with e | e
    · exfalso
      rcases h.slow _ e c0 with u | ⟨d, nd, le⟩
      · obtain ⟨f, g, _, hg, _⟩ := np
        rw [u] at hg
        cases hg
      · have := np.one nd
        omega
    · exact e
end LQF

namespace LQF
open PySem L2 LX LQ
theorem idx_lt {l : List Nat} {i c : Nat} (nd : l.Nodup) (h : l[i]? = some c) : idxF (l.map lt) (lt c) = some (i : Int) := by
  have il := (List.getElem?_eq_some_iff.mp h).1
  have hi := (List.getElem?_eq_some_iff.mp h).2
  unfold idxF
  have : (l.map lt).findIdx? (fun a => decide (a = lt c)) = some i := by
    rw [List.findIdx?_eq_some_iff_getElem]
    refine ⟨by rw [List.length_map]; exact il, by rw [List.getElem_map, hi]; exact decide_eq_true rfl, fun j hj => ?_⟩
    rw [List.getElem_map]
    have : l[j]'(by omega) ≠ c := fun z => by
      have e1 : l[j]? = some c := by rw [List.getElem?_eq_getElem (by omega), z]
      have := (List.getElem?_inj (by omega) nd).mp (e1.trans h.symm)
      omega
    simpa using fun z => this (lt_inj.mp z)
  rw [this]
  rfl
end LQF

namespace LQF
open PySem L2 LX LQ
theorem m_first {r : Row} (V : Vr r) {c : Nat} (h : c ∈ lets r) : F__law_first (enc r) (lt c) = some (plc r c) := by
  have n2 := V.n2
  unfold F__law_first
  refine be (compL_map (g := fun a : Int × Str => a.2) (by rw [enc_len]; unfold LIM; omega) fun _ _ => rfl) ?_
  obtain ⟨e, he, ec⟩ := plc_lt h
  have hl := (List.getElem?_eq_some_iff.mp he).1
  have : idxF ((enc r).map fun a : Int × Str => a.2) (lt c) = some (plc r c) := by
    unfold idxF plc
    have : ((enc r).map fun a : Int × Str => a.2).findIdx? (fun a => decide (a = lt c)) = some (r.findIdx fun e => e.2 == c) := by
      rw [List.findIdx?_eq_some_iff_getElem]
      refine ⟨by rw [List.length_map, enc_len]; exact hl, ?_, fun j hj => ?_⟩
      · rw [List.getElem_map, List.getElem_map]
        have : r[r.findIdx fun e => e.2 == c] = e := (List.getElem?_eq_some_iff.mp he).2
        rw [this]
        exact decide_eq_true (congrArg lt ec)
      · rw [List.getElem_map, List.getElem_map]
        have := List.not_of_lt_findIdx hj
        simp at this
        simpa using fun z => this (lt_inj.mp z)
    rw [this]
    rfl
  exact be this rfl
theorem m_others {r : Row} (V : Vr r) {a d : Nat} : F__law_others (enc r) (plc r d) (lt a) = some (way r a d) := by
  have n2 := V.n2
  unfold F__law_others plc
  rw [cutL_to, show (enc r).take (r.findIdx fun e => e.2 == d) = enc (r.take (r.findIdx fun e => e.2 == d)) from by rw [enc, enc, List.map_take], ← tw_find]
  have tl : (r.takeWhile fun e => e.2 != d).length ≤ 60 := by
    rw [tw_find, List.length_take]
    omega
  refine be (compL_filt (q := fun e : Int × Str => !decide (e.2 = lt a)) (g := fun e => e.2) (by rw [enc_len]; unfold LIM; omega) fun x _ => by cases decide (x.2 = lt a) <;> rfl) ?_
  unfold lenI way wayL
  rw [List.length_map, List.length_map]
  congr 2
  show ((List.map eRow _).filter _).length = _
  rw [List.filter_map, List.length_map]
  congr 1
  apply List.filter_congr
  intro e _
  show (!decide (lt e.2 = lt a)) = (e.2 != a)
  rw [lt_dec]
  by_cases h : e.2 = a
  · rw [decide_eq_true h]; simp [h]
  · rw [decide_eq_false h]; simp [h]
end LQF

namespace LQF
open PySem L2 LX LQ
theorem take_tw {l : List Nat} {i c : Nat} (nd : l.Nodup) (h : l[i]? = some c) : l.takeWhile (fun x => x != c) = l.take i := tw_take nd h
theorem m_reach {r : Row} {f : Nat → Int} (V : Vr r) (h : Gv r f) : F__law_reach (enc r) = some ((lets r).map fun c => (lt c, f c)) := by
  have n2 := V.n2
  have n3 := lets_len r
  unfold F__law_reach
  refine be (m_letters V) ?_
  refine be (x := (lets r).map fun c => (lt c, f c)) ?_ rfl
  obtain ⟨s, es, hs⟩ := ev_loop (f := fun (a738 : Str) (s739 : (List (Str × Int))) => (F__law_first (enc r) a738).bind fun y763 =>
(compL (fun (a778 : Str) => (F__law_others (enc r) y763 a778).bind fun y793 =>
(dget s739 a778).bind fun y803 =>
some (some (y793 + y803))) (dkeys s739)).bind fun l807 =>
((eqvF ((eL eI) l807) ((eL eI) ([] : (List Int)))).bind fun b830 =>
cond (!b830) ((minL l807).bind fun y837 =>
some y837) (some (0 : Int))).bind fun y842 =>
(dputF s739 a738 y842).bind fun l849 =>
some l849) (l := (lets r).map lt) (s := []) (P := fun s => s = (lets r).map fun c => (lt c, f c)) (fun i s => s = ((lets r).take i).map fun c => (lt c, f c)) rfl (fun i x s hi hs => by
    rw [List.getElem?_map] at hi
    obtain ⟨c, hc, rfl⟩ := Option.map_eq_some_iff.mp hi
    have il := (List.getElem?_eq_some_iff.mp hc).1
    have cm := List.mem_of_getElem? hc
    rw [hs]
    refine ev_be (m_first V cm) ?_
    rw [keys_lt]
    refine ev_be (compL_map (g := fun s : Str => match s.cps.toList with | [o] => way r o c + f o | _ => 0) (by rw [List.length_map, List.length_take]; unfold LIM; omega) fun x hx => by
      obtain ⟨o, ho, rfl⟩ := List.mem_map.mp hx
      refine be (m_others V) (be (x := f o) (by rw [dget_lt _ f, if_pos ho]) rfl)) ?_
    have e1 : (((lets r).take i).map lt).map (fun s : Str => match s.cps.toList with | [o] => way r o c + f o | _ => 0) = ((lets r).take i).map fun o => f o + way r o c := by
      rw [List.map_map]
      apply List.map_congr_left
      intro o _
      show way r o c + f o = f o + way r o c
      omega
    rw [e1]
    have fc := h.at hc
    refine ev_be (x := f c) ?_ ?_
    · have q := (EqE.list EqE.int).run (by decide) (x := ((lets r).take i).map fun o => f o + way r o c) (y := ([] : List Int)) (fun _ _ => trivial) (fun _ _ => trivial)
      refine be q ?_
      rw [fc]
      cases ((lets r).take i).map fun o => f o + way r o c with
      | nil => rfl
      | cons y l => rfl
    · refine ev_be (dputF_ok (by rw [List.length_map, List.length_take]; unfold LIM; omega)) ?_
      refine ev_s ?_
      have no : c ∉ (lets r).take i := fun hm => by
        obtain ⟨j, hj⟩ := List.getElem?_of_mem hm
        have jl := (List.getElem?_eq_some_iff.mp hj).1
        rw [List.length_take] at jl
        rw [List.getElem?_take_of_lt (by omega)] at hj
        have := (List.getElem?_inj il (lets_nodup r)).mp (hc.trans hj.symm)
        omega
      rw [dput_new _ f _ _ no, take_of hc, List.map_append]
      rfl) (fun s hs => by rw [hs, List.length_map, List.take_length])
  rw [es, hs]
end LQF

namespace LQF
open PySem L2 LX LQ
theorem lay_find1 (m : Int) : ∀ lay : List Row, (∀ x ∈ lay, Vr x) → loopC (fun (a534 : (List (Int × Str))) (s535 : Unit) => (compL (fun (a562 : (Int × Str)) => some (some a562.2)) a534).bind fun l584 =>
(compL (fun (a603 : Str) => (cond (!(decide ((Str.ofString "") = (Str.ofString "")))) (some (Str.ofString "")) ((ix l584 (0 : Int)).bind fun y627 =>
some y627)).bind fun y634 =>
(inSF a603 y634).bind fun b641 =>
cond (!b641) (some (some a603)) (some none)) l584).bind fun l643 =>
(eqvF ((eL eS) l643) ((eL eS) ([] : (List Str)))).bind fun b664 =>
cond b664 (some (.ret (eI m))) (some (.nx ()))) (lay.map enc) () = some (if ∃ x ∈ lay, Same1 x then .ret (eI m) else .nx ())
  | [], _ => by rw [if_neg (fun ⟨_, h, _⟩ => nomatch h)]; rfl
  | x :: lay, h => by
    have e := m_done1 (h x List.mem_cons_self) (B := Ctl PyData Unit) (c1 := .ret (eI m)) (c2 := .nx ())
    show Option.bind _ _ = _
    refine be e ?_
    by_cases c : Same1 x
    · rw [if_pos c, if_pos ⟨x, List.mem_cons_self, c⟩]
    · rw [if_neg c]
      refine (lay_find1 m lay fun y hy => h y (List.mem_cons_of_mem _ hy)).trans ?_
      congr 1
      by_cases d : ∃ x ∈ lay, Same1 x
      · obtain ⟨y, hy, hz⟩ := d
        rw [if_pos ⟨y, hy, hz⟩, if_pos ⟨y, List.mem_cons_of_mem _ hy, hz⟩]
      · rw [if_neg d, if_neg]
        rintro ⟨y, hy, hz⟩
        rcases List.mem_cons.mp hy with e | e
        · rw [e] at hz; exact c hz
        · exact d ⟨y, e, hz⟩
theorem m_search1 {r : Row} {c0 D : Nat} (V : Vr r) (n4 : r.length ≤ 4) (h : Num [c0] r (D : Int)) (hl : ∀ c, Low [c] r (D : Int)) (d7 : D ≤ 7) : F__law_search (enc r) (Str.ofString "") = some (eI (D : Int)) := by
  unfold F__law_search
  refine be (x := rgI 0 14) (rngF_ok (by decide) (by decide) (by decide) (by decide)) ?_
  rw [lenI_enc]
  have key : ∀ (k m : Nat) (lay seen : List Row), m + k = D → BInv1 c0 r.length D m lay seen → ∀ (is : List Int), (∀ j, j ≤ k → is[j]? = some ((m + j : Nat) : Int)) →
      loopC (fun (a693 : Int) (s694 : ((List (List (Int × Str))) × (List ((List (Int × Str)) × Bool)))) => (loopC (fun (a534 : (List (Int × Str))) (s535 : Unit) => (compL (fun (a562 : (Int × Str)) => some (some a562.2)) a534).bind fun l584 =>
(compL (fun (a603 : Str) => (cond (!(decide ((Str.ofString "") = (Str.ofString "")))) (some (Str.ofString "")) ((ix l584 (0 : Int)).bind fun y627 =>
some y627)).bind fun y634 =>
(inSF a603 y634).bind fun b641 =>
cond (!b641) (some (some a603)) (some none)) l584).bind fun l643 =>
(eqvF ((eL eS) l643) ((eL eS) ([] : (List Str)))).bind fun b664 =>
cond b664 (some (.ret (eI a693))) (some (.nx ()))) s694.1 ()).bind fun r743_ => ctlK r743_ (fun q => some (.ret q)) fun r743 =>
(loopF (fun (a874 : (List (Int × Str))) (s875 : ((List (List (Int × Str))) × (List ((List (Int × Str)) × Bool)))) => (rngF (0 : Int) (r.length : Int)).bind fun l905 =>
(loopF (stepB a874) l905 (s875.1, s875.2)).bind fun r929 =>
some (r929.1, r929.2)) s694.1 (([] : (List (List (Int × Str)))), s694.2)).bind fun r897 =>
some (.nx (r897.1, r897.2))) is (lay.map enc, encS seen) = some (.ret (eI (D : Int))) := by
    intro k
    induction k with
    | zero =>
      intro m lay seen e B is hi
      have e : m = D := e
      subst e
      cases is with
      | nil => have := hi 0 (Nat.le_refl _); cases this
      | cons i is =>
        have i0 : i = (m : Int) := by have := hi 0 (Nat.le_refl _); exact Option.some.inj this
        subst i0
        obtain ⟨x, hx, nx⟩ := B.hit
        rw [Int.sub_self] at nx
        have := lay_find1 (m : Int) lay fun y hy => (B.vr y hy).1
        rw [if_pos ⟨x, hx, (same1_done (B.vr x hx).1).mpr ⟨c0, nx.zero.mp rfl⟩⟩] at this
        exact be (be this rfl) rfl
    | succ k ih =>
      intro m lay seen e B is hi
      cases is with
      | nil => have := hi 0 (Nat.zero_le _); cases this
      | cons i is =>
        have i0 : i = (m : Int) := by have := hi 0 (Nat.zero_le _); exact Option.some.inj this
        subst i0
        have := lay_find1 (m : Int) lay fun y hy => (B.vr y hy).1
        rw [if_neg] at this
        · have ll := B.ll
          have sl := B.sl
          have p1 : 4 ^ m ≤ 4 ^ 6 := Nat.pow_le_pow_right (by decide) (by omega)
          have p2 : 4 ^ (m + 1) ≤ 4 ^ 7 := Nat.pow_le_pow_right (by decide) (by omega)
          have q1 : (4 : Nat) ^ 6 = 4096 := by decide
          have q2 : (4 : Nat) ^ 7 = 16384 := by decide
          have mul : lay.length * r.length ≤ 4096 * 4 := Nat.mul_le_mul (by omega) n4
          have st := m_layer (n := r.length) (by omega) lay ([], seen) B.vr (by show 0 + _ < LIM; unfold LIM; omega) (by show seen.length + _ < LIM; unfold LIM; omega)
          refine be (be this (be st rfl)) ?_
          exact ih (m + 1) _ _ (by omega) (binv1_next B (by omega) n4) is fun j hj => by
            have := hi (j + 1) (by omega)
            rw [List.getElem?_cons_succ] at this
            rw [this]
            congr 2
            omega
        · rintro ⟨y, hy, hz⟩
          obtain ⟨c, hc⟩ := (same1_done (B.vr y hy).1).mp hz
          have := (B.low y hy c).done (B.vr y hy).1 hc
          omega
  have B0 : BInv1 c0 r.length D 0 [r] [r] := by
    have z : (D : Int) - (0 : Nat) = (D : Int) := by omega
    refine ⟨fun x hx => by rw [List.mem_singleton.mp hx]; exact ⟨V, rfl⟩, fun x hx c => ?_, fun x hx c => ?_, ⟨r, List.mem_singleton.mpr rfl, by rw [z]; exact h⟩, Nat.le_refl 1, (show 1 ≤ 4 by decide)⟩
    · rw [List.mem_singleton.mp hx, z]; exact hl c
    · rw [List.mem_singleton.mp hx, z]; exact hl c
  refine be (key D 0 [r] [r] (Nat.zero_add _) B0 (rgI 0 14) fun j hj => ?_) rfl
  have : j < 14 := by omega
  show (rgI 0 ((14 : Nat) : Int))[j]? = _
  rw [rgI_nat, List.getElem?_map, List.getElem?_range this]
  show some (j : Int) = some ((0 + j : Nat) : Int)
  rw [Nat.zero_add]
theorem num_small {r : Row} {cs : List Nat} {f : Nat → Int} {g : Nat} (V : Vr r) (n4 : r.length ≤ 4) (h : Gv r f) (hg : goal r cs = some g) : 0 ≤ f g + outN r cs ∧ f g + outN r cs ≤ 7 := by
  have gm := (goal_mem hg).1
  obtain ⟨j, hj⟩ := List.getElem?_of_mem gm
  have jl := (List.getElem?_eq_some_iff.mp hj).1
  have h0 : (lets r)[0]? = some ((lets r)[0]'(by omega)) := List.getElem?_eq_getElem _
  generalize (lets r)[0]'(by omega) = c at h0
  have z := h.zero h0
  have mono := h.mono j 0 c g h0 hj (Nat.zero_le _)
  have o1 : 0 ≤ outN r cs := by unfold outN; omega
  have o2 : outN r cs ≤ 4 := by
    unfold outN
    have := List.length_filter_le (fun e : Nat × Nat => !decide (e.2 ∈ cs)) r
    omega
  have wl : way r c g ≤ 3 := by
    unfold way wayL
    rw [List.length_map, tw_find]
    obtain ⟨e, he, _⟩ := plc_lt gm
    have el := (List.getElem?_eq_some_iff.mp he).1
    have := List.length_filter_le (fun e : Nat × Nat => e.2 != c) (r.take (r.findIdx fun e => e.2 == g))
    rw [List.length_take] at this
    omega
  have fg : f g ≤ 3 := by
    by_cases j0 : j = 0
    · subst j0
      rw [h0] at hj
      rw [← Option.some.inj hj, z]
      decide
    · have := h.step h0 hj (by omega)
      omega
  omega
theorem m_kept2 {r s : Row} (V : Vr r) (W : Vr s) : ∃ t, reprF (.list [eRows (enc r), eRows (enc s)]) = some t := by
  refine ⟨_, m_repr (n := 3) (m := 2 * (4980 + 1)) ?_ (by decide) (by decide)⟩
  have := Sh.list (B := 13) (n := 2) (m := 4980) (xs := [eRows (enc r), eRows (enc s)]) fun x hx => by
    rcases List.mem_cons.mp hx with e | hx
    · rw [e]; exact sh_enc V
    · rw [List.mem_singleton.mp hx]; exact sh_enc W
  exact this
theorem lets_pos {r : Row} (V : Vr r) : 0 < (lets r).length := by
  cases e : r with
  | nil => have := V.n1; rw [e] at this; exact absurd this (by decide)
  | cons x xs =>
    have : x.2 ∈ lets (x :: xs) := mem_lets.mpr ⟨x, List.mem_cons_self, rfl⟩
    cases h : lets (x :: xs) with
    | nil => rw [h] at this; cases this
    | cons => exact Nat.succ_pos _
theorem goal_one {r : Row} {c : Nat} (h : c ∈ lets r) : goal r [c] = some c := by
  obtain ⟨g, hg⟩ := goal_some h (cs := [c]) List.mem_cons_self
  have e : g = c := List.mem_singleton.mp (goal_mem hg).2
  rw [e] at hg
  exact hg
/-- the cheapest color's cost -/
theorem least_one {r : Row} {f : Nat → Int} (V : Vr r) : ∃ m, minL ((lets r).map fun c => f c + outN r [c]) = some m ∧ (∃ c ∈ lets r, m = f c + outN r [c]) ∧ ∀ c ∈ lets r, m ≤ f c + outN r [c] := by
  have np := lets_pos V
  cases h : (lets r).map fun c => f c + outN r [c] with
  | nil =>
    have := congrArg List.length h
    rw [List.length_map, List.length_nil] at this
    omega
  | cons x xs =>
    obtain ⟨a, b, c⟩ := foldmin xs x
    have mem : xs.foldl min x ∈ (lets r).map fun c => f c + outN r [c] := by
      rw [h]
      rcases a with a | a
      · rw [a]; exact List.mem_cons_self
      · exact List.mem_cons_of_mem _ a
    obtain ⟨c0, hc0, e0⟩ := List.mem_map.mp mem
    refine ⟨_, rfl, ⟨c0, hc0, e0.symm⟩, fun d hd => ?_⟩
    have : f d + outN r [d] ∈ x :: xs := by
      rw [← h]
      exact List.mem_map.mpr ⟨d, hd, rfl⟩
    rcases List.mem_cons.mp this with e | e
    · rw [e]; exact b
    · exact c _ e
theorem m_out {r : Row} (V : Vr r) (cs : List Nat) : ∃ l, F_people_outside (enc r) (txt cs) = some l ∧ lenI l = outN r cs := by
  unfold F_people_outside
  have n2 := V.n2
  refine ⟨_, be (compL_filt (q := fun a : Int × Str => !(match a.2.cps.toList with | [k] => decide (k ∈ cs) | _ => false)) (g := fun a => a.1) (by rw [enc_len]; unfold LIM; omega) (fun x hx => by
    obtain ⟨e, he, rfl⟩ := List.mem_map.mp hx
    show (inSF (lt e.2) (txt cs)).bind _ = _
    rw [in_txt]
    show cond (!decide (e.2 ∈ cs)) _ _ = some (if (!decide (e.2 ∈ cs)) = true then _ else _)
    cases decide (e.2 ∈ cs) <;> rfl)) rfl, ?_⟩
  unfold lenI outN
  rw [List.length_map]
  show ((((r.map eRow).filter _).length : Nat) : Int) = _
  rw [List.filter_map, List.length_map]
  rfl
theorem m_one_color {r : Row} {f : Nat → Int} (V : Vr r) (W : F_greatest_values (enc r) = some ((lets r).map fun c => (lt c, f c))) {m : Int} (hm : minL ((lets r).map fun c => f c + outN r [c]) = some m) : F_fewest_calls_to_one_color (enc r) = some m := by
  have n3 := lets_len r
  have n2 := V.n2
  unfold F_fewest_calls_to_one_color
  refine be (m_check_lineup V) (be W ?_)
  rw [keys_lt]
  refine be (compL_map (g := fun s : Str => (match s.cps.toList with | [c] => f c + outN r [c] | _ => 0)) (by rw [List.length_map]; unfold LIM; omega) fun x hx => by
    obtain ⟨d, hd, rfl⟩ := List.mem_map.mp hx
    obtain ⟨l, h1, h2⟩ := m_out V [d]
    refine be (x := f d) (by rw [dget_lt _ f, if_pos hd]) ?_
    refine be h1 ?_
    rw [h2]
    rfl) ?_
  have e6 : ((lets r).map lt).map (fun s : Str => (match s.cps.toList with | [c] => f c + outN r [c] | _ => 0)) = (lets r).map fun c => f c + outN r [c] := by
    rw [List.map_map]
    rfl
  rw [e6, hm]
  rfl
theorem m_law_out {r : Row} (V : Vr r) (cs : List Nat) : F__law_outside (enc r) (txt cs) = some (outN r cs) := by
  have n2 := V.n2
  unfold F__law_outside
  refine be (compL_filt (q := fun a : Int × Str => !(match a.2.cps.toList with | [k] => decide (k ∈ cs) | _ => false)) (g := fun a => a.2) (by rw [enc_len]; unfold LIM; omega) (fun x hx => by
    obtain ⟨e, he, rfl⟩ := List.mem_map.mp hx
    refine be (in_txt e.2 cs) ?_
    show cond (!decide (e.2 ∈ cs)) _ _ = some (if (!decide (e.2 ∈ cs)) = true then _ else _)
    cases decide (e.2 ∈ cs) <;> rfl)) ?_
  have e : ((enc r).filter fun a : Int × Str => !(match a.2.cps.toList with | [k] => decide (k ∈ cs) | _ => false)) = enc (r.filter fun e => !decide (e.2 ∈ cs)) := by
    unfold enc
    rw [List.filter_map]
    rfl
  rw [e]
  show some (lenI (List.map _ (enc _))) = some (outN r cs)
  congr 1
  unfold lenI outN
  rw [List.length_map, enc_len]
theorem same3 (a : Int) (b : Int) : F__law_same ((eL eI) [a, b, b]) ((eL eA) [eI a, eI b, eI b]) = some true := by
  unfold F__law_same
  rw [show (eL eA) [eI a, eI b, eI b] = (eL eI) [a, b, b] from rfl]
  rw [okSD_list (n := 3) (by show 3 ≤ 1000; decide) fun x _ => okSD_int 2 x]
  rfl
theorem one_zero {r : Row} (V : Vr r) {d : Nat} (all : ∀ e ∈ r, e.2 = d) : F_fewest_calls_to_one_color (enc r) = some 0 := by
  obtain ⟨f, gv, W⟩ := m_values V
  obtain ⟨m, hm, ⟨c, hc, e⟩, _⟩ := least_one (f := f) V
  rw [m_one_color V W hm]
  obtain ⟨x, hx, ex⟩ := mem_lets.mp hc
  have cd : c = d := by rw [← ex]; exact all x hx
  have o : outN r [c] = 0 := by
    unfold outN
    rw [List.filter_eq_nil_iff.mpr]
    · rfl
    · intro y hy
      rw [all y hy, cd]
      simp
  have np := lets_pos V
  have h0 : (lets r)[0]? = some c := by
    have h1 : (lets r)[0]? = some ((lets r)[0]'np) := List.getElem?_eq_getElem _
    obtain ⟨y, hy, ey⟩ := mem_lets.mp (List.mem_of_getElem? h1)
    rw [h1, ← ey, all y hy, cd]
  rw [e, o, gv.zero h0]
  rfl
theorem m_right {k : Nat} {bg ns : List Int} (B : Bg k bg) (hk : k < 2 ^ 57) : Ev (F__law_right ns bg) fun p => p.1 = true := by
  unfold F__law_right
  have q := (EqE.list EqE.int).run (by decide) (x := ns) (y := ([] : List Int)) (fun _ _ => trivial) (fun _ _ => trivial)
  refine ev_be q ?_
  have b01 : 0 ≤ b2I (!decide (ns = [])) ∧ b2I (!decide (ns = [])) ≤ 1 := by
    cases decide (ns = []) <;> decide
  generalize b2I (!decide (ns = [])) = b at b01
  refine ev_b (m_draw B (by omega) (by omega) (by omega)) fun y1 ⟨a0, a1, B1⟩ => ?_
  refine ev_b (m_draw B1 (by decide) (by decide) (by omega)) fun y2 ⟨b0, b1, B2⟩ => ?_
  obtain ⟨n, hn⟩ : ∃ n : Nat, 1 + y1.1 = (n : Int) := ⟨(1 + y1.1).toNat, by omega⟩
  obtain ⟨m, hm⟩ : ∃ m : Nat, 1 + y2.1 = (m : Int) := ⟨(1 + y2.1).toNat, by omega⟩
  rw [hn, hm]
  refine ev_b (m_people B2 (by omega) (by omega) (by omega) (by omega) (by omega)) fun y3 ⟨r, V, e3, rl, _, B3⟩ => ?_
  rw [e3]
  have n4 : r.length ≤ 4 := by omega
  refine ev_b (m_some_people (most := 60) (limit := 26) B3 (by decide) (by decide) (by decide) (by decide) (by omega)) fun y4 ⟨s, W, e4, _, _, B4⟩ => ?_
  rw [e4]
  obtain ⟨t, ht⟩ := m_kept2 V W
  obtain ⟨f, gv, hW⟩ := m_values V
  obtain ⟨f2, gv2, hW2⟩ := m_values W
  have w2 := W.n2
  have w3 := lets_len s
  refine ev_be ht (ev_be (m_reach W gv2) ?_)
  refine ev_be (compL_map (g := fun a : Str × Int => (match a.1.cps.toList with | [c] => outN s [c] | _ => 0) + a.2) (by rw [List.length_map]; unfold LIM; omega) fun x hx => by
    obtain ⟨d, hd, rfl⟩ := List.mem_map.mp hx
    exact be (m_law_out W [d]) rfl) ?_
  have e6 : ((lets s).map fun c => (lt c, f2 c)).map (fun a : Str × Int => (match a.1.cps.toList with | [c] => outN s [c] | _ => 0) + a.2) = (lets s).map fun c => f2 c + outN s [c] := by
    rw [List.map_map]
    refine List.map_congr_left fun c _ => ?_
    show outN s [c] + f2 c = _
    omega
  rw [e6]
  obtain ⟨due, hd, _, _⟩ := least_one (f := f2) W
  obtain ⟨sm, hs, ⟨c0, hc0, es⟩, ls⟩ := least_one (f := f) V
  refine ev_be hd (ev_be (m_one_color V hW hs) (ev_be (m_one_color W hW2 hd) (ev_be (m_one_color W hW2 hd) (ev_be (appF_ok (by show 2 < LIM; decide)) ?_))))
  have sm07 := num_small V n4 gv (goal_one hc0)
  obtain ⟨D, hD⟩ : ∃ D : Nat, sm = (D : Int) := ⟨sm.toNat, by omega⟩
  have sr := m_search1 (c0 := c0) V n4 (D := D) ⟨f, c0, gv, goal_one hc0, by omega⟩ (fun c => by
    cases hg : goal r [c] with
    | none => exact Or.inl hg
    | some g =>
      have e : g = c := List.mem_singleton.mp (goal_mem hg).2
      subst e
      have := ls g (goal_mem hg).1
      exact Or.inr ⟨_, ⟨f, g, gv, hg, rfl⟩, by omega⟩) (by omega)
  refine ev_be sr ?_
  rw [hD]
  refine ev_be (x := true) (same3 (D : Int) due) ?_
  obtain ⟨y, l, er⟩ : ∃ y l, s = y :: l := by
    cases s with
    | nil => exact absurd W.n1 (by decide)
    | cons y l => exact ⟨y, l, rfl⟩
  have i0 : ix (enc s) (0 : Int) = some ((y.1 : Int), lt y.2) := by rw [er]; exact ix_int (by decide) rfl
  rw [Bool.not_true, cond_false]
  refine ev_be (compL_map (l := enc s) (g := fun a : Int × Str => (a.1, lt y.2)) (by rw [enc_len]; unfold LIM; omega) fun x _ => by exact be i0 rfl) ?_
  have e7 : (enc s).map (fun a : Int × Str => (a.1, lt y.2)) = enc (s.map fun e => (e.1, y.2)) := by
    unfold enc
    rw [List.map_map, List.map_map]
    rfl
  rw [e7]
  have V1 : Vr (s.map fun e => (e.1, y.2)) := by
    have yc := W.col y (by rw [er]; exact List.mem_cons_self)
    refine ⟨by rw [List.length_map]; exact W.n1, by rw [List.length_map]; exact W.n2, fun e he => ?_, ?_⟩
    · obtain ⟨z, _, rfl⟩ := List.mem_map.mp he
      exact yc
    · rw [List.map_map, List.length_map]
      exact W.perm
  refine ev_be (x := true) (be (one_zero V1 (d := y.2) fun e he => by
    obtain ⟨z, _, rfl⟩ := List.mem_map.mp he
    rfl) (be (x := true) (by unfold F__law_same; rw [okSD_int 3]; rfl) (be ht ?_))) (ev_s rfl)
  rw [decide_eq_true rfl]
theorem law_true (ns : List Int) (hz : ns.length ≤ 63) : F_law ns = some true := by
  unfold F_law
  have cells : ∃ xs : List Int, F__law_cells ns = some xs ∧ xs.length ≤ 64 := by
    have cl := cutL_len ns none (some (7 : Int))
    unfold F__law_cells
    refine ⟨_, be (catF_ok (by show 1 + _ ≤ LIM; unfold LIM; omega)) rfl, ?_⟩
    rw [List.length_append]
    show 1 + _ ≤ _
    omega
  obtain ⟨xs, e, hl⟩ := cells
  refine be e ?_
  have cl := cutL_len xs none (some (5 : Int))
  refine be_ev (loop_all (P := fun c => c = .nx ()) (fun _ _ => True) trivial (fun i x s hi _ => ?_) fun s _ => rfl) fun c hc => by rw [hc]; rfl
  obtain ⟨h1, h2⟩ := enum_at hi
  have il := (List.getElem?_eq_some_iff.mp h2).1
  rw [h1]
  refine ev_b (m_bag _ i (by omega)) fun b0 B0 => ?_
  refine ev_b (m_right B0 (by omega)) fun v hv => ?_
  rw [hv]
  exact ev_s ⟨(), rfl, trivial⟩
end LQF

namespace K37
open PySem L2 LX LQ
section
variable {P : Program} {w : World} {K : PySem.W.Frag} {mg : Str → Option Value} {base : Heap} {a : Ad}
def sp_law (K : PySem.W.Frag) : Sp := fun vs H Q _ => ∃ (l : Addr) (ns : List Int), vs = [.ref l] ∧ Scr K H l ns ∧ ns.length ≤ 63 ∧ ∀ H', Q (.bl true) H'
theorem ok_law (T : Txt K mg a) : FnG P w K mg base 7 a.f_law a.d_law ["script"] (sp_law K) := (ok_law0 T).imp fun vs H Q E h => by
  obtain ⟨l, ns, rfl, hS, hz, kq⟩ := h
  exact ⟨l, ns, rfl, hS, true, LQF.law_true ns hz, fun _ H' _ => kq H'⟩
end
theorem all_mk {l : PySem.W.OpenLaw} {w : World} {K : PySem.W.Frag} {h : Heap} {mg : Str → Option Value} {fa : Addr} (X : K.In h) (G : h.Ns mainGlobals mg) (hfa : mg "law" = some (.ref fa))
    {f__law_cells : Addr} {od__law_cells an__law_cells : Option Addr} {sl__law_cells : Array (Option Value)} {oc__law_cells kV__law_cells dc__law_cells pm__law_cells cd__law_cells ct__law_cells : Value}
    {f__law_draw : Addr} {od__law_draw an__law_draw : Option Addr} {sl__law_draw : Array (Option Value)} {oc__law_draw kV__law_draw dc__law_draw pm__law_draw cd__law_draw ct__law_draw : Value}
    {f__law_shuffled : Addr} {od__law_shuffled an__law_shuffled : Option Addr} {sl__law_shuffled : Array (Option Value)} {oc__law_shuffled kV__law_shuffled dc__law_shuffled pm__law_shuffled cd__law_shuffled ct__law_shuffled : Value}
    {f__law_people : Addr} {od__law_people an__law_people : Option Addr} {sl__law_people : Array (Option Value)} {oc__law_people kV__law_people dc__law_people pm__law_people cd__law_people ct__law_people : Value}
    {f__law_some_people : Addr} {od__law_some_people an__law_some_people : Option Addr} {sl__law_some_people : Array (Option Value)} {oc__law_some_people kV__law_some_people dc__law_some_people pm__law_some_people cd__law_some_people ct__law_some_people : Value}
    {f_is_integer : Addr} {od_is_integer an_is_integer : Option Addr} {sl_is_integer : Array (Option Value)} {oc_is_integer kV_is_integer dc_is_integer pm_is_integer cd_is_integer ct_is_integer : Value}
    {f_is_color : Addr} {od_is_color an_is_color : Option Addr} {sl_is_color : Array (Option Value)} {oc_is_color kV_is_color dc_is_color pm_is_color cd_is_color ct_is_color : Value}
    {f_is_colored_integer : Addr} {od_is_colored_integer an_is_colored_integer : Option Addr} {sl_is_colored_integer : Array (Option Value)} {oc_is_colored_integer kV_is_colored_integer dc_is_colored_integer pm_is_colored_integer cd_is_colored_integer ct_is_colored_integer : Value}
    {f_is_lineup : Addr} {od_is_lineup an_is_lineup : Option Addr} {sl_is_lineup : Array (Option Value)} {oc_is_lineup kV_is_lineup dc_is_lineup pm_is_lineup cd_is_lineup ct_is_lineup : Value}
    {f_check_lineup : Addr} {od_check_lineup an_check_lineup : Option Addr} {sl_check_lineup : Array (Option Value)} {oc_check_lineup kV_check_lineup dc_check_lineup pm_check_lineup cd_check_lineup ct_check_lineup : Value}
    {f_first_places : Addr} {od_first_places an_first_places : Option Addr} {sl_first_places : Array (Option Value)} {oc_first_places kV_first_places dc_first_places pm_first_places cd_first_places ct_first_places : Value}
    {f_people_in_the_way : Addr} {od_people_in_the_way an_people_in_the_way : Option Addr} {sl_people_in_the_way : Array (Option Value)} {oc_people_in_the_way kV_people_in_the_way dc_people_in_the_way pm_people_in_the_way cd_people_in_the_way ct_people_in_the_way : Value}
    {f_most_allowed : Addr} {od_most_allowed an_most_allowed : Option Addr} {sl_most_allowed : Array (Option Value)} {oc_most_allowed kV_most_allowed dc_most_allowed pm_most_allowed cd_most_allowed ct_most_allowed : Value}
    {f_greatest_values : Addr} {od_greatest_values an_greatest_values : Option Addr} {sl_greatest_values : Array (Option Value)} {oc_greatest_values kV_greatest_values dc_greatest_values pm_greatest_values cd_greatest_values ct_greatest_values : Value}
    {f_people_outside : Addr} {od_people_outside an_people_outside : Option Addr} {sl_people_outside : Array (Option Value)} {oc_people_outside kV_people_outside dc_people_outside pm_people_outside cd_people_outside ct_people_outside : Value}
    {f_fewest_calls_to_one_color : Addr} {od_fewest_calls_to_one_color an_fewest_calls_to_one_color : Option Addr} {sl_fewest_calls_to_one_color : Array (Option Value)} {oc_fewest_calls_to_one_color kV_fewest_calls_to_one_color dc_fewest_calls_to_one_color pm_fewest_calls_to_one_color cd_fewest_calls_to_one_color ct_fewest_calls_to_one_color : Value}
    {f__law_same : Addr} {od__law_same an__law_same : Option Addr} {sl__law_same : Array (Option Value)} {oc__law_same kV__law_same dc__law_same pm__law_same cd__law_same ct__law_same : Value}
    {f__law_outside : Addr} {od__law_outside an__law_outside : Option Addr} {sl__law_outside : Array (Option Value)} {oc__law_outside kV__law_outside dc__law_outside pm__law_outside cd__law_outside ct__law_outside : Value}
    {f__law_after : Addr} {od__law_after an__law_after : Option Addr} {sl__law_after : Array (Option Value)} {oc__law_after kV__law_after dc__law_after pm__law_after cd__law_after ct__law_after : Value}
    {f__law_search : Addr} {od__law_search an__law_search : Option Addr} {sl__law_search : Array (Option Value)} {oc__law_search kV__law_search dc__law_search pm__law_search cd__law_search ct__law_search : Value}
    {f__law_letters : Addr} {od__law_letters an__law_letters : Option Addr} {sl__law_letters : Array (Option Value)} {oc__law_letters kV__law_letters dc__law_letters pm__law_letters cd__law_letters ct__law_letters : Value}
    {f__law_first : Addr} {od__law_first an__law_first : Option Addr} {sl__law_first : Array (Option Value)} {oc__law_first kV__law_first dc__law_first pm__law_first cd__law_first ct__law_first : Value}
    {f__law_others : Addr} {od__law_others an__law_others : Option Addr} {sl__law_others : Array (Option Value)} {oc__law_others kV__law_others dc__law_others pm__law_others cd__law_others ct__law_others : Value}
    {f__law_reach : Addr} {od__law_reach an__law_reach : Option Addr} {sl__law_reach : Array (Option Value)} {oc__law_reach kV__law_reach dc__law_reach pm__law_reach cd__law_reach ct__law_reach : Value}
    {f__law_right : Addr} {od__law_right an__law_right : Option Addr} {sl__law_right : Array (Option Value)} {oc__law_right kV__law_right dc__law_right pm__law_right cd__law_right ct__law_right : Value}
    {f__law_bag : Addr} {od__law_bag an__law_bag : Option Addr} {sl__law_bag : Array (Option Value)} {oc__law_bag kV__law_bag dc__law_bag pm__law_bag cd__law_bag ct__law_bag : Value}
    {f_law : Addr} {od_law an_law : Option Addr} {sl_law : Array (Option Value)} {oc_law kV_law dc_law pm_law cd_law ct_law : Value}
    {t_MOST_PEOPLE : Tok}
    (a__law_cells : PySem.W.nsIn K mainGlobals "_law_cells" = some (some (.ref f__law_cells)))
    (l__law_cells : K.lookup f__law_cells = some ⟨oc__law_cells, od__law_cells, .func (PySem.W.fnOf "_law_cells" "_law_cells" (defArgs s__law_cells) (defBody s__law_cells) (defScope s__law_cells) .none kV__law_cells dc__law_cells pm__law_cells an__law_cells cd__law_cells ct__law_cells), sl__law_cells⟩)
    (c__law_cells : PySem.W.codeIn K cd__law_cells "_law_cells" = true) (k__law_cells : PySem.W.keepIn K (.ref f__law_cells) = true)
    (a__law_draw : PySem.W.nsIn K mainGlobals "_law_draw" = some (some (.ref f__law_draw)))
    (l__law_draw : K.lookup f__law_draw = some ⟨oc__law_draw, od__law_draw, .func (PySem.W.fnOf "_law_draw" "_law_draw" (defArgs s__law_draw) (defBody s__law_draw) (defScope s__law_draw) .none kV__law_draw dc__law_draw pm__law_draw an__law_draw cd__law_draw ct__law_draw), sl__law_draw⟩)
    (c__law_draw : PySem.W.codeIn K cd__law_draw "_law_draw" = true) (k__law_draw : PySem.W.keepIn K (.ref f__law_draw) = true)
    (a__law_shuffled : PySem.W.nsIn K mainGlobals "_law_shuffled" = some (some (.ref f__law_shuffled)))
    (l__law_shuffled : K.lookup f__law_shuffled = some ⟨oc__law_shuffled, od__law_shuffled, .func (PySem.W.fnOf "_law_shuffled" "_law_shuffled" (defArgs s__law_shuffled) (defBody s__law_shuffled) (defScope s__law_shuffled) .none kV__law_shuffled dc__law_shuffled pm__law_shuffled an__law_shuffled cd__law_shuffled ct__law_shuffled), sl__law_shuffled⟩)
    (c__law_shuffled : PySem.W.codeIn K cd__law_shuffled "_law_shuffled" = true) (k__law_shuffled : PySem.W.keepIn K (.ref f__law_shuffled) = true)
    (a__law_people : PySem.W.nsIn K mainGlobals "_law_people" = some (some (.ref f__law_people)))
    (l__law_people : K.lookup f__law_people = some ⟨oc__law_people, od__law_people, .func (PySem.W.fnOf "_law_people" "_law_people" (defArgs s__law_people) (defBody s__law_people) (defScope s__law_people) .none kV__law_people dc__law_people pm__law_people an__law_people cd__law_people ct__law_people), sl__law_people⟩)
    (c__law_people : PySem.W.codeIn K cd__law_people "_law_people" = true) (k__law_people : PySem.W.keepIn K (.ref f__law_people) = true)
    (a__law_some_people : PySem.W.nsIn K mainGlobals "_law_some_people" = some (some (.ref f__law_some_people)))
    (l__law_some_people : K.lookup f__law_some_people = some ⟨oc__law_some_people, od__law_some_people, .func (PySem.W.fnOf "_law_some_people" "_law_some_people" (defArgs s__law_some_people) (defBody s__law_some_people) (defScope s__law_some_people) .none kV__law_some_people dc__law_some_people pm__law_some_people an__law_some_people cd__law_some_people ct__law_some_people), sl__law_some_people⟩)
    (c__law_some_people : PySem.W.codeIn K cd__law_some_people "_law_some_people" = true) (k__law_some_people : PySem.W.keepIn K (.ref f__law_some_people) = true)
    (a_is_integer : PySem.W.nsIn K mainGlobals "is_integer" = some (some (.ref f_is_integer)))
    (l_is_integer : K.lookup f_is_integer = some ⟨oc_is_integer, od_is_integer, .func (PySem.W.fnOf "is_integer" "is_integer" (defArgs s_is_integer) (defBody s_is_integer) (defScope s_is_integer) .none kV_is_integer dc_is_integer pm_is_integer an_is_integer cd_is_integer ct_is_integer), sl_is_integer⟩)
    (c_is_integer : PySem.W.codeIn K cd_is_integer "is_integer" = true) (k_is_integer : PySem.W.keepIn K (.ref f_is_integer) = true)
    (a_is_color : PySem.W.nsIn K mainGlobals "is_color" = some (some (.ref f_is_color)))
    (l_is_color : K.lookup f_is_color = some ⟨oc_is_color, od_is_color, .func (PySem.W.fnOf "is_color" "is_color" (defArgs s_is_color) (defBody s_is_color) (defScope s_is_color) .none kV_is_color dc_is_color pm_is_color an_is_color cd_is_color ct_is_color), sl_is_color⟩)
    (c_is_color : PySem.W.codeIn K cd_is_color "is_color" = true) (k_is_color : PySem.W.keepIn K (.ref f_is_color) = true)
    (a_is_colored_integer : PySem.W.nsIn K mainGlobals "is_colored_integer" = some (some (.ref f_is_colored_integer)))
    (l_is_colored_integer : K.lookup f_is_colored_integer = some ⟨oc_is_colored_integer, od_is_colored_integer, .func (PySem.W.fnOf "is_colored_integer" "is_colored_integer" (defArgs s_is_colored_integer) (defBody s_is_colored_integer) (defScope s_is_colored_integer) .none kV_is_colored_integer dc_is_colored_integer pm_is_colored_integer an_is_colored_integer cd_is_colored_integer ct_is_colored_integer), sl_is_colored_integer⟩)
    (c_is_colored_integer : PySem.W.codeIn K cd_is_colored_integer "is_colored_integer" = true) (k_is_colored_integer : PySem.W.keepIn K (.ref f_is_colored_integer) = true)
    (a_is_lineup : PySem.W.nsIn K mainGlobals "is_lineup" = some (some (.ref f_is_lineup)))
    (l_is_lineup : K.lookup f_is_lineup = some ⟨oc_is_lineup, od_is_lineup, .func (PySem.W.fnOf "is_lineup" "is_lineup" (defArgs s_is_lineup) (defBody s_is_lineup) (defScope s_is_lineup) .none kV_is_lineup dc_is_lineup pm_is_lineup an_is_lineup cd_is_lineup ct_is_lineup), sl_is_lineup⟩)
    (c_is_lineup : PySem.W.codeIn K cd_is_lineup "is_lineup" = true) (k_is_lineup : PySem.W.keepIn K (.ref f_is_lineup) = true)
    (a_check_lineup : PySem.W.nsIn K mainGlobals "check_lineup" = some (some (.ref f_check_lineup)))
    (l_check_lineup : K.lookup f_check_lineup = some ⟨oc_check_lineup, od_check_lineup, .func (PySem.W.fnOf "check_lineup" "check_lineup" (defArgs s_check_lineup) (defBody s_check_lineup) (defScope s_check_lineup) .none kV_check_lineup dc_check_lineup pm_check_lineup an_check_lineup cd_check_lineup ct_check_lineup), sl_check_lineup⟩)
    (c_check_lineup : PySem.W.codeIn K cd_check_lineup "check_lineup" = true) (k_check_lineup : PySem.W.keepIn K (.ref f_check_lineup) = true)
    (a_first_places : PySem.W.nsIn K mainGlobals "first_places" = some (some (.ref f_first_places)))
    (l_first_places : K.lookup f_first_places = some ⟨oc_first_places, od_first_places, .func (PySem.W.fnOf "first_places" "first_places" (defArgs s_first_places) (defBody s_first_places) (defScope s_first_places) .none kV_first_places dc_first_places pm_first_places an_first_places cd_first_places ct_first_places), sl_first_places⟩)
    (c_first_places : PySem.W.codeIn K cd_first_places "first_places" = true) (k_first_places : PySem.W.keepIn K (.ref f_first_places) = true)
    (a_people_in_the_way : PySem.W.nsIn K mainGlobals "people_in_the_way" = some (some (.ref f_people_in_the_way)))
    (l_people_in_the_way : K.lookup f_people_in_the_way = some ⟨oc_people_in_the_way, od_people_in_the_way, .func (PySem.W.fnOf "people_in_the_way" "people_in_the_way" (defArgs s_people_in_the_way) (defBody s_people_in_the_way) (defScope s_people_in_the_way) .none kV_people_in_the_way dc_people_in_the_way pm_people_in_the_way an_people_in_the_way cd_people_in_the_way ct_people_in_the_way), sl_people_in_the_way⟩)
    (c_people_in_the_way : PySem.W.codeIn K cd_people_in_the_way "people_in_the_way" = true) (k_people_in_the_way : PySem.W.keepIn K (.ref f_people_in_the_way) = true)
    (a_most_allowed : PySem.W.nsIn K mainGlobals "most_allowed" = some (some (.ref f_most_allowed)))
    (l_most_allowed : K.lookup f_most_allowed = some ⟨oc_most_allowed, od_most_allowed, .func (PySem.W.fnOf "most_allowed" "most_allowed" (defArgs s_most_allowed) (defBody s_most_allowed) (defScope s_most_allowed) .none kV_most_allowed dc_most_allowed pm_most_allowed an_most_allowed cd_most_allowed ct_most_allowed), sl_most_allowed⟩)
    (c_most_allowed : PySem.W.codeIn K cd_most_allowed "most_allowed" = true) (k_most_allowed : PySem.W.keepIn K (.ref f_most_allowed) = true)
    (a_greatest_values : PySem.W.nsIn K mainGlobals "greatest_values" = some (some (.ref f_greatest_values)))
    (l_greatest_values : K.lookup f_greatest_values = some ⟨oc_greatest_values, od_greatest_values, .func (PySem.W.fnOf "greatest_values" "greatest_values" (defArgs s_greatest_values) (defBody s_greatest_values) (defScope s_greatest_values) .none kV_greatest_values dc_greatest_values pm_greatest_values an_greatest_values cd_greatest_values ct_greatest_values), sl_greatest_values⟩)
    (c_greatest_values : PySem.W.codeIn K cd_greatest_values "greatest_values" = true) (k_greatest_values : PySem.W.keepIn K (.ref f_greatest_values) = true)
    (a_people_outside : PySem.W.nsIn K mainGlobals "people_outside" = some (some (.ref f_people_outside)))
    (l_people_outside : K.lookup f_people_outside = some ⟨oc_people_outside, od_people_outside, .func (PySem.W.fnOf "people_outside" "people_outside" (defArgs s_people_outside) (defBody s_people_outside) (defScope s_people_outside) .none kV_people_outside dc_people_outside pm_people_outside an_people_outside cd_people_outside ct_people_outside), sl_people_outside⟩)
    (c_people_outside : PySem.W.codeIn K cd_people_outside "people_outside" = true) (k_people_outside : PySem.W.keepIn K (.ref f_people_outside) = true)
    (a_fewest_calls_to_one_color : PySem.W.nsIn K mainGlobals "fewest_calls_to_one_color" = some (some (.ref f_fewest_calls_to_one_color)))
    (l_fewest_calls_to_one_color : K.lookup f_fewest_calls_to_one_color = some ⟨oc_fewest_calls_to_one_color, od_fewest_calls_to_one_color, .func (PySem.W.fnOf "fewest_calls_to_one_color" "fewest_calls_to_one_color" (defArgs s_fewest_calls_to_one_color) (defBody s_fewest_calls_to_one_color) (defScope s_fewest_calls_to_one_color) .none kV_fewest_calls_to_one_color dc_fewest_calls_to_one_color pm_fewest_calls_to_one_color an_fewest_calls_to_one_color cd_fewest_calls_to_one_color ct_fewest_calls_to_one_color), sl_fewest_calls_to_one_color⟩)
    (c_fewest_calls_to_one_color : PySem.W.codeIn K cd_fewest_calls_to_one_color "fewest_calls_to_one_color" = true) (k_fewest_calls_to_one_color : PySem.W.keepIn K (.ref f_fewest_calls_to_one_color) = true)
    (a__law_same : PySem.W.nsIn K mainGlobals "_law_same" = some (some (.ref f__law_same)))
    (l__law_same : K.lookup f__law_same = some ⟨oc__law_same, od__law_same, .func (PySem.W.fnOf "_law_same" "_law_same" (defArgs s__law_same) (defBody s__law_same) (defScope s__law_same) .none kV__law_same dc__law_same pm__law_same an__law_same cd__law_same ct__law_same), sl__law_same⟩)
    (c__law_same : PySem.W.codeIn K cd__law_same "_law_same" = true) (k__law_same : PySem.W.keepIn K (.ref f__law_same) = true)
    (a__law_outside : PySem.W.nsIn K mainGlobals "_law_outside" = some (some (.ref f__law_outside)))
    (l__law_outside : K.lookup f__law_outside = some ⟨oc__law_outside, od__law_outside, .func (PySem.W.fnOf "_law_outside" "_law_outside" (defArgs s__law_outside) (defBody s__law_outside) (defScope s__law_outside) .none kV__law_outside dc__law_outside pm__law_outside an__law_outside cd__law_outside ct__law_outside), sl__law_outside⟩)
    (c__law_outside : PySem.W.codeIn K cd__law_outside "_law_outside" = true) (k__law_outside : PySem.W.keepIn K (.ref f__law_outside) = true)
    (a__law_after : PySem.W.nsIn K mainGlobals "_law_after" = some (some (.ref f__law_after)))
    (l__law_after : K.lookup f__law_after = some ⟨oc__law_after, od__law_after, .func (PySem.W.fnOf "_law_after" "_law_after" (defArgs s__law_after) (defBody s__law_after) (defScope s__law_after) .none kV__law_after dc__law_after pm__law_after an__law_after cd__law_after ct__law_after), sl__law_after⟩)
    (c__law_after : PySem.W.codeIn K cd__law_after "_law_after" = true) (k__law_after : PySem.W.keepIn K (.ref f__law_after) = true)
    (a__law_search : PySem.W.nsIn K mainGlobals "_law_search" = some (some (.ref f__law_search)))
    (l__law_search : K.lookup f__law_search = some ⟨oc__law_search, od__law_search, .func (PySem.W.fnOf "_law_search" "_law_search" (defArgs s__law_search) (defBody s__law_search) (defScope s__law_search) .none kV__law_search dc__law_search pm__law_search an__law_search cd__law_search ct__law_search), sl__law_search⟩)
    (c__law_search : PySem.W.codeIn K cd__law_search "_law_search" = true) (k__law_search : PySem.W.keepIn K (.ref f__law_search) = true)
    (a__law_letters : PySem.W.nsIn K mainGlobals "_law_letters" = some (some (.ref f__law_letters)))
    (l__law_letters : K.lookup f__law_letters = some ⟨oc__law_letters, od__law_letters, .func (PySem.W.fnOf "_law_letters" "_law_letters" (defArgs s__law_letters) (defBody s__law_letters) (defScope s__law_letters) .none kV__law_letters dc__law_letters pm__law_letters an__law_letters cd__law_letters ct__law_letters), sl__law_letters⟩)
    (c__law_letters : PySem.W.codeIn K cd__law_letters "_law_letters" = true) (k__law_letters : PySem.W.keepIn K (.ref f__law_letters) = true)
    (a__law_first : PySem.W.nsIn K mainGlobals "_law_first" = some (some (.ref f__law_first)))
    (l__law_first : K.lookup f__law_first = some ⟨oc__law_first, od__law_first, .func (PySem.W.fnOf "_law_first" "_law_first" (defArgs s__law_first) (defBody s__law_first) (defScope s__law_first) .none kV__law_first dc__law_first pm__law_first an__law_first cd__law_first ct__law_first), sl__law_first⟩)
    (c__law_first : PySem.W.codeIn K cd__law_first "_law_first" = true) (k__law_first : PySem.W.keepIn K (.ref f__law_first) = true)
    (a__law_others : PySem.W.nsIn K mainGlobals "_law_others" = some (some (.ref f__law_others)))
    (l__law_others : K.lookup f__law_others = some ⟨oc__law_others, od__law_others, .func (PySem.W.fnOf "_law_others" "_law_others" (defArgs s__law_others) (defBody s__law_others) (defScope s__law_others) .none kV__law_others dc__law_others pm__law_others an__law_others cd__law_others ct__law_others), sl__law_others⟩)
    (c__law_others : PySem.W.codeIn K cd__law_others "_law_others" = true) (k__law_others : PySem.W.keepIn K (.ref f__law_others) = true)
    (a__law_reach : PySem.W.nsIn K mainGlobals "_law_reach" = some (some (.ref f__law_reach)))
    (l__law_reach : K.lookup f__law_reach = some ⟨oc__law_reach, od__law_reach, .func (PySem.W.fnOf "_law_reach" "_law_reach" (defArgs s__law_reach) (defBody s__law_reach) (defScope s__law_reach) .none kV__law_reach dc__law_reach pm__law_reach an__law_reach cd__law_reach ct__law_reach), sl__law_reach⟩)
    (c__law_reach : PySem.W.codeIn K cd__law_reach "_law_reach" = true) (k__law_reach : PySem.W.keepIn K (.ref f__law_reach) = true)
    (a__law_right : PySem.W.nsIn K mainGlobals "_law_right" = some (some (.ref f__law_right)))
    (l__law_right : K.lookup f__law_right = some ⟨oc__law_right, od__law_right, .func (PySem.W.fnOf "_law_right" "_law_right" (defArgs s__law_right) (defBody s__law_right) (defScope s__law_right) .none kV__law_right dc__law_right pm__law_right an__law_right cd__law_right ct__law_right), sl__law_right⟩)
    (c__law_right : PySem.W.codeIn K cd__law_right "_law_right" = true) (k__law_right : PySem.W.keepIn K (.ref f__law_right) = true)
    (a__law_bag : PySem.W.nsIn K mainGlobals "_law_bag" = some (some (.ref f__law_bag)))
    (l__law_bag : K.lookup f__law_bag = some ⟨oc__law_bag, od__law_bag, .func (PySem.W.fnOf "_law_bag" "_law_bag" (defArgs s__law_bag) (defBody s__law_bag) (defScope s__law_bag) .none kV__law_bag dc__law_bag pm__law_bag an__law_bag cd__law_bag ct__law_bag), sl__law_bag⟩)
    (c__law_bag : PySem.W.codeIn K cd__law_bag "_law_bag" = true) (k__law_bag : PySem.W.keepIn K (.ref f__law_bag) = true)
    (a_law : PySem.W.nsIn K mainGlobals "law" = some (some (.ref f_law)))
    (l_law : K.lookup f_law = some ⟨oc_law, od_law, .func (PySem.W.fnOf "law" "law" (defArgs s_law) (defBody s_law) (defScope s_law) .none kV_law dc_law pm_law an_law cd_law ct_law), sl_law⟩)
    (c_law : PySem.W.codeIn K cd_law "law" = true) (k_law : PySem.W.keepIn K (.ref f_law) = true)
    (a_MOST_PEOPLE : PySem.W.nsIn K mainGlobals "MOST_PEOPLE" = some (some (.int 60 t_MOST_PEOPLE)))
    (z_all : PySem.W.nsIn K mainGlobals "all" = some none)
    (z_bool : PySem.W.nsIn K mainGlobals "bool" = some none)
    (z_enumerate : PySem.W.nsIn K mainGlobals "enumerate" = some none)
    (z_int : PySem.W.nsIn K mainGlobals "int" = some none)
    (z_isinstance : PySem.W.nsIn K mainGlobals "isinstance" = some none)
    (z_len : PySem.W.nsIn K mainGlobals "len" = some none)
    (z_list : PySem.W.nsIn K mainGlobals "list" = some none)
    (z_max : PySem.W.nsIn K mainGlobals "max" = some none)
    (z_min : PySem.W.nsIn K mainGlobals "min" = some none)
    (z_range : PySem.W.nsIn K mainGlobals "range" = some none)
    (z_repr : PySem.W.nsIn K mainGlobals "repr" = some none)
    (z_sorted : PySem.W.nsIn K mainGlobals "sorted" = some none)
    (z_str : PySem.W.nsIn K mainGlobals "str" = some none)
    (z_tuple : PySem.W.nsIn K mainGlobals "tuple" = some none)
    (z_type : PySem.W.nsIn K mainGlobals "type" = some none)
    : ∃ fd : FuncData, (∀ (s : Shared) (v : Value), BindsTo s fd ⟨[v], []⟩ [("script", v)]) ∧ ∀ base : Heap, K.In base → base.Ns mainGlobals mg → FnG l.prog w K mg base 7 fa fd ["script"] (sp_law K) := by
  have e := hfa.symm.trans (PySem.W.mg_of X G a_law)
  cases e
  have F__law_cells := fun_mk (st := s__law_cells) l__law_cells c__law_cells k__law_cells
  have n__law_cells := F__law_cells.binds (ps := ["script"]) fun _ _ _ _ _ _ us hl => match us, hl with | [_], _ => rfl
  have F__law_draw := fun_mk (st := s__law_draw) l__law_draw c__law_draw k__law_draw
  have n__law_draw := F__law_draw.binds (ps := ["bag", "many"]) fun _ _ _ _ _ _ us hl => match us, hl with | [_, _], _ => rfl
  have F__law_shuffled := fun_mk (st := s__law_shuffled) l__law_shuffled c__law_shuffled k__law_shuffled
  have n__law_shuffled := F__law_shuffled.binds (ps := ["bag", "things"]) fun _ _ _ _ _ _ us hl => match us, hl with | [_, _], _ => rfl
  have F__law_people := fun_mk (st := s__law_people) l__law_people c__law_people k__law_people
  have n__law_people := F__law_people.binds (ps := ["bag", "size", "limit"]) fun _ _ _ _ _ _ us hl => match us, hl with | [_, _, _], _ => rfl
  have F__law_some_people := fun_mk (st := s__law_some_people) l__law_some_people c__law_some_people k__law_some_people
  have n__law_some_people := F__law_some_people.binds (ps := ["script", "bag", "most", "limit"]) fun _ _ _ _ _ _ us hl => match us, hl with | [_, _, _, _], _ => rfl
  have F_is_integer := fun_mk (st := s_is_integer) l_is_integer c_is_integer k_is_integer
  have n_is_integer := F_is_integer.binds (ps := ["value"]) fun _ _ _ _ _ _ us hl => match us, hl with | [_], _ => rfl
  have F_is_color := fun_mk (st := s_is_color) l_is_color c_is_color k_is_color
  have n_is_color := F_is_color.binds (ps := ["value"]) fun _ _ _ _ _ _ us hl => match us, hl with | [_], _ => rfl
  have F_is_colored_integer := fun_mk (st := s_is_colored_integer) l_is_colored_integer c_is_colored_integer k_is_colored_integer
  have n_is_colored_integer := F_is_colored_integer.binds (ps := ["value"]) fun _ _ _ _ _ _ us hl => match us, hl with | [_], _ => rfl
  have F_is_lineup := fun_mk (st := s_is_lineup) l_is_lineup c_is_lineup k_is_lineup
  have n_is_lineup := F_is_lineup.binds (ps := ["value"]) fun _ _ _ _ _ _ us hl => match us, hl with | [_], _ => rfl
  have F_check_lineup := fun_mk (st := s_check_lineup) l_check_lineup c_check_lineup k_check_lineup
  have n_check_lineup := F_check_lineup.binds (ps := ["value"]) fun _ _ _ _ _ _ us hl => match us, hl with | [_], _ => rfl
  have F_first_places := fun_mk (st := s_first_places) l_first_places c_first_places k_first_places
  have n_first_places := F_first_places.binds (ps := ["lineup"]) fun _ _ _ _ _ _ us hl => match us, hl with | [_], _ => rfl
  have F_people_in_the_way := fun_mk (st := s_people_in_the_way) l_people_in_the_way c_people_in_the_way k_people_in_the_way
  have n_people_in_the_way := F_people_in_the_way.binds (ps := ["lineup", "color", "following"]) fun _ _ _ _ _ _ us hl => match us, hl with | [_, _, _], _ => rfl
  have F_most_allowed := fun_mk (st := s_most_allowed) l_most_allowed c_most_allowed k_most_allowed
  have n_most_allowed := F_most_allowed.binds (ps := ["lineup", "values", "color"]) fun _ _ _ _ _ _ us hl => match us, hl with | [_, _, _], _ => rfl
  have F_greatest_values := fun_mk (st := s_greatest_values) l_greatest_values c_greatest_values k_greatest_values
  have n_greatest_values := F_greatest_values.binds (ps := ["lineup"]) fun _ _ _ _ _ _ us hl => match us, hl with | [_], _ => rfl
  have F_people_outside := fun_mk (st := s_people_outside) l_people_outside c_people_outside k_people_outside
  have n_people_outside := F_people_outside.binds (ps := ["lineup", "colors"]) fun _ _ _ _ _ _ us hl => match us, hl with | [_, _], _ => rfl
  have F_fewest_calls_to_one_color := fun_mk (st := s_fewest_calls_to_one_color) l_fewest_calls_to_one_color c_fewest_calls_to_one_color k_fewest_calls_to_one_color
  have n_fewest_calls_to_one_color := F_fewest_calls_to_one_color.binds (ps := ["lineup"]) fun _ _ _ _ _ _ us hl => match us, hl with | [_], _ => rfl
  have kb_fewest_calls_to_one_color_0_lineup := F_fewest_calls_to_one_color.kb (ps := ["lineup"]) (n := 0) (ks := ["lineup"]) (ix := [0]) fun _ _ _ _ _ _ us ws h1 h2 => match us, ws, h1, h2 with | [], [_], _, _ => rfl
  have F__law_same := fun_mk (st := s__law_same) l__law_same c__law_same k__law_same
  have n__law_same := F__law_same.binds (ps := ["found", "due"]) fun _ _ _ _ _ _ us hl => match us, hl with | [_, _], _ => rfl
  have F__law_outside := fun_mk (st := s__law_outside) l__law_outside c__law_outside k__law_outside
  have n__law_outside := F__law_outside.binds (ps := ["line", "wanted"]) fun _ _ _ _ _ _ us hl => match us, hl with | [_, _], _ => rfl
  have F__law_after := fun_mk (st := s__law_after) l__law_after c__law_after k__law_after
  have n__law_after := F__law_after.binds (ps := ["line", "person"]) fun _ _ _ _ _ _ us hl => match us, hl with | [_, _], _ => rfl
  have F__law_search := fun_mk (st := s__law_search) l__law_search c__law_search k__law_search
  have n__law_search := F__law_search.binds (ps := ["line", "wanted"]) fun _ _ _ _ _ _ us hl => match us, hl with | [_, _], _ => rfl
  have F__law_letters := fun_mk (st := s__law_letters) l__law_letters c__law_letters k__law_letters
  have n__law_letters := F__law_letters.binds (ps := ["line"]) fun _ _ _ _ _ _ us hl => match us, hl with | [_], _ => rfl
  have F__law_first := fun_mk (st := s__law_first) l__law_first c__law_first k__law_first
  have n__law_first := F__law_first.binds (ps := ["line", "letter"]) fun _ _ _ _ _ _ us hl => match us, hl with | [_, _], _ => rfl
  have F__law_others := fun_mk (st := s__law_others) l__law_others c__law_others k__law_others
  have n__law_others := F__law_others.binds (ps := ["line", "position", "letter"]) fun _ _ _ _ _ _ us hl => match us, hl with | [_, _, _], _ => rfl
  have F__law_reach := fun_mk (st := s__law_reach) l__law_reach c__law_reach k__law_reach
  have n__law_reach := F__law_reach.binds (ps := ["line"]) fun _ _ _ _ _ _ us hl => match us, hl with | [_], _ => rfl
  have F__law_right := fun_mk (st := s__law_right) l__law_right c__law_right k__law_right
  have n__law_right := F__law_right.binds (ps := ["script", "bag"]) fun _ _ _ _ _ _ us hl => match us, hl with | [_, _], _ => rfl
  have F__law_bag := fun_mk (st := s__law_bag) l__law_bag c__law_bag k__law_bag
  have n__law_bag := F__law_bag.binds (ps := ["cell", "turn"]) fun _ _ _ _ _ _ us hl => match us, hl with | [_, _], _ => rfl
  have F_law := fun_mk (st := s_law) l_law c_law k_law
  have n_law := F_law.binds (ps := ["script"]) fun _ _ _ _ _ _ us hl => match us, hl with | [_], _ => rfl
  have T : Txt K mg { f__law_cells := _, d__law_cells := _, f__law_draw := _, d__law_draw := _, f__law_shuffled := _, d__law_shuffled := _, f__law_people := _, d__law_people := _, f__law_some_people := _, d__law_some_people := _, f_is_integer := _, d_is_integer := _, f_is_color := _, d_is_color := _, f_is_colored_integer := _, d_is_colored_integer := _, f_is_lineup := _, d_is_lineup := _, f_check_lineup := _, d_check_lineup := _, f_first_places := _, d_first_places := _, f_people_in_the_way := _, d_people_in_the_way := _, f_most_allowed := _, d_most_allowed := _, f_greatest_values := _, d_greatest_values := _, f_people_outside := _, d_people_outside := _, f_fewest_calls_to_one_color := _, d_fewest_calls_to_one_color := _, f__law_same := _, d__law_same := _, f__law_outside := _, d__law_outside := _, f__law_after := _, d__law_after := _, f__law_search := _, d__law_search := _, f__law_letters := _, d__law_letters := _, f__law_first := _, d__law_first := _, f__law_others := _, d__law_others := _, f__law_reach := _, d__law_reach := _, f__law_right := _, d__law_right := _, f__law_bag := _, d__law_bag := _, f_law := _, d_law := _, t_MOST_PEOPLE := t_MOST_PEOPLE } := {
    b_all := PySem.W.mg_none_of X G z_all,
    b_bool := PySem.W.mg_none_of X G z_bool,
    b_enumerate := PySem.W.mg_none_of X G z_enumerate,
    b_int := PySem.W.mg_none_of X G z_int,
    b_isinstance := PySem.W.mg_none_of X G z_isinstance,
    b_len := PySem.W.mg_none_of X G z_len,
    b_list := PySem.W.mg_none_of X G z_list,
    b_max := PySem.W.mg_none_of X G z_max,
    b_min := PySem.W.mg_none_of X G z_min,
    b_range := PySem.W.mg_none_of X G z_range,
    b_repr := PySem.W.mg_none_of X G z_repr,
    b_sorted := PySem.W.mg_none_of X G z_sorted,
    b_str := PySem.W.mg_none_of X G z_str,
    b_tuple := PySem.W.mg_none_of X G z_tuple,
    b_type := PySem.W.mg_none_of X G z_type,
    c_MOST_PEOPLE := PySem.W.mg_of X G a_MOST_PEOPLE,
    F__law_cells := F__law_cells,
    n__law_cells := n__law_cells,
    g__law_cells := PySem.W.mg_of X G a__law_cells,
    k__law_cells := k__law_cells,
    F__law_draw := F__law_draw,
    n__law_draw := n__law_draw,
    g__law_draw := PySem.W.mg_of X G a__law_draw,
    k__law_draw := k__law_draw,
    F__law_shuffled := F__law_shuffled,
    n__law_shuffled := n__law_shuffled,
    g__law_shuffled := PySem.W.mg_of X G a__law_shuffled,
    k__law_shuffled := k__law_shuffled,
    F__law_people := F__law_people,
    n__law_people := n__law_people,
    g__law_people := PySem.W.mg_of X G a__law_people,
    k__law_people := k__law_people,
    F__law_some_people := F__law_some_people,
    n__law_some_people := n__law_some_people,
    g__law_some_people := PySem.W.mg_of X G a__law_some_people,
    k__law_some_people := k__law_some_people,
    F_is_integer := F_is_integer,
    n_is_integer := n_is_integer,
    g_is_integer := PySem.W.mg_of X G a_is_integer,
    k_is_integer := k_is_integer,
    F_is_color := F_is_color,
    n_is_color := n_is_color,
    g_is_color := PySem.W.mg_of X G a_is_color,
    k_is_color := k_is_color,
    F_is_colored_integer := F_is_colored_integer,
    n_is_colored_integer := n_is_colored_integer,
    g_is_colored_integer := PySem.W.mg_of X G a_is_colored_integer,
    k_is_colored_integer := k_is_colored_integer,
    F_is_lineup := F_is_lineup,
    n_is_lineup := n_is_lineup,
    g_is_lineup := PySem.W.mg_of X G a_is_lineup,
    k_is_lineup := k_is_lineup,
    F_check_lineup := F_check_lineup,
    n_check_lineup := n_check_lineup,
    g_check_lineup := PySem.W.mg_of X G a_check_lineup,
    k_check_lineup := k_check_lineup,
    F_first_places := F_first_places,
    n_first_places := n_first_places,
    g_first_places := PySem.W.mg_of X G a_first_places,
    k_first_places := k_first_places,
    F_people_in_the_way := F_people_in_the_way,
    n_people_in_the_way := n_people_in_the_way,
    g_people_in_the_way := PySem.W.mg_of X G a_people_in_the_way,
    k_people_in_the_way := k_people_in_the_way,
    F_most_allowed := F_most_allowed,
    n_most_allowed := n_most_allowed,
    g_most_allowed := PySem.W.mg_of X G a_most_allowed,
    k_most_allowed := k_most_allowed,
    F_greatest_values := F_greatest_values,
    n_greatest_values := n_greatest_values,
    g_greatest_values := PySem.W.mg_of X G a_greatest_values,
    k_greatest_values := k_greatest_values,
    F_people_outside := F_people_outside,
    n_people_outside := n_people_outside,
    g_people_outside := PySem.W.mg_of X G a_people_outside,
    k_people_outside := k_people_outside,
    F_fewest_calls_to_one_color := F_fewest_calls_to_one_color,
    n_fewest_calls_to_one_color := n_fewest_calls_to_one_color,
    g_fewest_calls_to_one_color := PySem.W.mg_of X G a_fewest_calls_to_one_color,
    k_fewest_calls_to_one_color := k_fewest_calls_to_one_color,
    F__law_same := F__law_same,
    n__law_same := n__law_same,
    g__law_same := PySem.W.mg_of X G a__law_same,
    k__law_same := k__law_same,
    F__law_outside := F__law_outside,
    n__law_outside := n__law_outside,
    g__law_outside := PySem.W.mg_of X G a__law_outside,
    k__law_outside := k__law_outside,
    F__law_after := F__law_after,
    n__law_after := n__law_after,
    g__law_after := PySem.W.mg_of X G a__law_after,
    k__law_after := k__law_after,
    F__law_search := F__law_search,
    n__law_search := n__law_search,
    g__law_search := PySem.W.mg_of X G a__law_search,
    k__law_search := k__law_search,
    F__law_letters := F__law_letters,
    n__law_letters := n__law_letters,
    g__law_letters := PySem.W.mg_of X G a__law_letters,
    k__law_letters := k__law_letters,
    F__law_first := F__law_first,
    n__law_first := n__law_first,
    g__law_first := PySem.W.mg_of X G a__law_first,
    k__law_first := k__law_first,
    F__law_others := F__law_others,
    n__law_others := n__law_others,
    g__law_others := PySem.W.mg_of X G a__law_others,
    k__law_others := k__law_others,
    F__law_reach := F__law_reach,
    n__law_reach := n__law_reach,
    g__law_reach := PySem.W.mg_of X G a__law_reach,
    k__law_reach := k__law_reach,
    F__law_right := F__law_right,
    n__law_right := n__law_right,
    g__law_right := PySem.W.mg_of X G a__law_right,
    k__law_right := k__law_right,
    F__law_bag := F__law_bag,
    n__law_bag := n__law_bag,
    g__law_bag := PySem.W.mg_of X G a__law_bag,
    k__law_bag := k__law_bag,
    F_law := F_law,
    n_law := n_law,
    g_law := PySem.W.mg_of X G a_law,
    k_law := k_law,
    kb_fewest_calls_to_one_color_0_lineup := kb_fewest_calls_to_one_color_0_lineup }
  exact ⟨_, fun s v => .of_eq rfl, fun base _ _ => ok_law T⟩
theorem walk {l : PySem.W.OpenLaw} {q : Program} {loose : List Str} {XP : (Str → Option Value) → Heap → Prop} {YP : World → Heap → Prop} {d : DefRec} {K : Params → PySem.W.Frag} (hn : l.most = some 63) (hdf : d.params.defaults = [])
    (hY : ∀ (w : World) (h : Heap), YP w h → (K w.params).In h)
    (F : ∀ (w : World) (mg : Str → Option Value) (fa : Addr) (h : Heap), (K w.params).In h → h.Ns mainGlobals mg → mg d.name = some (.ref fa) →
      ∃ fd : FuncData, (∀ (s : Shared) (u : Value), BindsTo s fd ⟨[u], []⟩ [("script", u)]) ∧ ∀ base : Heap, (K w.params).In base → base.Ns mainGlobals mg → FnG l.prog w (K w.params) mg base 7 fa fd ["script"] (sp_law (K w.params))) :
    PySem.W.WalkO q loose XP YP l.row.toRowW d [] (fun f vs => PySem.call f vs) :=
  walk_ofG (n := 63) (k := 7) (x := "script") (sp := fun K => sp_law K) hn (by decide) hdf ⟨rfl, by decide, by decide⟩ hY F (fun _ _ a ns hl hO hS => ⟨a, ns, rfl, Scr.of hO hS, hl, fun _ => rfl⟩)
end K37

open PySem PySem.W PyProof.Rows
set_option maxRecDepth 100000 in
set_option maxHeartbeats 0 in
theorem PySem.Challenge.cw_lastother_k37_fewest_calls_to_one_color_holds : PySem.Challenge.rw_lastother_k37_fewest_calls_to_one_color.Holds := by
  w_on; o_law; k_head; (case hw => w_witness2)
  k_fill
  refine K37.walk (l := PySem.Challenge.rw_lastother_k37_fewest_calls_to_one_color) rfl rfl (fun w h Y => PySem.W.kIn_of Y) ?F
  case F =>
    intro w mg fa h KX G hmg
    refine' K37.all_mk KX G hmg ?a__law_cells ?l__law_cells ?c__law_cells ?k__law_cells ?a__law_draw ?l__law_draw ?c__law_draw ?k__law_draw ?a__law_shuffled ?l__law_shuffled ?c__law_shuffled ?k__law_shuffled ?a__law_people ?l__law_people ?c__law_people ?k__law_people ?a__law_some_people ?l__law_some_people ?c__law_some_people ?k__law_some_people ?a_is_integer ?l_is_integer ?c_is_integer ?k_is_integer ?a_is_color ?l_is_color ?c_is_color ?k_is_color ?a_is_colored_integer ?l_is_colored_integer ?c_is_colored_integer ?k_is_colored_integer ?a_is_lineup ?l_is_lineup ?c_is_lineup ?k_is_lineup ?a_check_lineup ?l_check_lineup ?c_check_lineup ?k_check_lineup ?a_first_places ?l_first_places ?c_first_places ?k_first_places ?a_people_in_the_way ?l_people_in_the_way ?c_people_in_the_way ?k_people_in_the_way ?a_most_allowed ?l_most_allowed ?c_most_allowed ?k_most_allowed ?a_greatest_values ?l_greatest_values ?c_greatest_values ?k_greatest_values ?a_people_outside ?l_people_outside ?c_people_outside ?k_people_outside ?a_fewest_calls_to_one_color ?l_fewest_calls_to_one_color ?c_fewest_calls_to_one_color ?k_fewest_calls_to_one_color ?a__law_same ?l__law_same ?c__law_same ?k__law_same ?a__law_outside ?l__law_outside ?c__law_outside ?k__law_outside ?a__law_after ?l__law_after ?c__law_after ?k__law_after ?a__law_search ?l__law_search ?c__law_search ?k__law_search ?a__law_letters ?l__law_letters ?c__law_letters ?k__law_letters ?a__law_first ?l__law_first ?c__law_first ?k__law_first ?a__law_others ?l__law_others ?c__law_others ?k__law_others ?a__law_reach ?l__law_reach ?c__law_reach ?k__law_reach ?a__law_right ?l__law_right ?c__law_right ?k__law_right ?a__law_bag ?l__law_bag ?c__law_bag ?k__law_bag ?a_law ?l_law ?c_law ?k_law ?a_MOST_PEOPLE ?z_all ?z_bool ?z_enumerate ?z_int ?z_isinstance ?z_len ?z_list ?z_max ?z_min ?z_range ?z_repr ?z_sorted ?z_str ?z_tuple ?z_type
    (case a__law_cells => k_is)
    (case l__law_cells => k_is)
    (case c__law_cells => k_is)
    (case k__law_cells => k_is)
    (case a__law_draw => k_is)
    (case l__law_draw => k_is)
    (case c__law_draw => k_is)
    (case k__law_draw => k_is)
    (case a__law_shuffled => k_is)
    (case l__law_shuffled => k_is)
    (case c__law_shuffled => k_is)
    (case k__law_shuffled => k_is)
    (case a__law_people => k_is)
    (case l__law_people => k_is)
    (case c__law_people => k_is)
    (case k__law_people => k_is)
    (case a__law_some_people => k_is)
    (case l__law_some_people => k_is)
    (case c__law_some_people => k_is)
    (case k__law_some_people => k_is)
    (case a_is_integer => k_is)
    (case l_is_integer => k_is)
    (case c_is_integer => k_is)
    (case k_is_integer => k_is)
    (case a_is_color => k_is)
    (case l_is_color => k_is)
    (case c_is_color => k_is)
    (case k_is_color => k_is)
    (case a_is_colored_integer => k_is)
    (case l_is_colored_integer => k_is)
    (case c_is_colored_integer => k_is)
    (case k_is_colored_integer => k_is)
    (case a_is_lineup => k_is)
    (case l_is_lineup => k_is)
    (case c_is_lineup => k_is)
    (case k_is_lineup => k_is)
    (case a_check_lineup => k_is)
    (case l_check_lineup => k_is)
    (case c_check_lineup => k_is)
    (case k_check_lineup => k_is)
    (case a_first_places => k_is)
    (case l_first_places => k_is)
    (case c_first_places => k_is)
    (case k_first_places => k_is)
    (case a_people_in_the_way => k_is)
    (case l_people_in_the_way => k_is)
    (case c_people_in_the_way => k_is)
    (case k_people_in_the_way => k_is)
    (case a_most_allowed => k_is)
    (case l_most_allowed => k_is)
    (case c_most_allowed => k_is)
    (case k_most_allowed => k_is)
    (case a_greatest_values => k_is)
    (case l_greatest_values => k_is)
    (case c_greatest_values => k_is)
    (case k_greatest_values => k_is)
    (case a_people_outside => k_is)
    (case l_people_outside => k_is)
    (case c_people_outside => k_is)
    (case k_people_outside => k_is)
    (case a_fewest_calls_to_one_color => k_is)
    (case l_fewest_calls_to_one_color => k_is)
    (case c_fewest_calls_to_one_color => k_is)
    (case k_fewest_calls_to_one_color => k_is)
    (case a__law_same => k_is)
    (case l__law_same => k_is)
    (case c__law_same => k_is)
    (case k__law_same => k_is)
    (case a__law_outside => k_is)
    (case l__law_outside => k_is)
    (case c__law_outside => k_is)
    (case k__law_outside => k_is)
    (case a__law_after => k_is)
    (case l__law_after => k_is)
    (case c__law_after => k_is)
    (case k__law_after => k_is)
    (case a__law_search => k_is)
    (case l__law_search => k_is)
    (case c__law_search => k_is)
    (case k__law_search => k_is)
    (case a__law_letters => k_is)
    (case l__law_letters => k_is)
    (case c__law_letters => k_is)
    (case k__law_letters => k_is)
    (case a__law_first => k_is)
    (case l__law_first => k_is)
    (case c__law_first => k_is)
    (case k__law_first => k_is)
    (case a__law_others => k_is)
    (case l__law_others => k_is)
    (case c__law_others => k_is)
    (case k__law_others => k_is)
    (case a__law_reach => k_is)
    (case l__law_reach => k_is)
    (case c__law_reach => k_is)
    (case k__law_reach => k_is)
    (case a__law_right => k_is)
    (case l__law_right => k_is)
    (case c__law_right => k_is)
    (case k__law_right => k_is)
    (case a__law_bag => k_is)
    (case l__law_bag => k_is)
    (case c__law_bag => k_is)
    (case k__law_bag => k_is)
    (case a_law => k_is)
    (case l_law => k_is)
    (case c_law => k_is)
    (case k_law => k_is)
    (case a_MOST_PEOPLE => k_is)
    (case z_all => k_is)
    (case z_bool => k_is)
    (case z_enumerate => k_is)
    (case z_int => k_is)
    (case z_isinstance => k_is)
    (case z_len => k_is)
    (case z_list => k_is)
    (case z_max => k_is)
    (case z_min => k_is)
    (case z_range => k_is)
    (case z_repr => k_is)
    (case z_sorted => k_is)
    (case z_str => k_is)
    (case z_tuple => k_is)
    (case z_type => k_is)
