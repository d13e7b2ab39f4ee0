import PyProof.Rows.All
import Wide.All
import OpenK.AllK
import Wide.FinOn
import HandS.ForMost
import HandS.ForExc
import HandS.Zip
import HandS.Wide
import HandS.WideBits
import HandS.IsInst
import HandS.Style
import HandS.Conv
import HandS.Flow
import HandS.RevRange
import HandS.SortOrd
import HandS.TupLe
import HandS.EndBits
import HandS.StrMore
import HandS.Codes
import HandS.CallSlots
import HandS.RaiseOp
import KE.SortData
import HandS.Hot
import HandS.HotCalls
import HandS.ExcCtx
import HandS.ExcIs
import HandS.CallLocal
import HandS.SuiteRaise
import HandS.ExcOwn
import KE.RegKIsAll
import KE.RegKTryMore
import KE.KOwnIn
import HandS.AnyAll
import HandS.JoinGen
import HandS.EndTab
import HandS.FStr
import HandS.More
import PySem.Challenge.RW_wheelways_k03_neighbours
set_option Elab.async false
set_option linter.all false
set_option maxRecDepth 100000
set_option maxHeartbeats 4000000
local macro_rules | `(tactic| walk_at "w") => `(tactic| repeat (first | refine ⟨_, rfl, ?_⟩ | refine ⟨_, _, rfl, rfl, ?_⟩ | refine ⟨rfl, ?_⟩))
/-! Plain mathematics of wheels: products, the reflected way, distances. No Python here. -/
namespace Ww

/-- the product of sizes, over the wheels from the last one on -/
def prd : List Int → Int
  | [] => 1
  | s :: r => prd r * s
def ones (l : List Int) : Prop := ∀ s ∈ l, 1 ≤ s
theorem ones_tail {s : Int} {r : List Int} (h : ones (s :: r)) : ones r := fun x hx => h x (List.mem_cons_of_mem _ hx)
theorem ones_head {s : Int} {r : List Int} (h : ones (s :: r)) : 1 ≤ s := h s List.mem_cons_self
theorem prd_pos : ∀ {l : List Int}, ones l → 1 ≤ prd l
  | [], _ => Int.le_refl 1
  | s :: r, h => by
    have h1 := prd_pos (ones_tail h)
    have h2 := ones_head h
    show 1 ≤ prd r * s
    have h3 : 1 * 1 ≤ prd r * s := Int.mul_le_mul h1 h2 (by omega) (by omega)
    omega
theorem prd_append : ∀ (a b : List Int), prd (a ++ b) = prd a * prd b
  | [], b => by show prd b = 1 * prd b; omega
  | s :: a, b => by
    show prd (a ++ b) * s = prd a * s * prd b
    rw [prd_append a b, Int.mul_assoc, Int.mul_comm (prd b) s, ← Int.mul_assoc]
theorem prd_reverse : ∀ (l : List Int), prd l.reverse = prd l
  | [] => rfl
  | s :: r => by
    rw [List.reverse_cons, prd_append, prd_reverse r]
    show prd r * (1 * s) = prd r * s
    rw [Int.one_mul]

/-- a wheel's number, counted from its other end where the number ahead is odd -/
def mir (s p a : Int) : Int := if (a % 2 != 0) = true then s - 1 - p else p
theorem mir_cases (s p a : Int) : (a % 2 = 0 ∧ mir s p a = p) ∨ (a % 2 = 1 ∧ mir s p a = s - 1 - p) := by
  unfold mir
  have h : a % 2 = 0 ∨ a % 2 = 1 := by omega
  rcases h with h | h
  · rw [h]; left; exact ⟨rfl, rfl⟩
  · rw [h]; right; exact ⟨rfl, rfl⟩
theorem mir_mir (s p a : Int) : mir s (mir s p a) a = p := by
  rcases mir_cases s p a with ⟨h, e⟩ | ⟨h, e⟩
  · rcases mir_cases s (mir s p a) a with ⟨h2, e2⟩ | ⟨h2, e2⟩
    · rw [e2, e]
    · omega
  · rcases mir_cases s (mir s p a) a with ⟨h2, e2⟩ | ⟨h2, e2⟩
    · omega
    · rw [e2, e]; omega
theorem mir_in {s p a : Int} (h0 : 0 ≤ p) (h1 : p < s) : 0 ≤ mir s p a ∧ mir s p a < s := by
  rcases mir_cases s p a with ⟨_, e⟩ | ⟨_, e⟩ <;> rw [e] <;> omega

/-- a setting of wheels -/
def okS : List Int → List Int → Prop
  | [], [] => True
  | s :: r, p :: q => 0 ≤ p ∧ p < s ∧ okS r q
  | _, _ => False
theorem okS_len : ∀ {l q : List Int}, okS l q → q.length = l.length
  | [], [], _ => rfl
  | [], _ :: _, h => h.elim
  | _ :: _, [], h => h.elim
  | _ :: r, _ :: q, h => by rw [List.length_cons, List.length_cons, okS_len h.2.2]
theorem okS_append : ∀ {a b c d : List Int}, okS a b → okS c d → okS (a ++ c) (b ++ d)
  | [], [], _, _, _, h => h
  | [], _ :: _, _, _, h, _ => h.elim
  | _ :: _, [], _, _, h, _ => h.elim
  | _ :: _, _ :: _, _, _, h, h2 => ⟨h.1, h.2.1, okS_append h.2.2 h2⟩
theorem okS_reverse : ∀ {a b : List Int}, okS a b → okS a.reverse b.reverse
  | [], [], _ => trivial
  | [], _ :: _, h => h.elim
  | _ :: _, [], h => h.elim
  | s :: a, p :: b, h => by
    rw [List.reverse_cons, List.reverse_cons]
    exact okS_append (okS_reverse h.2.2) ⟨h.1, h.2.1, trivial⟩
theorem okS_at : ∀ {l q : List Int}, okS l q → ∀ {i : Nat} {s p : Int}, l[i]? = some s → q[i]? = some p → 0 ≤ p ∧ p < s
  | [], [], _, i, s, p, h, _ => by simp at h
  | [], _ :: _, h, _, _, _, _, _ => h.elim
  | _ :: _, [], h, _, _, _, _, _ => h.elim
  | x :: r, y :: q, h, 0, s, p, e1, e2 => by
    have a : x = s := Option.some.inj e1
    have b : y = p := Option.some.inj e2
    subst a b
    exact ⟨h.1, h.2.1⟩
  | x :: r, y :: q, h, i + 1, s, p, e1, e2 => okS_at h.2.2 (i := i) e1 e2
theorem okS_of : ∀ {l q : List Int}, q.length = l.length → (∀ (i : Nat) (s p : Int), l[i]? = some s → q[i]? = some p → 0 ≤ p ∧ p < s) → okS l q
  | [], [], _, _ => trivial
  | [], _ :: _, h, _ => by simp at h
  | _ :: _, [], h, _ => by simp at h
  | x :: r, y :: q, h, k => ⟨(k 0 x y rfl rfl).1, (k 0 x y rfl rfl).2, okS_of (by simpa using h) fun i s p e1 e2 => k (i + 1) s p e1 e2⟩

/-- the number of a setting on the way, over the wheels from the last one on -/
def nofR : List Int → List Int → Int
  | s :: r, p :: q => nofR r q * s + mir s p (nofR r q)
  | _, _ => 0
/-- the setting of a number, from the last wheel on -/
def sof : List Int → Int → List Int
  | [], _ => []
  | s :: r, n => mir s (n % s) (n / s) :: sof r (n / s)
def ahd : List Int → Int → Int
  | [], n => n
  | s :: r, n => ahd r (n / s)
theorem sof_len : ∀ (l : List Int) (n : Int), (sof l n).length = l.length
  | [], _ => rfl
  | _ :: r, n => by show (sof r _).length + 1 = r.length + 1; rw [sof_len r]
theorem sof_snoc : ∀ (l : List Int) (s n : Int), sof (l ++ [s]) n = sof l n ++ [mir s (ahd l n % s) (ahd l n / s)]
  | [], _, _ => rfl
  | x :: l, s, n => by
    show mir x (n % x) (n / x) :: sof (l ++ [s]) (n / x) = mir x (n % x) (n / x) :: sof l (n / x) ++ [_]
    rw [sof_snoc l s (n / x)]
    rfl
theorem ahd_snoc : ∀ (l : List Int) (s n : Int), ahd (l ++ [s]) n = ahd l n / s
  | [], _, _ => rfl
  | x :: l, s, n => ahd_snoc l s (n / x)
theorem ahd_nn : ∀ {l : List Int} {n : Int}, ones l → 0 ≤ n → 0 ≤ ahd l n
  | [], _, _, h => h
  | s :: r, n, ho, h => by
    have hs := ones_head ho
    exact ahd_nn (l := r) (n := n / s) (ones_tail ho) (Int.ediv_nonneg h (by omega))
theorem div_lt {n s a : Int} (hs : 1 ≤ s) (h : n < a * s) : n / s < a := Int.ediv_lt_of_lt_mul (by omega) h
theorem mod_in {n s : Int} (hs : 1 ≤ s) : 0 ≤ n % s ∧ n % s < s := ⟨Int.emod_nonneg _ (by omega), Int.emod_lt_of_pos _ (by omega)⟩
theorem sof_ok : ∀ {l : List Int} {n : Int}, ones l → okS l (sof l n)
  | [], _, _ => trivial
  | s :: r, n, ho => by
    have h := mod_in (n := n) (ones_head ho)
    have h2 := mir_in (a := n / s) h.1 h.2
    exact ⟨h2.1, h2.2, sof_ok (ones_tail ho)⟩
theorem nof_sof : ∀ {l : List Int} {n : Int}, ones l → 0 ≤ n → n < prd l → nofR l (sof l n) = n
  | [], n, _, h0, h1 => by
    have : prd [] = 1 := rfl
    show (0 : Int) = n
    omega
  | s :: r, n, ho, h0, h1 => by
    have hs := ones_head ho
    have ih := nof_sof (l := r) (n := n / s) (ones_tail ho) (Int.ediv_nonneg h0 (by omega)) (div_lt hs h1)
    show nofR r (sof r (n / s)) * s + mir s (mir s (n % s) (n / s)) (nofR r (sof r (n / s))) = n
    rw [ih, mir_mir]
    have := Int.mul_ediv_add_emod n s
    rw [Int.mul_comm] at this
    exact this
theorem nof_in : ∀ {l q : List Int}, okS l q → 0 ≤ nofR l q ∧ nofR l q < prd l
  | [], [], _ => by
    show (0 : Int) ≤ 0 ∧ (0 : Int) < 1
    omega
  | [], _ :: _, h => h.elim
  | _ :: _, [], h => h.elim
  | s :: r, p :: q, h => by
    obtain ⟨a, b⟩ := nof_in h.2.2
    have m := mir_in (a := nofR r q) h.1 h.2.1
    show 0 ≤ nofR r q * s + mir s p (nofR r q) ∧ nofR r q * s + mir s p (nofR r q) < prd r * s
    have hs : 0 ≤ s := by have := h.1; have := h.2.1; omega
    have h1 : 0 ≤ nofR r q * s := Int.mul_nonneg a hs
    have h2 : (nofR r q + 1) * s ≤ prd r * s := Int.mul_le_mul_of_nonneg_right (by omega) hs
    rw [Int.add_mul, Int.one_mul] at h2
    omega
theorem sof_nof : ∀ {l q : List Int}, okS l q → sof l (nofR l q) = q
  | [], [], _ => rfl
  | [], _ :: _, h => h.elim
  | _ :: _, [], h => h.elim
  | s :: r, p :: q, h => by
    have ih := sof_nof h.2.2
    have m := mir_in (a := nofR r q) h.1 h.2.1
    have hs : s ≠ 0 := by have := h.1; have := h.2.1; omega
    have e1 : (nofR r q * s + mir s p (nofR r q)) / s = nofR r q := by
      rw [Int.add_comm, Int.add_mul_ediv_right _ _ hs, Int.ediv_eq_zero_of_lt m.1 m.2]
      omega
    have e2 : (nofR r q * s + mir s p (nofR r q)) % s = mir s p (nofR r q) := by
      rw [Int.add_comm, Int.add_mul_emod_self_right, Int.emod_eq_of_lt m.1 m.2]
    show mir s ((nofR r q * s + mir s p (nofR r q)) % s) ((nofR r q * s + mir s p (nofR r q)) / s) :: sof r ((nofR r q * s + mir s p (nofR r q)) / s) = p :: q
    rw [e1, e2, mir_mir, ih]
theorem sof_zero : ∀ {l : List Int}, ones l → sof l 0 = List.replicate l.length 0
  | [], _ => rfl
  | s :: r, ho => by
    have e : sof (s :: r) 0 = mir s (0 % s) (0 / s) :: sof r (0 / s) := rfl
    rw [e, Int.zero_ediv, Int.zero_emod, sof_zero (ones_tail ho)]
    rfl

def absI (n : Int) : Int := if n < 0 then -n else n
theorem absI_eq (n : Int) : absI n = (n.natAbs : Int) := by
  unfold absI
  split <;> omega
/-- how far two settings are apart -/
def dist : List Int → List Int → Int
  | a :: r, b :: q => absI (a - b) + dist r q
  | _, _ => 0
theorem dist_self : ∀ l : List Int, dist l l = 0
  | [] => rfl
  | a :: r => by
    show absI (a - a) + dist r r = 0
    rw [dist_self r, Int.sub_self]
    rfl
theorem dist_comm : ∀ a b : List Int, dist a b = dist b a
  | [], [] => rfl
  | [], _ :: _ => rfl
  | _ :: _, [] => rfl
  | x :: a, y :: b => by
    show absI (x - y) + dist a b = absI (y - x) + dist b a
    rw [dist_comm a b, absI_eq, absI_eq]
    omega
theorem dist_append : ∀ {a b c d : List Int}, a.length = b.length → dist (a ++ c) (b ++ d) = dist a b + dist c d
  | [], [], c, d, _ => by
    show dist c d = 0 + dist c d
    omega
  | [], _ :: _, _, _, h => by simp at h
  | _ :: _, [], _, _, h => by simp at h
  | x :: a, y :: b, c, d, h => by
    show absI (x - y) + dist (a ++ c) (b ++ d) = absI (x - y) + dist a b + dist c d
    rw [dist_append (a := a) (b := b) (by simpa using h)]
    omega
theorem dist_reverse : ∀ {a b : List Int}, a.length = b.length → dist a.reverse b.reverse = dist a b
  | [], [], _ => rfl
  | [], _ :: _, h => by simp at h
  | _ :: _, [], h => by simp at h
  | x :: a, y :: b, h => by
    have h2 : a.length = b.length := by simpa using h
    rw [List.reverse_cons, List.reverse_cons, dist_append (by rw [List.length_reverse, List.length_reverse]; exact h2), dist_reverse h2]
    show _ + (absI (x - y) + 0) = absI (x - y) + dist a b
    omega
theorem sof_step : ∀ {l : List Int} {n : Int}, ones l → 0 ≤ n → n + 1 < prd l → dist (sof l n) (sof l (n + 1)) = 1
  | [], n, _, h0, h1 => by
    have : prd [] = 1 := rfl
    omega
  | s :: r, n, ho, h0, h1 => by
    have hs := ones_head ho
    have hm := mod_in (n := n) hs
    have ed := Int.mul_ediv_add_emod n s
    have ez : s ≠ 0 := by omega
    show absI (mir s (n % s) (n / s) - mir s ((n + 1) % s) ((n + 1) / s)) + dist (sof r (n / s)) (sof r ((n + 1) / s)) = 1
    by_cases c : n % s + 1 < s
    · have e1 : (n + 1) / s = n / s := by
        have : n + 1 = (n % s + 1) + s * (n / s) := by omega
        rw [this, Int.add_mul_ediv_left _ _ ez, Int.ediv_eq_zero_of_lt (by omega) c]
        omega
      have e2 : (n + 1) % s = n % s + 1 := by
        have : n + 1 = (n % s + 1) + s * (n / s) := by omega
        rw [this, Int.add_mul_emod_self_left, Int.emod_eq_of_lt (by omega) c]
      rw [e1, e2, dist_self]
      rcases mir_cases s (n % s) (n / s) with ⟨p, e⟩ | ⟨p, e⟩
      · rcases mir_cases s (n % s + 1) (n / s) with ⟨p2, f⟩ | ⟨p2, f⟩
        · rw [e, f, absI_eq]; omega
        · omega
      · rcases mir_cases s (n % s + 1) (n / s) with ⟨p2, f⟩ | ⟨p2, f⟩
        · omega
        · rw [e, f, absI_eq]; omega
    · have em : n % s = s - 1 := by omega
      have e1 : (n + 1) / s = n / s + 1 := by
        have : n + 1 = s * (n / s + 1) := by
          rw [Int.mul_add, Int.mul_one]
          omega
        rw [this, Int.mul_ediv_cancel_left _ ez]
      have e2 : (n + 1) % s = 0 := by
        have : n + 1 = s * (n / s + 1) := by
          rw [Int.mul_add, Int.mul_one]
          omega
        rw [this, Int.mul_emod_right]
      have hb : n / s + 1 < prd r := by
        have := div_lt hs h1
        omega
      have ih := sof_step (l := r) (n := n / s) (ones_tail ho) (Int.ediv_nonneg h0 (by omega)) hb
      rw [e1, e2, ih, em]
      have z : mir s (s - 1) (n / s) = mir s 0 (n / s + 1) := by
        rcases mir_cases s (s - 1) (n / s) with ⟨p, e⟩ | ⟨p, e⟩
        · rcases mir_cases s 0 (n / s + 1) with ⟨p2, f⟩ | ⟨p2, f⟩
          · omega
          · rw [e, f]; omega
        · rcases mir_cases s 0 (n / s + 1) with ⟨p2, f⟩ | ⟨p2, f⟩
          · rw [e, f]; omega
          · omega
      rw [z, Int.sub_self]
      rfl
end Ww
/-! what every proof over the wheels leans on: a def at its place in the text (Df), a def that keeps a promise (Ok), its call as a rule (pe_ok), the built-ins (Bi) -/
namespace Ww
open PySem PySem.Spec PyProof.Rows L2
/-- the def x of the text st, as the top has left it -/
structure At (K : PySem.W.Frag) (mg : Str → Option Value) (x : Str) (st : Stmt) (ps : List Str) (f : Addr) (fd : FuncData) : Prop where
  F : Fun K x x st f fd
  g : mg x = some (.ref f)
  b : Binds K fd ps []
def Df (K : PySem.W.Frag) (mg : Str → Option Value) (x : Str) (st : Stmt) (ps : List Str) : Prop := ∃ f fd, At K mg x st ps f fd
/-- the def x keeps the promise sp, whatever CX lets out -/
structure OkC (P : Program) (w : World) (K : PySem.W.Frag) (mg : Str → Option Value) (base : Heap) (CX : CXT) (x : Str) (ps : List Str) (k : Nat) (sp : Sp) : Prop where
  ex : ∃ (f : Addr) (fd : FuncData), mg x = some (.ref f) ∧ PySem.W.keepIn K (.ref f) = true ∧ Binds K fd ps [] ∧ FnOk P w K mg base CX k f fd ps sp
abbrev Ok (P : Program) (w : World) (K : PySem.W.Frag) (mg : Str → Option Value) (base : Heap) (x : Str) (ps : List Str) (k : Nat) (sp : Sp) : Prop := OkC P w K mg base CX0 x ps k sp
theorem pe_ok {X : Cx} {x : Str} {ps : List Str} {k j : Nat} {sp : Sp} {e : Expr} {es : List Expr} {t : TA} {p pos : Pos} (C : Ok X.prog X.w X.K X.mg X.base x ps k sp) (hr : Room j X.A) (hk : k ≤ j) (ha : PA X (e :: es) t) (hg : Gl X x := by rfl)
    (hdb : (x == ("__debug__" : Str)) = false := by decide) (he : starEach (e :: es) X.env = (false, eval e X.env) :: starEach es X.env := by rfl) (hpl : (backTo pos (starEach es X.env)).any (·.1) = false := by rfl) :
    PE X (.Call (.Name x p) (e :: es) [] pos) (tCall sp [] E0 t) := by
  obtain ⟨f, fd, g, kp, b, F⟩ := C.ex
  exact pe_call F (hr.mono hk) hg g kp b .nil pass0 ha hdb he hpl
theorem At.ok {P : Program} {w : World} {K : PySem.W.Frag} {mg : Str → Option Value} {base : Heap} {x : Str} {st : Stmt} {N ps : List Str} {k : Nat} {sp : Sp} {f : Addr} {fd : FuncData} (D : At K mg x st ps f fd) (S : FnScope N ps (defScope st)) (len : ∀ vs H Q E, sp vs H Q E → vs.length = ps.length)
    (hbody : ∀ (cdv : Value) (A : Around) (outer : List Env) (s : Shared) (H : Hp) (vs : List V) (Q : VK) (E : XK), Room k (A.deeper (envOfC x (defScope st) s.heap.objs.size f cdv)) → sp vs H Q E →
      ∃ t, PSs (cxOf CX0 P w K mg base N x (defScope st) f cdv A outer s H E).nox (defBody st) t ∧ t { nx := fun _ H' => Q .non H', rt := Q } (start N vs) H) : FnOk P w K mg base CX0 (k + 1) f fd ps sp := D.F.ok S len hbody
theorem Df.ok {P : Program} {w : World} {K : PySem.W.Frag} {mg : Str → Option Value} {base : Heap} {x : Str} {st : Stmt} {N ps : List Str} {k : Nat} {sp : Sp} (D : Df K mg x st ps) (S : FnScope N ps (defScope st)) (len : ∀ vs H Q E, sp vs H Q E → vs.length = ps.length)
    (hbody : ∀ (f : Addr) (cdv : Value) (A : Around) (outer : List Env) (s : Shared) (H : Hp) (vs : List V) (Q : VK) (E : XK), Room k (A.deeper (envOfC x (defScope st) s.heap.objs.size f cdv)) → sp vs H Q E →
      ∃ t, PSs (cxOf CX0 P w K mg base N x (defScope st) f cdv A outer s H E).nox (defBody st) t ∧ t { nx := fun _ H' => Q .non H', rt := Q } (start N vs) H) : Ok P w K mg base x ps (k + 1) sp := by
  obtain ⟨f, fd, F, g, b⟩ := D
  exact ⟨f, fd, g, F.kp, b, F.ok S len fun cdv A outer s H vs Q E hr h => hbody f cdv A outer s H vs Q E hr h⟩
theorem OkC.mono {P : Program} {w : World} {K : PySem.W.Frag} {mg : Str → Option Value} {base : Heap} {CX : CXT} {x : Str} {ps : List Str} {k j : Nat} {sp : Sp} (C : OkC P w K mg base CX x ps k sp) (h : k ≤ j) : OkC P w K mg base CX x ps j sp := by
  obtain ⟨f, fd, g, kp, b, F⟩ := C.ex
  exact ⟨f, fd, g, kp, b, F.mono h⟩
/-- the built-ins stand -/
structure Bi (mg : Str → Option Value) : Prop where
  len : mg "len" = none
  range : mg "range" = none
  zip : mg "zip" = none
  reversed : mg "reversed" = none
  divmod : mg "divmod" = none
  enumerate : mg "enumerate" = none
  any : mg "any" = none
  all : mg "all" = none
  sum : mg "sum" = none
  abs : mg "abs" = none
  min : mg "min" = none
  list : mg "list" = none
  int : mg "int" = none
  bool : mg "bool" = none
  str : mg "str" = none
  tuple : mg "tuple" = none
  isinstance : mg "isinstance" = none
  sorted : mg "sorted" = none
/-! ### what stays: objects as they stand, a code object's table as a table (it may grow) -/
/-- of an object o that stood: what stands there now -/
def St : HO → Option HO → Prop
  | .tbl ps, v => ∃ ps' : Array Value, v = some (.tbl ps') ∧ (TriplesOk ps.toList → TriplesOk ps'.toList)
  | o, v => v = some o
theorem St.self {o : HO} {v : Option HO} (e : v = some o) : St o v := by
  cases o <;> first | exact e | exact ⟨_, e, fun h => h⟩
theorem St.some {o : HO} {v : Option HO} (h : St o v) : ∃ u, v = some u := by
  cases o <;> first | exact ⟨_, h⟩ | exact ⟨_, h.choose_spec.1⟩
def Same (H H' : Hp) : Prop := ∀ b o, H b = some o → St o (H' b)
theorem Same.refl (H : Hp) : Same H H := fun _ _ h => .self h
theorem Same.of {H H' : Hp} (h : L2.Same H H') : Same H H' := fun b o e => .self (h b o e)
theorem Same.trans {H H1 H2 : Hp} (a : Same H H1) (b : Same H1 H2) : Same H H2 := fun c o e => by
  have h := a c o e
  cases o with
  | tbl ps =>
    obtain ⟨p1, e1, t1⟩ := h
    obtain ⟨p2, e2, t2⟩ := b c _ e1
    exact ⟨p2, e2, fun t => t2 (t1 t)⟩
  | _ => exact b c _ h
theorem Same.free {H H' : Hp} (s : Same H H') {l : Addr} (h : H' l = none) : H l = none := by
  cases e : H l with
  | none => rfl
  | some o =>
    obtain ⟨u, hu⟩ := (s l o e).some
    rw [h] at hu
    cases hu
theorem Same.ne {H H' : Hp} (s : Same H H') {b p : Addr} {o : HO} (e : H b = some o) (n : H' p = none) : b ≠ p := ne_of_none e (s.free n)
theorem Same.seq {K : PySem.W.Frag} {H H' : Hp} {a : Addr} {xs : List V} (s : Same H H') (h : SqL K H a xs) : SqL K H' a xs := by
  rcases h with (h | ⟨o, h⟩) | h
  · exact .inl (.inl (s _ _ h))
  · exact .inl (.inr ⟨o, s _ _ h⟩)
  · exact .inr h
theorem same_upd {H : Hp} {p : Addr} {o : HO} (h : H p = none) : Same H (upd H p o) := fun b x e => by
  rw [upd_ne (ne_of_none e h)]
  exact .self e
/-- what came after may change -/
theorem Same.put {H H' : Hp} {p : Addr} {o : HO} (s : Same H H') (h : H p = none) : Same H (upd H' p o) := fun b x e => by
  rw [upd_ne (ne_of_none e h)]
  exact s _ _ e
theorem map_int_at {ns : List Int} {i : Nat} {y : V} (h : (ns.map V.int)[i]? = some y) : ∃ z, ns[i]? = some z ∧ y = V.int z := by
  rw [List.getElem?_map] at h
  cases e : ns[i]? with
  | none => rw [e] at h; cases h
  | some z => rw [e] at h; exact ⟨z, rfl, (Option.some.inj h).symm⟩
theorem at_map_int {ns : List Int} {i : Nat} {z : Int} (h : ns[i]? = some z) : (ns.map V.int)[i]? = some (V.int z) := by
  rw [List.getElem?_map, h]
  rfl
theorem take_more {α : Type} : ∀ {l : List α} {i : Nat} {x : α}, l[i]? = some x → l.take (i + 1) = l.take i ++ [x]
  | [], i, x, h => by simp at h
  | a :: l, 0, x, h => by
    have e : a = x := Option.some.inj h
    subst e
    rfl
  | a :: l, i + 1, x, h => by
    have ih := take_more (l := l) (i := i) (x := x) h
    show a :: l.take (i + 1) = a :: l.take i ++ [x]
    rw [ih]
    rfl
theorem lt_line {n : Nat} (h : n ≤ 100000) : n < sizeLine := Nat.lt_of_le_of_lt h (by decide)
theorem le_line {n : Nat} (h : n ≤ 100000) : n ≤ sizeLine := Nat.le_of_lt (lt_line h)
/-! the layer's rules with the written part told by name (so that they serve within comprehensions) -/
section
variable {X : Cx}
theorem ixL (K : PySem.W.Frag) (h : X.K = K := by rfl) : IxR X (rIxL K) := by subst h; exact ix_list
theorem ixT (K : PySem.W.Frag) (h : X.K = K := by rfl) : IxR X (rIxT K) := by subst h; exact ix_tup
theorem isiK (K : PySem.W.Frag) (h : X.K = K := by rfl) : CallR X (.builtin "isinstance") (rIsi K) := by subst h; exact call_isi
theorem lenK (K : PySem.W.Frag) (h : X.K = K := by rfl) : CallR X (.builtin "len") (fun xs H Q => ∃ p ys, xs = [.ref p] ∧ (SqL K H p ys ∨ SqT K H p ys) ∧ Q (.int ys.length) H) := by subst h; exact call_len_seq
theorem listK (K : PySem.W.Frag) (h : X.K = K := by rfl) : CallR X (.type "list") (fun xs H Q => ∃ p ys, xs = [.ref p] ∧ (SqL K H p ys ∨ SqT K H p ys) ∧ ∀ l, H l = none → Q (.ref l) (upd H l (.lst ys))) := by subst h; exact call_list_of
theorem anyK (K : PySem.W.Frag) (hc : X.calm = true) (h : X.K = K := by rfl) : CallR X (.builtin "any") (rAny K) := by subst h; exact cr_any hc
theorem allK (K : PySem.W.Frag) (hc : X.calm = true) (h : X.K = K := by rfl) : CallR X (.builtin "all") (rAll K) := by subst h; exact cr_all hc
theorem sumK (K : PySem.W.Frag) (hc : X.calm = true) (h : X.K = K := by rfl) : CallR X (.builtin "sum") (rSum K) := by subst h; exact cr_sum hc
theorem slL (K : PySem.W.Frag) (h : X.K = K := by rfl) : SlR X (rSlL K) := by subst h; exact sl_list
theorem inK (K : PySem.W.Frag) (h : X.K = K := by rfl) : OpR X (compareOp .In) (rIn K false) := by subst h; exact op_in_seq
theorem notInK (K : PySem.W.Frag) (h : X.K = K := by rfl) : OpR X (compareOp .NotIn) (rIn K true) := by subst h; exact op_notIn_seq
theorem eqDK (K : PySem.W.Frag) (hu : X.A.units + 64 < cLine) (h : X.K = K := by rfl) : OpR X (compareOp .Eq) (rEqD K) := by subst h; exact op_eqD hu
theorem neDK (K : PySem.W.Frag) (hu : X.A.units + 64 < cLine) (h : X.K = K := by rfl) : OpR X (compareOp .NotEq) (rNeD K) := by subst h; exact op_neD hu
end
/-- isinstance(x, T), T a built-in type -/
theorem isi_ty {K : PySem.W.Frag} {H : Hp} {x : V} {t T : String} {b : Bool} {Q : VK} (ty : TyX K H x (.type t)) (h : kitB t T = some b) (q : Q (.bl b) H) : rIsi K [x, .ty T] H Q :=
  ⟨x, .ty T, .type t, .type T, b, rfl, .ty T, ty, kit_ty h, q⟩
end Ww
namespace Ww
open PySem PySem.Spec PyProof.Rows L2
def topS (i : Nat) : Stmt := PySem.Challenge.pw_wheelways_k03_neighbours.main.body.getD i (.Pass ⟨0, 0, 0, 0⟩)
abbrev s_is_whole : Stmt := topS 5
theorem sc_is_whole : FnScope ["thing"] ["thing"] (defScope s_is_whole) := ⟨rfl, rfl, rfl, by decide +kernel, rfl, by decide +kernel, by decide +kernel⟩
abbrev s_check_wheels : Stmt := topS 6
theorem sc_check_wheels : FnScope ["wheels", "size"] ["wheels"] (defScope s_check_wheels) := ⟨rfl, rfl, rfl, by decide +kernel, rfl, by decide +kernel, by decide +kernel⟩
abbrev s_is_setting : Stmt := topS 7
theorem sc_is_setting : FnScope ["wheels", "setting", "size", "place"] ["wheels", "setting"] (defScope s_is_setting) := ⟨rfl, rfl, rfl, by decide +kernel, rfl, by decide +kernel, by decide +kernel⟩
abbrev s_check_setting : Stmt := topS 8
theorem sc_check_setting : FnScope ["wheels", "setting"] ["wheels", "setting"] (defScope s_check_setting) := ⟨rfl, rfl, rfl, by decide +kernel, rfl, by decide +kernel, by decide +kernel⟩
abbrev s_near : Stmt := topS 10
theorem sc_near : FnScope ["wheels", "setting", "found", "at"] ["wheels", "setting"] (defScope s_near) := ⟨rfl, rfl, rfl, by decide +kernel, rfl, by decide +kernel, by decide +kernel⟩
abbrev s_stepped : Stmt := topS 11
theorem sc_stepped : FnScope ["setting", "at", "step", "other"] ["setting", "at", "step"] (defScope s_stepped) := ⟨rfl, rfl, rfl, by decide +kernel, rfl, by decide +kernel, by decide +kernel⟩
abbrev s_apart : Stmt := topS 12
theorem sc_apart : FnScope ["wheels", "one", "other", "steps", "here", "there"] ["wheels", "one", "other"] (defScope s_apart) := ⟨rfl, rfl, rfl, by decide +kernel, rfl, by decide +kernel, by decide +kernel⟩
abbrev s_law_cell_at : Stmt := topS 14
theorem sc_law_cell_at : FnScope ["_law_script", "_law_k"] ["_law_script", "_law_k"] (defScope s_law_cell_at) := ⟨rfl, rfl, rfl, by decide +kernel, rfl, by decide +kernel, by decide +kernel⟩
abbrev s_law_draw : Stmt := topS 15
theorem sc_law_draw : FnScope ["_law_cell", "_law_k", "_law_many", "_law_primes"] ["_law_cell", "_law_k", "_law_many"] (defScope s_law_draw) := ⟨rfl, rfl, rfl, by decide +kernel, rfl, by decide +kernel, by decide +kernel⟩
abbrev s_law_wheels : Stmt := topS 16
theorem sc_law_wheels : FnScope ["_law_script", "_law_kind", "_law_found", "_law_k", "_law_size"] ["_law_script"] (defScope s_law_wheels) := ⟨rfl, rfl, rfl, by decide +kernel, rfl, by decide +kernel, by decide +kernel⟩
abbrev s_law_far : Stmt := topS 17
theorem sc_law_far : FnScope ["_law_script", "_law_by", "_law_most", "_law_found", "_law_k"] ["_law_script", "_law_by", "_law_most"] (defScope s_law_far) := ⟨rfl, rfl, rfl, by decide +kernel, rfl, by decide +kernel, by decide +kernel⟩
abbrev s_law_setting : Stmt := topS 18
theorem sc_law_setting : FnScope ["_law_script", "_law_wheels_here", "_law_by", "_law_kind", "_law_found", "_law_k", "_law_size", "_law_number"] ["_law_script", "_law_wheels_here", "_law_by"] (defScope s_law_setting) := ⟨rfl, rfl, rfl, by decide +kernel, rfl, by decide +kernel, by decide +kernel⟩
abbrev s_law_count : Stmt := topS 19
theorem sc_law_count : FnScope ["_law_wheels_here", "_law_found", "_law_size"] ["_law_wheels_here"] (defScope s_law_count) := ⟨rfl, rfl, rfl, by decide +kernel, rfl, by decide +kernel, by decide +kernel⟩
abbrev s_law_is_setting : Stmt := topS 20
theorem sc_law_is_setting : FnScope ["_law_wheels_here", "_law_found", "_law_one", "_law_k"] ["_law_wheels_here", "_law_found"] (defScope s_law_is_setting) := ⟨rfl, rfl, rfl, by decide +kernel, rfl, by decide +kernel, by decide +kernel⟩
abbrev s_law_step : Stmt := topS 21
theorem sc_law_step : FnScope ["_law_one", "_law_other", "_law_k"] ["_law_one", "_law_other"] (defScope s_law_step) := ⟨rfl, rfl, rfl, by decide +kernel, rfl, by decide +kernel, by decide +kernel⟩
abbrev s_law_whole : Stmt := topS 22
theorem sc_law_whole : FnScope ["_law_number"] ["_law_number"] (defScope s_law_whole) := ⟨rfl, rfl, rfl, by decide +kernel, rfl, by decide +kernel, by decide +kernel⟩
abbrev s_law : Stmt := topS 23
theorem sc_law : FnScope ["_law_script", "_law_wheels_here", "_law_one", "_law_other", "_law_handed", "_law_setting_here", "_law_due", "_law_k", "_law_number", "_law_again", "_law_found", "_law_far_here", "_law_steps", "_law_step_here"] ["_law_script"] (defScope s_law) := ⟨rfl, rfl, rfl, by decide +kernel, rfl, by decide +kernel, by decide +kernel⟩
end Ww
/-! loops over enumerate and reversed, what a list's type is, products of many sizes -/
namespace Ww
open PySem PySem.Spec PyProof.Rows L2
theorem for_enumL {K : PySem.W.Frag} {a : Addr} {xs : List V} {g : TG} {tb : TS} {D : Ends} {σ : L2.St} {H : Hp} (Pv : Nat → L2.St → Hp → Prop) (h0 : Pv 0 σ H) (hq : ∀ i σ H, Pv i σ H → SqL K H a xs)
    (hs : ∀ (i : Nat) (x : V) (T : Addr) (σ : L2.St) (H : Hp), xs[i]? = some x → Pv i σ H → H T = none → g (.ref T) σ (upd H T (.tup [.int (i : Nat), x])) fun σ2 H2 => tb { D with nx := Pv (i + 1), ct := Pv (i + 1), bk := D.nx } σ2 H2) (hd : ∀ σ H, Pv xs.length σ H → D.nx σ H) :
    ∃ W : Nat → Nat → L2.St → Hp → Prop, (∃ m, W 0 m σ H) ∧ ∀ i m σ H, W i m σ H →
      ((Ite K a).stop i H ∧ D.nx σ H) ∨ ((Ite K a).go i H ∧ ∃ N : L2.St → Hp → Prop, (∀ σ' H', N σ' H' → ∃ m', m' < m ∧ W (i + 1) m' σ' H') ∧ ∀ v H', (Ite K a).yld i H v H' → g v σ H' fun σ2 H2 => tb { D with nx := N, ct := N, bk := D.nx } σ2 H2) := by
  refine ⟨fun i m σ H => i + m = xs.length ∧ Pv i σ H, ⟨xs.length, by omega, h0⟩, fun i m σ H h => ?_⟩
  obtain ⟨e, p⟩ := h
  have hx := hq i σ H p
  by_cases c : i < xs.length
  · have g1 : xs[i]? = some xs[i] := List.getElem?_eq_getElem c
    refine .inr ⟨⟨xs, xs[i], hx, g1⟩, Pv (i + 1), fun σ' H' n => ⟨m - 1, by omega, by omega, n⟩, fun v H' y => ?_⟩
    obtain ⟨T, z, rfl, nT, rfl, fz⟩ := y
    have ez : z = xs[i] := Option.some.inj ((fz _ hx).symm.trans g1)
    subst ez
    exact hs i _ T σ H g1 p nT
  · have ei : i = xs.length := by omega
    subst ei
    exact .inl ⟨⟨xs, hx, Nat.le_refl _⟩, hd σ H p⟩
theorem for_revL {K : PySem.W.Frag} {a : Addr} {xs : List V} {g : TG} {tb : TS} {D : Ends} {σ : L2.St} {H : Hp} (Pv : Nat → L2.St → Hp → Prop) (h0 : Pv 0 σ H) (hq : ∀ i σ H, Pv i σ H → SqL K H a xs)
    (hs : ∀ (i : Nat) (x : V) (σ : L2.St) (H : Hp), xs.reverse[i]? = some x → Pv i σ H → g x σ H fun σ2 H2 => tb { D with nx := Pv (i + 1), ct := Pv (i + 1), bk := D.nx } σ2 H2) (hd : ∀ σ H, Pv xs.length σ H → D.nx σ H) :
    ∃ W : Nat → Nat → L2.St → Hp → Prop, (∃ m, W 0 m σ H) ∧ ∀ i m σ H, W i m σ H →
      ((Itv K a xs.length).stop i H ∧ D.nx σ H) ∨ ((Itv K a xs.length).go i H ∧ ∃ N : L2.St → Hp → Prop, (∀ σ' H', N σ' H' → ∃ m', m' < m ∧ W (i + 1) m' σ' H') ∧ ∀ v H', (Itv K a xs.length).yld i H v H' → g v σ H' fun σ2 H2 => tb { D with nx := N, ct := N, bk := D.nx } σ2 H2) := by
  refine ⟨fun i m σ H => i + m = xs.length ∧ Pv i σ H, ⟨xs.length, by omega, h0⟩, fun i m σ H h => ?_⟩
  obtain ⟨e, p⟩ := h
  have hx := hq i σ H p
  by_cases c : i < xs.length
  · have g1 : xs[xs.length - 1 - i]? = some xs[xs.length - 1 - i] := List.getElem?_eq_getElem (by omega)
    have g2 : xs.reverse[i]? = some xs[xs.length - 1 - i] := by rw [List.getElem?_reverse c, g1]
    refine .inr ⟨⟨c, xs, _, hx, g1⟩, Pv (i + 1), fun σ' H' n => ⟨m - 1, by omega, by omega, n⟩, fun v H' y => ?_⟩
    obtain ⟨rfl, fz⟩ := y
    have ez : v = xs[xs.length - 1 - i] := Option.some.inj ((fz _ hx).symm.trans g1)
    subst ez
    exact hs i _ σ _ g2 p
  · have ei : i = xs.length := by omega
    subst ei
    exact .inl ⟨Nat.le_refl _, hd σ H p⟩
theorem tyx_list {K : PySem.W.Frag} {H : Hp} {a : Addr} {xs : List V} (h : SqL K H a xs) : TyX K H (.ref a) (.type "list") := by
  rcases h with (h | ⟨o, h⟩) | ⟨o, its, n, e, c, _⟩
  · exact .base (.lst h)
  · exact .base (.frz h)
  · exact .kList e c
theorem dec_int1 (x y : Int) : decide (V.int x = V.int y) = decide (x = y) := by
  by_cases c : x = y
  · subst c
    rw [decide_eq_true rfl, decide_eq_true rfl]
  · rw [decide_eq_false c, decide_eq_false fun q => c (V.int.inj q)]
/-! ### lists of ints compared -/
theorem dpAll_ints {K : PySem.W.Frag} {H : Hp} : ∀ ns : List Int, DpAll K H (ns.map V.int) (ns.map PyData.int)
  | [] => .nil
  | n :: r => .cons (.int n) (dpAll_ints r)
theorem dp_ints {K : PySem.W.Frag} {H : Hp} {a : Addr} {ns : List Int} (h : SqL K H a (ns.map V.int)) : Dp K H (.ref a) (.list (ns.map PyData.int)) := .lst h (dpAll_ints ns)
theorem eqvAll_ints : ∀ xs ys : List Int, PyData.eqvAll (xs.map PyData.int) (ys.map PyData.int) = decide (xs = ys)
  | [], [] => by simp [PyData.eqvAll]
  | [], _ :: _ => by simp [PyData.eqvAll]
  | _ :: _, [] => by simp [PyData.eqvAll]
  | x :: xs, y :: ys => by
    simp only [List.map_cons, PyData.eqvAll, PyData.eqv, eqvAll_ints xs ys]
    by_cases h : x = y <;> by_cases h2 : xs = ys <;> simp [h, h2]
theorem eqv_ints (xs ys : List Int) : PyData.eqv (.list (xs.map PyData.int)) (.list (ys.map PyData.int)) = decide (xs = ys) := by
  simp only [PyData.eqv]
  exact eqvAll_ints xs ys
def rEqI (K : PySem.W.Frag) : R2 := fun x y H Q => ∃ (a b : Addr) (xs ys : List Int), x = .ref a ∧ y = .ref b ∧ SqL K H a (xs.map V.int) ∧ SqL K H b (ys.map V.int) ∧ Q (.bl (decide (xs = ys))) H
def rNeI (K : PySem.W.Frag) : R2 := fun x y H Q => ∃ (a b : Addr) (xs ys : List Int), x = .ref a ∧ y = .ref b ∧ SqL K H a (xs.map V.int) ∧ SqL K H b (ys.map V.int) ∧ Q (.bl (!decide (xs = ys))) H
theorem eqIK {X : Cx} (K : PySem.W.Frag) (hu : X.A.units + 64 < cLine) (h : X.K = K := by rfl) : OpR X (compareOp .Eq) (rEqI K) := fun pins s σ H x y v u Q I rx ry q => by
  obtain ⟨a, b, xs, ys, rfl, rfl, h1, h2, q⟩ := q
  refine eqDK K hu h pins s σ H _ _ v u Q I rx ry ⟨_, _, dp_ints h1, dp_ints h2, PySem.W.shaped_ints xs, PySem.W.shaped_ints ys, ?_⟩
  rw [eqv_ints]
  exact q
theorem neIK {X : Cx} (K : PySem.W.Frag) (hu : X.A.units + 64 < cLine) (h : X.K = K := by rfl) : OpR X (compareOp .NotEq) (rNeI K) := fun pins s σ H x y v u Q I rx ry q => by
  obtain ⟨a, b, xs, ys, rfl, rfl, h1, h2, q⟩ := q
  refine neDK K hu h pins s σ H _ _ v u Q I rx ry ⟨_, _, dp_ints h1, dp_ints h2, PySem.W.shaped_ints xs, PySem.W.shaped_ints ys, ?_⟩
  rw [eqv_ints]
  exact q
theorem rep_flat (n : Nat) (z : Int) : (List.replicate n [V.int z]).flatten = (List.replicate n z).map V.int := by
  induction n with
  | zero => rfl
  | succ n ih => rw [List.replicate_succ, List.flatten_cons, ih, List.replicate_succ]; rfl
theorem rgV_ints (a b : Int) : ∃ ms : List Int, rgV a b = ms.map V.int ∧ ms.length = (b - a).toNat := by
  refine ⟨(List.range (b - a).toNat).map fun i => a + (i : Nat), ?_, by rw [List.length_map, List.length_range]⟩
  unfold rgV
  rw [List.map_map]
  rfl
/-! ### sizes -/
def big : Int := 10 ^ 59
theorem big_eq : (10 : Int) ^ (59 : Int).toNat = big := rfl
theorem big_ge : 1000 ≤ big := by decide +kernel
theorem big_bits : big.natAbs < 2 ^ 200 := by decide +kernel
def sizes (ws : List Int) : Prop := ∀ s ∈ ws, 1 ≤ s ∧ s ≤ big
theorem sizes_snoc {ws : List Int} {s : Int} (h : sizes ws) (h1 : 1 ≤ s) (h2 : s ≤ big) : sizes (ws ++ [s]) := fun x hx => by
  rcases List.mem_append.mp hx with e | e
  · exact h x e
  · rw [List.mem_singleton.mp e]
    exact ⟨h1, h2⟩
theorem sizes.ones {ws : List Int} (h : sizes ws) : ones ws := fun s hs => (h s hs).1
theorem sizes.reverse {ws : List Int} (h : sizes ws) : sizes ws.reverse := fun s hs => h s (List.mem_reverse.mp hs)
theorem sizes.take {ws : List Int} (h : sizes ws) (i : Nat) : sizes (ws.take i) := fun s hs => h s (List.mem_of_mem_take hs)
theorem sizes.at {ws : List Int} (h : sizes ws) {i : Nat} {s : Int} (e : ws[i]? = some s) : 1 ≤ s ∧ s ≤ big := h s (List.mem_of_getElem? e)
theorem size_bits {s : Int} (h : 1 ≤ s) (h2 : s ≤ big) : s.natAbs < 2 ^ 200 := wide_le (by omega) h2 big_bits
theorem prd_bits : ∀ {l : List Int}, sizes l → (prd l).natAbs < 2 ^ (200 * l.length + 1)
  | [], _ => by decide
  | s :: r, h => by
    have h1 := prd_bits (l := r) fun x hx => h x (List.mem_cons_of_mem _ hx)
    have h2 := h s List.mem_cons_self
    have h3 := wide_lt h1 (size_bits h2.1 h2.2)
    have e : 200 * (s :: r).length + 1 = 200 * r.length + 1 + 200 := by rw [List.length_cons]; omega
    rw [e]
    exact h3
theorem prd_snoc {ws : List Int} {i : Nat} {s : Int} (e : ws[i]? = some s) : prd (ws.take (i + 1)).reverse = prd (ws.take i).reverse * s := by
  rw [take_more e, List.reverse_append]
  rfl
theorem cut_all (xs : List V) {k : Nat} (h : xs.length ≤ k) : cutV xs none (some (k : Int)) = xs := by
  unfold cutV
  rw [HT.sIx_none, HT.sIx_nat, List.drop_zero, Nat.min_eq_right h, Nat.sub_zero, List.take_length]
end Ww
/-! sorted of a list of rows: lists of whole numbers -/
namespace Ww
open PySem PySem.Spec PyProof.Rows L2
def rowV (L : List (Addr × List Int)) : List V := L.map fun q => V.ref q.1
theorem alike_rows (b b' : Addr × List Int) : PySem.W.alike (.list (b.2.map PyData.int)) (.list (b'.2.map PyData.int)) = true := by
  rw [PySem.W.alike]
  exact PySem.W.alike_ints _ _
theorem rows_each {α : Type} {R : Value → α → Prop} {f : α → V} : ∀ {L : List α} {its : List Value}, Vals (L.map f) its → (∀ q ∈ L, ∀ v, RelV (f q) v → R v q) → PySem.W.EachIs R its L
  | [], [], _, _ => .nil
  | [], _ :: _, r, _ => by cases r
  | _ :: _, [], r, _ => by cases r
  | q :: L, v :: its, r, h => by
    cases r with
    | cons r1 r2 => exact .cons (h q List.mem_cons_self v r1) (rows_each r2 fun q hq => h q (List.mem_cons_of_mem _ hq))
theorem vals_rows : ∀ {L : List (Addr × List Int)} {its : List Value}, PySem.W.EachIs (fun v (q : Addr × List Int) => v = .ref q.1) its L → Vals (rowV L) its
  | [], [], _ => .nil
  | [], _ :: _, r => by cases r
  | _ :: _, [], r => by cases r
  | q :: L, v :: its, r => by
    cases r with
    | cons r1 r2 => exact .cons r1 (vals_rows r2)
def rSortedR (K : PySem.W.Frag) : List V → Hp → VK → Prop := fun vs H Q => ∃ (a : Addr) (L : List (Addr × List Int)), vs = [V.ref a] ∧ SqL K H a (rowV L) ∧ (∀ q ∈ L, SqL K H q.1 (q.2.map V.int)) ∧
  ∀ p : Addr, H p = none → Q (.ref p) (upd H p (.lst (rowV (L.mergeSort fun q r => decide (q.2 ≤ r.2)))))
theorem cr_sortedR {X : Cx} (K : PySem.W.Frag) (hu : X.A.units + 64 < cLine) (h : X.K = K := by rfl) : CallR X (.builtin "sorted") (rSortedR K) := by
  subst h
  intro pins s σ H vs us Q I r h
  obtain ⟨a, L, rfl, hs, hL, q⟩ := h
  obtain ⟨its, rv, hl, hz⟩ := I.list hs
  rw [Vals.ref1 r]
  have e1 : PySem.W.EachIs (fun v (q : Addr × List Int) => v = .ref q.1) its L := rows_each rv fun q _ v hv => hv
  have e2 : PySem.W.EachIs (fun v (q : Addr × List Int) => ∃ as, Reads s.heap v (.list (q.2.map PyData.int)) as) its L := rows_each rv fun q hq v hv => by
    obtain ⟨its2, rv2, hl2, _⟩ := I.list (hL q hq)
    have ev : v = .ref q.1 := hv
    subst ev
    exact ⟨_, PySem.W.reads_of_ints hl2.isList rv2.ints⟩
  have hln : L.length ≤ sizeLine := by
    unfold rowV at hz
    rw [List.length_map] at hz
    exact hz
  refine PySem.W.sorted_data (enc := fun q : Addr × List Int => .list (q.2.map PyData.int)) hl.isList e1 e2 (PySem.W.AllAlike.of alike_rows) (PySem.W.Sortable.others fun b => ⟨(fun x => nomatch x), fun xs x => nomatch x⟩) hln (fun b _ => ?_) fun out h1 h2 => ?_
  · have hd := PySem.W.depthAll_ints b.2
    simp only [PyData.depth]
    omega
  · rw [PySem.W.dataLe_rows (fun q : Addr × List Int => q.2)] at h2
    obtain ⟨ep, he'⟩ := PyProof.Rows.sortedAll_at s.heap its out.toArray
    have hlen : (rowV (L.mergeSort fun q r => decide (q.2 ≤ r.2))).length ≤ sizeLine := by
      unfold rowV
      rw [List.length_map, List.length_mergeSort]
      exact hln
    exact ⟨.ref _, upd H (s.heap.objs.size + 1) (.lst (rowV (L.mergeSort fun q r => decide (q.2 ≤ r.2)))), I.laid (t' := s.toks) (fun _ _ => PyProof.Rows.sortedAll_old) (Nat.le_succ _) ⟨hlen, out, ep, vals_rows h2, he'⟩, rfl, q _ (I.hok.fresh (Nat.le_succ _))⟩
/-- a list at o of rows, all laid since H1 -/
structure Rows (H1 H3 : Hp) (o : Addr) (L : List (Addr × List Int)) : Prop where
  same : Same H1 H3
  lst : H3 o = some (.lst (rowV L))
  each : ∀ q ∈ L, q.1 ≠ o ∧ H1 q.1 = none ∧ H3 q.1 = some (.lst (q.2.map V.int))
theorem Rows.nil {H1 : Hp} {o : Addr} (no : H1 o = none) : Rows H1 (upd H1 o (.lst [])) o [] := ⟨same_upd no, upd_same, fun _ h => by cases h⟩
theorem Rows.keep {H1 H3 H4 : Hp} {o : Addr} {L : List (Addr × List Int)} (R : Rows H1 H3 o L) (s : Same H3 H4) : Rows H1 H4 o L :=
  ⟨R.same.trans s, s _ _ R.lst, fun q hq => ⟨(R.each q hq).1, (R.each q hq).2.1, s _ _ (R.each q hq).2.2⟩⟩
theorem Rows.more {H1 H3 H4 : Hp} {o p : Addr} {r : List Int} {L : List (Addr × List Int)} (R : Rows H1 H3 o L) (no : H1 o = none) (s4 : Same H3 H4) (np : H3 p = none) (ep : H4 p = some (.lst (r.map V.int))) :
    Rows H1 (upd H4 o (.lst (rowV L ++ [.ref p]))) o (L ++ [(p, r)]) := by
  refine ⟨fun c u e => ?_, ?_, fun q hm => ?_⟩
  · rw [upd_ne (ne_of_none e no)]
    exact (R.same.trans s4) _ _ e
  · rw [upd_same]
    unfold rowV
    rw [List.map_append]
    rfl
  · rcases List.mem_append.mp hm with hm | hm
    · obtain ⟨q1, q2, q3⟩ := R.each q hm
      refine ⟨q1, q2, ?_⟩
      rw [upd_ne q1]
      exact s4 _ _ q3
    · rw [List.mem_singleton.mp hm]
      have npo : p ≠ o := (ne_of_none R.lst np).symm
      refine ⟨npo, R.same.free np, ?_⟩
      show upd H4 o _ p = some (.lst (r.map V.int))
      rw [upd_ne npo]
      exact ep
theorem Rows.seqs {K : PySem.W.Frag} {H1 H3 : Hp} {o : Addr} {L : List (Addr × List Int)} (R : Rows H1 H3 o L) : ∀ q ∈ L, SqL K H3 q.1 (q.2.map V.int) := fun q hq => SqL.of (R.each q hq).2.2
theorem cut_to (xs : List V) (k : Nat) : cutV xs none (some (k : Int)) = xs.take k := by
  unfold cutV
  rw [HT.sIx_none, HT.sIx_nat, List.drop_zero, Nat.sub_zero]
  by_cases h : k ≤ xs.length
  · rw [Nat.min_eq_left h]
  · rw [Nat.min_eq_right (by omega), List.take_length, List.take_of_length_le (by omega)]
theorem cut_from (xs : List V) (k : Nat) : cutV xs (some (k : Int)) none = xs.drop k := by
  unfold cutV
  rw [HT.sIx_none, HT.sIx_nat]
  by_cases h : k ≤ xs.length
  · rw [Nat.min_eq_left h, List.take_of_length_le (by rw [List.length_drop]; exact Nat.le_refl _)]
  · rw [Nat.min_eq_right (by omega), Nat.sub_self, List.take_zero, List.drop_of_length_le (by omega)]
theorem cut_set {st : List Int} {k : Nat} (z : Int) (h : k < st.length) : cutV (st.map V.int) none (some (k : Int)) ++ [V.int z] ++ cutV (st.map V.int) (some ((k + 1 : Nat) : Int)) none = (st.set k z).map V.int := by
  rw [cut_to, cut_from, List.set_eq_take_append_cons_drop, if_pos h, List.map_append, List.map_cons, List.map_take, List.map_drop, List.append_assoc]
  rfl
/-! lists of rows compared -/
theorem dpAll_rows {K : PySem.W.Frag} {H : Hp} : ∀ {L : List (Addr × List Int)}, (∀ q ∈ L, SqL K H q.1 (q.2.map V.int)) → DpAll K H (rowV L) ((L.map (·.2)).map fun r => PyData.list (r.map PyData.int))
  | [], _ => .nil
  | q :: L, h => .cons (dp_ints (h q List.mem_cons_self)) (dpAll_rows fun r hr => h r (List.mem_cons_of_mem _ hr))
theorem dp_rows {K : PySem.W.Frag} {H : Hp} {a : Addr} {L : List (Addr × List Int)} (h : SqL K H a (rowV L)) (h2 : ∀ q ∈ L, SqL K H q.1 (q.2.map V.int)) : Dp K H (.ref a) (.list ((L.map (·.2)).map fun r => PyData.list (r.map PyData.int))) := .lst h (dpAll_rows h2)
theorem canLay_rows : ∀ rs : List (List Int), PyData.canLayAll0 (rs.map fun r => PyData.list (r.map PyData.int)) = true
  | [] => by simp [PyData.canLayAll0]
  | r :: rs => by simp [PyData.canLayAll0, PyData.canLay0, canLay_rows rs, PySem.W.canLayAll0_ints r]
theorem depth_rows : ∀ rs : List (List Int), PyData.depthAll (rs.map fun r => PyData.list (r.map PyData.int)) ≤ 3
  | [] => by simp [PyData.depthAll]
  | r :: rs => by
    have h1 := depth_rows rs
    have h2 := PySem.W.depthAll_ints r
    simp only [List.map_cons, PyData.depthAll, PyData.depth]
    omega
theorem shaped_rows (rs : List (List Int)) : SeqAt.shaped (.list (rs.map fun r => PyData.list (r.map PyData.int))) = true := by
  have h1 := depth_rows rs
  have h2 : PyData.depth (.list (rs.map fun r => PyData.list (r.map PyData.int))) ≤ 64 := by simp only [PyData.depth]; omega
  show (PyData.canLay0 (.list (rs.map fun r => PyData.list (r.map PyData.int))) && decide (PyData.depth (.list (rs.map fun r => PyData.list (r.map PyData.int))) ≤ 64)) = true
  rw [Bool.and_eq_true]
  exact ⟨by simp only [PyData.canLay0]; exact canLay_rows rs, decide_eq_true h2⟩
theorem eqv_refl_rows (rs : List (List Int)) : PyData.eqv (.list (rs.map fun r => PyData.list (r.map PyData.int))) (.list (rs.map fun r => PyData.list (r.map PyData.int))) = true :=
  SeqAt.eqv_refl _ (SeqAt.canLay_of_shaped (shaped_rows rs))
end Ww
namespace Ww
open PySem PySem.Spec PyProof.Rows L2
section
variable {P : Program} {w : World} {K : PySem.W.Frag} {mg : Str → Option Value} {base : Heap}
/-! ### _law_cell_at: some number -/
def sp_cell_at (K : PySem.W.Frag) : Sp := fun vs H Q _ => ∃ (a : Addr) (ns : List Int) (k : Nat), vs = [.ref a, .int k] ∧ SqL K H a (ns.map V.int) ∧ ∀ z : Int, Q (.int z) H
theorem ok_cell_at (D : Df K mg "_law_cell_at" s_law_cell_at ["_law_script", "_law_k"]) (B : Bi mg) : Ok P w K mg base "_law_cell_at" ["_law_script", "_law_k"] 1 (sp_cell_at K) := by
  refine D.ok sc_law_cell_at (fun vs H Q E h => ?_) (fun f cdv A outer s H vs Q E hr h => ?_)
  · obtain ⟨a, ns, k, rfl, _⟩ := h
    rfl
  · obtain ⟨a, ns, k, rfl, hS, q⟩ := h
    refine ⟨_, (pss_cons (ps_if (pt_cmpR op_lt (pv 1) (pe_callB (lenK K) (by rfl) B.len PySem.boot_len (pa_cons (pv 0) pa_nil)) (nomark _))
        (pss_one (ps_ret (pe_ix (ixL K) (pv 0) (pv 1) (fun _ _ => rfl))))
        pss_nil)
      (pss_one (ps_ret pe_int))), ?_⟩
    walk_at "w"
    refine ⟨a, _, rfl, .inl hS, ?_⟩
    walk_at "w"
    refine ite2 (fun c => ?_) (fun _ => q _)
    have c2 : k < ns.length := by
      have := of_decide_eq_true c
      rw [List.length_map] at this
      omega
    walk_at "w"
    exact ⟨a, _, _, _, rfl, rfl, hS, atI_nat (at_map_int (List.getElem?_eq_getElem c2)), q _⟩
/-! ### _law_draw: some number from 0 to one below the most -/
def primes : List Int := [1000003, 1000033, 1000037, 1000039, 1000081, 1000099, 1000117, 1000121, 1000133, 1000151, 1000159, 1000171, 1000183, 1000187, 1000193, 1000199]
theorem primes_pos : ∀ z ∈ primes, 0 < z := by decide
def sp_draw : Sp := fun vs H Q _ => ∃ c k m : Int, vs = [.int c, .int k, .int m] ∧ 0 < m ∧ ∀ (z : Int) (H' : Hp), 0 ≤ z → z < m → Same H H' → Q (.int z) H'
theorem ok_draw (D : Df K mg "_law_draw" s_law_draw ["_law_cell", "_law_k", "_law_many"]) (B : Bi mg) : Ok P w K mg base "_law_draw" ["_law_cell", "_law_k", "_law_many"] 1 sp_draw := by
  refine D.ok sc_law_draw (fun vs H Q E h => ?_) (fun f cdv A outer s H vs Q E hr h => ?_)
  · obtain ⟨c, k, m, rfl, _⟩ := h
    rfl
  · obtain ⟨c, k, m, rfl, hm, q⟩ := h
    refine ⟨_, (pss_cons (ps_set (i := 3) sc_law_draw.nd rfl (.inl rfl) (pe_tup (pa_cons pe_int (pa_cons pe_int (pa_cons pe_int (pa_cons pe_int (pa_cons pe_int (pa_cons pe_int (pa_cons pe_int (pa_cons pe_int (pa_cons pe_int (pa_cons pe_int (pa_cons pe_int (pa_cons pe_int (pa_cons pe_int (pa_cons pe_int (pa_cons pe_int (pa_cons pe_int pa_nil))))))))))))))))))
      (pss_one (ps_ret (pe_op op_mod (pe_op op_mod (pe_op op_add (pe_op op_mul (pv 0) pe_int) (pe_op op_mul (pv 1) pe_int)) (pe_ix (ixT K) (pv 3) (pe_op op_mod (pv 1) pe_int) (fun _ _ => rfl))) (pv 2))))), ?_⟩
    refine ⟨by show 16 ≤ sizeLine; decide, fun p np => ?_⟩
    refine ⟨_, rfl, _, _, rfl, rfl, .inr ⟨by decide, by decide⟩, _, rfl, _, _, rfl, rfl, .inr ⟨by decide, by decide⟩, _, _, rfl, rfl, _, rfl, _, rfl, _, _, rfl, rfl, by show (0 : Int) < 16; decide, ?_⟩
    have h0 : 0 ≤ k % 16 := Int.emod_nonneg _ (by decide)
    have h1 : k % 16 < 16 := Int.emod_lt_of_pos _ (by decide)
    obtain ⟨j, ej⟩ : ∃ j : Nat, k % 16 = (j : Int) := ⟨(k % 16).toNat, by omega⟩
    have hj : j < primes.length := by show j < 16; omega
    have hp : 0 < primes[j] := primes_pos _ (List.getElem_mem hj)
    have hi : (primes.map V.int)[j]? = some (V.int primes[j]) := at_map_int (List.getElem?_eq_getElem hj)
    refine ⟨p, primes.map V.int, _, _, rfl, rfl, SqT.of upd_same, at_of ej hi, _, _, rfl, rfl, hp, _, rfl, _, _, rfl, rfl, hm, ?_⟩
    exact q _ _ (Int.emod_nonneg _ (by omega)) (Int.emod_lt_of_pos _ hm) (same_upd np)
/-! ### _law_wheels: some sizes, one for each number -/
def kinds : List Int := [4, 2, 9, 40, 3, 1]
theorem kinds_in : ∀ z ∈ kinds, 0 < z ∧ z ≤ 40 := by decide
def sp_wheels (K : PySem.W.Frag) : Sp := fun vs H Q _ => ∃ (a : Addr) (ns : List Int), vs = [.ref a] ∧ SqL K H a (ns.map V.int) ∧ ns.length ≤ 63 ∧
  ∀ (ws : List Int) (p : Addr) (H' : Hp), sizes ws → ws.length = ns.length → Same H H' → H p = none → H' p = some (.lst (ws.map V.int)) → Q (.ref p) H'
theorem ok_wheels (D : Df K mg "_law_wheels" s_law_wheels ["_law_script"]) (B : Bi mg) (G_law_cell_at : Ok P w K mg base "_law_cell_at" ["_law_script", "_law_k"] 1 (sp_cell_at K))
    (G_law_draw : Ok P w K mg base "_law_draw" ["_law_cell", "_law_k", "_law_many"] 1 sp_draw) : Ok P w K mg base "_law_wheels" ["_law_script"] 2 (sp_wheels K) := by
  refine D.ok sc_law_wheels (fun vs H Q E h => ?_) (fun f cdv A outer s H vs Q E hr h => ?_)
  · obtain ⟨a, ns, rfl, _⟩ := h
    rfl
  · obtain ⟨a, ns, rfl, hS, hlen, q⟩ := h
    refine ⟨_, (pss_cons (ps_set (i := 0) sc_law_wheels.nd rfl (.inl rfl) (pe_slice (slL K) (pv 0) po_none (po_some pe_int)))
      (pss_cons (ps_set (i := 1) sc_law_wheels.nd rfl (.inl rfl) (pe_ok G_law_draw hr (by decide) (pa_cons (pe_ok G_law_cell_at hr (by decide) (pa_cons (pv 0) (pa_cons pe_int pa_nil))) (pa_cons pe_int (pa_cons pe_int pa_nil)))))
      (pss_cons (ps_set (i := 2) sc_law_wheels.nd rfl (.inl rfl) (pe_lst pa_nil))
      (pss_cons (ps_for PassesOwn.never rfl (pi_range1 (by rfl) B.range (pa_cons (pe_callB (lenK K) (by rfl) B.len PySem.boot_len (pa_cons (pv 0) pa_nil)) pa_nil)) (pg_name (i := 3) sc_law_wheels.nd rfl (.inl rfl))
        (pss_cons (ps_set (i := 4) sc_law_wheels.nd rfl (.inl rfl) (pe_op op_add pe_int (pe_ok G_law_draw hr (by decide) (pa_cons (pe_ix (ixL K) (pv 0) (pv 3) (fun _ _ => rfl)) (pa_cons (pe_op op_add (pe_op op_mod (pv 3) pe_int) pe_int) (pa_cons (pe_ix (ixT K) (pe_tup (pa_cons pe_int (pa_cons pe_int (pa_cons pe_int (pa_cons pe_int (pa_cons pe_int (pa_cons pe_int pa_nil))))))) (pv 1) (fun _ _ => rfl)) pa_nil))))))
        (pss_cons (ps_if (pt_cmpR op_eq (pv 1) pe_int (nomark _))
          (pss_one (ps_set (i := 4) sc_law_wheels.nd rfl (.inl rfl) (pe_op op_add (pe_op op_mul (pe_op op_fdiv (pv 4) pe_int) pe_int) pe_int)))
          pss_nil)
        (pss_cons (ps_if (PW.pt (pw_and (pt_cmpR op_eq (pv 1) pe_int (nomark _)) (pw_and1 (pt_cmpR op_gt (pv 3) pe_int (nomark _)))))
          (pss_one (ps_set (i := 4) sc_law_wheels.nd rfl (.inl rfl) pe_int))
          pss_nil)
        (pss_cons (ps_if (pt_cmpR op_eq (pv 1) pe_int (nomark _))
          (pss_one (ps_set (i := 4) sc_law_wheels.nd rfl (.inl rfl) (pe_op op_add pe_int (pe_op op_mod (pe_op op_fdiv (pe_ix (ixL K) (pv 0) (pv 3) (fun _ _ => rfl)) pe_int) (pe_op op_pow pe_int pe_int)))))
          pss_nil)
        (pss_one (ps_expr (pe_bm PySem.F.plainAttrs_list PySem.F.slot_list_append PySem.F.type_list_append mt_append (pv 2) (pa_cons (pv 4) pa_nil)))))))))
      (pss_one (ps_ret (pv 2))))))), ?_⟩
    -- _law_script = _law_script[:63]
    refine ⟨_, rfl, _, rfl, a, _, rfl, hS, fun c nc => ?_⟩
    have e63 : cutV (ns.map V.int) none (some 63) = ns.map V.int := cut_all _ (k := 63) (by rw [List.length_map]; exact hlen)
    rw [e63]
    have sc : Same H (upd H c (.lst (ns.map V.int))) := same_upd nc
    -- kind
    refine ⟨_, rfl, c, ns, 0, rfl, SqL.of upd_same, fun cl => ?_⟩
    refine ⟨_, _, _, rfl, (by decide), fun kd H1 k0 k1 s1 => ?_⟩
    have hC : SqL K H1 c (ns.map V.int) := s1.seq (SqL.of upd_same)
    -- found = []
    refine ⟨Nat.zero_le _, fun o no => ?_⟩
    have sH : Same H H1 := sc.trans s1
    -- the loop
    refine ⟨_, rfl, c, _, rfl, .inl ((same_upd no).seq hC), _, rfl, (by omega), (by rw [List.length_map]; omega), ?_⟩
    refine for_range (lo := 0) (fun i σ H3 => ∃ (ws : List Int) (y3 y4 : Option V), σ = [some (.ref c), some (.int kd), some (.ref o), y3, y4] ∧ ws.length = i ∧ sizes ws ∧ Same H1 H3 ∧ H3 o = some (.lst (ws.map V.int)))
      ⟨[], none, none, rfl, rfl, (fun _ h => by cases h), same_upd no, upd_same⟩ ?_ ?_
    · rintro i σ H3 hi ⟨ws, y3, y4, rfl, ew, hw, s3, eo⟩
      rw [List.length_map, Int.toNat_natCast] at hi
      have hC3 : SqL K H3 c (ns.map V.int) := s3.seq hC
      have g : (ns.map V.int)[i]? = some (.int ns[i]) := at_map_int (List.getElem?_eq_getElem hi)
      -- size = 1 + draw(..)
      refine ⟨_, rfl, _, rfl, c, _, _, _, rfl, rfl, hC3, at_of (j := i) (by omega) g, _, rfl, _, _, rfl, rfl, (by show (0 : Int) < 5; decide), _, _, rfl, rfl, (by show 6 ≤ sizeLine; decide), fun t nt => ?_⟩
      obtain ⟨j, ej⟩ : ∃ j : Nat, kd = (j : Int) := ⟨kd.toNat, by omega⟩
      have hj : j < kinds.length := by show j < 6; omega
      have hp := kinds_in _ (List.getElem_mem hj)
      have hk : (kinds.map V.int)[j]? = some (V.int kinds[j]) := at_map_int (List.getElem?_eq_getElem hj)
      refine ⟨_, rfl, t, kinds.map V.int, _, _, rfl, rfl, SqT.of upd_same, at_of ej hk, _, _, _, rfl, hp.1, fun z H4 z0 z1 s4 => ?_⟩
      have st : Same H3 H4 := (same_upd nt).trans s4
      have eo4 : H4 o = some (.lst (ws.map V.int)) := st _ _ eo
      have hC4 : SqL K H4 c (ns.map V.int) := st.seq hC3
      have bg := big_ge
      refine ⟨_, _, rfl, rfl, ?_⟩
      have fin : ∀ sz : Int, 1 ≤ sz → sz ≤ big → ∃ (ws' : List Int) (y3 y4 : Option V), [some (.ref c), some (.int kd), some (.ref o), some (.int (0 + (i : Int))), some (.int sz)] = [some (.ref c), some (.int kd), some (.ref o), y3, y4] ∧ ws'.length = i + 1 ∧ sizes ws' ∧ Same H1 (upd H4 o (.lst (ws.map V.int ++ [.int sz]))) ∧ (upd H4 o (.lst (ws.map V.int ++ [.int sz]))) o = some (.lst (ws'.map V.int)) := by
        intro sz h1 h2
        refine ⟨ws ++ [sz], _, _, rfl, by rw [List.length_append, ew]; rfl, sizes_snoc hw h1 h2, fun b u e => ?_, by rw [upd_same, List.map_append]; rfl⟩
        rw [upd_ne (ne_of_none e no)]
        exact (s3.trans st) _ _ e
      have hz : ∀ sz : Int, (ws.map V.int).length < sizeLine := fun _ => by rw [List.length_map]; exact lt_line (by omega)
      -- kind == 2
      refine ⟨_, rfl, rfl, _, rfl, ite2 (fun c2 => ?_) (fun _ => ?_)⟩
      all_goals first
        | (refine ⟨_, rfl, _, _, rfl, rfl, ⟨by decide, by decide⟩, _, _, rfl, rfl, .inr ⟨by decide, by decide⟩, _, _, rfl, rfl, ?_⟩
           have b1 : 1 ≤ (1 + z) / 2 * 2 + 1 := by omega
           have b2 : (1 + z) / 2 * 2 + 1 ≤ big := by omega)
        | (have b1 : 1 ≤ 1 + z := by omega
           have b2 : 1 + z ≤ big := by omega)
      -- kind == 4 and k > 2
      all_goals refine ⟨_, rfl, rfl, _, rfl, ite2 (fun c4 => ?_) (fun _ => iteF ?_)⟩
      all_goals try (refine ⟨_, rfl, _, _, rfl, rfl, _, rfl, ite2 (fun _ => ?_) (fun _ => ?_)⟩)
      -- kind == 5
      all_goals refine ⟨_, rfl, rfl, _, rfl, ite2 (fun c5 => ?_) (fun _ => ?_)⟩
      all_goals first
        | exact ⟨_, rfl, .inl ⟨rfl, _, SqL.of eo4⟩, _, rfl, o, _, _, rfl, rfl, eo4, hz 0, fin _ b1 b2⟩
        | exact ⟨_, rfl, .inl ⟨rfl, _, SqL.of eo4⟩, _, rfl, o, _, _, rfl, rfl, eo4, hz 0, fin 1 (by decide) (by omega)⟩
        | (refine ⟨_, rfl, _, rfl, c, _, _, _, rfl, rfl, hC4, at_of (j := i) (by omega) g, _, _, rfl, rfl, ⟨by decide, by decide⟩, _, _, rfl, rfl, ⟨by decide, by decide, by decide⟩, _, _, rfl, rfl, (by show 0 < big; omega), _, _, rfl, rfl, ?_⟩
           have hb0 : 0 < big := by omega
           have m0 := Int.emod_nonneg (ns[i] / 7) (show big ≠ 0 by omega)
           have m1 := Int.emod_lt_of_pos (ns[i] / 7) hb0
           exact ⟨_, rfl, .inl ⟨rfl, _, SqL.of eo4⟩, _, rfl, o, _, _, rfl, rfl, eo4, hz 0, fin (1 + ns[i] / 7 % big) (by omega) (by omega)⟩)
    · rintro σ H3 ⟨ws, y3, y4, rfl, ew, hw, s3, eo⟩
      rw [List.length_map, Int.toNat_natCast] at ew
      exact ⟨_, rfl, q ws o H3 hw ew (sH.trans s3) (sH.free no) eo⟩
end
end Ww
namespace Ww
open PySem PySem.Spec PyProof.Rows L2
section
variable {P : Program} {w : World} {K : PySem.W.Frag} {mg : Str → Option Value} {base : Heap}
/-! ### _law_setting: some setting -/
def sp_setting (K : PySem.W.Frag) : Sp := fun vs H Q _ => ∃ (a b : Addr) (ns ws : List Int) (by_ : Int), vs = [.ref a, .ref b, .int by_] ∧ SqL K H a (ns.map V.int) ∧ SqL K H b (ws.map V.int) ∧ ws.length ≤ ns.length ∧ ws.length ≤ 1000 ∧ ones ws ∧
  ∀ (st : List Int) (p : Addr) (H' : Hp), okS ws st → Same H H' → H p = none → H' p = some (.lst (st.map V.int)) → Q (.ref p) H'
theorem okS_snoc {ws st : List Int} {i : Nat} {s v : Int} (h : okS (ws.take i) st) (e : ws[i]? = some s) (h0 : 0 ≤ v) (h1 : v < s) : okS (ws.take (i + 1)) (st ++ [v]) := by
  rw [take_more e]
  exact okS_append h ⟨h0, h1, trivial⟩
theorem ok_setting (D : Df K mg "_law_setting" s_law_setting ["_law_script", "_law_wheels_here", "_law_by"]) (B : Bi mg) (G_law_cell_at : Ok P w K mg base "_law_cell_at" ["_law_script", "_law_k"] 1 (sp_cell_at K))
    (G_law_draw : Ok P w K mg base "_law_draw" ["_law_cell", "_law_k", "_law_many"] 1 sp_draw) : Ok P w K mg base "_law_setting" ["_law_script", "_law_wheels_here", "_law_by"] 2 (sp_setting K) := by
  refine D.ok sc_law_setting (fun vs H Q E h => ?_) (fun f cdv A outer s H vs Q E hr h => ?_)
  · obtain ⟨a, b, ns, ws, by_, rfl, _⟩ := h
    rfl
  · obtain ⟨a, b, ns, ws, by_, rfl, hS, hW, hle, hlen, ho, q⟩ := h
    refine ⟨_, (pss_cons (ps_set (i := 3) sc_law_setting.nd rfl (.inl rfl) (pe_ok G_law_draw hr (by decide) (pa_cons (pe_ok G_law_cell_at hr (by decide) (pa_cons (pv 0) (pa_cons pe_int pa_nil))) (pa_cons (pv 2) (pa_cons pe_int pa_nil)))))
      (pss_cons (ps_set (i := 4) sc_law_setting.nd rfl (.inl rfl) (pe_lst pa_nil))
      (pss_cons (ps_for PassesOwn.never rfl (pi_enum (by rfl) B.enumerate (pa_cons (pv 1) pa_nil)) (pg_tup rfl (pgs_cons (pg_name (i := 5) sc_law_setting.nd rfl (.inl rfl)) (pgs_cons (pg_name (i := 6) sc_law_setting.nd rfl (.inl rfl)) pgs_nil)))
        (pss_cons (ps_set (i := 7) sc_law_setting.nd rfl (.inl rfl) (pe_op op_mod (pe_op op_add (pe_op op_fdiv (pe_ix (ixL K) (pv 0) (pv 5) (fun _ _ => rfl)) pe_int) (pe_ok G_law_draw hr (by decide) (pa_cons (pe_ix (ixL K) (pv 0) (pv 5) (fun _ _ => rfl)) (pa_cons (pe_op op_add (pe_op op_mod (pv 5) pe_int) (pv 2)) (pa_cons pe_int pa_nil))))) (pv 6)))
        (pss_cons (ps_if (PW.pt (pw_and (pt_cmpR op_eq (pv 3) pe_int (nomark _)) (pw_and1 (pt_cmpR op_gt (pe_op op_mod (pv 7) pe_int) pe_int (nomark _)))))
          (pss_one (ps_set (i := 7) sc_law_setting.nd rfl (.inl rfl) (pe_op op_sub (pv 6) pe_int)))
          pss_nil)
        (pss_cons (ps_if (PW.pt (pw_and (pt_cmpR op_eq (pv 3) pe_int (nomark _)) (pw_and1 (pt_cmpR op_gt (pe_op op_mod (pv 7) pe_int) pe_int (nomark _)))))
          (pss_one (ps_set (i := 7) sc_law_setting.nd rfl (.inl rfl) pe_int))
          pss_nil)
        (pss_one (ps_expr (pe_bm PySem.F.plainAttrs_list PySem.F.slot_list_append PySem.F.type_list_append mt_append (pv 4) (pa_cons (pv 7) pa_nil))))))))
      (pss_one (ps_ret (pv 4)))))), ?_⟩
    refine ⟨_, rfl, a, ns, 1, rfl, hS, fun cl => ?_⟩
    refine ⟨_, rfl, _, _, _, rfl, (by decide), fun kd H1 k0 k1 s1 => ?_⟩
    refine ⟨Nat.zero_le _, fun o no => ?_⟩
    have s2 : Same H (upd H1 o (.lst [])) := s1.trans (same_upd no)
    refine ⟨_, rfl, b, _, rfl, s2.seq hW, ?_⟩
    refine for_enumL (K := K) (a := b) (xs := ws.map V.int) (fun i σ H3 => ∃ (st : List Int) (y5 y6 y7 : Option V), σ = [some (.ref a), some (.ref b), some (.int by_), some (.int kd), some (.ref o), y5, y6, y7] ∧ okS (ws.take i) st ∧ Same H1 H3 ∧ H3 o = some (.lst (st.map V.int)))
      ⟨[], none, none, none, rfl, trivial, same_upd no, upd_same⟩ (fun i σ H3 ⟨_, _, _, _, _, _, s3, _⟩ => (s1.trans s3).seq hW) ?_ ?_
    · rintro i x T σ H3 hx ⟨st, y5, y6, y7, rfl, hok, s3, eo⟩ nT
      obtain ⟨sz, hsz, rfl⟩ := map_int_at hx
      have hone : 1 ≤ sz := ho _ (List.mem_of_getElem? hsz)
      have hiw : i < ws.length := (List.getElem?_eq_some_iff.mp hsz).1
      have hi : i < ns.length := by omega
      have sT : Same H3 (upd H3 T (.tup [.int (i : Nat), .int sz])) := same_upd nT
      have sHT : Same H (upd H3 T (.tup [.int (i : Nat), .int sz])) := (s1.trans s3).trans sT
      have hS3 := sHT.seq hS
      have g : (ns.map V.int)[i]? = some (.int ns[i]) := at_map_int (List.getElem?_eq_getElem hi)
      refine ⟨T, [.int (i : Nat), .int sz], rfl, SqT.of upd_same, rfl, .int (i : Nat), [.int sz], rfl, .int sz, [], rfl, rfl, ?_⟩
      refine ⟨_, rfl, _, rfl, a, _, _, _, rfl, rfl, hS3, at_of (j := i) rfl g, _, _, rfl, rfl, ⟨by decide, by decide⟩, ?_⟩
      refine ⟨_, rfl, _, rfl, a, _, _, _, rfl, rfl, hS3, at_of (j := i) rfl g, _, rfl, _, _, rfl, rfl, (by show (0 : Int) < 4; decide), _, rfl, _, _, rfl, rfl, ?_⟩
      refine ⟨_, _, _, rfl, (by decide), fun z H4 z0 z1 s4 => ?_⟩
      refine ⟨_, _, rfl, rfl, _, rfl, _, _, rfl, rfl, (by show 0 < sz; omega), ?_⟩
      have eo4 : H4 o = some (.lst (st.map V.int)) := s4 _ _ (sT _ _ eo)
      have s14 : Same H1 H4 := (s3.trans sT).trans s4
      have hlst : st.length = i := by
        have := okS_len hok
        rw [List.length_take] at this
        omega
      have hz : (st.map V.int).length < sizeLine := by rw [List.length_map]; exact lt_line (by omega)
      have b0 : 0 ≤ (ns[i] / 3 + z) % sz := Int.emod_nonneg _ (by omega)
      have b1 : (ns[i] / 3 + z) % sz < sz := Int.emod_lt_of_pos _ (by omega)
      have fin : ∀ v : Int, 0 ≤ v → v < sz → ∃ (st' : List Int) (y5 y6 y7 : Option V), [some (.ref a), some (.ref b), some (.int by_), some (.int kd), some (.ref o), some (.int (i : Nat)), some (.int sz), some (.int v)] = [some (.ref a), some (.ref b), some (.int by_), some (.int kd), some (.ref o), y5, y6, y7] ∧ okS (ws.take (i + 1)) st' ∧ Same H1 (upd H4 o (.lst (st.map V.int ++ [.int v]))) ∧ (upd H4 o (.lst (st.map V.int ++ [.int v]))) o = some (.lst (st'.map V.int)) := by
        intro v h0 h1
        refine ⟨st ++ [v], _, _, _, rfl, okS_snoc hok hsz h0 h1, fun c u e => ?_, by rw [upd_same, List.map_append]; rfl⟩
        rw [upd_ne (ne_of_none e no)]
        exact s14 _ _ e
      refine ⟨_, rfl, rfl, _, rfl, ite2 (fun c1 => ?_) (fun _ => iteF ?_)⟩
      all_goals try (refine ⟨_, rfl, _, _, rfl, rfl, (by show (0 : Int) < 3; decide), _, _, rfl, rfl, _, rfl, ite2 (fun _ => ⟨_, rfl, _, _, rfl, rfl, ?_⟩) (fun _ => ?_)⟩)
      all_goals refine ⟨_, rfl, rfl, _, rfl, ite2 (fun c2 => ?_) (fun _ => iteF ?_)⟩
      all_goals try (refine ⟨_, rfl, _, _, rfl, rfl, (by show (0 : Int) < 3; decide), _, _, rfl, rfl, _, rfl, ite2 (fun _ => ?_) (fun _ => ?_)⟩)
      all_goals first
        | exact ⟨_, rfl, .inl ⟨rfl, _, SqL.of eo4⟩, _, rfl, o, _, _, rfl, rfl, eo4, hz, fin _ b0 b1⟩
        | exact ⟨_, rfl, .inl ⟨rfl, _, SqL.of eo4⟩, _, rfl, o, _, _, rfl, rfl, eo4, hz, fin (sz - 1) (by omega) (by omega)⟩
        | exact ⟨_, rfl, .inl ⟨rfl, _, SqL.of eo4⟩, _, rfl, o, _, _, rfl, rfl, eo4, hz, fin 0 (by omega) (by omega)⟩
    · rintro σ H3 ⟨st, y5, y6, y7, rfl, hok, s3, eo⟩
      rw [List.length_map, List.take_length] at hok
      exact ⟨_, rfl, q st o H3 hok (s1.trans s3) (s1.free no) eo⟩
/-! ### _law_count: the product -/
def sp_count (K : PySem.W.Frag) : Sp := fun vs H Q _ => ∃ (a : Addr) (ws : List Int), vs = [.ref a] ∧ SqL K H a (ws.map V.int) ∧ sizes ws ∧ ws.length ≤ 1000 ∧ Q (.int (prd ws)) H
theorem ok_count (D : Df K mg "_law_count" s_law_count ["_law_wheels_here"]) (B : Bi mg) : Ok P w K mg base "_law_count" ["_law_wheels_here"] 1 (sp_count K) := by
  refine D.ok sc_law_count (fun vs H Q E h => ?_) (fun f cdv A outer s H vs Q E hr h => ?_)
  · obtain ⟨a, ws, rfl, _⟩ := h
    rfl
  · obtain ⟨a, ws, rfl, hW, hs, hlen, q⟩ := h
    refine ⟨_, (pss_cons (ps_set (i := 1) sc_law_count.nd rfl (.inl rfl) pe_int)
      (pss_cons (ps_for PassesOwn.never rfl (pi_list (pv 0)) (pg_name (i := 2) sc_law_count.nd rfl (.inl rfl))
        (pss_one (ps_set (i := 1) sc_law_count.nd rfl (.inl rfl) (pe_op op_mulX (pv 1) (pv 2)))))
      (pss_one (ps_ret (pv 1))))), ?_⟩
    refine ⟨_, rfl, a, rfl, ⟨_, hW⟩, for_list (K := K) (a := a) (xs := ws.map V.int) (fun i σ H3 => ∃ y2 : Option V, σ = [some (.ref a), some (.int (prd (ws.take i).reverse)), y2] ∧ H3 = H)
      ⟨none, rfl, rfl⟩ (fun i σ H3 _ ⟨_, _, e⟩ => by rw [e]; exact hW) ?_ ?_⟩
    · rintro i x σ H3 hx ⟨y2, rfl, rfl⟩
      obtain ⟨sz, hsz, rfl⟩ := map_int_at hx
      have hi : i < ws.length := (List.getElem?_eq_some_iff.mp hsz).1
      have b1 := prd_bits (l := (ws.take i).reverse) (hs.take i).reverse
      have b2 := size_bits (hs.at hsz).1 (hs.at hsz).2
      refine ⟨_, rfl, _, rfl, _, _, rfl, rfl, mulx_ok b1 b2 ?_, some (.int sz), ?_, rfl⟩
      · rw [List.length_reverse, List.length_take]
        omega
      · rw [prd_snoc hsz]
        rfl
    · rintro σ H3 ⟨y2, rfl, rfl⟩
      refine ⟨_, rfl, ?_⟩
      rw [List.length_map, List.take_length, prd_reverse]
      exact q
/-! ### _law_is_setting -/
def chk (ws fs : List Int) (i : Nat) : List Bool := (List.range i).map fun k => decide (0 ≤ fs.getD k 0) && decide (fs.getD k 0 < ws.getD k 0)
def isB (ws fs : List Int) : Bool := decide (fs.length = ws.length) && (chk ws fs ws.length).all id
theorem isB_of {ws fs : List Int} (h : okS ws fs) : isB ws fs = true := by
  have e := okS_len h
  unfold isB
  rw [decide_eq_true e, Bool.true_and, List.all_eq_true]
  intro b hb
  unfold chk at hb
  rw [List.mem_map] at hb
  obtain ⟨k, hk, rfl⟩ := hb
  have hk2 := List.mem_range.mp hk
  have g1 : ws[k]? = some ws[k] := List.getElem?_eq_getElem hk2
  have g2 : fs[k]? = some (fs[k]'(by omega)) := List.getElem?_eq_getElem (by omega)
  have z := okS_at h g1 g2
  rw [List.getD_eq_getElem?_getD, List.getD_eq_getElem?_getD, g1, g2]
  show (decide (0 ≤ fs[k]'(by omega)) && decide (fs[k]'(by omega) < ws[k])) = true
  rw [decide_eq_true z.1, decide_eq_true z.2]
  rfl
theorem of_isB {ws fs : List Int} (h : isB ws fs = true) : okS ws fs := by
  unfold isB at h
  rw [Bool.and_eq_true] at h
  have e := of_decide_eq_true h.1
  refine okS_of e fun i s p e1 e2 => ?_
  have hi : i < ws.length := (List.getElem?_eq_some_iff.mp e1).1
  have h2 := List.all_eq_true.mp h.2 _ (List.mem_map.mpr ⟨i, List.mem_range.mpr hi, rfl⟩)
  rw [List.getD_eq_getElem?_getD, List.getD_eq_getElem?_getD, e1, e2] at h2
  have h3 : (decide (0 ≤ p) && decide (p < s)) = true := h2
  rw [Bool.and_eq_true] at h3
  exact ⟨of_decide_eq_true h3.1, of_decide_eq_true h3.2⟩
def sp_is_setting (K : PySem.W.Frag) : Sp := fun vs H Q _ => ∃ (a b : Addr) (ws fs : List Int), vs = [.ref a, .ref b] ∧ SqL K H a (ws.map V.int) ∧ SqL K H b (fs.map V.int) ∧ ws.length ≤ 1000 ∧ fs.length ≤ 1000 ∧
  ∀ H' : Hp, Same H H' → Q (.bl (isB ws fs)) H'
theorem any_rep (n : Nat) : (List.replicate n false).any id = false := by
  induction n with
  | zero => rfl
  | succ n ih => rw [List.replicate_succ, List.any_cons, ih]; rfl
theorem ok_is_setting (D : Df K mg "_law_is_setting" s_law_is_setting ["_law_wheels_here", "_law_found"]) (B : Bi mg) : Ok P w K mg base "_law_is_setting" ["_law_wheels_here", "_law_found"] 1 (sp_is_setting K) := by
  refine D.ok sc_law_is_setting (fun vs H Q E h => ?_) (fun f cdv A outer s H vs Q E hr h => ?_)
  · obtain ⟨a, b, ws, fs, rfl, _⟩ := h
    rfl
  · obtain ⟨a, b, ws, fs, rfl, hW, hF, lw, lf, q⟩ := h
    refine ⟨_, (pss_cons (ps_if (PW.pt (pw_or (pt_not (pt_val (pe_callB (isiK K) (by rfl) B.isinstance (by decide +kernel) (pa_cons (pv 1) (pa_cons (pe_bltn (v := .ty "list") (by rfl) B.list boot_list rfl) pa_nil))))) (pw_or1 (pt_cmpR op_ne (pe_callB (lenK K) (by rfl) B.len PySem.boot_len (pa_cons (pv 1) pa_nil)) (pe_callB (lenK K) (by rfl) B.len PySem.boot_len (pa_cons (pv 0) pa_nil)) (nomark _)))))
        (pss_one (ps_ret pe_bl))
        pss_nil)
      (pss_cons (ps_if (pt_val (pe_callB (anyK K rfl) (by rfl) B.any (by decide +kernel) (pa_cons (pe_lc (own := [("_law_one", 2)]) (g := gName 2) (tt := tYes) rfl sc_law_is_setting.nd (pi_list (pv 1)) (blkOk_by (own := [("_law_one", 2)]) (N := ["_law_wheels_here", "_law_found", "_law_one", "_law_k"]) (sc := defScope s_law_is_setting) (by decide +kernel)) (fun _ _ _ _ _ => pg_name (i := 2) sc_law_is_setting.nd rfl (.inl rfl)) (fun _ _ _ _ _ => pts_nil) (fun _ _ _ _ _ => (pe_or (pe_callB (isiK K) (by rfl) B.isinstance (by decide +kernel) (pa_cons (pv 2) (pa_cons (pe_bltn (v := .ty "bool") (by rfl) B.bool boot_bool rfl) pa_nil))) (pe_one (pe_not (pe_callB (isiK K) (by rfl) B.isinstance (by decide +kernel) (pa_cons (pv 2) (pa_cons (pe_bltn (v := .ty "int") (by rfl) B.int boot_int rfl) pa_nil)))))))) pa_nil)))
        (pss_one (ps_ret pe_bl))
        pss_nil)
      (pss_one (ps_ret (pe_callB (allK K rfl) (by rfl) B.all (by decide +kernel) (pa_cons (pe_lc (own := [("_law_k", 3)]) (g := gName 3) (tt := tYes) rfl sc_law_is_setting.nd (pi_range1 (by rfl) B.range (pa_cons (pe_callB (lenK K) (by rfl) B.len PySem.boot_len (pa_cons (pv 0) pa_nil)) pa_nil)) (blkOk_by (own := [("_law_k", 3)]) (N := ["_law_wheels_here", "_law_found", "_law_one", "_law_k"]) (sc := defScope s_law_is_setting) (by decide +kernel)) (fun _ _ _ _ _ => pg_name (i := 3) sc_law_is_setting.nd rfl (.inl rfl)) (fun _ _ _ _ _ => pts_nil) (fun _ _ _ _ _ => (pe_chain op_le op_lt pe_int (pe_ix (ixL K) (pv 1) (pv 3) (fun _ _ => rfl)) (pe_ix (ixL K) (pv 0) (pv 3) (fun _ _ => rfl))))) pa_nil)))))), ?_⟩
    refine ⟨_, rfl, _, _, _, _, true, rfl, .ty "list", tyx_list hF, kit_ty (by decide +kernel), _, rfl, iteF ?_⟩
    refine ⟨_, rfl, b, _, rfl, .inl hF, _, rfl, a, _, rfl, .inl hW, rfl, _, rfl, ?_⟩
    rw [List.length_map, List.length_map, dec_int1]
    by_cases el : fs.length = ws.length
    · have el2 : (fs.length : Int) = (ws.length : Int) := by omega
      rw [decide_eq_true el2]
      refine iteF ?_
      -- any([isinstance(one, bool) or not isinstance(one, int) for one in found])
      refine ⟨_, rfl, b, rfl, ⟨_, hF⟩, fun D nD => ?_⟩
      refine lc_list (K := K) (a := b) (xs := fs.map V.int) (fun i H3 => Same H H3 ∧ H3 D = some (.lst ((List.replicate i false).map V.bl))) ⟨same_upd nD, upd_same⟩ (fun i H3 _ h => h.1.seq hF) ?_ ?_
      · rintro i x H3 hx ⟨s3, eD⟩
        obtain ⟨z, hz, rfl⟩ := map_int_at hx
        have hi : i < fs.length := (List.getElem?_eq_some_iff.mp hz).1
        refine ⟨rfl, _, rfl, _, _, _, _, false, rfl, .ty "bool", .base (.int _), kit_ty (by decide +kernel), _, rfl, iteF ?_⟩
        refine ⟨_, rfl, _, _, _, _, true, rfl, .ty "int", .base (.int _), kit_ty (by decide +kernel), _, rfl, ?_⟩
        refine ⟨_, eD, ?_, ?_, ?_⟩
        · rw [List.length_map, List.length_replicate]; exact lt_line (by omega)
        · intro c u e
          rw [upd_ne (ne_of_none e nD)]
          exact s3 _ _ e
        · rw [upd_same, List.replicate_succ', List.map_append]
          rfl
      · rintro H3 ⟨s3, eD⟩
        refine ⟨D, _, rfl, SqL.of eD, _, rfl, ?_⟩
        rw [any_rep]
        refine iteF ?_
        -- all([0 <= found[k] < wheels[k] for k in range(len(wheels))])
        refine ⟨_, rfl, a, _, rfl, .inl (s3.seq hW), _, rfl, (by omega), (by rw [List.length_map]; omega), fun D2 nD2 => ?_⟩
        refine lc_range (lo := 0) (fun i H4 => Same H H4 ∧ H4 D2 = some (.lst ((chk ws fs i).map V.bl))) ⟨s3.trans (same_upd nD2), upd_same⟩ ?_ ?_
        · rintro i H4 hi ⟨s4, eD2⟩
          rw [List.length_map, Int.toNat_natCast] at hi
          have g1 : (ws.map V.int)[i]? = some (.int ws[i]) := at_map_int (List.getElem?_eq_getElem hi)
          have g2 : (fs.map V.int)[i]? = some (.int (fs[i]'(by omega))) := at_map_int (List.getElem?_eq_getElem (by omega))
          have ec : chk ws fs (i + 1) = chk ws fs i ++ [decide (0 ≤ fs[i]'(by omega)) && decide (fs[i]'(by omega) < ws[i])] := by
            unfold chk
            rw [List.range_succ, List.map_append, List.map_singleton, List.getD_eq_getElem?_getD, List.getD_eq_getElem?_getD, List.getElem?_eq_getElem hi, List.getElem?_eq_getElem (show i < fs.length by omega)]
            rfl
          have fin : ∀ c : Bool, c = (decide (0 ≤ fs[i]'(by omega)) && decide (fs[i]'(by omega) < ws[i])) → ∃ acc, H4 D2 = some (.lst acc) ∧ acc.length < sizeLine ∧ Same H (upd H4 D2 (.lst (acc ++ [.bl c]))) ∧ (upd H4 D2 (.lst (acc ++ [.bl c]))) D2 = some (.lst ((chk ws fs (i + 1)).map V.bl)) := by
            intro c hc
            refine ⟨_, eD2, ?_, ?_, ?_⟩
            · unfold chk
              rw [List.length_map, List.length_map, List.length_range]; exact lt_line (by omega)
            · intro c u e
              rw [upd_ne (s3.ne e nD2)]
              exact s4 _ _ e
            · rw [upd_same, ec, List.map_append, hc]
              rfl
          refine ⟨rfl, _, rfl, _, rfl, b, _, _, _, rfl, rfl, s4.seq hF, at_of (j := i) (by omega) g2, _, _, rfl, rfl, _, rfl, ite2 (fun c => ?_) (fun c => ?_)⟩
          · have c2 := of_decide_eq_true c
            refine ⟨_, rfl, _, rfl, a, _, _, _, rfl, rfl, s4.seq hW, at_of (j := i) (by omega) g1, _, _, rfl, rfl, fin _ ?_⟩
            rw [decide_eq_true c2]
            rfl
          · refine fin _ ?_
            have c2 : ¬ 0 ≤ fs[i]'(by omega) := fun z => c (decide_eq_true z)
            rw [decide_eq_false c2]
            rfl
        · rintro H4 ⟨s4, eD2⟩
          rw [List.length_map, Int.toNat_natCast] at eD2
          refine ⟨D2, _, rfl, SqL.of eD2, ?_⟩
          have e : isB ws fs = (chk ws fs ws.length).all id := by
            unfold isB
            rw [decide_eq_true el]
            rfl
          rw [← e]
          exact q H4 s4
    · have el2 : ¬ (fs.length : Int) = (ws.length : Int) := by omega
      rw [decide_eq_false el2]
      refine iteT ?_
      have e : isB ws fs = false := by
        unfold isB
        rw [decide_eq_false el]
        rfl
      have := q H (Same.refl H)
      rw [e] at this
      exact this
end
end Ww
namespace Ww
open PySem PySem.Spec PyProof.Rows L2
section
variable {P : Program} {w : World} {K : PySem.W.Frag} {mg : Str → Option Value} {base : Heap}
/-! ### _law_step -/
def gaps (xs ys : List Int) (i : Nat) : List Int := (List.range i).map fun k => absI (xs.getD k 0 - ys.getD k 0)
theorem gaps_snoc (xs ys : List Int) (i : Nat) : gaps xs ys (i + 1) = gaps xs ys i ++ [absI (xs.getD i 0 - ys.getD i 0)] := by
  unfold gaps
  rw [List.range_succ, List.map_append]
  rfl
theorem gaps_sum : ∀ {xs ys : List Int}, xs.length = ys.length → (gaps xs ys xs.length).sum = dist xs ys
  | [], [], _ => rfl
  | [], _ :: _, h => by simp at h
  | _ :: _, [], h => by simp at h
  | x :: xs, y :: ys, h => by
    have ih := gaps_sum (xs := xs) (ys := ys) (by simpa using h)
    show (gaps (x :: xs) (y :: ys) (xs.length + 1)).sum = absI (x - y) + dist xs ys
    rw [← ih]
    unfold gaps
    rw [List.range_succ_eq_map, List.map_cons, List.map_map, List.sum_cons]
    rfl
def sp_step (K : PySem.W.Frag) : Sp := fun vs H Q _ => ∃ (a b : Addr) (xs ys : List Int), vs = [.ref a, .ref b] ∧ SqL K H a (xs.map V.int) ∧ SqL K H b (ys.map V.int) ∧ xs.length = ys.length ∧ xs.length ≤ 1000 ∧
  ∀ H' : Hp, Same H H' → Q (.bl (decide (dist xs ys = 1))) H'
theorem ok_step (D : Df K mg "_law_step" s_law_step ["_law_one", "_law_other"]) (B : Bi mg) : Ok P w K mg base "_law_step" ["_law_one", "_law_other"] 1 (sp_step K) := by
  refine D.ok sc_law_step (fun vs H Q E h => ?_) (fun f cdv A outer s H vs Q E hr h => ?_)
  · obtain ⟨a, b, xs, ys, rfl, _⟩ := h
    rfl
  · obtain ⟨a, b, xs, ys, rfl, hX, hY, el, hl, q⟩ := h
    refine ⟨_, (pss_one (ps_ret (pe_cmpR op_eq (pe_callB (sumK K rfl) (by rfl) B.sum (by decide +kernel) (pa_cons (pe_lc (own := [("_law_k", 2)]) (g := gName 2) (tt := tYes) rfl sc_law_step.nd (pi_range1 (by rfl) B.range (pa_cons (pe_callB (lenK K) (by rfl) B.len PySem.boot_len (pa_cons (pv 0) pa_nil)) pa_nil)) (blkOk_by (own := [("_law_k", 2)]) (N := ["_law_one", "_law_other", "_law_k"]) (sc := defScope s_law_step) (by decide +kernel)) (fun _ _ _ _ _ => pg_name (i := 2) sc_law_step.nd rfl (.inl rfl)) (fun _ _ _ _ _ => pts_nil) (fun _ _ _ _ _ => (pe_callB call_abs (by rfl) B.abs (by decide +kernel) (pa_cons (pe_op op_sub (pe_ix (ixL K) (pv 0) (pv 2) (fun _ _ => rfl)) (pe_ix (ixL K) (pv 1) (pv 2) (fun _ _ => rfl))) pa_nil)))) pa_nil)) pe_int (nomark _)))), ?_⟩
    refine ⟨_, rfl, a, _, rfl, .inl hX, _, rfl, (by omega), (by rw [List.length_map]; omega), fun D nD => ?_⟩
    refine lc_range (lo := 0) (fun i H4 => Same H H4 ∧ H4 D = some (.lst ((gaps xs ys i).map V.int))) ⟨same_upd nD, upd_same⟩ ?_ ?_
    · rintro i H4 hi ⟨s4, eD⟩
      rw [List.length_map, Int.toNat_natCast] at hi
      have g1 : (xs.map V.int)[i]? = some (.int xs[i]) := at_map_int (List.getElem?_eq_getElem hi)
      have g2 : (ys.map V.int)[i]? = some (.int (ys[i]'(by omega))) := at_map_int (List.getElem?_eq_getElem (by omega))
      refine ⟨rfl, _, rfl, _, rfl, a, _, _, _, rfl, rfl, s4.seq hX, at_of (j := i) (by omega) g1, _, rfl, _, rfl, b, _, _, _, rfl, rfl, s4.seq hY, at_of (j := i) (by omega) g2, _, _, rfl, rfl, _, rfl, _, eD, ?_, ?_, ?_⟩
      · unfold gaps
        rw [List.length_map, List.length_map, List.length_range]; exact lt_line (by omega)
      · intro c u e
        rw [upd_ne (ne_of_none e nD)]
        exact s4 _ _ e
      · rw [upd_same, gaps_snoc, List.map_append, List.getD_eq_getElem?_getD, List.getD_eq_getElem?_getD, List.getElem?_eq_getElem hi, List.getElem?_eq_getElem (show i < ys.length by omega)]
        rfl
    · rintro H4 ⟨s4, eD⟩
      rw [List.length_map, Int.toNat_natCast] at eD
      refine ⟨D, _, rfl, SqL.of eD, rfl, ?_⟩
      rw [gaps_sum el, dec_int1]
      exact q H4 s4
/-! ### _law_whole -/
def sp_whole : Sp := fun vs H Q _ => ∃ z : Int, vs = [.int z] ∧ Q (.bl true) H
theorem ok_whole (D : Df K mg "_law_whole" s_law_whole ["_law_number"]) (B : Bi mg) : Ok P w K mg base "_law_whole" ["_law_number"] 1 sp_whole := by
  refine D.ok sc_law_whole (fun vs H Q E h => ?_) (fun f cdv A outer s H vs Q E hr h => ?_)
  · obtain ⟨z, rfl, _⟩ := h
    rfl
  · obtain ⟨z, rfl, q⟩ := h
    refine ⟨_, (pss_one (ps_ret (pe_and (pe_callB (isiK K) (by rfl) B.isinstance (by decide +kernel) (pa_cons (pv 0) (pa_cons (pe_bltn (v := .ty "int") (by rfl) B.int boot_int rfl) pa_nil))) (pe_one (pe_not (pe_callB (isiK K) (by rfl) B.isinstance (by decide +kernel) (pa_cons (pv 0) (pa_cons (pe_bltn (v := .ty "bool") (by rfl) B.bool boot_bool rfl) pa_nil)))))))), ?_⟩
    refine ⟨_, rfl, _, _, _, _, true, rfl, .ty "int", .base (.int _), kit_ty (by decide +kernel), _, rfl, iteT ?_⟩
    exact ⟨_, rfl, _, _, _, _, false, rfl, .ty "bool", .base (.int _), kit_ty (by decide +kernel), _, rfl, q⟩
end
end Ww
namespace Ww
open PySem PySem.Spec PyProof.Rows L2
section
variable {P : Program} {w : World} {K : PySem.W.Frag} {mg : Str → Option Value} {base : Heap}
/-! ### is_whole -/
def sp_is_whole : Sp := fun vs H Q _ => ∃ z : Int, vs = [.int z] ∧ Q (.bl true) H
theorem ok_is_whole (D : Df K mg "is_whole" s_is_whole ["thing"]) (B : Bi mg) : Ok P w K mg base "is_whole" ["thing"] 1 sp_is_whole := by
  refine D.ok sc_is_whole (fun vs H Q E h => ?_) (fun f cdv A outer s H vs Q E hr h => ?_)
  · obtain ⟨z, rfl, _⟩ := h
    rfl
  · obtain ⟨z, rfl, q⟩ := h
    refine ⟨_, (pss_one (ps_ret (pe_and (pe_callB (isiK K) (by rfl) B.isinstance (by decide +kernel) (pa_cons (pv 0) (pa_cons (pe_bltn (v := .ty "int") (by rfl) B.int boot_int rfl) pa_nil))) (pe_one (pe_not (pe_callB (isiK K) (by rfl) B.isinstance (by decide +kernel) (pa_cons (pv 0) (pa_cons (pe_bltn (v := .ty "bool") (by rfl) B.bool boot_bool rfl) pa_nil)))))))), ?_⟩
    refine ⟨_, rfl, _, _, _, _, true, rfl, .ty "int", .base (.int _), kit_ty (by decide +kernel), _, rfl, iteT ?_⟩
    exact ⟨_, rfl, _, _, _, _, false, rfl, .ty "bool", .base (.int _), kit_ty (by decide +kernel), _, rfl, q⟩
end
end Ww
namespace Ww
open PySem PySem.Spec PyProof.Rows L2
section
variable {P : Program} {w : World} {K : PySem.W.Frag} {mg : Str → Option Value} {base : Heap}
/-! ### the checks, of what passes them -/
def sp_check_wheels (K : PySem.W.Frag) : Sp := fun vs H Q _ => ∃ (a : Addr) (ws : List Int), vs = [.ref a] ∧ SqL K H a (ws.map V.int) ∧ ones ws ∧ Q .non H
theorem ok_check_wheels (D : Df K mg "check_wheels" s_check_wheels ["wheels"]) (B : Bi mg) (G_is_whole : Ok P w K mg base "is_whole" ["thing"] 1 sp_is_whole) : Ok P w K mg base "check_wheels" ["wheels"] 2 (sp_check_wheels K) := by
  refine D.ok sc_check_wheels (fun vs H Q E h => ?_) (fun f cdv A outer s H vs Q E hr h => ?_)
  · obtain ⟨a, ws, rfl, _⟩ := h
    rfl
  · obtain ⟨a, ws, rfl, hS, ho, q⟩ := h
    refine ⟨_, (pss_cons (ps_if (pt_not (pt_val (pe_callB (isiK K) (by rfl) B.isinstance (by decide +kernel) (pa_cons (pv 0) (pa_cons (pe_bltn (v := .ty "list") (by rfl) B.list boot_list rfl) pa_nil)))))
        (pss_one ps_never)
        pss_nil)
      (pss_one (ps_for PassesOwn.never rfl (pi_list (pv 0)) (pg_name (i := 1) sc_check_wheels.nd rfl (.inl rfl))
        (pss_one (ps_if (PW.pt (pw_or (pt_not (pt_val (pe_ok G_is_whole hr (by decide) (pa_cons (pv 1) pa_nil)))) (pw_or1 (pt_cmpR op_lt (pv 1) pe_int (nomark _)))))
          (pss_one ps_never)
          pss_nil))))), ?_⟩
    refine ⟨_, rfl, _, _, _, _, true, rfl, .ty "list", tyx_list hS, kit_ty (by decide +kernel), _, rfl, ?_⟩
    refine ⟨_, rfl, a, rfl, ⟨_, hS⟩, for_list (K := K) (a := a) (xs := ws.map V.int) (fun i σ H3 => ∃ y1 : Option V, σ = [some (.ref a), y1] ∧ H3 = H) ⟨none, rfl, rfl⟩ (fun i σ H3 _ ⟨_, _, e⟩ => by rw [e]; exact hS) ?_ ?_⟩
    · rintro i x σ H3 hx ⟨y1, rfl, rfl⟩
      obtain ⟨z, hz, rfl⟩ := map_int_at hx
      have h1 := ho z (List.mem_of_getElem? hz)
      refine ⟨_, rfl, z, rfl, _, rfl, ?_⟩
      refine ⟨_, rfl, _, _, rfl, rfl, _, rfl, ite2 (fun c => ?_) (fun _ => ⟨_, rfl, rfl⟩)⟩
      have := of_decide_eq_true c
      omega
    · rintro σ H3 ⟨y1, rfl, rfl⟩
      exact q
/-- whether a list of ints is a setting of a list of ints, whatever the ints -/
def sp_is_set (K : PySem.W.Frag) : Sp := fun vs H Q _ => ∃ (a b : Addr) (ws st : List Int), vs = [.ref a, .ref b] ∧ SqL K H a (ws.map V.int) ∧ SqL K H b (st.map V.int) ∧ ∀ H' : Hp, Same H H' → Q (.bl (isB ws st)) H'
theorem isB_not {ws st : List Int} (h : ¬ okS ws st) : isB ws st = false := by
  cases e : isB ws st with
  | false => rfl
  | true => exact absurd (of_isB e) h
theorem ok_is_set (D : Df K mg "is_setting" s_is_setting ["wheels", "setting"]) (B : Bi mg) (G_is_whole : Ok P w K mg base "is_whole" ["thing"] 1 sp_is_whole) : Ok P w K mg base "is_setting" ["wheels", "setting"] 2 (sp_is_set K) := by
  refine D.ok sc_is_setting (fun vs H Q E h => ?_) (fun f cdv A outer s H vs Q E hr h => ?_)
  · obtain ⟨a, b, ws, st, rfl, _⟩ := h
    rfl
  · obtain ⟨a, b, ws, st, rfl, hW, hS, q⟩ := h
    refine ⟨_, (pss_cons (ps_if (PW.pt (pw_or (pt_not (pt_val (pe_callB (isiK K) (by rfl) B.isinstance (by decide +kernel) (pa_cons (pv 1) (pa_cons (pe_bltn (v := .ty "list") (by rfl) B.list boot_list rfl) pa_nil))))) (pw_or1 (pt_cmpR op_ne (pe_callB (lenK K) (by rfl) B.len PySem.boot_len (pa_cons (pv 1) pa_nil)) (pe_callB (lenK K) (by rfl) B.len PySem.boot_len (pa_cons (pv 0) pa_nil)) (nomark _)))))
        (pss_one (ps_ret pe_bl))
        pss_nil)
      (pss_cons (ps_for PassesOwn.never rfl (pi_zip (by rfl) B.zip (pa_cons (pv 0) (pa_cons (pv 1) pa_nil))) (pg_tup rfl (pgs_cons (pg_name (i := 2) sc_is_setting.nd rfl (.inl rfl)) (pgs_cons (pg_name (i := 3) sc_is_setting.nd rfl (.inl rfl)) pgs_nil)))
        (pss_one (ps_if (PW.pt (pw_or (pt_not (pt_val (pe_ok G_is_whole hr (by decide) (pa_cons (pv 3) pa_nil)))) (pw_or1 (pt_not (pt_chain op_le op_lt pe_int (pv 3) (pv 2))))))
          (pss_one (ps_ret pe_bl))
          pss_nil)))
      (pss_one (ps_ret pe_bl)))), ?_⟩
    refine ⟨_, rfl, _, _, _, _, true, rfl, .ty "list", tyx_list hS, kit_ty (by decide +kernel), _, rfl, ?_⟩
    refine ⟨_, rfl, b, _, rfl, .inl hS, _, rfl, a, _, rfl, .inl hW, rfl, _, rfl, ?_⟩
    rw [List.length_map, List.length_map, dec_int1]
    by_cases el : st.length = ws.length
    rotate_left
    · rw [decide_eq_false (show ¬ (st.length : Int) = (ws.length : Int) by omega)]
      rw [isB_not fun h => el (okS_len h)] at q
      exact q H (Same.refl H)
    rw [decide_eq_true (show (st.length : Int) = (ws.length : Int) by omega)]
    refine ⟨_, rfl, _, rfl, a, b, _, _, rfl, hW, hS, RZ.for_zipL (K := K) (a := a) (b := b) (by rw [List.length_map, List.length_map, el]) (fun i σ H3 => (∃ y2 y3 : Option V, σ = [some (.ref a), some (.ref b), y2, y3] ∧ Same H H3) ∧ ∀ (j : Nat) (s p : Int), j < i → ws[j]? = some s → st[j]? = some p → 0 ≤ p ∧ p < s)
      ⟨⟨none, none, rfl, Same.refl H⟩, fun _ _ _ h => absurd h (Nat.not_lt_zero _)⟩ (fun i σ H3 ⟨⟨_, _, _, s3⟩, _⟩ => ⟨s3.seq hW, s3.seq hS⟩) ?_ ?_⟩
    · rintro i x y T σ H3 hx hy ⟨⟨y2, y3, rfl, s3⟩, hall⟩ nT
      obtain ⟨sz, hsz, rfl⟩ := map_int_at hx
      obtain ⟨p, hp, rfl⟩ := map_int_at hy
      have sT : Same H (upd H3 T (.tup [.int sz, .int p])) := s3.trans (same_upd nT)
      refine ⟨T, [.int sz, .int p], rfl, SqT.of upd_same, rfl, .int sz, [.int p], rfl, .int p, [], rfl, rfl, ?_⟩
      refine ⟨_, rfl, p, rfl, _, rfl, ?_⟩
      have out : ¬ (0 ≤ p ∧ p < sz) → Q (.bl false) (upd H3 T (.tup [.int sz, .int p])) := fun hn => by
        rw [isB_not fun h => hn (okS_at h hsz hp)] at q
        exact q _ sT
      refine ⟨_, rfl, _, _, rfl, rfl, _, rfl, ite2 (fun c0 => ?_) (fun c0 => ⟨_, rfl, out fun h => c0 (decide_eq_true h.1)⟩)⟩
      refine ⟨_, rfl, _, _, rfl, rfl, _, rfl, ?_⟩
      by_cases c1 : p < sz
      · rw [decide_eq_true c1]
        refine ⟨⟨_, _, rfl, sT⟩, fun j s q hj e1 e2 => ?_⟩
        by_cases hji : j = i
        · subst hji
          have e3 := Option.some.inj (hsz.symm.trans e1)
          have e4 := Option.some.inj (hp.symm.trans e2)
          subst e3 e4
          exact ⟨of_decide_eq_true c0, c1⟩
        · exact hall j s q (by omega) e1 e2
      · rw [decide_eq_false c1]
        exact out fun h => c1 h.2
    · rintro σ H3 ⟨⟨y2, y3, rfl, s3⟩, hall⟩
      rw [List.length_map] at hall
      have hok : okS ws st := okS_of el fun i s p e1 e2 => hall i s p (List.getElem?_eq_some_iff.mp e1).1 e1 e2
      rw [isB_of hok] at q
      exact q H3 s3
def sp_check_setting (K : PySem.W.Frag) : Sp := fun vs H Q _ => ∃ (a b : Addr) (ws st : List Int), vs = [.ref a, .ref b] ∧ SqL K H a (ws.map V.int) ∧ SqL K H b (st.map V.int) ∧ okS ws st ∧ ∀ H' : Hp, Same H H' → Q .non H'
theorem ok_check_setting (D : Df K mg "check_setting" s_check_setting ["wheels", "setting"]) (G_is_setting : Ok P w K mg base "is_setting" ["wheels", "setting"] 2 (sp_is_set K)) : Ok P w K mg base "check_setting" ["wheels", "setting"] 3 (sp_check_setting K) := by
  refine D.ok sc_check_setting (fun vs H Q E h => ?_) (fun f cdv A outer s H vs Q E hr h => ?_)
  · obtain ⟨a, b, ws, st, rfl, _⟩ := h
    rfl
  · obtain ⟨a, b, ws, st, rfl, hW, hS, hok, q⟩ := h
    refine ⟨_, (pss_one (ps_if (pt_not (pt_val (pe_ok G_is_setting hr (by decide) (pa_cons (pv 0) (pa_cons (pv 1) pa_nil)))))
        (pss_one ps_never)
        pss_nil)), ?_⟩
    refine ⟨_, rfl, _, rfl, a, b, ws, st, rfl, hW, hS, fun H1 s1 => ?_⟩
    rw [isB_of hok]
    exact ⟨_, rfl, q H1 s1⟩
end
end Ww
/-! neighbours: who they are, in which order, how far from another setting -/
namespace Ww
/-- one less by the wheel k, one more -/
def decA (st : List Int) (k : Nat) : List (List Int) := if 0 < st.getD k 0 then [st.set k (st.getD k 0 - 1)] else []
def incA (ws st : List Int) (k : Nat) : List (List Int) := if st.getD k 0 < ws.getD k 0 - 1 then [st.set k (st.getD k 0 + 1)] else []
def decs (st : List Int) (i : Nat) : List (List Int) := (List.range i).flatMap (decA st)
def incs (ws st : List Int) (n i : Nat) : List (List Int) := (List.range i).flatMap fun j => incA ws st (n - 1 - j)
def nearL (ws st : List Int) : List (List Int) := decs st ws.length ++ incs ws st ws.length ws.length
def dueL (ws st : List Int) (i : Nat) : List (List Int) := (List.range i).flatMap fun k => decA st k ++ incA ws st k
theorem decs_succ (st : List Int) (i : Nat) : decs st (i + 1) = decs st i ++ decA st i := by
  unfold decs
  rw [List.range_succ, List.flatMap_append, List.flatMap_singleton]
theorem incs_succ (ws st : List Int) (n i : Nat) : incs ws st n (i + 1) = incs ws st n i ++ incA ws st (n - 1 - i) := by
  unfold incs
  rw [List.range_succ, List.flatMap_append, List.flatMap_singleton]
theorem dueL_succ (ws st : List Int) (i : Nat) : dueL ws st (i + 1) = dueL ws st i ++ (decA st i ++ incA ws st i) := by
  unfold dueL
  rw [List.range_succ, List.flatMap_append, List.flatMap_singleton]
theorem decA_len (st : List Int) (k : Nat) : (decA st k).length ≤ 1 := by
  unfold decA
  split <;> simp
theorem incA_len (ws st : List Int) (k : Nat) : (incA ws st k).length ≤ 1 := by
  unfold incA
  split <;> simp
theorem decs_len (st : List Int) : ∀ i, (decs st i).length ≤ i
  | 0 => Nat.le_refl 0
  | i + 1 => by
    rw [decs_succ, List.length_append]
    have := decs_len st i
    have := decA_len st i
    omega
theorem incs_len (ws st : List Int) (n : Nat) : ∀ i, (incs ws st n i).length ≤ i
  | 0 => Nat.le_refl 0
  | i + 1 => by
    rw [incs_succ, List.length_append]
    have := incs_len ws st n i
    have := incA_len ws st (n - 1 - i)
    omega
theorem dueL_len (ws st : List Int) : ∀ i, (dueL ws st i).length ≤ 2 * i
  | 0 => Nat.le_refl 0
  | i + 1 => by
    rw [dueL_succ, List.length_append, List.length_append]
    have := dueL_len ws st i
    have := decA_len st i
    have := incA_len ws st i
    omega
/-! ### the same ones -/
theorem flatMap_two {α β : Type} (f g : α → List β) : ∀ l : List α, (l.flatMap fun x => f x ++ g x).Perm (l.flatMap f ++ l.flatMap g)
  | [] => List.Perm.refl _
  | x :: l => by
    have ih := flatMap_two f g l
    rw [List.flatMap_cons, List.flatMap_cons, List.flatMap_cons]
    have h1 : (f x ++ g x ++ List.flatMap (fun x => f x ++ g x) l).Perm (f x ++ g x ++ (l.flatMap f ++ l.flatMap g)) := ih.append_left _
    have h2 : (f x ++ g x ++ (l.flatMap f ++ l.flatMap g)).Perm (f x ++ l.flatMap f ++ (g x ++ l.flatMap g)) := by
      rw [List.append_assoc, List.append_assoc]
      refine List.Perm.append_left _ ?_
      rw [← List.append_assoc, ← List.append_assoc]
      exact List.perm_append_comm.append_right _
    exact h1.trans h2
theorem range_rev : ∀ n : Nat, (List.range n).map (fun i => n - 1 - i) = (List.range n).reverse := fun n => by
  refine List.ext_getElem ?_ fun i h1 h2 => ?_
  · rw [List.length_map, List.length_reverse]
  · rw [List.getElem_map, List.getElem_reverse, List.getElem_range, List.getElem_range, List.length_range]
theorem due_perm (ws st : List Int) : (dueL ws st ws.length).Perm (nearL ws st) := by
  unfold dueL nearL decs incs
  refine (flatMap_two _ _ _).trans (List.Perm.append_left _ ?_)
  have e : (List.range ws.length).flatMap (fun j => incA ws st (ws.length - 1 - j)) = ((List.range ws.length).map fun i => ws.length - 1 - i).flatMap (incA ws st) := by
    rw [List.flatMap_map]
  rw [e, range_rev]
  exact ((List.reverse_perm _).flatMap_right _).symm
/-! ### in order -/
theorem set_low : ∀ {st : List Int} {i j : Nat} {a b : Int}, i < j → i < st.length → a < st.getD i 0 → st.set i a < st.set j b
  | [], i, j, a, b, _, h, _ => by simp at h
  | x :: r, 0, j + 1, a, b, _, _, h => by
    show a :: r < x :: r.set j b
    exact List.cons_lt_cons_iff.mpr (.inl h)
  | x :: r, i + 1, j + 1, a, b, h1, h2, h => by
    show x :: r.set i a < x :: r.set j b
    exact List.cons_lt_cons_iff.mpr (.inr ⟨rfl, set_low (by omega) (by simpa using h2) (by simpa using h)⟩)
  | _ :: _, _, 0, _, _, h, _, _ => absurd h (Nat.not_lt_zero _)
theorem set_high : ∀ {st : List Int} {i j : Nat} {a b : Int}, i < j → i < st.length → st.getD i 0 < a → st.set j b < st.set i a
  | [], i, j, a, b, _, h, _ => by simp at h
  | x :: r, 0, j + 1, a, b, _, _, h => by
    show x :: r.set j b < a :: r
    exact List.cons_lt_cons_iff.mpr (.inl h)
  | x :: r, i + 1, j + 1, a, b, h1, h2, h => by
    show x :: r.set j b < x :: r.set i a
    exact List.cons_lt_cons_iff.mpr (.inr ⟨rfl, set_high (by omega) (by simpa using h2) (by simpa using h)⟩)
  | _ :: _, _, 0, _, _, h, _, _ => absurd h (Nat.not_lt_zero _)
theorem set_same : ∀ {st : List Int} {i : Nat} {a b : Int}, i < st.length → a < b → st.set i a < st.set i b
  | [], i, a, b, h, _ => by simp at h
  | x :: r, 0, a, b, _, h => by
    show a :: r < b :: r
    exact List.cons_lt_cons_iff.mpr (.inl h)
  | x :: r, i + 1, a, b, h, h2 => by
    show x :: r.set i a < x :: r.set i b
    exact List.cons_lt_cons_iff.mpr (.inr ⟨rfl, set_same (by simpa using h) h2⟩)
theorem mem_decA {st x : List Int} {k : Nat} (h : x ∈ decA st k) : 0 < st.getD k 0 ∧ x = st.set k (st.getD k 0 - 1) := by
  unfold decA at h
  split at h
  · rename_i c
    exact ⟨c, List.mem_singleton.mp h⟩
  · cases h
theorem mem_incA {ws st x : List Int} {k : Nat} (h : x ∈ incA ws st k) : st.getD k 0 < ws.getD k 0 - 1 ∧ x = st.set k (st.getD k 0 + 1) := by
  unfold incA at h
  split at h
  · rename_i c
    exact ⟨c, List.mem_singleton.mp h⟩
  · cases h
theorem mem_decs {st x : List Int} {i : Nat} (h : x ∈ decs st i) : ∃ k, k < i ∧ 0 < st.getD k 0 ∧ x = st.set k (st.getD k 0 - 1) := by
  unfold decs at h
  obtain ⟨k, hk, hx⟩ := List.mem_flatMap.mp h
  exact ⟨k, List.mem_range.mp hk, mem_decA hx⟩
theorem mem_incs {ws st x : List Int} {n i : Nat} (h : x ∈ incs ws st n i) : ∃ j, j < i ∧ st.getD (n - 1 - j) 0 < ws.getD (n - 1 - j) 0 - 1 ∧ x = st.set (n - 1 - j) (st.getD (n - 1 - j) 0 + 1) := by
  unfold incs at h
  obtain ⟨k, hk, hx⟩ := List.mem_flatMap.mp h
  exact ⟨k, List.mem_range.mp hk, mem_incA hx⟩
theorem small_pair {α : Type} {R : α → α → Prop} {l : List α} (h : l.length ≤ 1) : l.Pairwise R := by
  match l, h with
  | [], _ => exact .nil
  | [x], _ => exact List.pairwise_singleton _ _
theorem near_sorted {ws st : List Int} (hl : st.length = ws.length) : (nearL ws st).Pairwise (· ≤ ·) := by
  have hd : ∀ i, i ≤ ws.length → (decs st i).Pairwise (· ≤ ·) := by
    intro i
    induction i with
    | zero => intro _; exact .nil
    | succ i ih =>
      intro hi
      rw [decs_succ]
      refine List.pairwise_append.mpr ⟨ih (by omega), small_pair (decA_len st i), fun x hx y hy => ?_⟩
      obtain ⟨k, hk, hk0, rfl⟩ := mem_decs hx
      obtain ⟨_, rfl⟩ := mem_decA hy
      exact List.le_of_lt (set_low hk (by omega) (by omega))
  have hu : ∀ i, i ≤ ws.length → (incs ws st ws.length i).Pairwise (· ≤ ·) := by
    intro i
    induction i with
    | zero => intro _; exact .nil
    | succ i ih =>
      intro hi
      rw [incs_succ]
      refine List.pairwise_append.mpr ⟨ih (by omega), small_pair (incA_len ws st _), fun x hx y hy => ?_⟩
      obtain ⟨j, hj, hj0, rfl⟩ := mem_incs hx
      obtain ⟨_, rfl⟩ := mem_incA hy
      exact List.le_of_lt (set_high (by omega) (by omega) (by omega))
  unfold nearL
  refine List.pairwise_append.mpr ⟨hd _ (Nat.le_refl _), hu _ (Nat.le_refl _), fun x hx y hy => ?_⟩
  obtain ⟨k, hk, hk0, rfl⟩ := mem_decs hx
  obtain ⟨j, hj, hj0, rfl⟩ := mem_incs hy
  rcases Nat.lt_trichotomy k (ws.length - 1 - j) with c | c | c
  · exact List.le_of_lt (set_low c (by omega) (by omega))
  · rw [← c]
    exact List.le_of_lt (set_same (by omega) (by omega))
  · exact List.le_of_lt (set_high c (by omega) (by omega))
theorem merge_due {ws st : List Int} (hl : st.length = ws.length) : (dueL ws st ws.length).mergeSort (fun p q => decide (p ≤ q)) = nearL ws st := by
  refine List.Perm.eq_of_pairwise (le := (· ≤ ·)) (fun a b _ _ h1 h2 => List.le_antisymm h1 h2) ?_ (near_sorted hl) ((List.mergeSort_perm _ _).trans (due_perm ws st))
  have h := List.pairwise_mergeSort (le := fun p q : List Int => decide (p ≤ q)) (fun a b c h1 h2 => decide_eq_true (List.le_trans (of_decide_eq_true h1) (of_decide_eq_true h2)))
    (fun a b => by
      rcases List.le_total a b with h | h
      · rw [decide_eq_true h]; rfl
      · rw [decide_eq_true h, Bool.or_true]) (dueL ws st ws.length)
  exact h.imp fun h => of_decide_eq_true h
/-! ### settings, and how far -/
theorem okS_getD {ws st : List Int} (h : okS ws st) {k : Nat} (hk : k < ws.length) : 0 ≤ st.getD k 0 ∧ st.getD k 0 < ws.getD k 0 := by
  have e := okS_len h
  have z := okS_at h (List.getElem?_eq_getElem hk) (List.getElem?_eq_getElem (show k < st.length by omega))
  rw [List.getD_eq_getElem?_getD, List.getD_eq_getElem?_getD, List.getElem?_eq_getElem hk, List.getElem?_eq_getElem (show k < st.length by omega)]
  exact z
theorem okS_set : ∀ {ws st : List Int} {k : Nat} {v : Int}, okS ws st → 0 ≤ v → v < ws.getD k 0 → okS ws (st.set k v)
  | [], [], _, _, _, _, _ => trivial
  | [], _ :: _, _, _, h, _, _ => h.elim
  | _ :: _, [], _, _, h, _, _ => h.elim
  | s :: ws, p :: st, 0, v, h, h0, h1 => ⟨h0, h1, h.2.2⟩
  | s :: ws, p :: st, k + 1, v, h, h0, h1 => ⟨h.1, h.2.1, okS_set h.2.2 h0 (by simpa using h1)⟩
theorem near_ok {ws st x : List Int} (h : okS ws st) (hx : x ∈ nearL ws st) : ∃ k d, k < ws.length ∧ (d = 1 ∨ d = -1) ∧ x = st.set k (st.getD k 0 + d) ∧ okS ws x := by
  unfold nearL at hx
  rcases List.mem_append.mp hx with hx | hx
  · obtain ⟨k, hk, h0, rfl⟩ := mem_decs hx
    have z := okS_getD h hk
    exact ⟨k, -1, hk, .inr rfl, rfl, okS_set h (by omega) (by omega)⟩
  · obtain ⟨j, hj, h0, rfl⟩ := mem_incs hx
    have z := okS_getD h (show ws.length - 1 - j < ws.length by omega)
    exact ⟨_, 1, by omega, .inl rfl, rfl, okS_set h (by omega) (by omega)⟩
theorem dist_set : ∀ {st o : List Int} {k : Nat} {v : Int}, st.length = o.length → k < st.length → dist (st.set k v) o = dist st o - absI (st.getD k 0 - o.getD k 0) + absI (v - o.getD k 0)
  | [], _, _, _, _, h => by simp at h
  | _ :: _, [], _, _, h, _ => by simp at h
  | x :: st, y :: o, 0, v, _, _ => by
    show absI (v - y) + dist st o = absI (x - y) + dist st o - absI (x - y) + absI (v - y)
    omega
  | x :: st, y :: o, k + 1, v, h, h2 => by
    have ih := dist_set (st := st) (o := o) (k := k) (v := v) (by simpa using h) (by simpa using h2)
    show absI (x - y) + dist (st.set k v) o = absI (x - y) + dist st o - absI (st.getD k 0 - o.getD k 0) + absI (v - o.getD k 0)
    omega
theorem near_step {ws st o x : List Int} (h : okS ws st) (ho : okS ws o) (hx : x ∈ nearL ws st) : dist x o - dist st o = 1 ∨ dist x o - dist st o = -1 := by
  obtain ⟨k, d, hk, hd, rfl, _⟩ := near_ok h hx
  rw [dist_set (by rw [okS_len h, okS_len ho]) (by rw [okS_len h]; exact hk), absI_eq, absI_eq]
  generalize st.getD k 0 = a
  generalize o.getD k 0 = b
  rcases hd with rfl | rfl <;> omega
theorem dist_pos : ∀ {st o : List Int}, st.length = o.length → 0 < dist st o → ∃ k, k < st.length ∧ st.getD k 0 ≠ o.getD k 0
  | [], o, _, h => by
    have : dist [] o = 0 := rfl
    omega
  | _ :: _, [], h, _ => by simp at h
  | x :: st, y :: o, h, h2 => by
    by_cases c : x = y
    · subst c
      have e : dist (x :: st) (x :: o) = absI (x - x) + dist st o := rfl
      rw [Int.sub_self] at e
      have e0 : absI 0 = 0 := rfl
      obtain ⟨k, hk, hne⟩ := dist_pos (st := st) (o := o) (by simpa using h) (by omega)
      exact ⟨k + 1, by rw [List.length_cons]; omega, by simpa using hne⟩
    · exact ⟨0, by rw [List.length_cons]; omega, c⟩
theorem near_less {ws st o : List Int} (h : okS ws st) (ho : okS ws o) (hp : 0 < dist st o) : ∃ x, x ∈ nearL ws st ∧ dist x o - dist st o = -1 := by
  have e1 := okS_len h
  have e2 := okS_len ho
  obtain ⟨k, hk, hne⟩ := dist_pos (by omega) hp
  have z1 := okS_getD h (show k < ws.length by omega)
  have z2 := okS_getD ho (show k < ws.length by omega)
  by_cases c : o.getD k 0 < st.getD k 0
  · refine ⟨st.set k (st.getD k 0 - 1), ?_, ?_⟩
    · unfold nearL decs
      refine List.mem_append_left _ (List.mem_flatMap.mpr ⟨k, List.mem_range.mpr (by omega), ?_⟩)
      unfold decA
      rw [if_pos (by omega)]
      exact List.mem_singleton.mpr rfl
    · rw [dist_set (by omega) hk, absI_eq, absI_eq]
      omega
  · refine ⟨st.set k (st.getD k 0 + 1), ?_, ?_⟩
    · unfold nearL incs
      refine List.mem_append_right _ (List.mem_flatMap.mpr ⟨ws.length - 1 - k, List.mem_range.mpr (by omega), ?_⟩)
      have ek : ws.length - 1 - (ws.length - 1 - k) = k := by omega
      rw [ek]
      unfold incA
      rw [if_pos (by omega)]
      exact List.mem_singleton.mpr rfl
    · rw [dist_set (by omega) hk, absI_eq, absI_eq]
      omega
theorem dist_nn : ∀ (a b : List Int), 0 ≤ dist a b
  | [], _ => Int.le_refl 0
  | _ :: _, [] => Int.le_refl 0
  | x :: a, y :: b => by
    have := dist_nn a b
    show 0 ≤ absI (x - y) + dist a b
    rw [absI_eq]
    omega
end Ww
namespace Ww
open PySem PySem.Spec PyProof.Rows L2
theorem ixN_nat {n j : Nat} (h : j < n) : ixN n (j : Int) = some j := by
  unfold ixN
  rw [if_pos (by omega), if_pos (by omega), Int.toNat_natCast]
theorem getD_at {ns : List Int} {k : Nat} (h : k < ns.length) : ns[k]? = some (ns.getD k 0) := by
  rw [List.getD_eq_getElem?_getD, List.getElem?_eq_getElem h]
  rfl
theorem dist_snoc {xs ys : List Int} {i : Nat} {x y : Int} (hx : xs[i]? = some x) (hy : ys[i]? = some y) : dist (xs.take (i + 1)) (ys.take (i + 1)) = dist (xs.take i) (ys.take i) + absI (x - y) := by
  have h1 : i < xs.length := (List.getElem?_eq_some_iff.mp hx).1
  have h2 : i < ys.length := (List.getElem?_eq_some_iff.mp hy).1
  rw [take_more hx, take_more hy, dist_append (by rw [List.length_take, List.length_take]; omega)]
  show _ + (absI (x - y) + 0) = _
  omega
section
variable {P : Program} {w : World} {K : PySem.W.Frag} {mg : Str → Option Value} {base : Heap}
/-! ### _stepped -/
def sp_stepped (K : PySem.W.Frag) : Sp := fun vs H Q _ => ∃ (a : Addr) (st : List Int) (k : Nat) (z d : Int), vs = [.ref a, .int z, .int d] ∧ z = (k : Int) ∧ SqL K H a (st.map V.int) ∧ k < st.length ∧
  ∀ (p : Addr) (H' : Hp), Same H H' → H p = none → H' p = some (.lst ((st.set k (st.getD k 0 + d)).map V.int)) → Q (.ref p) H'
theorem ok_stepped (D : Df K mg "_stepped" s_stepped ["setting", "at", "step"]) (B : Bi mg) : Ok P w K mg base "_stepped" ["setting", "at", "step"] 1 (sp_stepped K) := by
  refine D.ok sc_stepped (fun vs H Q E h => ?_) (fun f cdv A outer s H vs Q E hr h => ?_)
  · obtain ⟨a, st, k, z, d, rfl, _⟩ := h
    rfl
  · obtain ⟨a, st, k, z, d, rfl, rfl, hS, hk, q⟩ := h
    refine ⟨_, (pss_cons (ps_set (i := 3) sc_stepped.nd rfl (.inl rfl) (pe_callTy (listK K) (by rfl) B.list boot_list (pa_cons (pv 0) pa_nil)))
      (pss_cons (ps_asg (pe_op op_add (pe_ix (ixL K) (pv 3) (pv 1) (fun _ _ => rfl)) (pv 2)) (pg_sub (pv 3) (pv 1) set_list))
      (pss_one (ps_ret (pv 3))))), ?_⟩
    refine ⟨_, rfl, a, _, rfl, .inl hS, fun p np => ?_⟩
    have g := at_map_int (getD_at hk)
    refine ⟨_, rfl, _, rfl, p, _, _, _, rfl, rfl, SqL.of upd_same, atI_nat g, _, rfl, _, _, rfl, rfl, _, rfl, _, rfl, p, _, _, _, rfl, rfl, upd_same, ixN_nat (by rw [List.length_map]; exact hk), ?_⟩
    refine ⟨_, rfl, q p _ (fun c u e => ?_) np ?_⟩
    · rw [upd_ne (ne_of_none e np), upd_ne (ne_of_none e np)]
      exact .self e
    · rw [upd_same, List.map_set]
/-! ### near -/
def sp_near (K : PySem.W.Frag) : Sp := fun vs H Q _ => ∃ (a b : Addr) (ws st : List Int), vs = [.ref a, .ref b] ∧ SqL K H a (ws.map V.int) ∧ SqL K H b (st.map V.int) ∧ ones ws ∧ ws.length ≤ 1000 ∧ okS ws st ∧
  ∀ (L : List (Addr × List Int)) (p : Addr) (H' : Hp), L.map (·.2) = nearL ws st → Same H H' → H p = none → H' p = some (.lst (rowV L)) → (∀ q ∈ L, q.1 ≠ p ∧ H q.1 = none ∧ H' q.1 = some (.lst (q.2.map V.int))) → Q (.ref p) H'
theorem ok_near (D : Df K mg "near" s_near ["wheels", "setting"]) (B : Bi mg) (G_check_wheels : Ok P w K mg base "check_wheels" ["wheels"] 2 (sp_check_wheels K))
    (G_check_setting : Ok P w K mg base "check_setting" ["wheels", "setting"] 3 (sp_check_setting K)) (G_stepped : Ok P w K mg base "_stepped" ["setting", "at", "step"] 1 (sp_stepped K)) :
    Ok P w K mg base "near" ["wheels", "setting"] 4 (sp_near K) := by
  refine D.ok sc_near (fun vs H Q E h => ?_) (fun f cdv A outer s H vs Q E hr h => ?_)
  · obtain ⟨a, b, ws, st, rfl, _⟩ := h
    rfl
  · obtain ⟨a, b, ws, st, rfl, hW, hS, ho, hlen, hok, q⟩ := h
    have el := okS_len hok
    refine ⟨_, (pss_cons (ps_expr (pe_ok G_check_wheels hr (by decide) (pa_cons (pv 0) pa_nil)))
      (pss_cons (ps_expr (pe_ok G_check_setting hr (by decide) (pa_cons (pv 0) (pa_cons (pv 1) pa_nil))))
      (pss_cons (ps_set (i := 2) sc_near.nd rfl (.inl rfl) (pe_lst pa_nil))
      (pss_cons (ps_for PassesOwn.never rfl (pi_range1 (by rfl) B.range (pa_cons (pe_callB (lenK K) (by rfl) B.len PySem.boot_len (pa_cons (pv 0) pa_nil)) pa_nil)) (pg_name (i := 3) sc_near.nd rfl (.inl rfl))
        (pss_one (ps_if (pt_cmpR op_gt (pe_ix (ixL K) (pv 1) (pv 3) (fun _ _ => rfl)) pe_int (nomark _))
          (pss_one (ps_expr (pe_bm PySem.F.plainAttrs_list PySem.F.slot_list_append PySem.F.type_list_append mt_append (pv 2) (pa_cons (pe_ok G_stepped hr (by decide) (pa_cons (pv 1) (pa_cons (pv 3) (pa_cons (pe_un un_neg pe_int) pa_nil)))) pa_nil))))
          pss_nil)))
      (pss_cons (ps_for PassesOwn.never rfl (pi_revR (by rfl) B.reversed (prg_1 (by rfl) B.range (pe_callB (lenK K) (by rfl) B.len PySem.boot_len (pa_cons (pv 0) pa_nil)))) (pg_name (i := 3) sc_near.nd rfl (.inl rfl))
        (pss_one (ps_if (pt_cmpR op_lt (pe_ix (ixL K) (pv 1) (pv 3) (fun _ _ => rfl)) (pe_op op_sub (pe_ix (ixL K) (pv 0) (pv 3) (fun _ _ => rfl)) pe_int) (nomark _))
          (pss_one (ps_expr (pe_bm PySem.F.plainAttrs_list PySem.F.slot_list_append PySem.F.type_list_append mt_append (pv 2) (pa_cons (pe_ok G_stepped hr (by decide) (pa_cons (pv 1) (pa_cons (pv 3) (pa_cons pe_int pa_nil)))) pa_nil))))
          pss_nil)))
      (pss_one (ps_ret (pv 2)))))))), ?_⟩
    refine ⟨_, rfl, a, ws, rfl, hW, ho, ?_⟩
    refine ⟨_, rfl, _, rfl, a, b, ws, st, rfl, hW, hS, hok, fun H1 s1 => ?_⟩
    refine ⟨Nat.zero_le _, fun o no => ?_⟩
    have sO : Same H1 (upd H1 o (.lst [])) := same_upd no
    -- one list more, its list appended
    have more : ∀ (L : List (Addr × List Int)) (H3 H4 : Hp) (p : Addr) (r : List Int), Same H1 H3 → H3 o = some (.lst (rowV L)) → (∀ q ∈ L, q.1 ≠ o ∧ H1 q.1 = none ∧ H3 q.1 = some (.lst (q.2.map V.int))) →
        Same H3 H4 → H3 p = none → H4 p = some (.lst (r.map V.int)) →
        Same H1 (upd H4 o (.lst (rowV L ++ [.ref p]))) ∧ (upd H4 o (.lst (rowV L ++ [.ref p]))) o = some (.lst (rowV (L ++ [(p, r)]))) ∧
          (∀ q ∈ L ++ [(p, r)], q.1 ≠ o ∧ H1 q.1 = none ∧ (upd H4 o (.lst (rowV L ++ [.ref p]))) q.1 = some (.lst (q.2.map V.int))) := by
      intro L H3 H4 p r s3 eo hq s4 np ep
      refine ⟨fun c u e => ?_, ?_, fun q hm => ?_⟩
      · rw [upd_ne (ne_of_none e no)]
        exact (s3.trans s4) _ _ e
      · rw [upd_same]
        unfold rowV
        rw [List.map_append]
        rfl
      · rcases List.mem_append.mp hm with hm | hm
        · obtain ⟨q1, q2, q3⟩ := hq q hm
          refine ⟨q1, q2, ?_⟩
          rw [upd_ne q1]
          exact s4 _ _ q3
        · rw [List.mem_singleton.mp hm]
          have npo : p ≠ o := (ne_of_none eo np).symm
          refine ⟨npo, s3.free np, ?_⟩
          show upd H4 o _ p = some (.lst (r.map V.int))
          rw [upd_ne npo]
          exact ep
    refine ⟨_, rfl, a, _, rfl, .inl (sO.seq (s1.seq hW)), _, rfl, (by omega), (by rw [List.length_map]; omega), ?_⟩
    refine for_range (lo := 0) (fun i σ H3 => ∃ (L : List (Addr × List Int)) (y3 : Option V), σ = [some (.ref a), some (.ref b), some (.ref o), y3] ∧ L.map (·.2) = decs st i ∧ Same H1 H3 ∧ H3 o = some (.lst (rowV L)) ∧ (∀ q ∈ L, q.1 ≠ o ∧ H1 q.1 = none ∧ H3 q.1 = some (.lst (q.2.map V.int))))
      ⟨[], none, rfl, rfl, sO, upd_same, (fun _ h => by cases h)⟩ ?_ ?_
    · rintro i σ H3 hi ⟨L, y3, rfl, eL, s3, eo, hq⟩
      rw [List.length_map, Int.toNat_natCast] at hi
      have g : (st.map V.int)[i]? = some (.int (st.getD i 0)) := at_map_int (getD_at (by omega))
      have hS3 : SqL K H3 b (st.map V.int) := s3.seq (s1.seq hS)
      refine ⟨_, rfl, _, rfl, b, _, _, _, rfl, rfl, hS3, at_of (j := i) (by omega) g, _, _, rfl, rfl, _, rfl, ite2 (fun c => ?_) (fun c => ?_)⟩
      · have c2 := of_decide_eq_true c
        refine ⟨_, rfl, .inl ⟨rfl, _, SqL.of eo⟩, _, rfl, _, rfl, _, rfl, b, st, i, _, -1, rfl, by omega, hS3, by omega, fun p H4 s4 np ep => ?_⟩
        obtain ⟨m1, m2, m3⟩ := more L H3 H4 p _ s3 eo hq s4 np ep
        refine ⟨o, _, _, rfl, rfl, s4 _ _ eo, ?_, L ++ [(p, st.set i (st.getD i 0 + -1))], _, rfl, ?_, m1, m2, m3⟩
        · have h1 : L.length = (decs st i).length := by rw [← eL, List.length_map]
          have h2 := decs_len st i
          unfold rowV
          rw [List.length_map]
          exact lt_line (by omega)
        · rw [List.map_append, eL, decs_succ]
          unfold decA
          rw [if_pos c2]
          rfl
      · have c2 : ¬ 0 < st.getD i 0 := fun z => c (decide_eq_true z)
        refine ⟨L, _, rfl, ?_, s3, eo, hq⟩
        rw [eL, decs_succ]
        unfold decA
        rw [if_neg c2, List.append_nil]
    · rintro σ H2 ⟨L, y3, rfl, eL, s2, eo, hq⟩
      rw [List.length_map, Int.toNat_natCast] at eL
      refine ⟨_, rfl, a, _, rfl, .inl (s2.seq (s1.seq hW)), _, rfl, (by omega), (by omega), (by omega), (by rw [List.length_map]; omega), ?_⟩
      rw [List.length_map]
      refine for_rangeC (fun i σ H3 => ∃ (L : List (Addr × List Int)) (y3 : Option V), σ = [some (.ref a), some (.ref b), some (.ref o), y3] ∧ L.map (·.2) = decs st ws.length ++ incs ws st ws.length i ∧ Same H1 H3 ∧ H3 o = some (.lst (rowV L)) ∧ (∀ q ∈ L, q.1 ≠ o ∧ H1 q.1 = none ∧ H3 q.1 = some (.lst (q.2.map V.int))))
        ⟨L, y3, rfl, (by rw [eL]; exact (List.append_nil _).symm), s2, eo, hq⟩ ?_ ?_
      · rintro i σ H3 hi ⟨L, y3, rfl, eL, s3, eo, hq⟩
        have hi2 : i < ws.length := by omega
        have ez : (0 + (((ws.length : Int) - 0).toNat : Int) - 1 + (i : Nat) * (-1)) = ((ws.length - 1 - i : Nat) : Int) := by omega
        have g : (st.map V.int)[ws.length - 1 - i]? = some (.int (st.getD (ws.length - 1 - i) 0)) := at_map_int (getD_at (by omega))
        have g2 : (ws.map V.int)[ws.length - 1 - i]? = some (.int (ws.getD (ws.length - 1 - i) 0)) := at_map_int (getD_at (by omega))
        have hS3 : SqL K H3 b (st.map V.int) := s3.seq (s1.seq hS)
        refine ⟨_, rfl, _, rfl, b, _, _, _, rfl, rfl, hS3, at_of ez g, _, rfl, _, rfl, a, _, _, _, rfl, rfl, s3.seq (s1.seq hW), at_of ez g2, _, _, rfl, rfl, _, _, rfl, rfl, _, rfl, ite2 (fun c => ?_) (fun c => ?_)⟩
        · have c2 := of_decide_eq_true c
          refine ⟨_, rfl, .inl ⟨rfl, _, SqL.of eo⟩, _, rfl, _, rfl, b, st, ws.length - 1 - i, _, 1, rfl, ez, hS3, by omega, fun p H4 s4 np ep => ?_⟩
          obtain ⟨m1, m2, m3⟩ := more L H3 H4 p _ s3 eo hq s4 np ep
          refine ⟨o, _, _, rfl, rfl, s4 _ _ eo, ?_, L ++ [(p, st.set (ws.length - 1 - i) (st.getD (ws.length - 1 - i) 0 + 1))], _, rfl, ?_, m1, m2, m3⟩
          · have h1 : L.length = (decs st ws.length ++ incs ws st ws.length i).length := by rw [← eL, List.length_map]
            rw [List.length_append] at h1
            have h2 := decs_len st ws.length
            have h3 := incs_len ws st ws.length i
            unfold rowV
            rw [List.length_map]
            exact lt_line (by omega)
          · rw [List.map_append, eL, incs_succ, List.append_assoc]
            unfold incA
            rw [if_pos c2]
            rfl
        · have c2 : ¬ st.getD (ws.length - 1 - i) 0 < ws.getD (ws.length - 1 - i) 0 - 1 := fun z => c (decide_eq_true z)
          refine ⟨L, _, rfl, ?_, s3, eo, hq⟩
          rw [eL, incs_succ]
          unfold incA
          rw [if_neg c2, List.append_nil]
      · rintro σ H3 ⟨L, y3, rfl, eL, s3, eo, hq⟩
        have en : ((ws.length : Int) - 0).toNat = ws.length := by omega
        rw [en] at eL
        exact ⟨_, rfl, q L o H3 eL (s1.trans s3) (s1.free no) eo fun r hr => ⟨(hq r hr).1, s1.free (hq r hr).2.1, (hq r hr).2.2⟩⟩
/-! ### apart -/
def sp_apart (K : PySem.W.Frag) : Sp := fun vs H Q _ => ∃ (a b c : Addr) (ws st so : List Int), vs = [.ref a, .ref b, .ref c] ∧ SqL K H a (ws.map V.int) ∧ SqL K H b (st.map V.int) ∧ SqL K H c (so.map V.int) ∧ ones ws ∧ okS ws st ∧ okS ws so ∧
  ∀ H' : Hp, Same H H' → Q (.int (dist st so)) H'
theorem ok_apart (D : Df K mg "apart" s_apart ["wheels", "one", "other"]) (B : Bi mg) (G_check_wheels : Ok P w K mg base "check_wheels" ["wheels"] 2 (sp_check_wheels K))
    (G_check_setting : Ok P w K mg base "check_setting" ["wheels", "setting"] 3 (sp_check_setting K)) : Ok P w K mg base "apart" ["wheels", "one", "other"] 4 (sp_apart K) := by
  refine D.ok sc_apart (fun vs H Q E h => ?_) (fun f cdv A outer s H vs Q E hr h => ?_)
  · obtain ⟨a, b, c, ws, st, so, rfl, _⟩ := h
    rfl
  · obtain ⟨a, b, c, ws, st, so, rfl, hW, hS, hO, ho, hok, hok2, q⟩ := h
    have e1 := okS_len hok
    have e2 := okS_len hok2
    refine ⟨_, (pss_cons (ps_expr (pe_ok G_check_wheels hr (by decide) (pa_cons (pv 0) pa_nil)))
      (pss_cons (ps_expr (pe_ok G_check_setting hr (by decide) (pa_cons (pv 0) (pa_cons (pv 1) pa_nil))))
      (pss_cons (ps_expr (pe_ok G_check_setting hr (by decide) (pa_cons (pv 0) (pa_cons (pv 2) pa_nil))))
      (pss_cons (ps_set (i := 3) sc_apart.nd rfl (.inl rfl) pe_int)
      (pss_cons (ps_for PassesOwn.never rfl (pi_zip (by rfl) B.zip (pa_cons (pv 1) (pa_cons (pv 2) pa_nil))) (pg_tup rfl (pgs_cons (pg_name (i := 4) sc_apart.nd rfl (.inl rfl)) (pgs_cons (pg_name (i := 5) sc_apart.nd rfl (.inl rfl)) pgs_nil)))
        (pss_one (ps_set (i := 3) sc_apart.nd rfl (.inl rfl) (pe_op op_add (pv 3) (pe_callB call_abs (by rfl) B.abs (by decide +kernel) (pa_cons (pe_op op_sub (pv 4) (pv 5)) pa_nil))))))
      (pss_one (ps_ret (pv 3)))))))), ?_⟩
    refine ⟨_, rfl, a, ws, rfl, hW, ho, ?_⟩
    refine ⟨_, rfl, _, rfl, a, b, ws, st, rfl, hW, hS, hok, fun H1 s1 => ?_⟩
    refine ⟨_, rfl, _, rfl, a, c, ws, so, rfl, s1.seq hW, s1.seq hO, hok2, fun H2 s2 => ?_⟩
    have s12 := s1.trans s2
    refine ⟨_, rfl, _, rfl, b, c, _, _, rfl, s12.seq hS, s12.seq hO, RZ.for_zipL (K := K) (a := b) (b := c) (by rw [List.length_map, List.length_map, e1, e2])
      (fun i σ H3 => ∃ y4 y5 : Option V, σ = [some (.ref a), some (.ref b), some (.ref c), some (.int (dist (st.take i) (so.take i))), y4, y5] ∧ Same H H3)
      ⟨none, none, rfl, s12⟩ (fun i σ H3 ⟨_, _, _, s3⟩ => ⟨s3.seq hS, s3.seq hO⟩) ?_ ?_⟩
    · rintro i x y T σ H3 hx hy ⟨y4, y5, rfl, s3⟩ nT
      obtain ⟨u, hu, rfl⟩ := map_int_at hx
      obtain ⟨v, hv, rfl⟩ := map_int_at hy
      refine ⟨T, [.int u, .int v], rfl, SqT.of upd_same, rfl, .int u, [.int v], rfl, .int v, [], rfl, rfl, ?_⟩
      refine ⟨_, rfl, _, rfl, _, rfl, _, _, rfl, rfl, _, rfl, _, _, rfl, rfl, some (.int u), some (.int v), ?_, s3.trans (same_upd nT)⟩
      rw [dist_snoc hu hv]
      rfl
    · rintro σ H3 ⟨y4, y5, rfl, s3⟩
      refine ⟨_, rfl, ?_⟩
      rw [List.length_map, List.take_length, e1, ← e2, List.take_length]
      exact q H3 s3
end
end Ww
namespace Ww
open PySem PySem.Spec PyProof.Rows L2
section
variable {P : Program} {w : World} {K : PySem.W.Frag} {mg : Str → Option Value} {base : Heap}
/-- behind j of the two numbers of a wheel -/
def dueAt (ws st : List Int) (k : Nat) : Nat → List (List Int)
  | 0 => []
  | 1 => decA st k
  | _ => decA st k ++ incA ws st k
theorem inV_ints {z : Int} : ∀ {ns : List Int}, z ∈ ns → inV (.int z) (ns.map V.int) = true
  | [], h => by cases h
  | n :: ns, h => by
    show (eqV (.int n) (.int z) || inV (.int z) (ns.map V.int)) = true
    rcases List.mem_cons.mp h with e | e
    · rw [e]
      show ((n == n) || _) = true
      rw [beq_self_eq_true, Bool.true_or]
    · rw [inV_ints e, Bool.or_true]
theorem flat_ints (ns : List Int) : (ns.map V.int).all flatV = true := by
  rw [List.all_eq_true]
  intro x hx
  obtain ⟨z, _, rfl⟩ := List.mem_map.mp hx
  rfl
def sp_law (K : PySem.W.Frag) : Sp := fun vs H Q _ => ∃ (a : Addr) (ns : List Int), vs = [.ref a] ∧ SqL K H a (ns.map V.int) ∧ ns.length ≤ 63 ∧ ∀ H', Q (.bl true) H'
theorem ok_law {f0 : Addr} {fd0 : FuncData} (D : At K mg "law" s_law ["_law_script"] f0 fd0) (B : Bi mg) (G_law_wheels : Ok P w K mg base "_law_wheels" ["_law_script"] 2 (sp_wheels K))
    (G_law_setting : Ok P w K mg base "_law_setting" ["_law_script", "_law_wheels_here", "_law_by"] 2 (sp_setting K)) (G_law_whole : Ok P w K mg base "_law_whole" ["_law_number"] 1 sp_whole)
    (G_near : Ok P w K mg base "near" ["wheels", "setting"] 4 (sp_near K)) (G_apart : Ok P w K mg base "apart" ["wheels", "one", "other"] 4 (sp_apart K)) : FnOk P w K mg base CX0 5 f0 fd0 ["_law_script"] (sp_law K) := by
  refine D.ok sc_law (fun vs H Q E h => ?_) (fun cdv A outer s H vs Q E hr h => ?_)
  · obtain ⟨a, ns, rfl, _⟩ := h
    rfl
  · obtain ⟨a, ns, rfl, hS, hlen, q⟩ := h
    refine ⟨_, (pss_cons (ps_set (i := 1) sc_law.nd rfl (.inr rfl) (pe_ok G_law_wheels hr (by decide) (pa_cons (pv 0) pa_nil)))
      (pss_cons (ps_asg (pe_tup (pa_cons (pe_ok G_law_setting hr (by decide) (pa_cons (pv 0) (pa_cons (pv 1) (pa_cons pe_int pa_nil)))) (pa_cons (pe_ok G_law_setting hr (by decide) (pa_cons (pv 0) (pa_cons (pv 1) (pa_cons pe_int pa_nil)))) pa_nil))) (pg_tup rfl (pgs_cons (pg_name (i := 2) sc_law.nd rfl (.inr rfl)) (pgs_cons (pg_name (i := 3) sc_law.nd rfl (.inr rfl)) pgs_nil))))
      (pss_cons (ps_set (i := 4) sc_law.nd rfl (.inl rfl) (pe_lst (pa_cons (pe_callTy (listK K) (by rfl) B.list boot_list (pa_cons (pv 1) pa_nil)) (pa_cons (pe_callTy (listK K) (by rfl) B.list boot_list (pa_cons (pv 2) pa_nil)) (pa_cons (pe_callTy (listK K) (by rfl) B.list boot_list (pa_cons (pv 3) pa_nil)) pa_nil)))))
      (pss_cons (ps_for PassesOwn.never rfl (pi_tup (pe_tup (pa_cons (pv 2) (pa_cons (pv 3) pa_nil)))) (pg_name (i := 5) sc_law.nd rfl (.inl rfl))
        (pss_cons (ps_set (i := 6) sc_law.nd rfl (.inl rfl) (pe_lst pa_nil))
        (pss_cons (ps_for PassesOwn.never rfl (pi_range1 (by rfl) B.range (pa_cons (pe_callB (lenK K) (by rfl) B.len PySem.boot_len (pa_cons (pv 1) pa_nil)) pa_nil)) (pg_name (i := 7) sc_law.nd rfl (.inl rfl))
          (pss_one (ps_for PassesOwn.never rfl (pi_tup (pe_tup (pa_cons (pe_op op_sub (pe_ix (ixL K) (pv 5) (pv 7) (fun _ _ => rfl)) pe_int) (pa_cons (pe_op op_add (pe_ix (ixL K) (pv 5) (pv 7) (fun _ _ => rfl)) pe_int) pa_nil)))) (pg_name (i := 8) sc_law.nd rfl (.inl rfl))
            (pss_one (ps_if (pt_chain op_le op_lt pe_int (pv 8) (pe_ix (ixL K) (pv 1) (pv 7) (fun _ _ => rfl)))
              (pss_one (ps_expr (pe_bm PySem.F.plainAttrs_list PySem.F.slot_list_append PySem.F.type_list_append mt_append (pv 6) (pa_cons (pe_op op_cat (pe_op op_cat (pe_slice (slL K) (pv 5) po_none (po_some (pv 7))) (pe_lst (pa_cons (pv 8) pa_nil))) (pe_slice (slL K) (pv 5) (po_some (pe_op op_add (pv 7) pe_int)) po_none)) pa_nil))))
              pss_nil)))))
        (pss_one (ps_for PassesOwn.never rfl (pi_range1 (by rfl) B.range (pa_cons pe_int pa_nil)) (pg_name (i := 9) sc_law.nd rfl (.inl rfl))
          (pss_cons (ps_set (i := 10) sc_law.nd rfl (.inl rfl) (pe_ok G_near hr (by decide) (pa_cons (pe_ix (ixL K) (pv 4) pe_int (fun _ _ => rfl)) (pa_cons (pv 5) pa_nil))))
          (pss_cons (ps_if (PW.pt (pw_or (pt_not (pt_val (pe_callB (isiK K) (by rfl) B.isinstance (by decide +kernel) (pa_cons (pv 10) (pa_cons (pe_bltn (v := .ty "list") (by rfl) B.list boot_list rfl) pa_nil))))) (pw_or1 (pt_cmpR (neDK K hr.units) (pv 10) (pe_callB (cr_sortedR K hr.units) (by rfl) B.sorted (by decide +kernel) (pa_cons (pv 6) pa_nil)) (nomark _)))))
            (pss_one (ps_ret pe_bl))
            pss_nil)
          (pss_one (ps_expr (pe_bm PySem.F.plainAttrs_list PySem.F.slot_list_append PySem.F.type_list_append mt_append (pv 10) (pa_cons (pe_lst pa_nil) pa_nil)))))))))))
      (pss_cons (ps_set (i := 11) sc_law.nd rfl (.inr rfl) (pe_ok G_apart hr (by decide) (pa_cons (pe_ix (ixL K) (pv 4) pe_int (fun _ _ => rfl)) (pa_cons (pe_ix (ixL K) (pv 4) pe_int (fun _ _ => rfl)) (pa_cons (pe_ix (ixL K) (pv 4) pe_int (fun _ _ => rfl)) pa_nil)))))
      (pss_cons (ps_if (PW.pt (pw_or (pt_not (pt_val (pe_ok G_law_whole hr (by decide) (pa_cons (pv 11) pa_nil)))) (pw_or1 (pt_cmpR op_ne (pv 11) (pe_callB (sumK K rfl) (by rfl) B.sum (by decide +kernel) (pa_cons (pe_lc (own := [("_law_k", 7)]) (g := gName 7) (tt := tYes) rfl sc_law.nd (pi_range1 (by rfl) B.range (pa_cons (pe_callB (lenK K) (by rfl) B.len PySem.boot_len (pa_cons (pv 2) pa_nil)) pa_nil)) (blkOk_by (own := [("_law_k", 7)]) (N := ["_law_script", "_law_wheels_here", "_law_one", "_law_other", "_law_handed", "_law_setting_here", "_law_due", "_law_k", "_law_number", "_law_again", "_law_found", "_law_far_here", "_law_steps", "_law_step_here"]) (sc := defScope s_law) (by decide +kernel)) (fun _ _ _ _ _ => pg_name (i := 7) sc_law.nd rfl (.inl rfl)) (fun _ _ _ _ _ => pts_nil) (fun _ _ _ _ _ => (pe_callB call_abs (by rfl) B.abs (by decide +kernel) (pa_cons (pe_op op_sub (pe_ix (ixL K) (pv 2) (pv 7) (fun _ _ => rfl)) (pe_ix (ixL K) (pv 3) (pv 7) (fun _ _ => rfl))) pa_nil)))) pa_nil)) (nomark _)))))
        (pss_one (ps_ret pe_bl))
        pss_nil)
      (pss_cons (ps_setLc (i := 12) (own := [("_law_setting_here", 5)]) (g := gName 5) (tt := tYes) rfl sc_law.nd rfl rfl (sw_true rfl rfl rfl (by decide +kernel)) (pi_list (pe_ok G_near hr (by decide) (pa_cons (pv 1) (pa_cons (pv 2) pa_nil)))) (blkOk_by (own := [("_law_setting_here", 5)]) (N := ["_law_script", "_law_wheels_here", "_law_one", "_law_other", "_law_handed", "_law_setting_here", "_law_due", "_law_k", "_law_number", "_law_again", "_law_found", "_law_far_here", "_law_steps", "_law_step_here"]) (sc := defScope s_law) (by decide +kernel)) (fun _ _ _ _ _ => pg_name (i := 5) sc_law.nd rfl (.inl rfl)) (fun _ _ _ _ _ => pts_nil) (fun _ _ _ _ _ => (pe_op op_sub (pe_ok G_apart hr (by decide) (pa_cons (pv 1) (pa_cons (pv 5) (pa_cons (pv 3) pa_nil)))) (pv 11))))
      (pss_cons (ps_if (PW.pt (pw_or (pt_val (pe_callB (anyK K rfl) (by rfl) B.any (by decide +kernel) (pa_cons (pe_lc (own := [("_law_step_here", 13)]) (g := gName 13) (tt := tYes) rfl sc_law.nd (pi_list (pv 12)) (blkOk_by (own := [("_law_step_here", 13)]) (N := ["_law_script", "_law_wheels_here", "_law_one", "_law_other", "_law_handed", "_law_setting_here", "_law_due", "_law_k", "_law_number", "_law_again", "_law_found", "_law_far_here", "_law_steps", "_law_step_here"]) (sc := defScope s_law) (by decide +kernel)) (fun _ _ _ _ _ => pg_name (i := 13) sc_law.nd rfl (.inl rfl)) (fun _ _ _ _ _ => pts_nil) (fun _ _ _ _ _ => (pe_cmpR op_ne (pe_callB call_abs (by rfl) B.abs (by decide +kernel) (pa_cons (pv 13) pa_nil)) pe_int (nomark _)))) pa_nil))) (pw_or1 (PW.pt (pw_and (pt_cmpR op_gt (pv 11) pe_int (nomark _)) (pw_and1 (pt_cmpR (notInK K) (pe_un un_neg pe_int) (pv 12) (by with_unfolding_all rfl))))))))
        (pss_one (ps_ret pe_bl))
        pss_nil)
      (pss_cons (ps_if (PW.pt (pw_or (pt_cmpR op_ne (pe_ok G_apart hr (by decide) (pa_cons (pv 1) (pa_cons (pv 2) (pa_cons (pv 2) pa_nil)))) pe_int (nomark _)) (pw_or1 (pt_cmpR op_ne (pe_ok G_apart hr (by decide) (pa_cons (pv 1) (pa_cons (pv 3) (pa_cons (pv 2) pa_nil)))) (pv 11) (nomark _)))))
        (pss_one (ps_ret pe_bl))
        pss_nil)
      (pss_one (ps_ret (pe_cmpR (eqDK K hr.units) (pv 4) (pe_lst (pa_cons (pv 1) (pa_cons (pv 2) (pa_cons (pv 3) pa_nil)))) (nomark _))))))))))))), ?_⟩
    refine ⟨_, rfl, a, ns, rfl, hS, hlen, fun ws b H1 hs ew s1 nb eb => ?_⟩
    have hl : ws.length ≤ 1000 := by omega
    have ho := hs.ones
    -- one, other
    refine ⟨_, rfl, _, rfl, a, b, ns, ws, 2, rfl, s1.seq hS, SqL.of eb, (by omega), hl, ho, fun st p1 H2 hok s2 np1 ep1 => ?_⟩
    refine ⟨_, rfl, _, rfl, a, b, ns, ws, 6, rfl, (s1.trans s2).seq hS, SqL.of (s2 _ _ eb), (by omega), hl, ho, fun so p2 H3 hok2 s3 np2 ep2 => ?_⟩
    have e1 := okS_len hok
    have e2 := okS_len hok2
    refine ⟨(by show 2 ≤ sizeLine; decide), fun t0 nt0 => ?_⟩
    refine ⟨t0, [.ref p1, .ref p2], rfl, SqT.of upd_same, rfl, .ref p1, [.ref p2], rfl, .ref p2, [], rfl, rfl, ?_⟩
    have sT : Same H3 (upd H3 t0 (.tup [.ref p1, .ref p2])) := same_upd nt0
    generalize upd H3 t0 (.tup [.ref p1, .ref p2]) = H4 at sT ⊢
    have eb4 := sT _ _ (s3 _ _ (s2 _ _ eb))
    have ep4 := sT _ _ (s3 _ _ ep1)
    have eo4 := sT _ _ ep2
    -- handed
    refine ⟨_, rfl, b, _, rfl, .inl (SqL.of eb4), fun c0 n0 => ?_⟩
    have t1 : Same H4 (upd H4 c0 (.lst (ws.map V.int))) := same_upd n0
    have f1 : (upd H4 c0 (.lst (ws.map V.int))) c0 = some (.lst (ws.map V.int)) := upd_same
    generalize upd H4 c0 (.lst (ws.map V.int)) = H5 at t1 f1 ⊢
    refine ⟨_, rfl, p1, _, rfl, .inl (SqL.of (t1 _ _ ep4)), fun c1 n1 => ?_⟩
    have t2 : Same H5 (upd H5 c1 (.lst (st.map V.int))) := same_upd n1
    have f2 : (upd H5 c1 (.lst (st.map V.int))) c1 = some (.lst (st.map V.int)) := upd_same
    generalize upd H5 c1 (.lst (st.map V.int)) = H6 at t2 f2 ⊢
    refine ⟨_, rfl, p2, _, rfl, .inl (SqL.of (t2 _ _ (t1 _ _ eo4))), fun c2 n2 => ?_⟩
    have t3 : Same H6 (upd H6 c2 (.lst (so.map V.int))) := same_upd n2
    have f3 : (upd H6 c2 (.lst (so.map V.int))) c2 = some (.lst (so.map V.int)) := upd_same
    generalize upd H6 c2 (.lst (so.map V.int)) = H7 at t3 f3 ⊢
    refine ⟨(by show 3 ≤ sizeLine; decide), fun hd nh => ?_⟩
    have t4 : Same H7 (upd H7 hd (.lst [.ref c0, .ref c1, .ref c2])) := same_upd nh
    have eh8 : (upd H7 hd (.lst [.ref c0, .ref c1, .ref c2])) hd = some (.lst [.ref c0, .ref c1, .ref c2]) := upd_same
    generalize upd H7 hd (.lst [.ref c0, .ref c1, .ref c2]) = H8 at t4 eh8 ⊢
    have s48 : Same H4 H8 := ((t1.trans t2).trans t3).trans t4
    have eb8 := s48 _ _ eb4
    have ep8 := s48 _ _ ep4
    have eo8 := s48 _ _ eo4
    have ec0 := t4 _ _ (t3 _ _ (t2 _ _ f1))
    have ec1 := t4 _ _ (t3 _ _ f2)
    have ec2 := t4 _ _ f3
    -- for setting_here in (one, other)
    refine ⟨_, rfl, _, rfl, (by show 2 ≤ sizeLine; decide), fun t5 nt5 => ?_⟩
    have sT5 : Same H8 (upd H8 t5 (.tup [.ref p1, .ref p2])) := same_upd nt5
    have et5 : (upd H8 t5 (.tup [.ref p1, .ref p2])) t5 = some (.tup [.ref p1, .ref p2]) := upd_same
    generalize upd H8 t5 (.tup [.ref p1, .ref p2]) = H9 at sT5 et5 ⊢
    refine ⟨t5, rfl, ⟨_, SqT.of et5⟩, for_tup (K := K) (a := t5) (xs := [.ref p1, .ref p2])
      (fun i σ H => ∃ y5 y6 y7 y8 y9 y10 : Option V, σ = [some (.ref a), some (.ref b), some (.ref p1), some (.ref p2), some (.ref hd), y5, y6, y7, y8, y9, y10, none, none, none] ∧ Same H9 H)
      ⟨none, none, none, none, none, none, rfl, Same.refl _⟩ (fun i σ H _ ⟨_, _, _, _, _, _, _, sm⟩ => SqT.of (sm _ _ et5)) ?_ ?_⟩
    · rintro i x σ Hi hx ⟨y5, y6, y7, y8, y9, y10, rfl, sm⟩
      have sI := sT5.trans sm
      obtain ⟨pp, sg, rfl, hokg, epg⟩ : ∃ (pp : Addr) (sg : List Int), x = .ref pp ∧ okS ws sg ∧ Hi pp = some (.lst (sg.map V.int)) := by
        match i, hx with
        | 0, hx => exact ⟨p1, st, (Option.some.inj hx).symm, hok, sI _ _ ep8⟩
        | 1, hx => exact ⟨p2, so, (Option.some.inj hx).symm, hok2, sI _ _ eo8⟩
        | j + 2, hx => simp at hx
      have eg := okS_len hokg
      clear hx
      -- due = []
      refine ⟨Nat.zero_le _, fun o no => ?_⟩
      have R0 := Rows.nil no
      have sO : Same Hi (upd Hi o (.lst [])) := R0.same
      refine ⟨_, rfl, b, _, rfl, .inl (SqL.of (sO _ _ (sI _ _ eb8))), _, rfl, (by omega), (by rw [List.length_map]; omega), ?_⟩
      refine for_range (lo := 0) (fun k σ H => ∃ (L : List (Addr × List Int)) (y7 y8 : Option V), σ = [some (.ref a), some (.ref b), some (.ref p1), some (.ref p2), some (.ref hd), some (.ref pp), some (.ref o), y7, y8, y9, y10, none, none, none] ∧ L.map (·.2) = dueL ws sg k ∧ Rows Hi H o L)
        ⟨[], y7, y8, rfl, rfl, R0⟩ ?_ ?_
      · rintro k σ Hk hk ⟨L, y7, y8, rfl, eL, R⟩
        rw [List.length_map, Int.toNat_natCast] at hk
        rw [Int.zero_add]
        have sk := R.same
        have gk : (sg.map V.int)[k]? = some (.int (sg.getD k 0)) := at_map_int (getD_at (by omega))
        have gw : (ws.map V.int)[k]? = some (.int (ws.getD k 0)) := at_map_int (getD_at hk)
        have hin := okS_getD hokg hk
        have epk := sk _ _ epg
        refine ⟨_, rfl, _, rfl, pp, _, _, _, rfl, rfl, SqL.of epk, atI_nat gk, _, _, rfl, rfl, _, rfl, _, rfl, pp, _, _, _, rfl, rfl, SqL.of epk, atI_nat gk, _, _, rfl, rfl, (by show 2 ≤ sizeLine; decide), fun t6 nt6 => ?_⟩
        have sT6 : Same Hk (upd Hk t6 (.tup [.int (sg.getD k 0 - 1), .int (sg.getD k 0 + 1)])) := same_upd nt6
        have et6 : (upd Hk t6 (.tup [.int (sg.getD k 0 - 1), .int (sg.getD k 0 + 1)])) t6 = some (.tup (([sg.getD k 0 - 1, sg.getD k 0 + 1] : List Int).map V.int)) := upd_same
        generalize upd Hk t6 (.tup [.int (sg.getD k 0 - 1), .int (sg.getD k 0 + 1)]) = Ht at sT6 et6 ⊢
        refine ⟨t6, rfl, ⟨_, SqT.of et6⟩, for_tup (K := K) (a := t6) (xs := ([sg.getD k 0 - 1, sg.getD k 0 + 1] : List Int).map V.int)
          (fun j σ H => ∃ (L : List (Addr × List Int)) (y8 : Option V), σ = [some (.ref a), some (.ref b), some (.ref p1), some (.ref p2), some (.ref hd), some (.ref pp), some (.ref o), some (.int k), y8, y9, y10, none, none, none] ∧ L.map (·.2) = dueL ws sg k ++ dueAt ws sg k j ∧ Rows Hi H o L ∧ H t6 = some (.tup (([sg.getD k 0 - 1, sg.getD k 0 + 1] : List Int).map V.int)))
          ⟨L, y8, rfl, (by rw [eL]; exact (List.append_nil _).symm), R.keep sT6, et6⟩ (fun j σ H _ ⟨_, _, _, _, _, e⟩ => SqT.of e) ?_ ?_⟩
        · rintro j x σ Hj hx ⟨L, y8, rfl, eL, R, etj⟩
          obtain ⟨z, hz, rfl⟩ := map_int_at hx
          have yes : 0 ≤ z → z < ws.getD k 0 → dueAt ws sg k (j + 1) = dueAt ws sg k j ++ [sg.set k z] := by
            intro h0 h1
            match j, hz with
            | 0, hz =>
              have e : sg.getD k 0 - 1 = z := Option.some.inj hz
              show decA sg k = [] ++ [sg.set k z]
              unfold decA
              rw [if_pos (by omega), e]
              rfl
            | 1, hz =>
              have e : sg.getD k 0 + 1 = z := Option.some.inj hz
              show decA sg k ++ incA ws sg k = decA sg k ++ [sg.set k z]
              unfold incA
              rw [if_pos (by omega), e]
            | j + 2, hz => simp at hz
          have no' : ¬ (0 ≤ z ∧ z < ws.getD k 0) → dueAt ws sg k (j + 1) = dueAt ws sg k j := by
            intro h
            match j, hz with
            | 0, hz =>
              have e : sg.getD k 0 - 1 = z := Option.some.inj hz
              show decA sg k = []
              unfold decA
              rw [if_neg (by omega)]
            | 1, hz =>
              have e : sg.getD k 0 + 1 = z := Option.some.inj hz
              show decA sg k ++ incA ws sg k = decA sg k
              unfold incA
              rw [if_neg (by omega), List.append_nil]
            | j + 2, hz => simp at hz
          have eRL : L.length ≤ 200000 := by
            have h1 : L.length = (dueL ws sg k ++ dueAt ws sg k j).length := by rw [← eL, List.length_map]
            rw [List.length_append] at h1
            have h2 := dueL_len ws sg k
            have h3 := decA_len sg k
            have h4 := incA_len ws sg k
            have h5 : (dueAt ws sg k j).length ≤ 2 := by
              match j with
              | 0 => exact Nat.zero_le _
              | 1 => show (decA sg k).length ≤ 2; omega
              | j + 2 => show (decA sg k ++ incA ws sg k).length ≤ 2; rw [List.length_append]; omega
            omega
          refine ⟨_, rfl, _, _, rfl, rfl, _, rfl, ite2 (fun c0 => ?_) (fun c => ?_)⟩
          · have h0 := of_decide_eq_true c0
            refine ⟨_, rfl, _, rfl, b, _, _, _, rfl, rfl, SqL.of (R.same _ _ (sI _ _ eb8)), atI_nat gw, _, _, rfl, rfl, _, rfl, ite2 (fun c1 => ?_) (fun c => ?_)⟩
            · have h1 := of_decide_eq_true c1
              -- due.append(setting_here[:k] + [number] + setting_here[k + 1:])
              have epj := R.same _ _ epg
              refine ⟨_, rfl, .inl ⟨rfl, _, SqL.of R.lst⟩, _, rfl, _, rfl, _, rfl, pp, _, rfl, SqL.of epj, fun u1 m1 => ?_⟩
              have r1 : Same Hj (upd Hj u1 (.lst (cutV (sg.map V.int) none (some (k : Int))))) := same_upd m1
              have w1 : (upd Hj u1 (.lst (cutV (sg.map V.int) none (some (k : Int))))) u1 = some (.lst (cutV (sg.map V.int) none (some (k : Int)))) := upd_same
              generalize upd Hj u1 (.lst (cutV (sg.map V.int) none (some (k : Int)))) = J1 at r1 w1 ⊢
              refine ⟨_, rfl, (by show 1 ≤ sizeLine; decide), fun u2 m2 => ?_⟩
              have r2 : Same J1 (upd J1 u2 (.lst [.int z])) := same_upd m2
              have w2 : (upd J1 u2 (.lst [.int z])) u2 = some (.lst [.int z]) := upd_same
              generalize upd J1 u2 (.lst [.int z]) = J2 at r2 w2 ⊢
              refine ⟨u1, u2, _, _, rfl, rfl, r2 _ _ w1, w2, ?_, fun u3 m3 => ?_⟩
              · rw [cut_to, List.length_take, List.length_map]
                exact le_line (by show _ + 1 ≤ 100000; omega)
              have r3 : Same J2 (upd J2 u3 (.lst (cutV (sg.map V.int) none (some (k : Int)) ++ [.int z]))) := same_upd m3
              have w3 : (upd J2 u3 (.lst (cutV (sg.map V.int) none (some (k : Int)) ++ [.int z]))) u3 = some (.lst (cutV (sg.map V.int) none (some (k : Int)) ++ [.int z])) := upd_same
              generalize upd J2 u3 (.lst (cutV (sg.map V.int) none (some (k : Int)) ++ [.int z])) = J3 at r3 w3 ⊢
              have r13 := (r1.trans r2).trans r3
              refine ⟨_, rfl, _, rfl, _, _, rfl, rfl, _, rfl, pp, _, rfl, SqL.of (r13 _ _ epj), fun u4 m4 => ?_⟩
              have r4 : Same J3 (upd J3 u4 (.lst (cutV (sg.map V.int) (some ((k : Int) + 1)) none))) := same_upd m4
              have w4 : (upd J3 u4 (.lst (cutV (sg.map V.int) (some ((k : Int) + 1)) none))) u4 = some (.lst (cutV (sg.map V.int) (some ((k : Int) + 1)) none)) := upd_same
              generalize upd J3 u4 (.lst (cutV (sg.map V.int) (some ((k : Int) + 1)) none)) = J4 at r4 w4 ⊢
              refine ⟨u3, u4, _, _, rfl, rfl, r4 _ _ w3, w4, ?_, fun u5 m5 => ?_⟩
              · have z1 := cutV_length (sg.map V.int) none (some (k : Int))
                have z2 := cutV_length (sg.map V.int) (some ((k : Int) + 1)) none
                rw [List.length_map] at z1 z2
                rw [List.length_append]
                exact le_line (by show _ + 1 + _ ≤ 100000; omega)
              have ecut : cutV (sg.map V.int) none (some (k : Int)) ++ [V.int z] ++ cutV (sg.map V.int) (some ((k : Int) + 1)) none = (sg.set k z).map V.int := cut_set z (by omega)
              rw [ecut]
              have r5 : Same J4 (upd J4 u5 (.lst ((sg.set k z).map V.int))) := same_upd m5
              have w5 : (upd J4 u5 (.lst ((sg.set k z).map V.int))) u5 = some (.lst ((sg.set k z).map V.int)) := upd_same
              generalize upd J4 u5 (.lst ((sg.set k z).map V.int)) = J5 at r5 w5 ⊢
              have r15 := (r13.trans r4).trans r5
              have mj : Hj u5 = none := (r13.trans r4).free m5
              refine ⟨o, _, _, rfl, rfl, r15 _ _ R.lst, ?_, L ++ [(u5, sg.set k z)], _, rfl, ?_, R.more no r15 mj w5, ?_⟩
              · unfold rowV
                rw [List.length_map]
                exact Nat.lt_of_le_of_lt eRL (by decide)
              · rw [List.map_append, eL, yes h0 h1, List.append_assoc]
                rfl
              · rw [upd_ne (ne_of etj R.lst (by intro q; cases q))]
                exact r15 _ _ etj
            · exact ⟨L, _, rfl, by rw [no' fun z => c (decide_eq_true z.2)]; exact eL, R, etj⟩
          · exact ⟨_, rfl, L, _, rfl, by rw [no' fun z => c (decide_eq_true z.1)]; exact eL, R, etj⟩
        · rintro σ Hj ⟨L, y8, rfl, eL, R, _⟩
          refine ⟨L, _, _, rfl, ?_, R⟩
          rw [eL, dueL_succ]
          rfl
      · rintro σ Hj ⟨L, y7, y8, rfl, eL, R⟩
        rw [List.length_map, Int.toNat_natCast] at eL
        have sIJ := R.same
        have sJ := sI.trans sIJ
        -- twice
        refine ⟨_, rfl, (by decide), (by decide), ?_⟩
        refine for_range (lo := 0) (fun i σ H => ∃ y9 y10 : Option V, σ = [some (.ref a), some (.ref b), some (.ref p1), some (.ref p2), some (.ref hd), some (.ref pp), some (.ref o), y7, y8, y9, y10, none, none, none] ∧ Same Hj H)
          ⟨y9, y10, rfl, Same.refl _⟩ ?_ ?_
        · rintro i2 σ Hc _ ⟨y9, y10, rfl, sc⟩
          have sC := sJ.trans sc
          refine ⟨_, rfl, hd, _, _, _, rfl, rfl, SqL.of (sC _ _ eh8), atI_nat (j := 0) rfl, _, rfl, c0, pp, ws, sg, rfl, SqL.of (sC _ _ ec0), SqL.of (sc _ _ (sIJ _ _ epg)), ho, hl, hokg, fun L2 p Hd eL2 sd np ep hq => ?_⟩
          refine ⟨_, rfl, _, _, _, _, true, rfl, .ty "list", tyx_list (SqL.of ep), kit_ty (by decide +kernel), _, rfl, ?_⟩
          have Rd := R.keep (sc.trans sd)
          refine ⟨_, rfl, _, rfl, o, L, rfl, SqL.of Rd.lst, Rd.seqs, fun ps nps => ?_⟩
          have ss : Same Hd (upd Hd ps (.lst (rowV (L.mergeSort fun q r => decide (q.2 ≤ r.2))))) := same_upd nps
          have es : (upd Hd ps (.lst (rowV (L.mergeSort fun q r => decide (q.2 ≤ r.2))))) ps = some (.lst (rowV (L.mergeSort fun q r => decide (q.2 ≤ r.2)))) := upd_same
          generalize upd Hd ps (.lst (rowV (L.mergeSort fun q r => decide (q.2 ≤ r.2)))) = Hs at ss es ⊢
          have Rs := Rd.keep ss
          refine ⟨_, _, dp_rows (L := L2) (SqL.of (ss _ _ ep)) (fun q hm => SqL.of (ss _ _ (hq q hm).2.2)), dp_rows (L := L.mergeSort fun q r => decide (q.2 ≤ r.2)) (SqL.of es) (fun q hm => Rs.seqs q ((List.mergeSort_perm _ _).mem_iff.mp hm)), shaped_rows _, shaped_rows _, _, rfl, ?_⟩
          have em : (L.mergeSort fun q r => decide (q.2 ≤ r.2)).map (·.2) = nearL ws sg := by
            rw [List.map_mergeSort (s := fun p q => decide (p ≤ q)) (fun _ _ _ _ => rfl), eL]
            exact merge_due eg
          rw [eL2, em, eqv_refl_rows]
          have eps := ss _ _ ep
          refine ⟨_, rfl, .inl ⟨rfl, _, SqL.of eps⟩, Nat.zero_le _, fun e ne => ?_⟩
          refine ⟨p, _, _, rfl, rfl, (same_upd ne) _ _ eps, ?_, _, _, rfl, Same.put (((sc.trans sd).trans ss).trans (same_upd ne)) (sc.free np)⟩
          · have h1 : L2.length = (nearL ws sg).length := by rw [← eL2, List.length_map]
            unfold nearL at h1
            rw [List.length_append] at h1
            have h2 := decs_len sg ws.length
            have h3 := incs_len ws sg ws.length ws.length
            unfold rowV
            rw [List.length_map]
            exact lt_line (by omega)
        · rintro σ Hc ⟨y9, y10, rfl, sc⟩
          exact ⟨_, _, _, _, _, _, rfl, sm.trans (sIJ.trans sc)⟩
    · rintro σ HA ⟨y5, y6, y7, y8, y9, y10, rfl, sA9⟩
      have sA := sT5.trans sA9
      have ebA := sA _ _ eb8
      have epA := sA _ _ ep8
      have eoA := sA _ _ eo8
      have ehA := sA _ _ eh8
      have ec0A := sA _ _ ec0
      have ec1A := sA _ _ ec1
      have ec2A := sA _ _ ec2
      have hel : st.length = so.length := by omega
      -- far
      refine ⟨_, rfl, hd, _, _, _, rfl, rfl, SqL.of ehA, atI_nat (j := 0) rfl, _, rfl, hd, _, _, _, rfl, rfl, SqL.of ehA, atI_nat (j := 1) rfl, _, rfl, hd, _, _, _, rfl, rfl, SqL.of ehA, atI_nat (j := 2) rfl, ?_⟩
      refine ⟨c0, c1, c2, ws, st, so, rfl, SqL.of ec0A, SqL.of ec1A, SqL.of ec2A, ho, hok, hok2, fun HB sB => ?_⟩
      have dn := dist_nn st so
      refine ⟨_, rfl, _, rfl, _, rfl, ?_⟩
      refine ⟨_, rfl, _, rfl, p1, _, rfl, .inl (SqL.of (sB _ _ epA)), _, rfl, (by omega), (by rw [List.length_map]; omega), fun D1 nD1 => ?_⟩
      refine lc_range (lo := 0) (fun i H4 => Same HB H4 ∧ H4 D1 = some (.lst ((gaps st so i).map V.int))) ⟨same_upd nD1, upd_same⟩ ?_ ?_
      · rintro i Hi hi ⟨si, eD⟩
        rw [List.length_map, Int.toNat_natCast] at hi
        have g1 : (st.map V.int)[i]? = some (.int st[i]) := at_map_int (List.getElem?_eq_getElem hi)
        have g2 : (so.map V.int)[i]? = some (.int (so[i]'(by omega))) := at_map_int (List.getElem?_eq_getElem (by omega))
        have sAi := sB.trans si
        refine ⟨rfl, _, rfl, _, rfl, p1, _, _, _, rfl, rfl, SqL.of (sAi _ _ epA), at_of (j := i) (by omega) g1, _, rfl, _, rfl, p2, _, _, _, rfl, rfl, SqL.of (sAi _ _ eoA), at_of (j := i) (by omega) g2, _, _, rfl, rfl, _, rfl, _, eD, ?_, ?_, ?_⟩
        · unfold gaps
          rw [List.length_map, List.length_map, List.length_range]; exact lt_line (by omega)
        · intro c u e
          rw [upd_ne (ne_of_none e nD1)]
          exact si _ _ e
        · rw [upd_same, gaps_snoc, List.map_append, List.getD_eq_getElem?_getD, List.getD_eq_getElem?_getD, List.getElem?_eq_getElem hi, List.getElem?_eq_getElem (show i < so.length by omega)]
          rfl
      rintro HC ⟨sC, eD⟩
      rw [List.length_map, Int.toNat_natCast] at eD
      refine ⟨D1, _, rfl, SqL.of eD, rfl, _, rfl, ?_⟩
      rw [gaps_sum hel, decide_eq_true (rfl : V.int (dist st so) = V.int (dist st so))]
      have sAC := sB.trans sC
      -- steps
      refine ⟨_, rfl, _, rfl, b, p1, ws, st, rfl, SqL.of (sAC _ _ ebA), SqL.of (sAC _ _ epA), ho, hl, hok, fun L p HD eL sD np ep hq => ?_⟩
      refine ⟨p, rfl, ⟨_, SqL.of ep⟩, fun D2 nD2 => ?_⟩
      have lL : L.length ≤ 2000 := by
        have h1 : L.length = (nearL ws st).length := by rw [← eL, List.length_map]
        unfold nearL at h1
        rw [List.length_append] at h1
        have h2 := decs_len st ws.length
        have h3 := incs_len ws st ws.length ws.length
        omega
      have sAD := sAC.trans sD
      refine lc_list (K := K) (a := p) (xs := rowV L) (fun i H => Same HD H ∧ H D2 = some (.lst (((L.take i).map fun q => dist q.2 so - dist st so).map V.int))) ⟨same_upd nD2, upd_same⟩ (fun i H _ h => SqL.of (h.1 _ _ ep)) ?_ ?_
      · rintro i x Hi hx ⟨si, eD2⟩
        obtain ⟨qq, hqq, rfl⟩ : ∃ qq, L[i]? = some qq ∧ x = .ref qq.1 := by
          unfold rowV at hx
          rw [List.getElem?_map] at hx
          cases e : L[i]? with
          | none => rw [e] at hx; cases hx
          | some z => rw [e] at hx; exact ⟨z, rfl, (Option.some.inj hx).symm⟩
        have hm := List.mem_of_getElem? hqq
        have hnear : qq.2 ∈ nearL ws st := by rw [← eL]; exact List.mem_map.mpr ⟨qq, hm, rfl⟩
        obtain ⟨_, _, _, _, _, hokq⟩ := near_ok hok hnear
        have hi : i < L.length := (List.getElem?_eq_some_iff.mp hqq).1
        have sAi := sAD.trans si
        refine ⟨rfl, _, rfl, _, rfl, _, rfl, b, qq.1, p2, ws, qq.2, so, rfl, SqL.of (sAi _ _ ebA), SqL.of (si _ _ (hq qq hm).2.2), SqL.of (sAi _ _ eoA), ho, hokq, hok2, fun Hj sj => ?_⟩
        refine ⟨_, rfl, _, _, rfl, rfl, _, sj _ _ eD2, ?_, fun c u e => ?_, ?_⟩
        · rw [List.length_map, List.length_map, List.length_take]
          exact lt_line (by omega)
        · rw [upd_ne (ne_of_none e nD2)]
          exact (si.trans sj) _ _ e
        · rw [upd_same, take_more hqq, List.map_append, List.map_append]
          rfl
      rintro HE ⟨sE, eD2⟩
      have elr : (rowV L).length = L.length := by unfold rowV; rw [List.length_map]
      rw [elr, List.take_length] at eD2
      have hstep : ∀ z ∈ L.map (fun q => dist q.2 so - dist st so), z = 1 ∨ z = -1 := by
        intro z hz
        obtain ⟨q, hm, rfl⟩ := List.mem_map.mp hz
        exact near_step hok hok2 (by rw [← eL]; exact List.mem_map.mpr ⟨q, hm, rfl⟩)
      have hless : 0 < dist st so → (-1 : Int) ∈ L.map (fun q => dist q.2 so - dist st so) := by
        intro h
        obtain ⟨x, hx, e⟩ := near_less hok hok2 h
        rw [← eL] at hx
        obtain ⟨q, hm, rfl⟩ := List.mem_map.mp hx
        exact List.mem_map.mpr ⟨q, hm, e⟩
      generalize hzs : L.map (fun q => dist q.2 so - dist st so) = zs at eD2 hstep hless
      have lz : zs.length ≤ 2000 := by rw [← hzs, List.length_map]; exact lL
      have sAE := sAD.trans sE
      -- any([abs(step) != 1 for step in steps])
      refine ⟨_, rfl, D2, rfl, ⟨_, SqL.of eD2⟩, fun D3 nD3 => ?_⟩
      refine lc_list (K := K) (a := D2) (xs := zs.map V.int) (fun i H => Same HE H ∧ H D3 = some (.lst ((List.replicate i false).map V.bl))) ⟨same_upd nD3, upd_same⟩ (fun i H _ h => SqL.of (h.1 _ _ eD2)) ?_ ?_
      · rintro i x Hi hx ⟨si, eD3⟩
        obtain ⟨z, hz, rfl⟩ := map_int_at hx
        have hi : i < zs.length := (List.getElem?_eq_some_iff.mp hz).1
        have hz1 : (if z < 0 then -z else z) = 1 := by
          rcases hstep z (List.mem_of_getElem? hz) with e | e <;> rw [e] <;> rfl
        refine ⟨rfl, _, rfl, _, rfl, ?_⟩
        rw [hz1]
        refine ⟨rfl, _, eD3, ?_, fun c u e => ?_, ?_⟩
        · rw [List.length_map, List.length_replicate]
          exact lt_line (by omega)
        · rw [upd_ne (ne_of_none e nD3)]
          exact si _ _ e
        · rw [upd_same, List.replicate_succ', List.map_append]
          rfl
      rintro HF ⟨sF, eD3⟩
      refine ⟨D3, _, rfl, SqL.of eD3, _, rfl, ?_⟩
      rw [any_rep]
      have sAF := sAE.trans sF
      refine ⟨_, rfl, _, _, rfl, rfl, _, rfl, ite2 (fun c => ?_) (fun _ => ?_)⟩
      rotate_left
      · refine ⟨_, rfl, _, rfl, _, rfl, b, p1, p1, ws, st, st, rfl, SqL.of (sAF _ _ ebA), SqL.of (sAF _ _ epA), SqL.of (sAF _ _ epA), ho, hok, hok, fun HG sG => ?_⟩
        rw [dist_self]
        refine ⟨rfl, _, rfl, ?_⟩
        rw [decide_eq_true (rfl : V.int 0 = V.int 0)]
        have sAG := sAF.trans sG
        refine ⟨_, rfl, _, rfl, _, rfl, b, p2, p1, ws, so, st, rfl, SqL.of (sAG _ _ ebA), SqL.of (sAG _ _ eoA), SqL.of (sAG _ _ epA), ho, hok2, hok, fun HI sI => ?_⟩
        rw [dist_comm so st]
        refine ⟨_, rfl, rfl, _, rfl, ?_⟩
        rw [decide_eq_true (rfl : V.int (dist st so) = V.int (dist st so))]
        have sAI := sAG.trans sI
        refine ⟨_, rfl, _, rfl, _, rfl, _, rfl, (by show 3 ≤ sizeLine; decide), fun u nu => ?_⟩
        have su : Same HI (upd HI u (.lst [.ref b, .ref p1, .ref p2])) := same_upd nu
        have eu : (upd HI u (.lst [.ref b, .ref p1, .ref p2])) u = some (.lst [.ref b, .ref p1, .ref p2]) := upd_same
        generalize upd HI u (.lst [.ref b, .ref p1, .ref p2]) = HU at su eu ⊢
        have sAU := sAI.trans su
        refine ⟨_, _, dp_rows (L := [(c0, ws), (c1, st), (c2, so)]) (SqL.of (sAU _ _ ehA)) ?_, dp_rows (L := [(b, ws), (p1, st), (p2, so)]) (SqL.of eu) ?_, shaped_rows _, shaped_rows _, ?_⟩
        · intro q hm
          rcases List.mem_cons.mp hm with rfl | hm
          · exact SqL.of (sAU _ _ ec0A)
          rcases List.mem_cons.mp hm with rfl | hm
          · exact SqL.of (sAU _ _ ec1A)
          rw [List.mem_singleton.mp hm]
          exact SqL.of (sAU _ _ ec2A)
        · intro q hm
          rcases List.mem_cons.mp hm with rfl | hm
          · exact SqL.of (sAU _ _ ebA)
          rcases List.mem_cons.mp hm with rfl | hm
          · exact SqL.of (sAU _ _ epA)
          rw [List.mem_singleton.mp hm]
          exact SqL.of (sAU _ _ eoA)
        · rw [show ([(c0, ws), (c1, st), (c2, so)] : List (Addr × List Int)).map (·.2) = [ws, st, so] from rfl, show ([(b, ws), (p1, st), (p2, so)] : List (Addr × List Int)).map (·.2) = [ws, st, so] from rfl, eqv_refl_rows]
          exact q _
      · have cpos := of_decide_eq_true c
        refine ⟨_, rfl, _, rfl, D2, _, rfl, .inl (SqL.of (sF _ _ eD2)), rfl, flat_ints zs, _, rfl, ?_⟩
        rw [show inV (.int (-1)) (zs.map V.int) = true from inV_ints (hless cpos)]
        refine ⟨_, rfl, _, rfl, _, rfl, b, p1, p1, ws, st, st, rfl, SqL.of (sAF _ _ ebA), SqL.of (sAF _ _ epA), SqL.of (sAF _ _ epA), ho, hok, hok, fun HG sG => ?_⟩
        rw [dist_self]
        refine ⟨rfl, _, rfl, ?_⟩
        rw [decide_eq_true (rfl : V.int 0 = V.int 0)]
        have sAG := sAF.trans sG
        refine ⟨_, rfl, _, rfl, _, rfl, b, p2, p1, ws, so, st, rfl, SqL.of (sAG _ _ ebA), SqL.of (sAG _ _ eoA), SqL.of (sAG _ _ epA), ho, hok2, hok, fun HI sI => ?_⟩
        rw [dist_comm so st]
        refine ⟨_, rfl, rfl, _, rfl, ?_⟩
        rw [decide_eq_true (rfl : V.int (dist st so) = V.int (dist st so))]
        have sAI := sAG.trans sI
        refine ⟨_, rfl, _, rfl, _, rfl, _, rfl, (by show 3 ≤ sizeLine; decide), fun u nu => ?_⟩
        have su : Same HI (upd HI u (.lst [.ref b, .ref p1, .ref p2])) := same_upd nu
        have eu : (upd HI u (.lst [.ref b, .ref p1, .ref p2])) u = some (.lst [.ref b, .ref p1, .ref p2]) := upd_same
        generalize upd HI u (.lst [.ref b, .ref p1, .ref p2]) = HU at su eu ⊢
        have sAU := sAI.trans su
        refine ⟨_, _, dp_rows (L := [(c0, ws), (c1, st), (c2, so)]) (SqL.of (sAU _ _ ehA)) ?_, dp_rows (L := [(b, ws), (p1, st), (p2, so)]) (SqL.of eu) ?_, shaped_rows _, shaped_rows _, ?_⟩
        · intro q hm
          rcases List.mem_cons.mp hm with rfl | hm
          · exact SqL.of (sAU _ _ ec0A)
          rcases List.mem_cons.mp hm with rfl | hm
          · exact SqL.of (sAU _ _ ec1A)
          rw [List.mem_singleton.mp hm]
          exact SqL.of (sAU _ _ ec2A)
        · intro q hm
          rcases List.mem_cons.mp hm with rfl | hm
          · exact SqL.of (sAU _ _ ebA)
          rcases List.mem_cons.mp hm with rfl | hm
          · exact SqL.of (sAU _ _ epA)
          rw [List.mem_singleton.mp hm]
          exact SqL.of (sAU _ _ eoA)
        · rw [show ([(c0, ws), (c1, st), (c2, so)] : List (Addr × List Int)).map (·.2) = [ws, st, so] from rfl, show ([(b, ws), (p1, st), (p2, so)] : List (Addr × List Int)).map (·.2) = [ws, st, so] from rfl, eqv_refl_rows]
          exact q _
end
end Ww
namespace Ww
open PySem PySem.Spec PyProof.Rows L2
/-! ### what the top has written of each def -/
theorem all_mk {l : PySem.W.OpenLaw} {w : World} {K : PySem.W.Frag} {h : Heap} {mg : Str → Option Value} {fa f1 f2 f3 f4 f5 f6 f7 f8 f9 f10 f11 f12 f13 : Addr} (X : K.In h) (G : h.Ns mainGlobals mg) (hfa : mg "law" = some (.ref fa))
    {od1 an1 od2 an2 od3 an3 od4 an4 od5 an5 od6 an6 od7 an7 od8 an8 od9 an9 od10 an10 od11 an11 od12 an12 od13 an13 : Option Addr} {sl1 sl2 sl3 sl4 sl5 sl6 sl7 sl8 sl9 sl10 sl11 sl12 sl13 : Array (Option Value)} {oc1 kV1 dc1 pm1 cd1 ct1 oc2 kV2 dc2 pm2 cd2 ct2 oc3 kV3 dc3 pm3 cd3 ct3 oc4 kV4 dc4 pm4 cd4 ct4 oc5 kV5 dc5 pm5 cd5 ct5 oc6 kV6 dc6 pm6 cd6 ct6 oc7 kV7 dc7 pm7 cd7 ct7 oc8 kV8 dc8 pm8 cd8 ct8 oc9 kV9 dc9 pm9 cd9 ct9 oc10 kV10 dc10 pm10 cd10 ct10 oc11 kV11 dc11 pm11 cd11 ct11 oc12 kV12 dc12 pm12 cd12 ct12 oc13 kV13 dc13 pm13 cd13 ct13 : Value}
    (a1 : PySem.W.nsIn K mainGlobals "is_whole" = some (some (.ref f1))) (l1 : K.lookup f1 = some ⟨oc1, od1, .func (PySem.W.fnOf "is_whole" "is_whole" (defArgs s_is_whole) (defBody s_is_whole) (defScope s_is_whole) .none kV1 dc1 pm1 an1 cd1 ct1), sl1⟩) (c1 : PySem.W.codeIn K cd1 "is_whole" = true) (k1 : PySem.W.keepIn K (.ref f1) = true)
    (a2 : PySem.W.nsIn K mainGlobals "check_wheels" = some (some (.ref f2))) (l2 : K.lookup f2 = some ⟨oc2, od2, .func (PySem.W.fnOf "check_wheels" "check_wheels" (defArgs s_check_wheels) (defBody s_check_wheels) (defScope s_check_wheels) .none kV2 dc2 pm2 an2 cd2 ct2), sl2⟩) (c2 : PySem.W.codeIn K cd2 "check_wheels" = true) (k2 : PySem.W.keepIn K (.ref f2) = true)
    (a3 : PySem.W.nsIn K mainGlobals "is_setting" = some (some (.ref f3))) (l3 : K.lookup f3 = some ⟨oc3, od3, .func (PySem.W.fnOf "is_setting" "is_setting" (defArgs s_is_setting) (defBody s_is_setting) (defScope s_is_setting) .none kV3 dc3 pm3 an3 cd3 ct3), sl3⟩) (c3 : PySem.W.codeIn K cd3 "is_setting" = true) (k3 : PySem.W.keepIn K (.ref f3) = true)
    (a4 : PySem.W.nsIn K mainGlobals "check_setting" = some (some (.ref f4))) (l4 : K.lookup f4 = some ⟨oc4, od4, .func (PySem.W.fnOf "check_setting" "check_setting" (defArgs s_check_setting) (defBody s_check_setting) (defScope s_check_setting) .none kV4 dc4 pm4 an4 cd4 ct4), sl4⟩) (c4 : PySem.W.codeIn K cd4 "check_setting" = true) (k4 : PySem.W.keepIn K (.ref f4) = true)
    (a5 : PySem.W.nsIn K mainGlobals "near" = some (some (.ref f5))) (l5 : K.lookup f5 = some ⟨oc5, od5, .func (PySem.W.fnOf "near" "near" (defArgs s_near) (defBody s_near) (defScope s_near) .none kV5 dc5 pm5 an5 cd5 ct5), sl5⟩) (c5 : PySem.W.codeIn K cd5 "near" = true) (k5 : PySem.W.keepIn K (.ref f5) = true)
    (a6 : PySem.W.nsIn K mainGlobals "_stepped" = some (some (.ref f6))) (l6 : K.lookup f6 = some ⟨oc6, od6, .func (PySem.W.fnOf "_stepped" "_stepped" (defArgs s_stepped) (defBody s_stepped) (defScope s_stepped) .none kV6 dc6 pm6 an6 cd6 ct6), sl6⟩) (c6 : PySem.W.codeIn K cd6 "_stepped" = true) (k6 : PySem.W.keepIn K (.ref f6) = true)
    (a7 : PySem.W.nsIn K mainGlobals "apart" = some (some (.ref f7))) (l7 : K.lookup f7 = some ⟨oc7, od7, .func (PySem.W.fnOf "apart" "apart" (defArgs s_apart) (defBody s_apart) (defScope s_apart) .none kV7 dc7 pm7 an7 cd7 ct7), sl7⟩) (c7 : PySem.W.codeIn K cd7 "apart" = true) (k7 : PySem.W.keepIn K (.ref f7) = true)
    (a8 : PySem.W.nsIn K mainGlobals "_law_cell_at" = some (some (.ref f8))) (l8 : K.lookup f8 = some ⟨oc8, od8, .func (PySem.W.fnOf "_law_cell_at" "_law_cell_at" (defArgs s_law_cell_at) (defBody s_law_cell_at) (defScope s_law_cell_at) .none kV8 dc8 pm8 an8 cd8 ct8), sl8⟩) (c8 : PySem.W.codeIn K cd8 "_law_cell_at" = true) (k8 : PySem.W.keepIn K (.ref f8) = true)
    (a9 : PySem.W.nsIn K mainGlobals "_law_draw" = some (some (.ref f9))) (l9 : K.lookup f9 = some ⟨oc9, od9, .func (PySem.W.fnOf "_law_draw" "_law_draw" (defArgs s_law_draw) (defBody s_law_draw) (defScope s_law_draw) .none kV9 dc9 pm9 an9 cd9 ct9), sl9⟩) (c9 : PySem.W.codeIn K cd9 "_law_draw" = true) (k9 : PySem.W.keepIn K (.ref f9) = true)
    (a10 : PySem.W.nsIn K mainGlobals "_law_wheels" = some (some (.ref f10))) (l10 : K.lookup f10 = some ⟨oc10, od10, .func (PySem.W.fnOf "_law_wheels" "_law_wheels" (defArgs s_law_wheels) (defBody s_law_wheels) (defScope s_law_wheels) .none kV10 dc10 pm10 an10 cd10 ct10), sl10⟩) (c10 : PySem.W.codeIn K cd10 "_law_wheels" = true) (k10 : PySem.W.keepIn K (.ref f10) = true)
    (a11 : PySem.W.nsIn K mainGlobals "_law_setting" = some (some (.ref f11))) (l11 : K.lookup f11 = some ⟨oc11, od11, .func (PySem.W.fnOf "_law_setting" "_law_setting" (defArgs s_law_setting) (defBody s_law_setting) (defScope s_law_setting) .none kV11 dc11 pm11 an11 cd11 ct11), sl11⟩) (c11 : PySem.W.codeIn K cd11 "_law_setting" = true) (k11 : PySem.W.keepIn K (.ref f11) = true)
    (a12 : PySem.W.nsIn K mainGlobals "_law_whole" = some (some (.ref f12))) (l12 : K.lookup f12 = some ⟨oc12, od12, .func (PySem.W.fnOf "_law_whole" "_law_whole" (defArgs s_law_whole) (defBody s_law_whole) (defScope s_law_whole) .none kV12 dc12 pm12 an12 cd12 ct12), sl12⟩) (c12 : PySem.W.codeIn K cd12 "_law_whole" = true) (k12 : PySem.W.keepIn K (.ref f12) = true)
    (a13 : PySem.W.nsIn K mainGlobals "law" = some (some (.ref f13))) (l13 : K.lookup f13 = some ⟨oc13, od13, .func (PySem.W.fnOf "law" "law" (defArgs s_law) (defBody s_law) (defScope s_law) .none kV13 dc13 pm13 an13 cd13 ct13), sl13⟩) (c13 : PySem.W.codeIn K cd13 "law" = true) (k13 : PySem.W.keepIn K (.ref f13) = true)
    (z_len : PySem.W.nsIn K mainGlobals "len" = some none)
    (z_range : PySem.W.nsIn K mainGlobals "range" = some none)
    (z_zip : PySem.W.nsIn K mainGlobals "zip" = some none)
    (z_reversed : PySem.W.nsIn K mainGlobals "reversed" = some none)
    (z_divmod : PySem.W.nsIn K mainGlobals "divmod" = some none)
    (z_enumerate : PySem.W.nsIn K mainGlobals "enumerate" = some none)
    (z_any : PySem.W.nsIn K mainGlobals "any" = some none)
    (z_all : PySem.W.nsIn K mainGlobals "all" = some none)
    (z_sum : PySem.W.nsIn K mainGlobals "sum" = some none)
    (z_abs : PySem.W.nsIn K mainGlobals "abs" = some none)
    (z_min : PySem.W.nsIn K mainGlobals "min" = some none)
    (z_list : PySem.W.nsIn K mainGlobals "list" = some none)
    (z_int : PySem.W.nsIn K mainGlobals "int" = some none)
    (z_bool : PySem.W.nsIn K mainGlobals "bool" = some none)
    (z_str : PySem.W.nsIn K mainGlobals "str" = some none)
    (z_tuple : PySem.W.nsIn K mainGlobals "tuple" = some none)
    (z_isinstance : PySem.W.nsIn K mainGlobals "isinstance" = some none)
    (z_sorted : PySem.W.nsIn K mainGlobals "sorted" = some none)
    : ∃ fd : FuncData, (∀ (s : Shared) (v : Value), BindsTo s fd ⟨[v], []⟩ [("_law_script", v)]) ∧ ∀ base : Heap, K.In base → base.Ns mainGlobals mg → FnOk l.prog w K mg base CX0 5 fa fd ["_law_script"] (sp_law K) := by
  have e := hfa.symm.trans (PySem.W.mg_of X G a13)
  cases e
  have B : Bi mg := ⟨PySem.W.mg_none_of X G z_len, PySem.W.mg_none_of X G z_range, PySem.W.mg_none_of X G z_zip, PySem.W.mg_none_of X G z_reversed, PySem.W.mg_none_of X G z_divmod, PySem.W.mg_none_of X G z_enumerate, PySem.W.mg_none_of X G z_any, PySem.W.mg_none_of X G z_all, PySem.W.mg_none_of X G z_sum, PySem.W.mg_none_of X G z_abs, PySem.W.mg_none_of X G z_min, PySem.W.mg_none_of X G z_list, PySem.W.mg_none_of X G z_int, PySem.W.mg_none_of X G z_bool, PySem.W.mg_none_of X G z_str, PySem.W.mg_none_of X G z_tuple, PySem.W.mg_none_of X G z_isinstance, PySem.W.mg_none_of X G z_sorted⟩
  have F1 := fun_mk (st := s_is_whole) l1 c1 k1
  have D_is_whole : Df K mg "is_whole" s_is_whole ["thing"] := ⟨_, _, F1, PySem.W.mg_of X G a1, F1.binds (ps := ["thing"]) fun _ _ _ _ _ _ us hl => match us, hl with | [_], _ => rfl⟩
  have F2 := fun_mk (st := s_check_wheels) l2 c2 k2
  have D_check_wheels : Df K mg "check_wheels" s_check_wheels ["wheels"] := ⟨_, _, F2, PySem.W.mg_of X G a2, F2.binds (ps := ["wheels"]) fun _ _ _ _ _ _ us hl => match us, hl with | [_], _ => rfl⟩
  have F3 := fun_mk (st := s_is_setting) l3 c3 k3
  have D_is_setting : Df K mg "is_setting" s_is_setting ["wheels", "setting"] := ⟨_, _, F3, PySem.W.mg_of X G a3, F3.binds (ps := ["wheels", "setting"]) fun _ _ _ _ _ _ us hl => match us, hl with | [_, _], _ => rfl⟩
  have F4 := fun_mk (st := s_check_setting) l4 c4 k4
  have D_check_setting : Df K mg "check_setting" s_check_setting ["wheels", "setting"] := ⟨_, _, F4, PySem.W.mg_of X G a4, F4.binds (ps := ["wheels", "setting"]) fun _ _ _ _ _ _ us hl => match us, hl with | [_, _], _ => rfl⟩
  have F5 := fun_mk (st := s_near) l5 c5 k5
  have D_near : Df K mg "near" s_near ["wheels", "setting"] := ⟨_, _, F5, PySem.W.mg_of X G a5, F5.binds (ps := ["wheels", "setting"]) fun _ _ _ _ _ _ us hl => match us, hl with | [_, _], _ => rfl⟩
  have F6 := fun_mk (st := s_stepped) l6 c6 k6
  have D_stepped : Df K mg "_stepped" s_stepped ["setting", "at", "step"] := ⟨_, _, F6, PySem.W.mg_of X G a6, F6.binds (ps := ["setting", "at", "step"]) fun _ _ _ _ _ _ us hl => match us, hl with | [_, _, _], _ => rfl⟩
  have F7 := fun_mk (st := s_apart) l7 c7 k7
  have D_apart : Df K mg "apart" s_apart ["wheels", "one", "other"] := ⟨_, _, F7, PySem.W.mg_of X G a7, F7.binds (ps := ["wheels", "one", "other"]) fun _ _ _ _ _ _ us hl => match us, hl with | [_, _, _], _ => rfl⟩
  have F8 := fun_mk (st := s_law_cell_at) l8 c8 k8
  have D_law_cell_at : Df K mg "_law_cell_at" s_law_cell_at ["_law_script", "_law_k"] := ⟨_, _, F8, PySem.W.mg_of X G a8, F8.binds (ps := ["_law_script", "_law_k"]) fun _ _ _ _ _ _ us hl => match us, hl with | [_, _], _ => rfl⟩
  have F9 := fun_mk (st := s_law_draw) l9 c9 k9
  have D_law_draw : Df K mg "_law_draw" s_law_draw ["_law_cell", "_law_k", "_law_many"] := ⟨_, _, F9, PySem.W.mg_of X G a9, F9.binds (ps := ["_law_cell", "_law_k", "_law_many"]) fun _ _ _ _ _ _ us hl => match us, hl with | [_, _, _], _ => rfl⟩
  have F10 := fun_mk (st := s_law_wheels) l10 c10 k10
  have D_law_wheels : Df K mg "_law_wheels" s_law_wheels ["_law_script"] := ⟨_, _, F10, PySem.W.mg_of X G a10, F10.binds (ps := ["_law_script"]) fun _ _ _ _ _ _ us hl => match us, hl with | [_], _ => rfl⟩
  have F11 := fun_mk (st := s_law_setting) l11 c11 k11
  have D_law_setting : Df K mg "_law_setting" s_law_setting ["_law_script", "_law_wheels_here", "_law_by"] := ⟨_, _, F11, PySem.W.mg_of X G a11, F11.binds (ps := ["_law_script", "_law_wheels_here", "_law_by"]) fun _ _ _ _ _ _ us hl => match us, hl with | [_, _, _], _ => rfl⟩
  have F12 := fun_mk (st := s_law_whole) l12 c12 k12
  have D_law_whole : Df K mg "_law_whole" s_law_whole ["_law_number"] := ⟨_, _, F12, PySem.W.mg_of X G a12, F12.binds (ps := ["_law_number"]) fun _ _ _ _ _ _ us hl => match us, hl with | [_], _ => rfl⟩
  have F13 := fun_mk (st := s_law) l13 c13 k13
  have D_law : At K mg "law" s_law ["_law_script"] _ _ := ⟨F13, PySem.W.mg_of X G a13, F13.binds (ps := ["_law_script"]) fun _ _ _ _ _ _ us hl => match us, hl with | [_], _ => rfl⟩
  refine ⟨PySem.W.fnOf "law" "law" (defArgs s_law) (defBody s_law) (defScope s_law) .none kV13 dc13 pm13 an13 cd13 ct13, fun s v => .of_eq rfl, fun base _ _ => ?_⟩
  have G_is_whole := ok_is_whole (P := l.prog) (w := w) (base := base) D_is_whole B
  have G_check_wheels := ok_check_wheels (P := l.prog) (w := w) (base := base) D_check_wheels B G_is_whole
  have G_is_setting := ok_is_set (P := l.prog) (w := w) (base := base) D_is_setting B G_is_whole
  have G_check_setting := ok_check_setting (P := l.prog) (w := w) (base := base) D_check_setting G_is_setting
  have G_stepped := ok_stepped (P := l.prog) (w := w) (base := base) (K := K) D_stepped B
  have G_near := ok_near (P := l.prog) (w := w) (base := base) D_near B G_check_wheels G_check_setting G_stepped
  have G_apart := ok_apart (P := l.prog) (w := w) (base := base) D_apart B G_check_wheels G_check_setting
  have G_law_cell_at := ok_cell_at (P := l.prog) (w := w) (base := base) D_law_cell_at B
  have G_law_draw := ok_draw (P := l.prog) (w := w) (base := base) D_law_draw B
  have G_law_wheels := ok_wheels (P := l.prog) (w := w) (base := base) D_law_wheels B G_law_cell_at G_law_draw
  have G_law_setting := ok_setting (P := l.prog) (w := w) (base := base) D_law_setting B G_law_cell_at G_law_draw
  have G_law_whole := ok_whole (P := l.prog) (w := w) (base := base) D_law_whole B
  exact ok_law D_law B G_law_wheels G_law_setting G_law_whole G_near G_apart
end Ww
open PySem PySem.W PyProof.Rows
set_option maxHeartbeats 0 in
theorem PySem.Challenge.cw_wheelways_k03_neighbours_holds : PySem.Challenge.rw_wheelways_k03_neighbours.Holds := by
  w_on; o_law; k_head; (case hw => w_witness2)
  k_fill
  refine L2.walk_of (l := PySem.Challenge.rw_wheelways_k03_neighbours) (n := 63) (k := 5) (x := "_law_script") (CX := fun _ => L2.CX0) (sp := fun w => Ww.sp_law _) rfl (by decide) rfl ⟨rfl, by decide, by decide⟩ (fun w h Y => PySem.W.kIn_of Y) ?F (fun _ _ a ns hl _ hS => ⟨a, ns, rfl, hS, hl, fun _ => rfl⟩) (fun _ _ _ _ _ h => h)
  case F =>
    intro w mg fa h KX G hmg
    refine' Ww.all_mk KX G hmg ?a1 ?l1 ?c1 ?k1 ?a2 ?l2 ?c2 ?k2 ?a3 ?l3 ?c3 ?k3 ?a4 ?l4 ?c4 ?k4 ?a5 ?l5 ?c5 ?k5 ?a6 ?l6 ?c6 ?k6 ?a7 ?l7 ?c7 ?k7 ?a8 ?l8 ?c8 ?k8 ?a9 ?l9 ?c9 ?k9 ?a10 ?l10 ?c10 ?k10 ?a11 ?l11 ?c11 ?k11 ?a12 ?l12 ?c12 ?k12 ?a13 ?l13 ?c13 ?k13 ?z_len ?z_range ?z_zip ?z_reversed ?z_divmod ?z_enumerate ?z_any ?z_all ?z_sum ?z_abs ?z_min ?z_list ?z_int ?z_bool ?z_str ?z_tuple ?z_isinstance ?z_sorted
    (case a1 => k_is)
    (case l1 => k_is)
    (case c1 => k_is)
    (case k1 => k_is)
    (case a2 => k_is)
    (case l2 => k_is)
    (case c2 => k_is)
    (case k2 => k_is)
    (case a3 => k_is)
    (case l3 => k_is)
    (case c3 => k_is)
    (case k3 => k_is)
    (case a4 => k_is)
    (case l4 => k_is)
    (case c4 => k_is)
    (case k4 => k_is)
    (case a5 => k_is)
    (case l5 => k_is)
    (case c5 => k_is)
    (case k5 => k_is)
    (case a6 => k_is)
    (case l6 => k_is)
    (case c6 => k_is)
    (case k6 => k_is)
    (case a7 => k_is)
    (case l7 => k_is)
    (case c7 => k_is)
    (case k7 => k_is)
    (case a8 => k_is)
    (case l8 => k_is)
    (case c8 => k_is)
    (case k8 => k_is)
    (case a9 => k_is)
    (case l9 => k_is)
    (case c9 => k_is)
    (case k9 => k_is)
    (case a10 => k_is)
    (case l10 => k_is)
    (case c10 => k_is)
    (case k10 => k_is)
    (case a11 => k_is)
    (case l11 => k_is)
    (case c11 => k_is)
    (case k11 => k_is)
    (case a12 => k_is)
    (case l12 => k_is)
    (case c12 => k_is)
    (case k12 => k_is)
    (case a13 => k_is)
    (case l13 => k_is)
    (case c13 => k_is)
    (case k13 => k_is)
    (case z_len => k_is)
    (case z_range => k_is)
    (case z_zip => k_is)
    (case z_reversed => k_is)
    (case z_divmod => k_is)
    (case z_enumerate => k_is)
    (case z_any => k_is)
    (case z_all => k_is)
    (case z_sum => k_is)
    (case z_abs => k_is)
    (case z_min => k_is)
    (case z_list => k_is)
    (case z_int => k_is)
    (case z_bool => k_is)
    (case z_str => k_is)
    (case z_tuple => k_is)
    (case z_isinstance => k_is)
    (case z_sorted => k_is)
#print axioms PySem.Challenge.cw_wheelways_k03_neighbours_holds
