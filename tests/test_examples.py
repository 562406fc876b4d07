"""The examples of the document, as they stand there, one after another."""

import inspect
import unittest

from layerseen.errors import LayerError

EXAMPLES = r"""
>>> from layerseen.names import fresh, is_name, is_word
>>> [is_name("x"), is_name("put"), is_word("put"), is_name("abcdefghi"), is_name("x1"), is_word("")]
[True, False, True, False, False, False]
>>> names = fresh("a", "c")
>>> [next(names) for turn in range(3)]
['b', 'd', 'e']
>>> list(fresh("a", "if"))
raises BadName('if')
>>> from layerseen.programs import Catch, Choose, Copy, Deed, Fail, If, Leave, Program, Put, Say, Stop
>>> try_put = Program(Catch("f", Program(Put("x", 1), Fail("f"))), Copy("y", "x"))
>>> str(try_put)
'catch f ( put x 1 ; fail f ) else ( skip ) ; copy y x'
>>> [len(try_put), try_put.size, try_put.depth, try_put.cells, try_put.failures, Fail("f") in try_put, try_put.chooses]
[2, 4, 1, ('x', 'y'), ('f',), True, False]
>>> [list(try_put.walk()), str(try_put.deed_at((0, 0, 1))), str(try_put.without((0, 0, 1)))]
[[(0,), (0, 0, 0), (0, 0, 1), (1,)], 'fail f', 'catch f ( put x 1 ) else ( skip ) ; copy y x']
>>> [str(Program(Put("x", 1)) | Leave()), str((Program(Stop()) * 2)[1:]), str(try_put[::-1][:1]), try_put.least_sizes() == {"x": 2, "y": 2}]
['choose ( put x 1 ) or ( none )', 'stop', 'copy y x', True]
>>> [Program.read("if x = 3 ( skip ) else ( say l stop )") == Program(If("x", 3, Program(), Program(Say("l", "stop")))), str(Program()), Deed.read("put x 0") == Put("x", 0)]
[True, 'skip', True]
>>> [str(try_put.renamed({"x": "y", "y": "x", "z": "w"})), bool(Program())]
['catch f ( put y 1 ; fail f ) else ( skip ) ; copy x y', False]
>>> Program.read("put x 1 ;")
raises BadText(0, 4)
>>> Program.read("put x 4 ; stop")
raises BadText(0, 2)
>>> Put("if", 9)
raises BadName('if')
>>> try_put.renamed({"x": "y"})
raises BadProgram('names')
>>> try_put.deed_at((0, 1, 0))
raises NoPlace((0, 1, 0))
>>> from layerseen.handlers import Cell, Choice, Failure, Handler, Keeping, Log, Named, Turning
>>> from layerseen.stacks import Stack
>>> x, l, f, c = Cell("x"), Log("l"), Failure("f"), Choice()
>>> [x.meets(f), x.meets(l), f.meets(Failure("g")), f.meets(c), isinstance(f, Named), isinstance(c, Named), Handler.read("cell x 2") == x]
[True, False, False, True, True, False, True]
>>> stack = Stack(x, f, c, l)
>>> [str(stack), stack.names, stack.shared, stack.own, stack.gathering, stack.taken_back("f"), stack.kept("f")]
['cell x 2, failure f, choice, log l', ('x', 'f', 'choice', 'l'), ('x',), ('l',), ('f',), ('l',), ('x',)]
>>> stack.pairs
(('choice', 'l'), ('f', 'choice'), ('f', 'l'), ('x', 'choice'), ('x', 'f'))
>>> [str(stack // "f"), str(stack % "f"), str(~stack), str(stack - "f"), str(stack.exchanged(0)), str(stack.moved("l", 0))]
['cell x 2', 'choice, log l', 'log l, choice, failure f, cell x 2', 'cell x 2, choice, log l', 'failure f, cell x 2, choice, log l', 'log l, cell x 2, failure f, choice']
>>> [str(Cell("y", 3) + stack[2:]), str(stack[:1] + c), Stack(x, c) <= stack, Stack(c, x) <= stack, str(Stack())]
['cell y 3, choice, log l', 'cell x 2, choice', True, False, '-']
>>> Stack.read("cell x 2, choice, log")
raises BadText(0, 5)
>>> Stack.read("choice choice")
raises BadText(0, 1)
>>> Stack(x, Log("x"))
raises Taken('x')
>>> stack.check(Program.read("put x 2"))
raises Unfit('x')
>>> from layerseen.ends import End, ends_text
>>> from layerseen.player import ends, trace
>>> program = Program.read("choose ( put x 1 ) or ( skip ) ; say l a")
>>> own, shared = Stack.read("choice, cell x 2, log l"), Stack.read("cell x 2, log l, choice")
>>> [ends_text(ends(program, own)), ends_text(ends(program, shared))]
['done ; x 1 ; l a / done ; x 0 ; l a', 'done ; x 1 ; l a / done ; x 1 ; l a a']
>>> ends(program, own)[0] == End(None, {"x": 1}, {"l": ("a",)})
True
>>> risky = Program.read("choose ( put x 1 ) or ( put x 2 ; fail f ) ; copy y x")
>>> [ends_text(ends(risky, Stack.read("cell y 3, " + row))) for row in ["choice, failure f, cell x 3", "failure f, choice, cell x 3", "cell x 3, failure f, choice"]]
['done ; x 1 ; y 1 / failed f ; x 0 ; y 1', 'failed f ; x 0 ; y 1', 'failed f ; x 2 ; y 1']
>>> gather = Program.read("catch f ( choose ( put x 1 ) or ( put x 2 ) ) else ( skip ) ; copy y x")
>>> [ends_text(ends(gather, Stack.read(row + ", choice"))) for row in ["cell x 3, cell y 3, failure f"]]
['done ; x 2 ; y 2 / done ; x 2 ; y 2']
>>> [str(deed) for deed in trace(gather, Stack.read("cell x 3, cell y 3, failure f, choice"))]
['put x 1', 'put x 2', 'copy y x', 'copy y x']
>>> ends(Program.read("put x 2"), Stack.read("cell x 2"))
raises Unfit('x')
>>> wait = Program.read("catch g ( catch f ( choose ( fail g ) or ( put x 1 ) ) else ( skip ) ; say l b ) else ( copy y x )")
>>> ends_text(ends(wait, Stack.read("cell x 2, cell y 2, failure f, choice, failure g, log l")))
'done ; x 1 ; y 1 ; l - / done ; x 1 ; y 1 ; l b'
>>> from layerseen.compared import Exchanges, Parting, compare, crossed, led, parting_of, partings, shows_exchanges, shows_parting, way
>>> one, other = Stack(x, l, f), Stack(l, x, f)
>>> [compare(one, other) == Exchanges((0,)), crossed(one, other), [str(step) for step in way(one, other)], shows_exchanges(one, other, Exchanges((0, 0, 0)))]
[True, (('x', 'l'),), ['cell x 2, log l, failure f', 'log l, cell x 2, failure f'], True]
>>> one, other = Stack(x, f, c), Stack(f, c, x)
>>> found = compare(one, other)
>>> [bool(found), str(found.program), ends_text(found.ends), ends_text(found.others), crossed(one, other)]
[False, 'choose ( put x 1 ) or ( skip )', 'done ; x 1 / done ; x 1', 'done ; x 1 / done ; x 0', (('x', 'choice'), ('x', 'f'))]
>>> [shows_parting(one, other, found), shows_parting(other, one, found), str(led(one, [0, 1])), str(parting_of(l, c))]
[True, False, 'failure f, choice, cell x 2', 'choose ( say l a ) or ( skip )']
>>> [(names, str(program)) for names, program in partings(Stack(x, l, f))]
[(('f', 'l'), 'say l a ; fail f'), (('f', 'x'), 'put x 1 ; fail f')]
>>> compare(one, Stack(x, f))
raises Unlike('handlers')
>>> parting_of(x, l)
raises Unlike('pair')
>>> from layerseen.classes import beside, class_at, class_index, class_way, classes, layers, many_classes, many_in, normal, turned
>>> from layerseen.handlers import Cell, Choice, Failure
>>> from layerseen.stacks import Stack
>>> four = Stack(Cell("y"), Cell("x"), Failure("f"), Choice())
>>> [layers(four), str(normal(four)), many_in(four), class_index(four), many_classes(2, 1, True), many_classes(2, 2, False)]
[(('x', 'y'), ('f',), ('choice',)), 'cell x 2, cell y 2, failure f, choice', 2, 13, 18, 14]
>>> [layers(one) for one in classes(four, 15)]
[(('y',), ('choice',), ('x',), ('f',)), (('y',), ('f',), ('choice',), ('x',)), (('y',), ('f',), ('x',), ('choice',))]
>>> [turned(class_at(four, 0), class_at(four, 3)), len([one for one in beside(four)]), len(class_way(class_at(four, 0), class_at(four, 3)))]
[(('f', 'y'),), 3, 2]
>>> class_at(four, 18)
raises BadNumber(18)
>>> from layerseen.wishes import Near, Ring, Wish, Wishes, nearest, shows_near, shows_ring, stack_for
>>> some = Wishes(Wish.undone_by("x", "f"), Wish.all_share("x"))
>>> [str(stack_for(four, some)), [str(wish) for wish in some], some.hold(four), [str(wish) for wish in some.broken(four)]]
['failure f, cell x 2, choice, cell y 2', ['choice in x', 'x in f'], False, ['x in f']]
>>> found = nearest(four, some)
>>> [str(found.stack), found.many, found.floors[("f", "y")], shows_near(four, some, found)]
['cell y 2, failure f, cell x 2, choice', 1, 0, True]
>>> ring = stack_for(four, some | Wishes(Wish.branch_fails("f")))
>>> [ring == Ring(("choice", "x", "f")), bool(ring), shows_ring(some, ring), Wish.read("x in f") == Wish("x", "f")]
[True, False, False, True]
>>> Wish("x", "y").holds(four)
raises BadWish('pair')
>>> from layerseen.talks import Broke, Ended, Failed, Over, Stopped, Talk, replies, starts
>>> stack = Stack.read("cell x 2, choice, cell y 3, log l")
>>> talk = Talk(Program.read("choose ( put x 1 ; say l a ) or ( copy y x )"), stack, {"x": 0, "y": 2})
>>> [str(talk), talk.asked, talk.is_over, talk[0] == Ended({"x": 1, "y": 2}, {"l": ("a",)})]
['ended ; x 1 ; y 2 ; l a', ('x',), False, True]
>>> [str(talk.reply({"x": 0})), str(talk({"x": 1})), talk.is_over, len(talk), Over({"x": 1}, {}) in talk]
['ended ; x 0 ; y 0 ; l -', 'over ; x 1', True, 3, True]
>>> [talk.undo(), talk.undo(), talk.undo(), str(talk.run({"x": 1}, {"x": 0})[0]), talk.replies]
[True, True, False, 'ended ; x 1 ; y 1 ; l -', ({'x': 1}, {'x': 0})]
>>> broken = Talk(Program.read("choose ( skip ) or ( put x 1 ; put k 1 ; fail f )"), Stack.read("cell k 2, failure f, cell x 2, choice"), {"k": 0, "x": 0})
>>> [str(broken.reply({"k": 0, "x": 1})), broken.is_over, broken[1] == Broke("f", {"k": 1}, {})]
['broke f ; k 1', True, True]
>>> kept = Talk(Program.read("say l a ; put y 1 ; fail g"), Stack.read("choice, cell y 2, failure g, log l"), {"y": 0})
>>> [str(kept), str(kept.reply({})), str(Talk(Program.read("stop"), stack, {"x": 1}, "l"))]
['failed g ; y 1', 'over', 'stopped ; x 1 ; l -']
>>> [list(starts(stack, "y", "x"))[:4], list(replies(stack, "y", "x")), list(replies(stack, "y"))]
[[{'x': 0, 'y': 0}, {'x': 0, 'y': 1}, {'x': 0, 'y': 2}, {'x': 1, 'y': 0}], [{'x': 0}, {'x': 1}], [{}]]
>>> talk.reply({"x": 1})
raises BadTalk('over')
>>> Talk(Program.read("put x 1"), stack, {"y": 0})
raises BadTalk('start')
>>> from layerseen.tables import Table, shows_table, table
>>> put, own, shared = Program.read("put x 1"), Stack.read("choice, cell x 2"), Stack.read("cell x 2, choice")
>>> small = Table((("x", 2),), (), (), (((Over({}, {}), None),), ((Ended({"x": 1}, {}), 0), (Ended({"x": 1}, {}), 0))))
>>> [table(put, own) == small, small.talks, small.longest, shows_table(put, own, small), shows_table(put, shared, small)]
[True, 2, 2, True, False]
>>> wide = table(put, shared)
>>> [len(wide.rows), wide.talks, [str(event) for event in wide.told({"x": 0}, {"x": 0})]]
[2, 4, ['ended ; x 1', 'over ; x 0']]
>>> three = table(Program.read("choose ( put x 1 ) or ( skip )"), shared)
>>> [[(str(event), number) for event, number in row] for row in three.rows]
[[('over ; x 0', None), ('over ; x 1', None)], [('ended ; x 0', 0), ('ended ; x 1', 0)], [('ended ; x 1', 1), ('ended ; x 1', 1)]]
>>> [three.talks, three.longest]
[8, 3]
>>> from layerseen.likeness import Apart, Same, alike, meet
>>> from layerseen.look_likeness import shows_alike
>>> lost, bare = Program.read("put x 1 ; none"), Program.read("none")
>>> [bool(alike(lost, bare, own)), alike(lost, bare, shared) == Apart({"x": 0}, (), (Over({"x": 1}, {}),), (Over({"x": 0}, {}),))]
[True, True]
>>> first, second = Program.read("choose ( put x 1 ) or ( put x 0 )"), Program.read("choose ( put x 1 ) or ( skip )")
>>> found = alike(first, second, shared)
>>> [found.start, found.replies, [str(event) for event in found.events], [str(event) for event in found.others], meet(first, second, shared)]
[{'x': 0}, ({'x': 1},), ['ended ; x 1', 'ended ; x 0'], ['ended ; x 1', 'ended ; x 1'], 1]
>>> [alike(first, second, own).start, shows_alike(first, second, shared, found), shows_alike(lost, bare, own, Same(table(bare, own, "x")))]
[{'x': 1}, True, True]
>>> from layerseen.where import Rule, Where, groups, rules, shown, shows_where, where
>>> put, none = Program.read("put x 1 ; none"), Program.read("none")
>>> found = where(put, none, Stack(x, f, c))
>>> [len(found.rows), [str(stack) for stack in found.stacks if stack.place("x") == 0], found.needed, found.reasons(), bool(found), Stack(c, x, f) in found, Stack(x, c, f) in found]
[6, [], (('choice', 'x'),), ((('choice', 'x'),),), False, True, False]
>>> [found.enough((("choice", "f"), ("f", "x"))), found.enough((("x", "f"),)), found.enough(()), where(none, none, Stack(x, f)).reasons()]
[True, False, False, ((),)]
>>> last = [rule for rule in rules(Stack(x, f, c))][-1]
>>> [last.word, last.conditions, len([rule for rule in rules(Stack(x, f, c))])]
['gathered', ((('choice', 'f'),), (('choice', 'x'),)), 8]
>>> [len(groups(Program.read("put x 1 ; fail f"), Stack(x, f, c))), shown(Program.read("put x 1 ; fail f"), Stack(x, f, c)), shown(put, Stack(x, f, c))]
[2, (('f', 'x'),), ()]
>>> from layerseen.slim import Slim, idle, shows_slim, slimmed
>>> twice = Program.read("put x 1 ; put x 2")
>>> [idle(twice, Stack.read("cell x 3")), slimmed(twice, Stack.read("cell x 3")) == Slim(Program.read("put x 2"), ((0,),))]
[((0,),), True]
>>> lost = Program.read("put x 1 ; none")
>>> [idle(lost, Stack.read("choice, cell x 2")), idle(lost, Stack.read("cell x 2, choice"))]
[((0,),), ()]
>>> both = Program.read("choose ( put x 1 ) or ( none ) ; stop ; say l a")
>>> [str(slimmed(both, Stack.read("choice, cell x 2, log l")).program), shows_slim(both, Slim(both, ()), Stack.read("choice, cell x 2, log l"))]
['choose ( put x 1 ) or ( skip ) ; stop', False]
>>> from layerseen.ends import End
>>> from layerseen.player import ends
>>> from layerseen.programs import Program
>>> from layerseen.told import Sample, Told, fewest, fitting, parts, shows_told, sure, told_back
>>> three = Stack(Cell("x"), Choice(), Failure("f"))
>>> short = Program.read("choose ( put x 1 ; fail f ) or ( skip )")
>>> seen = Sample(short, [End("f", {"x": 1}, {}), End(None, {"x": 1}, {})])
>>> [[layers(one) for one in fitting(three, seen)], sure(three, seen), seen.fits(three), Sample.of(short, three) == seen]
[[(('x',), ('choice',), ('f',))], (('choice', 'f'), ('x', 'choice'), ('x', 'f')), True, True]
>>> [parts(three, short), fewest(three, Program(), short, short), sure(three)]
[((0,), (1,), (2, 3), (4,), (5,)), (1,), ()]
>>> found = told_back(three, lambda program: ends(program, three))
>>> [found.stack == three, len(found.samples), shows_told(three, found)]
[True, 2, True]
>>> Sample(short, [None])
raises BadSample(0)
>>> from layerseen.bench import Bench
>>> bench = Bench(Stack.read("choice, cell x 3, failure f"))
>>> bench["risk"] = Program.read("choose ( put x 1 ; fail f ) or ( skip )")
>>> bench.put("two", Program.read("put x 1 ; put x 2"))
>>> [ends_text(bench.play("risk")), list(bench), bench.exchange(1), ends_text(bench.play("risk")), bench.unmoved(Stack.read("cell x 3, choice, failure f"))]
['failed f ; x 1 / done ; x 0', ['risk', 'two'], True, 'failed f ; x 0 / done ; x 0', ('two',)]
>>> [bench.slim("two"), str(bench["two"]), bench.history, bench.undo(), bench.tried(lambda same: same.drop("two")), len(bench)]
[1, 'put x 2', ('put', 'put', 'exchange', 'slim'), 'slim', None, 2]
>>> bench.glue("long", "two", "risk", "none")
raises NoName('none')
>>> bench.stack_now = Stack.read("choice, cell x 2, failure f")
raises Unfit('x')
>>> from layerseen.reader import read_bench, read_ends
>>> from layerseen.texts import bench_text
>>> bench_text(bench).split("\n")
['choice, failure f, cell x 3', 'risk : choose ( put x 1 ; fail f ) or ( skip )', 'two : put x 1 ; put x 2']
>>> [read_bench(bench_text(bench)) == bench, len(read_bench("choice")), read_ends("failed f ; x 1 ; l - / done") == (End("f", {"x": 1}, {"l": ()}), End(None, {}, {}))]
[True, 0, True]
>>> read_bench("choice\na : put x 1")
raises BadText(1, 0)
>>> read_bench("choice\nb : skip\na : skip")
raises BadText(2, 0)
>>> read_ends("done ; l a ; x 1")
raises BadText(0, 6)
>>> from layerseen.desk import Desk
>>> desk = Desk(Stack.read("cell y 2, cell x 2, failure f, choice"))
>>> desk.run("put a choose ( put x 1 ) or ( skip )", "put b put x 3", "play a", "class", "exchange 0", "exchange 1", "undo")
['ok', 'refused Unfit', 'done ; x 1 ; y 0 / done ; x 1 ; y 0', '13 of 18', 'hidden', 'seen', 'exchange']
>>> desk.run("compare cell y 2, cell x 2, failure f, choice", "wish x in f and choice in x", "wish x in f and f in x", "show")
['same 0', 'failure f, cell x 2, choice, cell y 2', 'ring f x', 'cell x 2, cell y 2, failure f, choice / a : choose ( put x 1 ) or ( skip )']
>>> desk("put if skip")
raises BadLine(1)
>>> desk("near x in")
raises BadLine(3)
"""


def told(error):
    """An error as the document writes it."""
    fields = [repr(getattr(error, name)) for name in list(inspect.signature(type(error)).parameters)]
    return f"raises {type(error).__name__}({', '.join(fields)})"


def answer(line, names):
    """What a line gives, as the document writes it; nothing for an import or an assignment."""
    try:
        code = compile(line, "example", "eval")
    except SyntaxError:
        code = compile(line, "example", "exec")
    try:
        found = eval(code, names)
        return None if found is None else repr(found)
    except LayerError as error:
        return told(error)


def examples():
    """The pairs of a line and what it gives."""
    found = []
    for row in EXAMPLES.strip().split("\n"):
        if row.startswith(">>> "):
            found.append((row[4:], None))
        else:
            found[-1] = (found[-1][0], row)
    return found


class ExamplesTest(unittest.TestCase):
    def test_all_in_order(self):
        names = {}
        for line, expected in examples():
            self.assertEqual(answer(line, names), expected, line)

    def test_there_are_as_many_as_in_the_document(self):
        self.assertEqual(len(examples()), 149)
