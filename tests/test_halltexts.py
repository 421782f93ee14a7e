"""Points 120 and 121: halls as texts."""

import random

from objections.debates import Debate
from objections.errors import BadText, DebateError
from objections.halls import Hall
from objections.halltexts import read_hall, write_hall
from tests.hallwords import EXAMPLE, Model, drawn_deed
from tests.helper import Case, any_objects

TEXT = "say x a\nsay y b\nsay z c\nobject b a\nwatch label a\nhold won y\n"
LONG = """say x a
say x c
say y b
object a b
object a c
object b a
watch stands greatest a some
hold lots whole
watch label b
watch rank a
hold sure c
watch won nobody
hold alike a,b - whole
watch alike a b,c settled
"""


def hall_by(*deeds):
    hall = Hall()
    for deed in deeds:
        hall.do(deed)
    return hall


def drawn_halls():
    """Pairs of a hall and the model that went along with it."""
    found = [(Hall(), Model())]
    for seed in range(40):
        draw = random.Random(1000 + seed)
        hall, model = Hall(), Model()
        names = ["a", "b", "c", "d2"][:2 + seed % 3]
        for _ in range(40):
            deed = drawn_deed(draw, model, names)
            kind, _, behind = model.told(deed)
            if kind is None and len(behind.asked) <= 5:
                hall.do(deed)
                model = behind
        found.append((hall, model))
    return found


def deed_of(line, owners):
    """The deed that a line tells, whatever it is."""
    parts = line.split(" ")
    if parts[0] == "object":
        return ["object", owners.get(parts[1]) if len(parts) > 1 else None] + parts[1:]
    if parts[0] in ("watch", "hold"):
        if parts[1:2] == ["alike"]:
            parts[2:4] = [[] if part == "-" else part.split(",") for part in parts[2:4]]
        return [parts[0], parts[1:]]
    return parts


def is_text(text):
    """Whether a text is one of a hall: done line by line it makes one that is written so."""
    hall, owners = Hall(), {}
    for line in text.split("\n")[:-1]:
        deed = deed_of(line, owners)
        try:
            hall.do(deed)
        except DebateError:
            return False
        if deed[0] == "say":
            owners[deed[2]] = deed[1]
    return write_hall(hall) == text


def first_bad(text):
    """The first line up to which no text of a hall begins so; None if the text is one."""
    lines = text.split("\n")
    for number in range(1, len(lines)):
        # What lines of a text of a hall begin it are one, too: there are fewer objections, or questions.
        if not is_text("".join(line + "\n" for line in lines[:number])):
            return number
    return len(lines) if lines[-1] else None


def changed_texts(text, draw):
    """Texts with a line less, more, twice, turned, a sign, a blank, a line feed less or more."""
    lines = text.split("\n")[:-1]
    found = [text[:-1], text + "\n", "\n" + text, text + " ", " " + text, text.replace("\n", "\r\n", 1)]
    for at in range(len(lines)):
        rows = [lines[:at] + lines[at + 1:], lines[:at] + [lines[at]] + lines[at:], lines[:at] + [""] + lines[at:]]
        rows += [lines[:at] + lines[at:][::-1], lines + [lines[at]], [lines[at]] + lines]
        rows += [lines[:at] + [lines[at].rsplit(" ", 1)[0]] + lines[at + 1:], lines[at:] + lines[:at]]
        found += ["".join(line + "\n" for line in row) for row in rows]
    for _ in range(12):
        at = draw.randrange(len(text))
        found += [text[:at] + text[at + 1:], text[:at] + draw.choice("ab ,-\nA9") + text[at:]]
        found += [text[:at] + draw.choice("ab ,-\nz0") + text[at + 1:], text[:at] + " " + text[at:], text[:at]]
    return found


class TestTexts(Case):
    def check(self, text):
        """Whether a text is read, or refused, as it has to be."""
        line = first_bad(text)
        if line is None:
            hall = read_hall(text)
            self.assertEqual(write_hall(hall), text)
            self.assertEqual((hall.count(), hall.deeds(), hall.undo(), hall.again()), (0, [], None, None))
        else:
            self.refuses(BadText, {"line": line}, read_hall, text)
        return line

    def test_example(self):
        hall = hall_by(*EXAMPLE)
        self.assertEqual(write_hall(hall), TEXT)
        told = read_hall(TEXT)
        self.assertEqual(told, hall)
        self.assertEqual((told.count(), told.undo(), told.again(), told.deeds()), (0, None, None, []))
        self.assertEqual(told.watched(), [(("label", "a"), "out", False), (("won", "y"), 1, True)])
        self.assertEqual(told.helps("z", "a"), [])
        told.do(("free", ("won", "y")))
        self.assertEqual((told.count(), told.at(0) == hall, told.undo()), (1, True, ("free", ("won", "y"))))

    def test_all_kinds_of_questions(self):
        hall = read_hall(text=LONG)
        self.assertEqual(write_hall(hall=hall), LONG)
        self.assertEqual(hall.now(), Debate(["a", "b", "c"], [("a", "b"), ("a", "c"), ("b", "a")]))
        self.assertEqual(hall.speakers(), {"x": ["a", "c"], "y": ["b"]})
        self.assertEqual([(question, held) for question, _, held in hall.watched()], [
            (("stands", "greatest", "a", "some"), False), (("lots", "whole"), True), (("label", "b"), False),
            (("rank", "a"), False), (("sure", "c"), True), (("won", "nobody"), False),
            (("alike", ("a", "b"), (), "whole"), True), (("alike", ("a",), ("b", "c"), "settled"), False),
        ])

    def test_nothing(self):
        self.assertEqual(write_hall(Hall()), "")
        self.assertEqual(read_hall(""), Hall())
        self.assertEqual(write_hall(read_hall("watch lots calm\nhold alike - - least\nwatch won x\n")),
                         "watch lots calm\nhold alike - - least\nwatch won x\n")

    def test_what_is_written_is_read(self):
        for hall, model in drawn_halls():
            text = write_hall(hall)
            self.assertEqual(text, model.text())
            self.assertTrue(is_text(text))
            told = read_hall(text)
            self.assertEqual(told, hall)
            self.assertEqual(told.watched(), hall.watched())
            self.assertEqual(told.speakers(), hall.speakers())
            self.assertEqual(self.check(text), None)

    def test_changed_texts(self):
        draw = random.Random(1001)
        refused = 0
        for text in [TEXT, LONG] + [write_hall(hall) for hall, _ in drawn_halls()[1::2]]:
            for changed in changed_texts(text, draw):
                refused += self.check(changed) is not None
        self.assertGreater(refused, 1000)

    def test_each_line(self):
        for begun, bad in [
            ("", [
                "say x", "say x a b", "say X a", "say x A", "say  x a", "say x a ", " say x a", "say x a,b", "Say x a",
                "", " ", "object a b", "watch label a", "take x a", "say x -", "say x " + "a" * 13, "say", "x a", "\r",
                "say x a\r", "say\tx a", "watch won", "watch won X", "hold lots tops", "watch alike - -", "watch",
                "watch alike  - least", "hold alike - - held", "free won x", "watch watch won x", "watch won x y",
            ]),
            ("say x b\n", [
                "say x a", "say x b", "say w c", "say y b", "object b a", "object a b", "object b", "watch label a",
                "hold alike b", "hold alike a - whole", "hold alike b,b - whole", "hold alike b, - whole",
                "hold alike ,b - whole", "hold alike , - whole", "hold alike -,b - whole", "watch rank -",
            ]),
            ("say x a\nsay x b\nobject a b\n", [
                "say x c", "say y c", "object a b", "object a a", "object b", "object b c", "object b a a",
                "hold alike b,a - whole", "watch stands whole a", "watch stands whole some a",
                "watch stands whole a some all",
            ]),
            ("say x a\nwatch label a\n", ["watch label a", "hold label a", "say y b", "object a a", "watch Label a"]),
        ]:
            self.assertEqual(self.check(begun), None)
            for line in bad:
                number = begun.count("\n") + 1
                self.assertEqual(self.check(begun + line + "\n"), number, (begun, line))
                self.assertEqual(self.check(begun + line + "\nsay x c\n"), number)

    def test_line_feeds(self):
        self.refuses(BadText, {"line": 1}, read_hall, "say x a")
        self.refuses(BadText, {"line": 1}, read_hall, "say")
        self.refuses(BadText, {"line": 1}, read_hall, "\n")
        self.refuses(BadText, {"line": 2}, read_hall, "say x a\nsay x b")
        self.refuses(BadText, {"line": 2}, read_hall, "say x a\n\n")
        self.refuses(BadText, {"line": 1}, read_hall, "say x A\nsay x b")
        self.refuses(BadText, {"line": 2}, read_hall, "say x a\nsay x a\nsay x b")
        self.refuses(BadText, {"line": 6}, read_hall, TEXT[:-1])

    def test_who_is_said_twice(self):
        self.assertEqual(self.check("say x a\nsay x b\nsay y a\nsay z d\nobject a b\n"), 3)
        self.assertEqual(self.check("say x a\nsay x b\nsay y c\nsay z b\nsay z d\nwatch label a\n"), 4)

    def test_no_string(self):
        for thing in any_objects() + [TEXT.encode(), list(TEXT), TEXT.split("\n")]:
            if not isinstance(thing, (str, bytes)):
                self.refuses(BadText, {"line": 0}, read_hall, thing)

    def test_at_the_limit(self):
        names = [f"statement{at:03d}" for at in range(10)]
        text = "".join(f"say speaker00000 {name}\n" for name in names)
        text += "".join(f"object {one} {other}\n" for one in names[:4] for other in names)
        text += "".join(f"hold alike {','.join(names[:5 + at])} {','.join(names[:5 + at])} whole\n" for at in range(5))
        self.assertEqual(len(text.split("\n")), 56)
        hall = read_hall(text)
        self.assertEqual(write_hall(hall), text)
        self.assertEqual({answer for _, answer, _ in hall.watched()}, {True})
        for bad in ("\n" * 8000, "a" * 8000, "say x a\n" * 1000, "say " * 2000, "watch won x\n" * 600, ",\n" * 4000):
            self.refuses(BadText, {"line": first_bad(bad[:40])}, read_hall, bad)

    def test_a_hall_is_not_changed(self):
        hall = hall_by(*EXAMPLE)
        hall.undo()
        write_hall(hall)
        self.assertEqual((hall.count(), hall.again()), (5, EXAMPLE[5]))
        one, other = read_hall(TEXT), read_hall(TEXT)
        one.do(("say", "x", "d"))
        self.assertEqual(len(other.now()), 3)
