"""The examples of the document, as they stand there, one section behind the other."""

import doctest
import unittest

SECTION_4 = r"""
>>> from onlytell.books import Book
>>> Book('key a 2\ndeed put 1\n  set b 1')
Traceback (most recent call last):
onlytell.errors.Unnamed: 3
>>> Book('key a 2\ndeed put 1')
Traceback (most recent call last):
onlytell.errors.BadBook: 3
"""

SECTION_5 = r"""
>>> from onlytell.books import Book
>>> from onlytell.running import ran
>>> page = 'key a 2\nkey b 2\ndeed flip 1\n  add a 1\n  add b 1\ndeed look 1\n  if a = b\n    say 1'
>>> book = Book(page)
>>> ran(book, (0, 0), (('flip', 0), ('look', 0), ('flip', 0)))
(((('add', 'a', 1), ('add', 'b', 1)), (('say', 1),), (('add', 'a', 1), ('add', 'b', 1))), (0, 0))
"""

SECTION_6 = r"""
>>> from onlytell.showing import shown
>>> row = (('flip', 0), ('look', 0))
>>> [shown(book, (0, 0), (), row)[0][1], shown(book, (0, 0), (('a', 'row'),), row)[0][1]]
[(('say', 1),), ()]
>>> shown(book, (0, 0), (('a', 'row'), ('b', 'row')), row)
(((('add', 'a', 1), ('add', 'b', 1)), (('say', 1),)), (0, 0), (('a', 1), ('b', 1)))
"""

SECTION_7 = r"""
>>> from onlytell.machines import stepped
>>> stepped(book, ('show', (('a', 'row'),)), ((0, 0), ()), ('flip', 0))
((('add', 'a', 1), ('add', 'b', 1)), ((0, 0), (('a', 1),)))
"""

SECTION_8 = r"""
>>> from onlytell.beside import beside, is_true, parted
>>> [is_true(book, ()), is_true(book, (('a', 'row'),)), parted(book, (('a', 'row'),))]
[True, False, ()]
>>> [beside(book, ('run',), book, ('show', (('a', 'row'),)))[0], len(beside(book, ('run',), book, ('show', (('a', 'row'),)))[2])]
['parts', 2]
"""

SECTION_9 = r"""
>>> from onlytell.harm import harm
>>> sly = Book('key a 2\ndeed put 1 blind\n  set a 1\ndeed look 1\n  say a')
>>> [is_true(sly, ()), harm(sly, ()), is_true(sly.taught(('put',)), ())]
[True, ('harms', (0,), (('put', 0),)), False]
"""

SECTION_10 = r"""
>>> from onlytell.choosing import cheapest
>>> pair = Book('key a 2\nkey b 2\ndeed put 1\n  set a 1\n  if a = 1\n    set b 1\ndeed look 1\n  say b')
>>> told = cheapest(pair, ((('keep', 'a', 'deed'), 1), (('keep', 'b', 'row'), 1)))
>>> [told[:3], told[4][0][:2], told[4][1][:2], told[4][2][:2]]
[('choice', 2, (('keep', 'a', 'deed'), ('keep', 'b', 'row'))), ((), 'parts'), ((('keep', 'a', 'deed'),), 'parts'), ((('keep', 'b', 'row'),), 'parts')]
"""

SECTION_11 = r"""
>>> from onlytell.looks import first_unlike, looks
>>> [looks(book, ('run',), ((0, 1), ()), ('look', 0)), first_unlike(book, (('a', 'row'),), (0, 0), row)]
[((7, 'a', 0), (7, 'b', 1)), (1, 1, 7, 'b', 1, 0)]
"""

SECTION_12 = r"""
>>> from onlytell.stamps import reads, stamps
>>> [reads(pair, (0, 0), (('put', 0), ('look', 0))), reads(pair, (0, 0), (('look', 0),))]
[(), ('b',)]
>>> [stamps(pair, (0, 0), (('look', 0),), (3, 2))[:2], stamps(book, (0, 0), (('look', 0),), (1, 1))[:2]]
[(2, ('b',)), (2, ('a', 'b'))]
"""

SECTION_13 = r"""
>>> from onlytell.spoiling import bars, spoils
>>> spoils(book, (0, 0), (('look', 0),), (('flip', 0),))
('never', ((0, 0), (1, 1)))
>>> bars(pair, (0, 0), (('look', 0),), (('look', 0), ('put', 0)), (1, 2))
(2, (('put', 0),), ((0, 0),), (((), (('put', 0),)), ((('look', 0),), (('put', 0),))))
"""

SECTION_14 = r"""
>>> from onlytell.sequences import sequences
>>> [sequences(pair, (0, 0), ((('put', 0),), (('look', 0),))), sequences(pair, (0, 1), ((('put', 0),), (('look', 0),)))]
[('kept', (1, 0), 1), ('kept', (0, 1), 2)]
"""

SECTION_15 = r"""
>>> from onlytell.apart import apart, classes
>>> [classes(book, ('run',)), apart(book, ('run',), (0, 0), (0, 1)), classes(pair, ('run',)), len(classes(pair, ('show', ())))]
[(((0, 0), (1, 1)), ((0, 1), (1, 0))), ('row', (('look', 0),)), (((0, 0), (1, 0)), ((0, 1), (1, 1))), 4]
"""

SECTION_16 = r"""
>>> from onlytell.wishes import agree, leads
>>> [leads(book, ('run',), (0, 0), (('a', 1),), (2, 1))[:3], leads(book, ('run',), (0, 0), (('a', 1), ('b', 0)), (2, 1))[0]]
[('row', 2, (('flip', 0),)), 'never']
>>> [agree(book, (), ('a',))[0], agree(book, (('a', 'row'),), ('a',))[0]]
['parts', 'agree']
"""

SECTION_17 = r"""
>>> from onlytell.hands import checks, in_turn
>>> both = Book('key a 2\nkey b 2\ndeed one 1\n  if a = 0\n    set b 1\ndeed two 1\n  if b = 0\n    set a 1')
>>> rows = ((('one', 0),), (('two', 0),))
>>> [in_turn(both, ((rows[0], ()), (rows[1], ())))[:2], checks(both, rows, (((0, 'a'), 1), ((1, 'b'), 1)))[:3]]
[('mixed', (0, 0)), ('choice', 2, ((0, 'a'), (1, 'b')))]
"""

SECTION_18 = r"""
>>> from onlytell.tellings import Telling
>>> told = Telling(pair, ran(pair, (0, 0), (('put', 0),))[0][0])
>>> [len(told), told[1], told.back((0, 1)).effects]
[2, ('set', 'b', 1), (('set', 'a', 0),)]
"""

SECTION_19 = r"""
>>> from onlytell.shop import Shop
>>> shop = Shop(pair, (0, 0), memory=(('a', 'deed'), ('b', 'row')))
>>> preview = shop.preview((('put', 0),))
>>> [preview.looked, shop.make(preview), shop.worths, shop.done]
[(), 1, (1, 1), (('put', 0),)]
>>> shop.switch(True)
>>> telling = shop.do('put')
>>> [len(telling), shop.left, shop.worths, shop.is_showing]
[2, (('b', 1),), (1, 1), True]
"""

SECTION_20 = r"""
>>> from onlytell.desk import Desk
>>> desk = Desk(pair.text, (0, 0))
>>> [desk.say('do put 0'), desk.say('worths'), desk.say('reads look 0'), desk.say('true a b'), desk.say('true a'), desk.say('harm')]
['set a 1; set b 1', '1 1', 'b', 'yes', 'no', 'no']
"""

SECTIONS = (
    SECTION_4, SECTION_5, SECTION_6, SECTION_7, SECTION_8, SECTION_9, SECTION_10, SECTION_11, SECTION_12, SECTION_13,
    SECTION_14, SECTION_15, SECTION_16, SECTION_17, SECTION_18, SECTION_19, SECTION_20,
)


class Examples(unittest.TestCase):
    def test_each_example(self):
        text = "\n".join(SECTIONS)
        examples = doctest.DocTestParser().get_doctest(text, {}, "DOC.md", None, 0)
        output = []
        results = doctest.DocTestRunner(verbose=False).run(examples, out=output.append)
        self.assertEqual("".join(output), "")
        self.assertEqual((results.failed, results.attempted), (0, text.count(">>>")))


if __name__ == "__main__":
    unittest.main()
