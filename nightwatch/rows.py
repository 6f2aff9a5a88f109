"""Names, values, and the rows that stand in rows."""

KEY_WORDS = (
    "any", "ask", "begin", "but", "do", "end", "errand", "give", "group", "hear", "in", "keep", "last",
    "late", "let", "limit", "off", "raise", "repeat", "ring", "send", "take", "try", "wait", "when", "within",
)
MOST_LETTERS = 8
MOST_VALUE = 999999

# Where in a block's tuple its parts stand; what is no key here is no block.
PART_PLACES = {
    "group": (3,),
    "limit": (3, 4),
    "keep": (2,),
    "try": (2, 4),
    "do": (2, 3),
    "when": (4,),
    "repeat": (3,),
}


def is_letters(text):
    # The length first: a long text needs no look at each of its signs.
    if not 1 <= len(text) <= MOST_LETTERS:
        return False
    return all(["a" <= sign <= "z" for sign in text])


def is_name(thing):
    return isinstance(thing, str) and is_letters(thing) and thing not in KEY_WORDS


def is_told_word(text):
    return text.startswith(":") and is_letters(text[1:])


def is_value(thing):
    # Python counts True and False as whole numbers; the program does not.
    if isinstance(thing, bool):
        return False
    if isinstance(thing, int):
        return 0 <= thing <= MOST_VALUE
    return is_name(thing) or (isinstance(thing, str) and is_told_word(thing))


def is_block_word(word):
    return word in PART_PLACES


def parts(row):
    return tuple([row[place] for place in PART_PLACES.get(row[0], ())])


def walk(rows):
    listed = []
    for row in rows:
        listed.append(row)
        for part in parts(row):
            listed.extend(walk(part))
    return listed
