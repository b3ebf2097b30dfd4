"""Words of lines: what they tell if they have the form that they should have. None stands for: they have not."""

from fitruns.forms import is_name


def is_number(word):
    """Whether a word is a decimal number, perhaps with a minus, as it is shown."""
    digits = word[1:] if word.startswith("-") else word
    # Not isdigit: that also takes digits beyond 0 to 9.
    if not 1 <= len(digits) <= 18 or not all(["0" <= sign <= "9" for sign in digits]):
        return False
    return digits[0] != "0" or word == "0"


def split_at(words, sign):
    """A list of the lists of words between those that are this sign."""
    parts = [[]]
    for word in words:
        if word == sign:
            parts.append([])
        else:
            parts[-1].append(word)
    return parts


def fixed_told(words, sorts):
    """The tuple of what the words tell, one for each of these sorts, which are "name" or "number"."""
    if len(words) != len(sorts):
        return None
    pairs = list(zip(words, sorts))
    if not all([is_name(word) if sort == "name" else is_number(word) for word, sort in pairs]):
        return None
    return tuple([word if sort == "name" else int(word) for word, sort in pairs])


def kinds_told(words):
    """A tuple of one or more kinds, None for each word that is a dash."""
    if len(words) == 0 or not all([word == "-" or is_name(word) for word in words]):
        return None
    return tuple([None if word == "-" else word for word in words])


def counts_told(words):
    """A tuple of one or more counts, None for each word that is a dash."""
    if len(words) == 0 or not all([word == "-" or is_number(word) for word in words]):
        return None
    return tuple([None if word == "-" else int(word) for word in words])


def turn_told(words):
    """(length, setting) of LENGTH KIND .."""
    setting = kinds_told(words[1:])
    if setting is None or not is_number(words[0]):
        return None
    return (int(words[0]), setting)


def plan_told(words):
    """A plan of turns LENGTH KIND .. with a semicolon between."""
    turns = [turn_told(part) for part in split_at(words, ";")]
    return None if None in turns else tuple(turns)


def question_told(words):
    """A question of items SORT NAME WEIGHT with a comma between, or a dash alone."""
    if words == ["-"]:
        return ()
    items = []
    for part in split_at(words, ","):
        if len(part) != 3 or part[0] not in ("kind", "step") or not is_name(part[1]) or not is_number(part[2]):
            return None
        items.append((part[0], part[1], int(part[2])))
    return tuple(items)


def shown_with_dashes(parts):
    """The words for kinds, or for counts: a dash for each None."""
    return ["-" if part is None else f"{part}" for part in parts]
