"""Images of the set of all reachable states, which of them are alike, and what they are tiled with.

An image here is the set to which a word leads from all reachable states, or a set of one reachable state. Two images
are alike if words lead from each to the other. The tiles of an image are the greatest images that are parts of it."""


def image_by(rows, states, letter):
    """The set to which the letter with this index leads from the states of a set."""
    return tuple(sorted(set([rows[state][letter] for state in states])))


def images_from(rows, states):
    """The list of the sets to which words lead from the states of a set, in the order of their first words."""
    found = {states: True}
    level = [states]
    while level:
        fresh = []
        for reached in level:
            for letter in range(len(rows[0])):
                target = image_by(rows, reached, letter)
                if target not in found:
                    found[target] = True
                    fresh.append(target)
        level = fresh
    return list(found)


def all_images(rows, states):
    """The list of all images, where these are the reachable states."""
    found = {reached: True for reached in images_from(rows, states)}
    for state in states:
        found[(state,)] = True
    return list(found)


def alike_images(rows, images):
    """The list of the lists of images that are alike, those of one state left out.

    From an image words lead only to images that are alike or come behind it."""
    reached = {}
    for states in images:
        reached[states] = sorted([target for target in images_from(rows, states) if len(target) == len(states)])
    # Where words lead from one image to another of its size, but not back, from that other they lead to fewer.
    order = sorted(images, key=lambda image: (len(image), len(reached[image])), reverse=True)
    groups = {}
    for states in order:
        if len(states) > 1:
            groups.setdefault(tuple(reached[states]), []).append(states)
    return list(groups.values())


def is_part(part, states):
    """Whether a set lies in another one and is not equal to it."""
    return len(part) < len(states) and all([state in states for state in part])


def tiles_of(images, states):
    """The ascending list of the tiles of an image."""
    parts = [part for part in images if is_part(part, states)]
    return sorted([part for part in parts if not any([is_part(part, other) for other in parts])])


def tiles_by_image(rows, images, alike):
    """For each of the images that are alike the list of its tiles.

    The words that lead from the first image to the others lead from its tiles to theirs, one by one."""
    base = alike[0]
    found = {base: tiles_of(images, base)}
    level = [base]
    while level:
        fresh = []
        for states in level:
            for letter in range(len(rows[0])):
                target = image_by(rows, states, letter)
                if target in alike and target not in found:
                    found[target] = [image_by(rows, tile, letter) for tile in found[states]]
                    fresh.append(target)
        level = fresh
    return found
