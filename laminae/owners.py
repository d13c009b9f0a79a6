"""Owners and quotas: who the inodes belong to, what they are charged, and what limits there are."""

from laminae.errors import BadImage, Busy, LoopFound, Missing, NotEmpty, NotValid, OverQuota, TooMany
from laminae.volumes import count_charges, find_volume, list_volumes, put_table_item, table_items, take_table_item
from laminae.words import is_word

OWNER_KEY = 5
MAX_OWNERS = 8
GREATEST_OWNER = 255
GREATEST_LIMIT = 100000


def is_owner(owner):
    """Tell whether a value is an owner, 0 or another one."""
    return is_word(owner) and owner <= GREATEST_OWNER


def is_limit(limit):
    """Tell whether a value can limit a charge or a number of inodes."""
    return limit is None or is_word(limit) and limit <= GREATEST_LIMIT


def limit_word(limit):
    """Return the word of a limit in the table."""
    return 0 if limit is None else limit + 1


def read_limit(word):
    """Return the limit with this word in the table."""
    return None if word == 0 else word - 1


def registered_owners(store):
    """Return each registered owner with its parent and its limits in ascending order."""
    rows = []
    for owner, (parent, charge_word, inode_word, _) in table_items(store, OWNER_KEY):
        rows.append((owner, parent, read_limit(charge_word), read_limit(inode_word)))
    return rows


def passes(used, more, limit):
    """Tell whether a change makes more of what is used, and leaves it above the limit."""
    return limit is not None and more > 0 and used + more > limit


def summed(charges, others, sign):
    """Return charges with others added to them (sign 1) or removed from them (sign -1)."""
    result = dict(charges)
    for owner, (charge, inodes) in others.items():
        own_charge, own_inodes = result.get(owner, (0, 0))
        result[owner] = (own_charge + sign * charge, own_inodes + sign * inodes)
    return result


class Accounts:
    """The registered owners with their parents and limits, and what belongs to each owner itself."""

    def __init__(self, store):
        """Read the owners, and count what they are charged."""
        self._owners = {}
        for owner, *row in registered_owners(store):
            self._owners[owner] = tuple(row)
        self._charges = {}
        for name, writable, _ in list_volumes(store):
            if writable:
                root, _, _ = find_volume(store, name)
                self._charges = summed(self._charges, count_charges(store, root), 1)

    def list_owners(self):
        """Return each owner with its parent and its limits, owner 0 included, in ascending order."""
        return [(0, None, None, None)] + [(owner, *self._owners[owner]) for owner in sorted(self._owners)]

    def is_registered(self, owner):
        """Tell whether an owner is registered."""
        return owner == 0 or owner in self._owners

    def chain(self, owner):
        """Return the owner, its parent, and so on up to 0."""
        found = [owner]
        while found[-1] != 0:
            # An owner that is not registered is below owner 0, as if that were its parent.
            parent, _, _ = self._owners.get(found[-1], (0, None, None))
            # On a disk that nobody has checked the parents may lead back to the owner.
            if parent in found:
                raise BadImage()
            found.append(parent)
        return found

    def usage(self, owner):
        """Return what is charged to an owner, and how many inodes."""
        return self._below(owner, self._charges)

    def put_owner(self, store, owner, parent, charge_limit, inode_limit):
        """Register an owner, or give it another parent and other limits."""
        self._check_number(owner)
        if not is_owner(parent) or not is_limit(charge_limit) or not is_limit(inode_limit):
            raise NotValid()
        if not self.is_registered(parent):
            raise Missing()
        if owner in self.chain(parent):
            raise LoopFound()
        if owner not in self._owners and len(self._owners) >= MAX_OWNERS:
            raise TooMany()
        put_table_item(store, OWNER_KEY, owner, (parent, limit_word(charge_limit), limit_word(inode_limit), 0))
        self._owners[owner] = (parent, charge_limit, inode_limit)

    def drop_owner(self, store, owner):
        """Remove a registered owner."""
        self._check_number(owner)
        if owner not in self._owners:
            raise Missing()
        if owner in [parent for parent, _, _ in self._owners.values()]:
            raise NotEmpty()
        _, inodes = self._charges.get(owner, (0, 0))
        if inodes > 0:
            raise Busy()
        take_table_item(store, OWNER_KEY, owner)
        del self._owners[owner]

    def check_charge(self, owner, charge, inodes):
        """Refuse to add what would pass a limit."""
        self.check_change({}, {owner: (charge, inodes)})

    def add_charge(self, owner, charge, inodes):
        """Add to what belongs to an owner itself."""
        self.apply_change({}, {owner: (charge, inodes)})

    def check_change(self, removed, added):
        """Refuse to remove and to add charges if that would pass a limit."""
        change = summed(added, removed, -1)
        for owner, (_, charge_limit, inode_limit) in self._owners.items():
            charge, inodes = self.usage(owner)
            more_charge, more_inodes = self._below(owner, change)
            if passes(charge, more_charge, charge_limit) or passes(inodes, more_inodes, inode_limit):
                raise OverQuota()

    def apply_change(self, removed, added):
        """Remove and add charges."""
        self._charges = summed(summed(self._charges, removed, -1), added, 1)

    def _below(self, owner, charges):
        """Return the sum of the charges of all owners whose chain contains this one."""
        found = [charges[other] for other in charges if owner in self.chain(other)]
        return (sum(charge for charge, _ in found), sum(inodes for _, inodes in found))

    def _check_number(self, owner):
        """Refuse what cannot be the number of a registered owner."""
        if not is_owner(owner) or owner == 0:
            raise NotValid()
