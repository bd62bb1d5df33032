"""Tierstore: keys kept in tiers, that come up again from any stop."""
