"""Ringkiln: a brick works whose fire goes round a ring of chambers."""
